/- What is seen: as it lies in memory, and as it comes in. -/
import Derived.Test.YtppapmacngdefaaDoorProBase
import Derived.Test.YtppapmacngdefaaDoorWtBase
import Derived.Test.YtppapmacngdefaaDoorRcBase
set_option linter.unusedVariables false
set_option maxRecDepth 100000
namespace Go.Proofs.YtppapmacngdefaaDoor
open Go.ChangeShapes Go.WideShapes Go.ChangeAt Go.RowKit Go.Deep
/-- What a queue has left. -/
structure Lu where
  g : Int
  c : Int
def luC (x : Lu) : List Value := [.int .i64 x.g, .int .i64 x.c]
theorem luC_len (x : Lu) : (luC x).length = 2 := rfl
theorem luC_one (x : Lu) : ∀ v ∈ luC x, v.oneCell' = true := by simp [luC, Value.oneCell']
structure LuW (x : Lu) : Prop where
  g : (Lit.int .i64 x.g).wf = true
  c : (Lit.int .i64 x.c).wf = true
abbrev Lus (w : World) (B : Nat) (A : Option Addr) (l : List Lu) : Prop := Els luC 2 w B A l
theorem run_load_lu {oi : Oper} {ρ : Operand → Value} {W : World} {y : Operand} {g o : Nat} {x : Lu} (ho : oi.op = .load 40 y) (hy : ρ y = .pointer (some ⟨g, o, none⟩)) (h : CellsAt W g o (luC x)) :
    (execOp ρ oi).run Tryd.prog W = .ok (.value (.agg #[.int .i64 x.g, .int .i64 x.c])) W := by
  have hl : (loadCells ⟨g, o, none⟩ 2).run Tryd.prog W = .ok #[.int .i64 x.g, .int .i64 x.c] W := run_loadCells_list (P := Tryd.prog) W ⟨g, o, none⟩ (luC x) fun j v hv => by rw [Addr.add_lit]; exact h j v hv
  have ha : (isAgg 40).run Tryd.prog W = .ok true W := by
    unfold isAgg
    rw [Sem.run_bind, run_underlying Tryd.underlying40 W]
    simp
  unfold execOp
  simp only [ho, hy, Instr.loadAt, Instr.sureAddr, Sem.run_bind, Sem.run_pure, Result.andThen_ok, loadVar, ha, if_true, Tryd.sizeOf40, hl]
/-- What a queue has left is loaded. -/
theorem wpList_load_lu {ops : Array Oper} {rest : List Oper} {o : Oper} {a : Act} {w : World} {Q : Exit → Act → World → Prop} (hgd : o.guard = none) (y : Operand) (ho : o.op = .load 40 y)
    (g off : Nat) (x : Lu) (hy : a.eval y = .pointer (some ⟨g, off, none⟩)) (hx : CellsAt w g off (luC x)) (h : wpList Tryd.prog ops Q rest (a.put o.dst (.agg #[.int .i64 x.g, .int .i64 x.c])) w) : wpList Tryd.prog ops Q (o :: rest) a w := by
  refine wpList_plain hgd fun K hK => ?_
  unfold Oper.wp
  rw [run_load_lu ho hy hx]
  exact hK _ _ h
/-- What is seen: numbers, and slices with what they hold. -/
structure Lk where
  now : Int
  hd : Int
  pr : Int
  to : Int
  A1 : Option Addr
  c1 : Nat
  lv : List Fe
  A2 : Option Addr
  c2 : Nat
  lf : List Lu
  A3 : Option Addr
  c3 : Nat
  le : List Ho
  A4 : Option Addr
  c4 : Nat
  lw : List Wt
  A5 : Option Addr
  c5 : Nat
  lr : List Rc
def lkC (L : Lk) : List Value := [.int .i64 L.now, .int .i64 L.hd, .int .i64 L.pr, .int .i64 L.to, .slice L.A1 L.lv.length L.c1, .slice L.A2 L.lf.length L.c2, .slice L.A3 L.le.length L.c3, .slice L.A4 L.lw.length L.c4, .slice L.A5 L.lr.length L.c5]
def lkA (L : Lk) : Array Value := #[.int .i64 L.now, .int .i64 L.hd, .int .i64 L.pr, .int .i64 L.to, .slice L.A1 L.lv.length L.c1, .slice L.A2 L.lf.length L.c2, .slice L.A3 L.le.length L.c3, .slice L.A4 L.lw.length L.c4, .slice L.A5 L.lr.length L.c5]
def lkV (L : Lk) : Value := .agg (lkA L)
/-- What it points to lies below a block. -/
structure LkIn (w : World) (B : Nat) (L : Lk) : Prop where
  v : Fes w B L.A1 L.lv
  f : Lus w B L.A2 L.lf
  e : HosIn w B L.A3 L.le
  t : Els wtC 10 w B L.A4 L.lw
  r : Els rcC 16 w B L.A5 L.lr
theorem LkIn.keep {w w' : World} {B B' : Nat} {L : Lk} (h : LkIn w B L) (hk : Below B w w') (hB : B ≤ B') : LkIn w' B' L :=
  ⟨h.v.keep hk hB, Els.keep h.f hk hB, h.e.keep hk hB, Els.keep h.t hk hB, Els.keep h.r hk hB⟩
/-- It came in. -/
structure LkW (L : Lk) : Prop where
  now : (Lit.int .i64 L.now).wf = true
  hd : (Lit.int .i64 L.hd).wf = true
  pr : (Lit.int .i64 L.pr).wf = true
  to : (Lit.int .i64 L.to).wf = true
  v : ∀ f ∈ L.lv, FeOk f
  l1 : L.lv.length ≤ L.c1
  m1 : L.c1 ≤ maxLen
  f : ∀ x ∈ L.lf, LuW x
  l2 : L.lf.length ≤ L.c2
  m2 : L.c2 ≤ maxLen
  e : ∀ x ∈ L.le, HoOk x
  l3 : L.le.length ≤ L.c3
  m3 : L.c3 ≤ maxLen
  t : ∀ x ∈ L.lw, WtW x
  l4 : L.lw.length ≤ L.c4
  m4 : L.c4 ≤ maxLen
  l5 : L.lr.length ≤ L.c5
  m5 : L.c5 ≤ maxLen
def recSh : Sh := .struct (.cons jobShG (.cons (.int .i64) (.cons (.int .i64) (.cons (.int .i64) (.cons (.int .i64) (.cons (.int .i64) (.cons (.int .i64) (.cons (.int .i64) (.cons (.int .i64) .nil)))))))))
theorem rec_lift {w : World} {B : Nat} {cs : List Value} (hl : cs.length = 16) (h : recSh.Holds w B cs) : ∃ x : Rc, cs = rcC x := by
  match cs, hl with
  | [a, b, c, d, e, f, g, i, j, k, l, m, n, o, p, q], _ =>
    simp [recSh, jobShG, shpShG, Sh.Holds, Sh.size] at h
    obtain ⟨⟨⟨x0, rfl, h0⟩, ⟨x1, rfl, h1⟩, ⟨x2, rfl, h2⟩, ⟨x3, rfl, h3⟩, ⟨x4, rfl, h4⟩, ⟨x5, rfl, h5⟩, ⟨x6, rfl, h6⟩, ⟨x7, rfl, h7⟩⟩, ⟨x8, rfl, h8⟩, ⟨x9, rfl, h9⟩, ⟨x10, rfl, h10⟩, ⟨x11, rfl, h11⟩, ⟨x12, rfl, h12⟩, ⟨x13, rfl, h13⟩, ⟨x14, rfl, h14⟩, ⟨x15, rfl, h15⟩⟩ := h
    exact ⟨⟨x0, x1, x2, x3, x4, x5, x6, x7, x8, x9, x10, x11, x12, x13, x14, x15⟩, rfl⟩
def lkSh : Sh := .struct (.cons (.int .i64) (.cons (.int .i64) (.cons (.int .i64) (.cons (.int .i64) (.cons (.slice feSh) (.cons (.slice unSh2) (.cons (.slice hoSh) (.cons (.slice wtSh) (.cons (.slice recSh) .nil)))))))))
theorem lk_lift {w : World} {B : Nat} {cs : List Value} (hl : cs.length = 9) (h : lkSh.Holds w B cs) : ∃ L : Lk, cs = lkC L ∧ LkIn w B L ∧ LkW L := by
  match cs, hl with
  | [a, b, c, d, e, f, g, i, j], _ =>
    simp only [lkSh, Sh.Holds, Sh.size, List.take_succ_cons, List.take_zero, List.drop_succ_cons, List.drop_zero, List.cons.injEq, and_true] at h
    obtain ⟨⟨x0, rfl, h0⟩, ⟨x1, rfl, h1⟩, ⟨x2, rfl, h2⟩, ⟨x3, rfl, h3⟩, k1, k2, k3, k4, k5⟩ := h
    obtain ⟨A1, c1, lv, rfl, a1, a2, a3, a4⟩ := fes_lift (show (Sh.slice feSh).Holds w B [e] from by obtain ⟨A0, n0, c0, e0, hr⟩ := k1; exact ⟨A0, n0, c0, by rw [e0], hr⟩)
    obtain ⟨A2, c2, lf, e2, b1, b2, b3, b4⟩ := rows_of (v := f) (e := unSh2) (p := fun b o (x : Lu) => CellsAt w b o (luC x)) (q := LuW) (show (Sh.slice unSh2).Holds w B [f] from by obtain ⟨A0, n0, c0, e0, hr⟩ := k2; exact ⟨A0, n0, c0, by rw [e0], hr⟩) fun b o cs _ hl hat hh => by
      have hl2 : cs.length = 2 := by rw [hl]; rfl
      match cs, hl2 with
      | [a, b], _ =>
        simp [unSh2, Sh.Holds, Sh.size] at hh
        obtain ⟨⟨x0, rfl, h0⟩, ⟨x1, rfl, h1⟩⟩ := hh
        exact ⟨⟨x0, x1⟩, hat, ⟨h0, h1⟩⟩
    obtain ⟨A3, c3, le, e3, d1, d2, d3, d4⟩ := rows_of (v := g) (e := hoSh) (p := fun b o (x : Ho) => CellsAt w b o (hoC x)) (q := fun x : Ho => Fes w B x.A x.sl ∧ HoOk x) (show (Sh.slice hoSh).Holds w B [g] from by obtain ⟨A0, n0, c0, e0, hr⟩ := k3; exact ⟨A0, n0, c0, by rw [e0], hr⟩) fun b o cs _ hl hat hh => by
      obtain ⟨u, e, hu⟩ := ho_lift hl hh
      subst e
      exact ⟨u, hat, hu⟩
    obtain ⟨A4, c4, lw, e4, f1, f2, f3, f4⟩ := rows_of (v := i) (e := wtSh) (p := fun b o (x : Wt) => CellsAt w b o (wtC x)) (q := WtW) (show (Sh.slice wtSh).Holds w B [i] from by obtain ⟨A0, n0, c0, e0, hr⟩ := k4; exact ⟨A0, n0, c0, by rw [e0], hr⟩) fun b o cs _ hl hat hh => by
      obtain ⟨u, e, hu⟩ := wt_lift hl hh
      subst e
      exact ⟨u, hat, hu⟩
    obtain ⟨A5, c5, lr, e5, g1, g2, g3, g4⟩ := rows_of (v := j) (e := recSh) (p := fun b o (x : Rc) => CellsAt w b o (rcC x)) (q := fun _ => True) (show (Sh.slice recSh).Holds w B [j] from by obtain ⟨A0, n0, c0, e0, hr⟩ := k5; exact ⟨A0, n0, c0, by rw [e0], hr⟩) fun b o cs _ hl hat hh => by
      obtain ⟨u, e⟩ := rec_lift hl hh
      subst e
      exact ⟨u, hat, trivial⟩
    subst e2 e3 e4 e5
    exact ⟨⟨x0, x1, x2, x3, A1, c1, lv, A2, c2, lf, A3, c3, le, A4, c4, lw, A5, c5, lr⟩, rfl, ⟨a3, b3, ⟨d3, fun x hx => (d4 x hx).1⟩, f3, g3⟩, ⟨h0, h1, h2, h3, a4, a1, a2, b4, b1, b2, fun x hx => (d4 x hx).2, d1, d2, f4, f1, f2, g1, g2⟩⟩
section
variable {H : Type} {enc : TypeId × Value → H} {w : World} {held : Bool} {r : Reach} {b0 : Nat} {v : Value} {d : DataW H} {p : List MemPlace}
theorem lk_of (hv : Value.okWide Tryd.prog w r b0 28 v) (h : DataW.Trod enc Tryd.prog w 0 (fun _ => true) held 28 v d p) : ∃ L : Lk, v = lkV L ∧ LkIn w w.heap.size L ∧ LkW L := by
  obtain ⟨cs, rfl, hl, hh⟩ := arg_struct (sh := lkSh) Tryd.underlying28 (by kernel_rfl) hv h
  obtain ⟨L, rfl, h1, h2⟩ := lk_lift (by rw [hl]; kernel_rfl) hh
  exact ⟨L, rfl, h1, h2⟩
end
/-- The head's want: none, or one. -/
def headL (L : Lk) : Option Wa :=
  if L.hd = 0 then none else match L.lw.find? (fun x => x.id == L.hd) with
    | none => none
    | some x => some ⟨x.q, x.mn, ⟨x.g, x.c, x.mn, x.mx⟩⟩
/-- What a queue has left, if there is such a one. -/
def leftL (L : Lk) (q : Int) : Option Lu := if 0 ≤ q then L.lf[q.toNat]? else none
end Go.Proofs.YtppapmacngdefaaDoor
