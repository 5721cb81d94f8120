import Derived.Test.YtkkkhonjcbhelaaGreatDoorPackMem
set_option linter.unusedVariables false
set_option maxRecDepth 100000
namespace Go.Proofs.YtkkkhonjcbhelaaGreatDoor
open Go.ChangeShapes Go.WideShapes Go.ChangeAt Go.RowKit Go.Deep
structure Ho where
 id : Int
 q : Int
 u : Int
 r : Bool
 A : Option Addr
 c : Nat
 sl : List Fe
def hoA (x : Ho) : Array Value := #[.int .i64 x.id, .int .i64 x.q, .int .i64 x.u, .bool x.r, .slice x.A x.sl.length x.c]
def hoC (x : Ho) : List Value := [.int .i64 x.id, .int .i64 x.q, .int .i64 x.u, .bool x.r, .slice x.A x.sl.length x.c]
def hoV (x : Ho) : Value := .agg (hoA x)
theorem hoC_len (x : Ho) : (hoC x).length = 5 := rfl
theorem hoC_one (x : Ho) : ∀ v ∈ hoC x, v.oneCell' = true := by simp [hoC, Value.oneCell']
structure HoOk (x : Ho) : Prop where
 q : (Lit.int .i64 x.q).wf = true
 u : (Lit.int .i64 x.u).wf = true
 l : x.sl.length ≤ x.c
 m : x.c ≤ maxLen
 ok : ∀ s ∈ x.sl, FeOk s
abbrev hoO (x : Ho) : Obj := .cells (hoA x) 53
abbrev HoAt (w : World) (g o : Nat) (x : Ho) : Prop := CellsAt w g o (hoC x)
theorem run_load_ho {oi : Oper} {ρ : Operand → Value} {W : World} {y : Operand} {g o : Nat} {x : Ho} (ho : oi.op = .load 53 y) (hy : ρ y = .pointer (some ⟨g, o, none⟩)) (h : HoAt W g o x) :
  (execOp ρ oi).run Tryz.prog W = .ok (.value (.agg (hoA x))) W := by
 have hl : (loadCells ⟨g, o, none⟩ 5).run Tryz.prog W = .ok (hoA x) W := run_loadCells_list (P := Tryz.prog) W ⟨g, o, none⟩ (hoC x) fun j v hv => by rw [Addr.add_lit]; exact h j v hv
 have ha : (isAgg 53).run Tryz.prog W = .ok true W := by
  unfold isAgg;rw [Sem.run_bind, run_underlying Tryz.underlying53 W]
  simp
 unfold execOp;simp only [ho, hy, Instr.loadAt, Instr.sureAddr, Sem.run_bind, Sem.run_pure, Result.andThen_ok, loadVar, ha, if_true, Tryz.sizeOf53, hl]
abbrev Hos (w : World) (B : Nat) (A : Option Addr) (l : List Ho) : Prop := Els hoC 5 w B A l
structure HosIn (w : World) (B : Nat) (A : Option Addr) (l : List Ho) : Prop where
 at_ : Hos w B A l
 sl : ∀ x ∈ l, Fes w B x.A x.sl
theorem HosIn.keep {w w' : World} {B B' : Nat} {A : Option Addr} {l : List Ho} (h : HosIn w B A l) (hk : Below B w w') (hB : B ≤ B') : HosIn w' B' A l :=
 ⟨Els.keep h.at_ hk hB, fun x hx => (h.sl x hx).keep hk hB⟩
theorem fe_at {w : World} {b o : Nat} {f : Fe} (h : FeAt w b o f) : CellsAt w b o (feC f) := fun r v hr => by
 obtain ⟨h0, h1, h2, h3⟩ := h
 match r, hr with
 | 0, hr => simp [feC] at hr; subst hr; simpa using h0
 | 1, hr => simp [feC] at hr; subst hr; exact h1
 | 2, hr => simp [feC] at hr; subst hr; exact h2
 | 3, hr => simp [feC] at hr; subst hr; exact h3
 | r + 4, hr => simp [feC] at hr
theorem fes_els {w : World} {B : Nat} {A : Option Addr} {l : List Fe} (h : Fes w B A l) : Els feC 4 w B A l := h.imp (Nat.le_refl _) fun _ _ _ _ hd => fe_at hd
theorem feC_len1 (f : Fe) : (feC f).length = 4 := rfl
theorem feC_one1 (f : Fe) : ∀ v ∈ feC f, v.oneCell' = true := by simp [feC, Value.oneCell']
/-! What comes in. -/
def hoSh : Sh := .struct (.cons (.int .i64) (.cons (.int .i64) (.cons (.int .i64) (.cons .bool (.cons (.slice feSh) .nil)))))
theorem ho_lift {w : World} {B : Nat} {cs : List Value} (hl : cs.length = 5) (h : hoSh.Holds w B cs) : ∃ x : Ho, cs = hoC x ∧ Fes w B x.A x.sl ∧ HoOk x := by
 match cs, hl with
 | [a, b, c, d, e], _ =>
  simp only [hoSh, Sh.Holds, Sh.size, List.take_succ_cons, List.take_zero, List.drop_succ_cons, List.drop_zero, List.cons.injEq, and_true] at h;obtain ⟨⟨x0, rfl, h0⟩, ⟨x1, rfl, h1⟩, ⟨x2, rfl, h2⟩, ⟨x3, rfl⟩, h4⟩ := h;obtain ⟨A, c, l, rfl, l1, l2, l3, l4⟩ := fes_lift (show (Sh.slice feSh).Holds w B [e] from by obtain ⟨A0, n0, c0, e0, hr⟩ := h4; exact ⟨A0, n0, c0, by rw [e0], hr⟩);exact ⟨⟨x0, x1, x2, x3, A, c, l⟩, rfl, l3, ⟨h1, h2, l1, l2, l4⟩⟩
structure Wa where
 q : Int
 n : Int
 S : Shp
def Wa.ok (W : Wa) : Bool := W.S.ok && decide (1 ≤ W.n ∧ W.n ≤ 16)
def waA (W : Wa) : Array Value := #[.int .i64 W.q, .int .i64 W.n, .int .i64 W.S.g, .int .i64 W.S.c, .int .i64 W.S.mn, .int .i64 W.S.mx]
def waV (W : Wa) : Value := .agg (waA W)
structure WaOk (W : Wa) : Prop where
 q : (Lit.int .i64 W.q).wf = true
 n : (Lit.int .i64 W.n).wf = true
 S : W.S.Wf
def unSh2 : Sh := .struct (.cons (.int .i64) (.cons (.int .i64) .nil))
section
variable {H : Type} {enc : TypeId × Value → H} {w : World} {held : Bool} {r : Reach} {b0 : Nat} {v : Value} {d : DataW H} {p : List MemPlace}
end
end Go.Proofs.YtkkkhonjcbhelaaGreatDoor
