import Derived.Test.YtkkkhonjcbhelaaGreatDoorWtP
import Derived.Test.YtkkkhonjcbhelaaGreatDoorFilM
set_option maxRecDepth 100000
set_option linter.unusedVariables false
namespace Go.Proofs.YtkkkhonjcbhelaaGreatDoor
section
open Go.ChangeShapes Go.WideShapes Go.ChangeAt Go.RowKit Go.Deep
structure Lu where
 g : Int
 c : Int
def luC (x : Lu) : List Value := [.int .i64 x.g, .int .i64 x.c]
theorem luC_len (x : Lu) : (luC x).length = 2 := rfl
structure LuW (x : Lu) : Prop where
 g : (Lit.int .i64 x.g).wf = true
 c : (Lit.int .i64 x.c).wf = true
abbrev Lus (w : World) (B : Nat) (A : Option Addr) (l : List Lu) : Prop := Els luC 2 w B A l
theorem run_load_lu {oi : Oper} {ρ : Operand → Value} {W : World} {y : Operand} {g o : Nat} {x : Lu} (ho : oi.op = .load 42 y) (hy : ρ y = .pointer (some ⟨g, o, none⟩)) (h : CellsAt W g o (luC x)) :
  (execOp ρ oi).run Tryz.prog W = .ok (.value (.agg #[.int .i64 x.g, .int .i64 x.c])) W := by
 have hl : (loadCells ⟨g, o, none⟩ 2).run Tryz.prog W = .ok #[.int .i64 x.g, .int .i64 x.c] W := run_loadCells_list (P := Tryz.prog) W ⟨g, o, none⟩ (luC x) fun j v hv => by rw [Addr.add_lit]; exact h j v hv
 have ha : (isAgg 42).run Tryz.prog W = .ok true W := by
  unfold isAgg;rw [Sem.run_bind, run_underlying Tryz.underlying42 W]
  simp
 unfold execOp;simp only [ho, hy, Instr.loadAt, Instr.sureAddr, Sem.run_bind, Sem.run_pure, Result.andThen_ok, loadVar, ha, if_true, Tryz.sizeOf42, hl]
theorem wpList_load_lu {ops : Array Oper} {rest : List Oper} {o : Oper} {a : Act} {w : World} {Q : Exit → Act → World → Prop} (hgd : o.guard = none) (y : Operand) (ho : o.op = .load 42 y)
  (g off : Nat) (x : Lu) (hy : a.eval y = .pointer (some ⟨g, off, none⟩)) (hx : CellsAt w g off (luC x)) (h : wpList Tryz.prog ops Q rest (a.put o.dst (.agg #[.int .i64 x.g, .int .i64 x.c])) w) : wpList Tryz.prog ops Q (o :: rest) a w := by
 refine wpList_plain hgd fun K hK => ?_
 unfold Oper.wp;rw [run_load_lu ho hy hx];exact hK _ _ h
structure Lk where
 now : Int
 hd : Int
 pr : Int
 to : Int
 A1 : Option Addr
 c1 : Nat
 lv : List Fe
 A2 : Option Addr
 c2 : Nat
 lf : List Lu
 A3 : Option Addr
 c3 : Nat
 le : List Ho
 A4 : Option Addr
 c4 : Nat
 lw : List Wt
 A5 : Option Addr
 c5 : Nat
 lr : List Rc
def lkC (L : Lk) : List Value := [.int .i64 L.now, .int .i64 L.hd, .int .i64 L.pr, .int .i64 L.to, .slice L.A1 L.lv.length L.c1, .slice L.A2 L.lf.length L.c2, .slice L.A3 L.le.length L.c3, .slice L.A4 L.lw.length L.c4, .slice L.A5 L.lr.length L.c5]
def lkA (L : Lk) : Array Value := #[.int .i64 L.now, .int .i64 L.hd, .int .i64 L.pr, .int .i64 L.to, .slice L.A1 L.lv.length L.c1, .slice L.A2 L.lf.length L.c2, .slice L.A3 L.le.length L.c3, .slice L.A4 L.lw.length L.c4, .slice L.A5 L.lr.length L.c5]
def lkV (L : Lk) : Value := .agg (lkA L)
structure LkIn (w : World) (B : Nat) (L : Lk) : Prop where
 v : Fes w B L.A1 L.lv
 f : Lus w B L.A2 L.lf
 e : HosIn w B L.A3 L.le
 t : Els wtC 10 w B L.A4 L.lw
 r : Els rcC 16 w B L.A5 L.lr
theorem LkIn.keep {w w' : World} {B B' : Nat} {L : Lk} (h : LkIn w B L) (hk : Below B w w') (hB : B ≤ B') : LkIn w' B' L :=
 ⟨h.v.keep hk hB, Els.keep h.f hk hB, h.e.keep hk hB, Els.keep h.t hk hB, Els.keep h.r hk hB⟩
def Rc.J (x : Rc) : Jb := ⟨x.id, x.q, x.p, x.r, x.g, x.c, x.mn, x.mx⟩
def Wt.J (x : Wt) : Jb := ⟨x.id, x.q, x.p, x.r, x.g, x.c, x.mn, x.mx⟩
theorem WtW.J {x : Wt} (h : WtW x) : JbW x.J := ⟨h.id, h.q, h.p, h.r, h.g, h.c, h.mn, h.mx⟩
structure LkW (L : Lk) : Prop where
 now : (Lit.int .i64 L.now).wf = true
 hd : (Lit.int .i64 L.hd).wf = true
 pr : (Lit.int .i64 L.pr).wf = true
 to : (Lit.int .i64 L.to).wf = true
 v : ∀ f ∈ L.lv, FeOk f
 l1 : L.lv.length ≤ L.c1
 m1 : L.c1 ≤ maxLen
 f : ∀ x ∈ L.lf, LuW x
 l2 : L.lf.length ≤ L.c2
 m2 : L.c2 ≤ maxLen
 e : ∀ x ∈ L.le, HoOk x
 l3 : L.le.length ≤ L.c3
 m3 : L.c3 ≤ maxLen
 t : ∀ x ∈ L.lw, WtW x
 l4 : L.lw.length ≤ L.c4
 m4 : L.c4 ≤ maxLen
 r : ∀ x ∈ L.lr, JbW x.J
 l5 : L.lr.length ≤ L.c5
 m5 : L.c5 ≤ maxLen
def recSh : Sh := .struct (.cons jobShG (.cons (.int .i64) (.cons (.int .i64) (.cons (.int .i64) (.cons (.int .i64) (.cons (.int .i64) (.cons (.int .i64) (.cons (.int .i64) (.cons (.int .i64) .nil)))))))))
theorem rec_lift {w : World} {B : Nat} {cs : List Value} (hl : cs.length = 16) (h : recSh.Holds w B cs) : ∃ x : Rc, cs = rcC x ∧ JbW x.J := by
 match cs, hl with
 | [a, b, c, d, e, f, g, i, j, k, l, m, n, o, p, q], _ =>
  simp [recSh, jobShG, shpShG, Sh.Holds, Sh.size] at h;obtain ⟨⟨⟨x0, rfl, h0⟩, ⟨x1, rfl, h1⟩, ⟨x2, rfl, h2⟩, ⟨x3, rfl, h3⟩, ⟨x4, rfl, h4⟩, ⟨x5, rfl, h5⟩, ⟨x6, rfl, h6⟩, ⟨x7, rfl, h7⟩⟩, ⟨x8, rfl, h8⟩, ⟨x9, rfl, h9⟩, ⟨x10, rfl, h10⟩, ⟨x11, rfl, h11⟩, ⟨x12, rfl, h12⟩, ⟨x13, rfl, h13⟩, ⟨x14, rfl, h14⟩, ⟨x15, rfl, h15⟩⟩ := h;exact ⟨⟨x0, x1, x2, x3, x4, x5, x6, x7, x8, x9, x10, x11, x12, x13, x14, x15⟩, rfl, ⟨h0, h1, h2, h3, h4, h5, h6, h7⟩⟩
def lkSh : Sh := .struct (.cons (.int .i64) (.cons (.int .i64) (.cons (.int .i64) (.cons (.int .i64) (.cons (.slice feSh) (.cons (.slice unSh2) (.cons (.slice hoSh) (.cons (.slice wtSh) (.cons (.slice recSh) .nil)))))))))
theorem lk_lift {w : World} {B : Nat} {cs : List Value} (hl : cs.length = 9) (h : lkSh.Holds w B cs) : ∃ L : Lk, cs = lkC L ∧ LkIn w B L ∧ LkW L := by
 match cs, hl with
 | [a, b, c, d, e, f, g, i, j], _ =>
  simp only [lkSh, Sh.Holds, Sh.size, List.take_succ_cons, List.take_zero, List.drop_succ_cons, List.drop_zero, List.cons.injEq, and_true] at h;obtain ⟨⟨x0, rfl, h0⟩, ⟨x1, rfl, h1⟩, ⟨x2, rfl, h2⟩, ⟨x3, rfl, h3⟩, k1, k2, k3, k4, k5⟩ := h;obtain ⟨A1, c1, lv, rfl, a1, a2, a3, a4⟩ := fes_lift (show (Sh.slice feSh).Holds w B [e] from by obtain ⟨A0, n0, c0, e0, hr⟩ := k1; exact ⟨A0, n0, c0, by rw [e0], hr⟩);obtain ⟨A2, c2, lf, e2, b1, b2, b3, b4⟩ := rows_of (v := f) (e := unSh2) (p := fun b o (x : Lu) => CellsAt w b o (luC x)) (q := LuW) (show (Sh.slice unSh2).Holds w B [f] from by obtain ⟨A0, n0, c0, e0, hr⟩ := k2; exact ⟨A0, n0, c0, by rw [e0], hr⟩) fun b o cs _ hl hat hh => by
   have hl2 : cs.length = 2 := by rw [hl]; rfl
   match cs, hl2 with
   | [a, b], _ =>
    simp [unSh2, Sh.Holds, Sh.size] at hh;obtain ⟨⟨x0, rfl, h0⟩, ⟨x1, rfl, h1⟩⟩ := hh;exact ⟨⟨x0, x1⟩, hat, ⟨h0, h1⟩⟩
  obtain ⟨A3, c3, le, e3, d1, d2, d3, d4⟩ := rows_of (v := g) (e := hoSh) (p := fun b o (x : Ho) => CellsAt w b o (hoC x)) (q := fun x : Ho => Fes w B x.A x.sl ∧ HoOk x) (show (Sh.slice hoSh).Holds w B [g] from by obtain ⟨A0, n0, c0, e0, hr⟩ := k3; exact ⟨A0, n0, c0, by rw [e0], hr⟩) fun b o cs _ hl hat hh => by
   obtain ⟨u, e, hu⟩ := ho_lift hl hh;subst e;exact ⟨u, hat, hu⟩
  obtain ⟨A4, c4, lw, e4, f1, f2, f3, f4⟩ := rows_of (v := i) (e := wtSh) (p := fun b o (x : Wt) => CellsAt w b o (wtC x)) (q := WtW) (show (Sh.slice wtSh).Holds w B [i] from by obtain ⟨A0, n0, c0, e0, hr⟩ := k4; exact ⟨A0, n0, c0, by rw [e0], hr⟩) fun b o cs _ hl hat hh => by
   obtain ⟨u, e, hu⟩ := wt_lift hl hh;subst e;exact ⟨u, hat, hu⟩
  obtain ⟨A5, c5, lr, e5, g1, g2, g3, g4⟩ := rows_of (v := j) (e := recSh) (p := fun b o (x : Rc) => CellsAt w b o (rcC x)) (q := fun x : Rc => JbW x.J) (show (Sh.slice recSh).Holds w B [j] from by obtain ⟨A0, n0, c0, e0, hr⟩ := k5; exact ⟨A0, n0, c0, by rw [e0], hr⟩) fun b o cs _ hl hat hh => by
   obtain ⟨u, e, hu⟩ := rec_lift hl hh;subst e;exact ⟨u, hat, hu⟩
  subst e2 e3 e4 e5;exact ⟨⟨x0, x1, x2, x3, A1, c1, lv, A2, c2, lf, A3, c3, le, A4, c4, lw, A5, c5, lr⟩, rfl, ⟨a3, b3, ⟨d3, fun x hx => (d4 x hx).1⟩, f3, g3⟩, ⟨h0, h1, h2, h3, a4, a1, a2, b4, b1, b2, fun x hx => (d4 x hx).2, d1, d2, f4, f1, f2, g4, g1, g2⟩⟩
section
variable {H : Type} {enc : TypeId × Value → H} {w : World} {held : Bool} {r : Reach} {b0 : Nat} {v : Value} {d : DataW H} {p : List MemPlace}
theorem lk_of (hv : Value.okWide Tryz.prog w r b0 28 v) (h : DataW.Trod enc Tryz.prog w 0 (fun _ => true) held 28 v d p) : ∃ L : Lk, v = lkV L ∧ LkIn w w.heap.size L ∧ LkW L := by
 obtain ⟨cs, rfl, hl, hh⟩ := arg_struct (sh := lkSh) Tryz.underlying28 (by kernel_rfl) hv h;obtain ⟨L, rfl, h1, h2⟩ := lk_lift (by rw [hl]; kernel_rfl) hh;exact ⟨L, rfl, h1, h2⟩
end
def headL (L : Lk) : Option Wa :=
 if L.hd = 0 then none else match L.lw.find? (fun x => x.id == L.hd) with
  | none => none
  | some x => some ⟨x.q, x.mn, ⟨x.g, x.c, x.mn, x.mx⟩⟩
def leftL (L : Lk) (q : Int) : Option Lu := if 0 ≤ q then L.lf[q.toNat]? else none
end
set_option linter.unusedVariables false
section
open Go.RowKit
namespace PR
def plE (S : Shp) (lv : List Fe) (g c : Int) (n : Nat) : Int := if roomF S lv < n then 7 else if S.g * n ≤ g ∧ S.c * n ≤ c then 0 else 6
theorem plE_zero {S : Shp} {lv : List Fe} {g c : Int} {n : Nat} : plE S lv g c n = 0 ↔ n ≤ roomF S lv ∧ S.g * n ≤ g ∧ S.c * n ≤ c := by
 unfold plE;by_cases h1 : roomF S lv < n
 ·rw [if_pos h1];exact Iff.intro (fun h => by cases h) (fun h => by omega)
 ·rw [if_neg h1];by_cases h2 : S.g * n ≤ g ∧ S.c * n ≤ c
  ·rw [if_pos h2];exact Iff.intro (fun _ => Ai (by omega) h2) (fun _ => rfl)
  ·rw [if_neg h2];exact Iff.intro (fun h => by cases h) (fun h => absurd h.2 h2)
def Top (R : Nat → Int → Prop) (lo hi n : Nat) (E : Int) : Prop :=
 (E = 0 ∧ lo ≤ n ∧ n ≤ hi ∧ R n 0 ∧ ∀ m, n < m → m ≤ hi → ∃ r, r ≠ 0 ∧ R m r) ∨ (E ≠ 0 ∧ R lo E ∧ ∀ m, lo ≤ m → m ≤ hi → ∃ r, r ≠ 0 ∧ R m r)
theorem Top.same {R : Nat → Int → Prop} {lo hi n n' : Nat} {E E' : Int} (hR : ∀ m r r', R m r → R m r' → r = r') (h : Top R lo hi n E) (k : Top R lo hi n' E') : E = E' ∧ (E = 0 → n = n') := by
 rcases h with ⟨h0, h1, h2, h3, h4⟩ | ⟨h0, h1, h2⟩ <;> rcases k with ⟨k0, k1, k2, k3, k4⟩ | ⟨k0, k1, k2⟩
 ·refine ⟨by omega, fun _ => ?_⟩;rcases Nat.lt_trichotomy n n' with e | e | e
  ·obtain ⟨r, a, b⟩ := h4 n' e k2; exact absurd (hR _ _ _ b k3) a
  ·exact e
  ·obtain ⟨r, a, b⟩ := k4 n e h2; exact absurd (hR _ _ _ b h3) a
 ·obtain ⟨r, a, b⟩ := k2 n h1 h2; exact absurd (hR _ _ _ b h3) a
 ·obtain ⟨r, a, b⟩ := h2 n' k1 k2; exact absurd (hR _ _ _ b k3) a
 ·exact ⟨hR _ _ _ h1 k1, fun e => absurd e h0⟩
abbrev MostR (S : Shp) (lv : List Fe) (g c : Int) (n : Nat) (E : Int) : Prop := Top (fun m r => r = plE S lv g c m) S.mn.toNat S.mx.toNat n E
theorem gs_all {l : List Fe} {k : Nat} (h : ∀ s ∈ l, MM.cnt s.m = k) : gs l = k * l.length := by
 induction l with
 | nil => simp [gs]
 | cons x l ih =>
  have e : gs (x :: l) = MM.cnt x.m + gs l := by simp [gs]
  rw [e, ih fun s hs => h s (List.mem_cons_of_mem _ hs), h x (by simp), List.length_cons, Nat.mul_succ];omega
theorem cs_all {l : List Fe} {k : Int} (h : ∀ s ∈ l, s.c = k) : cs l = k * l.length := by
 induction l with
 | nil => simp [cs]
 | cons x l ih =>
  have e : cs (x :: l) = x.c + cs l := by simp [cs]
  rw [e, ih fun s hs => h s (List.mem_cons_of_mem _ hs), h x (by simp), List.length_cons];have : k * ((l.length + 1 : Nat) : Int) = k * (l.length : Int) + k := by rw [Int.natCast_add, Int.mul_add]; simp
  omega
theorem placeF_units {S : Shp} {lv : List Fe} {n : Nat} (hw : S.Wf) (hok : S.ok = true) (hf : ∀ f ∈ lv, FeOk f) (h : n ≤ roomF S lv) : (gs (placeF S lv n) : Int) = S.g * n ∧ cs (placeF S lv n) = S.c * n := by
 have hl := placeF_len h;have hall := placeL_ok hw hf (orderF (fitsL S lv)) n;have h0 : 0 ≤ S.g := by unfold Shp.ok at hok; simp at hok; omega
 have e1 := gs_all (l := placeF S lv n) (k := S.g.toNat) fun s hs => (hall s hs).2.1
 have e2 := cs_all (l := placeF S lv n) (k := S.c) fun s hs => (hall s hs).2.2
 rw [hl] at e1 e2;refine ⟨?_, e2⟩;rw [e1, Int.natCast_mul, Int.toNat_of_nonneg h0]
theorem at_of {lv : List Fe} {g c : Int} {l : List Ho} {X : Wa} {H H' : Ho} {t : Int} (hq : H'.q = H.q) (hu : H'.u = H.u) (hs : H'.sl = H.sl) : at_ lv g c (l ++ [H']) X t = at_ lv g c (l ++ [H]) X t := by
 have e1 : sl (over (l ++ [H']) t) = sl (over (l ++ [H]) t) := by
  rw [over_one, over_one, sl_app, sl_app, hu]
  split <;> simp [sl, hs]
 have e2 : mine (over (l ++ [H']) t) X.q = mine (over (l ++ [H]) t) X.q := by
  rw [over_one, over_one, mine_app, mine_app, hu]
  split
  ·by_cases h : H.q = X.q <;> simp [mine, sl, hs, hq, h]
  ·rfl
 unfold at_;rw [e1, e2]
theorem cand_of {now : Int} {l : List Ho} {H H' : Ho} (hu : H'.u = H.u) (x : Int) : Cand now (l ++ [H']) x ↔ Cand now (l ++ [H]) x := by
 unfold Cand;simp only [List.mem_append, List.mem_singleton];constructor
 ·rintro (h | ⟨⟨y, hy | rfl, e⟩, h⟩)
  ·exact .inl h
  ·exact .inr ⟨⟨y, .inl hy, e⟩, h⟩
  ·exact .inr ⟨⟨H, .inr rfl, by rw [← hu]; exact e⟩, h⟩
 ·rintro (h | ⟨⟨y, hy | rfl, e⟩, h⟩)
  ·exact .inl h
  ·exact .inr ⟨⟨y, .inl hy, e⟩, h⟩
  ·exact .inr ⟨⟨H', .inr rfl, by rw [hu]; exact e⟩, h⟩
theorem Earl.of_ {now : Int} {lv : List Fe} {g c : Int} {l : List Ho} {X : Wa} {H H' : Ho} {T E : Int} (hq : H'.q = H.q) (hu : H'.u = H.u) (hs : H'.sl = H.sl) (h : Earl now lv g c (l ++ [H]) X T E) : Earl now lv g c (l ++ [H']) X T E := by
 have e0 : sl (l ++ [H']) = sl (l ++ [H]) := by rw [sl_one, sl_one, hs]
 unfold Earl at *;rw [e0];rcases h with h | ⟨h0, h | ⟨h1, h2, h3⟩⟩
 ·exact .inl h
 ·exact .inr ⟨h0, .inl h⟩
 ·exact .inr ⟨h0, .inr ⟨h1, h2, h3.ext (fun x => cand_of hu x) fun x => at_of hq hu hs⟩⟩
theorem Aft.of_ {now : Int} {lv : List Fe} {g c : Int} {l : List Ho} {X : Wa} {H H' : Ho} {T E : Int} (hq : H'.q = H.q) (hu : H'.u = H.u) (hs : H'.sl = H.sl) (h : Aft now lv g c l X H T E) : Aft now lv g c l X H' T E := by
 unfold Aft at *;have e1 : hg H' X.q = hg H X.q := by unfold hg; rw [hq, hs]
 have e2 : hc H' X.q = hc H X.q := by unfold hc; rw [hq, hs]
 rw [hs, e1, e2];rcases h with h | ⟨h0, h⟩
 ·exact .inl h
 ·exact .inr ⟨h0, h.of_ hq hu hs⟩
def hoOf (q u : Int) (s : List Fe) : Ho := ⟨0, q, u, false, none, 0, s⟩
def LetR (L : Lk) (id q u : Int) (s : List Fe) (r : Int) : Prop :=
 ((headL L = none ∨ id = L.hd) ∧ r = 0) ∨ (id ≠ L.hd ∧ ∃ X, headL L = some X ∧ ((leftL L X.q = none ∧ r = 5) ∨ ∃ U, leftL L X.q = some U ∧ ∃ T E, Aft L.now L.lv U.g U.c L.le X (hoOf q u s) T E ∧ r = if safeB L.now L.pr T E = true then 0 else 5))
theorem LetR.same {L : Lk} {id q u r r' : Int} {s : List Fe} (h : LetR L id q u s r) (k : LetR L id q u s r') : r = r' := by
 rcases h with ⟨h0, h1⟩ | ⟨h0, X, hX, h⟩ <;> rcases k with ⟨k0, k1⟩ | ⟨k0, Y, hY, k⟩
 ·rw [h1, k1]
 ·rcases h0 with h0 | h0
  ·rw [h0] at hY; cases hY
  ·exact absurd h0 k0
 ·rcases k0 with k0 | k0
  ·rw [k0] at hX; cases hX
  ·exact absurd k0 h0
 ·rw [hX] at hY; injection hY with e; subst e;rcases h with ⟨h1, h2⟩ | ⟨U, hU, T, E, hA, h2⟩ <;> rcases k with ⟨k1, k2⟩ | ⟨V, hV, T', E', kA, k2⟩
  ·rw [h2, k2]
  ·rw [h1] at hV; cases hV
  ·rw [k1] at hU; cases hU
  ·rw [hU] at hV; injection hV with e; subst e;obtain ⟨rfl, rfl⟩ := hA.same kA;rw [h2, k2]
theorem LetR.none_ {L : Lk} {id q u r : Int} {s : List Fe} (h : LetR L id q u s r) (h0 : headL L = none ∨ id = L.hd) : r = 0 := by
 rcases h with ⟨_, h⟩ | ⟨h1, X, hX, _⟩
 ·exact h
 ·rcases h0 with h0 | h0
  ·rw [h0] at hX; cases hX
  ·exact absurd h0 h1
abbrev FillR (L : Lk) (id q u : Int) (S : Shp) (n n' : Nat) (E : Int) : Prop := Top (fun m r => LetR L id q u (placeF S L.lv m) r) S.mn.toNat n n' E
end PR
end
set_option linter.unusedVariables false
set_option maxRecDepth 100000
section
open Go.RowKit
open PR
def LeftR (o : Option Lu) (e : Ending) : Prop := (o = none ∧ e = .returned (.tuple #[.agg #[.int .i64 0, .int .i64 0], .int .i64 3])) ∨ ∃ U, o = some U ∧ e = .returned (.tuple #[.agg #[.int .i64 U.g, .int .i64 U.c], .int .i64 0])
set_option maxHeartbeats 8000000 in
theorem leftof_any (L : Lk) (q : Int) (w : World) (h : LkIn w w.heap.size L) (hq : (Lit.int .i64 q).wf = true) (hW : LkW L) :
  Calls Tryz.prog 56 #[lkV L, .int .i64 q] w fun e w' => LeftR (leftL L q) e ∧ Below w.heap.size w w' := by
 have hm2 : L.lf.length ≤ maxLen := Nat.le_trans hW.l2 hW.m2;obtain ⟨n1, hn1⟩ := nx (L.lv.length);obtain ⟨n2, hn2⟩ := nx (L.lf.length);obtain ⟨n3, hn3⟩ := nx (L.le.length);obtain ⟨n4, hn4⟩ := nx (L.lw.length);obtain ⟨n5, hn5⟩ := nx (L.lr.length);have hf : Lus w w.heap.size L.A2 L.lf := h.f;obtain ⟨o, ho⟩ := nx (leftL L q);rw [← ho];unfold leftL at ho;unfold lkV lkA;rw [← hn1, ← hn2, ← hn3, ← hn4, ← hn5];have HN := Hq hn2;clear hn1 hn2 hn3 hn4 hn5 h hW;by_cases h0 : q < 0
 ·have t0 : decide (q < 0) = true := decide_eq_true h0;have E0 := Hq (show LeftR o (.returned (.tuple #[.agg #[.int .i64 0, .int .i64 0], .int .i64 3])) from .inl ⟨by rw [ho, if_neg (by omega)], rfl⟩);clear h0 hf hq HN ho;obtain ⟨B0, hB0⟩ := nx (w.heap.size);rw [← hB0];have HB0 := Hq hB0;clear hB0;have HBel := Hq (Below.refl w.heap.size w);have hlow : w.heap.size ≤ w.heap.size := Nat.le_refl _;go_enter Tryz.func56, Tryz.ntmps56;go_wp2_with fail;obtain ⟨V1, hV1⟩ := nx ((w.alloc (.cells #[.int .i64 L.now, .int .i64 L.hd, .int .i64 L.pr, .int .i64 L.to, .slice L.A1 n1 L.c1, .slice L.A2 n2 L.c2, .slice L.A3 n3 L.c3, .slice L.A4 n4 L.c4, .slice L.A5 n5 L.c5] 28)).alloc (.cells #[.int .i64 0, .int .i64 0] 42));rw [← hV1];have hzV1 := sz2 hV1;replace HBel := be2 hV1 HBel hlow;have B_l := Hq (new20 hV1);have B_u := Hq (new21 hV1);obtain ⟨N_l, hN_l⟩ := nx (w.heap.size);obtain ⟨N_u, hN_u⟩ := nx (w.heap.size + 1);(try rw [← hN_u]);rw [← hN_u] at B_u;(try rw [← hN_l]);rw [← hN_l] at B_l;have l_l : N_l < V1.heap.size := by omega
  have l_u : N_u < V1.heap.size := by omega
  have g_l : w.heap.size ≤ N_l := by omega
  have g_u : w.heap.size ≤ N_u := by omega
  have d_l_u : N_l < N_u := by omega
  replace hlow : w.heap.size ≤ V1.heap.size := by omega
  clear hV1 hzV1 hN_l hN_u;obtain ⟨u0, u1⟩ := cells2 B_u.out;have uz0 : V1.frozen? ⟨N_u, 0, none⟩ = false := frozen_blk B_u.out;have uz1 : V1.frozen? ⟨N_u, 1, none⟩ = false := frozen_blk B_u.out;go_wp2_with fail;obtain ⟨u0, u1⟩ := cells2 B_u.out;refine bodyPost_ret (v := .tuple #[.agg #[.int .i64 0, .int .i64 0], .int .i64 3]) (by simp [results, Tryz.results56, go_sem, u0, u1]) rfl ?_;exact ⟨E0.out, by rw [HB0.out]; exact HBel.out⟩
 ·have t0 : decide (q < 0) = false := decide_eq_false h0;obtain ⟨k, rfl⟩ : ∃ k : Nat, q = k := ⟨q.toNat, by omega⟩
  by_cases h1 : n2 ≤ k
  ·have t1 : decide (n2 ≤ k) = true := decide_eq_true h1;have E0 := Hq (show LeftR o (.returned (.tuple #[.agg #[.int .i64 0, .int .i64 0], .int .i64 3])) from .inl ⟨by rw [ho, if_pos (by omega), List.getElem?_eq_none (by rw [← HN.out]; simpa using h1)], rfl⟩);clear h0 h1 hf hq HN ho;obtain ⟨B0, hB0⟩ := nx (w.heap.size);rw [← hB0];have HB0 := Hq hB0;clear hB0;have HBel := Hq (Below.refl w.heap.size w);have hlow : w.heap.size ≤ w.heap.size := Nat.le_refl _;go_enter Tryz.func56, Tryz.ntmps56;go_wp2_with fail;obtain ⟨V1, hV1⟩ := nx ((w.alloc (.cells #[.int .i64 L.now, .int .i64 L.hd, .int .i64 L.pr, .int .i64 L.to, .slice L.A1 n1 L.c1, .slice L.A2 n2 L.c2, .slice L.A3 n3 L.c3, .slice L.A4 n4 L.c4, .slice L.A5 n5 L.c5] 28)).alloc (.cells #[.int .i64 0, .int .i64 0] 42));rw [← hV1];have hzV1 := sz2 hV1;replace HBel := be2 hV1 HBel hlow;have B_l := Hq (new20 hV1);have B_u := Hq (new21 hV1);obtain ⟨N_l, hN_l⟩ := nx (w.heap.size);obtain ⟨N_u, hN_u⟩ := nx (w.heap.size + 1);(try rw [← hN_u]);rw [← hN_u] at B_u;(try rw [← hN_l]);rw [← hN_l] at B_l;have l_l : N_l < V1.heap.size := (by omega);have l_u : N_u < V1.heap.size := (by omega);have g_l : w.heap.size ≤ N_l := (by omega);have g_u : w.heap.size ≤ N_u := (by omega);have d_l_u : N_l < N_u := (by omega);replace hlow : w.heap.size ≤ V1.heap.size := (by omega);clear hV1 hzV1 hN_l hN_u;obtain ⟨l0, l1, l2, l3, l4, l5, l6, l7, l8⟩ := cells9 B_l.out;obtain ⟨u0, u1⟩ := cells2 B_u.out;have uz0 : V1.frozen? ⟨N_u, 0, none⟩ = false := frozen_blk B_u.out;have uz1 : V1.frozen? ⟨N_u, 1, none⟩ = false := frozen_blk B_u.out;go_wp2_with fail;obtain ⟨u0, u1⟩ := cells2 B_u.out;refine bodyPost_ret (v := .tuple #[.agg #[.int .i64 0, .int .i64 0], .int .i64 3]) (by simp [results, Tryz.results56, go_sem, u0, u1]) rfl ?_;exact ⟨E0.out, by rw [HB0.out]; exact HBel.out⟩
  ·have t1 : decide (n2 ≤ k) = false := decide_eq_false h1;obtain ⟨U, hU⟩ : ∃ U, L.lf[k]? = some U := ⟨_, List.getElem?_eq_getElem (by rw [← HN.out]; omega)⟩
   have E0 := Hq (show LeftR o (.returned (.tuple #[.agg #[.int .i64 U.g, .int .i64 U.c], .int .i64 0])) from .inr ⟨U, by rw [ho, if_pos (by omega)]; simpa using hU, rfl⟩);obtain ⟨b, off, hA, hb, hc⟩ := hf.at_ hU;have HC := Hq (hc k _ hU);have hkn : k < n2 := (by omega);rw [hA];clear h0 hf hq HN hc hA hU ho;obtain ⟨B0, hB0⟩ := nx (w.heap.size);rw [← hB0];have HB0 := Hq hB0;clear hB0;have HBel := Hq (Below.refl w.heap.size w);have hlow : w.heap.size ≤ w.heap.size := Nat.le_refl _;go_enter Tryz.func56, Tryz.ntmps56;go_wp2_with (refine wpList_load_lu rfl _ rfl b (off + k * 2) U rfl (HC.out.keep hb (((Below.refl w.heap.size w).alloc (Nat.le_refl _) _).alloc (by simp <;> omega) _)) ?_);obtain ⟨V1, hV1⟩ := nx ((w.alloc (.cells #[.int .i64 L.now, .int .i64 L.hd, .int .i64 L.pr, .int .i64 L.to, .slice L.A1 n1 L.c1, .slice (some ⟨b, off, none⟩) n2 L.c2, .slice L.A3 n3 L.c3, .slice L.A4 n4 L.c4, .slice L.A5 n5 L.c5] 28)).alloc (.cells #[.int .i64 U.g, .int .i64 U.c] 42));rw [← hV1];have hzV1 := sz2 hV1;replace HBel := be2 hV1 HBel hlow;have B_l := Hq (new20 hV1);have B_u := Hq (new21 hV1);obtain ⟨N_l, hN_l⟩ := nx (w.heap.size);obtain ⟨N_u, hN_u⟩ := nx (w.heap.size + 1);(try rw [← hN_u]);rw [← hN_u] at B_u;(try rw [← hN_l]);rw [← hN_l] at B_l;have l_l : N_l < V1.heap.size := (by omega);have l_u : N_u < V1.heap.size := (by omega);have g_l : w.heap.size ≤ N_l := (by omega);have g_u : w.heap.size ≤ N_u := (by omega);have d_l_u : N_l < N_u := (by omega);replace hlow : w.heap.size ≤ V1.heap.size := (by omega);clear hV1 hzV1 hN_l hN_u;obtain ⟨u0, u1⟩ := cells2 B_u.out;refine bodyPost_ret (v := .tuple #[.agg #[.int .i64 U.g, .int .i64 U.c], .int .i64 0]) (by simp [results, Tryz.results56, go_sem, u0, u1]) rfl ?_;exact ⟨E0.out, by rw [HB0.out]; exact HBel.out⟩
def Jb.S (j : Jb) : Shp := ⟨j.g, j.c, j.mn, j.mx⟩
theorem JbW.S {j : Jb} (h : JbW j) : j.S.Wf := ⟨h.g, h.c, h.mn, h.mx⟩
def ForR (L : Lk) (j : Jb) (e : Ending) : Prop := (j.S.ok = false ∧ e = .returned (.tuple #[.agg #[.int .i64 0, .int .i64 0], .int .i64 1])) ∨ (j.S.ok = true ∧ LeftR (leftL L j.q) e)
set_option maxHeartbeats 8000000 in
theorem leftfor_any (L : Lk) (j : Jb) (w : World) (h : LkIn w w.heap.size L) (hj : JbW j) (hW : LkW L) :
  Calls Tryz.prog 47 #[lkV L, jbV j] w fun e w' => ForR L j e ∧ Below w.heap.size w w' := by
 obtain ⟨n1, hn1⟩ := nx (L.lv.length);obtain ⟨n2, hn2⟩ := nx (L.lf.length);obtain ⟨n3, hn3⟩ := nx (L.le.length);obtain ⟨n4, hn4⟩ := nx (L.lw.length);obtain ⟨n5, hn5⟩ := nx (L.lr.length);have hC := Hq (fun W => show Calls Tryz.prog 55 #[.agg #[.int .i64 j.g, .int .i64 j.c, .int .i64 j.mn, .int .i64 j.mx]] W (fun e w' => e = .returned (.int .i64 (if j.S.ok then 0 else 1)) ∧ Below W.heap.size W w') from chk_any j.S W hj.S);have hL := Hq (fun W (hk : Below w.heap.size w W) => show Calls Tryz.prog 56 #[.agg #[.int .i64 L.now, .int .i64 L.hd, .int .i64 L.pr, .int .i64 L.to, .slice L.A1 n1 L.c1, .slice L.A2 n2 L.c2, .slice L.A3 n3 L.c3, .slice L.A4 n4 L.c4, .slice L.A5 n5 L.c5], .int .i64 j.q] W (fun e w' => LeftR (leftL L j.q) e ∧ Below W.heap.size W w') from by
  have h9 := leftof_any L j.q W (h.keep hk hk.size) hj.q hW;unfold lkV lkA at h9;rw [← hn1, ← hn2, ← hn3, ← hn4, ← hn5] at h9;exact h9)
 unfold ForR lkV lkA jbV jbA;rw [← hn1, ← hn2, ← hn3, ← hn4, ← hn5];clear hn1 hn2 hn3 hn4 hn5 h hW hj;obtain ⟨B0, hB0⟩ := nx (w.heap.size);rw [← hB0];have HB0 := Hq hB0;clear hB0;have HBel := Hq (Below.refl w.heap.size w);have hlow : w.heap.size ≤ w.heap.size := Nat.le_refl _;go_enter Tryz.func47, Tryz.ntmps47;go_wp2_with fail;obtain ⟨V1, hV1⟩ := nx (((w.alloc (.cells #[.int .i64 L.now, .int .i64 L.hd, .int .i64 L.pr, .int .i64 L.to, .slice L.A1 n1 L.c1, .slice L.A2 n2 L.c2, .slice L.A3 n3 L.c3, .slice L.A4 n4 L.c4, .slice L.A5 n5 L.c5] 28)).alloc (.cells #[.int .i64 j.id, .int .i64 j.q, .int .i64 j.p, .int .i64 j.r, .int .i64 j.g, .int .i64 j.c, .int .i64 j.mn, .int .i64 j.mx] 47)).alloc (.cells #[.int .i64 0, .int .i64 0] 42));rw [← hV1];have hzV1 := sz3 hV1;replace HBel := be3 hV1 HBel hlow;have B_l := Hq (new30 hV1);have B_j := Hq (new31 hV1);have B_u := Hq (new32 hV1);obtain ⟨N_l, hN_l⟩ := nx (w.heap.size);obtain ⟨N_j, hN_j⟩ := nx (w.heap.size + 1);obtain ⟨N_u, hN_u⟩ := nx (w.heap.size + 1 + 1);(try rw [← hN_u]);rw [← hN_u] at B_u;(try rw [← hN_j]);rw [← hN_j] at B_j;(try rw [← hN_l]);rw [← hN_l] at B_l;have l_l : N_l < V1.heap.size := by omega
 have l_j : N_j < V1.heap.size := by omega
 have l_u : N_u < V1.heap.size := by omega
 have g_l : w.heap.size ≤ N_l := by omega
 have g_j : w.heap.size ≤ N_j := by omega
 have g_u : w.heap.size ≤ N_u := by omega
 have d_l_j : N_l < N_j := by omega
 have d_j_u : N_j < N_u := by omega
 replace hlow : w.heap.size ≤ V1.heap.size := by omega
 clear hV1 hzV1 hN_l hN_j hN_u;obtain ⟨j0, j1, j2, j3, j4, j5, j6, j7⟩ := cells8 B_j.out;go_wp2_with fail;refine (hC.out V1).mono ?_;rintro e U2 ⟨rfl, hb9⟩;clear j0 j1 j2 j3 j4 j5 j6 j7;have hs9 := hb9.size;replace HBel := bt9 HBel hb9 hlow;replace B_l := bb9 hb9 B_l l_l;replace B_j := bb9 hb9 B_j l_j;replace B_u := bb9 hb9 B_u l_u;replace l_l : N_l < U2.heap.size := by omega
 replace l_j : N_j < U2.heap.size := by omega
 replace l_u : N_u < U2.heap.size := by omega
 replace hlow : w.heap.size ≤ U2.heap.size := by omega
 clear hb9 hs9
 cases hok : j.S.ok
 ·have HO := Hq hok;clear hok;obtain ⟨u0, u1⟩ := cells2 B_u.out;have uz0 : U2.frozen? ⟨N_u, 0, none⟩ = false := frozen_blk B_u.out;have uz1 : U2.frozen? ⟨N_u, 1, none⟩ = false := frozen_blk B_u.out;go_wp2_with fail;clear u0 u1 uz0 uz1;obtain ⟨S3, hS3⟩ := nx (((U2).setCell ⟨N_u, 0, none⟩ (.int .i64 0)).setCell ⟨N_u, 1, none⟩ (.int .i64 0));rw [← hS3];have hzS3 : S3.heap.size = U2.heap.size := by rw [hS3]; simp
  replace HBel : Hid (Below w.heap.size w S3) := Hq (by rw [hS3]; exact ((HBel.out.setCell (g_u) _).setCell (g_u) _));replace B_l := Hq (blk_eq hS3 (((Sn N_l N_u).trans ((Sn N_l N_u).trans B_l.out))));replace B_j := Hq (blk_eq hS3 (((Sn N_j N_u).trans ((Sn N_j N_u).trans B_j.out))));replace B_u : Hid (S3.heap[N_u]? = some (.cells #[.int .i64 0, .int .i64 0] 42 (0, 0))) := Hq (by rw [hS3]; exact (blk_put (i := 1) _ (blk_put (i := 0) _ B_u.out)));replace l_l : N_l < S3.heap.size := by omega
  replace l_j : N_j < S3.heap.size := by omega
  replace l_u : N_u < S3.heap.size := by omega
  replace hlow : w.heap.size ≤ S3.heap.size := by omega
  clear hS3 hzS3;obtain ⟨u0, u1⟩ := cells2 B_u.out;refine bodyPost_ret (v := .tuple #[.agg #[.int .i64 0, .int .i64 0], .int .i64 1]) (by simp [results, Tryz.results47, go_sem, u0, u1]) rfl ?_;exact ⟨.inl ⟨HO.out, rfl⟩, by rw [HB0.out]; exact HBel.out⟩
 ·have HO := Hq hok;clear hok;obtain ⟨l0, l1, l2, l3, l4, l5, l6, l7, l8⟩ := cells9 B_l.out;obtain ⟨j0, j1, j2, j3, j4, j5, j6, j7⟩ := cells8 B_j.out;go_wp2_with fail;refine (hL.out U2 HBel.out).mono ?_;rintro e U3 ⟨hr, hb9⟩;clear l0 l1 l2 l3 l4 l5 l6 l7 l8 j0 j1 j2 j3 j4 j5 j6 j7;have hs9 := hb9.size;have HR := Hq hr;replace HBel := bt9 HBel hb9 hlow;replace B_l := bb9 hb9 B_l l_l;replace B_j := bb9 hb9 B_j l_j;replace B_u := bb9 hb9 B_u l_u;replace l_l : N_l < U3.heap.size := by omega
  replace l_j : N_j < U3.heap.size := by omega
  replace l_u : N_u < U3.heap.size := by omega
  replace hlow : w.heap.size ≤ U3.heap.size := by omega
  clear hb9 hs9;rcases hr with ⟨_, rfl⟩ | ⟨U, _, rfl⟩
  ·obtain ⟨u0, u1⟩ := cells2 B_u.out;have uz0 : U3.frozen? ⟨N_u, 0, none⟩ = false := frozen_blk B_u.out;have uz1 : U3.frozen? ⟨N_u, 1, none⟩ = false := frozen_blk B_u.out;go_wp2_with fail;clear u0 u1 uz0 uz1;obtain ⟨S4, hS4⟩ := nx (((U3).setCell ⟨N_u, 0, none⟩ (.int .i64 0)).setCell ⟨N_u, 1, none⟩ (.int .i64 0));rw [← hS4];have hzS4 : S4.heap.size = U3.heap.size := by rw [hS4]; simp
   replace HBel : Hid (Below w.heap.size w S4) := Hq (by rw [hS4]; exact ((HBel.out.setCell (g_u) _).setCell (g_u) _));replace B_l := Hq (blk_eq hS4 (((Sn N_l N_u).trans ((Sn N_l N_u).trans B_l.out))));replace B_j := Hq (blk_eq hS4 (((Sn N_j N_u).trans ((Sn N_j N_u).trans B_j.out))));replace B_u : Hid (S4.heap[N_u]? = some (.cells #[.int .i64 0, .int .i64 0] 42 (0, 0))) := Hq (by rw [hS4]; exact (blk_put (i := 1) _ (blk_put (i := 0) _ B_u.out)));replace l_l : N_l < S4.heap.size := (by omega);replace l_j : N_j < S4.heap.size := (by omega);replace l_u : N_u < S4.heap.size := (by omega);replace hlow : w.heap.size ≤ S4.heap.size := (by omega);clear hS4 hzS4;obtain ⟨u0, u1⟩ := cells2 B_u.out;refine bodyPost_ret (v := .tuple #[.agg #[.int .i64 0, .int .i64 0], .int .i64 3]) (by simp [results, Tryz.results47, go_sem, u0, u1]) rfl ?_;exact ⟨.inr ⟨HO.out, HR.out⟩, by rw [HB0.out]; exact HBel.out⟩
  ·obtain ⟨u0, u1⟩ := cells2 B_u.out;have uz0 : U3.frozen? ⟨N_u, 0, none⟩ = false := frozen_blk B_u.out;have uz1 : U3.frozen? ⟨N_u, 1, none⟩ = false := frozen_blk B_u.out;go_wp2_with fail;clear u0 u1 uz0 uz1;obtain ⟨S4, hS4⟩ := nx (((U3).setCell ⟨N_u, 0, none⟩ (.int .i64 U.g)).setCell ⟨N_u, 1, none⟩ (.int .i64 U.c));rw [← hS4];have hzS4 : S4.heap.size = U3.heap.size := by rw [hS4]; simp
   replace HBel : Hid (Below w.heap.size w S4) := Hq (by rw [hS4]; exact ((HBel.out.setCell (g_u) _).setCell (g_u) _));replace B_l := Hq (blk_eq hS4 (((Sn N_l N_u).trans ((Sn N_l N_u).trans B_l.out))));replace B_j := Hq (blk_eq hS4 (((Sn N_j N_u).trans ((Sn N_j N_u).trans B_j.out))));replace B_u : Hid (S4.heap[N_u]? = some (.cells #[.int .i64 U.g, .int .i64 U.c] 42 (0, 0))) := Hq (by rw [hS4]; exact (blk_put (i := 1) _ (blk_put (i := 0) _ B_u.out)));replace l_l : N_l < S4.heap.size := (by omega);replace l_j : N_j < S4.heap.size := (by omega);replace l_u : N_u < S4.heap.size := (by omega);replace hlow : w.heap.size ≤ S4.heap.size := (by omega);clear hS4 hzS4;obtain ⟨u0, u1⟩ := cells2 B_u.out;refine bodyPost_ret (v := .tuple #[.agg #[.int .i64 U.g, .int .i64 U.c], .int .i64 0]) (by simp [results, Tryz.results47, go_sem, u0, u1]) rfl ?_;exact ⟨.inr ⟨HO.out, HR.out⟩, by rw [HB0.out]; exact HBel.out⟩
def TryR (R : Nat → Int → Prop) (G : Nat → List Fe) (n : Nat) (w' : World) (e : Ending) : Prop :=
 ∃ A k c r, e = .returned (.tuple #[.slice A k c, .int .i64 r]) ∧ R n r ∧ (r = 0 → k = (G n).length ∧ k ≤ c ∧ c ≤ maxLen ∧ Fes w' w'.heap.size A (G n))
theorem TryR.keep {R : Nat → Int → Prop} {G : Nat → List Fe} {n : Nat} {w w' : World} {e : Ending} (h : TryR R G n w e) (hk : Below w.heap.size w w') : TryR R G n w' e := by
 obtain ⟨A, k, c, r, h1, h2, h3⟩ := h;exact ⟨A, k, c, r, h1, h2, fun e => by obtain ⟨a, b, d, f⟩ := h3 e; exact ⟨a, b, d, f.keep hk hk.size⟩⟩
theorem place_own (A : Option Addr) (cap B : Nat) (l : List Fe) (S : Shp) (p : Nat) (w : World) (h : Fes w B A l) (hB : B ≤ w.heap.size) (hn : l.length ≤ 500000) (hw : S.Wf) (hf : ∀ f ∈ l, FeOk f) (hT : Tab w) (hok : S.ok = true) (h1 : 1 ≤ p) (h16 : p ≤ 16) (hr : p ≤ roomF S l) :
  Calls Tryz.prog 52 #[.slice A l.length cap, shV S, .int .i64 (p : Nat)] w fun e w' => ∃ b off cap', e = .returned (.tuple #[.slice (some ⟨b, off, none⟩) p cap', .int .i64 0]) ∧ p ≤ cap' ∧ cap' ≤ maxLen ∧ Below w.heap.size w w' ∧ Hid (Fes w' w'.heap.size (some ⟨b, off, none⟩) (placeF S l p)) :=
 (place_ok A cap B l S p w h hB hn hw hf hT hok h1 h16 hr).mono (by
  rintro e w' ⟨A', cap', he, hb, hz⟩;obtain ⟨Z, zp, za, ho⟩ := hz.out;rw [order_is (fitsL_len S l) zp za] at ho;have hlen : (placeF S l p).length = p := placeF_len hr;have hcp : p ≤ cap' ∧ cap' ≤ maxLen := by
   rcases ho.2 with ⟨e1, _⟩ | ⟨b, cap, cu, e1, h5, h6, h7, h8, h9⟩
   ·injection e1 with e3 e4 e5; omega
   ·injection e1 with e3 e4 e5; omega
  have hfe : Fes w' w'.heap.size A' (placeF S l p) := fe_own (c := cap') (by rw [hlen]; exact ho);rcases hfe with h0 | ⟨b, off, rfl, hbl, hx⟩
  ·rw [h0] at hlen; simp at hlen; omega
  ·exact ⟨b, off, cap', he, hcp.1, hcp.2, hb, Hq (.inr ⟨b, off, rfl, hbl, hx⟩)⟩)
set_option maxHeartbeats 8000000 in
theorem placed_any (A : Option Addr) (cap B : Nat) (l : List Fe) (g c : Int) (S : Shp) (p : Nat) (w : World) (h : Fes w B A l) (hB : B ≤ w.heap.size) (hn : l.length ≤ 500000) (hw : S.Wf) (hf : ∀ f ∈ l, FeOk f) (hT : Tab w) (hok : S.ok = true) (h1 : 1 ≤ p) (h16 : p ≤ 16) :
  Calls Tryz.prog 50 #[.slice A l.length cap, .agg #[.int .i64 g, .int .i64 c], shV S, .int .i64 (p : Nat)] w fun e w' => TryR (fun m r => r = plE S l g c m) (placeF S l) p w' e ∧ Below w.heap.size w w' := by
 obtain ⟨n, hln⟩ : ∃ n, n = l.length := ⟨_, rfl⟩
 obtain ⟨x, hx⟩ : ∃ x : Nat, S.g = x := ⟨S.g.toNat, by unfold Shp.ok at hok; simp at hok; omega⟩
 obtain ⟨y, hy⟩ : ∃ y : Nat, S.c = y := ⟨S.c.toNat, by unfold Shp.ok at hok; simp at hok; omega⟩
 have hU := Hq (fun W => show Calls Tryz.prog 58 #[.agg #[.int .i64 (x : Int), .int .i64 (y : Int), .int .i64 S.mn, .int .i64 S.mx], .int .i64 (p : Int)] W (fun e w' => e = .returned (.tuple #[.agg #[.int .i64 ((x * p : Nat) : Int), .int .i64 ((y * p : Nat) : Int)], .int .i64 0]) ∧ Below W.heap.size W w') from
  units_ok x y S.mn S.mx p W (by rw [← hx, ← hy]; exact hw) (by rw [← hx, ← hy]; exact hok) h16)
 by_cases hr : roomF S l < p
 ·have hP := Hq (fun W (hk : Below w.heap.size w W) => show Calls Tryz.prog 52 #[.slice A n cap, .agg #[.int .i64 (x : Int), .int .i64 (y : Int), .int .i64 S.mn, .int .i64 S.mx], .int .i64 (p : Int)] W (fun e w' => e = .returned (.tuple #[.slice none 0 0, .int .i64 7]) ∧ Below W.heap.size W w') from by
   have h9 := place_full A cap W.heap.size l S p W (Fes.keep (Rows.imp h hB fun _ _ _ _ h => h) hk hk.size) (Nat.le_refl _) hn hw hf (hT.below hk hT.size) hok h1 h16 hr;unfold shV at h9;rw [← hln, hx, hy] at h9;exact h9)
  have HE := Hq (show plE S l g c p = 7 from by unfold plE; rw [if_pos hr]);unfold shV;rw [← hln, hx, hy];clear h hB hn hw hf hT hok h1 h16 hr hx hy hln;obtain ⟨B0, hB0⟩ := nx (w.heap.size);rw [← hB0];have HB0 := Hq hB0;clear hB0;have HBel := Hq (Below.refl w.heap.size w);have hlow : w.heap.size ≤ w.heap.size := Nat.le_refl _;go_enter Tryz.func50, Tryz.ntmps50;go_wp2_with fail;obtain ⟨V1, hV1⟩ := nx ((w.alloc (.cells #[.int .i64 g, .int .i64 c] 42)).alloc (.cells #[.int .i64 (x : Int), .int .i64 (y : Int), .int .i64 S.mn, .int .i64 S.mx] 32));rw [← hV1];have hzV1 := sz2 hV1;replace HBel := be2 hV1 HBel hlow;have B_f := Hq (new20 hV1);have B_s := Hq (new21 hV1);obtain ⟨N_f, hN_f⟩ := nx (w.heap.size);obtain ⟨N_s, hN_s⟩ := nx (w.heap.size + 1);(try rw [← hN_s]);rw [← hN_s] at B_s;(try rw [← hN_f]);rw [← hN_f] at B_f;have l_f : N_f < V1.heap.size := by omega
  have l_s : N_s < V1.heap.size := by omega
  have g_f : w.heap.size ≤ N_f := by omega
  have g_s : w.heap.size ≤ N_s := by omega
  have d_f_s : N_f < N_s := by omega
  replace hlow : w.heap.size ≤ V1.heap.size := by omega
  clear hV1 hzV1 hN_f hN_s;obtain ⟨s0, s1, s2, s3⟩ := cells4 B_s.out;go_wp2_with fail;refine (hP.out V1 HBel.out).mono ?_;rintro e U2 ⟨rfl, hb9⟩;clear s0 s1 s2 s3;have hs9 := hb9.size;replace HBel := bt9 HBel hb9 hlow;replace B_f := bb9 hb9 B_f l_f;replace B_s := bb9 hb9 B_s l_s;replace l_f : N_f < U2.heap.size := by omega
  replace l_s : N_s < U2.heap.size := by omega
  replace hlow : w.heap.size ≤ U2.heap.size := by omega
  clear hb9 hs9;go_wp2
  go_ret2
  exact ⟨⟨_, _, _, 7, rfl, HE.out.symm, fun e => by cases e⟩, by rw [HB0.out]; exact HBel.out⟩
 ·have hP := Hq (fun W (hk : Below w.heap.size w W) => show Calls Tryz.prog 52 #[.slice A n cap, .agg #[.int .i64 (x : Int), .int .i64 (y : Int), .int .i64 S.mn, .int .i64 S.mx], .int .i64 (p : Int)] W (fun e w' => ∃ b off cap', e = .returned (.tuple #[.slice (some ⟨b, off, none⟩) p cap', .int .i64 0]) ∧ p ≤ cap' ∧ cap' ≤ maxLen ∧ Below W.heap.size W w' ∧ Hid (Fes w' w'.heap.size (some ⟨b, off, none⟩) (placeF S l p))) from by
   have h9 := place_own A cap W.heap.size l S p W (Fes.keep (Rows.imp h hB fun _ _ _ _ h => h) hk hk.size) (Nat.le_refl _) hn hw hf (hT.below hk hT.size) hok h1 h16 (by omega);unfold shV at h9;rw [← hln, hx, hy] at h9;exact h9)
  have hlen : (placeF S l p).length = p := placeF_len (by omega);have HE := Hq (show plE S l g c p = if ((x * p : Nat) : Int) ≤ g ∧ ((y * p : Nat) : Int) ≤ c then 0 else 6 from by unfold plE; rw [if_neg hr, hx, hy]; simp);have HL := Hq hlen;unfold shV;rw [← hln, hx, hy];clear h hB hn hw hf hT hok h1 h16 hr hx hy hln hlen;obtain ⟨X, hX⟩ : ∃ X : Int, X = ((x * p : Nat) : Int) := ⟨_, rfl⟩
  obtain ⟨Y, hY⟩ : ∃ Y : Int, Y = ((y * p : Nat) : Int) := ⟨_, rfl⟩
  rw [← hX, ← hY] at hU HE;clear hX hY;obtain ⟨B0, hB0⟩ := nx (w.heap.size);rw [← hB0];have HB0 := Hq hB0;clear hB0;have HBel := Hq (Below.refl w.heap.size w);have hlow : w.heap.size ≤ w.heap.size := Nat.le_refl _;go_enter Tryz.func50, Tryz.ntmps50;go_wp2_with fail;obtain ⟨V1, hV1⟩ := nx ((w.alloc (.cells #[.int .i64 g, .int .i64 c] 42)).alloc (.cells #[.int .i64 (x : Int), .int .i64 (y : Int), .int .i64 S.mn, .int .i64 S.mx] 32));rw [← hV1];have hzV1 := sz2 hV1;replace HBel := be2 hV1 HBel hlow;have B_f := Hq (new20 hV1);have B_s := Hq (new21 hV1);obtain ⟨N_f, hN_f⟩ := nx (w.heap.size);obtain ⟨N_s, hN_s⟩ := nx (w.heap.size + 1);(try rw [← hN_s]);rw [← hN_s] at B_s;(try rw [← hN_f]);rw [← hN_f] at B_f;have l_f : N_f < V1.heap.size := by omega
  have l_s : N_s < V1.heap.size := by omega
  have g_f : w.heap.size ≤ N_f := by omega
  have g_s : w.heap.size ≤ N_s := by omega
  have d_f_s : N_f < N_s := by omega
  replace hlow : w.heap.size ≤ V1.heap.size := by omega
  clear hV1 hzV1 hN_f hN_s;obtain ⟨s0, s1, s2, s3⟩ := cells4 B_s.out;go_wp2_with fail;refine (hP.out V1 HBel.out).mono ?_;rintro e U2 ⟨b, off, cap2, rfl, hc1, hc2, hb9, hfe⟩;clear s0 s1 s2 s3;have hs9 := hb9.size;have HF := Hq (Ai hc1 (Ai hc2 (Ai hfe.out (show U2.heap.size ≤ U2.heap.size from Nat.le_refl _))));clear hc1 hc2 hfe;replace HBel := bt9 HBel hb9 hlow;replace B_f := bb9 hb9 B_f l_f;replace B_s := bb9 hb9 B_s l_s;replace l_f : N_f < U2.heap.size := by omega
  replace l_s : N_s < U2.heap.size := by omega
  replace hlow : w.heap.size ≤ U2.heap.size := by omega
  clear hb9 hs9;obtain ⟨s0, s1, s2, s3⟩ := cells4 B_s.out;go_wp2_with fail;refine (hU.out U2).mono ?_;rintro e U3 ⟨rfl, hb9⟩;clear s0 s1 s2 s3;have hs9 := hb9.size;have HF2 := Hq (HF.out.2.2.1.keep hb9 hb9.size);replace HBel := bt9 HBel hb9 hlow;replace B_f := bb9 hb9 B_f l_f;replace B_s := bb9 hb9 B_s l_s;replace l_f : N_f < U3.heap.size := by omega
  replace l_s : N_s < U3.heap.size := by omega
  replace hlow : w.heap.size ≤ U3.heap.size := by omega
  clear hb9 hs9;by_cases h5 : g < X
  ·have t1 : decide (g < X) = true := decide_eq_true h5;have HR := Hq (show plE S l g c p = 6 from by rw [HE.out, if_neg (by omega)]);clear h5;obtain ⟨f0, f1⟩ := cells2 B_f.out;go_wp2;clear f0 f1
   go_ret2
   exact ⟨⟨_, _, _, 6, rfl, HR.out.symm, fun e => by cases e⟩, by rw [HB0.out]; exact HBel.out.alloc hlow _⟩
  by_cases h6 : c < Y
  ·have t1 : decide (g < X) = false := decide_eq_false h5;have t2 : decide (c < Y) = true := decide_eq_true h6;have HR := Hq (show plE S l g c p = 6 from by rw [HE.out, if_neg (by omega)]);clear h5 h6;obtain ⟨f0, f1⟩ := cells2 B_f.out;go_wp2;clear f0 f1
   go_ret2
   exact ⟨⟨_, _, _, 6, rfl, HR.out.symm, fun e => by cases e⟩, by rw [HB0.out]; exact HBel.out.alloc hlow _⟩
  ·have t1 : decide (g < X) = false := decide_eq_false h5;have t2 : decide (c < Y) = false := decide_eq_false h6;have HR := Hq (show plE S l g c p = 0 from by rw [HE.out, if_pos (by omega)]);clear h5 h6;obtain ⟨f0, f1⟩ := cells2 B_f.out;go_wp2;clear f0 f1
   go_ret2
   have hb9 := (Below.refl U3.heap.size U3).alloc (Nat.le_refl _) (.cells #[.int .i64 X, .int .i64 Y] 42);exact ⟨⟨_, _, _, 0, rfl, HR.out.symm, fun _ => ⟨HL.out.symm, HF.out.1, HF.out.2.1, HF2.out.keep hb9 hb9.size⟩⟩, by rw [HB0.out]; exact HBel.out.alloc hlow _⟩
end
end Go.Proofs.YtkkkhonjcbhelaaGreatDoor
