/- What comes in to gang's laws; do, Do, and the document's example. -/
import Derived.Test.YtbomdannlcclkaaReads
import Derived.Test.YtbomdannlcclkaaGaRefA
set_option linter.unusedVariables false
set_option maxRecDepth 100000
namespace Go.Proofs.Ytbomdannlcclkaa
open Go.ChangeShapes Go.WideShapes Go.ChangeAt Go.RowKit Go.Deep
def gaC (a : Ga) : List Value := [.int .i64 a.kd, .int .i64 a.n, .int .i64 a.m, .int .i64 a.k, .int .i64 a.j.id, .int .i64 a.j.q, .int .i64 a.j.p, .int .i64 a.j.r, .int .i64 a.j.g, .int .i64 a.j.c, .int .i64 a.j.mn, .int .i64 a.j.mx]
def gaA (a : Ga) : Array Value := #[.int .i64 a.kd, .int .i64 a.n, .int .i64 a.m, .int .i64 a.k, .int .i64 a.j.id, .int .i64 a.j.q, .int .i64 a.j.p, .int .i64 a.j.r, .int .i64 a.j.g, .int .i64 a.j.c, .int .i64 a.j.mn, .int .i64 a.j.mx]
def gaV (a : Ga) : Value := .agg (gaA a)
theorem gaC_len (a : Ga) : (gaC a).length = 12 := rfl
structure JbW (j : Jb) : Prop where
  id : (Lit.int .i64 j.id).wf = true
  q : (Lit.int .i64 j.q).wf = true
  p : (Lit.int .i64 j.p).wf = true
  r : (Lit.int .i64 j.r).wf = true
  g : (Lit.int .i64 j.g).wf = true
  c : (Lit.int .i64 j.c).wf = true
  mn : (Lit.int .i64 j.mn).wf = true
  mx : (Lit.int .i64 j.mx).wf = true
structure GaW (a : Ga) : Prop where
  kd : (Lit.int .i64 a.kd).wf = true
  n : (Lit.int .i64 a.n).wf = true
  m : (Lit.int .i64 a.m).wf = true
  k : (Lit.int .i64 a.k).wf = true
  j : JbW a.j
abbrev Gas (w : World) (B : Nat) (A : Option Addr) (l : List Ga) : Prop := Els gaC 12 w B A l
def shpShG : Sh := .struct (.cons (.int .i64) (.cons (.int .i64) (.cons (.int .i64) (.cons (.int .i64) .nil))))
def jobShG : Sh := .struct (.cons (.int .i64) (.cons (.int .i64) (.cons (.int .i64) (.cons (.int .i64) (.cons shpShG .nil)))))
def gaSh : Sh := .struct (.cons (.int .i64) (.cons (.int .i64) (.cons (.int .i64) (.cons (.int .i64) (.cons jobShG .nil)))))
theorem ga_lift {w : World} {B : Nat} {cs : List Value} (hl : cs.length = 12) (h : gaSh.Holds w B cs) : ∃ a : Ga, cs = gaC a ∧ GaW a := by
  match cs, hl with
  | [a, b, c, d, e, f, g, i, j, k, l, m], _ =>
    simp [gaSh, jobShG, shpShG, Sh.Holds, Sh.size] at h
    obtain ⟨⟨x0, rfl, h0⟩, ⟨x1, rfl, h1⟩, ⟨x2, rfl, h2⟩, ⟨x3, rfl, h3⟩, ⟨x4, rfl, h4⟩, ⟨x5, rfl, h5⟩, ⟨x6, rfl, h6⟩, ⟨x7, rfl, h7⟩, ⟨x8, rfl, h8⟩, ⟨x9, rfl, h9⟩, ⟨x10, rfl, h10⟩, ⟨x11, rfl, h11⟩⟩ := h
    exact ⟨⟨x0, x1, x2, x3, ⟨x4, x5, x6, x7, x8, x9, x10, x11⟩⟩, rfl, ⟨h0, h1, h2, h3, ⟨h4, h5, h6, h7, h8, h9, h10, h11⟩⟩⟩
theorem jb_lift {w : World} {B : Nat} {cs : List Value} (hl : cs.length = 8) (h : jobShG.Holds w B cs) : ∃ j : Jb, cs = jbC j ∧ JbW j := by
  match cs, hl with
  | [a, b, c, d, e, f, g, i], _ =>
    simp [jobShG, shpShG, Sh.Holds, Sh.size] at h
    obtain ⟨⟨x4, rfl, h4⟩, ⟨x5, rfl, h5⟩, ⟨x6, rfl, h6⟩, ⟨x7, rfl, h7⟩, ⟨x8, rfl, h8⟩, ⟨x9, rfl, h9⟩, ⟨x10, rfl, h10⟩, ⟨x11, rfl, h11⟩⟩ := h
    exact ⟨⟨x4, x5, x6, x7, x8, x9, x10, x11⟩, rfl, ⟨h4, h5, h6, h7, h8, h9, h10, h11⟩⟩
section
variable {H : Type} {enc : TypeId × Value → H} {w : World} {held : Bool} {r : Reach} {b0 : Nat} {v : Value} {d : DataW H} {p : List MemPlace}
theorem gas_of (hv : Value.okWide Try.prog w r b0 30 v) (h : DataW.Trod enc Try.prog w 0 (fun _ => true) held 30 v d p) :
    ∃ (A : Option Addr) (c : Nat) (l : List Ga), v = .slice A l.length c ∧ l.length ≤ c ∧ c ≤ maxLen ∧ Gas w w.heap.size A l ∧ ∀ a ∈ l, GaW a :=
  rows_of (e := gaSh) (arg_slice (sh := .slice gaSh) Try.underlying30 (by kernel_rfl) hv h) fun b o cs _ hl hat hh => by
    obtain ⟨u, e, hu⟩ := ga_lift hl hh
    subst e
    exact ⟨u, hat, hu⟩
end
theorem results_nrn {fn : Func} {q s t : Tmp} (h : fn.results = #[.tmp q, .cell s 42, .tmp t]) (tmps : Array Value) (w : World) (g : Nat) (x : Rc) (u v : Value)
    (hq : tmps.getD q undef = u) (hs : tmps.getD s undef = .pointer (some ⟨g, 0, none⟩)) (hg : w.heap[g]? = some (rcO x)) (ht : tmps.getD t undef = v) : (results fn tmps).run Try.prog w = .ok (.tuple #[u, rcV x, v]) w := by
  have hq' : tmps[q]?.getD undef = u := by simpa using hq
  have hs' : tmps[s]?.getD undef = .pointer (some ⟨g, 0, none⟩) := by simpa using hs
  have ht' : tmps[t]?.getD undef = v := by simpa using ht
  simp [results, h, hq', hs', ht', asAddr, run_loadVar_row w g 42 42 (rcA x) (0, 0) _ hg Try.underlying42 rfl (by kernel_rfl), rcV]
theorem wpList_load_jb {ops : Array Oper} {rest : List Oper} {o : Oper} {a : Act} {w : World} {Q : Exit → Act → World → Prop} (hgd : o.guard = none) (y : Operand) (ho : o.op = .load 40 y)
    (g off : Nat) (j : Jb) (hy : a.eval y = .pointer (some ⟨g, off, none⟩)) (hx : CellsAt w g off (jbC j)) (h : wpList Try.prog ops Q rest (a.put o.dst (.agg #[.int .i64 j.id, .int .i64 j.q, .int .i64 j.p, .int .i64 j.r, .int .i64 j.g, .int .i64 j.c, .int .i64 j.mn, .int .i64 j.mx])) w) : wpList Try.prog ops Q (o :: rest) a w := by
  refine wpList_plain hgd fun K hK => ?_
  unfold Oper.wp
  rw [run_load_jb ho hy hx]
  exact hK _ _ h
theorem Foot.young {F F' : Nat → Prop} {w w1 w2 : World} (h : Foot F w w1) (k : Foot F' w1 w2) (hF : ∀ i, F' i → F i ∨ w.heap.size ≤ i) : Foot F w w2 := h.trans k hF

set_option maxRecDepth 100000 in
set_option maxHeartbeats 8000000 in
theorem do_any (T : TypeId) (p : Nat) (F : Nat → Prop) (L : List Rc) (a : Ga) (w : World) (h : GaObj T w p F L) :
    Calls Try.prog 14 #[.pointer (some ⟨p, 0, none⟩), gaV a] w fun e w' => e = .returned (.tuple #[.int .i64 (GL.actN L a), rcV (GL.actR L a), .int .i64 (GL.actE L a)]) ∧ ∃ F', GaObj T w' p F' (GL.actL L a) ∧ Foot F w w' ∧ ∀ i, F' i → F i ∨ w.heap.size ≤ i := by
  obtain ⟨kd, n, m, k, j⟩ := a
  have hb1 := heap_alloc_new w (.cells (gaA ⟨kd, n, m, k, j⟩) 46)
  have hB1 := (Below.refl w.heap.size w).alloc (Nat.le_refl _) (.cells (gaA ⟨kd, n, m, k, j⟩) 46)
  have hb2 := rc_new (w.alloc (.cells (gaA ⟨kd, n, m, k, j⟩) 46)) GL.zr
  have hB2 := hB1.alloc hB1.size (rcO GL.zr)
  have hb1' := (Below.heap_alloc (w.alloc (.cells (gaA ⟨kd, n, m, k, j⟩) 46)) (rcO GL.zr) _ (blk_lt hb1)).trans hb1
  have b0 : ((w.alloc (.cells (gaA ⟨kd, n, m, k, j⟩) 46)).alloc (rcO GL.zr)).cell? ⟨w.heap.size, 0, none⟩ = some (.int .i64 kd) := cell_blk (i := 0) hb1' rfl
  have b1 : ((w.alloc (.cells (gaA ⟨kd, n, m, k, j⟩) 46)).alloc (rcO GL.zr)).cell? ⟨w.heap.size, 1, none⟩ = some (.int .i64 n) := cell_blk (i := 1) hb1' rfl
  have b2 : ((w.alloc (.cells (gaA ⟨kd, n, m, k, j⟩) 46)).alloc (rcO GL.zr)).cell? ⟨w.heap.size, 2, none⟩ = some (.int .i64 m) := cell_blk (i := 2) hb1' rfl
  have b3 : ((w.alloc (.cells (gaA ⟨kd, n, m, k, j⟩) 46)).alloc (rcO GL.zr)).cell? ⟨w.heap.size, 3, none⟩ = some (.int .i64 k) := cell_blk (i := 3) hb1' rfl
  have b4 : ((w.alloc (.cells (gaA ⟨kd, n, m, k, j⟩) 46)).alloc (rcO GL.zr)).cell? ⟨w.heap.size, 4, none⟩ = some (.int .i64 j.id) := cell_blk (i := 4) hb1' rfl
  have bj : CellsAt ((w.alloc (.cells (gaA ⟨kd, n, m, k, j⟩) 46)).alloc (rcO GL.zr)) w.heap.size 4 (jbC j) := fun r v hr => by
    refine cell_blk hb1' ?_
    have hl := (List.getElem?_eq_some_iff.1 hr).1
    simp [jbC] at hl
    obtain rfl | rfl | rfl | rfl | rfl | rfl | rfl | rfl : r = 0 ∨ r = 1 ∨ r = 2 ∨ r = 3 ∨ r = 4 ∨ r = 5 ∨ r = 6 ∨ r = 7 := by omega
    all_goals (simp [jbC] at hr; subst hr; rfl)
  rw [show (w.alloc (.cells (gaA ⟨kd, n, m, k, j⟩) 46)).heap.size = w.heap.size + 1 by simp] at hb2
  have lz : w.heap.size + 1 < ((w.alloc (.cells (gaA ⟨kd, n, m, k, j⟩) 46)).alloc (rcO GL.zr)).heap.size := by simp
  have hO := h.keep hB2
  have HZ := Lib.hid (And.intro hb2 lz)
  have HB := Lib.hid (And.intro hB2 h)
  have HA := Lib.hid (add_any T p F L j n _ hO)
  have HR := Lib.hid (reserve_any T p F L j.id n m k _ hO)
  have HS := Lib.hid (start_any T p F L j.id n _ hO)
  have HT := Lib.hid (turn_any T p F L j.id n _ hO)
  have HY := Lib.hid (resize_any T p F L j.id n _ hO)
  have Hl := Lib.hid h.lt
  have HJ := Lib.hid bj
  clear h hb1 hb2 hB1 hB2 hb1' hO lz bj
  simp only [rcO, rcA, gaV, gaA, GL.zr] at b0 b1 b2 b3 b4 HZ HB HA HR HS HT HY HJ ⊢
  by_cases h0 : kd = 0
  · have HN : Hid (GL.actN L ⟨kd, n, m, k, j⟩ = 0 ∧ GL.actR L ⟨kd, n, m, k, j⟩ = GL.addR L j n ∧ GL.actE L ⟨kd, n, m, k, j⟩ = GL.addE L j.id ∧ GL.actL L ⟨kd, n, m, k, j⟩ = GL.addL L j n) := Lib.hid (by
      unfold GL.actN GL.actR GL.actE GL.actL
      simp [h0])
    rw [HN.out.1, HN.out.2.1, HN.out.2.2.1, HN.out.2.2.2]
    obtain ⟨r, hr⟩ : ∃ r, r = GL.addR L j n := ⟨_, rfl⟩
    obtain ⟨ae, hae⟩ : ∃ ae, ae = GL.addE L j.id := ⟨_, rfl⟩
    rw [← hr, ← hae] at HA ⊢
    have t0 : (kd == 0) = true := by simp [h0]
    clear HR HS HT HY hr hae h0
    go_enter Try.func14, Try.ntmps14
    go_wp2_with (first
      | (refine wpList_load_jb rfl _ rfl w.heap.size 4 j rfl HJ.out ?_)
      | fail)
    refine HA.out.mono ?_
    rintro e w1 ⟨rfl, F', hO1, hft, hyg⟩
    have hZ1 := (hft.block (w.heap.size + 1) HZ.out.2 (fun e => by have := Hl.out _ e; omega)).trans HZ.out.1
    have hsz1 := hft.size
    have lz1 : w.heap.size + 1 < w1.heap.size := Nat.lt_of_lt_of_le HZ.out.2 hsz1
    have hn1 := rc_new w1 GL.zr
    have hBn : Below w1.heap.size w1 (w1.alloc (rcO GL.zr)) := (Below.refl _ w1).alloc (Nat.le_refl _) _
    have HN1 := Lib.hid hn1
    obtain ⟨w2, hw2⟩ : ∃ w2, w2 = (w1.alloc (rcO GL.zr)).setRow w1.heap.size (rcA r) := ⟨_, rfl⟩
    have hB2 : Below w1.heap.size w1 w2 := by rw [hw2]; exact below_row hBn (Nat.le_refl _) _
    have h2n : w2.heap[w1.heap.size]? = some (rcO r) := by rw [hw2]; exact setRow_rc (old := GL.zr) hn1
    have HW2 := Lib.hid hw2
    have hZ2 := (hB2.block _ lz1).trans hZ1
    have HZ2 := Lib.hid hZ2
    have H1 := Lib.hid (And.intro hO1 (And.intro hft (And.intro hyg (And.intro hB2 h2n))))
    have lz2 : w.heap.size + 1 < w2.heap.size := Nat.lt_of_lt_of_le lz1 hB2.size
    have lb2 : w1.heap.size < w2.heap.size := blk_lt h2n
    clear hZ1 hO1 hft hyg HA hn1 hBn hB2 h2n hZ2 hw2 hsz1 b0 b1 b2 b3 b4
    simp only [rcO, rcA, GL.zr] at HN1
    have HW3 := HW2
    simp only [rcO, rcA, GL.zr] at HW3
    go_wp2_with (first
      | (refine wpList_store_rc rfl _ _ rfl w1.heap.size r rfl rfl GL.zr HN1.out ?_)
      | fail)
    simp only [rcA] at *
    rw [← HW3.out]
    refine held_begin (fun w' : World => RcAt w' w1.heap.size 0 r) (by kernel_rfl) ?_
    have hS0 : (fun w' : World => RcAt w' w1.heap.size 0 r) w2.drew := rcAt_of H1.out.2.2.2.2
    have hZd : w2.drew.heap[w.heap.size + 1]? = some (rcO GL.zr) := HZ2.out
    have HBd := Lib.hid (show Below w2.heap.size w2 w2.drew from (Below.refl _ _).drew)
    have lbd : w1.heap.size < w2.drew.heap.size := lb2
    clear lz2 lb2
    generalize w2.drew = wd at hS0 hZd HBd lbd ⊢
    refine held_take (v := ?_) 0 24 rfl rfl (by kernel_rfl) (by kernel_rfl) (by kernel_rfl) (fun _ _ _ h => h) ⟨by rfl, ?_⟩ hS0 ?_
    rotate_left
    · intro w' hw'; refine Eq.trans (run_load_rc (by rfl) (by rfl) hw') ?_; (with_reducible rfl)
    simp only [Act.put, List.setIfInBounds_toArray, List.set_cons_zero, List.set_cons_succ]
    refine held_take (v := ?_) 1 25 rfl rfl (by kernel_rfl) (by kernel_rfl) (by kernel_rfl) (fun _ _ _ h => h) ⟨by rfl, ?_⟩ hS0 ?_
    rotate_left
    · intro w' hw'; go_simp; (try with_reducible rfl)
    simp only [Act.put, List.setIfInBounds_toArray, List.set_cons_zero, List.set_cons_succ]
    refine held_take (v := ?_) 2 4 rfl rfl (by kernel_rfl) (by kernel_rfl) (by kernel_rfl) (fun _ _ _ h => h) ⟨by rfl, ?_⟩ hS0 ?_
    rotate_left
    · intro w' hw'; go_simp; (try with_reducible rfl)
    simp only [Act.put, List.setIfInBounds_toArray, List.set_cons_zero, List.set_cons_succ]
    refine held_one 3 rfl (by kernel_rfl) (by rfl) (fun K hK => ?_)
    simp only [Go.wp_at_zero, Go.wp_at_succ]
    refine wp_store_row 42 _ _ rfl (w.heap.size + 1) (rcA r) rfl rfl 42 (rcA GL.zr) hZd (by kernel_rfl) rfl (rcA_one _) ?_
    have hRBb : w1.heap.size ≠ w.heap.size + 1 := by omega
    have hb4 : (wd.setRow (w.heap.size + 1) (rcA r)).heap[w.heap.size + 1]? = some (rcO r) := setRow_rc (old := GL.zr) hZd
    have HS4 : RcAt (wd.setRow (w.heap.size + 1) (rcA r)) w1.heap.size 0 r := CellsAt.of hS0 (setRow_other wd (w.heap.size + 1) _ _ hRBb)
    obtain ⟨w4, hw4⟩ : ∃ w4, w4 = wd.setRow (w.heap.size + 1) (rcA r) := ⟨_, rfl⟩
    rw [← hw4] at hb4 HS4 ⊢
    have HW4 := Lib.hid hw4
    refine hK.out _ _ HS4 ?_
    clear hK K hw4 hZd
    simp only [Act.put]
    refine held_take (v := ?_) 4 6 rfl rfl (by kernel_rfl) (by kernel_rfl) (by kernel_rfl) (fun _ _ _ h => h) ⟨by rfl, ?_⟩ HS4 ?_
    rotate_left
    · intro w' hw'; go_simp; (try with_reducible rfl)
    simp only [Act.put, List.setIfInBounds_toArray, List.set_cons_zero, List.set_cons_succ]
    refine wpAnyH_done (by kernel_rfl) ?_ _
    have HB4 := Lib.hid hb4
    clear hb4 HS4 hS0
    go_wp2
    refine bodyPost_ret (results_nrn Try.results14 _ _ (w.heap.size + 1) r (.int .i64 0) (.int .i64 ae) rfl rfl HB4.out rfl) rfl ?_
    have hZb : ¬ F (w.heap.size + 1) := fun e => by have := Hl.out _ e; omega
    have hF1 : Foot F w w4 := by
      rw [HW4.out]
      exact foot_row (((Foot.of_below (F := F) HB.out.1).trans H1.out.2.1 fun i hi => .inl hi).trans ((Foot.of_below (F := F) H1.out.2.2.2.1).trans (Foot.of_below (F := F) HBd.out) fun i hi => .inl hi) fun i hi => .inl hi) (.inr (by omega)) _
    have hnF' : ∀ i, F' i → i ≠ w.heap.size + 1 := fun i hi => by
      rcases H1.out.2.2.1 i hi with e | e
      · have := Hl.out _ e; omega
      · have := HZ.out.2; omega
    refine ⟨rfl, F', ?_, hF1, fun i hi => ?_⟩
    · rw [HW4.out]
      have hOd := (H1.out.1.keep H1.out.2.2.2.1).keep HBd.out
      exact hOd.of fun i hi => setRow_other wd (w.heap.size + 1) i _ (hnF' i hi)
    · rcases H1.out.2.2.1 i hi with e | e
      · exact .inl e
      · exact .inr (by have := HB.out.1.size; omega)
  · by_cases h1 : kd = 1
    · have HN : Hid (GL.actN L ⟨kd, n, m, k, j⟩ = 0 ∧ GL.actR L ⟨kd, n, m, k, j⟩ = GL.zr ∧ GL.actE L ⟨kd, n, m, k, j⟩ = GL.chE L j.id (GL.resE · n) ∧ GL.actL L ⟨kd, n, m, k, j⟩ = GL.chL L j.id (GL.resE · n) (GL.resR · n m k)) := Lib.hid (by
        unfold GL.actN GL.actR GL.actE GL.actL
        simp [h1])
      rw [HN.out.1, HN.out.2.1, HN.out.2.2.1, HN.out.2.2.2]
      have t0 : (kd == 0) = false := by simp [h0]
      have t1 : (kd == 1) = true := by simp [h1]
      clear HA HS HT HY h0 h1
      go_enter Try.func14, Try.ntmps14
      go_wp2_with fail
      refine HR.out.mono ?_
      rintro e w1 ⟨rfl, hO1, hft⟩
      have hZ1 := (hft.block (w.heap.size + 1) HZ.out.2 (fun e => by have := Hl.out _ e; omega)).trans HZ.out.1
      have HZ1 : Hid (w1.heap[w.heap.size + 1]? = some (rcO GL.zr)) := Lib.hid hZ1
      have H1 := Lib.hid (And.intro hO1 hft)
      clear hZ1 hO1 hft HR b0 b1 b2 b3 b4
      go_wp2_with (refine wpList_store_rc rfl _ _ rfl (w.heap.size + 1) GL.zr rfl rfl GL.zr HZ1.out ?_)
      refine bodyPost_ret (results_nrn Try.results14 _ _ (w.heap.size + 1) GL.zr (.int .i64 (0)) (.int .i64 (GL.chE L j.id (GL.resE · n))) rfl rfl (setRow_rc (old := GL.zr) HZ1.out) rfl) rfl ?_
      refine ⟨rfl, F, H1.out.1.of fun i hi => setRow_other w1 (w.heap.size + 1) i _ (by have := Hl.out _ hi; omega), foot_row ((Foot.of_below (F := F) HB.out.1).trans H1.out.2 fun i hi => .inl hi) (.inr (by omega)) _, fun i hi => .inl hi⟩
    · by_cases h2 : kd = 2
      · have HN : Hid (GL.actN L ⟨kd, n, m, k, j⟩ = GL.staN L j.id n ∧ GL.actR L ⟨kd, n, m, k, j⟩ = GL.zr ∧ GL.actE L ⟨kd, n, m, k, j⟩ = GL.chE L j.id (GL.staE · n) ∧ GL.actL L ⟨kd, n, m, k, j⟩ = GL.chL L j.id (GL.staE · n) (GL.staR · n)) := Lib.hid (by
          unfold GL.actN GL.actR GL.actE GL.actL
          simp [h2])
        rw [HN.out.1, HN.out.2.1, HN.out.2.2.1, HN.out.2.2.2]
        have t0 : (kd == 0) = false := by simp [h0]
        have t1 : (kd == 1) = false := by simp [h1]
        have t2 : (kd == 2) = true := by simp [h2]
        clear HA HR HT HY h0 h1 h2
        go_enter Try.func14, Try.ntmps14
        go_wp2_with fail
        refine HS.out.mono ?_
        rintro e w1 ⟨rfl, hO1, hft⟩
        have hZ1 := (hft.block (w.heap.size + 1) HZ.out.2 (fun e => by have := Hl.out _ e; omega)).trans HZ.out.1
        have HZ1 : Hid (w1.heap[w.heap.size + 1]? = some (rcO GL.zr)) := Lib.hid hZ1
        have H1 := Lib.hid (And.intro hO1 hft)
        clear hZ1 hO1 hft HS b0 b1 b2 b3 b4
        go_wp2_with (refine wpList_store_rc rfl _ _ rfl (w.heap.size + 1) GL.zr rfl rfl GL.zr HZ1.out ?_)
        refine bodyPost_ret (results_nrn Try.results14 _ _ (w.heap.size + 1) GL.zr (.int .i64 (GL.staN L j.id n)) (.int .i64 (GL.chE L j.id (GL.staE · n))) rfl rfl (setRow_rc (old := GL.zr) HZ1.out) rfl) rfl ?_
        refine ⟨rfl, F, H1.out.1.of fun i hi => setRow_other w1 (w.heap.size + 1) i _ (by have := Hl.out _ hi; omega), foot_row ((Foot.of_below (F := F) HB.out.1).trans H1.out.2 fun i hi => .inl hi) (.inr (by omega)) _, fun i hi => .inl hi⟩
      · by_cases h3 : kd = 3
        · have HN : Hid (GL.actN L ⟨kd, n, m, k, j⟩ = 0 ∧ GL.actR L ⟨kd, n, m, k, j⟩ = GL.zr ∧ GL.actE L ⟨kd, n, m, k, j⟩ = GL.chE L j.id (GL.turE · n) ∧ GL.actL L ⟨kd, n, m, k, j⟩ = GL.chL L j.id (GL.turE · n) (GL.turR · n)) := Lib.hid (by
            unfold GL.actN GL.actR GL.actE GL.actL
            simp [h3])
          rw [HN.out.1, HN.out.2.1, HN.out.2.2.1, HN.out.2.2.2]
          have t0 : (kd == 0) = false := by simp [h0]
          have t1 : (kd == 1) = false := by simp [h1]
          have t2 : (kd == 2) = false := by simp [h2]
          have t3 : (kd == 3) = true := by simp [h3]
          clear HA HR HS HY h0 h1 h2 h3
          go_enter Try.func14, Try.ntmps14
          go_wp2_with fail
          refine HT.out.mono ?_
          rintro e w1 ⟨rfl, hO1, hft⟩
          have hZ1 := (hft.block (w.heap.size + 1) HZ.out.2 (fun e => by have := Hl.out _ e; omega)).trans HZ.out.1
          have HZ1 : Hid (w1.heap[w.heap.size + 1]? = some (rcO GL.zr)) := Lib.hid hZ1
          have H1 := Lib.hid (And.intro hO1 hft)
          clear hZ1 hO1 hft HT b0 b1 b2 b3 b4
          go_wp2_with (refine wpList_store_rc rfl _ _ rfl (w.heap.size + 1) GL.zr rfl rfl GL.zr HZ1.out ?_)
          refine bodyPost_ret (results_nrn Try.results14 _ _ (w.heap.size + 1) GL.zr (.int .i64 (0)) (.int .i64 (GL.chE L j.id (GL.turE · n))) rfl rfl (setRow_rc (old := GL.zr) HZ1.out) rfl) rfl ?_
          refine ⟨rfl, F, H1.out.1.of fun i hi => setRow_other w1 (w.heap.size + 1) i _ (by have := Hl.out _ hi; omega), foot_row ((Foot.of_below (F := F) HB.out.1).trans H1.out.2 fun i hi => .inl hi) (.inr (by omega)) _, fun i hi => .inl hi⟩
        · have HN : Hid (GL.actN L ⟨kd, n, m, k, j⟩ = 0 ∧ GL.actR L ⟨kd, n, m, k, j⟩ = GL.zr ∧ GL.actE L ⟨kd, n, m, k, j⟩ = GL.chE L j.id (GL.sizE · n) ∧ GL.actL L ⟨kd, n, m, k, j⟩ = GL.chL L j.id (GL.sizE · n) (GL.sizR · n)) := Lib.hid (by
            unfold GL.actN GL.actR GL.actE GL.actL
            simp [h0, h1, h2, h3])
          rw [HN.out.1, HN.out.2.1, HN.out.2.2.1, HN.out.2.2.2]
          have t0 : (kd == 0) = false := by simp [h0]
          have t1 : (kd == 1) = false := by simp [h1]
          have t2 : (kd == 2) = false := by simp [h2]
          have t3 : (kd == 3) = false := by simp [h3]
          clear HA HR HS HT h0 h1 h2 h3
          go_enter Try.func14, Try.ntmps14
          go_wp2_with fail
          refine HY.out.mono ?_
          rintro e w1 ⟨rfl, hO1, hft⟩
          have hZ1 := (hft.block (w.heap.size + 1) HZ.out.2 (fun e => by have := Hl.out _ e; omega)).trans HZ.out.1
          have HZ1 : Hid (w1.heap[w.heap.size + 1]? = some (rcO GL.zr)) := Lib.hid hZ1
          have H1 := Lib.hid (And.intro hO1 hft)
          clear hZ1 hO1 hft HY b0 b1 b2 b3 b4
          go_wp2_with (refine wpList_store_rc rfl _ _ rfl (w.heap.size + 1) GL.zr rfl rfl GL.zr HZ1.out ?_)
          refine bodyPost_ret (results_nrn Try.results14 _ _ (w.heap.size + 1) GL.zr (.int .i64 (0)) (.int .i64 (GL.chE L j.id (GL.sizE · n))) rfl rfl (setRow_rc (old := GL.zr) HZ1.out) rfl) rfl ?_
          refine ⟨rfl, F, H1.out.1.of fun i hi => setRow_other w1 (w.heap.size + 1) i _ (by have := Hl.out _ hi; omega), foot_row ((Foot.of_below (F := F) HB.out.1).trans H1.out.2 fun i hi => .inl hi) (.inr (by omega)) _, fun i hi => .inl hi⟩

set_option maxRecDepth 100000 in
set_option maxHeartbeats 8000000 in
theorem rdo_any (T : TypeId) (p : Nat) (F : Nat → Prop) (L : List Rc) (a : Ga) (w : World) (h : GaObj T w p F L) (hI : GL.Inv L) :
    Calls Try.prog 15 #[.pointer (some ⟨p, 0, none⟩), gaV a] w fun e w' => e = .returned (.tuple #[.int .i64 (GL.actN L a), rcV (GL.actR L a), .int .i64 (GL.actE L a)]) ∧ ∃ F', GaObj T w' p F' (GL.actL L a) ∧ Foot F w w' ∧ ∀ i, F' i → F i ∨ w.heap.size ≤ i := by
  obtain ⟨kd, n, m, k, j⟩ := a
  have hb1 := heap_alloc_new w (.cells (gaA ⟨kd, n, m, k, j⟩) 46)
  have hB1 := (Below.refl w.heap.size w).alloc (Nat.le_refl _) (.cells (gaA ⟨kd, n, m, k, j⟩) 46)
  have hb2 := rc_new (w.alloc (.cells (gaA ⟨kd, n, m, k, j⟩) 46)) GL.zr
  have hB2 := hB1.alloc hB1.size (rcO GL.zr)
  have hb1' := (Below.heap_alloc (w.alloc (.cells (gaA ⟨kd, n, m, k, j⟩) 46)) (rcO GL.zr) _ (blk_lt hb1)).trans hb1
  have b0 : ((w.alloc (.cells (gaA ⟨kd, n, m, k, j⟩) 46)).alloc (rcO GL.zr)).cell? ⟨w.heap.size, 0, none⟩ = some (.int .i64 kd) := cell_blk (i := 0) hb1' rfl
  have b1 : ((w.alloc (.cells (gaA ⟨kd, n, m, k, j⟩) 46)).alloc (rcO GL.zr)).cell? ⟨w.heap.size, 1, none⟩ = some (.int .i64 n) := cell_blk (i := 1) hb1' rfl
  have b2 : ((w.alloc (.cells (gaA ⟨kd, n, m, k, j⟩) 46)).alloc (rcO GL.zr)).cell? ⟨w.heap.size, 2, none⟩ = some (.int .i64 m) := cell_blk (i := 2) hb1' rfl
  have b3 : ((w.alloc (.cells (gaA ⟨kd, n, m, k, j⟩) 46)).alloc (rcO GL.zr)).cell? ⟨w.heap.size, 3, none⟩ = some (.int .i64 k) := cell_blk (i := 3) hb1' rfl
  have b4 : ((w.alloc (.cells (gaA ⟨kd, n, m, k, j⟩) 46)).alloc (rcO GL.zr)).cell? ⟨w.heap.size, 4, none⟩ = some (.int .i64 j.id) := cell_blk (i := 4) hb1' rfl
  have bj : CellsAt ((w.alloc (.cells (gaA ⟨kd, n, m, k, j⟩) 46)).alloc (rcO GL.zr)) w.heap.size 4 (jbC j) := fun r v hr => by
    refine cell_blk hb1' ?_
    have hl := (List.getElem?_eq_some_iff.1 hr).1
    simp [jbC] at hl
    obtain rfl | rfl | rfl | rfl | rfl | rfl | rfl | rfl : r = 0 ∨ r = 1 ∨ r = 2 ∨ r = 3 ∨ r = 4 ∨ r = 5 ∨ r = 6 ∨ r = 7 := by omega
    all_goals (simp [jbC] at hr; subst hr; rfl)
  rw [show (w.alloc (.cells (gaA ⟨kd, n, m, k, j⟩) 46)).heap.size = w.heap.size + 1 by simp] at hb2
  have lz : w.heap.size + 1 < ((w.alloc (.cells (gaA ⟨kd, n, m, k, j⟩) 46)).alloc (rcO GL.zr)).heap.size := by simp
  have hO := h.keep hB2
  have HZ := Lib.hid (And.intro hb2 lz)
  have HB := Lib.hid (And.intro hB2 h)
  have HA := Lib.hid (radd_any T p F L j n _ hO)
  have HR := Lib.hid (rreserve_any T p F L j.id n m k _ hO hI)
  have HS := Lib.hid (rstart_any T p F L j.id n _ hO hI)
  have HT := Lib.hid (rturn_any T p F L j.id n _ hO hI)
  have HY := Lib.hid (rresize_any T p F L j.id n _ hO hI)
  have Hl := Lib.hid h.lt
  have HJ := Lib.hid bj
  clear h hb1 hb2 hB1 hB2 hb1' hO lz bj hI
  simp only [rcO, rcA, gaV, gaA, GL.zr] at b0 b1 b2 b3 b4 HZ HB HA HR HS HT HY HJ ⊢
  by_cases h0 : kd = 0
  · have HN : Hid (GL.actN L ⟨kd, n, m, k, j⟩ = 0 ∧ GL.actR L ⟨kd, n, m, k, j⟩ = GL.addR L j n ∧ GL.actE L ⟨kd, n, m, k, j⟩ = GL.addE L j.id ∧ GL.actL L ⟨kd, n, m, k, j⟩ = GL.addL L j n) := Lib.hid (by
      unfold GL.actN GL.actR GL.actE GL.actL
      simp [h0])
    rw [HN.out.1, HN.out.2.1, HN.out.2.2.1, HN.out.2.2.2]
    obtain ⟨r, hr⟩ : ∃ r, r = GL.addR L j n := ⟨_, rfl⟩
    obtain ⟨ae, hae⟩ : ∃ ae, ae = GL.addE L j.id := ⟨_, rfl⟩
    rw [← hr, ← hae] at HA ⊢
    have t0 : (kd == 0) = true := by simp [h0]
    clear HR HS HT HY hr hae h0
    go_enter Try.func15, Try.ntmps15
    go_wp2_with (first
      | (refine wpList_load_jb rfl _ rfl w.heap.size 4 j rfl HJ.out ?_)
      | fail)
    refine HA.out.mono ?_
    rintro e w1 ⟨rfl, F', hO1, hft, hyg⟩
    have hZ1 := (hft.block (w.heap.size + 1) HZ.out.2 (fun e => by have := Hl.out _ e; omega)).trans HZ.out.1
    have hsz1 := hft.size
    have lz1 : w.heap.size + 1 < w1.heap.size := Nat.lt_of_lt_of_le HZ.out.2 hsz1
    have hn1 := rc_new w1 GL.zr
    have hBn : Below w1.heap.size w1 (w1.alloc (rcO GL.zr)) := (Below.refl _ w1).alloc (Nat.le_refl _) _
    have HN1 := Lib.hid hn1
    obtain ⟨w2, hw2⟩ : ∃ w2, w2 = (w1.alloc (rcO GL.zr)).setRow w1.heap.size (rcA r) := ⟨_, rfl⟩
    have hB2 : Below w1.heap.size w1 w2 := by rw [hw2]; exact below_row hBn (Nat.le_refl _) _
    have h2n : w2.heap[w1.heap.size]? = some (rcO r) := by rw [hw2]; exact setRow_rc (old := GL.zr) hn1
    have HW2 := Lib.hid hw2
    have hZ2 := (hB2.block _ lz1).trans hZ1
    have HZ2 := Lib.hid hZ2
    have H1 := Lib.hid (And.intro hO1 (And.intro hft (And.intro hyg (And.intro hB2 h2n))))
    have lz2 : w.heap.size + 1 < w2.heap.size := Nat.lt_of_lt_of_le lz1 hB2.size
    have lb2 : w1.heap.size < w2.heap.size := blk_lt h2n
    clear hZ1 hO1 hft hyg HA hn1 hBn hB2 h2n hZ2 hw2 hsz1 b0 b1 b2 b3 b4
    simp only [rcO, rcA, GL.zr] at HN1
    have HW3 := HW2
    simp only [rcO, rcA, GL.zr] at HW3
    go_wp2_with (first
      | (refine wpList_store_rc rfl _ _ rfl w1.heap.size r rfl rfl GL.zr HN1.out ?_)
      | fail)
    simp only [rcA] at *
    rw [← HW3.out]
    refine held_begin (fun w' : World => RcAt w' w1.heap.size 0 r) (by kernel_rfl) ?_
    have hS0 : (fun w' : World => RcAt w' w1.heap.size 0 r) w2.drew := rcAt_of H1.out.2.2.2.2
    have hZd : w2.drew.heap[w.heap.size + 1]? = some (rcO GL.zr) := HZ2.out
    have HBd := Lib.hid (show Below w2.heap.size w2 w2.drew from (Below.refl _ _).drew)
    have lbd : w1.heap.size < w2.drew.heap.size := lb2
    clear lz2 lb2
    generalize w2.drew = wd at hS0 hZd HBd lbd ⊢
    refine held_take (v := ?_) 0 24 rfl rfl (by kernel_rfl) (by kernel_rfl) (by kernel_rfl) (fun _ _ _ h => h) ⟨by rfl, ?_⟩ hS0 ?_
    rotate_left
    · intro w' hw'; refine Eq.trans (run_load_rc (by rfl) (by rfl) hw') ?_; (with_reducible rfl)
    simp only [Act.put, List.setIfInBounds_toArray, List.set_cons_zero, List.set_cons_succ]
    refine held_take (v := ?_) 1 25 rfl rfl (by kernel_rfl) (by kernel_rfl) (by kernel_rfl) (fun _ _ _ h => h) ⟨by rfl, ?_⟩ hS0 ?_
    rotate_left
    · intro w' hw'; go_simp; (try with_reducible rfl)
    simp only [Act.put, List.setIfInBounds_toArray, List.set_cons_zero, List.set_cons_succ]
    refine held_take (v := ?_) 2 4 rfl rfl (by kernel_rfl) (by kernel_rfl) (by kernel_rfl) (fun _ _ _ h => h) ⟨by rfl, ?_⟩ hS0 ?_
    rotate_left
    · intro w' hw'; go_simp; (try with_reducible rfl)
    simp only [Act.put, List.setIfInBounds_toArray, List.set_cons_zero, List.set_cons_succ]
    refine held_one 3 rfl (by kernel_rfl) (by rfl) (fun K hK => ?_)
    simp only [Go.wp_at_zero, Go.wp_at_succ]
    refine wp_store_row 42 _ _ rfl (w.heap.size + 1) (rcA r) rfl rfl 42 (rcA GL.zr) hZd (by kernel_rfl) rfl (rcA_one _) ?_
    have hRBb : w1.heap.size ≠ w.heap.size + 1 := by omega
    have hb4 : (wd.setRow (w.heap.size + 1) (rcA r)).heap[w.heap.size + 1]? = some (rcO r) := setRow_rc (old := GL.zr) hZd
    have HS4 : RcAt (wd.setRow (w.heap.size + 1) (rcA r)) w1.heap.size 0 r := CellsAt.of hS0 (setRow_other wd (w.heap.size + 1) _ _ hRBb)
    obtain ⟨w4, hw4⟩ : ∃ w4, w4 = wd.setRow (w.heap.size + 1) (rcA r) := ⟨_, rfl⟩
    rw [← hw4] at hb4 HS4 ⊢
    have HW4 := Lib.hid hw4
    refine hK.out _ _ HS4 ?_
    clear hK K hw4 hZd
    simp only [Act.put]
    refine held_take (v := ?_) 4 6 rfl rfl (by kernel_rfl) (by kernel_rfl) (by kernel_rfl) (fun _ _ _ h => h) ⟨by rfl, ?_⟩ HS4 ?_
    rotate_left
    · intro w' hw'; go_simp; (try with_reducible rfl)
    simp only [Act.put, List.setIfInBounds_toArray, List.set_cons_zero, List.set_cons_succ]
    refine wpAnyH_done (by kernel_rfl) ?_ _
    have HB4 := Lib.hid hb4
    clear hb4 HS4 hS0
    go_wp2
    refine bodyPost_ret (results_nrn Try.results15 _ _ (w.heap.size + 1) r (.int .i64 0) (.int .i64 ae) rfl rfl HB4.out rfl) rfl ?_
    have hZb : ¬ F (w.heap.size + 1) := fun e => by have := Hl.out _ e; omega
    have hF1 : Foot F w w4 := by
      rw [HW4.out]
      exact foot_row (((Foot.of_below (F := F) HB.out.1).trans H1.out.2.1 fun i hi => .inl hi).trans ((Foot.of_below (F := F) H1.out.2.2.2.1).trans (Foot.of_below (F := F) HBd.out) fun i hi => .inl hi) fun i hi => .inl hi) (.inr (by omega)) _
    have hnF' : ∀ i, F' i → i ≠ w.heap.size + 1 := fun i hi => by
      rcases H1.out.2.2.1 i hi with e | e
      · have := Hl.out _ e; omega
      · have := HZ.out.2; omega
    refine ⟨rfl, F', ?_, hF1, fun i hi => ?_⟩
    · rw [HW4.out]
      have hOd := (H1.out.1.keep H1.out.2.2.2.1).keep HBd.out
      exact hOd.of fun i hi => setRow_other wd (w.heap.size + 1) i _ (hnF' i hi)
    · rcases H1.out.2.2.1 i hi with e | e
      · exact .inl e
      · exact .inr (by have := HB.out.1.size; omega)
  · by_cases h1 : kd = 1
    · have HN : Hid (GL.actN L ⟨kd, n, m, k, j⟩ = 0 ∧ GL.actR L ⟨kd, n, m, k, j⟩ = GL.zr ∧ GL.actE L ⟨kd, n, m, k, j⟩ = GL.chE L j.id (GL.resE · n) ∧ GL.actL L ⟨kd, n, m, k, j⟩ = GL.chL L j.id (GL.resE · n) (GL.resR · n m k)) := Lib.hid (by
        unfold GL.actN GL.actR GL.actE GL.actL
        simp [h1])
      rw [HN.out.1, HN.out.2.1, HN.out.2.2.1, HN.out.2.2.2]
      have t0 : (kd == 0) = false := by simp [h0]
      have t1 : (kd == 1) = true := by simp [h1]
      clear HA HS HT HY h0 h1
      go_enter Try.func15, Try.ntmps15
      go_wp2_with fail
      refine HR.out.mono ?_
      rintro e w1 ⟨rfl, hO1, hft⟩
      have hZ1 := (hft.block (w.heap.size + 1) HZ.out.2 (fun e => by have := Hl.out _ e; omega)).trans HZ.out.1
      have HZ1 : Hid (w1.heap[w.heap.size + 1]? = some (rcO GL.zr)) := Lib.hid hZ1
      have H1 := Lib.hid (And.intro hO1 hft)
      clear hZ1 hO1 hft HR b0 b1 b2 b3 b4
      go_wp2_with (refine wpList_store_rc rfl _ _ rfl (w.heap.size + 1) GL.zr rfl rfl GL.zr HZ1.out ?_)
      refine bodyPost_ret (results_nrn Try.results15 _ _ (w.heap.size + 1) GL.zr (.int .i64 (0)) (.int .i64 (GL.chE L j.id (GL.resE · n))) rfl rfl (setRow_rc (old := GL.zr) HZ1.out) rfl) rfl ?_
      refine ⟨rfl, F, H1.out.1.of fun i hi => setRow_other w1 (w.heap.size + 1) i _ (by have := Hl.out _ hi; omega), foot_row ((Foot.of_below (F := F) HB.out.1).trans H1.out.2 fun i hi => .inl hi) (.inr (by omega)) _, fun i hi => .inl hi⟩
    · by_cases h2 : kd = 2
      · have HN : Hid (GL.actN L ⟨kd, n, m, k, j⟩ = GL.staN L j.id n ∧ GL.actR L ⟨kd, n, m, k, j⟩ = GL.zr ∧ GL.actE L ⟨kd, n, m, k, j⟩ = GL.chE L j.id (GL.staE · n) ∧ GL.actL L ⟨kd, n, m, k, j⟩ = GL.chL L j.id (GL.staE · n) (GL.staR · n)) := Lib.hid (by
          unfold GL.actN GL.actR GL.actE GL.actL
          simp [h2])
        rw [HN.out.1, HN.out.2.1, HN.out.2.2.1, HN.out.2.2.2]
        have t0 : (kd == 0) = false := by simp [h0]
        have t1 : (kd == 1) = false := by simp [h1]
        have t2 : (kd == 2) = true := by simp [h2]
        clear HA HR HT HY h0 h1 h2
        go_enter Try.func15, Try.ntmps15
        go_wp2_with fail
        refine HS.out.mono ?_
        rintro e w1 ⟨rfl, hO1, hft⟩
        have hZ1 := (hft.block (w.heap.size + 1) HZ.out.2 (fun e => by have := Hl.out _ e; omega)).trans HZ.out.1
        have HZ1 : Hid (w1.heap[w.heap.size + 1]? = some (rcO GL.zr)) := Lib.hid hZ1
        have H1 := Lib.hid (And.intro hO1 hft)
        clear hZ1 hO1 hft HS b0 b1 b2 b3 b4
        go_wp2_with (refine wpList_store_rc rfl _ _ rfl (w.heap.size + 1) GL.zr rfl rfl GL.zr HZ1.out ?_)
        refine bodyPost_ret (results_nrn Try.results15 _ _ (w.heap.size + 1) GL.zr (.int .i64 (GL.staN L j.id n)) (.int .i64 (GL.chE L j.id (GL.staE · n))) rfl rfl (setRow_rc (old := GL.zr) HZ1.out) rfl) rfl ?_
        refine ⟨rfl, F, H1.out.1.of fun i hi => setRow_other w1 (w.heap.size + 1) i _ (by have := Hl.out _ hi; omega), foot_row ((Foot.of_below (F := F) HB.out.1).trans H1.out.2 fun i hi => .inl hi) (.inr (by omega)) _, fun i hi => .inl hi⟩
      · by_cases h3 : kd = 3
        · have HN : Hid (GL.actN L ⟨kd, n, m, k, j⟩ = 0 ∧ GL.actR L ⟨kd, n, m, k, j⟩ = GL.zr ∧ GL.actE L ⟨kd, n, m, k, j⟩ = GL.chE L j.id (GL.turE · n) ∧ GL.actL L ⟨kd, n, m, k, j⟩ = GL.chL L j.id (GL.turE · n) (GL.turR · n)) := Lib.hid (by
            unfold GL.actN GL.actR GL.actE GL.actL
            simp [h3])
          rw [HN.out.1, HN.out.2.1, HN.out.2.2.1, HN.out.2.2.2]
          have t0 : (kd == 0) = false := by simp [h0]
          have t1 : (kd == 1) = false := by simp [h1]
          have t2 : (kd == 2) = false := by simp [h2]
          have t3 : (kd == 3) = true := by simp [h3]
          clear HA HR HS HY h0 h1 h2 h3
          go_enter Try.func15, Try.ntmps15
          go_wp2_with fail
          refine HT.out.mono ?_
          rintro e w1 ⟨rfl, hO1, hft⟩
          have hZ1 := (hft.block (w.heap.size + 1) HZ.out.2 (fun e => by have := Hl.out _ e; omega)).trans HZ.out.1
          have HZ1 : Hid (w1.heap[w.heap.size + 1]? = some (rcO GL.zr)) := Lib.hid hZ1
          have H1 := Lib.hid (And.intro hO1 hft)
          clear hZ1 hO1 hft HT b0 b1 b2 b3 b4
          go_wp2_with (refine wpList_store_rc rfl _ _ rfl (w.heap.size + 1) GL.zr rfl rfl GL.zr HZ1.out ?_)
          refine bodyPost_ret (results_nrn Try.results15 _ _ (w.heap.size + 1) GL.zr (.int .i64 (0)) (.int .i64 (GL.chE L j.id (GL.turE · n))) rfl rfl (setRow_rc (old := GL.zr) HZ1.out) rfl) rfl ?_
          refine ⟨rfl, F, H1.out.1.of fun i hi => setRow_other w1 (w.heap.size + 1) i _ (by have := Hl.out _ hi; omega), foot_row ((Foot.of_below (F := F) HB.out.1).trans H1.out.2 fun i hi => .inl hi) (.inr (by omega)) _, fun i hi => .inl hi⟩
        · have HN : Hid (GL.actN L ⟨kd, n, m, k, j⟩ = 0 ∧ GL.actR L ⟨kd, n, m, k, j⟩ = GL.zr ∧ GL.actE L ⟨kd, n, m, k, j⟩ = GL.chE L j.id (GL.sizE · n) ∧ GL.actL L ⟨kd, n, m, k, j⟩ = GL.chL L j.id (GL.sizE · n) (GL.sizR · n)) := Lib.hid (by
            unfold GL.actN GL.actR GL.actE GL.actL
            simp [h0, h1, h2, h3])
          rw [HN.out.1, HN.out.2.1, HN.out.2.2.1, HN.out.2.2.2]
          have t0 : (kd == 0) = false := by simp [h0]
          have t1 : (kd == 1) = false := by simp [h1]
          have t2 : (kd == 2) = false := by simp [h2]
          have t3 : (kd == 3) = false := by simp [h3]
          clear HA HR HS HT h0 h1 h2 h3
          go_enter Try.func15, Try.ntmps15
          go_wp2_with fail
          refine HY.out.mono ?_
          rintro e w1 ⟨rfl, hO1, hft⟩
          have hZ1 := (hft.block (w.heap.size + 1) HZ.out.2 (fun e => by have := Hl.out _ e; omega)).trans HZ.out.1
          have HZ1 : Hid (w1.heap[w.heap.size + 1]? = some (rcO GL.zr)) := Lib.hid hZ1
          have H1 := Lib.hid (And.intro hO1 hft)
          clear hZ1 hO1 hft HY b0 b1 b2 b3 b4
          go_wp2_with (refine wpList_store_rc rfl _ _ rfl (w.heap.size + 1) GL.zr rfl rfl GL.zr HZ1.out ?_)
          refine bodyPost_ret (results_nrn Try.results15 _ _ (w.heap.size + 1) GL.zr (.int .i64 (0)) (.int .i64 (GL.chE L j.id (GL.sizE · n))) rfl rfl (setRow_rc (old := GL.zr) HZ1.out) rfl) rfl ?_
          refine ⟨rfl, F, H1.out.1.of fun i hi => setRow_other w1 (w.heap.size + 1) i _ (by have := Hl.out _ hi; omega), foot_row ((Foot.of_below (F := F) HB.out.1).trans H1.out.2 fun i hi => .inl hi) (.inr (by omega)) _, fun i hi => .inl hi⟩

set_option maxHeartbeats 4000000 in
/-- The document's example. -/
theorem awake_any (w : World) : Calls Try.prog 9 #[] w fun e w' => e = .returned (.bool true) ∧ Below w.heap.size w w' := by
  have h1 := Lib.hid (next_any 1 2 w)
  go_enter Try.func9, Try.ntmps9
  go_wp2_with fail
  refine h1.out.mono ?_
  rintro e w1 ⟨rfl, hb1⟩
  rw [show GL.nextS 1 2 = 0 by decide, show GL.nextE 1 2 = 8 by decide]
  have H1 := Lib.hid hb1
  have h2 := Lib.hid (next_any 2 3 w1)
  clear hb1 h1
  go_wp2_with fail
  refine h2.out.mono ?_
  rintro e w2 ⟨rfl, hb2⟩
  rw [show GL.nextS 2 3 = 1 by decide, show GL.nextE 2 3 = 0 by decide]
  have H2 := Lib.hid (below_step H1.out hb2)
  have h3 := Lib.hid (over_any 5 w2)
  clear hb2 h2
  go_wp2_with fail
  refine h3.out.mono ?_
  rintro e w3 ⟨rfl, rfl⟩
  rw [show GL.overB 5 = true by decide]
  go_wp2
  go_ret
  exact ⟨by simp, H2.out⟩

end Go.Proofs.Ytbomdannlcclkaa
