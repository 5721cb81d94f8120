/- A ledger's Shrink. -/
/- A ledger's Grow. -/
/- A ledger's Reserve. -/
/- A ledger is made; a ledger beside what came in. -/
/- The document's example, which each law of layer 8 asks first. -/
import Derived.RegionTactic
import Derived.BigRegion
import Derived.Test.YtgpfmlidchogcaaGreatLedCalls
import Derived.Deep.AppendLies
import Derived.Deep.RegionHeld3
import Derived.StillTail
import Derived.StillTailTactics
import Derived.Laws.StructEq
import Derived.Test.YtgpfmlidchogcaaGreatPoolZ
set_option maxRecDepth 100000
set_option linter.unusedVariables false
namespace Go.Proofs.YtgpfmlidchogcaaGreat
open Go.RowKit Go.MuLone

abbrev set4 (W : World) (R : Nat) (v0 v1 v2 v3 : Value) : World := (((W.setCell ⟨R, 0, none⟩ v0).setCell ⟨R, 1, none⟩ v1).setCell ⟨R, 2, none⟩ v2).setCell ⟨R, 3, none⟩ v3
theorem set4_foot (W : World) (R : Nat) (v0 v1 v2 v3 : Value) : Foot (· = R) W (set4 W R v0 v1 v2 v3) :=
  Foot.setCell (F := (· = R)) (p := ⟨R, 3, none⟩) (Foot.setCell (F := (· = R)) (p := ⟨R, 2, none⟩) (Foot.setCell (F := (· = R)) (p := ⟨R, 1, none⟩) (Foot.setCell (F := (· = R)) (p := ⟨R, 0, none⟩) (Foot.refl _ W) (.inl rfl) _) (.inl rfl) _) (.inl rfl) _) (.inl rfl) _
theorem set4_blk {W : World} {R : Nat} {u0 u1 u2 u3 : Value} {t : TypeId} (h : W.heap[R]? = some (.cells #[u0, u1, u2, u3] t (0, 0))) (v0 v1 v2 v3 : Value) : (set4 W R v0 v1 v2 v3).heap[R]? = some (.cells #[v0, v1, v2, v3] t (0, 0)) :=
  blk_put (i := 3) v3 (blk_put (i := 2) v2 (blk_put (i := 1) v1 (blk_put (i := 0) v0 h)))
theorem blk4 {w : World} {b : Nat} {v0 v1 v2 v3 : Value} {t : TypeId} (h : w.heap[b]? = some (.cells #[v0, v1, v2, v3] t (0, 0))) :
    w.cell? ⟨b, 0, none⟩ = some v0 ∧ w.cell? ⟨b, 1, none⟩ = some v1 ∧ w.cell? ⟨b, 2, none⟩ = some v2 ∧ w.cell? ⟨b, 3, none⟩ = some v3 ∧
    w.frozen? ⟨b, 0, none⟩ = false ∧ w.frozen? ⟨b, 1, none⟩ = false ∧ w.frozen? ⟨b, 2, none⟩ = false ∧ w.frozen? ⟨b, 3, none⟩ = false ∧ b < w.heap.size :=
  ⟨cell_blk (i := 0) h rfl, cell_blk (i := 1) h rfl, cell_blk (i := 2) h rfl, cell_blk (i := 3) h rfl, frozen_blk h, frozen_blk h, frozen_blk h, frozen_blk h, blk_lt h⟩
theorem own_short {w : World} {B : Nat} {t : TypeId} {k n m b c : Nat} {xs : List Value} (h : w.ownsRow B t k (.slice (some ⟨b, 0, none⟩) n c) n xs) (hm : m ≤ n) : w.ownsRow B t k (.slice (some ⟨b, 0, none⟩) m c) m (xs.take (m * k)) := by
  rcases h.2 with ⟨e, _⟩ | ⟨g, cap, cur, e, hB, hg, h1, h2, h3, h4⟩
  · cases e
  · injection e with e1 e2 e3
    injection e1 with e1
    injection e1 with e1
    subst e1; subst e3
    have hl := h.1
    refine ⟨by rw [List.length_take, hl]; exact Nat.min_eq_left (Nat.mul_le_mul_right k hm), .inr ⟨b, c, cur, rfl, hB, hg, Nat.le_trans hm h1, h2, h3, ?_⟩⟩
    rw [← h4, List.take_take, Nat.min_eq_left (Nat.mul_le_mul_right k hm)]
theorem take_flat {α : Type} {C : α → List Value} {k : Nat} (hC : ∀ x, (C x).length = k) : ∀ (l : List α) (m : Nat), (l.flatMap C).take (m * k) = (l.take m).flatMap C
  | [], m => by simp
  | x :: l, 0 => by simp
  | x :: l, m + 1 => by
    rw [List.flatMap_cons, List.take_succ_cons, List.flatMap_cons, Nat.succ_mul, Nat.add_comm, ← hC x, List.take_length_add_append, hC x, take_flat hC l m]
theorem LAt.other {w w' : World} {lk : Int} {p pp pa hm R : Nat} {FP FQ : Nat → Prop} {V : Int → Value} {fs : List Fr} {st : LS} (h : LAt w lk p pp pa hm FP FQ V fs st) (hk : Foot (· = R) w w') (hR : ¬ LB p hm FP FQ V st R) : LAt w' lk p pp pa hm FP FQ V fs st :=
  h.foot hk fun i hi (e : i = R) => hR (e ▸ hi)
theorem LB_young {p hm : Nat} {FP FP' FQ : Nat → Prop} {V : Int → Value} {st st' : LS} {n R : Nat} (hP : ∀ i, FP' i → FP i ∨ n ≤ i) (hs : ∀ k ∈ st'.hs, k ∈ st.hs) (hR : ¬ LB p hm FP FQ V st R) (hn : R < n) : ¬ LB p hm FP' FQ V st' R := by
  rintro (e | e | e | e | ⟨k, hk, e⟩)
  · exact hR (.inl e)
  · exact hR (.inr (.inl e))
  · rcases hP _ e with e2 | e2
    · exact hR (.inr (.inr (.inl e2)))
    · omega
  · exact hR (.inr (.inr (.inr (.inl e))))
  · exact hR (.inr (.inr (.inr (.inr ⟨k, hs k hk, e⟩))))

set_option maxHeartbeats 4000000 in
theorem shrink_l {w : World} {p : Nat} {F : Nat → Prop} {fs : List Fr} {st : LS} (id : Int) (h : LObj w p F fs st) (hver : st.ver ≤ 100000) (hid : (Lit.int .i64 id).wf = true) :
    Calls Tryz.prog 26 #[.pointer (some ⟨p, 0, none⟩), .int .i64 id] w fun e w' => e = .returned (.tuple #[slV (LM.shrink fs st id).1.1, .int .i64 (LM.shrink fs st id).1.2]) ∧ ∃ F', LObj w' p F' fs (LM.shrink fs st id).2 ∧ Foot F w w' ∧ ∀ i, F' i → F i ∨ w.heap.size ≤ i := by
  obtain ⟨pp, pa, hm, FP, FQ, V, h, rfl⟩ := h
  obtain ⟨W0, hW0⟩ : ∃ W0, W0 = w.alloc (.cells #[.int .i64 0, .int .i64 0, .int .u64 0, .int .i64 0] 41) := ⟨_, rfl⟩
  have hB0 : Below w.heap.size w W0 := by rw [hW0]; exact (Below.refl w.heap.size w).alloc (Nat.le_refl _) _
  have hbk0 : W0.heap[w.heap.size]? = some (.cells #[.int .i64 0, .int .i64 0, .int .u64 0, .int .i64 0] 41 (0, 0)) := by rw [hW0]; exact heap_alloc_new w _
  have h0 := h.keep hB0
  have hall := h.all
  have lR : w.heap.size < W0.heap.size := blk_lt hbk0
  have HB0 := Lib.hid hB0
  have HW0 := Lib.hid hW0
  have HALL := Lib.hid hall
  clear hW0 hB0 hall
  obtain ⟨c0, z0, _⟩ := h0.cells
  have h1 := h0.lock 1
  obtain ⟨w1, hw1⟩ : ∃ w1, w1 = W0.setCell ⟨p, 0, none⟩ (.int .i32 1) := ⟨_, rfl⟩
  rw [← hw1] at h1
  have hf1 : Foot (LB p hm FP FQ V st) W0 w1 := by rw [hw1]; exact (foot_set W0 p 0 _).mono fun i hi => .inl hi
  have lw1 : W0.heap.size ≤ w1.heap.size := hf1.size
  have hfew : st.hs.length ≤ 1000000 := by have := h.ok.few; omega
  obtain ⟨_, _, c2, c3, c4, c5, c6, z6⟩ := h1.cells
  have lp := h1.lt.1
  have hpne : p < w.heap.size := h.lt.1
  have hbk1 : w1.heap[w.heap.size]? = W0.heap[w.heap.size]? := hf1.block _ lR fun e => by have := HALL.out _ e; omega
  rw [hbk0] at hbk1
  have H := Lib.hid h0
  have H1 := Lib.hid h1
  have HF1 := Lib.hid hf1
  have HW1 := Lib.hid hw1
  have HBK1 := Lib.hid hbk1
  have HH := Lib.hid h
  have hRF : ¬ LB p hm FP FQ V st w.heap.size := fun e => by have := HALL.out _ e; omega
  have HRF := Lib.hid hRF
  have lR1 : w.heap.size < w1.heap.size := blk_lt hbk1
  have rp : w.heap.size ≠ p := by omega
  have hRun := running_l id hid h1
  unfold runV at hRun
  unfold LM.shrink
  cases hf : LM.find id st.hs with
  | none =>
    rw [hf] at hRun
    simp only [hdZ] at hRun
    have HRun := Lib.hid hRun
    clear hRun hf h h1 hf1 hw1 hbk0 hbk1 hRF
    go_enter_defers Tryz.func26, Tryz.ntmps26
    go_wp2_with (first | (go_at_call 49; rw [← HW0.out]; refine (lock_free muLib ⟨p, 0, none⟩ _ c0 z0).mono ?_; rintro e w' ⟨rfl, rfl⟩; rw [← HW1.out]))
    refine HRun.out.mono ?_
    rintro e w2 ⟨rfl, hb2⟩
    have HL2 := Lib.hid (H1.out.keep hb2)
    have hbk2 := (hb2.block w.heap.size lR1).trans HBK1.out
    have HBK2 := Lib.hid hbk2
    obtain ⟨x0, x1, x2, x3, xz0, xz1, xz2, xz3, lR2⟩ := blk4 hbk2
    have HB2 := Lib.hid hb2
    have l12 : w1.heap.size ≤ w2.heap.size := hb2.size
    clear hb2 hbk2
    go_wp2
    have hL3 := ((HL2.out.other (set4_foot w2 w.heap.size (.int .i64 0) (.int .i64 0) (.int .u64 0) (.int .i64 0)) HRF.out).keep ((Below.refl _ _).alloc (Nat.le_refl _) (.cells #[.int .i64 0, .int .i64 0, .int .i64 0, .bool false, .slice none 0 0] 44)))
    refine leaves_cons (f := 50) (args := #[.pointer (some ⟨p, 0, none⟩)]) (by simp) (by simp [go_sem]) ?_
    refine (unlock_deferred muLib ⟨p, 0, none⟩ .returning _ hL3.cells.1 hL3.cells.2.1).mono ?_
    rintro e u' w'' ⟨rfl, rfl, rfl⟩
    have f2 : Foot (LB p hm FP FQ V st) w w2 := ((Foot.of_below (F := LB p hm FP FQ V st) HB0.out).trans HF1.out fun i hi => .inl hi).trans (Foot.of_below (F := LB p hm FP FQ V st) HB2.out) fun i hi => .inl hi
    obtain ⟨F', r1, r2, r3⟩ := HH.out.close hL3 ((f2.trans (set4_foot _ w.heap.size (.int .i64 0) (.int .i64 0) (.int .u64 0) (.int .i64 0)) fun i (e : i = w.heap.size) => .inr (Nat.le_of_eq e.symm)).alloc (.cells #[.int .i64 0, .int .i64 0, .int .i64 0, .bool false, .slice none 0 0] 44)) (fun i hi => .inl hi) (fun k hk i hi => .inl ⟨k, hk, hi⟩)
    have hbk9 := (Below.heap_setCell ((set4 w2 w.heap.size (.int .i64 0) (.int .i64 0) (.int .u64 0) (.int .i64 0)).alloc (.cells #[.int .i64 0, .int .i64 0, .int .i64 0, .bool false, .slice none 0 0] 44)) ⟨p, 0, none⟩ (.int .i32 0) w.heap.size (fun e => rp (by simpa using e))).trans ((Below.heap_alloc _ (.cells #[.int .i64 0, .int .i64 0, .int .i64 0, .bool false, .slice none 0 0] 44) w.heap.size (by simp; omega)).trans (set4_blk HBK2.out (.int .i64 0) (.int .i64 0) (.int .u64 0) (.int .i64 0)))
    obtain ⟨W9, hW9⟩ : ∃ W9, W9 = ((set4 w2 w.heap.size (.int .i64 0) (.int .i64 0) (.int .u64 0) (.int .i64 0)).alloc (.cells #[.int .i64 0, .int .i64 0, .int .i64 0, .bool false, .slice none 0 0] 44)).setCell ⟨p, 0, none⟩ (.int .i32 0) := ⟨_, rfl⟩
    rw [← hW9] at hbk9 r1 r2 ⊢
    obtain ⟨q0, q1, q2, q3, _⟩ := blk4 hbk9
    clear hW9
    exact ⟨.tuple #[.agg #[.int .i64 0, .int .i64 0, .int .u64 0, .int .i64 0], .int .i64 3], by simp [results, Tryz.results26, go_sem, q0, q1, q2, q3], rfl, F', r1, r2, r3⟩
  | some g =>
    obtain ⟨hg, hgi⟩ := LM.find_some hf
    obtain ⟨b, cV, eV, hsl, hbl, b1, b2, b3, b4⟩ := h1.slots hg
    have hgo := h.ok.ok g hg
    rw [hf] at hRun
    simp only [hdV, eV, hdZ] at hRun
    simp only
    obtain ⟨gr, e4⟩ : ∃ x, x = g.run := ⟨_, rfl⟩
    rw [← e4] at hRun ⊢
    cases gr
    · rw [if_neg (by simp)] at hRun
      rw [if_pos rfl]
      have HRun := Lib.hid hRun
      clear hRun hf h h1 hf1 hw1 hbk0 hbk1 hRF hsl hgo hg hgi e4 eV
      go_enter_defers Tryz.func26, Tryz.ntmps26
      go_wp2_with (first | (go_at_call 49; rw [← HW0.out]; refine (lock_free muLib ⟨p, 0, none⟩ _ c0 z0).mono ?_; rintro e w' ⟨rfl, rfl⟩; rw [← HW1.out]))
      refine HRun.out.mono ?_
      rintro e w2 ⟨rfl, hb2⟩
      have HL2 := Lib.hid (H1.out.keep hb2)
      have hbk2 := (hb2.block w.heap.size lR1).trans HBK1.out
      have HBK2 := Lib.hid hbk2
      obtain ⟨x0, x1, x2, x3, xz0, xz1, xz2, xz3, lR2⟩ := blk4 hbk2
      have HB2 := Lib.hid hb2
      have l12 : w1.heap.size ≤ w2.heap.size := hb2.size
      clear hb2 hbk2
      go_wp2
      have hL3 := ((HL2.out.other (set4_foot w2 w.heap.size (.int .i64 0) (.int .i64 0) (.int .u64 0) (.int .i64 0)) HRF.out).keep ((Below.refl _ _).alloc (Nat.le_refl _) (.cells #[.int .i64 0, .int .i64 0, .int .i64 0, .bool false, .slice none 0 0] 44)))
      refine leaves_cons (f := 50) (args := #[.pointer (some ⟨p, 0, none⟩)]) (by simp) (by simp [go_sem]) ?_
      refine (unlock_deferred muLib ⟨p, 0, none⟩ .returning _ hL3.cells.1 hL3.cells.2.1).mono ?_
      rintro e u' w'' ⟨rfl, rfl, rfl⟩
      have f2 : Foot (LB p hm FP FQ V st) w w2 := ((Foot.of_below (F := LB p hm FP FQ V st) HB0.out).trans HF1.out fun i hi => .inl hi).trans (Foot.of_below (F := LB p hm FP FQ V st) HB2.out) fun i hi => .inl hi
      obtain ⟨F', r1, r2, r3⟩ := HH.out.close hL3 ((f2.trans (set4_foot _ w.heap.size (.int .i64 0) (.int .i64 0) (.int .u64 0) (.int .i64 0)) fun i (e : i = w.heap.size) => .inr (Nat.le_of_eq e.symm)).alloc (.cells #[.int .i64 0, .int .i64 0, .int .i64 0, .bool false, .slice none 0 0] 44)) (fun i hi => .inl hi) (fun k hk i hi => .inl ⟨k, hk, hi⟩)
      have hbk9 := (Below.heap_setCell ((set4 w2 w.heap.size (.int .i64 0) (.int .i64 0) (.int .u64 0) (.int .i64 0)).alloc (.cells #[.int .i64 0, .int .i64 0, .int .i64 0, .bool false, .slice none 0 0] 44)) ⟨p, 0, none⟩ (.int .i32 0) w.heap.size (fun e => rp (by simpa using e))).trans ((Below.heap_alloc _ (.cells #[.int .i64 0, .int .i64 0, .int .i64 0, .bool false, .slice none 0 0] 44) w.heap.size (by simp; omega)).trans (set4_blk HBK2.out (.int .i64 0) (.int .i64 0) (.int .u64 0) (.int .i64 0)))
      obtain ⟨W9, hW9⟩ : ∃ W9, W9 = ((set4 w2 w.heap.size (.int .i64 0) (.int .i64 0) (.int .u64 0) (.int .i64 0)).alloc (.cells #[.int .i64 0, .int .i64 0, .int .i64 0, .bool false, .slice none 0 0] 44)).setCell ⟨p, 0, none⟩ (.int .i32 0) := ⟨_, rfl⟩
      rw [← hW9] at hbk9 r1 r2 ⊢
      obtain ⟨q0, q1, q2, q3, _⟩ := blk4 hbk9
      clear hW9
      exact ⟨.tuple #[.agg #[.int .i64 0, .int .i64 0, .int .u64 0, .int .i64 0], .int .i64 8], by simp [results, Tryz.results26, go_sem, q0, q1, q2, q3], rfl, F', r1, r2, r3⟩
    · rw [if_pos rfl] at hRun
      rw [if_neg (by simp)]
      obtain ⟨gid, e1⟩ : ∃ x, x = g.id := ⟨_, rfl⟩
      obtain ⟨gq, e2⟩ : ∃ x, x = g.q := ⟨_, rfl⟩
      obtain ⟨gu, e3⟩ : ∃ x, x = g.un := ⟨_, rfl⟩
      obtain ⟨n, hn⟩ : ∃ n, n = g.sl.length := ⟨_, rfl⟩
      have n1 := hgo.n1
      have n2 := hgo.n2
      have eVn := eV
      rw [← hn] at n1 n2 eVn
      rw [← e1, ← e2, ← e3, ← hn] at hRun
      have HRun := Lib.hid hRun
      obtain ⟨s, hs⟩ : ∃ s, g.sl[n - 1]? = some s := get_lt (by omega)
      have hlast : g.sl.getLast? = some s := by rw [List.getLast?_eq_getElem?, ← hn]; exact hs
      rw [hlast]
      simp only
      rw [← hn]
      by_cases hone : n ≤ 1
      · rw [if_pos hone]
        obtain rfl : n = 1 := by omega
        clear hRun hf h h1 hf1 hw1 hbk0 hbk1 hRF hsl hgo hg hgi e1 e2 e3 e4 eV eVn hn hs hlast hone n1 n2
        go_enter_defers Tryz.func26, Tryz.ntmps26
        go_wp2_with (first | (go_at_call 49; rw [← HW0.out]; refine (lock_free muLib ⟨p, 0, none⟩ _ c0 z0).mono ?_; rintro e w' ⟨rfl, rfl⟩; rw [← HW1.out]))
        refine HRun.out.mono ?_
        rintro e w2 ⟨rfl, hb2⟩
        have HL2 := Lib.hid (H1.out.keep hb2)
        have hbk2 := (hb2.block w.heap.size lR1).trans HBK1.out
        have HBK2 := Lib.hid hbk2
        obtain ⟨x0, x1, x2, x3, xz0, xz1, xz2, xz3, lR2⟩ := blk4 hbk2
        have HB2 := Lib.hid hb2
        have l12 : w1.heap.size ≤ w2.heap.size := hb2.size
        clear hb2 hbk2
        go_wp2
        have hL3 := ((HL2.out.other (set4_foot w2 w.heap.size (.int .i64 0) (.int .i64 0) (.int .u64 0) (.int .i64 0)) HRF.out).keep ((Below.refl _ _).alloc (Nat.le_refl _) (.cells #[.int .i64 gid, .int .i64 gq, .int .i64 gu, .bool true, .slice (some ⟨b, 0, none⟩) 1 cV] 44)))
        refine leaves_cons (f := 50) (args := #[.pointer (some ⟨p, 0, none⟩)]) (by simp) (by simp [go_sem]) ?_
        refine (unlock_deferred muLib ⟨p, 0, none⟩ .returning _ hL3.cells.1 hL3.cells.2.1).mono ?_
        rintro e u' w'' ⟨rfl, rfl, rfl⟩
        have f2 : Foot (LB p hm FP FQ V st) w w2 := ((Foot.of_below (F := LB p hm FP FQ V st) HB0.out).trans HF1.out fun i hi => .inl hi).trans (Foot.of_below (F := LB p hm FP FQ V st) HB2.out) fun i hi => .inl hi
        obtain ⟨F', r1, r2, r3⟩ := HH.out.close hL3 ((f2.trans (set4_foot _ w.heap.size (.int .i64 0) (.int .i64 0) (.int .u64 0) (.int .i64 0)) fun i (e : i = w.heap.size) => .inr (Nat.le_of_eq e.symm)).alloc (.cells #[.int .i64 gid, .int .i64 gq, .int .i64 gu, .bool true, .slice (some ⟨b, 0, none⟩) 1 cV] 44)) (fun i hi => .inl hi) (fun k hk i hi => .inl ⟨k, hk, hi⟩)
        have hbk9 := (Below.heap_setCell ((set4 w2 w.heap.size (.int .i64 0) (.int .i64 0) (.int .u64 0) (.int .i64 0)).alloc (.cells #[.int .i64 gid, .int .i64 gq, .int .i64 gu, .bool true, .slice (some ⟨b, 0, none⟩) 1 cV] 44)) ⟨p, 0, none⟩ (.int .i32 0) w.heap.size (fun e => rp (by simpa using e))).trans ((Below.heap_alloc _ (.cells #[.int .i64 gid, .int .i64 gq, .int .i64 gu, .bool true, .slice (some ⟨b, 0, none⟩) 1 cV] 44) w.heap.size (by simp; omega)).trans (set4_blk HBK2.out (.int .i64 0) (.int .i64 0) (.int .u64 0) (.int .i64 0)))
        obtain ⟨W9, hW9⟩ : ∃ W9, W9 = ((set4 w2 w.heap.size (.int .i64 0) (.int .i64 0) (.int .u64 0) (.int .i64 0)).alloc (.cells #[.int .i64 gid, .int .i64 gq, .int .i64 gu, .bool true, .slice (some ⟨b, 0, none⟩) 1 cV] 44)).setCell ⟨p, 0, none⟩ (.int .i32 0) := ⟨_, rfl⟩
        rw [← hW9] at hbk9 r1 r2 ⊢
        obtain ⟨q0, q1, q2, q3, _⟩ := blk4 hbk9
        clear hW9
        exact ⟨.tuple #[.agg #[.int .i64 0, .int .i64 0, .int .u64 0, .int .i64 0], .int .i64 8], by simp [results, Tryz.results26, go_sem, q0, q1, q2, q3], rfl, F', r1, r2, r3⟩
      · rw [if_neg hone]
        have hgid : gid = id := by rw [e1]; exact hgi
        subst hgid
        have hslin := hgo.sl s (List.mem_of_getElem? hs)
        obtain ⟨b', off, eb, hbb, hcells⟩ := hsl.at_ hs
        cases eb
        have hsat := hcells (n - 1) s hs
        have hown := h1.rows g hg
        obtain ⟨m, rfl⟩ : ∃ m, n = m + 1 := ⟨n - 1, by omega⟩
        rw [Nat.add_sub_cancel] at hsat hs
        have hcap : m + 1 ≤ cV ∧ cV ≤ maxLen := by
          rw [eVn] at hown
          rcases hown.2 with ⟨e, _⟩ | ⟨_, cap, _, e, _, _, k1, k2, _⟩
          · cases e
          · injection e with _ _ e3; rw [e3]; exact ⟨by rw [hn]; exact k1, k2⟩
        obtain ⟨hcap1, hcap2⟩ := hcap
        unfold maxLen at hcap2
        have HG := Lib.hid (And.intro e1 (And.intro e2 (And.intro e3 (And.intro e4 (And.intro hn (And.intro eVn (And.intro hg (And.intro hgo hs))))))))
        have HS := Lib.hid (And.intro hslin (And.intro hsat (And.intro b1 (And.intro b2 (And.intro b3 b4)))))
        clear hRun hf h h1 hf1 hw1 hbk0 hbk1 hRF hsl hgo hg hgi e1 e2 e3 e4 eV eVn hn hlast hslin hsat hcells hs hown b1 b2 b3 b4
        go_enter_defers Tryz.func26, Tryz.ntmps26
        go_wp2_with (first | (go_at_call 49; rw [← HW0.out]; refine (lock_free muLib ⟨p, 0, none⟩ _ c0 z0).mono ?_; rintro e w' ⟨rfl, rfl⟩; rw [← HW1.out]))
        refine HRun.out.mono ?_
        rintro e w2 ⟨rfl, hb2⟩
        have HL2 := Lib.hid (H1.out.keep hb2)
        have hbk2 := (hb2.block w.heap.size lR1).trans HBK1.out
        have HBK2 := Lib.hid hbk2
        obtain ⟨x0, x1, x2, x3, xz0, xz1, xz2, xz3, lR2⟩ := blk4 hbk2
        have HB2 := Lib.hid hb2
        have l12 : w1.heap.size ≤ w2.heap.size := hb2.size
        clear hb2 hbk2
        obtain ⟨sn, sd, sm, sc⟩ := s
        have hs9 := HS.out.2.1
        obtain ⟨u0, u1, u2, u3⟩ : SlAt w2 b (0 + m * 4) ⟨sn, sd, sm, sc⟩ := hs9.keep hbl HB2.out
        rw [Nat.zero_add] at u0 u1 u2 u3
        simp only at u0 u1 u2 u3
        have lb2 : b < w2.heap.size := Nat.lt_of_lt_of_le hbl l12
        clear hs9
        go_wp2_with fail
        obtain ⟨w5, hw5⟩ : ∃ w5, w5 = ((w2.alloc (.cells #[.int .i64 gid, .int .i64 gq, .int .i64 gu, .bool true, .slice (some ⟨b, 0, none⟩) (m + 1) cV] 44)).alloc (.cells #[.int .i64 sn, .int .i64 sd, .int .u64 (sm : Nat), .int .i64 sc] 41)).alloc (.cells #[.int .i64 sn, .int .i64 sd, .int .u64 (sm : Nat), .int .i64 sc] 41) := ⟨_, rfl⟩
        rw [← hw5]
        have hB5 : Below w2.heap.size w2 w5 := by rw [hw5]; exact (((Below.refl w2.heap.size w2).alloc (Nat.le_refl _) _).alloc (by simp) _).alloc (by simp; omega) _
        have hbx5 : w5.heap[w2.heap.size]? = some (.cells #[.int .i64 gid, .int .i64 gq, .int .i64 gu, .bool true, .slice (some ⟨b, 0, none⟩) (m + 1) cV] 44 (0, 0)) := by rw [hw5]; exact (Below.heap_alloc _ _ _ (by simp; omega)).trans ((Below.heap_alloc _ _ _ (by simp)).trans (heap_alloc_new w2 _))
        have hsc5 : w5.heap[w2.heap.size + 1]? = some (.cells #[.int .i64 sn, .int .i64 sd, .int .u64 (sm : Nat), .int .i64 sc] 41 (0, 0)) := by rw [hw5]; exact (Below.heap_alloc _ _ _ (by simp)).trans (by have h9 := heap_alloc_new (w2.alloc (.cells #[.int .i64 gid, .int .i64 gq, .int .i64 gu, .bool true, .slice (some ⟨b, 0, none⟩) (m + 1) cV] 44)) (.cells #[.int .i64 sn, .int .i64 sd, .int .u64 (sm : Nat), .int .i64 sc] 41); simpa using h9)
        have hsl5 : w5.heap[w2.heap.size + 1 + 1]? = some (.cells #[.int .i64 sn, .int .i64 sd, .int .u64 (sm : Nat), .int .i64 sc] 41 (0, 0)) := by rw [hw5]; have h9 := heap_alloc_new ((w2.alloc (.cells #[.int .i64 gid, .int .i64 gq, .int .i64 gu, .bool true, .slice (some ⟨b, 0, none⟩) (m + 1) cV] 44)).alloc (.cells #[.int .i64 sn, .int .i64 sd, .int .u64 (sm : Nat), .int .i64 sc] 41)) (.cells #[.int .i64 sn, .int .i64 sd, .int .u64 (sm : Nat), .int .i64 sc] 41); simpa using h9
        obtain ⟨B, hB⟩ : ∃ B, B = w2.heap.size := ⟨_, rfl⟩
        rw [← hB] at hbx5 hsc5 hsl5 ⊢
        have lB : w.heap.size < B := by omega
        have lB2 : B ≤ w2.heap.size ∧ w2.heap.size ≤ B := by omega
        have l25 : w2.heap.size ≤ w5.heap.size := hB5.size
        have hGv := give_l (some ⟨B + 1 + 1, 0, none⟩) 1 [⟨sn, sd, sm, sc⟩] gq (HL2.out.keep hB5) (fun x hx => by simp at hx; rw [hx]; exact HS.out.1) (slot_blk (s := ⟨sn, sd, sm, sc⟩) hsl5) (fun _ b' off e hf => by cases e; have := HALL.out _ (.inr (.inr (.inl hf))); omega) (fun _ b' off e hf => by cases e; have := HALL.out _ (.inr (.inr (.inr (.inl hf)))); omega) (by simp)
        simp only [List.length_singleton] at hGv
        refine hGv.mono ?_
        rintro e w6 ⟨rfl, F6, hL6, hf6, hy6⟩
        have hnot : ∀ i, w.heap.size ≤ i → ¬ (FP i ∨ FQ i) := fun i hi e => by have := HALL.out i (by rcases e with e | e; exact .inr (.inr (.inl e)); exact .inr (.inr (.inr (.inl e)))); omega
        have hbx6 := (hf6.block B (blk_lt hbx5) (hnot B (by omega))).trans hbx5
        have hsc6 := (hf6.block (B + 1) (blk_lt hsc5) (hnot (B + 1) (by omega))).trans hsc5
        have hbk6 := (hf6.block w.heap.size (by omega) (hnot _ (Nat.le_refl _))).trans ((hB5.block w.heap.size lR2).trans HBK2.out)
        obtain ⟨y0, y1, y2, y3, y4, yz0, yz1, yz2, yz3, yz4, lB6⟩ := blk5 hbx6
        obtain ⟨s0, s1, s2, s3, _, _, _, _, lS6⟩ := blk4 hsc6
        have HL6 := Lib.hid hL6
        have HF6 := Lib.hid (And.intro hf6 (And.intro hy6 (And.intro hbx6 (And.intro hsc6 (And.intro hbk6 hB5)))))
        have l56 : w5.heap.size ≤ w6.heap.size := hf6.size
        have lB5 := blk_lt hbx5
        clear hL6 hf6 hy6 hbx6 hsc6 hbk6 hbx5 hsc5 hsl5 hw5 hB hnot hB5 hGv u0 u1 u2 u3 x0 x1 x2 x3 xz0 xz1 xz2 xz3 c2 c3 c4 c5 c6 z6
        have hB6 : ¬ LB p hm F6 FQ V (LM.give fs st gq [⟨sn, sd, sm, sc⟩]) B := LB_young HF6.out.2.1 (fun k hk => hk) (fun e => by have := HALL.out _ e; omega) lB5
        have hR6 : ¬ LB p hm F6 FQ V (LM.give fs st gq [⟨sn, sd, sm, sc⟩]) w.heap.size := LB_young HF6.out.2.1 (fun k hk => hk) HRF.out (by omega)
        have hL7 := (HL6.out.other (foot_set w6 B 4 (.slice (some ⟨b, 0, none⟩) m cV)) hB6).keep (Below.refl _ _).drew
        have hbx7 : (w6.setCell ⟨B, 4, none⟩ (.slice (some ⟨b, 0, none⟩) m cV)).drew.heap[B]? = some (.cells #[.int .i64 gid, .int .i64 gq, .int .i64 gu, .bool true, (.slice (some ⟨b, 0, none⟩) m cV)] 44 (0, 0)) := blk_put (i := 4) (.slice (some ⟨b, 0, none⟩) m cV) HF6.out.2.2.1
        have hsc7 : (w6.setCell ⟨B, 4, none⟩ (.slice (some ⟨b, 0, none⟩) m cV)).drew.heap[B + 1]? = some (.cells #[.int .i64 sn, .int .i64 sd, .int .u64 (sm : Nat), .int .i64 sc] 41 (0, 0)) := (Below.heap_setCell _ _ _ _ (fun e => by simp at e)).trans HF6.out.2.2.2.1
        have hbk7 : (w6.setCell ⟨B, 4, none⟩ (.slice (some ⟨b, 0, none⟩) m cV)).drew.heap[w.heap.size]? = some (.cells #[.int .i64 0, .int .i64 0, .int .u64 0, .int .i64 0] 41 (0, 0)) := (Below.heap_setCell _ _ _ _ (fun e => by simp at e; omega)).trans HF6.out.2.2.2.2.1
        have hgo := HG.out.2.2.2.2.2.2.2.1
        have hg := HG.out.2.2.2.2.2.2.1
        obtain ⟨w8, hrun, hL8, hf8⟩ := hL7.updated hfew (g := g) (g' := ⟨g.id, g.q, g.un, true, g.sl.dropLast⟩) hg rfl ⟨hgo.id, hgo.q, hgo.un, by simp only [List.length_dropLast, ← HG.out.2.2.2.2.1]; omega, by simp only [List.length_dropLast, ← HG.out.2.2.2.2.1]; omega, fun x hx => hgo.sl x (List.dropLast_subset _ hx)⟩ (hL7.ok.q g hg) (.slice (some ⟨b, 0, none⟩) m cV)
          (by have h9 := hL7.rows g hg; rw [HG.out.2.2.2.2.2.1, ← HG.out.2.2.2.2.1] at h9; have h8 := own_short h9 (Nat.le_succ m); rw [take_flat slC_len1] at h8; have m1 : g.sl.dropLast = g.sl.take m := (by rw [List.dropLast_eq_take, ← HG.out.2.2.2.2.1, Nat.add_sub_cancel]); have m2 : (g.sl.take m).length = m := (by rw [List.length_take, ← HG.out.2.2.2.2.1]; omega); show World.ownsRow _ 0 _ 4 _ g.sl.dropLast.length (g.sl.dropLast.flatMap slC); rw [m1, m2]; exact h8)
          (fun i hi => by have hi2 : (V g.id).ownBlock = some i := by { rw [HG.out.2.2.2.2.2.1]; exact hi }; obtain ⟨a1, a2, a3, a4⟩ := hL7.av g hg i hi2; exact ⟨a1, a2, a3, a4, fun k hk hne => hL7.avv g hg k hk (fun e => hne e.symm) i hi2⟩)
        simp only [hdV] at hrun
        rw [← HG.out.1, ← HG.out.2.1, ← HG.out.2.2.1] at hrun
        have d4 := hL7.cells.2.2.2.2.1
        obtain ⟨_, _, _, _, _, _, d6, zz6⟩ := hL8.cells
        have d6' : w8.cell? ⟨p, 6, none⟩ = some (.int .i64 (st.ver : Nat)) := d6
        have nhm : ∀ i, w.heap.size ≤ i → ¬ i = hm := fun i hi e => by have := HALL.out hm (.inr (.inl rfl)); omega
        have hsc8 := (hf8.block (B + 1) (blk_lt hsc7) (nhm _ (by omega))).trans hsc7
        have hbk8 := (hf8.block w.heap.size (blk_lt hbk7) (nhm _ (Nat.le_refl _))).trans hbk7
        obtain ⟨t0, t1, t2, t3, t4, _⟩ := blk5 hbx7
        clear s0 s1 s2 s3
        obtain ⟨s0, s1, s2, s3, _, _, _, _, lS8⟩ := blk4 hsc8
        obtain ⟨x0, x1, x2, x3, xz0, xz1, xz2, xz3, _⟩ := blk4 hbk8
        have HL8 := Lib.hid hL8
        have HF8 := Lib.hid (And.intro hf8 hbk8)
        have HR6 := Lib.hid hR6
        have nBp : ¬ p = B + 1 := by omega
        clear hL7 hL8 hf8 hbx7 hsc7 hbk7 hsc8 hbk8 d6 hgo hg nhm hB6 hR6
        go_wp2
        go_region
        go_wp2
        have hR8 : ¬ LB p hm F6 FQ (vPut V g.id (.slice (some ⟨b, 0, none⟩) m cV)) (LM.up { LM.give fs st gq [⟨sn, sd, sm, sc⟩] with hs := LM.upd g.id (fun _ => ⟨g.id, g.q, g.un, true, g.sl.dropLast⟩) st.hs }) w.heap.size := by
          rintro (e | e | e | e | ⟨k, hk, e⟩)
          · exact HR6.out (.inl e)
          · exact HR6.out (.inr (.inl e))
          · exact HR6.out (.inr (.inr (.inl e)))
          · exact HR6.out (.inr (.inr (.inr (.inl e))))
          · rcases vPut_upd (hs := st.hs) (g' := ⟨g.id, g.q, g.un, true, g.sl.dropLast⟩) rfl hk e with e | ⟨a, ha, e⟩
            · have : b = w.heap.size := by simpa [Value.ownBlock] using e
              have := HALL.out b (.inr (.inr (.inr (.inr ⟨g, HG.out.2.2.2.2.2.2.1, by rw [HG.out.2.2.2.2.2.1]; rfl⟩))))
              omega
            · exact HR6.out (.inr (.inr (.inr (.inr ⟨a, ha, e⟩))))
        have hL9 : LAt (w8.setCell ⟨p, 6, none⟩ (.int .i64 ((st.ver : Int) + 1))) 1 p pp pa hm F6 FQ (vPut V g.id (.slice (some ⟨b, 0, none⟩) m cV)) fs (LM.up { LM.give fs st gq [⟨sn, sd, sm, sc⟩] with hs := LM.upd g.id (fun _ => ⟨g.id, g.q, g.un, true, g.sl.dropLast⟩) st.hs }) := HL8.out.bump
        have hL10 := hL9.other (set4_foot _ w.heap.size (.int .i64 sn) (.int .i64 sd) (.int .u64 (sm : Nat)) (.int .i64 sc)) hR8
        refine leaves_cons (f := 50) (args := #[.pointer (some ⟨p, 0, none⟩)]) (by simp) (by simp [go_sem]) ?_
        refine (unlock_deferred muLib ⟨p, 0, none⟩ .returning _ hL10.cells.1 hL10.cells.2.1).mono ?_
        rintro e u' w'' ⟨rfl, rfl, rfl⟩
        have f6 : Foot (LB p hm FP FQ V st) w w6 := ((((Foot.of_below (F := LB p hm FP FQ V st) HB0.out).trans HF1.out fun i hi => .inl hi).trans (Foot.of_below (F := LB p hm FP FQ V st) HB2.out) fun i hi => .inl hi).trans (Foot.of_below (F := LB p hm FP FQ V st) HF6.out.2.2.2.2.2) fun i hi => .inl hi).trans (HF6.out.1.mono fun i hi => (by rcases hi with e | e; exact .inr (.inr (.inl e)); exact .inr (.inr (.inr (.inl e))) : LB p hm FP FQ V st i)) fun i hi => .inl hi
        have f8 : Foot (LB p hm FP FQ V st) w w8 := ((f6.trans (foot_set w6 B 4 (.slice (some ⟨b, 0, none⟩) m cV)) fun i (e : i = B) => .inr (by omega)).drew).trans HF8.out.1 fun i (e : i = hm) => .inl (.inr (.inl e))
        have f10 : Foot (LB p hm FP FQ V st) w (set4 (w8.setCell ⟨p, 6, none⟩ (.int .i64 ((st.ver : Int) + 1))) w.heap.size (.int .i64 sn) (.int .i64 sd) (.int .u64 (sm : Nat)) (.int .i64 sc)) := (Foot.setCell (p := ⟨p, 6, none⟩) f8 (.inl (.inl rfl)) _).trans (set4_foot _ w.heap.size _ _ _ _) fun i (e : i = w.heap.size) => .inr (Nat.le_of_eq e.symm)
        obtain ⟨F', r1, r2, r3⟩ := HH.out.close hL10 f10 (fun i hi => by rcases HF6.out.2.1 i hi with e | e; exact .inl e; exact .inr (by omega)) (fun k hk i hi => by
          rcases vPut_upd (hs := st.hs) (g' := ⟨g.id, g.q, g.un, true, g.sl.dropLast⟩) rfl hk hi with e | e
          · exact .inl ⟨g, HG.out.2.2.2.2.2.2.1, by rw [HG.out.2.2.2.2.2.1]; exact e⟩
          · exact .inl e)
        have hbk9 := (Below.heap_setCell (set4 (w8.setCell ⟨p, 6, none⟩ (.int .i64 ((st.ver : Int) + 1))) w.heap.size (.int .i64 sn) (.int .i64 sd) (.int .u64 (sm : Nat)) (.int .i64 sc)) ⟨p, 0, none⟩ (.int .i32 0) w.heap.size (fun e => rp (by simpa using e))).trans (set4_blk ((Below.heap_setCell w8 ⟨p, 6, none⟩ (.int .i64 ((st.ver : Int) + 1)) w.heap.size (fun e => rp (by simpa using e))).trans HF8.out.2) (.int .i64 sn) (.int .i64 sd) (.int .u64 (sm : Nat)) (.int .i64 sc))
        have hst : LM.upd gid (fun h => { h with sl := h.sl.dropLast }) st.hs = LM.upd g.id (fun _ => ⟨g.id, g.q, g.un, true, g.sl.dropLast⟩) st.hs := by
          rw [HG.out.1, LM.upd_one HH.out.ok.asc HG.out.2.2.2.2.2.2.1, HG.out.2.2.2.1]
        rw [hst, ← HG.out.2.1]
        obtain ⟨W9, hW9⟩ : ∃ W9, W9 = (set4 (w8.setCell ⟨p, 6, none⟩ (.int .i64 ((st.ver : Int) + 1))) w.heap.size (.int .i64 sn) (.int .i64 sd) (.int .u64 (sm : Nat)) (.int .i64 sc)).setCell ⟨p, 0, none⟩ (.int .i32 0) := ⟨_, rfl⟩
        have r1' : LObj ((set4 (w8.setCell ⟨p, 6, none⟩ (.int .i64 ((st.ver : Int) + 1))) w.heap.size (.int .i64 sn) (.int .i64 sd) (.int .u64 (sm : Nat)) (.int .i64 sc)).setCell ⟨p, 0, none⟩ (.int .i32 0)) p F' fs _ := r1
        rw [← hW9] at hbk9 r1' r2 ⊢
        obtain ⟨q0, q1, q2, q3, _⟩ := blk4 hbk9
        clear hW9
        refine ⟨.tuple #[.agg #[.int .i64 sn, .int .i64 sd, .int .u64 (sm : Nat), .int .i64 sc], .int .i64 0], by simp [results, Tryz.results26, go_sem, q0, q1, q2, q3], rfl, F', ?_, r2, r3⟩
        rw [HG.out.2.1] at r1' ⊢
        exact r1'
end Go.Proofs.YtgpfmlidchogcaaGreat

set_option maxRecDepth 100000
set_option linter.unusedVariables false
namespace Go.Proofs.YtgpfmlidchogcaaGreat
open Go.RowKit Go.MuLone

namespace LM
theorem take_err {fs : List Fr} {st : LS} {q : Int} {sl : List PM.Sl} (h : (take fs st q sl).1 ≠ 0) : (take fs st q sl).2 = st := by
  unfold take at h ⊢
  split
  · rfl
  · split
    · rfl
    · simp_all
theorem take_keeps (fs : List Fr) (st : LS) (q : Int) (sl : List PM.Sl) : (take fs st q sl).2.hs = st.hs ∧ (take fs st q sl).2.ver = st.ver ∧ (take fs st q sl).2.dr = st.dr := by
  unfold take
  split
  · exact ⟨rfl, rfl, rfl⟩
  · split
    · exact ⟨rfl, rfl, rfl⟩
    · exact ⟨rfl, rfl, rfl⟩
theorem take_all {fs : List Fr} {st : LS} {q : Int} {sl : List PM.Sl} (h : (take fs st q sl).1 = 0) {n : Nat} (hf : FsOk fs n) (hi : PM.Inv fs st.ts) (hs : ∀ s ∈ sl, SlOk s) : ∀ s ∈ sl, SlIn s := by
  unfold take at h
  split at h
  · rename_i h1; exact absurd h h1
  · rename_i h1; exact whole_in hf hi hs (Classical.not_not.1 h1)
theorem take_in {fs : List Fr} {st : LS} {q : Int} {s : PM.Sl} (h : (take fs st q [s]).1 = 0) {n : Nat} (hf : FsOk fs n) (hi : PM.Inv fs st.ts) (hs : SlOk s) : SlIn s :=
  take_all h hf hi (fun x hx => by simp at hx; rw [hx]; exact hs) s (List.mem_singleton.2 rfl)
end LM
section
variable {w w' : World} {lk : Int} {p pp pa hm : Nat} {FP FQ G : Nat → Prop} {V : Int → Value} {fs : List Fr} {st : LS}
theorem LAt.replaced (h : LAt w lk p pp pa hm FP FQ V fs st) (hfew : st.hs.length ≤ 1000000) {g g' : Hd} (hg : g ∈ st.hs) (hi : g'.id = g.id) (ho : HdOk g') (hq : hasQ st.qs g'.q = true) (v : Value)
    (hf : Foot G w w') (hG : ∀ i, LB p hm FP FQ V st i → G i → (V g.id).ownBlock = some i) (hr : w'.ownsRow 0 41 4 v g'.sl.length (g'.sl.flatMap slC)) (hv : ∀ i, v.ownBlock = some i → (V g.id).ownBlock = some i ∨ w.heap.size ≤ i) :
    ∃ w'', (Instr.mapUpdate 70 (.map (some hm)) (.int .i64 g.id) (hdV g' v)).run Tryz.prog w' = .ok () w'' ∧ LAt w'' lk p pp pa hm FP FQ (vPut V g.id v) fs { st with hs := LM.upd g.id (fun _ => g') st.hs } ∧ Foot (· = hm) w' w'' := by
  have hx := (h.ok.ok g hg).id
  have hfind := LM.find_of h.ok.asc hg
  have hsome : (hView st.hs V g.id).isSome = true := by unfold hView; rw [hfind]; rfl
  have hvo : ∀ i, (V g.id).ownBlock = some i → ¬ FP i ∧ ¬ FQ i ∧ i ≠ p ∧ i ≠ hm := h.av g hg
  have hsame : ∀ i, LB p hm FP FQ V st i → (V g.id).ownBlock ≠ some i → w'.heap[i]? = w.heap[i]? := fun i hl hne => hf.block i (h.all i hl) fun e => hne (hG i hl e)
  have hm1 : hMap w' hm st.hs.length (hView st.hs V) := h.map.of_block (hsame hm (.inr (.inl rfl)) fun e => (hvo hm e).2.2.2 rfl)
  obtain ⟨w'', hrun, hmp, ht⟩ := hm1.store hKey hTy (by unfold maxLen; omega) (hdV g' v) hx
  rw [hsome, if_pos rfl] at hmp
  have hft := turnedFoot ht
  have hs2 : w.heap.size ≤ w''.heap.size := Nat.le_trans hf.size hft.size
  have hk : ∀ i, LB p hm FP FQ V st i → (V g.id).ownBlock ≠ some i → i ≠ hm → w''.heap[i]? = w.heap[i]? := fun i hl h1 h2 => (hft.block i (Nat.lt_of_lt_of_le (h.all i hl) hf.size) h2).trans (hsame i hl h1)
  have hmem : ∀ k ∈ LM.upd g.id (fun _ => g') st.hs, k = g' ∨ (k ∈ st.hs ∧ k.id ≠ g.id) := fun k hk => by
    obtain ⟨a, ha, e⟩ := LM.mem_upd.1 hk
    split at e
    · exact .inl e.symm
    · rename_i hne; subst e; exact .inr ⟨ha, hne⟩
  have hfu : ∀ y, LM.find y (LM.upd g.id (fun _ => g') st.hs) = if y = g.id then some g' else LM.find y st.hs := fun y => by
    have hasc := (h.ok.upd hg hi ho hq).asc
    by_cases e : y = g.id
    · rw [if_pos e]
      refine (LM.find_eq hasc).2 ⟨LM.mem_upd.2 ⟨g, hg, by simp⟩, by rw [hi, e]⟩
    · rw [if_neg e]
      cases hf : LM.find y st.hs with
      | none =>
        unfold LM.find
        rw [List.find?_eq_none]
        intro k hk
        rcases hmem k hk with e2 | e2
        · subst e2; simpa [hi] using fun e3 => e e3.symm
        · simpa using LM.find_none hf k e2.1
      | some k =>
        obtain ⟨h1, h2⟩ := LM.find_some hf
        exact (LM.find_eq hasc).2 ⟨LM.mem_upd.2 ⟨k, h1, by rw [if_neg (by rw [h2]; exact e)]⟩, h2⟩
  have hvv : ∀ i, v.ownBlock = some i → ¬ FP i ∧ ¬ FQ i ∧ i ≠ p ∧ i ≠ hm ∧ ∀ k ∈ st.hs, k.id ≠ g.id → (V k.id).ownBlock ≠ some i := fun i hi2 => by
    rcases hv i hi2 with e | e
    · obtain ⟨a1, a2, a3, a4⟩ := hvo i e
      exact ⟨a1, a2, a3, a4, fun k hk hne => h.avv g hg k hk (fun e2 => hne e2.symm) i e⟩
    · exact ⟨fun e2 => by have := h.pool.lt.2.2 i e2; omega, fun e2 => by have := h.acc.lt.2.2 i e2; omega, fun e2 => by have := h.lt.1; omega, fun e2 => by have := h.lt.2.1; omega, fun k hk _ e2 => by have := ((h.rows k hk).lt i e2).2; omega⟩
  refine ⟨w'', hrun, ⟨h.ok.upd hg hi ho hq, (hk p (.inl rfl) (fun e => (hvo p e).2.2.1 rfl) h.lt.2.2).trans h.obj, h.pool.off hs2 fun i hi2 e => hk i (.inr (.inr (.inl e))) (fun e2 => (hvo i e2).1 e) (h.ap1 i e).2.2,
    h.acc.off hs2 fun i hi2 e => hk i (.inr (.inr (.inr (.inl e)))) (fun e2 => (hvo i e2).2.1 e) (h.ap2 i e).2, ?_, fun k hkm => ?_, h.ap1, h.ap2, fun k hkm i hi2 => ?_, fun a ha b hb hne i hi2 => ?_⟩, hft⟩
  · show hMap w'' hm (LM.upd g.id (fun _ => g') st.hs).length _
    rw [LM.upd_len]
    exact hmp.congr fun y _ => vPut_view hi hfu y
  · rcases hmem k hkm with e | e
    · subst e; rw [hi, vPut_same]; exact own_stays hr fun i hi2 => hft.block i (hr.lt i hi2).2 (hvv i hi2).2.2.2.1
    · rw [vPut_other e.2]
      exact own_stays (h.rows k e.1) fun i hi2 => hk i (.inr (.inr (.inr (.inr ⟨k, e.1, hi2⟩)))) (fun e2 => h.avv k e.1 g hg e.2 i hi2 e2) (h.av k e.1 i hi2).2.2.2
  · rcases hmem k hkm with e | e
    · subst e; rw [hi, vPut_same] at hi2; obtain ⟨a1, a2, a3, a4, _⟩ := hvv i hi2; exact ⟨a1, a2, a3, a4⟩
    · rw [vPut_other e.2] at hi2; exact h.av k e.1 i hi2
  · rcases hmem a ha with e | e
    · subst e
      rw [hi, vPut_same] at hi2
      rcases hmem b hb with e2 | e2
      · subst e2; exact absurd rfl hne
      · rw [vPut_other e2.2]; exact (hvv i hi2).2.2.2.2 b e2.1 e2.2
    · rw [vPut_other e.2] at hi2
      rcases hmem b hb with e2 | e2
      · subst e2; rw [hi, vPut_same]; exact fun e3 => (hvv i e3).2.2.2.2 a e.1 e.2 hi2
      · rw [vPut_other e2.2]; exact h.avv a e.1 b e2.1 hne i hi2
end

set_option maxHeartbeats 4000000 in
theorem grow_l {w : World} {p : Nat} {F : Nat → Prop} {fs : List Fr} {st : LS} (id : Int) (s : PM.Sl) (h : LObj w p F fs st) (hver : st.ver ≤ 100000) (hid : (Lit.int .i64 id).wf = true) (hso : SlOk s) :
    Calls Tryz.prog 24 #[.pointer (some ⟨p, 0, none⟩), .int .i64 id, .agg #[.int .i64 s.n, .int .i64 s.d, .int .u64 (s.m : Nat), .int .i64 s.c]] w fun e w' => e = .returned (.int .i64 (LM.grow fs st id s).1) ∧ ∃ F', LObj w' p F' fs (LM.grow fs st id s).2 ∧ Foot F w w' ∧ ∀ i, F' i → F i ∨ w.heap.size ≤ i := by
  obtain ⟨pp, pa, hm, FP, FQ, V, h, rfl⟩ := h
  obtain ⟨W0, hW0⟩ : ∃ W0, W0 = w.alloc (.cells #[.int .i64 s.n, .int .i64 s.d, .int .u64 (s.m : Nat), .int .i64 s.c] 41) := ⟨_, rfl⟩
  have hB0 : Below w.heap.size w W0 := by rw [hW0]; exact (Below.refl w.heap.size w).alloc (Nat.le_refl _) _
  have hbk0 : W0.heap[w.heap.size]? = some (.cells #[.int .i64 s.n, .int .i64 s.d, .int .u64 (s.m : Nat), .int .i64 s.c] 41 (0, 0)) := by rw [hW0]; exact heap_alloc_new w _
  have h0 := h.keep hB0
  have hall := h.all
  have lR : w.heap.size < W0.heap.size := blk_lt hbk0
  have HB0 := Lib.hid hB0
  have HW0 := Lib.hid hW0
  have HALL := Lib.hid hall
  clear hW0 hB0 hall
  obtain ⟨c0, z0, _⟩ := h0.cells
  have h1 := h0.lock 1
  obtain ⟨w1, hw1⟩ : ∃ w1, w1 = W0.setCell ⟨p, 0, none⟩ (.int .i32 1) := ⟨_, rfl⟩
  rw [← hw1] at h1
  have hf1 : Foot (LB p hm FP FQ V st) W0 w1 := by rw [hw1]; exact (foot_set W0 p 0 _).mono fun i hi => .inl hi
  have lw1 : W0.heap.size ≤ w1.heap.size := hf1.size
  have hfew : st.hs.length ≤ 1000000 := by have := h.ok.few; omega
  obtain ⟨_, _, c2, c3, c4, c5, c6, z6⟩ := h1.cells
  have lp := h1.lt.1
  have hpne : p < w.heap.size := h.lt.1
  have hbk1 : w1.heap[w.heap.size]? = W0.heap[w.heap.size]? := hf1.block _ lR fun e => by have := HALL.out _ e; omega
  rw [hbk0] at hbk1
  have H := Lib.hid h0
  have H1 := Lib.hid h1
  have HF1 := Lib.hid hf1
  have HW1 := Lib.hid hw1
  have HBK1 := Lib.hid hbk1
  have HH := Lib.hid h
  have hRF : ¬ LB p hm FP FQ V st w.heap.size := fun e => by have := HALL.out _ e; omega
  have HRF := Lib.hid hRF
  have lR1 : w.heap.size < w1.heap.size := blk_lt hbk1
  have rp : w.heap.size ≠ p := by omega
  have hRun := running_l id hid h1
  obtain ⟨sn, sd, sm, sc⟩ := s
  simp only at hbk0 hbk1 HBK1 HW0 ⊢
  have HS := Lib.hid hso
  unfold runV at hRun
  unfold LM.grow
  clear hso
  cases hf : LM.find id st.hs with
  | none =>
    rw [hf] at hRun
    simp only [hdZ] at hRun
    have HRun := Lib.hid hRun
    clear hRun hf h h1 hf1 hw1 hbk0 hbk1 hRF
    go_enter_defers Tryz.func24, Tryz.ntmps24
    go_wp2_with (first | (go_at_call 49; rw [← HW0.out]; refine (lock_free muLib ⟨p, 0, none⟩ _ c0 z0).mono ?_; rintro e w' ⟨rfl, rfl⟩; rw [← HW1.out]))
    refine HRun.out.mono ?_
    rintro e w2 ⟨rfl, hb2⟩
    have HL2 := Lib.hid (H1.out.keep hb2)
    have hbk2 := (hb2.block w.heap.size lR1).trans HBK1.out
    have HBK2 := Lib.hid hbk2
    obtain ⟨x0, x1, x2, x3, xz0, xz1, xz2, xz3, lR2⟩ := blk4 hbk2
    have HB2 := Lib.hid hb2
    have l12 : w1.heap.size ≤ w2.heap.size := hb2.size
    clear hb2 hbk2
    go_wp2
    have hL3 := HL2.out.keep ((Below.refl _ _).alloc (Nat.le_refl _) (.cells #[.int .i64 0, .int .i64 0, .int .i64 0, .bool false, .slice none 0 0] 44))
    refine leaves_cons (f := 50) (args := #[.pointer (some ⟨p, 0, none⟩)]) (by simp) (by simp [go_sem]) ?_
    refine (unlock_deferred muLib ⟨p, 0, none⟩ .returning _ hL3.cells.1 hL3.cells.2.1).mono ?_
    rintro e u' w'' ⟨rfl, rfl, rfl⟩
    have f2 : Foot (LB p hm FP FQ V st) w w2 := ((Foot.of_below (F := LB p hm FP FQ V st) HB0.out).trans HF1.out fun i hi => .inl hi).trans (Foot.of_below (F := LB p hm FP FQ V st) HB2.out) fun i hi => .inl hi
    obtain ⟨F', r1, r2, r3⟩ := HH.out.close hL3 (f2.alloc _) (fun i hi => .inl hi) (fun k hk i hi => .inl ⟨k, hk, hi⟩)
    exact ⟨_, results_tmp rfl _ _ _, rfl, F', r1, r2, r3⟩
  | some g =>
    obtain ⟨hg, hgi⟩ := LM.find_some hf
    obtain ⟨b, cV, eV, hsl, hbl, b1, b2, b3, b4⟩ := h1.slots hg
    have hgo := h.ok.ok g hg
    rw [hf] at hRun
    simp only [hdV, eV, hdZ] at hRun
    simp only
    obtain ⟨gr, e4⟩ : ∃ x, x = g.run := ⟨_, rfl⟩
    rw [← e4] at hRun ⊢
    cases gr
    · rw [if_neg (by simp)] at hRun
      rw [if_pos rfl]
      have HRun := Lib.hid hRun
      clear hRun hf h h1 hf1 hw1 hbk0 hbk1 hRF hsl hgo hg hgi e4 eV
      go_enter_defers Tryz.func24, Tryz.ntmps24
      go_wp2_with (first | (go_at_call 49; rw [← HW0.out]; refine (lock_free muLib ⟨p, 0, none⟩ _ c0 z0).mono ?_; rintro e w' ⟨rfl, rfl⟩; rw [← HW1.out]))
      refine HRun.out.mono ?_
      rintro e w2 ⟨rfl, hb2⟩
      have HL2 := Lib.hid (H1.out.keep hb2)
      have hbk2 := (hb2.block w.heap.size lR1).trans HBK1.out
      have HBK2 := Lib.hid hbk2
      obtain ⟨x0, x1, x2, x3, xz0, xz1, xz2, xz3, lR2⟩ := blk4 hbk2
      have HB2 := Lib.hid hb2
      have l12 : w1.heap.size ≤ w2.heap.size := hb2.size
      clear hb2 hbk2
      go_wp2
      have hL3 := HL2.out.keep ((Below.refl _ _).alloc (Nat.le_refl _) (.cells #[.int .i64 0, .int .i64 0, .int .i64 0, .bool false, .slice none 0 0] 44))
      refine leaves_cons (f := 50) (args := #[.pointer (some ⟨p, 0, none⟩)]) (by simp) (by simp [go_sem]) ?_
      refine (unlock_deferred muLib ⟨p, 0, none⟩ .returning _ hL3.cells.1 hL3.cells.2.1).mono ?_
      rintro e u' w'' ⟨rfl, rfl, rfl⟩
      have f2 : Foot (LB p hm FP FQ V st) w w2 := ((Foot.of_below (F := LB p hm FP FQ V st) HB0.out).trans HF1.out fun i hi => .inl hi).trans (Foot.of_below (F := LB p hm FP FQ V st) HB2.out) fun i hi => .inl hi
      obtain ⟨F', r1, r2, r3⟩ := HH.out.close hL3 (f2.alloc _) (fun i hi => .inl hi) (fun k hk i hi => .inl ⟨k, hk, hi⟩)
      exact ⟨_, results_tmp rfl _ _ _, rfl, F', r1, r2, r3⟩
    · rw [if_pos rfl] at hRun
      rw [if_neg (by simp)]
      obtain ⟨gid, e1⟩ : ∃ x, x = g.id := ⟨_, rfl⟩
      obtain ⟨gq, e2⟩ : ∃ x, x = g.q := ⟨_, rfl⟩
      obtain ⟨gu, e3⟩ : ∃ x, x = g.un := ⟨_, rfl⟩
      obtain ⟨n, hn⟩ : ∃ n, n = g.sl.length := ⟨_, rfl⟩
      have n1 := hgo.n1
      have n2 := hgo.n2
      have eVn := eV
      rw [← hn] at n1 n2 eVn
      rw [← e1, ← e2, ← e3, ← hn] at hRun
      have HRun := Lib.hid hRun
      rw [← hn, ← e2]
      by_cases hfull : 16 ≤ n
      · rw [if_pos hfull]
        have t0 : decide ((16 : Int) ≤ (n : Int)) = true := decide_eq_true (by omega)
        have t1 : decide ((n : Int) ≥ 16) = true := decide_eq_true (by omega)
        clear hRun hf h h1 hf1 hw1 hbk0 hbk1 hRF hsl hgo hg hgi e1 e2 e3 e4 eV eVn hn hfull n1 n2
        go_enter_defers Tryz.func24, Tryz.ntmps24
        go_wp2_with (first | (go_at_call 49; rw [← HW0.out]; refine (lock_free muLib ⟨p, 0, none⟩ _ c0 z0).mono ?_; rintro e w' ⟨rfl, rfl⟩; rw [← HW1.out]))
        refine HRun.out.mono ?_
        rintro e w2 ⟨rfl, hb2⟩
        have HL2 := Lib.hid (H1.out.keep hb2)
        have hbk2 := (hb2.block w.heap.size lR1).trans HBK1.out
        have HBK2 := Lib.hid hbk2
        obtain ⟨x0, x1, x2, x3, xz0, xz1, xz2, xz3, lR2⟩ := blk4 hbk2
        have HB2 := Lib.hid hb2
        have l12 : w1.heap.size ≤ w2.heap.size := hb2.size
        clear hb2 hbk2
        go_wp2
        have hL3 := HL2.out.keep ((Below.refl _ _).alloc (Nat.le_refl _) (.cells #[.int .i64 gid, .int .i64 gq, .int .i64 gu, .bool true, .slice (some ⟨b, 0, none⟩) n cV] 44))
        refine leaves_cons (f := 50) (args := #[.pointer (some ⟨p, 0, none⟩)]) (by simp) (by simp [go_sem]) ?_
        refine (unlock_deferred muLib ⟨p, 0, none⟩ .returning _ hL3.cells.1 hL3.cells.2.1).mono ?_
        rintro e u' w'' ⟨rfl, rfl, rfl⟩
        have f2 : Foot (LB p hm FP FQ V st) w w2 := ((Foot.of_below (F := LB p hm FP FQ V st) HB0.out).trans HF1.out fun i hi => .inl hi).trans (Foot.of_below (F := LB p hm FP FQ V st) HB2.out) fun i hi => .inl hi
        obtain ⟨F', r1, r2, r3⟩ := HH.out.close hL3 (f2.alloc _) (fun i hi => .inl hi) (fun k hk i hi => .inl ⟨k, hk, hi⟩)
        exact ⟨_, results_tmp rfl _ _ _, rfl, F', r1, r2, r3⟩
      · rw [if_neg hfull]
        have t0 : decide ((16 : Int) ≤ (n : Int)) = false := decide_eq_false (by omega)
        have t1 : decide ((n : Int) ≥ 16) = false := decide_eq_false (by omega)
        have n3 : n ≤ 15 := by omega
        have hgid : gid = id := by rw [e1]; exact hgi
        subst hgid
        have hown := h1.rows g hg
        have HG := Lib.hid (And.intro e1 (And.intro e2 (And.intro e3 (And.intro e4 (And.intro hn (And.intro eVn (And.intro hg hgo)))))))
        obtain ⟨T, hT0⟩ : ∃ T, T = LM.take fs st gq [⟨sn, sd, sm, sc⟩] := ⟨_, rfl⟩
        rw [← hT0]
        have HE2 := Lib.hid hT0.symm
        have hTe : T.1 ≠ 0 → T.2 = st := fun e => by rw [hT0] at e ⊢; exact LM.take_err e
        have hTk : T.2.hs = st.hs ∧ T.2.ver = st.ver ∧ T.2.dr = st.dr := by rw [hT0]; exact LM.take_keeps _ _ _ _
        have hTi : T.1 = 0 → SlIn ⟨sn, sd, sm, sc⟩ := fun e => LM.take_in (by rw [← hT0]; exact e) h.pool.ok.1 h.pool.ok.2 HS.out
        have HT := Lib.hid (And.intro hTe (And.intro hTk hTi))
        clear hRun hf h h1 hf1 hw1 hbk0 hbk1 hRF hsl hgo hg hgi e1 e2 e3 e4 eV eVn hn hown hfull hT0 hTe hTk hTi n2
        by_cases hTz : T.1 ≠ 0
        · rw [if_pos hTz]
          have t2 : (T.1 == 0) = false := beq_eq_false_iff_ne.2 hTz
          have t3 : (T.1 != 0) = true := by rw [bne_iff_ne]; exact hTz
          have HTZ := Lib.hid hTz
          clear hTz
          go_enter_defers Tryz.func24, Tryz.ntmps24
          go_wp2_with (first | (go_at_call 49; rw [← HW0.out]; refine (lock_free muLib ⟨p, 0, none⟩ _ c0 z0).mono ?_; rintro e w' ⟨rfl, rfl⟩; rw [← HW1.out]))
          refine HRun.out.mono ?_
          rintro e w2 ⟨rfl, hb2⟩
          have HL2 := Lib.hid (H1.out.keep hb2)
          have hbk2 := (hb2.block w.heap.size lR1).trans HBK1.out
          have HBK2 := Lib.hid hbk2
          obtain ⟨x0, x1, x2, x3, xz0, xz1, xz2, xz3, lR2⟩ := blk4 hbk2
          have HB2 := Lib.hid hb2
          have l12 : w1.heap.size ≤ w2.heap.size := hb2.size
          clear hb2 hbk2
          go_wp2_with fail
          obtain ⟨w5, hw5⟩ : ∃ w5, w5 = (w2.alloc (.cells #[.int .i64 gid, .int .i64 gq, .int .i64 gu, .bool true, .slice (some ⟨b, 0, none⟩) n cV] 44)).alloc (.cells #[.int .i64 sn, .int .i64 sd, .int .u64 (sm : Nat), .int .i64 sc] 41) := ⟨_, rfl⟩
          rw [← hw5]
          have hB5 : Below w2.heap.size w2 w5 := by rw [hw5]; exact ((Below.refl w2.heap.size w2).alloc (Nat.le_refl _) _).alloc (by simp) _
          have hbx5 : w5.heap[w2.heap.size]? = some (.cells #[.int .i64 gid, .int .i64 gq, .int .i64 gu, .bool true, .slice (some ⟨b, 0, none⟩) n cV] 44 (0, 0)) := by rw [hw5]; exact (Below.heap_alloc _ _ _ (by simp)).trans (heap_alloc_new w2 _)
          have hsl5 : w5.heap[w2.heap.size + 1]? = some (.cells #[.int .i64 sn, .int .i64 sd, .int .u64 (sm : Nat), .int .i64 sc] 41 (0, 0)) := by rw [hw5]; have h9 := heap_alloc_new (w2.alloc (.cells #[.int .i64 gid, .int .i64 gq, .int .i64 gu, .bool true, .slice (some ⟨b, 0, none⟩) n cV] 44)) (.cells #[.int .i64 sn, .int .i64 sd, .int .u64 (sm : Nat), .int .i64 sc] 41); simpa using h9
          obtain ⟨B, hB⟩ : ∃ B, B = w2.heap.size := ⟨_, rfl⟩
          rw [← hB] at hbx5 hsl5 ⊢
          have lB : w.heap.size < B := by omega
          have lB2 : B ≤ w2.heap.size ∧ w2.heap.size ≤ B := by omega
          have l25 : w2.heap.size ≤ w5.heap.size := hB5.size
          have lB5 := blk_lt hbx5
          have hT := take_l (some ⟨B + 1, 0, none⟩) 1 [⟨sn, sd, sm, sc⟩] gq (HL2.out.keep hB5) (fun x hx => by simp at hx; rw [hx]; exact HS.out) (slot_blk (s := ⟨sn, sd, sm, sc⟩) hsl5) (fun _ b' off e hf => by cases e; have := HALL.out _ (.inr (.inr (.inl hf))); omega) (fun _ b' off e hf => by cases e; have := HALL.out _ (.inr (.inr (.inr (.inl hf)))); omega) (by simp)
          simp only [List.length_singleton] at hT
          rw [HE2.out] at hT
          refine hT.mono ?_
          rintro e w6 ⟨rfl, F6, hL6, hf6, hy6⟩
          have hnot : ∀ i, w.heap.size ≤ i → ¬ (FP i ∨ FQ i) := fun i hi e => by have := HALL.out i (by rcases e with e | e; exact .inr (.inr (.inl e)); exact .inr (.inr (.inr (.inl e)))); omega
          have f6 : Foot (LB p hm FP FQ V st) w w6 := ((((Foot.of_below (F := LB p hm FP FQ V st) HB0.out).trans HF1.out fun i hi => .inl hi).trans (Foot.of_below (F := LB p hm FP FQ V st) HB2.out) fun i hi => .inl hi).trans (Foot.of_below (F := LB p hm FP FQ V st) hB5) fun i hi => .inl hi).trans (hf6.mono fun i hi => (by rcases hi with e | e; exact .inr (.inr (.inl e)); exact .inr (.inr (.inr (.inl e))) : LB p hm FP FQ V st i)) fun i hi => .inl hi
          rw [HT.out.1 HTZ.out] at hL6
          have HL6 := Lib.hid hL6
          have HF6 := Lib.hid (And.intro f6 hy6)
          clear hL6 hf6 hy6 hnot f6 hB5 hbx5 hsl5 hT hw5 hB
          go_wp2
          refine leaves_cons (f := 50) (args := #[.pointer (some ⟨p, 0, none⟩)]) (by simp) (by simp [go_sem]) ?_
          refine (unlock_deferred muLib ⟨p, 0, none⟩ .returning _ HL6.out.cells.1 HL6.out.cells.2.1).mono ?_
          rintro e u' w'' ⟨rfl, rfl, rfl⟩
          obtain ⟨F', r1, r2, r3⟩ := HH.out.close HL6.out HF6.out.1 (fun i hi => by rcases HF6.out.2 i hi with e | e; exact .inl e; exact .inr (by omega)) (fun k hk i hi => .inl ⟨k, hk, hi⟩)
          exact ⟨_, results_tmp rfl _ _ _, rfl, F', r1, r2, r3⟩
        · rw [if_neg hTz]
          have hT0 : T.1 = 0 := Classical.not_not.1 hTz
          have t2 : (T.1 == 0) = true := by rw [hT0]; rfl
          have t3 : (T.1 != 0) = false := by rw [hT0]; rfl
          have HT0 := Lib.hid hT0
          clear hTz hT0
          go_enter_defers Tryz.func24, Tryz.ntmps24
          go_wp2_with (first | (go_at_call 49; rw [← HW0.out]; refine (lock_free muLib ⟨p, 0, none⟩ _ c0 z0).mono ?_; rintro e w' ⟨rfl, rfl⟩; rw [← HW1.out]))
          refine HRun.out.mono ?_
          rintro e w2 ⟨rfl, hb2⟩
          have HL2 := Lib.hid (H1.out.keep hb2)
          have hbk2 := (hb2.block w.heap.size lR1).trans HBK1.out
          have HBK2 := Lib.hid hbk2
          obtain ⟨x0, x1, x2, x3, xz0, xz1, xz2, xz3, lR2⟩ := blk4 hbk2
          have HB2 := Lib.hid hb2
          have l12 : w1.heap.size ≤ w2.heap.size := hb2.size
          clear hb2 hbk2
          go_wp2_with fail
          obtain ⟨w5, hw5⟩ : ∃ w5, w5 = (w2.alloc (.cells #[.int .i64 gid, .int .i64 gq, .int .i64 gu, .bool true, .slice (some ⟨b, 0, none⟩) n cV] 44)).alloc (.cells #[.int .i64 sn, .int .i64 sd, .int .u64 (sm : Nat), .int .i64 sc] 41) := ⟨_, rfl⟩
          rw [← hw5]
          have hB5 : Below w2.heap.size w2 w5 := by rw [hw5]; exact ((Below.refl w2.heap.size w2).alloc (Nat.le_refl _) _).alloc (by simp) _
          have hbx5 : w5.heap[w2.heap.size]? = some (.cells #[.int .i64 gid, .int .i64 gq, .int .i64 gu, .bool true, .slice (some ⟨b, 0, none⟩) n cV] 44 (0, 0)) := by rw [hw5]; exact (Below.heap_alloc _ _ _ (by simp)).trans (heap_alloc_new w2 _)
          have hsl5 : w5.heap[w2.heap.size + 1]? = some (.cells #[.int .i64 sn, .int .i64 sd, .int .u64 (sm : Nat), .int .i64 sc] 41 (0, 0)) := by rw [hw5]; have h9 := heap_alloc_new (w2.alloc (.cells #[.int .i64 gid, .int .i64 gq, .int .i64 gu, .bool true, .slice (some ⟨b, 0, none⟩) n cV] 44)) (.cells #[.int .i64 sn, .int .i64 sd, .int .u64 (sm : Nat), .int .i64 sc] 41); simpa using h9
          obtain ⟨B, hB⟩ : ∃ B, B = w2.heap.size := ⟨_, rfl⟩
          rw [← hB] at hbx5 hsl5 ⊢
          have lB : w.heap.size < B := by omega
          have lB2 : B ≤ w2.heap.size ∧ w2.heap.size ≤ B := by omega
          have l25 : w2.heap.size ≤ w5.heap.size := hB5.size
          have lB5 := blk_lt hbx5
          have hT := take_l (some ⟨B + 1, 0, none⟩) 1 [⟨sn, sd, sm, sc⟩] gq (HL2.out.keep hB5) (fun x hx => by simp at hx; rw [hx]; exact HS.out) (slot_blk (s := ⟨sn, sd, sm, sc⟩) hsl5) (fun _ b' off e hf => by cases e; have := HALL.out _ (.inr (.inr (.inl hf))); omega) (fun _ b' off e hf => by cases e; have := HALL.out _ (.inr (.inr (.inr (.inl hf)))); omega) (by simp)
          simp only [List.length_singleton] at hT
          rw [HE2.out] at hT
          refine hT.mono ?_
          rintro e w6 ⟨rfl, F6, hL6, hf6, hy6⟩
          have hnot : ∀ i, w.heap.size ≤ i → ¬ (FP i ∨ FQ i) := fun i hi e => by have := HALL.out i (by rcases e with e | e; exact .inr (.inr (.inl e)); exact .inr (.inr (.inr (.inl e)))); omega
          have f6 : Foot (LB p hm FP FQ V st) w w6 := ((((Foot.of_below (F := LB p hm FP FQ V st) HB0.out).trans HF1.out fun i hi => .inl hi).trans (Foot.of_below (F := LB p hm FP FQ V st) HB2.out) fun i hi => .inl hi).trans (Foot.of_below (F := LB p hm FP FQ V st) hB5) fun i hi => .inl hi).trans (hf6.mono fun i hi => (by rcases hi with e | e; exact .inr (.inr (.inl e)); exact .inr (.inr (.inr (.inl e))) : LB p hm FP FQ V st i)) fun i hi => .inl hi
          have hgin := HG.out.2.2.2.2.2.2.1
          have hg6 : g ∈ T.2.hs := by rw [HT.out.2.1.1]; exact hgin
          have hbx6 := (hf6.block B lB5 (hnot B (by omega))).trans hbx5
          have hbk6 := (hf6.block w.heap.size (by omega) (hnot _ (Nat.le_refl _))).trans ((hB5.block w.heap.size lR2).trans HBK2.out)
          have l56 : w5.heap.size ≤ w6.heap.size := hf6.size
          have hB6 : ¬ LB p hm F6 FQ V T.2 B := LB_young hy6 (fun k hk => by rw [HT.out.2.1.1] at hk; exact hk) (fun e => by have := HALL.out _ e; omega) lB5
          have hrow6 := hL6.rows g hg6
          rw [HG.out.2.2.2.2.2.1, ← HG.out.2.2.2.2.1] at hrow6
          have hbB : b ≠ B := fun e => by have := HALL.out b (.inr (.inr (.inr (.inr ⟨g, hgin, by rw [HG.out.2.2.2.2.2.1]; rfl⟩)))); omega
          have lB6 : B < w6.heap.size := by omega
          obtain ⟨i0, hi, hz0, hz1, hz2⟩ := info_parts info_slot
          obtain ⟨y0, y1, y2, y3, y4, yz0, yz1, yz2, yz3, yz4, _⟩ := blk5 hbx6
          clear x0 x1 x2 x3 xz0 xz1 xz2 xz3
          obtain ⟨x0, x1, x2, x3, _, _, _, _, lR6⟩ := blk4 hbk6
          have HROW := Lib.hid hrow6
          have HL6 := Lib.hid hL6
          have HF6 := Lib.hid (And.intro f6 (And.intro hy6 (And.intro hbx6 (And.intro hB6 hg6))))
          clear hL6 hf6 hy6 hnot f6 hB5 hbx5 hsl5 hT hw5 hB hrow6 hB6 hbk6 hbx6 hg6 hgin c2 c3 c4 c5 c6 z6
          go_wp2_with (at_builtin; refine wpList_append_lies _ rfl _ _ 42 rfl 0 41 i0 _ 4 32 Tryz.underlying42 hi hz0 hz1 hz2 rfl (by decide) (.slice (some ⟨b, 0, none⟩) n cV) n (g.sl.flatMap slC) rfl (HROW.out.alloc _) ⟨w6.heap.size, 0, none⟩ 1 1 [.int .i64 sn, .int .i64 sd, .int .u64 (sm : Nat), .int .i64 sc] rfl rfl (World.news_of_block (cs := #[.int .i64 sn, .int .i64 sd, .int .u64 (sm : Nat), .int .i64 sc]) (t := 41) (fr := (0, 0)) (heap_alloc_new w6 _)) (by simp [Value.oneCell']) (by omega) (by unfold maxLen; omega) (by omega) (Nat.zero_le _) (w6.heap.size + 1) (by simp) ?_; intro gg cap' w7 hown7 hgrow7 hat7 hlt7; have hbx7 := (hgrow7.block B (by simp; omega) (fun e => hbB (by simpa [Value.ownBlock] using e.symm))).trans ((Below.heap_alloc w6 _ B lB6).trans HF6.out.2.2.1); clear y0 y1 y2 y3 y4 yz0 yz1 yz2 yz3 yz4; obtain ⟨y0, y1, y2, y3, y4, yz0, yz1, yz2, yz3, yz4, _⟩ := blk5 hbx7)
          have hat : gg = b ∨ w6.heap.size ≤ gg := by rcases hat7 with e | e; exact .inl (by simpa [Value.ownBlock] using e.symm); exact .inr (by omega)
          have hgB : gg ≠ B := by rcases hat with e | e; rw [e]; exact hbB; omega
          have f8 : Foot (fun i => i = b ∨ i = B) w6 (w7.setCell ⟨B, 4, none⟩ (.slice (some ⟨gg, 0, none⟩) (n + 1) cap')).drew := (Foot.setCell (p := ⟨B, 4, none⟩) (((Foot.refl (fun i => i = b ∨ i = B) w6).alloc _).grown hgrow7 fun k hk => .inl (.inl (by simpa [Value.ownBlock] using hk.symm))) (.inl (.inr rfl)) _).drew
          have hrow8 : (w7.setCell ⟨B, 4, none⟩ (.slice (some ⟨gg, 0, none⟩) (n + 1) cap')).drew.ownsRow 0 41 4 (.slice (some ⟨gg, 0, none⟩) (n + 1) cap') (g.sl ++ [(⟨sn, sd, sm, sc⟩ : PM.Sl)]).length ((g.sl ++ [(⟨sn, sd, sm, sc⟩ : PM.Sl)]).flatMap slC) := by
            have m1 : (g.sl ++ [(⟨sn, sd, sm, sc⟩ : PM.Sl)]).length = n + 1 := by rw [List.length_append, ← HG.out.2.2.2.2.1]; rfl
            rw [m1, List.flatMap_append]
            exact own_stays hown7 fun i hi => Below.heap_setCell _ _ _ _ (fun e => hgB (by have h9 : gg = i := (by simpa [Value.ownBlock] using hi); have h10 : i = B := e; omega))
          have hgo := HG.out.2.2.2.2.2.2.2
          have hsin := HT.out.2.2 HT0.out
          have hfew6 : T.2.hs.length ≤ 1000000 := by rw [HT.out.2.1.1]; exact hfew
          obtain ⟨w8, hrun, hL8, hf8⟩ := HL6.out.replaced hfew6 (g := g) (g' := ⟨g.id, g.q, g.un, true, g.sl ++ [⟨sn, sd, sm, sc⟩]⟩) HF6.out.2.2.2.2 rfl ⟨hgo.id, hgo.q, hgo.un, by simp, by simp only [List.length_append, List.length_singleton, ← HG.out.2.2.2.2.1]; omega, fun x hx => by rcases List.mem_append.1 hx with e | e; exact hgo.sl x e; rw [List.mem_singleton.1 e]; exact hsin⟩ (HL6.out.ok.q g HF6.out.2.2.2.2) (.slice (some ⟨gg, 0, none⟩) (n + 1) cap') f8
            (fun i hl hG => by rcases hG with e | e; rw [HG.out.2.2.2.2.2.1, e]; rfl; exact absurd (e ▸ hl) HF6.out.2.2.2.1) hrow8 (fun i hi => by have h9 : gg = i := by { simpa [Value.ownBlock] using hi }; subst h9; rcases hat with e | e; left; rw [HG.out.2.2.2.2.2.1, e]; rfl; exact .inr e)
          simp only [hdV] at hrun
          rw [← HG.out.1, ← HG.out.2.1, ← HG.out.2.2.1] at hrun
          have m9 : (g.sl ++ [(⟨sn, sd, sm, sc⟩ : PM.Sl)]).length = n + 1 := by rw [List.length_append, ← HG.out.2.2.2.2.1]; rfl
          have hbx8 : (w7.setCell ⟨B, 4, none⟩ (.slice (some ⟨gg, 0, none⟩) (n + 1) cap')).drew.heap[B]? = some (.cells #[.int .i64 gid, .int .i64 gq, .int .i64 gu, .bool true, (.slice (some ⟨gg, 0, none⟩) (n + 1) cap')] 44 (0, 0)) := blk_put (i := 4) (.slice (some ⟨gg, 0, none⟩) (n + 1) cap') hbx7
          obtain ⟨v0, v1, v2, v3, v4, _⟩ := blk5 hbx8
          have d4 : (w7.setCell ⟨B, 4, none⟩ (.slice (some ⟨gg, 0, none⟩) (n + 1) cap')).drew.cell? ⟨p, 4, none⟩ = some (.map (some hm)) := (World.cell?_of_block (w := w6) (w' := (w7.setCell ⟨B, 4, none⟩ (.slice (some ⟨gg, 0, none⟩) (n + 1) cap')).drew) (a := ⟨p, 4, none⟩) (f8.block p HL6.out.lt.1 (fun (e : p = b ∨ p = B) => by rcases e with e | e; exact (HL6.out.av g HF6.out.2.2.2.2 b (by rw [HG.out.2.2.2.2.2.1]; rfl)).2.2.1 e.symm; exact HF6.out.2.2.2.1 (.inl e.symm)))).trans HL6.out.cells.2.2.2.2.1
          have d6 : w8.cell? ⟨p, 6, none⟩ = some (.int .i64 (st.ver : Nat)) := by have h9 := hL8.cells.2.2.2.2.2.2.1; simp only [HT.out.2.1.2.1] at h9; exact h9
          have zz6 := hL8.cells.2.2.2.2.2.2.2
          have lp8 := HL6.out.lt.1
          have HL8 := Lib.hid hL8
          have HF8 := Lib.hid (And.intro f8 hf8)
          clear hL8 hf8 f8 hrow8 hbx8 hbx7 hgo hsin hown7 hgrow7 hat7 m9 hi hz0 hz1 hz2
          go_region
          go_wp2
          have hL9 : LAt (w8.setCell ⟨p, 6, none⟩ (.int .i64 ((st.ver : Int) + 1))) 1 p pp pa hm F6 FQ (vPut V g.id (.slice (some ⟨gg, 0, none⟩) (n + 1) cap')) fs (LM.up { T.2 with hs := LM.upd g.id (fun _ => ⟨g.id, g.q, g.un, true, g.sl ++ [⟨sn, sd, sm, sc⟩]⟩) T.2.hs }) := by have ev : ((T.2.ver : Nat) : Int) = (st.ver : Nat) := (by rw [HT.out.2.1.2.1]); rw [← ev]; exact HL8.out.bump
          refine leaves_cons (f := 50) (args := #[.pointer (some ⟨p, 0, none⟩)]) (by simp) (by simp [go_sem]) ?_
          refine (unlock_deferred muLib ⟨p, 0, none⟩ .returning _ hL9.cells.1 hL9.cells.2.1).mono ?_
          rintro e u' w'' ⟨rfl, rfl, rfl⟩
          have f9 : Foot (LB p hm FP FQ V st) w (w8.setCell ⟨p, 6, none⟩ (.int .i64 ((st.ver : Int) + 1))) := Foot.setCell (p := ⟨p, 6, none⟩) ((HF6.out.1.trans HF8.out.1 fun i hi => by rcases hi with e | e; exact .inl (.inr (.inr (.inr (.inr ⟨g, HG.out.2.2.2.2.2.2.1, by rw [HG.out.2.2.2.2.2.1, e]; rfl⟩)))); exact .inr (by omega)).trans HF8.out.2 fun i (e : i = hm) => .inl (.inr (.inl e))) (.inl (.inl rfl)) _
          obtain ⟨F', r1, r2, r3⟩ := HH.out.close hL9 f9 (fun i hi => by rcases HF6.out.2.1 i hi with e | e; exact .inl e; exact .inr (by omega)) (fun k hk i hi => by
            rcases vPut_upd (hs := T.2.hs) (g' := ⟨g.id, g.q, g.un, true, g.sl ++ [⟨sn, sd, sm, sc⟩]⟩) rfl hk hi with e | ⟨a, ha, e⟩
            · have h9 : gg = i := by simpa [Value.ownBlock] using e
              subst h9
              rcases hat with e | e
              · exact .inl ⟨g, HG.out.2.2.2.2.2.2.1, by rw [HG.out.2.2.2.2.2.1, e]; rfl⟩
              · exact .inr (by omega)
            · exact .inl ⟨a, by rw [HT.out.2.1.1] at ha; exact ha, e⟩)
          have hst : LM.upd gid (fun h => { h with sl := h.sl ++ [⟨sn, sd, sm, sc⟩] }) st.hs = LM.upd g.id (fun _ => ⟨g.id, g.q, g.un, true, g.sl ++ [⟨sn, sd, sm, sc⟩]⟩) T.2.hs := by rw [HG.out.1, HT.out.2.1.1, LM.upd_one HH.out.ok.asc HG.out.2.2.2.2.2.2.1, HG.out.2.2.2.1]
          rw [hst]
          exact ⟨_, results_tmp rfl _ _ _, rfl, F', r1, r2, r3⟩
end Go.Proofs.YtgpfmlidchogcaaGreat

set_option maxRecDepth 100000
set_option linter.unusedVariables false
namespace Go.Proofs.YtgpfmlidchogcaaGreat
open Go.RowKit Go.MuLone

theorem qLeft_2 (l : List Qa) (q : Int) : (qLeft l q).2 = if hasQ l q = false then 3 else 0 := by
  unfold qLeft
  by_cases h : hasQ l q = false
  · rw [if_pos h, if_pos h]
  · rw [if_neg h, if_neg h]
    cases hq : l[q.toNat]? with
    | none =>
      rw [List.getElem?_eq_none_iff] at hq
      unfold hasQ at h
      simp at h
      omega
    | some x => rfl
theorem QObj.left {w : World} {p : Nat} {F : Nat → Prop} {l : List Qa} (q : Int) (h : QObj w p F l) :
    Calls Tryz.prog 51 #[.pointer (some ⟨p, 0, none⟩), .int .i64 q] w fun e w' => e = .returned (.tuple #[unV (qLeft l q).1, .int .i64 (qLeft l q).2]) ∧ Below w.heap.size w w' := by
  obtain ⟨g, c, h1, rfl⟩ := h
  exact left_q p g c l q w h1
theorem LM.take_has (fs : List Fr) (st : LS) (q : Int) (sl : List PM.Sl) (x : Int) : hasQ (LM.take fs st q sl).2.qs x = hasQ st.qs x := by
  unfold LM.take
  split
  · rfl
  · split
    · rfl
    · unfold hasQ; simp only [qAdd_len]

set_option maxHeartbeats 4000000 in
theorem reserve_l {w : World} {p : Nat} {F : Nat → Prop} {fs : List Fr} {st : LS} (id q un ver : Int) (A : Option Addr) (c : Nat) (l : List PM.Sl) (h : LObj w p F fs st) (hver : st.ver ≤ 100000) (hid : (Lit.int .i64 id).wf = true) (hqw : (Lit.int .i64 q).wf = true) (hun : (Lit.int .i64 un).wf = true) (hs : ∀ s ∈ l, SlOk s) (hl : Slots w w.heap.size A l) (hA : l ≠ [] → Off A F) :
    Calls Tryz.prog 12 #[.pointer (some ⟨p, 0, none⟩), .int .i64 id, .int .i64 q, .int .i64 un, .int .i64 ver, .slice A l.length c] w fun e w' => e = .returned (.int .i64 (LM.reserve fs st id q un ver l).1) ∧ ∃ F', LObj w' p F' fs (LM.reserve fs st id q un ver l).2 ∧ Foot F w w' ∧ ∀ i, F' i → F i ∨ w.heap.size ≤ i := by
  obtain ⟨pp, pa, hm, FP, FQ, V, h, rfl⟩ := h
  obtain ⟨c0, z0, _⟩ := h.cells
  have h1 := h.lock 1
  obtain ⟨w1, hw1⟩ : ∃ w1, w1 = w.setCell ⟨p, 0, none⟩ (.int .i32 1) := ⟨_, rfl⟩
  rw [← hw1] at h1
  have hf1 : Foot (LB p hm FP FQ V st) w w1 := by rw [hw1]; exact (foot_set w p 0 _).mono fun i hi => .inl hi
  have lw1 : w.heap.size ≤ w1.heap.size := hf1.size
  have hfew : st.hs.length ≤ 1000000 := by have := h.ok.few; omega
  obtain ⟨_, _, c2, c3, c4, c5, c6, z6⟩ := h1.cells
  have lp := h1.lt.1
  have H := Lib.hid h
  have H1 := Lib.hid h1
  have HF1 := Lib.hid hf1
  have HW1 := Lib.hid hw1
  obtain ⟨n, hn⟩ : ∃ n, l.length = n := ⟨_, rfl⟩
  have HS := Lib.hid (And.intro hs (And.intro hl hA))
  have HW := Lib.hid (And.intro hid (And.intro hqw hun))
  unfold LM.reserve
  clear hs hl hA hqw hun
  by_cases hv : ver ≠ st.ver
  · rw [if_pos hv, hn]
    have t0 : (ver == ((st.ver : Nat) : Int)) = false := beq_eq_false_iff_ne.2 hv
    have t1 : (ver != ((st.ver : Nat) : Int)) = true := by rw [bne_iff_ne]; exact hv
    clear hn hv h h1 hf1 hw1
    go_enter_defers Tryz.func12, Tryz.ntmps12
    go_wp2_with (first | (go_at_call 49; refine (lock_free muLib ⟨p, 0, none⟩ _ c0 z0).mono ?_; rintro e w' ⟨rfl, rfl⟩; rw [← HW1.out]))
    have hL2 := H1.out
    refine leaves_cons (f := 50) (args := #[.pointer (some ⟨p, 0, none⟩)]) (by simp) (by simp [go_sem]) ?_
    refine (unlock_deferred muLib ⟨p, 0, none⟩ .returning _ hL2.cells.1 hL2.cells.2.1).mono ?_
    rintro e u' w'' ⟨rfl, rfl, rfl⟩
    obtain ⟨F', q1, q2, q3⟩ := H.out.close hL2 (HF1.out) (fun i hi => .inl hi) (fun k hk i hi => .inl ⟨k, hk, hi⟩)
    exact ⟨_, results_tmp rfl _ _ _, rfl, F', q1, q2, q3⟩
  rw [if_neg hv]
  have t0 : (ver == ((st.ver : Nat) : Int)) = true := by rw [beq_iff_eq]; exact Classical.not_not.1 hv
  have t1 : (ver != ((st.ver : Nat) : Int)) = false := by rw [bne_eq_false_iff_eq]; exact Classical.not_not.1 hv
  clear hv
  rw [hn]
  by_cases hlen : n < 1 ∨ 16 < n
  · rw [if_pos hlen]
    by_cases hlo : n < 1
    · have t2 : decide ((n : Int) < 1) = true := decide_eq_true (by omega)
      clear hn hlen hlo h h1 hf1 hw1
      go_enter_defers Tryz.func12, Tryz.ntmps12
      go_wp2_with (first | (go_at_call 49; refine (lock_free muLib ⟨p, 0, none⟩ _ c0 z0).mono ?_; rintro e w' ⟨rfl, rfl⟩; rw [← HW1.out]))
      have hL2 := H1.out
      refine leaves_cons (f := 50) (args := #[.pointer (some ⟨p, 0, none⟩)]) (by simp) (by simp [go_sem]) ?_
      refine (unlock_deferred muLib ⟨p, 0, none⟩ .returning _ hL2.cells.1 hL2.cells.2.1).mono ?_
      rintro e u' w'' ⟨rfl, rfl, rfl⟩
      obtain ⟨F', q1, q2, q3⟩ := H.out.close hL2 (HF1.out) (fun i hi => .inl hi) (fun k hk i hi => .inl ⟨k, hk, hi⟩)
      exact ⟨_, results_tmp rfl _ _ _, rfl, F', q1, q2, q3⟩
    · have t2 : decide ((n : Int) < 1) = false := decide_eq_false (by omega)
      have t3 : decide ((16 : Int) < (n : Int)) = true := decide_eq_true (by omega)
      have t4 : decide ((n : Int) > 16) = true := decide_eq_true (by omega)
      clear hn hlen hlo h h1 hf1 hw1
      go_enter_defers Tryz.func12, Tryz.ntmps12
      go_wp2_with (first | (go_at_call 49; refine (lock_free muLib ⟨p, 0, none⟩ _ c0 z0).mono ?_; rintro e w' ⟨rfl, rfl⟩; rw [← HW1.out]))
      have hL2 := H1.out
      refine leaves_cons (f := 50) (args := #[.pointer (some ⟨p, 0, none⟩)]) (by simp) (by simp [go_sem]) ?_
      refine (unlock_deferred muLib ⟨p, 0, none⟩ .returning _ hL2.cells.1 hL2.cells.2.1).mono ?_
      rintro e u' w'' ⟨rfl, rfl, rfl⟩
      obtain ⟨F', q1, q2, q3⟩ := H.out.close hL2 (HF1.out) (fun i hi => .inl hi) (fun k hk i hi => .inl ⟨k, hk, hi⟩)
      exact ⟨_, results_tmp rfl _ _ _, rfl, F', q1, q2, q3⟩
  rw [if_neg hlen]
  have t2 : decide ((n : Int) < 1) = false := decide_eq_false (by omega)
  have t3 : decide ((16 : Int) < (n : Int)) = false := decide_eq_false (by omega)
  have t4 : decide ((n : Int) > 16) = false := decide_eq_false (by omega)
  have n1 : 1 ≤ n := by omega
  have n2 : n ≤ 16 := by omega
  clear hlen
  have hlook := (h1.map.look hKey hTy zeroHold hid).1
  cases hf : LM.find id st.hs with
  | some g =>
    obtain ⟨hg, hgi⟩ := LM.find_some hf
    obtain ⟨b, cV, eV, _⟩ := h1.slots hg
    unfold hView at hlook
    rw [hf] at hlook
    simp only [Option.map_some, Option.getD_some, Option.isSome_some, hdV, eV] at hlook
    rw [if_pos (show (some g).isSome = true from rfl)]
    obtain ⟨gid, e1⟩ : ∃ x, x = g.id := ⟨_, rfl⟩
    obtain ⟨gq, e2⟩ : ∃ x, x = g.q := ⟨_, rfl⟩
    obtain ⟨gu, e3⟩ : ∃ x, x = g.un := ⟨_, rfl⟩
    obtain ⟨gr, e4⟩ : ∃ x, x = g.run := ⟨_, rfl⟩
    obtain ⟨m, e5⟩ : ∃ m, m = g.sl.length := ⟨_, rfl⟩
    rw [← e1, ← e2, ← e3, ← e4, ← e5] at hlook
    clear hn hf h h1 hf1 hw1 hg hgi eV e1 e2 e3 e4 e5
    go_enter_defers Tryz.func12, Tryz.ntmps12
    go_wp2_with (first | (go_at_call 49; refine (lock_free muLib ⟨p, 0, none⟩ _ c0 z0).mono ?_; rintro e w' ⟨rfl, rfl⟩; rw [← HW1.out]))
    have hL2 := H1.out.keep ((Below.refl _ w1).alloc (Nat.le_refl _) (.cells #[.int .i64 gid, .int .i64 gq, .int .i64 gu, .bool gr, .slice (some ⟨b, 0, none⟩) m cV] 44))
    refine leaves_cons (f := 50) (args := #[.pointer (some ⟨p, 0, none⟩)]) (by simp) (by simp [go_sem]) ?_
    refine (unlock_deferred muLib ⟨p, 0, none⟩ .returning _ hL2.cells.1 hL2.cells.2.1).mono ?_
    rintro e u' w'' ⟨rfl, rfl, rfl⟩
    obtain ⟨F', q1, q2, q3⟩ := H.out.close hL2 (HF1.out.alloc _) (fun i hi => .inl hi) (fun k hk i hi => .inl ⟨k, hk, hi⟩)
    exact ⟨_, results_tmp rfl _ _ _, rfl, F', q1, q2, q3⟩
  | none =>
    unfold hView at hlook
    rw [hf] at hlook
    simp only [Option.map_none, Option.getD_none, Option.isSome_none, hdZ] at hlook
    rw [if_neg (by simp)]
    have hLeft := (h1.acc.keep ((Below.refl _ w1).alloc (Nat.le_refl _) (.cells #[.int .i64 0, .int .i64 0, .int .i64 0, .bool false, .slice none 0 0] 44))).left q
    rw [qLeft_2] at hLeft
    obtain ⟨⟨ug, uc⟩, hu⟩ : ∃ u, u = (qLeft st.qs q).1 := ⟨_, rfl⟩
    rw [← hu] at hLeft
    simp only [unV] at hLeft
    clear hu
    by_cases hq : hasQ st.qs q = false
    · rw [if_pos hq] at hLeft ⊢
      have HLeft := Lib.hid hLeft
      clear hn hf h h1 hf1 hw1 hLeft hq
      go_enter_defers Tryz.func12, Tryz.ntmps12
      go_wp2_with (first | (go_at_call 49; refine (lock_free muLib ⟨p, 0, none⟩ _ c0 z0).mono ?_; rintro e w' ⟨rfl, rfl⟩; rw [← HW1.out]))
      refine HLeft.out.mono ?_
      rintro e w3 ⟨rfl, hb3⟩
      have HL3 := Lib.hid ((H1.out.keep ((Below.refl _ w1).alloc (Nat.le_refl _) (.cells #[.int .i64 0, .int .i64 0, .int .i64 0, .bool false, .slice none 0 0] 44))).keep hb3)
      have HB3 := Lib.hid hb3
      clear hb3 hlook
      go_wp2
      have hL2 := HL3.out.keep ((Below.refl _ w3).alloc (Nat.le_refl _) (.cells #[.int .i64 ug, .int .i64 uc] 57))
      refine leaves_cons (f := 50) (args := #[.pointer (some ⟨p, 0, none⟩)]) (by simp) (by simp [go_sem]) ?_
      refine (unlock_deferred muLib ⟨p, 0, none⟩ .returning _ hL2.cells.1 hL2.cells.2.1).mono ?_
      rintro e u' w'' ⟨rfl, rfl, rfl⟩
      obtain ⟨F', q1, q2, q3⟩ := H.out.close hL2 (((HF1.out.alloc (.cells #[.int .i64 0, .int .i64 0, .int .i64 0, .bool false, .slice none 0 0] 44)).trans (Foot.of_below (F := LB p hm FP FQ V st) HB3.out) fun i hi => .inl hi).alloc (.cells #[.int .i64 ug, .int .i64 uc] 57)) (fun i hi => .inl hi) (fun k hk i hi => .inl ⟨k, hk, hi⟩)
      exact ⟨_, results_tmp rfl _ _ _, rfl, F', q1, q2, q3⟩
    · rw [if_neg hq] at hLeft ⊢
      have HLeft := Lib.hid hLeft
      obtain ⟨T, hT0⟩ : ∃ T, T = LM.take fs st q l := ⟨_, rfl⟩
      have hTe : T.1 ≠ 0 → T.2 = st := fun e => by rw [hT0] at e ⊢; exact LM.take_err e
      have hTk : T.2.hs = st.hs ∧ T.2.ver = st.ver ∧ T.2.dr = st.dr := by rw [hT0]; exact LM.take_keeps _ _ _ _
      have hTa : T.1 = 0 → ∀ s ∈ l, SlIn s := fun e => LM.take_all (by rw [← hT0]; exact e) h.pool.ok.1 h.pool.ok.2 HS.out.1
      have hTh : hasQ T.2.qs q = hasQ st.qs q := by rw [hT0]; exact LM.take_has _ _ _ _ _
      rw [← hT0]
      have HE2 := Lib.hid hT0.symm
      have HT := Lib.hid (And.intro hTe (And.intro hTk (And.intro hTa hTh)))
      have hqt : hasQ st.qs q = true := by simpa using hq
      have HE := Lib.hid (And.intro t0 (And.intro t1 (And.intro hf hqt)))
      clear hf h h1 hf1 hw1 hLeft hq hqt hT0 hTe hTk hTa hTh
      by_cases hTz : T.1 ≠ 0
      · rw [if_pos hTz]
        have t5 : (T.1 == 0) = false := beq_eq_false_iff_ne.2 hTz
        have t6 : (T.1 != 0) = true := by rw [bne_iff_ne]; exact hTz
        have HTZ := Lib.hid hTz
        clear hTz
        go_enter_defers Tryz.func12, Tryz.ntmps12
        go_wp2_with (first | (go_at_call 49; refine (lock_free muLib ⟨p, 0, none⟩ _ c0 z0).mono ?_; rintro e w' ⟨rfl, rfl⟩; rw [← HW1.out]))
        refine HLeft.out.mono ?_
        rintro e w3 ⟨rfl, hb3⟩
        have HL3 := Lib.hid ((H1.out.keep ((Below.refl _ w1).alloc (Nat.le_refl _) (.cells #[.int .i64 0, .int .i64 0, .int .i64 0, .bool false, .slice none 0 0] 44))).keep hb3)
        have HB3 := Lib.hid hb3
        obtain ⟨_, _, x2, x3, x4, _⟩ := HL3.out.cells
        clear hb3 hlook
        go_wp2_with fail
        obtain ⟨w4, hw4⟩ : ∃ w4, w4 = w3.alloc (.cells #[.int .i64 ug, .int .i64 uc] 57) := ⟨_, rfl⟩
        rw [← hw4]
        have hB4 : Below w3.heap.size w3 w4 := by rw [hw4]; exact (Below.refl w3.heap.size w3).alloc (Nat.le_refl _) _
        have hL4 := HL3.out.keep hB4
        have f4 : Foot (LB p hm FP FQ V st) w w4 := ((HF1.out.alloc (.cells #[.int .i64 0, .int .i64 0, .int .i64 0, .bool false, .slice none 0 0] 44)).trans (Foot.of_below (F := LB p hm FP FQ V st) HB3.out) fun i hi => .inl hi).trans (Foot.of_below (F := LB p hm FP FQ V st) hB4) fun i hi => .inl hi
        have hl4 := HS.out.2.1.foot f4 HS.out.2.2
        have hA1 : l ≠ [] → Off A FP := fun hne b off e hf => HS.out.2.2 hne b off e (.inr (.inr (.inl hf)))
        have hA2 : l ≠ [] → Off A FQ := fun hne b off e hf => HS.out.2.2 hne b off e (.inr (.inr (.inr (.inl hf))))
        have hT := take_l A c l q hL4 HS.out.1 hl4 hA1 hA2 (by omega)
        rw [HE2.out, hn] at hT
        refine hT.mono ?_
        rintro e w6 ⟨rfl, F6, hL6, hf6, hy6⟩
        have f6 : Foot (LB p hm FP FQ V st) w w6 := f4.trans hf6 fun i hi => .inl (by rcases hi with e | e; exact .inr (.inr (.inl e)); exact .inr (.inr (.inr (.inl e))))
        have l36 : w.heap.size ≤ w4.heap.size := f4.size
        rw [HT.out.1 HTZ.out] at hL6
        have HL6 := Lib.hid hL6
        have HF6 := Lib.hid (And.intro f6 hy6)
        clear hL6 hf6 hy6 f6 f4 hL4 hB4 hl4 hA1 hA2 hT hw4
        go_wp2
        refine leaves_cons (f := 50) (args := #[.pointer (some ⟨p, 0, none⟩)]) (by simp) (by simp [go_sem]) ?_
        refine (unlock_deferred muLib ⟨p, 0, none⟩ .returning _ HL6.out.cells.1 HL6.out.cells.2.1).mono ?_
        rintro e u' w'' ⟨rfl, rfl, rfl⟩
        obtain ⟨F', r1, r2, r3⟩ := H.out.close HL6.out HF6.out.1 (fun i hi => by rcases HF6.out.2 i hi with e | e; exact .inl e; exact .inr (by omega)) (fun k hk i hi => .inl ⟨k, hk, hi⟩)
        exact ⟨_, results_tmp rfl _ _ _, rfl, F', r1, r2, r3⟩
      · rw [if_neg hTz]
        have hT0 : T.1 = 0 := Classical.not_not.1 hTz
        have t5 : (T.1 == 0) = true := by rw [hT0]; rfl
        have t6 : (T.1 != 0) = false := by rw [hT0]; rfl
        have HT0 := Lib.hid hT0
        clear hTz hT0
        go_enter_defers Tryz.func12, Tryz.ntmps12
        go_wp2_with (first | (go_at_call 49; refine (lock_free muLib ⟨p, 0, none⟩ _ c0 z0).mono ?_; rintro e w' ⟨rfl, rfl⟩; rw [← HW1.out]))
        refine HLeft.out.mono ?_
        rintro e w3 ⟨rfl, hb3⟩
        have HL3 := Lib.hid ((H1.out.keep ((Below.refl _ w1).alloc (Nat.le_refl _) (.cells #[.int .i64 0, .int .i64 0, .int .i64 0, .bool false, .slice none 0 0] 44))).keep hb3)
        have HB3 := Lib.hid hb3
        obtain ⟨_, _, x2, x3, x4, _⟩ := HL3.out.cells
        clear hb3 hlook
        go_wp2_with fail
        obtain ⟨w4, hw4⟩ : ∃ w4, w4 = w3.alloc (.cells #[.int .i64 ug, .int .i64 uc] 57) := ⟨_, rfl⟩
        rw [← hw4]
        have hB4 : Below w3.heap.size w3 w4 := by rw [hw4]; exact (Below.refl w3.heap.size w3).alloc (Nat.le_refl _) _
        have hL4 := HL3.out.keep hB4
        have f4 : Foot (LB p hm FP FQ V st) w w4 := ((HF1.out.alloc (.cells #[.int .i64 0, .int .i64 0, .int .i64 0, .bool false, .slice none 0 0] 44)).trans (Foot.of_below (F := LB p hm FP FQ V st) HB3.out) fun i hi => .inl hi).trans (Foot.of_below (F := LB p hm FP FQ V st) hB4) fun i hi => .inl hi
        have hl4 := HS.out.2.1.foot f4 HS.out.2.2
        have hA1 : l ≠ [] → Off A FP := fun hne b off e hf => HS.out.2.2 hne b off e (.inr (.inr (.inl hf)))
        have hA2 : l ≠ [] → Off A FQ := fun hne b off e hf => HS.out.2.2 hne b off e (.inr (.inr (.inr (.inl hf))))
        have hT := take_l A c l q hL4 HS.out.1 hl4 hA1 hA2 (by omega)
        rw [HE2.out, hn] at hT
        refine hT.mono ?_
        rintro e w6 ⟨rfl, F6, hL6, hf6, hy6⟩
        have f6 : Foot (LB p hm FP FQ V st) w w6 := f4.trans hf6 fun i hi => .inl (by rcases hi with e | e; exact .inr (.inr (.inl e)); exact .inr (.inr (.inr (.inl e))))
        have l36 : w.heap.size ≤ w4.heap.size := f4.size
        have hl6 := hl4.foot hf6 fun hne b off e hf => (by rcases hf with hf | hf; exact hA1 hne b off e hf; exact hA2 hne b off e hf)
        have d4 := hL6.cells.2.2.2.2.1
        have lp6 := hL6.lt.1
        have HCl := Lib.hid (fun w0 h0 => clone_any A c l w0 h0 (by omega) (by omega))
        rw [hn] at HCl
        have HL6 := Lib.hid hL6
        have HF6 := Lib.hid (And.intro f6 (And.intro hy6 hl6))
        have HN := Lib.hid hn
        clear hL6 hf6 hy6 hl6 f6 f4 hL4 hB4 hl4 hA1 hA2 hT hw4 hn c2 c3 c4 c5 c6 z6
        go_wp2
        go_region_held3 (fun w' => w'.cell? ⟨p, 4, none⟩ = some (.map (some hm)))
          (go_keep)
          (first | (go_at_call 53; refine (HCl.out _ (Slots.keep HF6.out.2.2 (Below.refl _ _).drew (Nat.le_refl _))).mono ?_; rintro e w7 ⟨gb, cp, rfl, hown, hb7⟩; have hB7 : Below w6.heap.size w6 w7 := below_step (Below.refl w6.heap.size w6).drew hb7; have v1 := (hB7.cell (p := ⟨p, 4, none⟩) lp6).trans d4; have hL7 := HL6.out.keep hB7; obtain ⟨w8, hrun, hf8, hnext⟩ := hL7.inserted (by rw [HT.out.2.1.1]; exact hfew) (g := ⟨id, q, un, false, l⟩) (by rw [HT.out.2.1.1]; exact HE.out.2.2.1) ⟨HW.out.1, HW.out.2.1, HW.out.2.2, by rw [HN.out]; omega, by rw [HN.out]; omega, HT.out.2.2.1 HT0.out⟩ (by rw [HT.out.2.2.2]; exact HE.out.2.2.2) (.slice (some ⟨gb, 0, none⟩) n cp) (by simp only [HN.out]; exact own_low hown (Nat.zero_le _)) (fun i hi => by have h9 : w6.heap.size ≤ i := (hown.lt i hi).1; exact ⟨fun e2 => by have := HL6.out.all i (.inr (.inr (.inl e2))); omega, fun e2 => by have := HL6.out.all i (.inr (.inr (.inr (.inl e2)))); omega, fun e2 => by have := HL6.out.all i (.inl e2); omega, fun e2 => by have := HL6.out.all i (.inr (.inl e2)); omega, fun k hk e2 => by have := HL6.out.all i (.inr (.inr (.inr (.inr ⟨k, hk, e2⟩)))); omega⟩); simp only [hdV] at hrun; have hgb : w6.heap.size ≤ gb := (hown.lt gb rfl).1; have HB7 := Lib.hid hB7; have HNX := Lib.hid (And.intro hf8 hnext); have hob8 := (hf8.block p hL7.lt.1 hL7.lt.2.2).trans hL7.obj; have v2 := cell_blk (i := 4) hob8 rfl; have v6 := cell_blk (i := 6) hob8 rfl; rw [HT.out.2.1.2.1] at v6; have z8 := frozen_blk (i := 6) hob8; have HL7 := Lib.hid hL7; clear hB7 hb7 hown hL7 hf8 hnext))
        go_wp2
        have hL9 : LAt (w8.setCell ⟨p, 6, none⟩ (.int .i64 ((st.ver : Int) + 1))) 1 p pp pa hm F6 FQ (vPut V id (.slice (some ⟨gb, 0, none⟩) n cp)) fs (LM.up { T.2 with hs := LM.ins ⟨id, q, un, false, l⟩ T.2.hs }) := HNX.out.2 _ (foot_set _ _ _ _) (by have ev : ((T.2.ver : Nat) : Int) = (st.ver : Nat) := (by rw [HT.out.2.1.2.1]); rw [← ev]; have := blk_put (i := 6) (.int .i64 ((T.2.ver : Int) + 1)) hob8; rw [this]; simp [ledB])
        refine leaves_cons (f := 50) (args := #[.pointer (some ⟨p, 0, none⟩)]) (by simp) (by simp [go_sem]) ?_
        refine (unlock_deferred muLib ⟨p, 0, none⟩ .returning _ hL9.cells.1 hL9.cells.2.1).mono ?_
        rintro e u' w'' ⟨rfl, rfl, rfl⟩
        have f9 : Foot (LB p hm FP FQ V st) w (w8.setCell ⟨p, 6, none⟩ (.int .i64 ((st.ver : Int) + 1))) := Foot.setCell (p := ⟨p, 6, none⟩) ((HF6.out.1.trans (Foot.of_below (F := LB p hm FP FQ V st) HB7.out) fun i hi => .inl hi).trans HNX.out.1 fun i (e : i = hm) => .inl (.inr (.inl e))) (.inl (.inl rfl)) _
        have l6 : w.heap.size ≤ w6.heap.size := HF6.out.1.size
        obtain ⟨F', r1, r2, r3⟩ := H.out.close hL9 f9 (fun i hi => by rcases HF6.out.2.1 i hi with e | e; exact .inl e; exact .inr (by omega)) (fun k hk i hi => by
          rcases LM.mem_ins.1 hk with e | e
          · subst e; rw [vPut_same] at hi; have h9 : gb = i := (by simpa [Value.ownBlock] using hi); exact .inr (by omega)
          · rw [vPut_other (LM.find_none (by rw [HT.out.2.1.1]; exact HE.out.2.2.1) k e)] at hi; exact .inl ⟨k, by rw [HT.out.2.1.1] at e; exact e, hi⟩)
        simp only [HT.out.2.1.1] at r1 ⊢
        exact ⟨_, results_tmp rfl _ _ _, rfl, F', r1, r2, r3⟩
end Go.Proofs.YtgpfmlidchogcaaGreat

set_option maxRecDepth 100000
set_option linter.unusedVariables false
namespace Go.Proofs.YtgpfmlidchogcaaGreat
open Go.RowKit Go.MuLone

def LM.init (ns : List (List (Int × Int))) (us : List Un) : LS := ⟨PM.zero (frees ns), List.replicate ns.length false, newL us, [], 0⟩
structure LIn (w0 w : World) (p : Nat) (F : Nat → Prop) (fs : List Fr) (st : LS) : Prop where
  at_ : LObj w p F fs st
  hF : ∀ i, F i → w0.heap.size ≤ i
  bel : Below w0.heap.size w0 w
section
variable {w0 w w' : World} {p : Nat} {F F' : Nat → Prop} {fs : List Fr} {st st' : LS}
theorem LIn.step (h : LIn w0 w p F fs st) (h' : LObj w' p F' fs st') (hf : Foot F w w') (hy : ∀ i, F' i → F i ∨ w.heap.size ≤ i) : LIn w0 w' p F' fs st' :=
  ⟨h', fun i hi => by rcases hy i hi with e | e; exact h.hF i e; exact Nat.le_trans h.bel.size e, h.bel.trans (hf.below h.bel.size h.hF)⟩
theorem LIn.keep (h : LIn w0 w p F fs st) (hb : Below w.heap.size w w') : LIn w0 w' p F fs st := ⟨h.at_.keep hb, h.hF, h.bel.trans (hb.mono h.bel.size)⟩
theorem LIn.made {w1 : World} (hb : Below w0.heap.size w0 w) (h : LObj w1 p F fs st) (hF : ∀ i, F i → w.heap.size ≤ i) (hb' : Below w.heap.size w w1) : LIn w0 w1 p F fs st :=
  ⟨h, fun i hi => Nat.le_trans hb.size (hF i hi), hb.trans (hb'.mono hb.size)⟩
end
def LNew (ns : List (List (Int × Int))) (us : List Un) (w : World) (e : Ending) (w' : World) : Prop := Below w.heap.size w w' ∧
  (((cluOk ns = false ∨ quotasOk us = false) ∧ e = .returned (.tuple #[.pointer none, .int .i64 1])) ∨
   (cluOk ns = true ∧ quotasOk us = true ∧ ∃ p F, e = .returned (.tuple #[.pointer (some ⟨p, 0, none⟩), .int .i64 0]) ∧ LObj w' p F (frees ns) (LM.init ns us) ∧ ∀ i, F i → w.heap.size ≤ i))
set_option maxHeartbeats 1000000 in
theorem lnew_l (a b : Option Addr) (ca cb : Nat) (ns : List (List (Int × Int))) (us : List Un) (w : World) (h : Nodes w w.heap.size a ns) (hu : Uns w w.heap.size b us) :
    Calls Tryz.prog 6 #[.agg #[.slice a ns.length ca], .slice b us.length cb] w fun e w' => LNew ns us w e w' := by
  obtain ⟨W0, hW0⟩ : ∃ W0, W0 = w.alloc (.cells #[.slice a ns.length ca] 24) := ⟨_, rfl⟩
  have hB1 : Below w.heap.size w W0 := by rw [hW0]; exact (Below.refl w.heap.size w).alloc (Nat.le_refl _) _
  have hk0 : W0.heap[w.heap.size]? = some (.cells #[.slice a ns.length ca] 24 (0, 0)) := by rw [hW0]; exact heap_alloc_new w _
  have hN0 := Nodes.keep h hB1 (Nat.le_refl _)
  have HB := Lib.hid hB1
  have l0 := blk_lt hk0
  obtain ⟨n, hn⟩ : ∃ n, n = ns.length := ⟨_, rfl⟩
  rw [← hn] at hW0
  have HW0 := Lib.hid hW0
  by_cases hc : cluOk ns = false
  · have hP := Lib.hid (poolnew_no a ca w.heap.size ns W0 hN0 hB1.size hc)
    rw [← hn] at hP ⊢
    have HC := Lib.hid hc
    clear h hu hB1 hN0 hc hW0 hk0 hn
    go_enter Tryz.func6, Tryz.ntmps6
    go_wp2_with (first
      | (go_at_call 17; rw [← HW0.out]; refine hP.out.mono ?_; rintro e w1 ⟨rfl, hb1⟩))
    go_ret2
    exact ⟨below_step HB.out hb1, .inl ⟨.inl HC.out, rfl⟩⟩
  · have hc1 : cluOk ns = true := by simpa using hc
    have hP := Lib.hid (poolnew_ok a ca w.heap.size ns W0 hN0 hB1.size hc1)
    have hQ := Lib.hid (fun W (hW : Below w.heap.size w W) => new_q b cb w.heap.size us W (hu.keep hW (Nat.le_refl _)) hW.size)
    have HC := Lib.hid hc1
    rw [← hn] at hP ⊢
    have hmm := @run_makeMap Tryz.prog
    have HN := Lib.hid hn
    rw [← hn] at hk0
    have HK := Lib.hid hk0
    clear h hu hB1 hN0 hc hW0 hc1 hn hk0
    by_cases hq : quotasOk us = false
    · have HQ := Lib.hid hq
      clear hq
      go_enter Tryz.func6, Tryz.ntmps6
      go_wp2_with (first
        | (go_at_call 17; rw [← HW0.out]; refine hP.out.mono ?_; rintro e w1 ⟨T, p, g, dm, rfl, hp, hb, p1, g1, d1, o1⟩; clear o1; have HP := Lib.hid hp; have HB1 := Lib.hid (below_step HB.out hb); clear hp hb)
        | (go_at_call 18; refine (hQ.out _ HB1.out).mono ?_; rintro e w2 ⟨hb2, he2⟩; obtain ⟨hq2, rfl⟩ : quotasOk us = false ∧ e = .returned (.tuple #[.pointer none, .int .i64 1]) := (by rcases he2 with e9 | e9; exact e9; exact absurd e9.1 (by rw [HQ.out]; simp)); clear he2))
      go_ret2
      exact ⟨below_step HB1.out hb2, .inl ⟨.inr HQ.out, rfl⟩⟩
    · have hq1 : quotasOk us = true := by simpa using hq
      have HQ := Lib.hid hq1
      clear hq hq1
      go_enter Tryz.func6, Tryz.ntmps6
      go_wp2_with (first
        | (go_at_call 17; rw [← HW0.out]; refine hP.out.mono ?_; rintro e w1 ⟨T, p, g, dm, rfl, hp, hb, p1, g1, d1, o1⟩; have HP := Lib.hid (And.intro hp (And.intro hb (And.intro p1 (And.intro g1 (And.intro d1 o1))))); have HB1 := Lib.hid (below_step HB.out hb); have hk1 := (hb.block w.heap.size l0).trans HK.out; have HK1 := Lib.hid hk1; have x0 := cell_blk (i := 0) hk1 rfl; clear hk1 hp hb p1 g1 d1 o1)
        | (go_at_call 18; refine (hQ.out _ HB1.out).mono ?_; rintro e w2 ⟨hb2, he2⟩; obtain ⟨hq2, p2, g2, c2, rfl, ha2, e2, e3⟩ : quotasOk us = true ∧ ∃ p g c, e = .returned (.tuple #[.pointer (some ⟨p, 0, none⟩), .int .i64 0]) ∧ QAt w2 p g c (newL us) ∧ w1.heap.size ≤ p ∧ w1.heap.size ≤ g := (by rcases he2 with e9 | e9; exact absurd e9.1 (by rw [HQ.out]; simp); exact e9); have HA := Lib.hid (And.intro hb2 (And.intro ha2 (And.intro e2 e3))); have hk2 := (hb2.block w.heap.size (blk_lt HK1.out)).trans HK1.out; clear x0; have x0 := cell_blk (i := 0) hk2 rfl; have l2 := blk_lt hk2; clear he2 hb2 ha2 hk2))
      go_ret2
      obtain ⟨W9, hW9⟩ : ∃ W9, W9 = (w2.alloc (.map #[] 0)).alloc (.cells #[.int .i32 0, .int .u32 0, .pointer (some ⟨p, 0, none⟩), .pointer (some ⟨p2, 0, none⟩), .map (some w2.heap.size), .int .i64 (n : Nat), .int .i64 0] 79) := ⟨_, rfl⟩
      have hB9 : Below w2.heap.size w2 W9 := by rw [hW9]; exact ((Below.refl w2.heap.size w2).alloc (Nat.le_refl _) _).alloc (by simp) _
      have ho9 : W9.heap[w2.heap.size + 1]? = some (ledB 0 p p2 w2.heap.size n 0) := by rw [hW9]; have h9 := heap_alloc_new (w2.alloc (.map #[] 0)) (.cells #[.int .i32 0, .int .u32 0, .pointer (some ⟨p, 0, none⟩), .pointer (some ⟨p2, 0, none⟩), .map (some w2.heap.size), .int .i64 (n : Nat), .int .i64 0] 79); simpa [ledB] using h9
      have hm9 : hMap W9 w2.heap.size 0 (fun _ => none) := (MapOf.new _ _ w2).of_block (by rw [hW9]; exact Below.heap_alloc _ _ _ (by simp))
      obtain ⟨hp, hb, p1, g1, d1, o1⟩ := HP.out
      obtain ⟨hb2, ha2, e2, e3⟩ := HA.out
      rw [HN.out] at hp
      have hpo : PObj w1 p (fun i => T i ∨ i = p ∨ i = g ∨ i = dm) (frees ns) (PM.zero (frees ns)) (List.replicate ns.length false) := ⟨T, g, dm, hp, rfl⟩
      have hqo : QObj w2 p2 (fun i => i = p2 ∨ i = g2) (newL us) := ⟨g2, c2, ha2, rfl⟩
      have hlp := hpo.lt.2.2
      have hlq := hqo.lt.2.2
      have s12 := hb2.size
      have s01 := hb.size
      have s00 := HB.out.size
      have hFP : ∀ i, (T i ∨ i = p ∨ i = g ∨ i = dm) → w.heap.size ≤ i ∧ i < w1.heap.size := fun i hi => ⟨by
        rcases hi with e | e | e | e
        · have := o1 i e; omega
        · omega
        · omega
        · omega, hlp i hi⟩
      have hFQ : ∀ i, (i = p2 ∨ i = g2) → w1.heap.size ≤ i ∧ i < w2.heap.size := fun i hi => ⟨by rcases hi with e | e <;> omega, hlq i hi⟩
      refine Eq.subst (motive := fun W => LNew ns us w _ W) hW9 ⟨below_step (below_step HB1.out hb2) hB9, .inr ⟨HC.out, HQ.out, w2.heap.size + 1, _, rfl, ⟨p, p2, w2.heap.size, _, _, fun _ => .slice none 0 0, ⟨⟨?_, ?_, ?_, Nat.le_refl _⟩, ?_, hpo.keep (hb2.trans (hB9.mono s12)), hqo.keep hB9, hm9, ?_, fun i hi => ⟨fun e => ?_, ?_, ?_⟩, fun i hi => ⟨?_, ?_⟩, ?_, ?_⟩, rfl⟩, ?_⟩⟩
      · exact List.Pairwise.nil
      · intro h hh; cases hh
      · intro h hh; cases hh
      · show _ = some (ledB 0 p p2 w2.heap.size (List.replicate ns.length false).length 0)
        rw [List.length_replicate, ← HN.out]; exact ho9
      · intro h hh; cases hh
      · have := hFP i hi; have := hFQ i e; omega
      · have := hFP i hi; omega
      · have := hFP i hi; omega
      · have := hFQ i hi; omega
      · have := hFQ i hi; omega
      · intro h hh; cases hh
      · intro h hh; cases hh
      · rintro i (e | e | e | e | ⟨h, hh, _⟩)
        · omega
        · omega
        · exact (hFP i e).1
        · have := hFQ i e; omega
        · cases hh
end Go.Proofs.YtgpfmlidchogcaaGreat

set_option maxRecDepth 100000
set_option linter.unusedVariables false
namespace Go.Proofs.YtgpfmlidchogcaaGreat
open Go.RowKit Go.MuLone

theorem reserve_one {w0 w : World} {p : Nat} {F : Nat → Prop} {fs : List Fr} {st : LS} (id q un ver : Int) (s : PM.Sl) (h : LIn w0 w p F fs st) (hver : st.ver ≤ 100000) (hid : (Lit.int .i64 id).wf = true) (hqw : (Lit.int .i64 q).wf = true) (hun : (Lit.int .i64 un).wf = true) (hs : SlOk s) {R : Int × LS} (hR : LM.reserve fs st id q un ver [s] = R) :
    Calls Tryz.prog 12 #[.pointer (some ⟨p, 0, none⟩), .int .i64 id, .int .i64 q, .int .i64 un, .int .i64 ver, .slice (some ⟨w.heap.size, 0, none⟩) 1 1] (w.alloc (.cells #[.int .i64 s.n, .int .i64 s.d, .int .u64 (s.m : Nat), .int .i64 s.c] 41))
      fun e w' => e = .returned (.int .i64 R.1) ∧ ∃ F', LIn w0 w' p F' fs R.2 := by
  have hB := (Below.refl w.heap.size w).alloc (Nat.le_refl _) (.cells #[.int .i64 s.n, .int .i64 s.d, .int .u64 (s.m : Nat), .int .i64 s.c] 41)
  have h1 := h.keep hB
  have hb := heap_alloc_new w (.cells #[.int .i64 s.n, .int .i64 s.d, .int .u64 (s.m : Nat), .int .i64 s.c] 41)
  subst hR
  refine (reserve_l id q un ver (some ⟨w.heap.size, 0, none⟩) 1 [s] h1.at_ hver hid hqw hun (fun x hx => by simp at hx; subst hx; exact hs) (slot_blk hb) (fun _ b off e hf => by cases e; have := h.at_.lt.2 _ hf; omega)).mono fun e w' ⟨he, F', r1, r2, r3⟩ => ⟨he, F', h1.step r1 r2 r3⟩
def awU : List Un := [⟨4, 8⟩]
theorem awU_ok : quotasOk awU = true := by decide
def aw0 : LS := ⟨PM.zero (frees aw3), [false], newL awU, [], 0⟩
def awA : PM.Sl := ⟨0, 0, 1, 1⟩
def awB : PM.Sl := ⟨0, 0, 2, 1⟩
def aw1 : LS := ⟨[⟨0, 0, 1, 1⟩], [false], [⟨⟨4, 8⟩, ⟨1, 1⟩⟩], [⟨1, 0, 5, false, [awA]⟩], 1⟩
def aw2 : LS := ⟨[⟨0, 0, 3, 2⟩], [false], [⟨⟨4, 8⟩, ⟨2, 2⟩⟩], [⟨1, 0, 5, false, [awA]⟩, ⟨2, 0, 5, false, [awB]⟩], 2⟩
theorem awR1 : LM.reserve (frees aw3) aw0 1 0 5 0 [awA] = (0, aw1) := by kernel_rfl
theorem awR2 : LM.reserve (frees aw3) aw1 2 0 5 0 [awB] = (13, aw1) := by kernel_rfl
theorem awR3 : LM.reserve (frees aw3) aw1 2 0 5 1 [awB] = (0, aw2) := by kernel_rfl
theorem awA_ok : SlOk awA := ⟨by decide, by decide, by decide, by decide⟩
theorem awB_ok : SlOk awB := ⟨by decide, by decide, by decide, by decide⟩
set_option maxHeartbeats 1000000 in
theorem awake_l (w : World) : Calls Tryz.prog 4 #[] w fun e w' => e = .returned (.bool true) ∧ Below w.heap.size w w' := by
  obtain ⟨W0, hW0⟩ : ∃ W0, W0 = ((w.alloc (.cells #[.int .i64 4, .int .i64 8] 53)).alloc (.cells #[.slice (some ⟨w.heap.size, 0, none⟩) 1 1] 56)).alloc (.cells #[.int .i64 4, .int .i64 8] 57) := ⟨_, rfl⟩
  have b0 : W0.heap[w.heap.size]? = some (.cells #[.int .i64 4, .int .i64 8] 53 (0, 0)) := by rw [hW0]; exact (Below.heap_alloc _ _ _ (by simp; omega)).trans ((Below.heap_alloc _ _ _ (by simp)).trans (heap_alloc_new w _))
  have b1 : W0.heap[w.heap.size + 1]? = some (.cells #[.slice (some ⟨w.heap.size, 0, none⟩) 1 1] 56 (0, 0)) := by
    have := heap_alloc_new (w.alloc (.cells #[.int .i64 4, .int .i64 8] 53)) (.cells #[.slice (some ⟨w.heap.size, 0, none⟩) 1 1] 56)
    rw [hW0]; exact (Below.heap_alloc _ _ _ (by simp)).trans (by simpa using this)
  have b2 : W0.heap[w.heap.size + 2]? = some (.cells #[.int .i64 4, .int .i64 8] 57 (0, 0)) := by
    have := heap_alloc_new ((w.alloc (.cells #[.int .i64 4, .int .i64 8] 53)).alloc (.cells #[.slice (some ⟨w.heap.size, 0, none⟩) 1 1] 56)) (.cells #[.int .i64 4, .int .i64 8] 57)
    rw [hW0]; simpa using this
  have hU : Uns W0 W0.heap.size (some ⟨w.heap.size + 2, 0, none⟩) awU := els_blk uC_len b2 (fun j v hj => by simpa [uC, awU] using hj)
  have HB0 := Lib.hid (show Below w.heap.size w W0 by rw [hW0]; exact (((Below.refl w.heap.size w).alloc (Nat.le_refl _) _).alloc (by simp) _).alloc (by simp; omega) _)
  have hN0 := lnew_l (some ⟨w.heap.size + 1, 0, none⟩) (some ⟨w.heap.size + 2, 0, none⟩) 1 1 aw3 awU W0 (aw3_nodes w W0 b0 b1) hU
  have hN : Calls Tryz.prog 6 #[.agg #[.slice (some ⟨w.heap.size + 1, 0, none⟩) 1 1], .slice (some ⟨w.heap.size + 2, 0, none⟩) 1 1] W0 fun e w' => ∃ p F, e = .returned (.tuple #[.pointer (some ⟨p, 0, none⟩), .int .i64 0]) ∧ LIn w w' p F (frees aw3) aw0 :=
    hN0.mono fun e w' ⟨hb, ho⟩ => by
      rcases ho with ⟨e1 | e1, _⟩ | ⟨_, _, p, F, he, hl, hF⟩
      · rw [aw3_ok] at e1; cases e1
      · rw [awU_ok] at e1; cases e1
      · exact ⟨p, F, he, .made HB0.out hl hF hb⟩
  have HN := Lib.hid hN
  have HW0 := Lib.hid hW0
  have R1 : Hid (∀ p F W, LIn w W p F (frees aw3) aw0 → Calls Tryz.prog 12 #[.pointer (some ⟨p, 0, none⟩), .int .i64 1, .int .i64 0, .int .i64 5, .int .i64 0, .slice (some ⟨W.heap.size, 0, none⟩) 1 1] (W.alloc (.cells #[.int .i64 0, .int .i64 0, .int .u64 1, .int .i64 1] 41))
      fun e w' => e = .returned (.int .i64 0) ∧ ∃ F', LIn w w' p F' (frees aw3) aw1) := Lib.hid (fun p F W h => reserve_one 1 0 5 0 awA h (by decide) (by decide) (by decide) (by decide) awA_ok awR1)
  have R2 : Hid (∀ p F W, LIn w W p F (frees aw3) aw1 → Calls Tryz.prog 12 #[.pointer (some ⟨p, 0, none⟩), .int .i64 2, .int .i64 0, .int .i64 5, .int .i64 0, .slice (some ⟨W.heap.size, 0, none⟩) 1 1] (W.alloc (.cells #[.int .i64 0, .int .i64 0, .int .u64 2, .int .i64 1] 41))
      fun e w' => e = .returned (.int .i64 13) ∧ ∃ F', LIn w w' p F' (frees aw3) aw1) := Lib.hid (fun p F W h => reserve_one 2 0 5 0 awB h (by decide) (by decide) (by decide) (by decide) awB_ok awR2)
  have R3 : Hid (∀ p F W, LIn w W p F (frees aw3) aw1 → Calls Tryz.prog 12 #[.pointer (some ⟨p, 0, none⟩), .int .i64 2, .int .i64 0, .int .i64 5, .int .i64 1, .slice (some ⟨W.heap.size, 0, none⟩) 1 1] (W.alloc (.cells #[.int .i64 0, .int .i64 0, .int .u64 2, .int .i64 1] 41))
      fun e w' => e = .returned (.int .i64 0) ∧ ∃ F', LIn w w' p F' (frees aw3) aw2) := Lib.hid (fun p F W h => reserve_one 2 0 5 1 awB h (by decide) (by decide) (by decide) (by decide) awB_ok awR3)
  clear hN hN0 hU b0 b1 b2 hW0
  go_enter Tryz.func4, Tryz.ntmps4
  go_wp2_with (first
    | (go_at_call 6; rw [← HW0.out]; refine HN.out.mono ?_; rintro e w1 ⟨p, F, rfl, hl1⟩; have HL1 := Lib.hid hl1; clear hl1)
    | (go_at_call 12; (with_reducible refine (R1.out p F _ HL1.out).mono ?_); rintro e w2 ⟨rfl, F2, hl2⟩; have HL2 := Lib.hid hl2; clear hl2)
    | (go_at_call 12; (with_reducible refine (R2.out p F2 _ HL2.out).mono ?_); rintro e w3 ⟨rfl, F3, hl3⟩; have HL3 := Lib.hid hl3; clear hl3)
    | (go_at_call 12; (with_reducible refine (R3.out p F3 _ HL3.out).mono ?_); rintro e w4 ⟨rfl, F4, hl4⟩; have HL4 := Lib.hid hl4; clear hl4)
    | (go_at_call 13; refine (version_l HL4.out.at_).mono ?_; rintro e w5 ⟨rfl, hb5⟩; have HL5 := Lib.hid (HL4.out.keep hb5); clear hb5; have ev : ((aw2.ver : Nat) : Int) = 2 := rfl; rw [ev])
    | (go_at_call 14; refine (holds_l HL5.out.at_ (by decide)).mono ?_; rintro e w6 ⟨A, c, G, rfl, _, _, hb6⟩; have HL6 := Lib.hid (HL5.out.keep hb6); clear hb6; have eh : aw2.hs.length = 2 := rfl; rw [eh]))
  go_ret
  exact ⟨rfl, HL6.out.bel⟩
end Go.Proofs.YtgpfmlidchogcaaGreat
