/- The document's accounts: Left, Act, New. -/
import Derived.Test.YtfbmjpihdjcedaaQuotaRef
set_option linter.unusedVariables false
namespace Go.Proofs.Ytfbmjpihdjcedaa
open Go.RowKit

set_option maxRecDepth 100000 in
set_option maxHeartbeats 2000000 in
theorem rleft_q (r a b ca cb : Nat) (l : List Qa) (q : Int) (w : World) (h : RQAt w r a b ca cb l) :
    Calls Try.prog 17 #[.pointer (some ⟨r, 0, none⟩), .int .i64 q] w fun e w' => e = .returned (.tuple #[unV (qLeft l q).1, .int .i64 (qLeft l q).2]) ∧ Below w.heap.size w w' := by
  have hB1 := (Below.refl w.heap.size w).alloc (Nat.le_refl _) (.cells #[.int .i64 0, .int .i64 0] 34)
  have hG := heap_alloc_new w (.cells #[.int .i64 0, .int .i64 0] 34)
  obtain ⟨R, hR⟩ : ∃ R, R = qLeft l q := ⟨_, rfl⟩
  rw [← hR]
  unfold qLeft at hR
  have HB := Lib.hid hB1
  have HG := Lib.hid hG
  have HP := Lib.hid h
  obtain ⟨y0, y1, y2, y3, y4⟩ := pair_at hG
  have c0 := (h.keep hB1).heads.1
  cases hq : hasQ l q
  · rw [hq, if_pos rfl] at hR
    subst hR
    have t0 : decide (q < 0) = true ∨ (decide (q < 0) = false ∧ decide ((l.length : Int) ≤ q) = true) := by
      by_cases h0 : q < 0
      · exact .inl (decide_eq_true h0)
      · refine .inr ⟨decide_eq_false h0, decide_eq_true ?_⟩
        by_cases h1 : (l.length : Int) ≤ q
        · exact h1
        · rw [hasQ_iff.2 ⟨by omega, by omega⟩] at hq; cases hq
    obtain ⟨n, hn⟩ : ∃ n, n = l.length := ⟨_, rfl⟩
    rw [← hn] at c0 t0
    simp only [unV]
    clear h hq hB1 hn hG
    rcases t0 with t0 | ⟨t0, t1⟩
    all_goals
      go_enter Try.func17, Try.ntmps17
      go_wp2
      refine bodyPost_ret (v := .tuple #[.agg #[.int .i64 0, .int .i64 0], .int .i64 3]) (by simp [results, Try.results17, go_sem, y0, y1]) rfl ?_
      exact ⟨rfl, HB.out⟩
  · rw [hq, if_neg (by simp)] at hR
    obtain ⟨k, x, rfl, hkl, hx⟩ := hasQ_at hq
    simp only [Int.toNat_natCast, hx] at hR
    subst hR
    have hok := h.ok x (List.mem_of_getElem? hx)
    obtain ⟨hx1, hx2, hx3, hx4⟩ := mayU_iff.1 hok.m
    obtain ⟨hg1, hg2⟩ := hok.g
    obtain ⟨hc1, hc2⟩ := hok.c
    have hfew := h.few
    obtain ⟨n, hn⟩ : ∃ n, n = l.length := ⟨_, rfl⟩
    rw [← hn] at hkl hfew c0
    obtain ⟨W, hW⟩ : ∃ W, W = w.alloc (.cells #[.int .i64 0, .int .i64 0] 34) := ⟨_, rfl⟩
    have hP1 := h.keep hB1
    have hbl := (h.lt).2.2
    have hal := (h.lt).2.1
    have hrl := (h.lt).1
    have c0W := c0
    rw [← hW] at hP1 y0 y1 y2 y3 c0W HB
    obtain ⟨_, c1⟩ := hP1.heads
    rw [← hn] at c1
    obtain ⟨d0, d1, d2, d3, _, _⟩ := hP1.cells hx
    obtain ⟨⟨mg, mc⟩, ⟨vg, vc⟩⟩ := x
    simp only [unV, subU] at *
    have t0 : decide ((k : Int) < 0) = false := decide_eq_false (by omega)
    have t1 : decide (n ≤ k) = false := decide_eq_false (by omega)
    obtain ⟨X, hX⟩ : ∃ X, X = mg - vg := ⟨_, rfl⟩
    obtain ⟨Y, hY⟩ : ∃ Y, Y = mc - vc := ⟨_, rfl⟩
    have hlW : w.heap.size < W.heap.size := by rw [hW]; simp
    have HW := Lib.hid hW
    clear h hq hB1 hG hx hn hP1 hok hX hY hW
    go_enter Try.func17, Try.ntmps17
    go_wp2_with fail
    rw [← HW.out]
    go_wp2
    go_still_tail 35, (by kernel_rfl)
    change wpList _ _ _ _ _ W.drew
    go_wp2
    refine bodyPost_ret (v := .tuple #[.agg #[.int .i64 (mg - vg), .int .i64 (mc - vc)], .int .i64 0]) (by simp [results, Try.results17, go_sem, y0, y1]) rfl ?_
    exact ⟨rfl, (pair_put2 HB.out (Nat.le_refl _)).drew⟩
/-- A call of the document's accounts. -/
theorem ract_q (r a b ca cb : Nat) (l : List Qa) (x : Qc) (w : World) (h : RQAt w r a b ca cb l) (hx : QcOk x) :
    Calls Try.prog 13 #[.pointer (some ⟨r, 0, none⟩), qcV x] w fun e w' => e = .returned (.int .i64 (qDo l x).1) ∧ RQAt w' r a b ca cb (qDo l x).2 ∧ Foot (· = b) w w' := by
  have hB1 := (Below.refl w.heap.size w).alloc (Nat.le_refl _) (.cells #[.bool x.sub, .int .i64 x.q, .int .i64 x.u.g, .int .i64 x.u.c] 36)
  have hA := Lib.hid (radd_q r a b ca cb l x.q x.u _ (h.keep hB1) hx.u)
  have hS := Lib.hid (rsub_q r a b ca cb l x.q x.u _ (h.keep hB1) hx.u)
  have HB := Lib.hid (Foot.of_below (F := (· = b)) hB1)
  unfold qDo
  obtain ⟨s, q, ⟨ug, uc⟩⟩ := x
  simp only [qcV, unV] at *
  clear h hB1
  cases s
  · simp only [Bool.false_eq_true, if_false]
    go_enter Try.func13, Try.ntmps13
    go_wp2_with (go_at_call 24; refine hA.out.mono ?_; rintro e w1 ⟨rfl, hp1, hf1⟩)
    go_ret
    exact ⟨rfl, hp1, HB.out.trans hf1 fun i hi => .inl hi⟩
  · simp only [if_true]
    go_enter Try.func13, Try.ntmps13
    go_wp2_with (go_at_call 23; refine hS.out.mono ?_; rintro e w1 ⟨rfl, hp1, hf1⟩)
    go_ret
    exact ⟨rfl, hp1, HB.out.trans hf1 fun i hi => .inl hi⟩
theorem own_empty2 (w : World) (base : Nat) (hb : base ≤ w.heap.size) : (w.alloc (.cells #[] 34)).ownsRow base 34 2 (.slice (some ⟨w.heap.size, 0, none⟩) 0 0) 0 [] :=
  ⟨rfl, .inr ⟨w.heap.size, 0, #[], rfl, hb, heap_alloc_new w _, Nat.le_refl _, Nat.zero_le _, rfl, rfl⟩⟩
theorem zeros_flat : ∀ (l : List Un) (j : Nat) v, (((newL l).map (·.u)).flatMap uC)[j]? = some v → j < l.length * 2 ∧ v = .int .i64 0
  | [], j, v, h => by simp [newL] at h
  | x :: l, j, v, h => by
    have e : ((newL (x :: l)).map (·.u)).flatMap uC = .int .i64 0 :: .int .i64 0 :: ((newL l).map (·.u)).flatMap uC := by simp [newL, newA, uC]
    rw [e] at h
    match j, h with
    | 0, h => simp at h; exact ⟨by rw [List.length_cons]; omega, h.symm⟩
    | 1, h => simp at h; exact ⟨by rw [List.length_cons]; omega, h.symm⟩
    | j + 2, h =>
      obtain ⟨h1, h2⟩ := zeros_flat l j v (by simpa using h)
      exact ⟨by rw [List.length_cons]; omega, h2⟩
theorem made_zero (n j : Nat) (h : j < n * 2) : (madeCells (.agg #[.int .i64 0, .int .i64 0] : Value).cells (n * 2))[j]? = some (.int .i64 0) := by
  unfold madeCells
  rw [Array.getElem?_map, Array.getElem?_range, if_pos h]
  have : j % 2 = 0 ∨ j % 2 = 1 := by omega
  rcases this with e | e
  · simp [Value.cells, e]
  · simp [Value.cells, e]
/-- Made accounts of the document, whole. -/
theorem newfin {l : List Un} {n cp0 : Nat} {w : World} {gg bm : Nat} {mc : Array Value} (W : World) (hok : quotasOk l = true) (hn : l.length = n) (eo : W.ownsRow w.heap.size 34 2 (.slice (some ⟨gg, 0, none⟩) (0 + n) cp0) (0 + n) ([] ++ l.flatMap uC)) (hm : W.heap[bm]? = some (.cells mc 34 (0, 0)))
    (hz : ∀ j, j < n * 2 → mc[j]? = some (.int .i64 0)) (hb : Below w.heap.size w W) (hne : gg ≠ bm) (hbm : w.heap.size ≤ bm) :
    ∃ r a b ca cb, (Value.pointer (some ⟨W.heap.size, 0, none⟩) = .pointer (some ⟨r, 0, none⟩)) ∧ RQAt (W.alloc (.cells #[.slice (some ⟨gg, 0, none⟩) n cp0, .slice (some ⟨bm, 0, none⟩) n n] 41)) r a b ca cb (newL l) ∧ w.heap.size ≤ r ∧ w.heap.size ≤ a ∧ w.heap.size ≤ b ∧ Below w.heap.size w (W.alloc (.cells #[.slice (some ⟨gg, 0, none⟩) n cp0, .slice (some ⟨bm, 0, none⟩) n n] 41)) := by
  obtain ⟨h1, h2, h3⟩ := quotasOk_iff.1 hok
  have hl := eo.lt gg rfl
  have hbl := blk_lt hm
  rw [Nat.zero_add, List.nil_append] at eo
  have hnl : (newL l).length = n := by unfold newL; rw [List.length_map]; exact hn
  refine ⟨W.heap.size, gg, bm, cp0, n, rfl, ⟨by rw [hnl]; omega, fun x hx => ?_, ?_, ?_, ?_, ⟨by omega, by omega, hne⟩⟩, hb.size, hl.1, hbm, hb.alloc hb.size _⟩
  · obtain ⟨u, hu, rfl⟩ := List.mem_map.1 hx
    exact newA_ok (List.all_eq_true.1 h3 u hu)
  · rw [hnl]; exact heap_alloc_new W _
  · rcases eo.2 with ⟨e, _⟩ | ⟨g', cap', cur, e, _, hg, _, _, _, ht⟩
    · cases e
    · cases e
      refine ⟨cur, (Below.heap_alloc W _ _ hl.2).trans hg, fun j v hj => ?_⟩
      rw [newL_m] at hj
      rw [← ht, List.getElem?_take] at hj
      split at hj
      · simpa using hj
      · cases hj
  · refine ⟨mc, (Below.heap_alloc W _ _ hbl).trans hm, fun j v hj => ?_⟩
    obtain ⟨hj1, rfl⟩ := zeros_flat l j v hj
    exact hz j (by omega)
set_option maxRecDepth 100000 in
set_option maxHeartbeats 4000000 in
theorem rnew_q (A : Option Addr) (c : Nat) (l : List Un) (w : World) (h : Uns w w.heap.size A l) (hok : quotasOk l = true) :
    Calls Try.prog 11 #[.slice A l.length c] w fun e w' => ∃ r a b ca cb, e = .returned (.pointer (some ⟨r, 0, none⟩)) ∧ RQAt w' r a b ca cb (newL l) ∧ w.heap.size ≤ r ∧ w.heap.size ≤ a ∧ w.heap.size ≤ b ∧ Below w.heap.size w w' := by
  obtain ⟨q1, q2, q3⟩ := quotasOk_iff.1 hok
  obtain ⟨x0, hx0⟩ := get_lt (l := l) (k := 0) (by omega)
  obtain ⟨b0, off, rfl, hb, hc⟩ := h.at_ hx0
  obtain ⟨n, hln⟩ : ∃ n, l.length = n := ⟨_, rfl⟩
  obtain ⟨i0, hi, hz0, hz1, hz2⟩ := info_parts info_un
  obtain ⟨mc, hmc⟩ : ∃ mc, mc = madeCells (.agg #[.int .i64 0, .int .i64 0] : Value).cells (n * 2) := ⟨_, rfl⟩
  have hmcz : ∀ j, j < n * 2 → mc[j]? = some (.int .i64 0) := fun j hj => by rw [hmc]; exact made_zero n j hj
  rw [hln] at q1 q2
  have hmk : ∀ W : World, (Instr.makeSlice 22 (.int .i64 (n : Nat)) (.int .i64 (n : Nat))).run Try.prog W = .ok (.slice (some ⟨W.heap.size, 0, none⟩) n n) (W.alloc (.cells mc 34)) := fun W => by
    have := run_make (P := Try.prog) W 22 34 i0 _ Try.underlying22 hi hz0 .i64 .i64 (n : Nat) (n : Nat) (by omega) (by omega) (by rw [hz2]; omega) (by omega)
    rw [hz1] at this
    rw [hmc]
    simpa using this
  have H := Lib.hid (And.intro hc (And.intro hln hb))
  have hbok := hok
  rw [hln]
  clear hmc h hok hx0 hc q3
  go_enter Try.func11, Try.ntmps11
  go_wp2
  refine held_begin (fun _ : World => True) (by kernel_rfl) ?_
  have bwd : Below w.heap.size w w.drew := (Below.refl _ _).drew
  have swd : w.heap.size ≤ w.drew.heap.size := Nat.le_refl _
  generalize w.drew = wd at bwd swd ⊢
  refine held_take (v := ?_) 1 4 rfl rfl (by kernel_rfl) (by kernel_rfl) (by kernel_rfl) (fun _ _ _ h => h) ⟨by rfl, ?_⟩ (trivial : True) ?_
  rotate_left
  · intro w' hw'; go_simp; (try with_reducible rfl)
  simp only [Act.put, List.setIfInBounds_toArray, List.set_cons_zero, List.set_cons_succ]
  refine held_take (v := ?_) 3 6 rfl rfl (by kernel_rfl) (by kernel_rfl) (by kernel_rfl) (fun _ _ _ h => h) ⟨by rfl, ?_⟩ (trivial : True) ?_
  rotate_left
  · intro w' hw'; go_simp; (try with_reducible rfl)
  simp only [Act.put, List.setIfInBounds_toArray, List.set_cons_zero, List.set_cons_succ]
  refine held_take (v := ?_) 4 7 rfl rfl (by kernel_rfl) (by kernel_rfl) (by kernel_rfl) (fun _ _ _ h => h) ⟨by rfl, ?_⟩ (trivial : True) ?_
  rotate_left
  · intro w' hw'; go_simp; (try with_reducible rfl)
  simp only [Act.put, List.setIfInBounds_toArray, List.set_cons_zero, List.set_cons_succ]
  refine held_two 0 5 rfl rfl (by kernel_rfl) (by rfl) (by rfl) (fun K hK => ?_) (fun K hK => ?_)
  · go_simp
    obtain ⟨wa, hwa⟩ : ∃ x, x = wd.alloc (.cells #[] 34) := ⟨_, rfl⟩
    have bwa : Below w.heap.size w wa := by rw [hwa]; exact bwd.alloc bwd.size _
    have swa : wd.heap.size < wa.heap.size := by rw [hwa]; simp
    have eo : wa.ownsRow w.heap.size 34 2 (.slice (some ⟨wd.heap.size, 0, none⟩) 0 0) 0 [] := by rw [hwa]; exact own_empty2 _ _ bwd.size
    obtain ⟨be, hbe⟩ : ∃ x, x = wd.heap.size := ⟨_, rfl⟩
    rw [← hbe] at eo
    refine hK.out _ _ trivial ?_
    clear hK K
    try simp only [Act.put, List.setIfInBounds_toArray, List.set_cons_zero, List.set_cons_succ]
    rw [← hwa, ← hbe]
    clear hwa
    have hbe0 : wd.heap.size ≤ be := by omega
    have hbe1 : be < wa.heap.size := by omega
    have hbe2 : w.heap.size ≤ be := by have := bwd.size; omega
    clear hbe
    refine held_two 2 5 rfl rfl (by kernel_rfl) (by rfl) (by rfl) (fun K hK => ?_) (fun K hK => ?_)
    · simp only [Go.wp_at_zero, Go.wp_at_succ]
      refine wp_append_lies _ _ _ 22 rfl w.heap.size 34 i0 _ 2 16 Try.underlying22 hi hz0 hz1 hz2 rfl (by omega) (.slice (some ⟨be, 0, none⟩) 0 0) 0 [] rfl eo ⟨b0, off, none⟩ n c (l.flatMap uC) rfl (by rw [flat_len uC_len, H.out.2.1]) (fun j v hj => els_cells uC_len (by omega) (fun i x hx => (H.out.1 i x hx).keep H.out.2.2 bwa) j v hj) (els_one uC_one l) (by omega) (by unfold maxLen; omega) (by omega) (by omega) wa.heap.size (by omega) ?_
      intro gg cap' wb eo2 hgrow hat hlt
      have bwb : Below w.heap.size w wb := bwa.grown hgrow bwa.size (fun i e => (eo.lt i e).1)
      have swb : wa.heap.size ≤ wb.heap.size := hgrow.size
      refine hK.out _ _ trivial ?_
      clear hK K
      try simp only [Act.put, List.setIfInBounds_toArray, List.set_cons_zero, List.set_cons_succ]
      refine held_one 5 rfl (by kernel_rfl) (by rfl) (fun K hK => ?_)
      go_simp
      obtain ⟨wc, hwc⟩ : ∃ x, x = wb.alloc (.cells mc 34) := ⟨_, rfl⟩
      have bwc : Below w.heap.size w wc := by rw [hwc]; exact bwb.alloc bwb.size _
      have hmk2 : wc.heap[wb.heap.size]? = some (.cells mc 34 (0, 0)) := by rw [hwc]; exact heap_alloc_new _ _
      have hgl := (eo2.lt gg rfl).2
      have hwb := bwb.size
      replace eo2 := (own_keep eo2 (show Below wb.heap.size wb wc by rw [hwc]; exact (Below.refl _ _).alloc (Nat.le_refl _) _))
      obtain ⟨bm, hbm⟩ : ∃ x, x = wb.heap.size := ⟨_, rfl⟩
      rw [← hbm] at hmk2
      refine hK.out _ _ trivial ?_
      clear hK K
      try simp only [Act.put, List.setIfInBounds_toArray, List.set_cons_zero, List.set_cons_succ]
      rw [← hwc, ← hbm]
      clear hwc
      have hbm1 : wb.heap.size ≤ bm := by omega
      have hbm2 : bm < wc.heap.size := blk_lt hmk2
      have hbm3 : w.heap.size ≤ bm := by have := bwb.size; omega
      clear hbm
      refine held_take (v := ?_) 6 9 rfl rfl (by kernel_rfl) (by kernel_rfl) (by kernel_rfl) (fun _ _ _ h => h) ⟨by rfl, ?_⟩ (trivial : True) ?_
      rotate_left
      · intro w' hw'; go_simp; (try with_reducible rfl)
      simp only [Act.put, List.setIfInBounds_toArray, List.set_cons_zero, List.set_cons_succ]
      refine held_one 7 rfl (by kernel_rfl) (by rfl) (fun K hK => ?_)
      go_simp
      refine hK.out _ _ trivial ?_
      clear hK K
      try simp only [Act.put, List.setIfInBounds_toArray, List.set_cons_zero, List.set_cons_succ]
      refine held_take (v := ?_) 8 2 rfl rfl (by kernel_rfl) (by kernel_rfl) (by kernel_rfl) (fun _ _ _ h => h) ⟨by rfl, ?_⟩ (trivial : True) ?_
      rotate_left
      · intro w' hw'; go_simp; (try with_reducible rfl)
      simp only [Act.put, List.setIfInBounds_toArray, List.set_cons_zero, List.set_cons_succ]
      refine wpAnyH_done (by kernel_rfl) ?_ _
      go_wp2
      go_ret
      obtain ⟨r9, a9, b9, ca9, cb9, h1, h2⟩ := newfin wc hbok hln eo2 hmk2 hmcz bwc (by omega) (by omega)
      cases h1
      exact ⟨_, a9, b9, ca9, cb9, rfl, h2⟩
    · go_simp
      obtain ⟨wb, hwb⟩ : ∃ x, x = wa.alloc (.cells mc 34) := ⟨_, rfl⟩
      have bwb : Below w.heap.size w wb := by rw [hwb]; exact bwa.alloc bwa.size _
      have swb : wa.heap.size < wb.heap.size := by rw [hwb]; simp
      have hmk2 : wb.heap[wa.heap.size]? = some (.cells mc 34 (0, 0)) := by rw [hwb]; exact heap_alloc_new _ _
      replace eo := (own_keep eo (show Below wa.heap.size wa wb by rw [hwb]; exact (Below.refl _ _).alloc (Nat.le_refl _) _))
      obtain ⟨bm, hbm⟩ : ∃ x, x = wa.heap.size := ⟨_, rfl⟩
      rw [← hbm] at hmk2
      refine hK.out _ _ trivial ?_
      clear hK K
      try simp only [Act.put, List.setIfInBounds_toArray, List.set_cons_zero, List.set_cons_succ]
      rw [← hwb, ← hbm]
      clear hwb
      have hbm1 : wa.heap.size ≤ bm := by omega
      have hbm2 : bm < wb.heap.size := blk_lt hmk2
      have hbm3 : w.heap.size ≤ bm := by have := bwa.size; omega
      clear hbm
      refine held_one 2 rfl (by kernel_rfl) (by rfl) (fun K hK => ?_)
      simp only [Go.wp_at_zero, Go.wp_at_succ]
      refine wp_append_lies _ _ _ 22 rfl w.heap.size 34 i0 _ 2 16 Try.underlying22 hi hz0 hz1 hz2 rfl (by omega) (.slice (some ⟨be, 0, none⟩) 0 0) 0 [] rfl eo ⟨b0, off, none⟩ n c (l.flatMap uC) rfl (by rw [flat_len uC_len, H.out.2.1]) (fun j v hj => els_cells uC_len (by omega) (fun i x hx => (H.out.1 i x hx).keep H.out.2.2 bwb) j v hj) (els_one uC_one l) (by omega) (by unfold maxLen; omega) (by omega) (by omega) wb.heap.size (by omega) ?_
      intro gg cap' wc eo2 hgrow hat hlt
      have bwc : Below w.heap.size w wc := bwb.grown hgrow bwb.size (fun i e => (eo.lt i e).1)
      have swc : wb.heap.size ≤ wc.heap.size := hgrow.size
      replace hmk2 := (hgrow.block bm (by omega) (by simp only [Value.ownBlock]; intro e; injection e with e; omega)).trans hmk2
      have hgb : gg ≠ bm := by
        rcases hat with hat | hat
        · have : be = gg := by simpa [Value.ownBlock] using hat
          omega
        · omega
      refine hK.out _ _ trivial ?_
      clear hK K
      try simp only [Act.put, List.setIfInBounds_toArray, List.set_cons_zero, List.set_cons_succ]
      refine held_take (v := ?_) 6 9 rfl rfl (by kernel_rfl) (by kernel_rfl) (by kernel_rfl) (fun _ _ _ h => h) ⟨by rfl, ?_⟩ (trivial : True) ?_
      rotate_left
      · intro w' hw'; go_simp; (try with_reducible rfl)
      simp only [Act.put, List.setIfInBounds_toArray, List.set_cons_zero, List.set_cons_succ]
      refine held_one 7 rfl (by kernel_rfl) (by rfl) (fun K hK => ?_)
      go_simp
      refine hK.out _ _ trivial ?_
      clear hK K
      try simp only [Act.put, List.setIfInBounds_toArray, List.set_cons_zero, List.set_cons_succ]
      refine held_take (v := ?_) 8 2 rfl rfl (by kernel_rfl) (by kernel_rfl) (by kernel_rfl) (fun _ _ _ h => h) ⟨by rfl, ?_⟩ (trivial : True) ?_
      rotate_left
      · intro w' hw'; go_simp; (try with_reducible rfl)
      simp only [Act.put, List.setIfInBounds_toArray, List.set_cons_zero, List.set_cons_succ]
      refine wpAnyH_done (by kernel_rfl) ?_ _
      go_wp2
      go_ret
      obtain ⟨r9, a9, b9, ca9, cb9, h1, h2⟩ := newfin wc hbok hln eo2 hmk2 hmcz bwc (by omega) (by omega)
      cases h1
      exact ⟨_, a9, b9, ca9, cb9, rfl, h2⟩
  · go_simp
    obtain ⟨wa, hwa⟩ : ∃ x, x = wd.alloc (.cells mc 34) := ⟨_, rfl⟩
    have bwa : Below w.heap.size w wa := by rw [hwa]; exact bwd.alloc bwd.size _
    have swa : wd.heap.size < wa.heap.size := by rw [hwa]; simp
    have hmk2 : wa.heap[wd.heap.size]? = some (.cells mc 34 (0, 0)) := by rw [hwa]; exact heap_alloc_new _ _
    obtain ⟨bm, hbm⟩ : ∃ x, x = wd.heap.size := ⟨_, rfl⟩
    rw [← hbm] at hmk2
    refine hK.out _ _ trivial ?_
    clear hK K
    try simp only [Act.put, List.setIfInBounds_toArray, List.set_cons_zero, List.set_cons_succ]
    rw [← hwa, ← hbm]
    clear hwa
    have hbm1 : wd.heap.size ≤ bm := by omega
    have hbm2 : bm < wa.heap.size := blk_lt hmk2
    have hbm3 : w.heap.size ≤ bm := by have := bwd.size; omega
    clear hbm
    refine held_one 0 rfl (by kernel_rfl) (by rfl) (fun K hK => ?_)
    go_simp
    obtain ⟨wb, hwb⟩ : ∃ x, x = wa.alloc (.cells #[] 34) := ⟨_, rfl⟩
    have bwb : Below w.heap.size w wb := by rw [hwb]; exact bwa.alloc bwa.size _
    have swb : wa.heap.size < wb.heap.size := by rw [hwb]; simp
    have eo : wb.ownsRow w.heap.size 34 2 (.slice (some ⟨wa.heap.size, 0, none⟩) 0 0) 0 [] := by rw [hwb]; exact own_empty2 _ _ bwa.size
    replace hmk2 := (show wb.heap[bm]? = some (.cells mc 34 (0, 0)) by rw [hwb]; exact (Below.heap_alloc _ _ _ (by omega)).trans hmk2)
    obtain ⟨be, hbe⟩ : ∃ x, x = wa.heap.size := ⟨_, rfl⟩
    rw [← hbe] at eo
    refine hK.out _ _ trivial ?_
    clear hK K
    try simp only [Act.put, List.setIfInBounds_toArray, List.set_cons_zero, List.set_cons_succ]
    rw [← hwb, ← hbe]
    clear hwb
    have hbe0 : wa.heap.size ≤ be := by omega
    have hbe1 : be < wb.heap.size := by omega
    have hbe2 : w.heap.size ≤ be := by have := bwa.size; omega
    clear hbe
    refine held_one 2 rfl (by kernel_rfl) (by rfl) (fun K hK => ?_)
    simp only [Go.wp_at_zero, Go.wp_at_succ]
    refine wp_append_lies _ _ _ 22 rfl w.heap.size 34 i0 _ 2 16 Try.underlying22 hi hz0 hz1 hz2 rfl (by omega) (.slice (some ⟨be, 0, none⟩) 0 0) 0 [] rfl eo ⟨b0, off, none⟩ n c (l.flatMap uC) rfl (by rw [flat_len uC_len, H.out.2.1]) (fun j v hj => els_cells uC_len (by omega) (fun i x hx => (H.out.1 i x hx).keep H.out.2.2 bwb) j v hj) (els_one uC_one l) (by omega) (by unfold maxLen; omega) (by omega) (by omega) wb.heap.size (by omega) ?_
    intro gg cap' wc eo2 hgrow hat hlt
    have bwc : Below w.heap.size w wc := bwb.grown hgrow bwb.size (fun i e => (eo.lt i e).1)
    have swc : wb.heap.size ≤ wc.heap.size := hgrow.size
    replace hmk2 := (hgrow.block bm (by omega) (by simp only [Value.ownBlock]; intro e; injection e with e; omega)).trans hmk2
    have hgb : gg ≠ bm := by
      rcases hat with hat | hat
      · have : be = gg := by simpa [Value.ownBlock] using hat
        omega
      · omega
    refine hK.out _ _ trivial ?_
    clear hK K
    try simp only [Act.put, List.setIfInBounds_toArray, List.set_cons_zero, List.set_cons_succ]
    refine held_take (v := ?_) 6 9 rfl rfl (by kernel_rfl) (by kernel_rfl) (by kernel_rfl) (fun _ _ _ h => h) ⟨by rfl, ?_⟩ (trivial : True) ?_
    rotate_left
    · intro w' hw'; go_simp; (try with_reducible rfl)
    simp only [Act.put, List.setIfInBounds_toArray, List.set_cons_zero, List.set_cons_succ]
    refine held_one 7 rfl (by kernel_rfl) (by rfl) (fun K hK => ?_)
    go_simp
    refine hK.out _ _ trivial ?_
    clear hK K
    try simp only [Act.put, List.setIfInBounds_toArray, List.set_cons_zero, List.set_cons_succ]
    refine held_take (v := ?_) 8 2 rfl rfl (by kernel_rfl) (by kernel_rfl) (by kernel_rfl) (fun _ _ _ h => h) ⟨by rfl, ?_⟩ (trivial : True) ?_
    rotate_left
    · intro w' hw'; go_simp; (try with_reducible rfl)
    simp only [Act.put, List.setIfInBounds_toArray, List.set_cons_zero, List.set_cons_succ]
    refine wpAnyH_done (by kernel_rfl) ?_ _
    go_wp2
    go_ret
    obtain ⟨r9, a9, b9, ca9, cb9, h1, h2⟩ := newfin wc hbok hln eo2 hmk2 hmcz bwc (by omega) (by omega)
    cases h1
    exact ⟨_, a9, b9, ca9, cb9, rfl, h2⟩
end Go.Proofs.Ytfbmjpihdjcedaa
