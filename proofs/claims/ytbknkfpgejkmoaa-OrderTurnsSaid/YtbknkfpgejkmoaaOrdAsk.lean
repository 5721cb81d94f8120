/- Rank, Ahead, Sure. -/
import Derived.RegionTactic
import Derived.BigRegion
import Derived.Deep.QuietTactic
import Derived.BigQuiet
import Derived.Deep.RegionWith
import Derived.Test.YtbknkfpgejkmoaaOrdCmp
import Derived.Test.YtbknkfpgejkmoaaOrdMay
namespace Go.Proofs.Ytbknkfpgejkmoaa
open Go.RowKit
/-- A new slice of one wait, or of two. -/
theorem wts_one (w : World) (x : Wt) : Wts (w.alloc (wtO x)) (w.alloc (wtO x)).heap.size (some ⟨w.heap.size, 0, none⟩) [x] :=
  els_blk wtC_len (wt_new w x) fun j v hj => by simpa [wtC, wtA] using hj
abbrev wtO2 (x y : Wt) : Obj := .cells (wtA x ++ wtA y) 27
theorem wts_two (w : World) (x y : Wt) : Wts (w.alloc (wtO2 x y)) (w.alloc (wtO2 x y)).heap.size (some ⟨w.heap.size, 0, none⟩) [x, y] :=
  els_blk wtC_len (heap_alloc_new w (wtO2 x y)) fun j v hj => by simpa [wtC, wtA] using hj
set_option maxRecDepth 100000 in
set_option maxHeartbeats 4000000 in
theorem prank_any (x : Wt) (now age : Int) (w : World) :
    Calls Try.prog 11 #[wtV x, .int .i64 now, .int .i64 age] w fun e w' => e = .returned (.tuple #[.int .i64 (if mayA now age && mayW x then rankF x now age else 0), .int .i64 (if mayA now age && mayW x then 0 else 1)]) ∧ Below w.heap.size w w' := by
  have hb := wt_new w x
  have hU := (Below.refl w.heap.size w).alloc (Nat.le_refl _) (wtO x)
  have hV := hU.alloc (by simp) (wtO x)
  have hM0 := maybe_any now age (some ⟨w.heap.size + 1, 0, none⟩) 1 [x] ((w.alloc (wtO x)).alloc (wtO x)) (by have := wts_one (w.alloc (wtO x)) x; simpa only [World.size_alloc] using this) (by simp)
  rw [show (mayA now age && [x].all mayW) = (mayA now age && mayW x) by simp] at hM0
  simp only [List.length_cons, List.length_nil, Nat.zero_add] at hM0
  obtain ⟨m, hm⟩ : ∃ m, m = (mayA now age && mayW x) := ⟨_, rfl⟩
  rw [← hm] at hM0 ⊢
  have a := fun j v => cell_blk (i := j) (u := v) hb
  have HM := Lib.hid hM0
  have HV := Lib.hid hV
  have HX : Hid (m = true → (fun W => Calls Try.prog 24 #[wtV x, .int .i64 now, .int .i64 age] W fun e w' => e = .returned (.int .i64 (rankF x now age)) ∧ Below W.heap.size W w') = (fun W => Calls Try.prog 24 #[wtV x, .int .i64 now, .int .i64 age] W fun e w' => e = .returned (.int .i64 (rankF x now age)) ∧ Below W.heap.size W w')) := Lib.hid (fun _ => rfl)
  clear HX
  have HR : Hid (m = true → ∀ W, Calls Try.prog 24 #[wtV x, .int .i64 now, .int .i64 age] W fun e w' => e = .returned (.int .i64 (rankF x now age)) ∧ Below W.heap.size W w') := Lib.hid (fun h W => by
    rw [hm, Bool.and_eq_true, mayA_iff] at h
    obtain ⟨⟨h1, h2, h3, h4⟩, hx⟩ := h
    exact rank_any x now age W h1 (by omega) h3 h4 hx)
  have lb : w.heap.size < ((w.alloc (wtO x)).alloc (wtO x)).heap.size := by simp; omega
  have HA := Lib.hid ((wtAt_new hb).keep (B := (w.alloc (wtO x)).heap.size) (by simp) ((Below.refl _ (w.alloc (wtO x))).alloc (Nat.le_refl _) (wtO x)))
  have Hlb := Lib.hid lb
  clear hb hU hV hM0 hm lb
  simp only [wtV, wtA] at *
  cases m
  · go_enter Try.func11, Try.ntmps11
    go_wp2_with (go_at_call 23; refine HM.out.mono ?_; rintro e w1 ⟨rfl, hb1⟩)
    go_ret2
    exact ⟨by first | rfl | (simp; done), below_step HV.out hb1⟩
  · have hR := Lib.hid (HR.out rfl)
    go_enter Try.func11, Try.ntmps11
    go_wp2_with fail
    refine HM.out.mono ?_
    rintro e w1 ⟨rfl, hb1⟩
    have hA := HA.out.keep Hlb.out hb1
    have a := fun j v => (hA j v)
    have a0 : w1.cell? ⟨w.heap.size, 0, none⟩ = some (.int .i64 x.id) := hA 0 _ rfl
    have a1 : w1.cell? ⟨w.heap.size, 1, none⟩ = some (.int .i64 x.q) := hA 1 _ rfl
    have a2 : w1.cell? ⟨w.heap.size, 2, none⟩ = some (.int .i64 x.p) := hA 2 _ rfl
    have a3 : w1.cell? ⟨w.heap.size, 3, none⟩ = some (.int .i64 x.r) := hA 3 _ rfl
    have a4 : w1.cell? ⟨w.heap.size, 4, none⟩ = some (.int .i64 x.g) := hA 4 _ rfl
    have a5 : w1.cell? ⟨w.heap.size, 5, none⟩ = some (.int .i64 x.c) := hA 5 _ rfl
    have a6 : w1.cell? ⟨w.heap.size, 6, none⟩ = some (.int .i64 x.mn) := hA 6 _ rfl
    have a7 : w1.cell? ⟨w.heap.size, 7, none⟩ = some (.int .i64 x.mx) := hA 7 _ rfl
    have a8 : w1.cell? ⟨w.heap.size, 8, none⟩ = some (.int .i64 x.s) := hA 8 _ rfl
    have a9 : w1.cell? ⟨w.heap.size, 9, none⟩ = some (.int .i64 x.n) := hA 9 _ rfl
    have HB1 := Lib.hid (below_step HV.out hb1)
    clear a hA hb1
    go_wp2_with (go_at_call 24; refine (hR.out _).mono ?_; rintro e w2 ⟨rfl, hb2⟩)
    go_ret2
    exact ⟨by first | rfl | (simp; done), below_step HB1.out hb2⟩

set_option maxRecDepth 100000 in
set_option maxHeartbeats 4000000 in
theorem pahead_any (x y : Wt) (now age : Int) (w : World) :
    Calls Try.prog 12 #[wtV x, wtV y, .int .i64 now, .int .i64 age] w fun e w' => e = .returned (.tuple #[.bool (mayA now age && (mayW x && mayW y) && aheadF now age x y), .int .i64 (if mayA now age && (mayW x && mayW y) then 0 else 1)]) ∧ Below w.heap.size w w' := by
  have hb0 := wt_new w x
  have hb1 := wt_new (w.alloc (wtO x)) y
  rw [show (w.alloc (wtO x)).heap.size = w.heap.size + 1 by simp] at hb1
  have hU0 := ((Below.refl w.heap.size w).alloc (Nat.le_refl _) (wtO x)).alloc (by simp) (wtO y)
  have hV0 := hU0.alloc (by simp; omega) (wtO2 x y)
  have hA0 := ((wtAt_new hb0).keep (B := (w.alloc (wtO x)).heap.size) (by simp) ((Below.refl _ (w.alloc (wtO x))).alloc (Nat.le_refl _) (wtO y)))
  have hA1 := hA0.keep (B := ((w.alloc (wtO x)).alloc (wtO y)).heap.size) (by simp; omega) ((Below.refl _ _).alloc (Nat.le_refl _) (wtO2 x y))
  have hB0 := wtAt_new hb1
  have hB1 := hB0.keep (B := ((w.alloc (wtO x)).alloc (wtO y)).heap.size) (by simp) ((Below.refl _ _).alloc (Nat.le_refl _) (wtO2 x y))
  have sV : (((w.alloc (wtO x)).alloc (wtO y)).alloc (wtO2 x y)).heap.size = w.heap.size + 1 + 1 + 1 := by simp
  have hM0 := maybe_any now age (some ⟨w.heap.size + 1 + 1, 0, none⟩) 2 [x, y] (((w.alloc (wtO x)).alloc (wtO y)).alloc (wtO2 x y)) (by have := wts_two ((w.alloc (wtO x)).alloc (wtO y)) x y; simpa only [World.size_alloc] using this) (by simp)
  rw [show (mayA now age && [x, y].all mayW) = (mayA now age && (mayW x && mayW y)) by simp] at hM0
  simp only [List.length_cons, List.length_nil, Nat.zero_add, Nat.reduceAdd] at hM0
  obtain ⟨m, hm⟩ : ∃ m, m = (mayA now age && (mayW x && mayW y)) := ⟨_, rfl⟩
  rw [← hm] at hM0 ⊢
  have HM := Lib.hid hM0
  have HV := Lib.hid (And.intro hV0 (And.intro hA1 (And.intro hB1 sV)))
  have HR : Hid (m = true → ∀ W S T G, Cmps W S T G now age → Calls Try.prog 35 #[wtV x, wtV y, .pointer (some ⟨S, 0, none⟩)] W fun e w' => e = .returned (.int .i64 (cmpW now age x y)) ∧ Below W.heap.size W w') := Lib.hid (fun h W S T G hS => by
    rw [hm, Bool.and_eq_true, mayA_iff, Bool.and_eq_true] at h
    obtain ⟨⟨h1, h2, h3, h4⟩, hx, hy⟩ := h
    have hy' := mayW_iff.1 hy
    exact steps_cl S T G x y now age W (by omega) (by omega) h3 h4 hx hy hS)
  have u0 : ∀ r v, (wtA x)[r]? = some v → ((w.alloc (wtO x)).alloc (wtO y)).cell? ⟨w.heap.size, r, none⟩ = some v := fun r v hr => by have := hA0 r v (by simpa [wtC, wtA] using hr); simpa using this
  have u1 : ∀ r v, (wtA y)[r]? = some v → ((w.alloc (wtO x)).alloc (wtO y)).cell? ⟨w.heap.size + 1, r, none⟩ = some v := fun r v hr => by have := hB0 r v (by simpa [wtC, wtA] using hr); simpa using this
  clear hb0 hb1 hU0 hV0 hA0 hA1 hB0 hB1 sV hM0 hm
  cases m
  · simp only [wtO2, wtO, wtV, wtA, List.append_toArray, List.cons_append, List.nil_append] at HM HV u0 u1 ⊢
    go_enter Try.func12, Try.ntmps12
    go_wp2_with (go_at_call 23; refine HM.out.mono ?_; rintro e w1 ⟨rfl, hb1⟩)
    go_ret2
    exact ⟨by first | rfl | (simp; done), below_step HV.out.1 hb1⟩
  · have hR := Lib.hid (HR.out rfl)
    have HVm : Hid (∀ w1, Below (((w.alloc (wtO x)).alloc (wtO y)).alloc (wtO2 x y)).heap.size (((w.alloc (wtO x)).alloc (wtO y)).alloc (wtO2 x y)) w1 → Below w.heap.size w w1 ∧ WtAt w1 w.heap.size 0 x ∧ WtAt w1 (w.heap.size + 1) 0 y ∧ w.heap.size < w1.heap.size ∧ w.heap.size + 1 < w1.heap.size) := Lib.hid (fun w1 hb => by
      obtain ⟨v1, v2, v3, v4⟩ := HV.out
      have hs := hb.size
      exact ⟨below_step v1 hb, v2.keep (by omega) hb, v3.keep (by omega) hb, by omega, by omega⟩)
    clear HR HV
    simp only [wtO2, wtO, wtV, wtA, List.append_toArray, List.cons_append, List.nil_append] at HM u0 u1 ⊢
    go_enter Try.func12, Try.ntmps12
    go_wp2_with fail
    refine HM.out.mono ?_
    rintro e U ⟨rfl, hb1⟩
    have hV1 := HVm.out U (by simp only [wtO2, wtO, wtA, List.append_toArray, List.cons_append, List.nil_append]; exact hb1)
    clear HVm hb1 u0 u1 HM
    go_wp2_with fail
    obtain ⟨hU, hA, hB, lA, lB⟩ := hV1
    obtain ⟨B, hBe⟩ : ∃ B, B = w.heap.size + 1 := ⟨_, rfl⟩
    obtain ⟨A, hAe⟩ : ∃ A, A = w.heap.size := ⟨_, rfl⟩
    rw [← hBe, ← hAe]
    rw [← hBe] at hB lB
    rw [← hAe] at hA lA
    have hU' := Lib.hid hU
    clear hBe hAe hU
    refine held_begin (fun w' : World => WtAt w' A 0 x ∧ WtAt w' B 0 y) (by kernel_rfl) ?_
    have hBh0 : Below U.heap.size U U.drew := (Below.refl _ _).drew
    have hSh0 : (fun w' : World => WtAt w' A 0 x ∧ WtAt w' B 0 y) U.drew := ⟨hA, hB⟩
    refine held_take (v := ?_) 0 17 rfl rfl (by kernel_rfl) (by kernel_rfl) (by kernel_rfl) (fun _ _ _ h => h) ⟨by rfl, ?_⟩ hSh0 ?_
    rotate_left
    · intro w' hw'; obtain ⟨x0, x1⟩ := hw'; go_simp; (try with_reducible rfl)
    simp only [Act.put, List.setIfInBounds_toArray, List.set_cons_zero, List.set_cons_succ]
    refine held_take (v := ?_) 1 18 rfl rfl (by kernel_rfl) (by kernel_rfl) (by kernel_rfl) (fun _ _ _ h => h) ⟨by rfl, ?_⟩ hSh0 ?_
    rotate_left
    · intro w' hw'; obtain ⟨x0, x1⟩ := hw'; go_simp; (try with_reducible rfl)
    simp only [Act.put, List.setIfInBounds_toArray, List.set_cons_zero, List.set_cons_succ]
    refine held_take (v := ?_) 3 20 rfl rfl (by kernel_rfl) (by kernel_rfl) (by kernel_rfl) (fun _ _ _ h => h) ⟨by rfl, ?_⟩ hSh0 ?_
    rotate_left
    · intro w' hw'; obtain ⟨x0, x1⟩ := hw'; refine Eq.trans (run_load_wt (by rfl) (by rfl) x0) ?_; (with_reducible rfl)
    simp only [Act.put, List.setIfInBounds_toArray, List.set_cons_zero, List.set_cons_succ]
    refine held_take (v := ?_) 4 21 rfl rfl (by kernel_rfl) (by kernel_rfl) (by kernel_rfl) (fun _ _ _ h => h) ⟨by rfl, ?_⟩ hSh0 ?_
    rotate_left
    · intro w' hw'; obtain ⟨x0, x1⟩ := hw'; refine Eq.trans (run_load_wt (by rfl) (by rfl) x1) ?_; (with_reducible rfl)
    simp only [Act.put, List.setIfInBounds_toArray, List.set_cons_zero, List.set_cons_succ]
    refine held_one 2 rfl (by kernel_rfl) (by rfl) (fun K hK => ?_)
    go_simp
    go_at_call 25
    refine (comparing_any now age U.drew).mono ?_
    rintro e wh1 ⟨S, T, G, rfl, hC, hbh1, lS, lT, lG⟩
    have hBh1 : Below U.heap.size U wh1 := below_step hBh0 hbh1
    have hSh1 : (fun w' : World => WtAt w' A 0 x ∧ WtAt w' B 0 y) wh1 := ⟨hA.keep (lA) hBh1, hB.keep (lB) hBh1⟩
    refine hK.out _ _ hSh1 ?_
    clear hK K
    refine held_one 5 rfl (by kernel_rfl) (by rfl) (fun K hK => ?_)
    go_simp
    go_at_call 35
    refine (hR.out wh1 S T G hC).mono ?_
    rintro e wh2 ⟨rfl, hbh2⟩
    have hBh2 : Below U.heap.size U wh2 := below_step hBh1 hbh2
    have hSh2 : (fun w' : World => WtAt w' A 0 x ∧ WtAt w' B 0 y) wh2 := ⟨hA.keep (lA) hBh2, hB.keep (lB) hBh2⟩
    refine hK.out _ _ hSh2 ?_
    clear hK K
    refine held_take (v := ?_) 6 23 rfl rfl (by kernel_rfl) (by kernel_rfl) (by kernel_rfl) (fun _ _ _ h => h) ⟨by rfl, ?_⟩ hSh2 ?_
    rotate_left
    · intro w' hw'; obtain ⟨x0, x1⟩ := hw'; go_simp; (try with_reducible rfl)
    simp only [Act.put, List.setIfInBounds_toArray, List.set_cons_zero, List.set_cons_succ]
    refine held_take (v := ?_) 7 8 rfl rfl (by kernel_rfl) (by kernel_rfl) (by kernel_rfl) (fun _ _ _ h => h) ⟨by rfl, ?_⟩ hSh2 ?_
    rotate_left
    · intro w' hw'; obtain ⟨x0, x1⟩ := hw'; go_simp; (try with_reducible rfl)
    simp only [Act.put, List.setIfInBounds_toArray, List.set_cons_zero, List.set_cons_succ]
    refine held_take (v := ?_) 8 9 rfl rfl (by kernel_rfl) (by kernel_rfl) (by kernel_rfl) (fun _ _ _ h => h) ⟨by rfl, ?_⟩ hSh2 ?_
    rotate_left
    · intro w' hw'; obtain ⟨x0, x1⟩ := hw'; go_simp; (try with_reducible rfl)
    simp only [Act.put, List.setIfInBounds_toArray, List.set_cons_zero, List.set_cons_succ]
    refine wpAnyH_done (by kernel_rfl) ?_ _
    (try simp only [cmpW_neg])
    go_wp2
    go_ret2
    exact ⟨by first | rfl | (simp; done), below_step hU'.out hBh2⟩

set_option maxRecDepth 100000 in
set_option maxHeartbeats 4000000 in
theorem psure_any (x y : Wt) (now age : Int) (w : World) :
    Calls Try.prog 13 #[wtV x, wtV y, .int .i64 now, .int .i64 age] w fun e w' => e = .returned (.tuple #[.bool (mayA now age && (mayW x && mayW y) && aheadF y.s age x y), .int .i64 (if mayA now age && (mayW x && mayW y) then 0 else 1)]) ∧ Below w.heap.size w w' := by
  have hb0 := wt_new w x
  have hb1 := wt_new (w.alloc (wtO x)) y
  rw [show (w.alloc (wtO x)).heap.size = w.heap.size + 1 by simp] at hb1
  have hU0 := ((Below.refl w.heap.size w).alloc (Nat.le_refl _) (wtO x)).alloc (by simp) (wtO y)
  have hV0 := hU0.alloc (by simp; omega) (wtO2 x y)
  have hA0 := ((wtAt_new hb0).keep (B := (w.alloc (wtO x)).heap.size) (by simp) ((Below.refl _ (w.alloc (wtO x))).alloc (Nat.le_refl _) (wtO y)))
  have hA1 := hA0.keep (B := ((w.alloc (wtO x)).alloc (wtO y)).heap.size) (by simp; omega) ((Below.refl _ _).alloc (Nat.le_refl _) (wtO2 x y))
  have hB0 := wtAt_new hb1
  have hB1 := hB0.keep (B := ((w.alloc (wtO x)).alloc (wtO y)).heap.size) (by simp) ((Below.refl _ _).alloc (Nat.le_refl _) (wtO2 x y))
  have sV : (((w.alloc (wtO x)).alloc (wtO y)).alloc (wtO2 x y)).heap.size = w.heap.size + 1 + 1 + 1 := by simp
  have hM0 := maybe_any now age (some ⟨w.heap.size + 1 + 1, 0, none⟩) 2 [x, y] (((w.alloc (wtO x)).alloc (wtO y)).alloc (wtO2 x y)) (by have := wts_two ((w.alloc (wtO x)).alloc (wtO y)) x y; simpa only [World.size_alloc] using this) (by simp)
  rw [show (mayA now age && [x, y].all mayW) = (mayA now age && (mayW x && mayW y)) by simp] at hM0
  simp only [List.length_cons, List.length_nil, Nat.zero_add, Nat.reduceAdd] at hM0
  obtain ⟨m, hm⟩ : ∃ m, m = (mayA now age && (mayW x && mayW y)) := ⟨_, rfl⟩
  rw [← hm] at hM0 ⊢
  have HM := Lib.hid hM0
  have HV := Lib.hid (And.intro hV0 (And.intro hA1 (And.intro hB1 sV)))
  have HR : Hid (m = true → ∀ W S T G, Cmps W S T G y.s age → Calls Try.prog 35 #[wtV x, wtV y, .pointer (some ⟨S, 0, none⟩)] W fun e w' => e = .returned (.int .i64 (cmpW y.s age x y)) ∧ Below W.heap.size W w') := Lib.hid (fun h W S T G hS => by
    rw [hm, Bool.and_eq_true, mayA_iff, Bool.and_eq_true] at h
    obtain ⟨⟨h1, h2, h3, h4⟩, hx, hy⟩ := h
    have hy' := mayW_iff.1 hy
    exact steps_cl S T G x y y.s age W (by omega) (by omega) h3 h4 hx hy hS)
  have u0 : ∀ r v, (wtA x)[r]? = some v → ((w.alloc (wtO x)).alloc (wtO y)).cell? ⟨w.heap.size, r, none⟩ = some v := fun r v hr => by have := hA0 r v (by simpa [wtC, wtA] using hr); simpa using this
  have u1 : ∀ r v, (wtA y)[r]? = some v → ((w.alloc (wtO x)).alloc (wtO y)).cell? ⟨w.heap.size + 1, r, none⟩ = some v := fun r v hr => by have := hB0 r v (by simpa [wtC, wtA] using hr); simpa using this
  clear hb0 hb1 hU0 hV0 hA0 hA1 hB0 hB1 sV hM0 hm
  cases m
  · simp only [wtO2, wtO, wtV, wtA, List.append_toArray, List.cons_append, List.nil_append] at HM HV u0 u1 ⊢
    go_enter Try.func13, Try.ntmps13
    go_wp2_with (go_at_call 23; refine HM.out.mono ?_; rintro e w1 ⟨rfl, hb1⟩)
    go_ret2
    exact ⟨by first | rfl | (simp; done), below_step HV.out.1 hb1⟩
  · have hR := Lib.hid (HR.out rfl)
    have HVm : Hid (∀ w1, Below (((w.alloc (wtO x)).alloc (wtO y)).alloc (wtO2 x y)).heap.size (((w.alloc (wtO x)).alloc (wtO y)).alloc (wtO2 x y)) w1 → Below w.heap.size w w1 ∧ WtAt w1 w.heap.size 0 x ∧ WtAt w1 (w.heap.size + 1) 0 y ∧ w.heap.size < w1.heap.size ∧ w.heap.size + 1 < w1.heap.size) := Lib.hid (fun w1 hb => by
      obtain ⟨v1, v2, v3, v4⟩ := HV.out
      have hs := hb.size
      exact ⟨below_step v1 hb, v2.keep (by omega) hb, v3.keep (by omega) hb, by omega, by omega⟩)
    clear HR HV
    simp only [wtO2, wtO, wtV, wtA, List.append_toArray, List.cons_append, List.nil_append] at HM u0 u1 ⊢
    go_enter Try.func13, Try.ntmps13
    go_wp2_with fail
    refine HM.out.mono ?_
    rintro e U ⟨rfl, hb1⟩
    have hV1 := HVm.out U (by simp only [wtO2, wtO, wtA, List.append_toArray, List.cons_append, List.nil_append]; exact hb1)
    clear HVm hb1 u0 u1 HM
    go_wp2_with fail
    obtain ⟨hU, hA, hB, lA, lB⟩ := hV1
    obtain ⟨B, hBe⟩ : ∃ B, B = w.heap.size + 1 := ⟨_, rfl⟩
    obtain ⟨A, hAe⟩ : ∃ A, A = w.heap.size := ⟨_, rfl⟩
    rw [← hBe, ← hAe]
    rw [← hBe] at hB lB
    rw [← hAe] at hA lA
    have hU' := Lib.hid hU
    clear hBe hAe hU
    have hB8 : U.cell? ⟨B, 8, none⟩ = some (.int .i64 y.s) := hB 8 _ rfl
    refine held_begin (fun w' : World => WtAt w' A 0 x ∧ WtAt w' B 0 y ∧ w'.cell? ⟨B, 8, none⟩ = some (.int .i64 y.s)) (by kernel_rfl) ?_
    have hBh0 : Below U.heap.size U U.drew := (Below.refl _ _).drew
    have hSh0 : (fun w' : World => WtAt w' A 0 x ∧ WtAt w' B 0 y ∧ w'.cell? ⟨B, 8, none⟩ = some (.int .i64 y.s)) U.drew := ⟨hA, hB, hB8⟩
    refine held_take (v := ?_) 0 17 rfl rfl (by kernel_rfl) (by kernel_rfl) (by kernel_rfl) (fun _ _ _ h => h) ⟨by rfl, ?_⟩ hSh0 ?_
    rotate_left
    · intro w' hw'; obtain ⟨x0, x1, x2⟩ := hw'; go_simp; (try with_reducible rfl)
    simp only [Act.put, List.setIfInBounds_toArray, List.set_cons_zero, List.set_cons_succ]
    refine held_take (v := ?_) 1 18 rfl rfl (by kernel_rfl) (by kernel_rfl) (by kernel_rfl) (fun _ _ _ h => h) ⟨by rfl, ?_⟩ hSh0 ?_
    rotate_left
    · intro w' hw'; obtain ⟨x0, x1, x2⟩ := hw'; go_simp; (try with_reducible rfl)
    simp only [Act.put, List.setIfInBounds_toArray, List.set_cons_zero, List.set_cons_succ]
    refine held_take (v := ?_) 2 19 rfl rfl (by kernel_rfl) (by kernel_rfl) (by kernel_rfl) (fun _ _ _ h => h) ⟨by rfl, ?_⟩ hSh0 ?_
    rotate_left
    · intro w' hw'; obtain ⟨x0, x1, x2⟩ := hw'; go_simp; (try with_reducible rfl)
    simp only [Act.put, List.setIfInBounds_toArray, List.set_cons_zero, List.set_cons_succ]
    refine held_take (v := ?_) 4 21 rfl rfl (by kernel_rfl) (by kernel_rfl) (by kernel_rfl) (fun _ _ _ h => h) ⟨by rfl, ?_⟩ hSh0 ?_
    rotate_left
    · intro w' hw'; obtain ⟨x0, x1, x2⟩ := hw'; refine Eq.trans (run_load_wt (by rfl) (by rfl) x0) ?_; (with_reducible rfl)
    simp only [Act.put, List.setIfInBounds_toArray, List.set_cons_zero, List.set_cons_succ]
    refine held_take (v := ?_) 5 22 rfl rfl (by kernel_rfl) (by kernel_rfl) (by kernel_rfl) (fun _ _ _ h => h) ⟨by rfl, ?_⟩ hSh0 ?_
    rotate_left
    · intro w' hw'; obtain ⟨x0, x1, x2⟩ := hw'; refine Eq.trans (run_load_wt (by rfl) (by rfl) x1) ?_; (with_reducible rfl)
    simp only [Act.put, List.setIfInBounds_toArray, List.set_cons_zero, List.set_cons_succ]
    refine held_one 3 rfl (by kernel_rfl) (by rfl) (fun K hK => ?_)
    go_simp
    go_at_call 25
    refine (comparing_any y.s age U.drew).mono ?_
    rintro e wh1 ⟨S, T, G, rfl, hC, hbh1, lS, lT, lG⟩
    have hBh1 : Below U.heap.size U wh1 := below_step hBh0 hbh1
    have hSh1 : (fun w' : World => WtAt w' A 0 x ∧ WtAt w' B 0 y ∧ w'.cell? ⟨B, 8, none⟩ = some (.int .i64 y.s)) wh1 := ⟨hA.keep (lA) hBh1, hB.keep (lB) hBh1, (hBh1.cell (p := ⟨B, 8, none⟩) (lB)).trans hB8⟩
    refine hK.out _ _ hSh1 ?_
    clear hK K
    refine held_one 6 rfl (by kernel_rfl) (by rfl) (fun K hK => ?_)
    go_simp
    go_at_call 35
    refine (hR.out wh1 S T G hC).mono ?_
    rintro e wh2 ⟨rfl, hbh2⟩
    have hBh2 : Below U.heap.size U wh2 := below_step hBh1 hbh2
    have hSh2 : (fun w' : World => WtAt w' A 0 x ∧ WtAt w' B 0 y ∧ w'.cell? ⟨B, 8, none⟩ = some (.int .i64 y.s)) wh2 := ⟨hA.keep (lA) hBh2, hB.keep (lB) hBh2, (hBh2.cell (p := ⟨B, 8, none⟩) (lB)).trans hB8⟩
    refine hK.out _ _ hSh2 ?_
    clear hK K
    refine held_take (v := ?_) 7 24 rfl rfl (by kernel_rfl) (by kernel_rfl) (by kernel_rfl) (fun _ _ _ h => h) ⟨by rfl, ?_⟩ hSh2 ?_
    rotate_left
    · intro w' hw'; obtain ⟨x0, x1, x2⟩ := hw'; go_simp; (try with_reducible rfl)
    simp only [Act.put, List.setIfInBounds_toArray, List.set_cons_zero, List.set_cons_succ]
    refine held_take (v := ?_) 8 8 rfl rfl (by kernel_rfl) (by kernel_rfl) (by kernel_rfl) (fun _ _ _ h => h) ⟨by rfl, ?_⟩ hSh2 ?_
    rotate_left
    · intro w' hw'; obtain ⟨x0, x1, x2⟩ := hw'; go_simp; (try with_reducible rfl)
    simp only [Act.put, List.setIfInBounds_toArray, List.set_cons_zero, List.set_cons_succ]
    refine held_take (v := ?_) 9 9 rfl rfl (by kernel_rfl) (by kernel_rfl) (by kernel_rfl) (fun _ _ _ h => h) ⟨by rfl, ?_⟩ hSh2 ?_
    rotate_left
    · intro w' hw'; obtain ⟨x0, x1, x2⟩ := hw'; go_simp; (try with_reducible rfl)
    simp only [Act.put, List.setIfInBounds_toArray, List.set_cons_zero, List.set_cons_succ]
    refine wpAnyH_done (by kernel_rfl) ?_ _
    (try simp only [cmpW_neg])
    go_wp2
    go_ret2
    exact ⟨by first | rfl | (simp; done), below_step hU'.out hBh2⟩

end Go.Proofs.Ytbknkfpgejkmoaa
