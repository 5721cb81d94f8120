/- The document's answer: may it be, its rank, who is ahead, for ever. -/
import Derived.RegionTactic
import Derived.BigRegion
import Derived.Deep.QuietTactic
import Derived.BigQuiet
import Derived.Deep.RegionWith
import Derived.Test.YtdeniikaddlifaaOrdAsk
namespace Go.Proofs.Ytdeniikaddlifaa
open Go.RowKit
set_option maxRecDepth 100000 in
set_option maxHeartbeats 2000000 in
theorem reftime_any (now age : Int) (w : World) : Calls Try.prog 20 #[.int .i64 now, .int .i64 age] w fun e w' => e = .returned (.bool (mayA now age)) ∧ w = w' := by
  unfold mayA mayT
  cases h0 : decide (0 ≤ now)
  · go_enter Try.func20, Try.ntmps20
    go_wp2
    go_ret
    exact ⟨by first | rfl | (simp; done), rfl⟩
  · cases h1 : decide (now ≤ 1073741824)
    · go_enter Try.func20, Try.ntmps20
      go_wp2
      go_ret
      exact ⟨by first | rfl | (simp; done), rfl⟩
    · cases h2 : decide (1 ≤ age)
      · go_enter Try.func20, Try.ntmps20
        go_wp2
        go_ret
        exact ⟨by first | rfl | (simp; done), rfl⟩
      · go_enter Try.func20, Try.ntmps20
        go_wp2
        go_ret
        exact ⟨by first | rfl | (simp; done), rfl⟩
set_option maxRecDepth 100000 in
set_option maxHeartbeats 2000000 in
theorem refright_any (x : Wt) (w : World) : Calls Try.prog 21 #[wtV x] w fun e w' => e = .returned (.bool (mayW x)) ∧ Below w.heap.size w w' := by
  have hb := wt_new w x
  have hB := Lib.hid ((Below.refl w.heap.size w).alloc (Nat.le_refl _) (wtO x))
  have a2 : (w.alloc (wtO x)).cell? ⟨w.heap.size, 2, none⟩ = some (.int .i64 x.p) := cell_blk (i := 2) hb rfl
  have a8 : (w.alloc (wtO x)).cell? ⟨w.heap.size, 8, none⟩ = some (.int .i64 x.s) := cell_blk (i := 8) hb rfl
  clear hb
  unfold mayW mayT
  simp only [wtV]
  cases h0 : decide (0 ≤ x.p)
  · go_enter Try.func21, Try.ntmps21
    go_wp2
    go_ret
    exact ⟨by first | rfl | (simp; done), hB.out⟩
  · cases h1 : decide (x.p ≤ 15)
    · go_enter Try.func21, Try.ntmps21
      go_wp2
      go_ret
      exact ⟨by first | rfl | (simp; done), hB.out⟩
    · cases h2 : decide (0 ≤ x.s)
      · go_enter Try.func21, Try.ntmps21
        go_wp2
        go_ret
        exact ⟨by first | rfl | (simp; done), hB.out⟩
      · go_enter Try.func21, Try.ntmps21
        go_wp2
        go_ret
        exact ⟨by first | rfl | (simp; done), hB.out⟩
theorem far_parts (d age : Int) (h : 1 ≤ age) (h2 : age ≤ 1024) (h3 : -1073741824 ≤ d) (h4 : d ≤ 2147483648) :
    0 ≤ (2147483648 : Int).tdiv age ∧ (2147483648 : Int).tdiv age ≤ 2147483648 ∧ 0 ≤ (2147483648 : Int).tdiv age * age ∧ (2147483648 : Int).tdiv age * age ≤ 2147483648 ∧ 0 ≤ d + (2147483648 : Int).tdiv age * age ∧ (d + (2147483648 : Int).tdiv age * age).tdiv age = d / age + (2147483648 : Int).tdiv age := by
  have e0 := Int.mul_tdiv_add_tmod 2147483648 age
  have m1 := Int.tmod_nonneg age (show (0 : Int) ≤ 2147483648 by omega)
  have m2 := Int.tmod_lt_of_pos 2147483648 (show 0 < age by omega)
  have q1 : 0 ≤ (2147483648 : Int).tdiv age := Int.tdiv_nonneg (by omega) (by omega)
  have q2 : (2147483648 : Int).tdiv age ≤ 2147483648 := Int.tdiv_le_self _ (by omega)
  rw [Int.mul_comm] at e0
  have q3 : 0 ≤ d + (2147483648 : Int).tdiv age * age := by omega
  refine ⟨q1, q2, by omega, by omega, q3, ?_⟩
  rw [Int.tdiv_eq_ediv_of_nonneg q3, Int.add_mul_ediv_right _ _ (by omega)]
set_option maxRecDepth 100000 in
set_option maxHeartbeats 4000000 in
theorem refrank_any (x : Wt) (tick age : Int) (w : World) (h1 : 0 ≤ tick) (h2 : tick ≤ 2147483648) (h3 : 1 ≤ age) (h4 : age ≤ 1024) (hx : mayW x = true) :
    Calls Try.prog 41 #[wtV x, .int .i64 tick, .int .i64 age] w fun e w' => e = .returned (.int .i64 (rankF x tick age)) ∧ Below w.heap.size w w' := by
  obtain ⟨p1, p2, p3, p4⟩ := mayW_iff.1 hx
  unfold rankF
  have hb := wt_new w x
  have hB := Lib.hid ((Below.refl w.heap.size w).alloc (Nat.le_refl _) (wtO x))
  have a2 : (w.alloc (wtO x)).cell? ⟨w.heap.size, 2, none⟩ = some (.int .i64 x.p) := cell_blk (i := 2) hb rfl
  have a8 : (w.alloc (wtO x)).cell? ⟨w.heap.size, 8, none⟩ = some (.int .i64 x.s) := cell_blk (i := 8) hb rfl
  obtain ⟨d, hd⟩ : ∃ d, d = tick - x.s := ⟨_, rfl⟩
  obtain ⟨q1, q2, q3, q4, q5, q6⟩ := far_parts d age h3 h4 (by omega) (by omega)
  obtain ⟨f1, f2, f3⟩ := floor_parts d age h3
  have z1 : (d / age).natAbs ≤ d.natAbs + 1 := by
    rcases Int.lt_or_le (d.tmod age) 0 with h | h
    · rw [f1 h]; omega
    · rw [f2 h]; omega
  obtain ⟨Z, hZ⟩ : ∃ Z, Z = d / age := ⟨_, rfl⟩
  rw [← hZ] at q6 z1
  obtain ⟨S, hS⟩ : ∃ S, S = (2147483648 : Int).tdiv age := ⟨_, rfl⟩
  rw [← hS] at q1 q2 q3 q4 q5 q6
  obtain ⟨M, hM⟩ : ∃ M, M = S * age := ⟨_, rfl⟩
  rw [← hM] at q3 q4 q5 q6
  have E : Hid (x.p + (tick - x.s) / age = x.p + Z) := Lib.hid (by rw [← hd, hZ])
  have e1 : IntKind.i64.wrap ((2147483648 : Int).tdiv age) = S := by rw [← hS]; exact IntWalk.i64_in _ (by omega)
  have e2 : IntKind.i64.wrap (S * age) = M := by rw [← hM]; exact IntWalk.i64_in _ (by omega)
  have e3 : IntKind.i64.wrap (tick - x.s) = d := by rw [← hd]; exact IntWalk.i64_in _ (by omega)
  have e4 : IntKind.i64.wrap ((d + M).tdiv age) = Z + S := by rw [q6]; exact IntWalk.i64_in _ (by omega)
  have z2 : -2147483649 ≤ Z := by omega
  have z3 : Z ≤ 2147483649 := by omega
  have d1 : -1073741824 ≤ d := by omega
  have d2 : d ≤ 2147483648 := by omega
  have ha : age ≠ 0 := by omega
  clear hb hd f1 f2 f3 z1 hZ hS hM q6
  simp only [wtV]
  go_enter Try.func41, Try.ntmps41
  go_wp2_with fail
  go_region
  go_wp2
  refine bodyPost_ret (v := .int .i64 (x.p + (Z + S) - S)) (by simp [results, Try.results41, go_sem]) rfl ?_
  exact ⟨by rw [E.out]; congr 2; omega, hB.out.drew⟩

/-- Two boxes, and what was there ahead of them. -/
structure Box2 (w U : World) (A B : Nat) (x y : Wt) : Prop where
  b : Below w.heap.size w U
  x : WtAt U A 0 x
  y : WtAt U B 0 y
  lx : A < U.heap.size
  ly : B < U.heap.size
theorem box2 (w : World) (x y : Wt) : Box2 w ((w.alloc (wtO x)).alloc (wtO y)) w.heap.size (w.heap.size + 1) x y := by
  have hb0 := wt_new w x
  have hb1 := wt_new (w.alloc (wtO x)) y
  rw [show (w.alloc (wtO x)).heap.size = w.heap.size + 1 by simp] at hb1
  exact ⟨((Below.refl w.heap.size w).alloc (Nat.le_refl _) (wtO x)).alloc (by simp) (wtO y), (wtAt_new hb0).keep (B := (w.alloc (wtO x)).heap.size) (by simp) ((Below.refl _ (w.alloc (wtO x))).alloc (Nat.le_refl _) (wtO y)), wtAt_new hb1, by simp; omega, by simp⟩
theorem Box2.keep {w U V : World} {A B : Nat} {x y : Wt} (h : Box2 w U A B x y) (hk : Below U.heap.size U V) : Box2 w V A B x y :=
  ⟨below_step h.b hk, h.x.keep h.lx hk, h.y.keep h.ly hk, by have := h.lx; have := hk.size; omega, by have := h.ly; have := hk.size; omega⟩
/-- Who is ahead, as the document asks it: rank, Number, Id. -/
theorem ahead_steps (tick age : Int) (x y : Wt) : aheadF tick age x y = (if rankF x tick age ≠ rankF y tick age then decide (rankF y tick age < rankF x tick age) else if x.n ≠ y.n then decide (x.n < y.n) else decide (x.id < y.id)) := by
  unfold aheadF
  split
  · rw [decide_eq_decide]; omega
  · split <;> rw [decide_eq_decide] <;> omega
set_option maxRecDepth 100000 in
set_option maxHeartbeats 4000000 in
theorem refahead_any (x y : Wt) (tick age : Int) (w : World) (h1 : 0 ≤ tick) (h2 : tick ≤ 2147483648) (h3 : 1 ≤ age) (h4 : age ≤ 1024) (hx : mayW x = true) (hy : mayW y = true) :
    Calls Try.prog 32 #[wtV x, wtV y, .int .i64 tick, .int .i64 age] w fun e w' => e = .returned (.bool (aheadF tick age x y)) ∧ Below w.heap.size w w' := by
  have hX := Lib.hid (fun W => refrank_any x tick age W h1 h2 h3 h4 hx)
  have hY := Lib.hid (fun W => refrank_any y tick age W h1 h2 h3 h4 hy)
  have HQ := Lib.hid (box2 w x y)
  rw [ahead_steps]
  obtain ⟨rx, hrx⟩ : ∃ r, r = rankF x tick age := ⟨_, rfl⟩
  obtain ⟨ry, hry⟩ : ∃ r, r = rankF y tick age := ⟨_, rfl⟩
  rw [← hrx] at hX ⊢
  rw [← hry] at hY ⊢
  clear hx hy hrx hry
  obtain ⟨R, hR⟩ : ∃ R, R = (if rx ≠ ry then decide (ry < rx) else if x.n ≠ y.n then decide (x.n < y.n) else decide (x.id < y.id)) := ⟨_, rfl⟩
  rw [← hR]
  have HR := Lib.hid hR
  clear hR
  simp only [wtV] at hX hY ⊢
  go_enter Try.func32, Try.ntmps32
  go_wp2_with fail
  obtain ⟨hU, hA, hB, lA, lB⟩ := HQ.out
  obtain ⟨U, hUe⟩ : ∃ U, U = (w.alloc (wtO x)).alloc (wtO y) := ⟨_, rfl⟩
  obtain ⟨B, hBe⟩ : ∃ B, B = w.heap.size + 1 := ⟨_, rfl⟩
  obtain ⟨A, hAe⟩ : ∃ A, A = w.heap.size := ⟨_, rfl⟩
  rw [← hUe, ← hBe, ← hAe]
  rw [← hUe] at hU hA hB lA lB
  rw [← hBe] at hB lB
  rw [← hAe] at hA lA
  clear hUe hBe hAe HQ
  refine held_begin (fun w' : World => WtAt w' A 0 x ∧ WtAt w' B 0 y) (by kernel_rfl) ?_
  have hBh0 : Below U.heap.size U U.drew := (Below.refl _ _).drew
  have hSh0 : (fun w' : World => WtAt w' A 0 x ∧ WtAt w' B 0 y) U.drew := ⟨hA, hB⟩
  refine held_take (v := ?_) 0 11 rfl rfl (by kernel_rfl) (by kernel_rfl) (by kernel_rfl) (fun _ _ _ h => h) ⟨by rfl, ?_⟩ hSh0 ?_
  rotate_left
  · intro w' hw'; obtain ⟨x0, x1⟩ := hw'; refine Eq.trans (run_load_wt (by rfl) (by rfl) x0) ?_; (with_reducible rfl)
  simp only [Act.put, List.setIfInBounds_toArray, List.set_cons_zero, List.set_cons_succ]
  refine held_take (v := ?_) 1 12 rfl rfl (by kernel_rfl) (by kernel_rfl) (by kernel_rfl) (fun _ _ _ h => h) ⟨by rfl, ?_⟩ hSh0 ?_
  rotate_left
  · intro w' hw'; obtain ⟨x0, x1⟩ := hw'; go_simp; (try with_reducible rfl)
  simp only [Act.put, List.setIfInBounds_toArray, List.set_cons_zero, List.set_cons_succ]
  refine held_take (v := ?_) 2 13 rfl rfl (by kernel_rfl) (by kernel_rfl) (by kernel_rfl) (fun _ _ _ h => h) ⟨by rfl, ?_⟩ hSh0 ?_
  rotate_left
  · intro w' hw'; obtain ⟨x0, x1⟩ := hw'; go_simp; (try with_reducible rfl)
  simp only [Act.put, List.setIfInBounds_toArray, List.set_cons_zero, List.set_cons_succ]
  refine held_take (v := ?_) 4 15 rfl rfl (by kernel_rfl) (by kernel_rfl) (by kernel_rfl) (fun _ _ _ h => h) ⟨by rfl, ?_⟩ hSh0 ?_
  rotate_left
  · intro w' hw'; obtain ⟨x0, x1⟩ := hw'; refine Eq.trans (run_load_wt (by rfl) (by rfl) x1) ?_; (with_reducible rfl)
  simp only [Act.put, List.setIfInBounds_toArray, List.set_cons_zero, List.set_cons_succ]
  refine held_take (v := ?_) 5 16 rfl rfl (by kernel_rfl) (by kernel_rfl) (by kernel_rfl) (fun _ _ _ h => h) ⟨by rfl, ?_⟩ hSh0 ?_
  rotate_left
  · intro w' hw'; obtain ⟨x0, x1⟩ := hw'; go_simp; (try with_reducible rfl)
  simp only [Act.put, List.setIfInBounds_toArray, List.set_cons_zero, List.set_cons_succ]
  refine held_take (v := ?_) 6 17 rfl rfl (by kernel_rfl) (by kernel_rfl) (by kernel_rfl) (fun _ _ _ h => h) ⟨by rfl, ?_⟩ hSh0 ?_
  rotate_left
  · intro w' hw'; obtain ⟨x0, x1⟩ := hw'; go_simp; (try with_reducible rfl)
  simp only [Act.put, List.setIfInBounds_toArray, List.set_cons_zero, List.set_cons_succ]
  refine held_one 3 rfl (by kernel_rfl) (by rfl) (fun K hK => ?_)
  go_simp
  go_at_call 41
  refine (hX.out U.drew).mono ?_
  rintro e wh1 ⟨rfl, hbh1⟩
  have hBh1 : Below U.heap.size U wh1 := below_step hBh0 hbh1
  have hSh1 : (fun w' : World => WtAt w' A 0 x ∧ WtAt w' B 0 y) wh1 := ⟨hA.keep (lA) hBh1, hB.keep (lB) hBh1⟩
  refine hK.out _ _ hSh1 ?_
  clear hK K
  refine held_one 7 rfl (by kernel_rfl) (by rfl) (fun K hK => ?_)
  go_simp
  go_at_call 41
  refine (hY.out wh1).mono ?_
  rintro e wh2 ⟨rfl, hbh2⟩
  have hBh2 : Below U.heap.size U wh2 := below_step hBh1 hbh2
  have hSh2 : (fun w' : World => WtAt w' A 0 x ∧ WtAt w' B 0 y) wh2 := ⟨hA.keep (lA) hBh2, hB.keep (lB) hBh2⟩
  refine hK.out _ _ hSh2 ?_
  clear hK K
  refine held_take (v := ?_) 8 9 rfl rfl (by kernel_rfl) (by kernel_rfl) (by kernel_rfl) (fun _ _ _ h => h) ⟨by rfl, ?_⟩ hSh2 ?_
  rotate_left
  · intro w' hw'; obtain ⟨x0, x1⟩ := hw'; go_simp; (try with_reducible rfl)
  simp only [Act.put, List.setIfInBounds_toArray, List.set_cons_zero, List.set_cons_succ]
  refine held_take (v := ?_) 9 10 rfl rfl (by kernel_rfl) (by kernel_rfl) (by kernel_rfl) (fun _ _ _ h => h) ⟨by rfl, ?_⟩ hSh2 ?_
  rotate_left
  · intro w' hw'; obtain ⟨x0, x1⟩ := hw'; go_simp; (try with_reducible rfl)
  simp only [Act.put, List.setIfInBounds_toArray, List.set_cons_zero, List.set_cons_succ]
  refine wpAnyH_done (by kernel_rfl) ?_ _
  have a9 : wh2.cell? ⟨A, 9, none⟩ = some (.int .i64 x.n) := (hA.keep lA hBh2) 9 _ rfl
  have a0 : wh2.cell? ⟨A, 0, none⟩ = some (.int .i64 x.id) := (hA.keep lA hBh2) 0 _ rfl
  have b9 : wh2.cell? ⟨B, 9, none⟩ = some (.int .i64 y.n) := (hB.keep lB hBh2) 9 _ rfl
  have b0 : wh2.cell? ⟨B, 0, none⟩ = some (.int .i64 y.id) := (hB.keep lB hBh2) 0 _ rfl
  have HB := Lib.hid (below_step hU hBh2)
  by_cases c1 : rx = ry
  · have t1 : (rx != ry) = false := by simpa using c1
    by_cases c2 : x.n = y.n
    · have t2 : (x.n != y.n) = false := by simpa using c2
      have HR1 := Lib.hid (show decide (x.id < y.id) = R by rw [HR.out, if_neg (by simpa using c1), if_neg (by simpa using c2)])
      clear c1 c2
      go_wp2
      go_ret
      exact ⟨by rw [← HR1.out]; first | rfl | (simp; done), HB.out⟩
    · have t2 : (x.n != y.n) = true := by simpa using c2
      have HR1 := Lib.hid (show decide (x.n < y.n) = R by rw [HR.out, if_neg (by simpa using c1), if_pos (by simpa using c2)])
      clear c1 c2
      go_wp2
      go_ret
      exact ⟨by rw [← HR1.out]; first | rfl | (simp; done), HB.out⟩
  · have t1 : (rx != ry) = true := by simpa using c1
    have HR1 := Lib.hid (show decide (ry < rx) = R by rw [HR.out, if_pos (by simpa using c1)])
    clear c1
    go_wp2
    go_ret
    exact ⟨by rw [← HR1.out]; first | rfl | (simp; done), HB.out⟩

end Go.Proofs.Ytdeniikaddlifaa
