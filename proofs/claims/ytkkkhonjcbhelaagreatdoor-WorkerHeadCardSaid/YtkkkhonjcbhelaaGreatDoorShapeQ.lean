import Derived.Test.YtkkkhonjcbhelaaGreatDoorShapeP
import Derived.Lib.SmallJoins
namespace Go.Proofs.YtkkkhonjcbhelaaGreatDoor
section
open Go.RowKit
namespace MM
theorem add_or' : ∀ {a b : Nat}, a &&& b = 0 → a + b = a ||| b := fun {a b} h => by
 induction a using Nat.strongRecOn generalizing b with
 | _ a ih =>
  by_cases h0 : a = 0
  ·subst h0; simp
  have hd := Nat.and_div_two (a := a) (b := b);have ho := Nat.or_div_two (a := a) (b := b);have h1 := @Nat.or_mod_two_eq_one a b;have h2 := @Nat.and_mod_two_eq_one a b;rw [h] at hd h2;have := ih (a / 2) (by omega) (b := b / 2) (by omega);omega
theorem low_in (x k i : Nat) (h : (low x k).testBit i = true) : x.testBit i = true := by
 unfold low at h;rw [testBit_ofu] at h;exact (units_mem.1 (List.mem_of_mem_take (of_decide_eq_true h))).2
theorem sub_low (x k : Nat) : sub x (low x k) + low x k = x := by
 rw [add_or' (Nat.eq_of_testBit_eq fun i => by
  rw [Nat.testBit_and, testBit_sub, Nat.zero_testBit]; cases (low x k).testBit i <;> simp)]
 refine Nat.eq_of_testBit_eq fun i => ?_
 rw [Nat.testBit_or, testBit_sub]
 cases h : (low x k).testBit i
 ·simp
 ·rw [low_in x k i h]; simp
end MM
set_option maxRecDepth 100000 in
set_option maxHeartbeats 2000000 in
theorem refpiece_few (g c : Nat) (mn mx n d : Int) (m : Nat) (k : Int) (w : World) (hm : m < 18446744073709551616) (hT : Tab w) (hf : MM.cnt m < g) :
  Calls Tryz.prog 44 #[.agg #[.int .i64 (g : Int), .int .i64 (c : Int), .int .i64 mn, .int .i64 mx], .agg #[.int .i64 n, .int .i64 d, .int .u64 (m : Nat), .int .i64 k]] w fun e w' => e = .returned (.tuple #[.agg #[.int .i64 0, .int .i64 0, .int .u64 0, .int .i64 0], .agg #[.int .i64 0, .int .i64 0, .int .u64 0, .int .i64 0], .int .i64 7]) ∧ Below w.heap.size w w' := by
 obtain ⟨W4, hW4⟩ := nx ((((w.alloc (.cells #[.int .i64 (g : Int), .int .i64 (c : Int), .int .i64 mn, .int .i64 mx] 32)).alloc (.cells #[.int .i64 n, .int .i64 d, .int .u64 (m : Nat), .int .i64 k] 63)).alloc (.cells #[.int .i64 0, .int .i64 0, .int .u64 0, .int .i64 0] 64)).alloc (.cells #[.int .i64 0, .int .i64 0, .int .u64 0, .int .i64 0] 63));have hBW4 : Below w.heap.size w W4 := by rw [hW4]; exact (((((Below.refl w.heap.size w).alloc (Nat.le_refl _) _).alloc (by simp <;> omega) _).alloc (by simp <;> omega) _).alloc (by simp <;> omega) _)
 have hzW4 : W4.heap.size = w.heap.size + 1 + 1 + 1 + 1 := by rw [hW4]; simp
 have b0W4 : W4.heap[w.heap.size]? = some (.cells #[.int .i64 (g : Int), .int .i64 (c : Int), .int .i64 mn, .int .i64 mx] 32 (0, 0)) := by
  have h9 := heap_alloc_new (w) (.cells #[.int .i64 (g : Int), .int .i64 (c : Int), .int .i64 mn, .int .i64 mx] 32);rw [hW4]; exact ((Below.heap_alloc _ _ _ (by simp <;> omega)).trans ((Below.heap_alloc _ _ _ (by simp <;> omega)).trans ((Below.heap_alloc _ _ _ (by simp <;> omega)).trans h9)))
 have b1W4 : W4.heap[w.heap.size + 1]? = some (.cells #[.int .i64 n, .int .i64 d, .int .u64 (m : Nat), .int .i64 k] 63 (0, 0)) := by
  have h9 := heap_alloc_new (w.alloc (.cells #[.int .i64 (g : Int), .int .i64 (c : Int), .int .i64 mn, .int .i64 mx] 32)) (.cells #[.int .i64 n, .int .i64 d, .int .u64 (m : Nat), .int .i64 k] 63);rw [World.size_alloc] at h9;rw [hW4]; exact ((Below.heap_alloc _ _ _ (by simp <;> omega)).trans ((Below.heap_alloc _ _ _ (by simp <;> omega)).trans h9))
 have b2W4 : W4.heap[w.heap.size + 1 + 1]? = some (.cells #[.int .i64 0, .int .i64 0, .int .u64 0, .int .i64 0] 64 (0, 0)) := by
  have h9 := heap_alloc_new ((w.alloc (.cells #[.int .i64 (g : Int), .int .i64 (c : Int), .int .i64 mn, .int .i64 mx] 32)).alloc (.cells #[.int .i64 n, .int .i64 d, .int .u64 (m : Nat), .int .i64 k] 63)) (.cells #[.int .i64 0, .int .i64 0, .int .u64 0, .int .i64 0] 64);rw [World.size_alloc, World.size_alloc] at h9;rw [hW4]; exact ((Below.heap_alloc _ _ _ (by simp <;> omega)).trans h9)
 have b3W4 : W4.heap[w.heap.size + 1 + 1 + 1]? = some (.cells #[.int .i64 0, .int .i64 0, .int .u64 0, .int .i64 0] 63 (0, 0)) := by
  have h9 := heap_alloc_new (((w.alloc (.cells #[.int .i64 (g : Int), .int .i64 (c : Int), .int .i64 mn, .int .i64 mx] 32)).alloc (.cells #[.int .i64 n, .int .i64 d, .int .u64 (m : Nat), .int .i64 k] 63)).alloc (.cells #[.int .i64 0, .int .i64 0, .int .u64 0, .int .i64 0] 64)) (.cells #[.int .i64 0, .int .i64 0, .int .u64 0, .int .i64 0] 63);rw [World.size_alloc, World.size_alloc, World.size_alloc] at h9;rw [hW4]; exact h9
 have HXW4 := Hq (Ai hBW4 (Ai b0W4 (Ai b1W4 (Ai b2W4 (b3W4)))));have HW4 := Hq hW4;have hwW4 : w.heap.size + 1 + 1 + 1 + 1 ≤ W4.heap.size := by omega
 have hTW := hT.below hBW4 hT.size;have hL := Hq (reflow_full m hm g hf W4 hTW);clear hT hTW hf hm;clear hW4 hBW4 hzW4 b0W4 b1W4 b2W4 b3W4;go_enter Tryz.func44, Tryz.ntmps44;go_wp2_with fail;rw [← HW4.out];have s0 : W4.cell? ⟨w.heap.size, 0, none⟩ = _ := cell_blk (i := 0) HXW4.out.2.1 rfl;have f2 : W4.cell? ⟨w.heap.size + 1, 2, none⟩ = _ := cell_blk (i := 2) HXW4.out.2.2.1 rfl;try go_wp2_with fail
 refine hL.out.mono ?_;rintro e w1 ⟨rfl, hst1, _⟩;have hb1 := hst1.below;have hs1 := hb1.size;have tB := (hb1.block _ (show w.heap.size < W4.heap.size by omega)).trans HXW4.out.2.1;have t0 : w1.cell? ⟨w.heap.size, 0, none⟩ = _ := cell_blk (i := 0) tB rfl;have t1 : w1.cell? ⟨w.heap.size, 1, none⟩ = _ := cell_blk (i := 1) tB rfl;have t2 : w1.cell? ⟨w.heap.size, 2, none⟩ = _ := cell_blk (i := 2) tB rfl;have t3 : w1.cell? ⟨w.heap.size, 3, none⟩ = _ := cell_blk (i := 3) tB rfl;clear tB;have hB := (hb1.block _ (show w.heap.size + 1 < W4.heap.size by omega)).trans HXW4.out.2.2.1;have h0 : w1.cell? ⟨w.heap.size + 1, 0, none⟩ = _ := cell_blk (i := 0) hB rfl;have h1 : w1.cell? ⟨w.heap.size + 1, 1, none⟩ = _ := cell_blk (i := 1) hB rfl;have h2 : w1.cell? ⟨w.heap.size + 1, 2, none⟩ = _ := cell_blk (i := 2) hB rfl;have h3 : w1.cell? ⟨w.heap.size + 1, 3, none⟩ = _ := cell_blk (i := 3) hB rfl;clear hB;have pB := (hb1.block _ (show w.heap.size + 1 + 1 < W4.heap.size by omega)).trans HXW4.out.2.2.2.1;have p0 : w1.cell? ⟨w.heap.size + 1 + 1, 0, none⟩ = _ := cell_blk (i := 0) pB rfl;have pz0 : w1.frozen? ⟨w.heap.size + 1 + 1, 0, none⟩ = _ := frozen_blk pB;have p1 : w1.cell? ⟨w.heap.size + 1 + 1, 1, none⟩ = _ := cell_blk (i := 1) pB rfl;have pz1 : w1.frozen? ⟨w.heap.size + 1 + 1, 1, none⟩ = _ := frozen_blk pB;have p2 : w1.cell? ⟨w.heap.size + 1 + 1, 2, none⟩ = _ := cell_blk (i := 2) pB rfl;have pz2 : w1.frozen? ⟨w.heap.size + 1 + 1, 2, none⟩ = _ := frozen_blk pB;have p3 : w1.cell? ⟨w.heap.size + 1 + 1, 3, none⟩ = _ := cell_blk (i := 3) pB rfl;have pz3 : w1.frozen? ⟨w.heap.size + 1 + 1, 3, none⟩ = _ := frozen_blk pB;clear pB;have rB := (hb1.block _ (show w.heap.size + 1 + 1 + 1 < W4.heap.size by omega)).trans HXW4.out.2.2.2.2;have r0 : w1.cell? ⟨w.heap.size + 1 + 1 + 1, 0, none⟩ = _ := cell_blk (i := 0) rB rfl;have rz0 : w1.frozen? ⟨w.heap.size + 1 + 1 + 1, 0, none⟩ = _ := frozen_blk rB;have r1 : w1.cell? ⟨w.heap.size + 1 + 1 + 1, 1, none⟩ = _ := cell_blk (i := 1) rB rfl;have rz1 : w1.frozen? ⟨w.heap.size + 1 + 1 + 1, 1, none⟩ = _ := frozen_blk rB;have r2 : w1.cell? ⟨w.heap.size + 1 + 1 + 1, 2, none⟩ = _ := cell_blk (i := 2) rB rfl;have rz2 : w1.frozen? ⟨w.heap.size + 1 + 1 + 1, 2, none⟩ = _ := frozen_blk rB;have r3 : w1.cell? ⟨w.heap.size + 1 + 1 + 1, 3, none⟩ = _ := cell_blk (i := 3) rB rfl;have rz3 : w1.frozen? ⟨w.heap.size + 1 + 1 + 1, 3, none⟩ = _ := frozen_blk rB;clear rB;clear s0 f2;go_wp2;refine bodyPost_ret (v := .tuple #[.agg #[.int .i64 0, .int .i64 0, .int .u64 0, .int .i64 0], .agg #[.int .i64 0, .int .i64 0, .int .u64 0, .int .i64 0], .int .i64 7]) (by simp [results, Tryz.results44, go_sem, p0, p1, p2, p3, r0, r1, r2, r3]) rfl ?_;exact ⟨rfl, ((((((((HXW4.out.1.trans (hb1.mono (by omega))).setCell (by simp <;> omega) _).setCell (by simp <;> omega) _).setCell (by simp <;> omega) _).setCell (by simp <;> omega) _).setCell (by simp <;> omega) _).setCell (by simp <;> omega) _).setCell (by simp <;> omega) _).setCell (by simp <;> omega) _⟩
set_option maxRecDepth 100000 in
set_option maxHeartbeats 2000000 in
theorem refpiece_less (g c : Nat) (mn mx n d : Int) (m : Nat) (k : Int) (w : World) (hm : m < 18446744073709551616) (hT : Tab w) (hf : g ≤ MM.cnt m) (hk : 0 ≤ k) (hkc : k < c) :
  Calls Tryz.prog 44 #[.agg #[.int .i64 (g : Int), .int .i64 (c : Int), .int .i64 mn, .int .i64 mx], .agg #[.int .i64 n, .int .i64 d, .int .u64 (m : Nat), .int .i64 k]] w fun e w' => e = .returned (.tuple #[.agg #[.int .i64 0, .int .i64 0, .int .u64 0, .int .i64 0], .agg #[.int .i64 0, .int .i64 0, .int .u64 0, .int .i64 0], .int .i64 7]) ∧ Below w.heap.size w w' := by
 obtain ⟨W4, hW4⟩ := nx ((((w.alloc (.cells #[.int .i64 (g : Int), .int .i64 (c : Int), .int .i64 mn, .int .i64 mx] 32)).alloc (.cells #[.int .i64 n, .int .i64 d, .int .u64 (m : Nat), .int .i64 k] 63)).alloc (.cells #[.int .i64 0, .int .i64 0, .int .u64 0, .int .i64 0] 64)).alloc (.cells #[.int .i64 0, .int .i64 0, .int .u64 0, .int .i64 0] 63));have hBW4 : Below w.heap.size w W4 := by rw [hW4]; exact (((((Below.refl w.heap.size w).alloc (Nat.le_refl _) _).alloc (by simp <;> omega) _).alloc (by simp <;> omega) _).alloc (by simp <;> omega) _)
 have hzW4 : W4.heap.size = w.heap.size + 1 + 1 + 1 + 1 := by rw [hW4]; simp
 have b0W4 : W4.heap[w.heap.size]? = some (.cells #[.int .i64 (g : Int), .int .i64 (c : Int), .int .i64 mn, .int .i64 mx] 32 (0, 0)) := by
  have h9 := heap_alloc_new (w) (.cells #[.int .i64 (g : Int), .int .i64 (c : Int), .int .i64 mn, .int .i64 mx] 32);rw [hW4]; exact ((Below.heap_alloc _ _ _ (by simp <;> omega)).trans ((Below.heap_alloc _ _ _ (by simp <;> omega)).trans ((Below.heap_alloc _ _ _ (by simp <;> omega)).trans h9)))
 have b1W4 : W4.heap[w.heap.size + 1]? = some (.cells #[.int .i64 n, .int .i64 d, .int .u64 (m : Nat), .int .i64 k] 63 (0, 0)) := by
  have h9 := heap_alloc_new (w.alloc (.cells #[.int .i64 (g : Int), .int .i64 (c : Int), .int .i64 mn, .int .i64 mx] 32)) (.cells #[.int .i64 n, .int .i64 d, .int .u64 (m : Nat), .int .i64 k] 63);rw [World.size_alloc] at h9;rw [hW4]; exact ((Below.heap_alloc _ _ _ (by simp <;> omega)).trans ((Below.heap_alloc _ _ _ (by simp <;> omega)).trans h9))
 have b2W4 : W4.heap[w.heap.size + 1 + 1]? = some (.cells #[.int .i64 0, .int .i64 0, .int .u64 0, .int .i64 0] 64 (0, 0)) := by
  have h9 := heap_alloc_new ((w.alloc (.cells #[.int .i64 (g : Int), .int .i64 (c : Int), .int .i64 mn, .int .i64 mx] 32)).alloc (.cells #[.int .i64 n, .int .i64 d, .int .u64 (m : Nat), .int .i64 k] 63)) (.cells #[.int .i64 0, .int .i64 0, .int .u64 0, .int .i64 0] 64);rw [World.size_alloc, World.size_alloc] at h9;rw [hW4]; exact ((Below.heap_alloc _ _ _ (by simp <;> omega)).trans h9)
 have b3W4 : W4.heap[w.heap.size + 1 + 1 + 1]? = some (.cells #[.int .i64 0, .int .i64 0, .int .u64 0, .int .i64 0] 63 (0, 0)) := by
  have h9 := heap_alloc_new (((w.alloc (.cells #[.int .i64 (g : Int), .int .i64 (c : Int), .int .i64 mn, .int .i64 mx] 32)).alloc (.cells #[.int .i64 n, .int .i64 d, .int .u64 (m : Nat), .int .i64 k] 63)).alloc (.cells #[.int .i64 0, .int .i64 0, .int .u64 0, .int .i64 0] 64)) (.cells #[.int .i64 0, .int .i64 0, .int .u64 0, .int .i64 0] 63);rw [World.size_alloc, World.size_alloc, World.size_alloc] at h9;rw [hW4]; exact h9
 have HXW4 := Hq (Ai hBW4 (Ai b0W4 (Ai b1W4 (Ai b2W4 (b3W4)))));have HW4 := Hq hW4;have hwW4 : w.heap.size + 1 + 1 + 1 + 1 ≤ W4.heap.size := by omega
 have hTW := hT.below hBW4 hT.size;have hL := Hq (reflow_t m hm g hf W4 hTW);have t1 : decide (k < 0) = false := decide_eq_false (by omega);have t2 : decide (k < (c : Int)) = true := decide_eq_true hkc;clear hT hTW hf hm hk hkc;clear hW4 hBW4 hzW4 b0W4 b1W4 b2W4 b3W4;go_enter Tryz.func44, Tryz.ntmps44;go_wp2_with fail;rw [← HW4.out];have s0 : W4.cell? ⟨w.heap.size, 0, none⟩ = _ := cell_blk (i := 0) HXW4.out.2.1 rfl;have f2 : W4.cell? ⟨w.heap.size + 1, 2, none⟩ = _ := cell_blk (i := 2) HXW4.out.2.2.1 rfl;try go_wp2_with fail
 refine hL.out.mono ?_;rintro e w1 ⟨rfl, hst1, _⟩;have hb1 := hst1.below;have hs1 := hb1.size;have tB := (hb1.block _ (show w.heap.size < W4.heap.size by omega)).trans HXW4.out.2.1;have t0 : w1.cell? ⟨w.heap.size, 0, none⟩ = _ := cell_blk (i := 0) tB rfl;have t1 : w1.cell? ⟨w.heap.size, 1, none⟩ = _ := cell_blk (i := 1) tB rfl;have t2 : w1.cell? ⟨w.heap.size, 2, none⟩ = _ := cell_blk (i := 2) tB rfl;have t3 : w1.cell? ⟨w.heap.size, 3, none⟩ = _ := cell_blk (i := 3) tB rfl;clear tB;have hB := (hb1.block _ (show w.heap.size + 1 < W4.heap.size by omega)).trans HXW4.out.2.2.1;have h0 : w1.cell? ⟨w.heap.size + 1, 0, none⟩ = _ := cell_blk (i := 0) hB rfl;have h1 : w1.cell? ⟨w.heap.size + 1, 1, none⟩ = _ := cell_blk (i := 1) hB rfl;have h2 : w1.cell? ⟨w.heap.size + 1, 2, none⟩ = _ := cell_blk (i := 2) hB rfl;have h3 : w1.cell? ⟨w.heap.size + 1, 3, none⟩ = _ := cell_blk (i := 3) hB rfl;clear hB;have pB := (hb1.block _ (show w.heap.size + 1 + 1 < W4.heap.size by omega)).trans HXW4.out.2.2.2.1;have p0 : w1.cell? ⟨w.heap.size + 1 + 1, 0, none⟩ = _ := cell_blk (i := 0) pB rfl;have pz0 : w1.frozen? ⟨w.heap.size + 1 + 1, 0, none⟩ = _ := frozen_blk pB;have p1 : w1.cell? ⟨w.heap.size + 1 + 1, 1, none⟩ = _ := cell_blk (i := 1) pB rfl;have pz1 : w1.frozen? ⟨w.heap.size + 1 + 1, 1, none⟩ = _ := frozen_blk pB;have p2 : w1.cell? ⟨w.heap.size + 1 + 1, 2, none⟩ = _ := cell_blk (i := 2) pB rfl;have pz2 : w1.frozen? ⟨w.heap.size + 1 + 1, 2, none⟩ = _ := frozen_blk pB;have p3 : w1.cell? ⟨w.heap.size + 1 + 1, 3, none⟩ = _ := cell_blk (i := 3) pB rfl;have pz3 : w1.frozen? ⟨w.heap.size + 1 + 1, 3, none⟩ = _ := frozen_blk pB;clear pB;have rB := (hb1.block _ (show w.heap.size + 1 + 1 + 1 < W4.heap.size by omega)).trans HXW4.out.2.2.2.2;have r0 : w1.cell? ⟨w.heap.size + 1 + 1 + 1, 0, none⟩ = _ := cell_blk (i := 0) rB rfl;have rz0 : w1.frozen? ⟨w.heap.size + 1 + 1 + 1, 0, none⟩ = _ := frozen_blk rB;have r1 : w1.cell? ⟨w.heap.size + 1 + 1 + 1, 1, none⟩ = _ := cell_blk (i := 1) rB rfl;have rz1 : w1.frozen? ⟨w.heap.size + 1 + 1 + 1, 1, none⟩ = _ := frozen_blk rB;have r2 : w1.cell? ⟨w.heap.size + 1 + 1 + 1, 2, none⟩ = _ := cell_blk (i := 2) rB rfl;have rz2 : w1.frozen? ⟨w.heap.size + 1 + 1 + 1, 2, none⟩ = _ := frozen_blk rB;have r3 : w1.cell? ⟨w.heap.size + 1 + 1 + 1, 3, none⟩ = _ := cell_blk (i := 3) rB rfl;have rz3 : w1.frozen? ⟨w.heap.size + 1 + 1 + 1, 3, none⟩ = _ := frozen_blk rB;clear rB;clear s0 f2;go_wp2;refine bodyPost_ret (v := .tuple #[.agg #[.int .i64 0, .int .i64 0, .int .u64 0, .int .i64 0], .agg #[.int .i64 0, .int .i64 0, .int .u64 0, .int .i64 0], .int .i64 7]) (by simp [results, Tryz.results44, go_sem, p0, p1, p2, p3, r0, r1, r2, r3]) rfl ?_;exact ⟨rfl, ((((((((HXW4.out.1.trans (hb1.mono (by omega))).setCell (by simp <;> omega) _).setCell (by simp <;> omega) _).setCell (by simp <;> omega) _).setCell (by simp <;> omega) _).setCell (by simp <;> omega) _).setCell (by simp <;> omega) _).setCell (by simp <;> omega) _).setCell (by simp <;> omega) _⟩
set_option maxRecDepth 100000 in
set_option maxHeartbeats 2000000 in
theorem refpiece_ok (g c : Nat) (mn mx n d : Int) (m k : Nat) (w : World) (hm : m < 18446744073709551616) (hk : k ≤ 9223372036854775807) (hT : Tab w) (hf : g ≤ MM.cnt m) (hkc : c ≤ k) :
  Calls Tryz.prog 44 #[.agg #[.int .i64 (g : Int), .int .i64 (c : Int), .int .i64 mn, .int .i64 mx], .agg #[.int .i64 n, .int .i64 d, .int .u64 (m : Nat), .int .i64 (k : Int)]] w fun e w' => e = .returned (.tuple #[.agg #[.int .i64 n, .int .i64 d, .int .u64 (MM.low m g : Nat), .int .i64 (c : Int)], .agg #[.int .i64 n, .int .i64 d, .int .u64 (MM.sub m (MM.low m g) : Nat), .int .i64 ((k - c : Nat) : Int)], .int .i64 0]) ∧ Below w.heap.size w w' := by
 obtain ⟨W4, hW4⟩ := nx ((((w.alloc (.cells #[.int .i64 (g : Int), .int .i64 (c : Int), .int .i64 mn, .int .i64 mx] 32)).alloc (.cells #[.int .i64 n, .int .i64 d, .int .u64 (m : Nat), .int .i64 (k : Int)] 63)).alloc (.cells #[.int .i64 0, .int .i64 0, .int .u64 0, .int .i64 0] 64)).alloc (.cells #[.int .i64 0, .int .i64 0, .int .u64 0, .int .i64 0] 63));have hBW4 : Below w.heap.size w W4 := by rw [hW4]; exact (((((Below.refl w.heap.size w).alloc (Nat.le_refl _) _).alloc (by simp <;> omega) _).alloc (by simp <;> omega) _).alloc (by simp <;> omega) _)
 have hzW4 : W4.heap.size = w.heap.size + 1 + 1 + 1 + 1 := by rw [hW4]; simp
 have b0W4 : W4.heap[w.heap.size]? = some (.cells #[.int .i64 (g : Int), .int .i64 (c : Int), .int .i64 mn, .int .i64 mx] 32 (0, 0)) := by
  have h9 := heap_alloc_new (w) (.cells #[.int .i64 (g : Int), .int .i64 (c : Int), .int .i64 mn, .int .i64 mx] 32);rw [hW4]; exact ((Below.heap_alloc _ _ _ (by simp <;> omega)).trans ((Below.heap_alloc _ _ _ (by simp <;> omega)).trans ((Below.heap_alloc _ _ _ (by simp <;> omega)).trans h9)))
 have b1W4 : W4.heap[w.heap.size + 1]? = some (.cells #[.int .i64 n, .int .i64 d, .int .u64 (m : Nat), .int .i64 (k : Int)] 63 (0, 0)) := by
  have h9 := heap_alloc_new (w.alloc (.cells #[.int .i64 (g : Int), .int .i64 (c : Int), .int .i64 mn, .int .i64 mx] 32)) (.cells #[.int .i64 n, .int .i64 d, .int .u64 (m : Nat), .int .i64 (k : Int)] 63);rw [World.size_alloc] at h9;rw [hW4]; exact ((Below.heap_alloc _ _ _ (by simp <;> omega)).trans ((Below.heap_alloc _ _ _ (by simp <;> omega)).trans h9))
 have b2W4 : W4.heap[w.heap.size + 1 + 1]? = some (.cells #[.int .i64 0, .int .i64 0, .int .u64 0, .int .i64 0] 64 (0, 0)) := by
  have h9 := heap_alloc_new ((w.alloc (.cells #[.int .i64 (g : Int), .int .i64 (c : Int), .int .i64 mn, .int .i64 mx] 32)).alloc (.cells #[.int .i64 n, .int .i64 d, .int .u64 (m : Nat), .int .i64 (k : Int)] 63)) (.cells #[.int .i64 0, .int .i64 0, .int .u64 0, .int .i64 0] 64);rw [World.size_alloc, World.size_alloc] at h9;rw [hW4]; exact ((Below.heap_alloc _ _ _ (by simp <;> omega)).trans h9)
 have b3W4 : W4.heap[w.heap.size + 1 + 1 + 1]? = some (.cells #[.int .i64 0, .int .i64 0, .int .u64 0, .int .i64 0] 63 (0, 0)) := by
  have h9 := heap_alloc_new (((w.alloc (.cells #[.int .i64 (g : Int), .int .i64 (c : Int), .int .i64 mn, .int .i64 mx] 32)).alloc (.cells #[.int .i64 n, .int .i64 d, .int .u64 (m : Nat), .int .i64 (k : Int)] 63)).alloc (.cells #[.int .i64 0, .int .i64 0, .int .u64 0, .int .i64 0] 64)) (.cells #[.int .i64 0, .int .i64 0, .int .u64 0, .int .i64 0] 63);rw [World.size_alloc, World.size_alloc, World.size_alloc] at h9;rw [hW4]; exact h9
 have HXW4 := Hq (Ai hBW4 (Ai b0W4 (Ai b1W4 (Ai b2W4 (b3W4)))));have HW4 := Hq hW4;have hwW4 : w.heap.size + 1 + 1 + 1 + 1 ≤ W4.heap.size := by omega
 have hTW := hT.below hBW4 hT.size;have hL := Hq (reflow_t m hm g hf W4 hTW);have hsl := MM.sub_low m g;obtain ⟨lo, hlo⟩ := nx (MM.low m g);obtain ⟨re, hre⟩ := nx (MM.sub m lo);rw [← hlo] at hL hsl ⊢;rw [← hre] at hsl ⊢;have hlm : lo ≤ m := by omega
 have e1 : (m : Int) - (lo : Int) = (re : Int) := by omega
 have e2 : (k : Int) - (c : Int) = ((k - c : Nat) : Int) := by omega
 have E := Hq (Ai e1 (Ai e2 (show wrap64 ((k - c : Nat) : Int) = ((k - c : Nat) : Int) from IntWalk.wrap64_in _ (by omega))));have t1 : decide ((k : Int) < 0) = false := decide_eq_false (by omega);have t2 : decide (k < c) = false := decide_eq_false (by omega);clear hT hTW hf hkc hlo hre hsl e1 e2;clear hW4 hBW4 hzW4 b0W4 b1W4 b2W4 b3W4;go_enter Tryz.func44, Tryz.ntmps44;go_wp2_with fail;rw [← HW4.out];have s0 : W4.cell? ⟨w.heap.size, 0, none⟩ = _ := cell_blk (i := 0) HXW4.out.2.1 rfl;have f2 : W4.cell? ⟨w.heap.size + 1, 2, none⟩ = _ := cell_blk (i := 2) HXW4.out.2.2.1 rfl;try go_wp2_with fail
 refine hL.out.mono ?_;rintro e w1 ⟨rfl, hst1, _⟩;have hb1 := hst1.below;have hs1 := hb1.size;have tB := (hb1.block _ (show w.heap.size < W4.heap.size by omega)).trans HXW4.out.2.1;have t0 : w1.cell? ⟨w.heap.size, 0, none⟩ = _ := cell_blk (i := 0) tB rfl;have t1 : w1.cell? ⟨w.heap.size, 1, none⟩ = _ := cell_blk (i := 1) tB rfl;have t2 : w1.cell? ⟨w.heap.size, 2, none⟩ = _ := cell_blk (i := 2) tB rfl;have t3 : w1.cell? ⟨w.heap.size, 3, none⟩ = _ := cell_blk (i := 3) tB rfl;clear tB;have hB := (hb1.block _ (show w.heap.size + 1 < W4.heap.size by omega)).trans HXW4.out.2.2.1;have h0 : w1.cell? ⟨w.heap.size + 1, 0, none⟩ = _ := cell_blk (i := 0) hB rfl;have h1 : w1.cell? ⟨w.heap.size + 1, 1, none⟩ = _ := cell_blk (i := 1) hB rfl;have h2 : w1.cell? ⟨w.heap.size + 1, 2, none⟩ = _ := cell_blk (i := 2) hB rfl;have h3 : w1.cell? ⟨w.heap.size + 1, 3, none⟩ = _ := cell_blk (i := 3) hB rfl;clear hB;have pB := (hb1.block _ (show w.heap.size + 1 + 1 < W4.heap.size by omega)).trans HXW4.out.2.2.2.1;have p0 : w1.cell? ⟨w.heap.size + 1 + 1, 0, none⟩ = _ := cell_blk (i := 0) pB rfl;have pz0 : w1.frozen? ⟨w.heap.size + 1 + 1, 0, none⟩ = _ := frozen_blk pB;have p1 : w1.cell? ⟨w.heap.size + 1 + 1, 1, none⟩ = _ := cell_blk (i := 1) pB rfl;have pz1 : w1.frozen? ⟨w.heap.size + 1 + 1, 1, none⟩ = _ := frozen_blk pB;have p2 : w1.cell? ⟨w.heap.size + 1 + 1, 2, none⟩ = _ := cell_blk (i := 2) pB rfl;have pz2 : w1.frozen? ⟨w.heap.size + 1 + 1, 2, none⟩ = _ := frozen_blk pB;have p3 : w1.cell? ⟨w.heap.size + 1 + 1, 3, none⟩ = _ := cell_blk (i := 3) pB rfl;have pz3 : w1.frozen? ⟨w.heap.size + 1 + 1, 3, none⟩ = _ := frozen_blk pB;clear pB;have rB := (hb1.block _ (show w.heap.size + 1 + 1 + 1 < W4.heap.size by omega)).trans HXW4.out.2.2.2.2;have r0 : w1.cell? ⟨w.heap.size + 1 + 1 + 1, 0, none⟩ = _ := cell_blk (i := 0) rB rfl;have rz0 : w1.frozen? ⟨w.heap.size + 1 + 1 + 1, 0, none⟩ = _ := frozen_blk rB;have r1 : w1.cell? ⟨w.heap.size + 1 + 1 + 1, 1, none⟩ = _ := cell_blk (i := 1) rB rfl;have rz1 : w1.frozen? ⟨w.heap.size + 1 + 1 + 1, 1, none⟩ = _ := frozen_blk rB;have r2 : w1.cell? ⟨w.heap.size + 1 + 1 + 1, 2, none⟩ = _ := cell_blk (i := 2) rB rfl;have rz2 : w1.frozen? ⟨w.heap.size + 1 + 1 + 1, 2, none⟩ = _ := frozen_blk rB;have r3 : w1.cell? ⟨w.heap.size + 1 + 1 + 1, 3, none⟩ = _ := cell_blk (i := 3) rB rfl;have rz3 : w1.frozen? ⟨w.heap.size + 1 + 1 + 1, 3, none⟩ = _ := frozen_blk rB;clear rB;have hBf := HXW4.out.1.trans (hb1.mono (by omega));have hwf : w.heap.size + 1 + 1 + 1 < w1.heap.size := by omega
 clear s0 f2 hst1 hb1 hs1;go_wp2;go_region;simp only [E.out.1, E.out.2.1, E.out.2.2];go_wp2;refine bodyPost_ret (v := .tuple #[.agg #[.int .i64 n, .int .i64 d, .int .u64 (lo : Nat), .int .i64 (c : Int)], .agg #[.int .i64 n, .int .i64 d, .int .u64 (re : Nat), .int .i64 ((k - c : Nat) : Int)], .int .i64 0]) (by simp [results, Tryz.results44, go_sem, p0, p1, p2, p3, r0, r1, r2, r3]) rfl ?_;exact ⟨rfl, ((((((((hBf.setCell (by simp <;> omega) _).setCell (by simp <;> omega) _).setCell (by simp <;> omega) _).setCell (by simp <;> omega) _).setCell (by simp <;> omega) _).setCell (by simp <;> omega) _).setCell (by simp <;> omega) _).setCell (by simp <;> omega) _).drew⟩
end
section
open Go.RowKit
theorem fit_at {g c u k j : Nat} (h0 : 0 < g + c) (hj : j ≤ 16) (h1 : g * j ≤ u) (h2 : c * j ≤ k) (h : j = 16 ∨ u < g * j + g ∨ k < c * j + c) : j = fitN g c u k := by
 unfold fitN tms;have a1 : g ≠ 0 → j ≤ u / g := fun h => by rw [Nat.le_div_iff_mul_le (by omega), Nat.mul_comm]; exact h1
 have a2 : c ≠ 0 → j ≤ k / c := fun h => by rw [Nat.le_div_iff_mul_le (by omega), Nat.mul_comm]; exact h2
 have b1 : u < g * j + g → g ≠ 0 ∧ u / g < j + 1 := fun h => by
  have : g ≠ 0 := by rintro rfl; omega
  exact ⟨this, by rw [Nat.div_lt_iff_lt_mul (by omega), Nat.succ_mul, Nat.mul_comm]; exact h⟩
 have b2 : k < c * j + c → c ≠ 0 ∧ k / c < j + 1 := fun h => by
  have : c ≠ 0 := by rintro rfl; omega
  exact ⟨this, by rw [Nat.div_lt_iff_lt_mul (by omega), Nat.succ_mul, Nat.mul_comm]; exact h⟩
 rcases h with rfl | h | h
 ·split <;> split <;> omega
 ·obtain ⟨c1, c2⟩ := b1 h;have := a1 c1;rw [if_neg c1]; split <;> omega
 ·obtain ⟨c1, c2⟩ := b2 h;have := a2 c1;rw [if_neg c1]; split <;> omega
set_option maxRecDepth 100000 in
set_option maxHeartbeats 2000000 in
theorem reffits_ok (g c : Nat) (mn mx n d : Int) (m k : Nat) (w : World) (hw : Shp.Wf ⟨g, c, mn, mx⟩) (hok : Shp.ok ⟨g, c, mn, mx⟩ = true) (hm : m < 18446744073709551616) (hT : Tab w) (hk : k ≤ 9223372036854775807) :
  Calls Tryz.prog 29 #[.agg #[.int .i64 (g : Int), .int .i64 (c : Int), .int .i64 mn, .int .i64 mx], .agg #[.int .i64 n, .int .i64 d, .int .u64 (m : Nat), .int .i64 (k : Int)]] w fun e w' => e = .returned (.int .i64 (fitN g c (MM.cnt m) k : Nat)) ∧ Below w.heap.size w w' := by
 obtain ⟨ga, ca, hga, hca, hg16, hc16, hgc⟩ := Shp.nat hok;obtain rfl : g = ga := by omega
 obtain rfl : c = ca := by omega
 have hu := MM.cnt_le m;have hR := Hq (fun W => refright_any g c mn mx W hw);rw [hok] at hR;have hPok := Hq (fun (mj kj : Nat) W (hm : mj < 18446744073709551616) (hk : kj ≤ 9223372036854775807) (hT : Tab W) (hf : g ≤ MM.cnt mj) (hkc : c ≤ kj) => refpiece_ok g c mn mx n d mj kj W hm hk hT hf hkc);have hPno := Hq (fun (mj kj : Nat) W (hm : mj < 18446744073709551616) (hT : Tab W) (h : ¬ (g ≤ MM.cnt mj ∧ c ≤ kj)) => show Calls Tryz.prog 44 #[.agg #[.int .i64 (g : Int), .int .i64 (c : Int), .int .i64 mn, .int .i64 mx], .agg #[.int .i64 n, .int .i64 d, .int .u64 (mj : Nat), .int .i64 (kj : Int)]] W _ from (by
  by_cases hf : MM.cnt mj < g
  ·exact refpiece_few g c mn mx n d mj kj W hm hT hf
  ·exact refpiece_less g c mn mx n d mj kj W hm hT (by omega) (by omega) (by omega)))
 obtain ⟨q, hq⟩ := nx (fitN g c (MM.cnt m) k);rw [← hq];obtain ⟨W2, hW2⟩ := nx ((w.alloc (.cells #[.int .i64 (g : Int), .int .i64 (c : Int), .int .i64 mn, .int .i64 mx] 32)).alloc (.cells #[.int .i64 n, .int .i64 d, .int .u64 (m : Nat), .int .i64 (k : Int)] 63));have hBW2 : Below w.heap.size w W2 := by rw [hW2]; exact (((Below.refl w.heap.size w).alloc (Nat.le_refl _) _).alloc (by simp <;> omega) _)
 have hzW2 : W2.heap.size = w.heap.size + 1 + 1 := by rw [hW2]; simp
 have b0W2 : W2.heap[w.heap.size]? = some (.cells #[.int .i64 (g : Int), .int .i64 (c : Int), .int .i64 mn, .int .i64 mx] 32 (0, 0)) := by
  have h9 := heap_alloc_new (w) (.cells #[.int .i64 (g : Int), .int .i64 (c : Int), .int .i64 mn, .int .i64 mx] 32);rw [hW2]; exact ((Below.heap_alloc _ _ _ (by simp <;> omega)).trans h9)
 have b1W2 : W2.heap[w.heap.size + 1]? = some (.cells #[.int .i64 n, .int .i64 d, .int .u64 (m : Nat), .int .i64 (k : Int)] 63 (0, 0)) := by
  have h9 := heap_alloc_new (w.alloc (.cells #[.int .i64 (g : Int), .int .i64 (c : Int), .int .i64 mn, .int .i64 mx] 32)) (.cells #[.int .i64 n, .int .i64 d, .int .u64 (m : Nat), .int .i64 (k : Int)] 63);rw [World.size_alloc] at h9;rw [hW2]; exact h9
 have HXW2 := Hq (Ai hBW2 (Ai b0W2 (b1W2)));have HW2 := Hq hW2;have hwW2 : w.heap.size + 1 + 1 ≤ W2.heap.size := by omega
 have hTW := hT.below hBW2 hT.size;have HT := Hq (Ai hTW (Ai hT.size (Ai hT (Ai hq (Ai hm (Ai hu (Ai hgc hk)))))));clear hw hok hT hTW hq hm hu hga hca hgc;clear hW2 hBW2 hzW2 b0W2 b1W2;go_enter Tryz.func29, Tryz.ntmps29;go_wp2_with fail;rw [← HW2.out];refine (hR.out _).mono ?_;rintro e w1 ⟨rfl, hb1⟩;have hs1 := hb1.size;have HB1 := Hq hb1;clear hb1;go_wp2;go_loopw [5] (fun i wr => ∃ j : Nat, i = .int .i64 j ∧ j ≤ 16 ∧ W2.heap.size ≤ wr.heap.size ∧ Hid (Below w.heap.size w wr ∧ wr.heap[w.heap.size]? = some (.cells #[.int .i64 (g : Int), .int .i64 (c : Int), .int .i64 mn, .int .i64 mx] 32 (0, 0)) ∧ ∃ mj kj : Nat, wr.heap[w.heap.size + 1]? = some (.cells #[.int .i64 n, .int .i64 d, .int .u64 (mj : Nat), .int .i64 (kj : Int)] 63 (0, 0)) ∧ mj < 18446744073709551616 ∧ MM.cnt mj + g * j = MM.cnt m ∧ kj + c * j = k)) (fun i _ => 16 - (intOf i).toNat)
 case atStart => exact ⟨0, rfl, by omega, hs1, Hq ⟨HXW2.out.1.trans (HB1.out.mono (by omega)), (HB1.out.block _ (by omega)).trans HXW2.out.2.1, m, k, (HB1.out.block _ (by omega)).trans HXW2.out.2.2, HT.out.2.2.2.2.1, by simp, by simp⟩⟩
 case round =>
  obtain ⟨j, rfl, hj, hsz, hin⟩ := hrel;obtain ⟨hB, k0, mj, kj, k1, hmj, hcm, hck⟩ := hin.out;have hTr : Tab wr := HT.out.2.2.1.below hB HT.out.2.2.1.size;have s0 : wr.cell? ⟨w.heap.size, 0, none⟩ = _ := cell_blk (i := 0) k0 rfl;have s1 : wr.cell? ⟨w.heap.size, 1, none⟩ = _ := cell_blk (i := 1) k0 rfl;have s2 : wr.cell? ⟨w.heap.size, 2, none⟩ = _ := cell_blk (i := 2) k0 rfl;have s3 : wr.cell? ⟨w.heap.size, 3, none⟩ = _ := cell_blk (i := 3) k0 rfl;have f0 : wr.cell? ⟨w.heap.size + 1, 0, none⟩ = _ := cell_blk (i := 0) k1 rfl;have f1 : wr.cell? ⟨w.heap.size + 1, 1, none⟩ = _ := cell_blk (i := 1) k1 rfl;have f2 : wr.cell? ⟨w.heap.size + 1, 2, none⟩ = _ := cell_blk (i := 2) k1 rfl;have f3 : wr.cell? ⟨w.heap.size + 1, 3, none⟩ = _ := cell_blk (i := 3) k1 rfl;by_cases hlt : j < 16
  ·have t0 : decide ((j : Int) < 16) = true := decide_eq_true (by omega);by_cases hp : g ≤ MM.cnt mj ∧ c ≤ kj
   ·have hC := Hq (hPok.out mj kj wr hmj (by omega) hTr hp.1 hp.2);obtain ⟨lo, hlo⟩ := nx (MM.low mj g);obtain ⟨re, hre⟩ := nx (MM.sub mj lo);have hrc : MM.cnt re = MM.cnt mj - g := by rw [hre, hlo]; exact MM.cnt_rest mj g
    have hrl : re < 18446744073709551616 := by rw [hre]; exact MM.sub_lt _ hmj
    rw [← hlo, ← hre] at hC;have hN := Hq (show MM.cnt re + g * (j + 1) = MM.cnt m ∧ (kj - c) + c * (j + 1) = k ∧ re < 18446744073709551616 from ⟨by rw [hrc, Nat.mul_succ]; omega, by rw [Nat.mul_succ]; omega, hrl⟩);have HK := Hq (Ai hB (Ai k0 k1));clear hB k0 k1 hmj hcm hck hTr hin hp hlo hre hrc hrl;go_wp2_with fail;refine hC.out.mono ?_;rintro e w2 ⟨rfl, hb2⟩;have hs2 := hb2.size;have z0 : w2.cell? ⟨w.heap.size + 1, 0, none⟩ = _ := ck hb2 f0;have z1 : w2.cell? ⟨w.heap.size + 1, 1, none⟩ = _ := ck hb2 f1;have z2 : w2.cell? ⟨w.heap.size + 1, 2, none⟩ = _ := ck hb2 f2;have z3 : w2.cell? ⟨w.heap.size + 1, 3, none⟩ = _ := ck hb2 f3;have y0 : w2.frozen? ⟨w.heap.size + 1, 0, none⟩ = false := frozen_blk ((hb2.block _ (by omega)).trans HK.out.2.2);have y1 : w2.frozen? ⟨w.heap.size + 1, 1, none⟩ = false := frozen_blk ((hb2.block _ (by omega)).trans HK.out.2.2);have y2 : w2.frozen? ⟨w.heap.size + 1, 2, none⟩ = false := frozen_blk ((hb2.block _ (by omega)).trans HK.out.2.2);have y3 : w2.frozen? ⟨w.heap.size + 1, 3, none⟩ = false := frozen_blk ((hb2.block _ (by omega)).trans HK.out.2.2);have l1 : w.heap.size + 1 < w2.heap.size := (by omega);have l2 : w.heap.size + 1 < w2.heap.size + 1 := (by omega);clear s0 s1 s2 s3 f0 f1 f2 f3;go_wp2;refine ⟨⟨j + 1, by go_num, by omega, by simp <;> omega, Hq ⟨?_, ?_, re, kj - c, ?_, hN.out.2.2, hN.out.1, hN.out.2.1⟩⟩, by simp [intOf] <;> omega⟩
    ·exact ((((((HK.out.1.trans (hb2.mono (by omega))).setCell (by simp <;> omega) _).setCell (by simp <;> omega) _).setCell (by simp <;> omega) _).setCell (by simp <;> omega) _).alloc (by simp <;> omega) _).alloc (by simp <;> omega) _
    ·exact (Below.heap_alloc _ _ _ (by simp <;> omega)).trans ((Below.heap_alloc _ _ _ (by simp <;> omega)).trans ((Below.heap_setCell _ _ _ _ (by simp <;> omega)).trans ((Below.heap_setCell _ _ _ _ (by simp <;> omega)).trans ((Below.heap_setCell _ _ _ _ (by simp <;> omega)).trans ((Below.heap_setCell _ _ _ _ (by simp <;> omega)).trans ((hb2.block _ (by omega)).trans HK.out.2.1))))))
    ·have hbk := (hb2.block (w.heap.size + 1) (by omega)).trans HK.out.2.2;have := blk_put (i := 3) (.int .i64 ((kj - c : Nat) : Int)) (blk_put (i := 2) (.int .u64 (re : Nat)) (blk_put (i := 1) (.int .i64 d) (blk_put (i := 0) (.int .i64 n) hbk)));exact (Below.heap_alloc _ _ _ (by simp <;> omega)).trans ((Below.heap_alloc _ _ _ (by simp <;> omega)).trans (by simpa using this))
   ·have hC := Hq (hPno.out mj kj wr hmj hTr hp);have e : j = q := by
     rw [HT.out.2.2.2.1];exact fit_at HT.out.2.2.2.2.2.2.1 hj (by omega) (by omega) (by omega)
    subst e;have HB := Hq hB;clear hB k0 k1 hmj hcm hck hTr hin hp;go_wp2_with fail;refine hC.out.mono ?_;rintro e w2 ⟨rfl, hb2⟩;have hs2 := hb2.size;clear s0 s1 s2 s3 f0 f1 f2 f3;go_wp2
    go_ret
    exact ⟨rfl, ((HB.out.trans (hb2.mono (by omega))).alloc (by omega) _).alloc (by simp <;> omega) _⟩
  ·have e : j = q := by
    rw [HT.out.2.2.2.1];exact fit_at HT.out.2.2.2.2.2.2.1 hj (by omega) (by omega) (by omega)
   subst e;have t0 : decide ((j : Int) < 16) = false := decide_eq_false (by omega);have HB := Hq hB;clear hB k0 k1 hmj hcm hck hTr hin hlt;go_wp2
   go_ret
   exact ⟨rfl, HB.out⟩
end
set_option maxRecDepth 100000
section
open Go.ChangeShapes Go.WideShapes Go.ChangeAt Go.RowKit Go.Deep
inductive Sh where
 | int (k : IntKind) : Sh
 | bool : Sh
 | str : Sh
 | slice (e : Sh) : Sh
 | struct (f : Sh) : Sh
 | nil : Sh
 | cons (f r : Sh) : Sh
def Sh.size : Sh → Nat
 | .int _ => 1
 | .bool => 1
 | .str => 1
 | .slice _ => 1
 | .struct f => f.size
 | .nil => 0
 | .cons f r => f.size + r.size
def Sh.Holds (w : World) (B : Nat) : Sh → List Value → Prop
 | .int k, cs => ∃ n : Int, cs = [.int k n] ∧ (Lit.int k n).wf = true
 | .bool, cs => ∃ b : Bool, cs = [.bool b]
 | .str, cs => ∃ s : ByteArray, cs = [.string s] ∧ s.size ≤ maxLen
 | .slice e, cs => ∃ (A : Option Addr) (len c : Nat), cs = [.slice A len c] ∧ len ≤ c ∧ c ≤ maxLen ∧
   (len = 0 ∨ ∃ b off, A = some ⟨b, off, none⟩ ∧ b < B ∧ ∀ i, i < len → ∃ cs', cs'.length = e.size ∧ (∀ j, j < e.size → w.cell? ⟨b, off + i * e.size + j, none⟩ = cs'[j]?) ∧ Sh.Holds w B e cs')
 | .struct f, cs => Sh.Holds w B f cs
 | .nil, cs => cs = []
 | .cons f r, cs => Sh.Holds w B f (cs.take f.size) ∧ Sh.Holds w B r (cs.drop f.size)
def Sh.fit (P : Program) : Sh → TypeId ⊕ (List Field × Nat) → Bool
 | .int k, .inl t => match P.underlying t with
  | some (.int k') => decide (k' = k)
  | _ => false
 | .bool, .inl t => match P.underlying t with
  | some .bool => true
  | _ => false
 | .str, .inl t => match P.underlying t with
  | some .string => true
  | _ => false
 | .slice e, .inl t => match P.underlying t with
  | some (.slice te) => decide (0 < e.size) && (decide (P.cellsOf te = e.size) && e.fit P (.inl te))
  | _ => false
 | .struct f, .inl t => match P.underlying t with
  | some (.struct fs) => decide (P.cellsOf t = f.size) && f.fit P (.inr (fs.toList, 0))
  | _ => false
 | .nil, .inr (fs, _) => fs.isEmpty
 | .cons f r, .inr (fld :: fs, o) => decide (fld.offset = o) && (decide (P.cellsOf fld.type = f.size) && (f.fit P (.inl fld.type) && r.fit P (.inr (fs, o + f.size))))
 | _, _ => false
section
variable {H : Type} {enc : TypeId × Value → H} {P : Program} {w : World} {held : Bool}
theorem addr_plain {x : Addr} {v : Value} (h : w.cell? (x.add 0) = some v) : ∃ b off, x = ⟨b, off, none⟩ := by
 obtain ⟨b, off, spot⟩ := x;have : spot = none := by simpa [Addr.add] using World.cell?_spot h
 subst this;exact ⟨b, off, rfl⟩
theorem Sh.reads (sh : Sh) :
  (∀ (t : TypeId) (fuel : Nat) (cs : List Value) (x : DataW H × List MemPlace), sh.fit P (.inl t) = true → DataW.trod enc P w 0 (fun _ => true) held fuel t cs = some x → sh.Holds w w.heap.size cs) ∧
  (∀ (fs : List Field) (o n : Nat) (cs : List Value), sh.fit P (.inr (fs, o)) = true → cs.length = o + sh.size →
   (∀ (i : Nat) (f : Field), fs[i]? = some f → ∃ y, DataW.trod enc P w 0 (fun _ => true) held n f.type ((cs.drop f.offset).take (P.cellsOf f.type)) = some y) → sh.Holds w w.heap.size (cs.drop o)) := by
 induction sh with
 | int k =>
  refine ⟨fun t fuel cs x hf h => ?_, fun fs o n cs hf => by simp [Sh.fit] at hf⟩;unfold Sh.fit at hf
  split at hf
  ·rename_i hu
   obtain rfl := of_decide_eq_true hf;obtain ⟨n, e, _, hw⟩ := DataW.trod_int hu h;exact ⟨n, e, hw⟩
  ·cases hf
 | bool =>
  refine ⟨fun t fuel cs x hf h => ?_, fun fs o n cs hf => by simp [Sh.fit] at hf⟩;unfold Sh.fit at hf
  split at hf
  ·rename_i hu
   obtain ⟨b, e, _⟩ := DataW.trod_bool hu h;exact ⟨b, e⟩
  ·cases hf
 | str =>
  refine ⟨fun t fuel cs x hf h => ?_, fun fs o n cs hf => by simp [Sh.fit] at hf⟩;unfold Sh.fit at hf
  split at hf
  ·rename_i hu
   obtain ⟨s, e, _, hs⟩ := DataW.trod_string hu h;exact ⟨s, e, hs⟩
  ·cases hf
 | slice e ih =>
  refine ⟨fun t fuel cs x hf h => ?_, fun fs o n cs hf => by simp [Sh.fit] at hf⟩;unfold Sh.fit at hf
  split at hf
  ·rename_i te hu
   simp only [Bool.and_eq_true, decide_eq_true_eq] at hf;obtain ⟨h0, h1, h2⟩ := hf;rcases open_slice hu h with ⟨e1, _⟩ | ⟨x, len, cap, m, n, D, Pl, e1, _, hl, hm, hmm, _, hx⟩
   ·exact ⟨none, 0, 0, e1, Nat.le_refl _, Nat.zero_le _, .inl rfl⟩
   ·refine ⟨some x, len, cap, e1, hl, hm, ?_⟩;simp at hmm;rw [h1] at hx;by_cases hz : len = 0
    ·exact .inl hz
    right;obtain ⟨b, off, rfl⟩ : ∃ b off, x = ⟨b, off, none⟩ := by
     obtain ⟨cs0, hc0, _⟩ := hx 0 (by omega);obtain ⟨_, hlen, hat⟩ := World.cells?_some hc0;have := hat 0 h0;rw [List.getElem?_eq_getElem (by omega)] at this;rw [Nat.zero_mul] at this;exact addr_plain (x := x) (by simpa [Addr.add] using this)
    have hb : b < w.heap.size := by
     obtain ⟨cs0, hc0, _⟩ := hx 0 (by omega);obtain ⟨_, hlen, hat⟩ := World.cells?_some hc0;have := hat 0 h0;rw [List.getElem?_eq_getElem (by omega)] at this;exact lt_of_cell (off := off) (by simpa [Addr.add] using this)
    refine ⟨b, off, rfl, hb, fun i hi => ?_⟩;obtain ⟨cs0, hc0, ht⟩ := hx i (by omega);obtain ⟨_, hlen, hat⟩ := World.cells?_some hc0;exact ⟨cs0, hlen, fun j hj => by have := hat j hj; rw [Addr.add_lit, Addr.add_lit] at this; exact this, ih.1 te n cs0 _ h2 ht⟩
  ·cases hf
 | struct f ih =>
  refine ⟨fun t fuel cs x hf h => ?_, fun fs o n cs hf => by simp [Sh.fit] at hf⟩;unfold Sh.fit at hf
  split at hf
  ·rename_i fs hu
   simp only [Bool.and_eq_true, decide_eq_true_eq] at hf;obtain ⟨xs, n, _, _, hlen, hxs, hat⟩ := DataW.trod_struct hu h;have := ih.2 fs.toList 0 n cs hf.2 (by rw [hlen, hf.1]; omega) (fun i fld hi => by
    have hi' : fs[i]? = some fld := by simpa using hi
    have hil := (Array.getElem?_eq_some_iff.1 hi').1;refine ⟨xs[i]'(by omega), ?_⟩;rw [hat i fld hi'];exact List.getElem?_eq_getElem _)
   simpa [Sh.Holds] using this
  ·cases hf
 | nil =>
  refine ⟨fun t fuel cs x hf => by simp [Sh.fit] at hf, fun fs o n cs _ hl _ => ?_⟩;simp only [Sh.size] at hl;exact List.drop_eq_nil_of_le (by omega)
 | cons f r ihf ihr =>
  refine ⟨fun t fuel cs x hf => by simp [Sh.fit] at hf, fun fs o n cs hf hl hat => ?_⟩
  match fs, hf with
  | fld :: fs, hf =>
   simp only [Sh.fit, Bool.and_eq_true, decide_eq_true_eq] at hf;obtain ⟨e1, e2, e3, e4⟩ := hf;obtain ⟨y, hy⟩ := hat 0 fld rfl;rw [e1, e2] at hy;refine ⟨ihf.1 _ _ _ _ e3 hy, ?_⟩;have := ihr.2 fs (o + f.size) n cs e4 (by simp only [Sh.size] at hl; omega) (fun i g hi => hat (i + 1) g (by simpa using hi))
   rwa [List.drop_drop]
theorem arg_struct {r : Reach} {b0 : Nat} {t : TypeId} {v : Value} {d : DataW H} {p : List MemPlace} {sh : Sh} {fs : Array Field} (hu : P.underlying t = some (.struct fs)) (hfit : sh.fit P (.inl t) = true) (hv : Value.okWide P w r b0 t v)
  (h : DataW.Trod enc P w 0 (fun _ => true) held t v d p) : ∃ cs : List Value, v = .agg cs.toArray ∧ cs.length = P.cellsOf t ∧ sh.Holds w w.heap.size cs := by
 obtain ⟨cs, rfl, hsz⟩ := okWide_struct hu hv;obtain ⟨fuel, hf⟩ := h;exact ⟨cs.toList, by simp, by simpa using hsz, (Sh.reads sh).1 t fuel cs.toList _ hfit (by simpa [Value.cells] using hf)⟩
end
theorem rows_of {α : Type} {w : World} {B : Nat} {e : Sh} {v : Value} {p : Nat → Nat → α → Prop} {q : α → Prop} (h : (Sh.slice e).Holds w B [v])
  (lift : ∀ b o cs, b < B → cs.length = e.size → (∀ j u, cs[j]? = some u → w.cell? ⟨b, o + j, none⟩ = some u) → e.Holds w B cs → ∃ a : α, p b o a ∧ q a) :
  ∃ (A : Option Addr) (c : Nat) (l : List α), v = .slice A l.length c ∧ l.length ≤ c ∧ c ≤ maxLen ∧ Rows B A p e.size l ∧ ∀ a ∈ l, q a := by
 obtain ⟨A, len, c, e1, hl, hm, hr⟩ := h;simp at e1;subst e1;by_cases h0 : len = 0
 ·subst h0;exact ⟨A, c, [], rfl, Nat.zero_le _, hm, .inl rfl, by simp⟩
 rcases hr with hr | ⟨b, off, rfl, hb, hx⟩
 ·exact absurd hr h0
 have hall : ∀ i, i < len → ∃ a : α, p b (off + i * e.size) a ∧ q a := fun i hi => by
  obtain ⟨cs, hlen, hat, hh⟩ := hx i hi;exact lift b _ cs hb hlen (fun j u hj => by rw [hat j (by rw [← hlen]; exact (List.getElem?_eq_some_iff.1 hj).1), hj]) hh
 obtain ⟨a0, _⟩ := hall 0 (by omega);have hch : ∀ i, ∃ a : α, i < len → p b (off + i * e.size) a ∧ q a := fun i => by
  by_cases hi : i < len
  ·obtain ⟨a, ha⟩ := hall i hi; exact ⟨a, fun _ => ha⟩
  ·exact ⟨a0, fun h => absurd h hi⟩
 let f := fun i => Classical.choose (hch i)
 have hf : ∀ i, i < len → p b (off + i * e.size) (f i) ∧ q (f i) := fun i hi => Classical.choose_spec (hch i) hi
 have hget : ∀ i x, ((List.range len).map f)[i]? = some x → i < len ∧ x = f i := fun i x hi => by
  rw [List.getElem?_map] at hi;obtain ⟨j, hj, rfl⟩ := Option.map_eq_some_iff.1 hi;obtain ⟨hjl, hj2⟩ := List.getElem?_eq_some_iff.1 hj;simp at hjl hj2;subst hj2;exact ⟨hjl, rfl⟩
 refine ⟨_, c, (List.range len).map f, by simp, by simpa using hl, hm, .inr ⟨b, off, rfl, hb, fun i x hi => ?_⟩, fun x hx => ?_⟩
 ·obtain ⟨hil, rfl⟩ := hget i x hi;exact (hf i hil).1
 ·obtain ⟨i, hi⟩ := List.mem_iff_getElem?.1 hx;obtain ⟨hil, rfl⟩ := hget i x hi;exact (hf i hil).2
end
set_option maxRecDepth 100000
section
open Go.ChangeShapes Go.WideShapes Go.ChangeAt Go.RowKit Go.Deep
section
variable {H : Type} {enc : TypeId × Value → H} {w : World} {held : Bool} {r : Reach} {b0 : Nat} {v : Value} {d : DataW H} {p : List MemPlace}
end
end
section
open Go.RowKit
end
section
open Go.RowKit
def TellsFits (f : FuncId) (g c : Nat) (mn mx x y : Int) (m : Nat) (k : Int) (w : World) (N : Nat) : Prop := ∀ W, Below w.heap.size w W →
 Calls Tryz.prog f #[.agg #[.int .i64 (g : Int), .int .i64 (c : Int), .int .i64 mn, .int .i64 mx], .agg #[.int .i64 x, .int .i64 y, .int .u64 (m : Nat), .int .i64 k]] W fun e w' => e = .returned (.int .i64 (N : Nat)) ∧ Below W.heap.size W w'
end
section
open Go.RowKit
namespace MM
end MM
def fitZ (g c u : Nat) (k : Int) : Nat := if k < 0 then 0 else fitN g c u k.toNat
theorem tms_more {n a b : Nat} (h : a ≤ b) : tms n a ≤ tms n b := by
 unfold tms; split
 ·omega
 ·exact Nat.div_le_div_right h
theorem fitZ_le (g c u : Nat) (k : Int) : fitZ g c u k ≤ 16 := by
 unfold fitZ; split
 ·omega
 ·exact fit_le _ _ _ _
theorem fitZ_more {g c u u' : Nat} {k k' : Int} (h : u ≤ u') (hk : k ≤ k') : fitZ g c u k ≤ fitZ g c u' k' := by
 unfold fitZ;by_cases h0 : k < 0
 ·rw [if_pos h0]; omega
 ·rw [if_neg h0, if_neg (by omega)];unfold fitN;have h1 := tms_more (n := g) h;have h2 := tms_more (n := c) (show k.toNat ≤ k'.toNat by omega);omega
theorem fits_tell (g c : Nat) (mn mx x y : Int) (m : Nat) (k : Int) (w : World) (w0 : Shp.Wf ⟨g, c, mn, mx⟩) (hok : Shp.ok ⟨g, c, mn, mx⟩ = true) (wm : m < 18446744073709551616) (wk : (Lit.int .i64 k).wf = true) (hT : Tab w) :
  TellsFits 67 g c mn mx x y m k w (fitZ g c (MM.cnt m) k) := by
 obtain ⟨d1, d2⟩ := bounds_i64 wk;intro W hW;unfold fitZ;by_cases hk : k < 0
 ·rw [if_pos hk]; exact fits_neg g c mn mx x y m k W w0 hok hk
 ·rw [if_neg hk];obtain ⟨q, rfl⟩ : ∃ q : Nat, k = q := ⟨k.toNat, by omega⟩
  exact fits_ok g c mn mx x y m q W w0 hok wm (by omega) (hT.below hW hT.size)
end
end Go.Proofs.YtkkkhonjcbhelaaGreatDoor
