/- The document's answers on shapes: Piece. -/
import Derived.RegionTactic
import Derived.BigRegion
import Derived.Test.YteflblcbmkcidaaDoorMaskRefL
import Derived.Test.YteflblcbmkcidaaDoorShapeRef
namespace Go.Proofs.YteflblcbmkcidaaDoor
open Go.RowKit

namespace MM
theorem add_or' : ∀ {a b : Nat}, a &&& b = 0 → a + b = a ||| b := fun {a b} h => by
  induction a using Nat.strongRecOn generalizing b with
  | _ a ih =>
    by_cases h0 : a = 0
    · subst h0; simp
    have hd := Nat.and_div_two (a := a) (b := b)
    have ho := Nat.or_div_two (a := a) (b := b)
    have h1 := @Nat.or_mod_two_eq_one a b
    have h2 := @Nat.and_mod_two_eq_one a b
    rw [h] at hd h2
    have := ih (a / 2) (by omega) (b := b / 2) (by omega)
    omega
theorem low_in (x k i : Nat) (h : (low x k).testBit i = true) : x.testBit i = true := by
  unfold low at h
  rw [testBit_ofu] at h
  exact (units_mem.1 (List.mem_of_mem_take (of_decide_eq_true h))).2
/-- A mask less its lowest units, as numbers. -/
theorem sub_low (x k : Nat) : sub x (low x k) + low x k = x := by
  rw [add_or' (Nat.eq_of_testBit_eq fun i => by
    rw [Nat.testBit_and, testBit_sub, Nat.zero_testBit]; cases (low x k).testBit i <;> simp)]
  refine Nat.eq_of_testBit_eq fun i => ?_
  rw [Nat.testBit_or, testBit_sub]
  cases h : (low x k).testBit i
  · simp
  · rw [low_in x k i h]; simp
end MM
set_option maxRecDepth 100000 in
set_option maxHeartbeats 2000000 in
theorem refpiece_few (g c : Nat) (mn mx n d : Int) (m : Nat) (k : Int) (w : World) (hm : m < 18446744073709551616) (hT : Tab w) (hf : MM.cnt m < g) :
    Calls Tryd.prog 19 #[.agg #[.int .i64 (g : Int), .int .i64 (c : Int), .int .i64 mn, .int .i64 mx], .agg #[.int .i64 n, .int .i64 d, .int .u64 (m : Nat), .int .i64 k]] w fun e w' => e = .returned (.tuple #[.agg #[.int .i64 0, .int .i64 0, .int .u64 0, .int .i64 0], .agg #[.int .i64 0, .int .i64 0, .int .u64 0, .int .i64 0], .int .i64 7]) ∧ Below w.heap.size w w' := by
  obtain ⟨W4, hW4⟩ : ∃ W, W = (((w.alloc (.cells #[.int .i64 (g : Int), .int .i64 (c : Int), .int .i64 mn, .int .i64 mx] 24)).alloc (.cells #[.int .i64 n, .int .i64 d, .int .u64 (m : Nat), .int .i64 k] 40)).alloc (.cells #[.int .i64 0, .int .i64 0, .int .u64 0, .int .i64 0] 41)).alloc (.cells #[.int .i64 0, .int .i64 0, .int .u64 0, .int .i64 0] 40) := ⟨_, rfl⟩
  have hBW4 : Below w.heap.size w W4 := by rw [hW4]; exact (((((Below.refl w.heap.size w).alloc (Nat.le_refl _) _).alloc (by simp <;> omega) _).alloc (by simp <;> omega) _).alloc (by simp <;> omega) _)
  have hzW4 : W4.heap.size = w.heap.size + 1 + 1 + 1 + 1 := by rw [hW4]; simp
  have b0W4 : W4.heap[w.heap.size]? = some (.cells #[.int .i64 (g : Int), .int .i64 (c : Int), .int .i64 mn, .int .i64 mx] 24 (0, 0)) := by
    have h9 := heap_alloc_new (w) (.cells #[.int .i64 (g : Int), .int .i64 (c : Int), .int .i64 mn, .int .i64 mx] 24)
    rw [hW4]; exact ((Below.heap_alloc _ _ _ (by simp <;> omega)).trans ((Below.heap_alloc _ _ _ (by simp <;> omega)).trans ((Below.heap_alloc _ _ _ (by simp <;> omega)).trans h9)))
  have b1W4 : W4.heap[w.heap.size + 1]? = some (.cells #[.int .i64 n, .int .i64 d, .int .u64 (m : Nat), .int .i64 k] 40 (0, 0)) := by
    have h9 := heap_alloc_new (w.alloc (.cells #[.int .i64 (g : Int), .int .i64 (c : Int), .int .i64 mn, .int .i64 mx] 24)) (.cells #[.int .i64 n, .int .i64 d, .int .u64 (m : Nat), .int .i64 k] 40)
    rw [World.size_alloc] at h9
    rw [hW4]; exact ((Below.heap_alloc _ _ _ (by simp <;> omega)).trans ((Below.heap_alloc _ _ _ (by simp <;> omega)).trans h9))
  have b2W4 : W4.heap[w.heap.size + 1 + 1]? = some (.cells #[.int .i64 0, .int .i64 0, .int .u64 0, .int .i64 0] 41 (0, 0)) := by
    have h9 := heap_alloc_new ((w.alloc (.cells #[.int .i64 (g : Int), .int .i64 (c : Int), .int .i64 mn, .int .i64 mx] 24)).alloc (.cells #[.int .i64 n, .int .i64 d, .int .u64 (m : Nat), .int .i64 k] 40)) (.cells #[.int .i64 0, .int .i64 0, .int .u64 0, .int .i64 0] 41)
    rw [World.size_alloc, World.size_alloc] at h9
    rw [hW4]; exact ((Below.heap_alloc _ _ _ (by simp <;> omega)).trans h9)
  have b3W4 : W4.heap[w.heap.size + 1 + 1 + 1]? = some (.cells #[.int .i64 0, .int .i64 0, .int .u64 0, .int .i64 0] 40 (0, 0)) := by
    have h9 := heap_alloc_new (((w.alloc (.cells #[.int .i64 (g : Int), .int .i64 (c : Int), .int .i64 mn, .int .i64 mx] 24)).alloc (.cells #[.int .i64 n, .int .i64 d, .int .u64 (m : Nat), .int .i64 k] 40)).alloc (.cells #[.int .i64 0, .int .i64 0, .int .u64 0, .int .i64 0] 41)) (.cells #[.int .i64 0, .int .i64 0, .int .u64 0, .int .i64 0] 40)
    rw [World.size_alloc, World.size_alloc, World.size_alloc] at h9
    rw [hW4]; exact h9
  have HXW4 := Lib.hid (And.intro hBW4 (And.intro b0W4 (And.intro b1W4 (And.intro b2W4 (b3W4)))))
  have HW4 := Lib.hid hW4
  have hwW4 : w.heap.size + 1 + 1 + 1 + 1 ≤ W4.heap.size := by omega
  have hTW := hT.below hBW4 hT.size
  have hL := Lib.hid (reflow_full m hm g hf W4 hTW)
  clear hT hTW hf hm
  clear hW4 hBW4 hzW4 b0W4 b1W4 b2W4 b3W4
  go_enter Tryd.func19, Tryd.ntmps19
  go_wp2_with fail
  rw [← HW4.out]
  have s0 : W4.cell? ⟨w.heap.size, 0, none⟩ = _ := cell_blk (i := 0) HXW4.out.2.1 rfl
  have f2 : W4.cell? ⟨w.heap.size + 1, 2, none⟩ = _ := cell_blk (i := 2) HXW4.out.2.2.1 rfl
  try go_wp2_with fail
  refine hL.out.mono ?_
  rintro e w1 ⟨rfl, hst1, _⟩
  have hb1 := hst1.below
  have hs1 := hb1.size
  have tB := (hb1.block _ (show w.heap.size < W4.heap.size by omega)).trans HXW4.out.2.1
  have t0 : w1.cell? ⟨w.heap.size, 0, none⟩ = _ := cell_blk (i := 0) tB rfl
  have t1 : w1.cell? ⟨w.heap.size, 1, none⟩ = _ := cell_blk (i := 1) tB rfl
  have t2 : w1.cell? ⟨w.heap.size, 2, none⟩ = _ := cell_blk (i := 2) tB rfl
  have t3 : w1.cell? ⟨w.heap.size, 3, none⟩ = _ := cell_blk (i := 3) tB rfl
  clear tB
  have hB := (hb1.block _ (show w.heap.size + 1 < W4.heap.size by omega)).trans HXW4.out.2.2.1
  have h0 : w1.cell? ⟨w.heap.size + 1, 0, none⟩ = _ := cell_blk (i := 0) hB rfl
  have h1 : w1.cell? ⟨w.heap.size + 1, 1, none⟩ = _ := cell_blk (i := 1) hB rfl
  have h2 : w1.cell? ⟨w.heap.size + 1, 2, none⟩ = _ := cell_blk (i := 2) hB rfl
  have h3 : w1.cell? ⟨w.heap.size + 1, 3, none⟩ = _ := cell_blk (i := 3) hB rfl
  clear hB
  have pB := (hb1.block _ (show w.heap.size + 1 + 1 < W4.heap.size by omega)).trans HXW4.out.2.2.2.1
  have p0 : w1.cell? ⟨w.heap.size + 1 + 1, 0, none⟩ = _ := cell_blk (i := 0) pB rfl
  have pz0 : w1.frozen? ⟨w.heap.size + 1 + 1, 0, none⟩ = _ := frozen_blk pB
  have p1 : w1.cell? ⟨w.heap.size + 1 + 1, 1, none⟩ = _ := cell_blk (i := 1) pB rfl
  have pz1 : w1.frozen? ⟨w.heap.size + 1 + 1, 1, none⟩ = _ := frozen_blk pB
  have p2 : w1.cell? ⟨w.heap.size + 1 + 1, 2, none⟩ = _ := cell_blk (i := 2) pB rfl
  have pz2 : w1.frozen? ⟨w.heap.size + 1 + 1, 2, none⟩ = _ := frozen_blk pB
  have p3 : w1.cell? ⟨w.heap.size + 1 + 1, 3, none⟩ = _ := cell_blk (i := 3) pB rfl
  have pz3 : w1.frozen? ⟨w.heap.size + 1 + 1, 3, none⟩ = _ := frozen_blk pB
  clear pB
  have rB := (hb1.block _ (show w.heap.size + 1 + 1 + 1 < W4.heap.size by omega)).trans HXW4.out.2.2.2.2
  have r0 : w1.cell? ⟨w.heap.size + 1 + 1 + 1, 0, none⟩ = _ := cell_blk (i := 0) rB rfl
  have rz0 : w1.frozen? ⟨w.heap.size + 1 + 1 + 1, 0, none⟩ = _ := frozen_blk rB
  have r1 : w1.cell? ⟨w.heap.size + 1 + 1 + 1, 1, none⟩ = _ := cell_blk (i := 1) rB rfl
  have rz1 : w1.frozen? ⟨w.heap.size + 1 + 1 + 1, 1, none⟩ = _ := frozen_blk rB
  have r2 : w1.cell? ⟨w.heap.size + 1 + 1 + 1, 2, none⟩ = _ := cell_blk (i := 2) rB rfl
  have rz2 : w1.frozen? ⟨w.heap.size + 1 + 1 + 1, 2, none⟩ = _ := frozen_blk rB
  have r3 : w1.cell? ⟨w.heap.size + 1 + 1 + 1, 3, none⟩ = _ := cell_blk (i := 3) rB rfl
  have rz3 : w1.frozen? ⟨w.heap.size + 1 + 1 + 1, 3, none⟩ = _ := frozen_blk rB
  clear rB
  clear s0 f2
  go_wp2
  refine bodyPost_ret (v := .tuple #[.agg #[.int .i64 0, .int .i64 0, .int .u64 0, .int .i64 0], .agg #[.int .i64 0, .int .i64 0, .int .u64 0, .int .i64 0], .int .i64 7]) (by simp [results, Tryd.results19, go_sem, p0, p1, p2, p3, r0, r1, r2, r3]) rfl ?_
  exact ⟨rfl, ((((((((HXW4.out.1.trans (hb1.mono (by omega))).setCell (by simp <;> omega) _).setCell (by simp <;> omega) _).setCell (by simp <;> omega) _).setCell (by simp <;> omega) _).setCell (by simp <;> omega) _).setCell (by simp <;> omega) _).setCell (by simp <;> omega) _).setCell (by simp <;> omega) _⟩
set_option maxRecDepth 100000 in
set_option maxHeartbeats 2000000 in
theorem refpiece_neg (g c : Nat) (mn mx n d : Int) (m : Nat) (k : Int) (w : World) (hm : m < 18446744073709551616) (hT : Tab w) (hf : g ≤ MM.cnt m) (hk : k < 0) :
    Calls Tryd.prog 19 #[.agg #[.int .i64 (g : Int), .int .i64 (c : Int), .int .i64 mn, .int .i64 mx], .agg #[.int .i64 n, .int .i64 d, .int .u64 (m : Nat), .int .i64 k]] w fun e w' => e = .returned (.tuple #[.agg #[.int .i64 0, .int .i64 0, .int .u64 0, .int .i64 0], .agg #[.int .i64 0, .int .i64 0, .int .u64 0, .int .i64 0], .int .i64 7]) ∧ Below w.heap.size w w' := by
  obtain ⟨W4, hW4⟩ : ∃ W, W = (((w.alloc (.cells #[.int .i64 (g : Int), .int .i64 (c : Int), .int .i64 mn, .int .i64 mx] 24)).alloc (.cells #[.int .i64 n, .int .i64 d, .int .u64 (m : Nat), .int .i64 k] 40)).alloc (.cells #[.int .i64 0, .int .i64 0, .int .u64 0, .int .i64 0] 41)).alloc (.cells #[.int .i64 0, .int .i64 0, .int .u64 0, .int .i64 0] 40) := ⟨_, rfl⟩
  have hBW4 : Below w.heap.size w W4 := by rw [hW4]; exact (((((Below.refl w.heap.size w).alloc (Nat.le_refl _) _).alloc (by simp <;> omega) _).alloc (by simp <;> omega) _).alloc (by simp <;> omega) _)
  have hzW4 : W4.heap.size = w.heap.size + 1 + 1 + 1 + 1 := by rw [hW4]; simp
  have b0W4 : W4.heap[w.heap.size]? = some (.cells #[.int .i64 (g : Int), .int .i64 (c : Int), .int .i64 mn, .int .i64 mx] 24 (0, 0)) := by
    have h9 := heap_alloc_new (w) (.cells #[.int .i64 (g : Int), .int .i64 (c : Int), .int .i64 mn, .int .i64 mx] 24)
    rw [hW4]; exact ((Below.heap_alloc _ _ _ (by simp <;> omega)).trans ((Below.heap_alloc _ _ _ (by simp <;> omega)).trans ((Below.heap_alloc _ _ _ (by simp <;> omega)).trans h9)))
  have b1W4 : W4.heap[w.heap.size + 1]? = some (.cells #[.int .i64 n, .int .i64 d, .int .u64 (m : Nat), .int .i64 k] 40 (0, 0)) := by
    have h9 := heap_alloc_new (w.alloc (.cells #[.int .i64 (g : Int), .int .i64 (c : Int), .int .i64 mn, .int .i64 mx] 24)) (.cells #[.int .i64 n, .int .i64 d, .int .u64 (m : Nat), .int .i64 k] 40)
    rw [World.size_alloc] at h9
    rw [hW4]; exact ((Below.heap_alloc _ _ _ (by simp <;> omega)).trans ((Below.heap_alloc _ _ _ (by simp <;> omega)).trans h9))
  have b2W4 : W4.heap[w.heap.size + 1 + 1]? = some (.cells #[.int .i64 0, .int .i64 0, .int .u64 0, .int .i64 0] 41 (0, 0)) := by
    have h9 := heap_alloc_new ((w.alloc (.cells #[.int .i64 (g : Int), .int .i64 (c : Int), .int .i64 mn, .int .i64 mx] 24)).alloc (.cells #[.int .i64 n, .int .i64 d, .int .u64 (m : Nat), .int .i64 k] 40)) (.cells #[.int .i64 0, .int .i64 0, .int .u64 0, .int .i64 0] 41)
    rw [World.size_alloc, World.size_alloc] at h9
    rw [hW4]; exact ((Below.heap_alloc _ _ _ (by simp <;> omega)).trans h9)
  have b3W4 : W4.heap[w.heap.size + 1 + 1 + 1]? = some (.cells #[.int .i64 0, .int .i64 0, .int .u64 0, .int .i64 0] 40 (0, 0)) := by
    have h9 := heap_alloc_new (((w.alloc (.cells #[.int .i64 (g : Int), .int .i64 (c : Int), .int .i64 mn, .int .i64 mx] 24)).alloc (.cells #[.int .i64 n, .int .i64 d, .int .u64 (m : Nat), .int .i64 k] 40)).alloc (.cells #[.int .i64 0, .int .i64 0, .int .u64 0, .int .i64 0] 41)) (.cells #[.int .i64 0, .int .i64 0, .int .u64 0, .int .i64 0] 40)
    rw [World.size_alloc, World.size_alloc, World.size_alloc] at h9
    rw [hW4]; exact h9
  have HXW4 := Lib.hid (And.intro hBW4 (And.intro b0W4 (And.intro b1W4 (And.intro b2W4 (b3W4)))))
  have HW4 := Lib.hid hW4
  have hwW4 : w.heap.size + 1 + 1 + 1 + 1 ≤ W4.heap.size := by omega
  have hTW := hT.below hBW4 hT.size
  have hL := Lib.hid (reflow_t m hm g hf W4 hTW)
  have t1 : decide (k < 0) = true := decide_eq_true hk
  clear hT hTW hf hm hk
  clear hW4 hBW4 hzW4 b0W4 b1W4 b2W4 b3W4
  go_enter Tryd.func19, Tryd.ntmps19
  go_wp2_with fail
  rw [← HW4.out]
  have s0 : W4.cell? ⟨w.heap.size, 0, none⟩ = _ := cell_blk (i := 0) HXW4.out.2.1 rfl
  have f2 : W4.cell? ⟨w.heap.size + 1, 2, none⟩ = _ := cell_blk (i := 2) HXW4.out.2.2.1 rfl
  try go_wp2_with fail
  refine hL.out.mono ?_
  rintro e w1 ⟨rfl, hst1, _⟩
  have hb1 := hst1.below
  have hs1 := hb1.size
  have tB := (hb1.block _ (show w.heap.size < W4.heap.size by omega)).trans HXW4.out.2.1
  have t0 : w1.cell? ⟨w.heap.size, 0, none⟩ = _ := cell_blk (i := 0) tB rfl
  have t1 : w1.cell? ⟨w.heap.size, 1, none⟩ = _ := cell_blk (i := 1) tB rfl
  have t2 : w1.cell? ⟨w.heap.size, 2, none⟩ = _ := cell_blk (i := 2) tB rfl
  have t3 : w1.cell? ⟨w.heap.size, 3, none⟩ = _ := cell_blk (i := 3) tB rfl
  clear tB
  have hB := (hb1.block _ (show w.heap.size + 1 < W4.heap.size by omega)).trans HXW4.out.2.2.1
  have h0 : w1.cell? ⟨w.heap.size + 1, 0, none⟩ = _ := cell_blk (i := 0) hB rfl
  have h1 : w1.cell? ⟨w.heap.size + 1, 1, none⟩ = _ := cell_blk (i := 1) hB rfl
  have h2 : w1.cell? ⟨w.heap.size + 1, 2, none⟩ = _ := cell_blk (i := 2) hB rfl
  have h3 : w1.cell? ⟨w.heap.size + 1, 3, none⟩ = _ := cell_blk (i := 3) hB rfl
  clear hB
  have pB := (hb1.block _ (show w.heap.size + 1 + 1 < W4.heap.size by omega)).trans HXW4.out.2.2.2.1
  have p0 : w1.cell? ⟨w.heap.size + 1 + 1, 0, none⟩ = _ := cell_blk (i := 0) pB rfl
  have pz0 : w1.frozen? ⟨w.heap.size + 1 + 1, 0, none⟩ = _ := frozen_blk pB
  have p1 : w1.cell? ⟨w.heap.size + 1 + 1, 1, none⟩ = _ := cell_blk (i := 1) pB rfl
  have pz1 : w1.frozen? ⟨w.heap.size + 1 + 1, 1, none⟩ = _ := frozen_blk pB
  have p2 : w1.cell? ⟨w.heap.size + 1 + 1, 2, none⟩ = _ := cell_blk (i := 2) pB rfl
  have pz2 : w1.frozen? ⟨w.heap.size + 1 + 1, 2, none⟩ = _ := frozen_blk pB
  have p3 : w1.cell? ⟨w.heap.size + 1 + 1, 3, none⟩ = _ := cell_blk (i := 3) pB rfl
  have pz3 : w1.frozen? ⟨w.heap.size + 1 + 1, 3, none⟩ = _ := frozen_blk pB
  clear pB
  have rB := (hb1.block _ (show w.heap.size + 1 + 1 + 1 < W4.heap.size by omega)).trans HXW4.out.2.2.2.2
  have r0 : w1.cell? ⟨w.heap.size + 1 + 1 + 1, 0, none⟩ = _ := cell_blk (i := 0) rB rfl
  have rz0 : w1.frozen? ⟨w.heap.size + 1 + 1 + 1, 0, none⟩ = _ := frozen_blk rB
  have r1 : w1.cell? ⟨w.heap.size + 1 + 1 + 1, 1, none⟩ = _ := cell_blk (i := 1) rB rfl
  have rz1 : w1.frozen? ⟨w.heap.size + 1 + 1 + 1, 1, none⟩ = _ := frozen_blk rB
  have r2 : w1.cell? ⟨w.heap.size + 1 + 1 + 1, 2, none⟩ = _ := cell_blk (i := 2) rB rfl
  have rz2 : w1.frozen? ⟨w.heap.size + 1 + 1 + 1, 2, none⟩ = _ := frozen_blk rB
  have r3 : w1.cell? ⟨w.heap.size + 1 + 1 + 1, 3, none⟩ = _ := cell_blk (i := 3) rB rfl
  have rz3 : w1.frozen? ⟨w.heap.size + 1 + 1 + 1, 3, none⟩ = _ := frozen_blk rB
  clear rB
  clear s0 f2
  go_wp2
  refine bodyPost_ret (v := .tuple #[.agg #[.int .i64 0, .int .i64 0, .int .u64 0, .int .i64 0], .agg #[.int .i64 0, .int .i64 0, .int .u64 0, .int .i64 0], .int .i64 7]) (by simp [results, Tryd.results19, go_sem, p0, p1, p2, p3, r0, r1, r2, r3]) rfl ?_
  exact ⟨rfl, ((((((((HXW4.out.1.trans (hb1.mono (by omega))).setCell (by simp <;> omega) _).setCell (by simp <;> omega) _).setCell (by simp <;> omega) _).setCell (by simp <;> omega) _).setCell (by simp <;> omega) _).setCell (by simp <;> omega) _).setCell (by simp <;> omega) _).setCell (by simp <;> omega) _⟩
set_option maxRecDepth 100000 in
set_option maxHeartbeats 2000000 in
theorem refpiece_less (g c : Nat) (mn mx n d : Int) (m : Nat) (k : Int) (w : World) (hm : m < 18446744073709551616) (hT : Tab w) (hf : g ≤ MM.cnt m) (hk : 0 ≤ k) (hkc : k < c) :
    Calls Tryd.prog 19 #[.agg #[.int .i64 (g : Int), .int .i64 (c : Int), .int .i64 mn, .int .i64 mx], .agg #[.int .i64 n, .int .i64 d, .int .u64 (m : Nat), .int .i64 k]] w fun e w' => e = .returned (.tuple #[.agg #[.int .i64 0, .int .i64 0, .int .u64 0, .int .i64 0], .agg #[.int .i64 0, .int .i64 0, .int .u64 0, .int .i64 0], .int .i64 7]) ∧ Below w.heap.size w w' := by
  obtain ⟨W4, hW4⟩ : ∃ W, W = (((w.alloc (.cells #[.int .i64 (g : Int), .int .i64 (c : Int), .int .i64 mn, .int .i64 mx] 24)).alloc (.cells #[.int .i64 n, .int .i64 d, .int .u64 (m : Nat), .int .i64 k] 40)).alloc (.cells #[.int .i64 0, .int .i64 0, .int .u64 0, .int .i64 0] 41)).alloc (.cells #[.int .i64 0, .int .i64 0, .int .u64 0, .int .i64 0] 40) := ⟨_, rfl⟩
  have hBW4 : Below w.heap.size w W4 := by rw [hW4]; exact (((((Below.refl w.heap.size w).alloc (Nat.le_refl _) _).alloc (by simp <;> omega) _).alloc (by simp <;> omega) _).alloc (by simp <;> omega) _)
  have hzW4 : W4.heap.size = w.heap.size + 1 + 1 + 1 + 1 := by rw [hW4]; simp
  have b0W4 : W4.heap[w.heap.size]? = some (.cells #[.int .i64 (g : Int), .int .i64 (c : Int), .int .i64 mn, .int .i64 mx] 24 (0, 0)) := by
    have h9 := heap_alloc_new (w) (.cells #[.int .i64 (g : Int), .int .i64 (c : Int), .int .i64 mn, .int .i64 mx] 24)
    rw [hW4]; exact ((Below.heap_alloc _ _ _ (by simp <;> omega)).trans ((Below.heap_alloc _ _ _ (by simp <;> omega)).trans ((Below.heap_alloc _ _ _ (by simp <;> omega)).trans h9)))
  have b1W4 : W4.heap[w.heap.size + 1]? = some (.cells #[.int .i64 n, .int .i64 d, .int .u64 (m : Nat), .int .i64 k] 40 (0, 0)) := by
    have h9 := heap_alloc_new (w.alloc (.cells #[.int .i64 (g : Int), .int .i64 (c : Int), .int .i64 mn, .int .i64 mx] 24)) (.cells #[.int .i64 n, .int .i64 d, .int .u64 (m : Nat), .int .i64 k] 40)
    rw [World.size_alloc] at h9
    rw [hW4]; exact ((Below.heap_alloc _ _ _ (by simp <;> omega)).trans ((Below.heap_alloc _ _ _ (by simp <;> omega)).trans h9))
  have b2W4 : W4.heap[w.heap.size + 1 + 1]? = some (.cells #[.int .i64 0, .int .i64 0, .int .u64 0, .int .i64 0] 41 (0, 0)) := by
    have h9 := heap_alloc_new ((w.alloc (.cells #[.int .i64 (g : Int), .int .i64 (c : Int), .int .i64 mn, .int .i64 mx] 24)).alloc (.cells #[.int .i64 n, .int .i64 d, .int .u64 (m : Nat), .int .i64 k] 40)) (.cells #[.int .i64 0, .int .i64 0, .int .u64 0, .int .i64 0] 41)
    rw [World.size_alloc, World.size_alloc] at h9
    rw [hW4]; exact ((Below.heap_alloc _ _ _ (by simp <;> omega)).trans h9)
  have b3W4 : W4.heap[w.heap.size + 1 + 1 + 1]? = some (.cells #[.int .i64 0, .int .i64 0, .int .u64 0, .int .i64 0] 40 (0, 0)) := by
    have h9 := heap_alloc_new (((w.alloc (.cells #[.int .i64 (g : Int), .int .i64 (c : Int), .int .i64 mn, .int .i64 mx] 24)).alloc (.cells #[.int .i64 n, .int .i64 d, .int .u64 (m : Nat), .int .i64 k] 40)).alloc (.cells #[.int .i64 0, .int .i64 0, .int .u64 0, .int .i64 0] 41)) (.cells #[.int .i64 0, .int .i64 0, .int .u64 0, .int .i64 0] 40)
    rw [World.size_alloc, World.size_alloc, World.size_alloc] at h9
    rw [hW4]; exact h9
  have HXW4 := Lib.hid (And.intro hBW4 (And.intro b0W4 (And.intro b1W4 (And.intro b2W4 (b3W4)))))
  have HW4 := Lib.hid hW4
  have hwW4 : w.heap.size + 1 + 1 + 1 + 1 ≤ W4.heap.size := by omega
  have hTW := hT.below hBW4 hT.size
  have hL := Lib.hid (reflow_t m hm g hf W4 hTW)
  have t1 : decide (k < 0) = false := decide_eq_false (by omega)
  have t2 : decide (k < (c : Int)) = true := decide_eq_true hkc
  clear hT hTW hf hm hk hkc
  clear hW4 hBW4 hzW4 b0W4 b1W4 b2W4 b3W4
  go_enter Tryd.func19, Tryd.ntmps19
  go_wp2_with fail
  rw [← HW4.out]
  have s0 : W4.cell? ⟨w.heap.size, 0, none⟩ = _ := cell_blk (i := 0) HXW4.out.2.1 rfl
  have f2 : W4.cell? ⟨w.heap.size + 1, 2, none⟩ = _ := cell_blk (i := 2) HXW4.out.2.2.1 rfl
  try go_wp2_with fail
  refine hL.out.mono ?_
  rintro e w1 ⟨rfl, hst1, _⟩
  have hb1 := hst1.below
  have hs1 := hb1.size
  have tB := (hb1.block _ (show w.heap.size < W4.heap.size by omega)).trans HXW4.out.2.1
  have t0 : w1.cell? ⟨w.heap.size, 0, none⟩ = _ := cell_blk (i := 0) tB rfl
  have t1 : w1.cell? ⟨w.heap.size, 1, none⟩ = _ := cell_blk (i := 1) tB rfl
  have t2 : w1.cell? ⟨w.heap.size, 2, none⟩ = _ := cell_blk (i := 2) tB rfl
  have t3 : w1.cell? ⟨w.heap.size, 3, none⟩ = _ := cell_blk (i := 3) tB rfl
  clear tB
  have hB := (hb1.block _ (show w.heap.size + 1 < W4.heap.size by omega)).trans HXW4.out.2.2.1
  have h0 : w1.cell? ⟨w.heap.size + 1, 0, none⟩ = _ := cell_blk (i := 0) hB rfl
  have h1 : w1.cell? ⟨w.heap.size + 1, 1, none⟩ = _ := cell_blk (i := 1) hB rfl
  have h2 : w1.cell? ⟨w.heap.size + 1, 2, none⟩ = _ := cell_blk (i := 2) hB rfl
  have h3 : w1.cell? ⟨w.heap.size + 1, 3, none⟩ = _ := cell_blk (i := 3) hB rfl
  clear hB
  have pB := (hb1.block _ (show w.heap.size + 1 + 1 < W4.heap.size by omega)).trans HXW4.out.2.2.2.1
  have p0 : w1.cell? ⟨w.heap.size + 1 + 1, 0, none⟩ = _ := cell_blk (i := 0) pB rfl
  have pz0 : w1.frozen? ⟨w.heap.size + 1 + 1, 0, none⟩ = _ := frozen_blk pB
  have p1 : w1.cell? ⟨w.heap.size + 1 + 1, 1, none⟩ = _ := cell_blk (i := 1) pB rfl
  have pz1 : w1.frozen? ⟨w.heap.size + 1 + 1, 1, none⟩ = _ := frozen_blk pB
  have p2 : w1.cell? ⟨w.heap.size + 1 + 1, 2, none⟩ = _ := cell_blk (i := 2) pB rfl
  have pz2 : w1.frozen? ⟨w.heap.size + 1 + 1, 2, none⟩ = _ := frozen_blk pB
  have p3 : w1.cell? ⟨w.heap.size + 1 + 1, 3, none⟩ = _ := cell_blk (i := 3) pB rfl
  have pz3 : w1.frozen? ⟨w.heap.size + 1 + 1, 3, none⟩ = _ := frozen_blk pB
  clear pB
  have rB := (hb1.block _ (show w.heap.size + 1 + 1 + 1 < W4.heap.size by omega)).trans HXW4.out.2.2.2.2
  have r0 : w1.cell? ⟨w.heap.size + 1 + 1 + 1, 0, none⟩ = _ := cell_blk (i := 0) rB rfl
  have rz0 : w1.frozen? ⟨w.heap.size + 1 + 1 + 1, 0, none⟩ = _ := frozen_blk rB
  have r1 : w1.cell? ⟨w.heap.size + 1 + 1 + 1, 1, none⟩ = _ := cell_blk (i := 1) rB rfl
  have rz1 : w1.frozen? ⟨w.heap.size + 1 + 1 + 1, 1, none⟩ = _ := frozen_blk rB
  have r2 : w1.cell? ⟨w.heap.size + 1 + 1 + 1, 2, none⟩ = _ := cell_blk (i := 2) rB rfl
  have rz2 : w1.frozen? ⟨w.heap.size + 1 + 1 + 1, 2, none⟩ = _ := frozen_blk rB
  have r3 : w1.cell? ⟨w.heap.size + 1 + 1 + 1, 3, none⟩ = _ := cell_blk (i := 3) rB rfl
  have rz3 : w1.frozen? ⟨w.heap.size + 1 + 1 + 1, 3, none⟩ = _ := frozen_blk rB
  clear rB
  clear s0 f2
  go_wp2
  refine bodyPost_ret (v := .tuple #[.agg #[.int .i64 0, .int .i64 0, .int .u64 0, .int .i64 0], .agg #[.int .i64 0, .int .i64 0, .int .u64 0, .int .i64 0], .int .i64 7]) (by simp [results, Tryd.results19, go_sem, p0, p1, p2, p3, r0, r1, r2, r3]) rfl ?_
  exact ⟨rfl, ((((((((HXW4.out.1.trans (hb1.mono (by omega))).setCell (by simp <;> omega) _).setCell (by simp <;> omega) _).setCell (by simp <;> omega) _).setCell (by simp <;> omega) _).setCell (by simp <;> omega) _).setCell (by simp <;> omega) _).setCell (by simp <;> omega) _).setCell (by simp <;> omega) _⟩
set_option maxRecDepth 100000 in
set_option maxHeartbeats 2000000 in
theorem refpiece_ok (g c : Nat) (mn mx n d : Int) (m k : Nat) (w : World) (hm : m < 18446744073709551616) (hk : k ≤ 9223372036854775807) (hT : Tab w) (hf : g ≤ MM.cnt m) (hkc : c ≤ k) :
    Calls Tryd.prog 19 #[.agg #[.int .i64 (g : Int), .int .i64 (c : Int), .int .i64 mn, .int .i64 mx], .agg #[.int .i64 n, .int .i64 d, .int .u64 (m : Nat), .int .i64 (k : Int)]] w fun e w' => e = .returned (.tuple #[.agg #[.int .i64 n, .int .i64 d, .int .u64 (MM.low m g : Nat), .int .i64 (c : Int)], .agg #[.int .i64 n, .int .i64 d, .int .u64 (MM.sub m (MM.low m g) : Nat), .int .i64 ((k - c : Nat) : Int)], .int .i64 0]) ∧ Below w.heap.size w w' := by
  obtain ⟨W4, hW4⟩ : ∃ W, W = (((w.alloc (.cells #[.int .i64 (g : Int), .int .i64 (c : Int), .int .i64 mn, .int .i64 mx] 24)).alloc (.cells #[.int .i64 n, .int .i64 d, .int .u64 (m : Nat), .int .i64 (k : Int)] 40)).alloc (.cells #[.int .i64 0, .int .i64 0, .int .u64 0, .int .i64 0] 41)).alloc (.cells #[.int .i64 0, .int .i64 0, .int .u64 0, .int .i64 0] 40) := ⟨_, rfl⟩
  have hBW4 : Below w.heap.size w W4 := by rw [hW4]; exact (((((Below.refl w.heap.size w).alloc (Nat.le_refl _) _).alloc (by simp <;> omega) _).alloc (by simp <;> omega) _).alloc (by simp <;> omega) _)
  have hzW4 : W4.heap.size = w.heap.size + 1 + 1 + 1 + 1 := by rw [hW4]; simp
  have b0W4 : W4.heap[w.heap.size]? = some (.cells #[.int .i64 (g : Int), .int .i64 (c : Int), .int .i64 mn, .int .i64 mx] 24 (0, 0)) := by
    have h9 := heap_alloc_new (w) (.cells #[.int .i64 (g : Int), .int .i64 (c : Int), .int .i64 mn, .int .i64 mx] 24)
    rw [hW4]; exact ((Below.heap_alloc _ _ _ (by simp <;> omega)).trans ((Below.heap_alloc _ _ _ (by simp <;> omega)).trans ((Below.heap_alloc _ _ _ (by simp <;> omega)).trans h9)))
  have b1W4 : W4.heap[w.heap.size + 1]? = some (.cells #[.int .i64 n, .int .i64 d, .int .u64 (m : Nat), .int .i64 (k : Int)] 40 (0, 0)) := by
    have h9 := heap_alloc_new (w.alloc (.cells #[.int .i64 (g : Int), .int .i64 (c : Int), .int .i64 mn, .int .i64 mx] 24)) (.cells #[.int .i64 n, .int .i64 d, .int .u64 (m : Nat), .int .i64 (k : Int)] 40)
    rw [World.size_alloc] at h9
    rw [hW4]; exact ((Below.heap_alloc _ _ _ (by simp <;> omega)).trans ((Below.heap_alloc _ _ _ (by simp <;> omega)).trans h9))
  have b2W4 : W4.heap[w.heap.size + 1 + 1]? = some (.cells #[.int .i64 0, .int .i64 0, .int .u64 0, .int .i64 0] 41 (0, 0)) := by
    have h9 := heap_alloc_new ((w.alloc (.cells #[.int .i64 (g : Int), .int .i64 (c : Int), .int .i64 mn, .int .i64 mx] 24)).alloc (.cells #[.int .i64 n, .int .i64 d, .int .u64 (m : Nat), .int .i64 (k : Int)] 40)) (.cells #[.int .i64 0, .int .i64 0, .int .u64 0, .int .i64 0] 41)
    rw [World.size_alloc, World.size_alloc] at h9
    rw [hW4]; exact ((Below.heap_alloc _ _ _ (by simp <;> omega)).trans h9)
  have b3W4 : W4.heap[w.heap.size + 1 + 1 + 1]? = some (.cells #[.int .i64 0, .int .i64 0, .int .u64 0, .int .i64 0] 40 (0, 0)) := by
    have h9 := heap_alloc_new (((w.alloc (.cells #[.int .i64 (g : Int), .int .i64 (c : Int), .int .i64 mn, .int .i64 mx] 24)).alloc (.cells #[.int .i64 n, .int .i64 d, .int .u64 (m : Nat), .int .i64 (k : Int)] 40)).alloc (.cells #[.int .i64 0, .int .i64 0, .int .u64 0, .int .i64 0] 41)) (.cells #[.int .i64 0, .int .i64 0, .int .u64 0, .int .i64 0] 40)
    rw [World.size_alloc, World.size_alloc, World.size_alloc] at h9
    rw [hW4]; exact h9
  have HXW4 := Lib.hid (And.intro hBW4 (And.intro b0W4 (And.intro b1W4 (And.intro b2W4 (b3W4)))))
  have HW4 := Lib.hid hW4
  have hwW4 : w.heap.size + 1 + 1 + 1 + 1 ≤ W4.heap.size := by omega
  have hTW := hT.below hBW4 hT.size
  have hL := Lib.hid (reflow_t m hm g hf W4 hTW)
  have hsl := MM.sub_low m g
  obtain ⟨lo, hlo⟩ : ∃ lo, lo = MM.low m g := ⟨_, rfl⟩
  obtain ⟨re, hre⟩ : ∃ re, re = MM.sub m lo := ⟨_, rfl⟩
  rw [← hlo] at hL hsl ⊢
  rw [← hre] at hsl ⊢
  have hlm : lo ≤ m := by omega
  have e1 : (m : Int) - (lo : Int) = (re : Int) := by omega
  have e2 : (k : Int) - (c : Int) = ((k - c : Nat) : Int) := by omega
  have E := Lib.hid (And.intro e1 (And.intro e2 (show wrap64 ((k - c : Nat) : Int) = ((k - c : Nat) : Int) from IntWalk.wrap64_in _ (by omega))))
  have t1 : decide ((k : Int) < 0) = false := decide_eq_false (by omega)
  have t2 : decide (k < c) = false := decide_eq_false (by omega)
  clear hT hTW hf hkc hlo hre hsl e1 e2
  clear hW4 hBW4 hzW4 b0W4 b1W4 b2W4 b3W4
  go_enter Tryd.func19, Tryd.ntmps19
  go_wp2_with fail
  rw [← HW4.out]
  have s0 : W4.cell? ⟨w.heap.size, 0, none⟩ = _ := cell_blk (i := 0) HXW4.out.2.1 rfl
  have f2 : W4.cell? ⟨w.heap.size + 1, 2, none⟩ = _ := cell_blk (i := 2) HXW4.out.2.2.1 rfl
  try go_wp2_with fail
  refine hL.out.mono ?_
  rintro e w1 ⟨rfl, hst1, _⟩
  have hb1 := hst1.below
  have hs1 := hb1.size
  have tB := (hb1.block _ (show w.heap.size < W4.heap.size by omega)).trans HXW4.out.2.1
  have t0 : w1.cell? ⟨w.heap.size, 0, none⟩ = _ := cell_blk (i := 0) tB rfl
  have t1 : w1.cell? ⟨w.heap.size, 1, none⟩ = _ := cell_blk (i := 1) tB rfl
  have t2 : w1.cell? ⟨w.heap.size, 2, none⟩ = _ := cell_blk (i := 2) tB rfl
  have t3 : w1.cell? ⟨w.heap.size, 3, none⟩ = _ := cell_blk (i := 3) tB rfl
  clear tB
  have hB := (hb1.block _ (show w.heap.size + 1 < W4.heap.size by omega)).trans HXW4.out.2.2.1
  have h0 : w1.cell? ⟨w.heap.size + 1, 0, none⟩ = _ := cell_blk (i := 0) hB rfl
  have h1 : w1.cell? ⟨w.heap.size + 1, 1, none⟩ = _ := cell_blk (i := 1) hB rfl
  have h2 : w1.cell? ⟨w.heap.size + 1, 2, none⟩ = _ := cell_blk (i := 2) hB rfl
  have h3 : w1.cell? ⟨w.heap.size + 1, 3, none⟩ = _ := cell_blk (i := 3) hB rfl
  clear hB
  have pB := (hb1.block _ (show w.heap.size + 1 + 1 < W4.heap.size by omega)).trans HXW4.out.2.2.2.1
  have p0 : w1.cell? ⟨w.heap.size + 1 + 1, 0, none⟩ = _ := cell_blk (i := 0) pB rfl
  have pz0 : w1.frozen? ⟨w.heap.size + 1 + 1, 0, none⟩ = _ := frozen_blk pB
  have p1 : w1.cell? ⟨w.heap.size + 1 + 1, 1, none⟩ = _ := cell_blk (i := 1) pB rfl
  have pz1 : w1.frozen? ⟨w.heap.size + 1 + 1, 1, none⟩ = _ := frozen_blk pB
  have p2 : w1.cell? ⟨w.heap.size + 1 + 1, 2, none⟩ = _ := cell_blk (i := 2) pB rfl
  have pz2 : w1.frozen? ⟨w.heap.size + 1 + 1, 2, none⟩ = _ := frozen_blk pB
  have p3 : w1.cell? ⟨w.heap.size + 1 + 1, 3, none⟩ = _ := cell_blk (i := 3) pB rfl
  have pz3 : w1.frozen? ⟨w.heap.size + 1 + 1, 3, none⟩ = _ := frozen_blk pB
  clear pB
  have rB := (hb1.block _ (show w.heap.size + 1 + 1 + 1 < W4.heap.size by omega)).trans HXW4.out.2.2.2.2
  have r0 : w1.cell? ⟨w.heap.size + 1 + 1 + 1, 0, none⟩ = _ := cell_blk (i := 0) rB rfl
  have rz0 : w1.frozen? ⟨w.heap.size + 1 + 1 + 1, 0, none⟩ = _ := frozen_blk rB
  have r1 : w1.cell? ⟨w.heap.size + 1 + 1 + 1, 1, none⟩ = _ := cell_blk (i := 1) rB rfl
  have rz1 : w1.frozen? ⟨w.heap.size + 1 + 1 + 1, 1, none⟩ = _ := frozen_blk rB
  have r2 : w1.cell? ⟨w.heap.size + 1 + 1 + 1, 2, none⟩ = _ := cell_blk (i := 2) rB rfl
  have rz2 : w1.frozen? ⟨w.heap.size + 1 + 1 + 1, 2, none⟩ = _ := frozen_blk rB
  have r3 : w1.cell? ⟨w.heap.size + 1 + 1 + 1, 3, none⟩ = _ := cell_blk (i := 3) rB rfl
  have rz3 : w1.frozen? ⟨w.heap.size + 1 + 1 + 1, 3, none⟩ = _ := frozen_blk rB
  clear rB
  have hBf := HXW4.out.1.trans (hb1.mono (by omega))
  have hwf : w.heap.size + 1 + 1 + 1 < w1.heap.size := by omega
  clear s0 f2 hst1 hb1 hs1
  go_wp2
  go_region
  simp only [E.out.1, E.out.2.1, E.out.2.2]
  go_wp2
  refine bodyPost_ret (v := .tuple #[.agg #[.int .i64 n, .int .i64 d, .int .u64 (lo : Nat), .int .i64 (c : Int)], .agg #[.int .i64 n, .int .i64 d, .int .u64 (re : Nat), .int .i64 ((k - c : Nat) : Int)], .int .i64 0]) (by simp [results, Tryd.results19, go_sem, p0, p1, p2, p3, r0, r1, r2, r3]) rfl ?_
  exact ⟨rfl, ((((((((hBf.setCell (by simp <;> omega) _).setCell (by simp <;> omega) _).setCell (by simp <;> omega) _).setCell (by simp <;> omega) _).setCell (by simp <;> omega) _).setCell (by simp <;> omega) _).setCell (by simp <;> omega) _).setCell (by simp <;> omega) _).drew⟩
end Go.Proofs.YteflblcbmkcidaaDoor
