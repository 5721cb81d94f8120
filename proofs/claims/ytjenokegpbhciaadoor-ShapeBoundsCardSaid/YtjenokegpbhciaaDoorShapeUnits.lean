/- Units of package shape: what so many members need together. -/
import Derived.Test.YtjenokegpbhciaaDoorShapePiece
namespace Go.Proofs.YtjenokegpbhciaaDoor
open Go.RowKit

set_option maxRecDepth 100000 in
set_option maxHeartbeats 2000000 in
theorem units_bad (g c mn mx x : Int) (w : World) (hw : Shp.Wf ⟨g, c, mn, mx⟩) (h : Shp.ok ⟨g, c, mn, mx⟩ = false) :
    Calls Tryd.prog 9 #[.agg #[.int .i64 g, .int .i64 c, .int .i64 mn, .int .i64 mx], .int .i64 x] w fun e w' => e = .returned (.tuple #[.agg #[.int .i64 0, .int .i64 0], .int .i64 1]) ∧ Below w.heap.size w w' := by
  have hC := Lib.hid (fun W => check_no g c mn mx W hw h)
  obtain ⟨W4, hW4⟩ : ∃ W, W = (w.alloc (.cells #[.int .i64 g, .int .i64 c, .int .i64 mn, .int .i64 mx] 23)).alloc (.cells #[.int .i64 0, .int .i64 0] 31) := ⟨_, rfl⟩
  have hBW4 : Below w.heap.size w W4 := by rw [hW4]; exact (((Below.refl w.heap.size w).alloc (Nat.le_refl _) _).alloc (by simp <;> omega) _)
  have hzW4 : W4.heap.size = w.heap.size + 1 + 1 := by rw [hW4]; simp
  have b0W4 : W4.heap[w.heap.size]? = some (.cells #[.int .i64 g, .int .i64 c, .int .i64 mn, .int .i64 mx] 23 (0, 0)) := by
    have h9 := heap_alloc_new (w) (.cells #[.int .i64 g, .int .i64 c, .int .i64 mn, .int .i64 mx] 23)
    rw [hW4]; exact ((Below.heap_alloc _ _ _ (by simp <;> omega)).trans h9)
  have b1W4 : W4.heap[w.heap.size + 1]? = some (.cells #[.int .i64 0, .int .i64 0] 31 (0, 0)) := by
    have h9 := heap_alloc_new (w.alloc (.cells #[.int .i64 g, .int .i64 c, .int .i64 mn, .int .i64 mx] 23)) (.cells #[.int .i64 0, .int .i64 0] 31)
    rw [World.size_alloc] at h9
    rw [hW4]; exact h9
  have HXW4 := Lib.hid (And.intro hBW4 (And.intro b0W4 (b1W4)))
  have HW4 := Lib.hid hW4
  have hwW4 : w.heap.size + 1 + 1 ≤ W4.heap.size := by omega
  clear hw h 
  clear hW4 hBW4 hzW4 b0W4 b1W4
  go_enter Tryd.func9, Tryd.ntmps9
  go_wp2_with fail
  rw [← HW4.out]
  refine (hC.out _).mono ?_
  rintro e w1 ⟨rfl, hb1⟩
  have hs1 := hb1.size
  have sB := (hb1.block _ (show w.heap.size < W4.heap.size by omega)).trans HXW4.out.2.1
  have s0 : w1.cell? ⟨w.heap.size, 0, none⟩ = _ := cell_blk (i := 0) sB rfl
  have s1 : w1.cell? ⟨w.heap.size, 1, none⟩ = _ := cell_blk (i := 1) sB rfl
  have s2 : w1.cell? ⟨w.heap.size, 2, none⟩ = _ := cell_blk (i := 2) sB rfl
  have s3 : w1.cell? ⟨w.heap.size, 3, none⟩ = _ := cell_blk (i := 3) sB rfl
  clear sB
  have pB := (hb1.block _ (show w.heap.size + 1 < W4.heap.size by omega)).trans HXW4.out.2.2
  have p0 : w1.cell? ⟨w.heap.size + 1, 0, none⟩ = _ := cell_blk (i := 0) pB rfl
  have pz0 : w1.frozen? ⟨w.heap.size + 1, 0, none⟩ = _ := frozen_blk pB
  have p1 : w1.cell? ⟨w.heap.size + 1, 1, none⟩ = _ := cell_blk (i := 1) pB rfl
  have pz1 : w1.frozen? ⟨w.heap.size + 1, 1, none⟩ = _ := frozen_blk pB
  clear pB
  go_wp2
  refine bodyPost_ret (v := .tuple #[.agg #[.int .i64 0, .int .i64 0], .int .i64 1]) (by simp [results, Tryd.results9, go_sem, p0, p1]) rfl ?_
  exact ⟨rfl, (((HXW4.out.1.trans (hb1.mono (by omega))).setCell (by simp <;> omega) _).setCell (by simp <;> omega) _)⟩
set_option maxRecDepth 100000 in
set_option maxHeartbeats 2000000 in
theorem units_low (g c mn mx x : Int) (w : World) (hw : Shp.Wf ⟨g, c, mn, mx⟩) (h : Shp.ok ⟨g, c, mn, mx⟩ = true) (hx : x < 0) :
    Calls Tryd.prog 9 #[.agg #[.int .i64 g, .int .i64 c, .int .i64 mn, .int .i64 mx], .int .i64 x] w fun e w' => e = .returned (.tuple #[.agg #[.int .i64 0, .int .i64 0], .int .i64 1]) ∧ Below w.heap.size w w' := by
  have hC := Lib.hid (fun W => check_ok g c mn mx W hw h)
  have t0 : decide (x < 0) = true := decide_eq_true hx
  obtain ⟨W4, hW4⟩ : ∃ W, W = (w.alloc (.cells #[.int .i64 g, .int .i64 c, .int .i64 mn, .int .i64 mx] 23)).alloc (.cells #[.int .i64 0, .int .i64 0] 31) := ⟨_, rfl⟩
  have hBW4 : Below w.heap.size w W4 := by rw [hW4]; exact (((Below.refl w.heap.size w).alloc (Nat.le_refl _) _).alloc (by simp <;> omega) _)
  have hzW4 : W4.heap.size = w.heap.size + 1 + 1 := by rw [hW4]; simp
  have b0W4 : W4.heap[w.heap.size]? = some (.cells #[.int .i64 g, .int .i64 c, .int .i64 mn, .int .i64 mx] 23 (0, 0)) := by
    have h9 := heap_alloc_new (w) (.cells #[.int .i64 g, .int .i64 c, .int .i64 mn, .int .i64 mx] 23)
    rw [hW4]; exact ((Below.heap_alloc _ _ _ (by simp <;> omega)).trans h9)
  have b1W4 : W4.heap[w.heap.size + 1]? = some (.cells #[.int .i64 0, .int .i64 0] 31 (0, 0)) := by
    have h9 := heap_alloc_new (w.alloc (.cells #[.int .i64 g, .int .i64 c, .int .i64 mn, .int .i64 mx] 23)) (.cells #[.int .i64 0, .int .i64 0] 31)
    rw [World.size_alloc] at h9
    rw [hW4]; exact h9
  have HXW4 := Lib.hid (And.intro hBW4 (And.intro b0W4 (b1W4)))
  have HW4 := Lib.hid hW4
  have hwW4 : w.heap.size + 1 + 1 ≤ W4.heap.size := by omega
  clear hw h hx
  clear hW4 hBW4 hzW4 b0W4 b1W4
  go_enter Tryd.func9, Tryd.ntmps9
  go_wp2_with fail
  rw [← HW4.out]
  refine (hC.out _).mono ?_
  rintro e w1 ⟨rfl, hb1⟩
  have hs1 := hb1.size
  have sB := (hb1.block _ (show w.heap.size < W4.heap.size by omega)).trans HXW4.out.2.1
  have s0 : w1.cell? ⟨w.heap.size, 0, none⟩ = _ := cell_blk (i := 0) sB rfl
  have s1 : w1.cell? ⟨w.heap.size, 1, none⟩ = _ := cell_blk (i := 1) sB rfl
  have s2 : w1.cell? ⟨w.heap.size, 2, none⟩ = _ := cell_blk (i := 2) sB rfl
  have s3 : w1.cell? ⟨w.heap.size, 3, none⟩ = _ := cell_blk (i := 3) sB rfl
  clear sB
  have pB := (hb1.block _ (show w.heap.size + 1 < W4.heap.size by omega)).trans HXW4.out.2.2
  have p0 : w1.cell? ⟨w.heap.size + 1, 0, none⟩ = _ := cell_blk (i := 0) pB rfl
  have pz0 : w1.frozen? ⟨w.heap.size + 1, 0, none⟩ = _ := frozen_blk pB
  have p1 : w1.cell? ⟨w.heap.size + 1, 1, none⟩ = _ := cell_blk (i := 1) pB rfl
  have pz1 : w1.frozen? ⟨w.heap.size + 1, 1, none⟩ = _ := frozen_blk pB
  clear pB
  go_wp2
  refine bodyPost_ret (v := .tuple #[.agg #[.int .i64 0, .int .i64 0], .int .i64 1]) (by simp [results, Tryd.results9, go_sem, p0, p1]) rfl ?_
  exact ⟨rfl, (((HXW4.out.1.trans (hb1.mono (by omega))).setCell (by simp <;> omega) _).setCell (by simp <;> omega) _)⟩
set_option maxRecDepth 100000 in
set_option maxHeartbeats 2000000 in
theorem units_high (g c mn mx x : Int) (w : World) (hw : Shp.Wf ⟨g, c, mn, mx⟩) (h : Shp.ok ⟨g, c, mn, mx⟩ = true) (hx : 16 < x) :
    Calls Tryd.prog 9 #[.agg #[.int .i64 g, .int .i64 c, .int .i64 mn, .int .i64 mx], .int .i64 x] w fun e w' => e = .returned (.tuple #[.agg #[.int .i64 0, .int .i64 0], .int .i64 1]) ∧ Below w.heap.size w w' := by
  have hC := Lib.hid (fun W => check_ok g c mn mx W hw h)
  have t0 : decide (x < 0) = false := decide_eq_false (by omega)
  have t1 : decide (16 < x) = true := decide_eq_true hx
  obtain ⟨W4, hW4⟩ : ∃ W, W = (w.alloc (.cells #[.int .i64 g, .int .i64 c, .int .i64 mn, .int .i64 mx] 23)).alloc (.cells #[.int .i64 0, .int .i64 0] 31) := ⟨_, rfl⟩
  have hBW4 : Below w.heap.size w W4 := by rw [hW4]; exact (((Below.refl w.heap.size w).alloc (Nat.le_refl _) _).alloc (by simp <;> omega) _)
  have hzW4 : W4.heap.size = w.heap.size + 1 + 1 := by rw [hW4]; simp
  have b0W4 : W4.heap[w.heap.size]? = some (.cells #[.int .i64 g, .int .i64 c, .int .i64 mn, .int .i64 mx] 23 (0, 0)) := by
    have h9 := heap_alloc_new (w) (.cells #[.int .i64 g, .int .i64 c, .int .i64 mn, .int .i64 mx] 23)
    rw [hW4]; exact ((Below.heap_alloc _ _ _ (by simp <;> omega)).trans h9)
  have b1W4 : W4.heap[w.heap.size + 1]? = some (.cells #[.int .i64 0, .int .i64 0] 31 (0, 0)) := by
    have h9 := heap_alloc_new (w.alloc (.cells #[.int .i64 g, .int .i64 c, .int .i64 mn, .int .i64 mx] 23)) (.cells #[.int .i64 0, .int .i64 0] 31)
    rw [World.size_alloc] at h9
    rw [hW4]; exact h9
  have HXW4 := Lib.hid (And.intro hBW4 (And.intro b0W4 (b1W4)))
  have HW4 := Lib.hid hW4
  have hwW4 : w.heap.size + 1 + 1 ≤ W4.heap.size := by omega
  clear hw h hx
  clear hW4 hBW4 hzW4 b0W4 b1W4
  go_enter Tryd.func9, Tryd.ntmps9
  go_wp2_with fail
  rw [← HW4.out]
  refine (hC.out _).mono ?_
  rintro e w1 ⟨rfl, hb1⟩
  have hs1 := hb1.size
  have sB := (hb1.block _ (show w.heap.size < W4.heap.size by omega)).trans HXW4.out.2.1
  have s0 : w1.cell? ⟨w.heap.size, 0, none⟩ = _ := cell_blk (i := 0) sB rfl
  have s1 : w1.cell? ⟨w.heap.size, 1, none⟩ = _ := cell_blk (i := 1) sB rfl
  have s2 : w1.cell? ⟨w.heap.size, 2, none⟩ = _ := cell_blk (i := 2) sB rfl
  have s3 : w1.cell? ⟨w.heap.size, 3, none⟩ = _ := cell_blk (i := 3) sB rfl
  clear sB
  have pB := (hb1.block _ (show w.heap.size + 1 < W4.heap.size by omega)).trans HXW4.out.2.2
  have p0 : w1.cell? ⟨w.heap.size + 1, 0, none⟩ = _ := cell_blk (i := 0) pB rfl
  have pz0 : w1.frozen? ⟨w.heap.size + 1, 0, none⟩ = _ := frozen_blk pB
  have p1 : w1.cell? ⟨w.heap.size + 1, 1, none⟩ = _ := cell_blk (i := 1) pB rfl
  have pz1 : w1.frozen? ⟨w.heap.size + 1, 1, none⟩ = _ := frozen_blk pB
  clear pB
  go_wp2
  refine bodyPost_ret (v := .tuple #[.agg #[.int .i64 0, .int .i64 0], .int .i64 1]) (by simp [results, Tryd.results9, go_sem, p0, p1]) rfl ?_
  exact ⟨rfl, (((HXW4.out.1.trans (hb1.mono (by omega))).setCell (by simp <;> omega) _).setCell (by simp <;> omega) _)⟩
set_option maxRecDepth 100000 in
set_option maxHeartbeats 2000000 in
theorem units_ok (g c : Nat) (mn mx : Int) (x : Nat) (w : World) (hw : Shp.Wf ⟨g, c, mn, mx⟩) (h : Shp.ok ⟨g, c, mn, mx⟩ = true) (hx : x ≤ 16) :
    Calls Tryd.prog 9 #[.agg #[.int .i64 (g : Int), .int .i64 (c : Int), .int .i64 mn, .int .i64 mx], .int .i64 (x : Int)] w fun e w' => e = .returned (.tuple #[.agg #[.int .i64 ((g * x : Nat) : Int), .int .i64 ((c * x : Nat) : Int)], .int .i64 0]) ∧ Below w.heap.size w w' := by
  have hC := Lib.hid (fun W => check_ok g c mn mx W hw h)
  obtain ⟨a, b, ha, hb, ha2, hb2, _⟩ := Shp.nat h
  have hg16 : g ≤ 16 := by omega
  have hc16 : c ≤ 1024 := by omega
  have h1 := Nat.mul_le_mul hg16 hx
  have h2 := Nat.mul_le_mul hc16 hx
  have HP := Lib.hid (show wrap64 ((g : Int) * (x : Int)) = ((g * x : Nat) : Int) ∧ wrap64 ((c : Int) * (x : Int)) = ((c * x : Nat) : Int) from ⟨by rw [← Int.natCast_mul]; exact IntWalk.wrap64_in _ (by omega), by rw [← Int.natCast_mul]; exact IntWalk.wrap64_in _ (by omega)⟩)
  clear h1 h2
  obtain ⟨W4, hW4⟩ : ∃ W, W = (w.alloc (.cells #[.int .i64 (g : Int), .int .i64 (c : Int), .int .i64 mn, .int .i64 mx] 23)).alloc (.cells #[.int .i64 0, .int .i64 0] 31) := ⟨_, rfl⟩
  have hBW4 : Below w.heap.size w W4 := by rw [hW4]; exact (((Below.refl w.heap.size w).alloc (Nat.le_refl _) _).alloc (by simp <;> omega) _)
  have hzW4 : W4.heap.size = w.heap.size + 1 + 1 := by rw [hW4]; simp
  have b0W4 : W4.heap[w.heap.size]? = some (.cells #[.int .i64 (g : Int), .int .i64 (c : Int), .int .i64 mn, .int .i64 mx] 23 (0, 0)) := by
    have h9 := heap_alloc_new (w) (.cells #[.int .i64 (g : Int), .int .i64 (c : Int), .int .i64 mn, .int .i64 mx] 23)
    rw [hW4]; exact ((Below.heap_alloc _ _ _ (by simp <;> omega)).trans h9)
  have b1W4 : W4.heap[w.heap.size + 1]? = some (.cells #[.int .i64 0, .int .i64 0] 31 (0, 0)) := by
    have h9 := heap_alloc_new (w.alloc (.cells #[.int .i64 (g : Int), .int .i64 (c : Int), .int .i64 mn, .int .i64 mx] 23)) (.cells #[.int .i64 0, .int .i64 0] 31)
    rw [World.size_alloc] at h9
    rw [hW4]; exact h9
  have HXW4 := Lib.hid (And.intro hBW4 (And.intro b0W4 (b1W4)))
  have HW4 := Lib.hid hW4
  have hwW4 : w.heap.size + 1 + 1 ≤ W4.heap.size := by omega
  clear hw h ha hb
  clear hW4 hBW4 hzW4 b0W4 b1W4
  go_enter Tryd.func9, Tryd.ntmps9
  go_wp2_with fail
  rw [← HW4.out]
  refine (hC.out _).mono ?_
  rintro e w1 ⟨rfl, hb1⟩
  have hs1 := hb1.size
  have sB := (hb1.block _ (show w.heap.size < W4.heap.size by omega)).trans HXW4.out.2.1
  have s0 : w1.cell? ⟨w.heap.size, 0, none⟩ = _ := cell_blk (i := 0) sB rfl
  have s1 : w1.cell? ⟨w.heap.size, 1, none⟩ = _ := cell_blk (i := 1) sB rfl
  have s2 : w1.cell? ⟨w.heap.size, 2, none⟩ = _ := cell_blk (i := 2) sB rfl
  have s3 : w1.cell? ⟨w.heap.size, 3, none⟩ = _ := cell_blk (i := 3) sB rfl
  clear sB
  have pB := (hb1.block _ (show w.heap.size + 1 < W4.heap.size by omega)).trans HXW4.out.2.2
  have p0 : w1.cell? ⟨w.heap.size + 1, 0, none⟩ = _ := cell_blk (i := 0) pB rfl
  have pz0 : w1.frozen? ⟨w.heap.size + 1, 0, none⟩ = _ := frozen_blk pB
  have p1 : w1.cell? ⟨w.heap.size + 1, 1, none⟩ = _ := cell_blk (i := 1) pB rfl
  have pz1 : w1.frozen? ⟨w.heap.size + 1, 1, none⟩ = _ := frozen_blk pB
  clear pB
  go_wp2
  simp only [HP.out.1, HP.out.2]
  refine bodyPost_ret (v := .tuple #[.agg #[.int .i64 ((g * x : Nat) : Int), .int .i64 ((c * x : Nat) : Int)], .int .i64 0]) (by simp [results, Tryd.results9, go_sem, p0, p1]) rfl ?_
  exact ⟨rfl, (((HXW4.out.1.trans (hb1.mono (by omega))).setCell (by simp <;> omega) _).setCell (by simp <;> omega) _)⟩
end Go.Proofs.YtjenokegpbhciaaDoor
