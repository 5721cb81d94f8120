/- The document's answers on shapes: Right, Units. -/
import Derived.Test.YtjenokegpbhciaaDoorShapeUnits
namespace Go.Proofs.YtjenokegpbhciaaDoor
open Go.RowKit

set_option maxRecDepth 100000 in
set_option maxHeartbeats 2000000 in
theorem refright_any (g c mn mx : Int) (w : World) (hw : Shp.Wf ⟨g, c, mn, mx⟩) :
    Calls Tryd.prog 11 #[.agg #[.int .i64 g, .int .i64 c, .int .i64 mn, .int .i64 mx]] w fun e w' => e = .returned (.bool (Shp.ok ⟨g, c, mn, mx⟩)) ∧ Below w.heap.size w w' := by
  obtain ⟨bg1, bg2⟩ := bounds_i64 hw.g
  obtain ⟨bc1, bc2⟩ := bounds_i64 hw.c
  obtain ⟨bn1, bn2⟩ := bounds_i64 hw.mn
  obtain ⟨bx1, bx2⟩ := bounds_i64 hw.mx
  obtain ⟨R, hR⟩ : ∃ R, R = Shp.ok ⟨g, c, mn, mx⟩ := ⟨_, rfl⟩
  rw [← hR]
  have HR := Lib.hid hR
  clear hR hw
  by_cases h0 : 0 ≤ g
  rotate_left
  · have e : R = false := by rw [HR.out]; unfold Shp.ok; simp only [decide_eq_false_iff_not]; omega
    subst e
    have t0 : decide (0 ≤ g) = false := decide_eq_false h0
    clear HR h0
    go_enter Tryd.func11, Tryd.ntmps11
    go_wp2
    go_ret
    exact ⟨rfl, (Below.refl _ w).alloc (Nat.le_refl _) _⟩
  have t0 : decide (0 ≤ g) = true := decide_eq_true h0
  by_cases h1 : g ≤ 16
  rotate_left
  · have e : R = false := by rw [HR.out]; unfold Shp.ok; simp only [decide_eq_false_iff_not]; omega
    subst e
    have t1 : decide (g ≤ 16) = false := decide_eq_false h1
    clear HR h1
    go_enter Tryd.func11, Tryd.ntmps11
    go_wp2
    go_ret
    exact ⟨rfl, (Below.refl _ w).alloc (Nat.le_refl _) _⟩
  have t1 : decide (g ≤ 16) = true := decide_eq_true h1
  by_cases h2 : 0 ≤ c
  rotate_left
  · have e : R = false := by rw [HR.out]; unfold Shp.ok; simp only [decide_eq_false_iff_not]; omega
    subst e
    have t2 : decide (0 ≤ c) = false := decide_eq_false h2
    clear HR h2
    go_enter Tryd.func11, Tryd.ntmps11
    go_wp2
    go_ret
    exact ⟨rfl, (Below.refl _ w).alloc (Nat.le_refl _) _⟩
  have t2 : decide (0 ≤ c) = true := decide_eq_true h2
  by_cases h3 : c ≤ 1024
  rotate_left
  · have e : R = false := by rw [HR.out]; unfold Shp.ok; simp only [decide_eq_false_iff_not]; omega
    subst e
    have t3 : decide (c ≤ 1024) = false := decide_eq_false h3
    clear HR h3
    go_enter Tryd.func11, Tryd.ntmps11
    go_wp2
    go_ret
    exact ⟨rfl, (Below.refl _ w).alloc (Nat.le_refl _) _⟩
  have t3 : decide (c ≤ 1024) = true := decide_eq_true h3
  by_cases h4 : 0 < g + c
  rotate_left
  · have e : R = false := by rw [HR.out]; unfold Shp.ok; simp only [decide_eq_false_iff_not]; omega
    subst e
    have t4 : decide (0 < g + c) = false := decide_eq_false h4
    clear HR h4
    go_enter Tryd.func11, Tryd.ntmps11
    go_wp2
    go_ret
    exact ⟨rfl, (Below.refl _ w).alloc (Nat.le_refl _) _⟩
  have t4 : decide (0 < g + c) = true := decide_eq_true h4
  by_cases h5 : 1 ≤ mn
  rotate_left
  · have e : R = false := by rw [HR.out]; unfold Shp.ok; simp only [decide_eq_false_iff_not]; omega
    subst e
    have t5 : decide (1 ≤ mn) = false := decide_eq_false h5
    clear HR h5
    go_enter Tryd.func11, Tryd.ntmps11
    go_wp2
    go_ret
    exact ⟨rfl, (Below.refl _ w).alloc (Nat.le_refl _) _⟩
  have t5 : decide (1 ≤ mn) = true := decide_eq_true h5
  by_cases h6 : mn ≤ mx
  rotate_left
  · have e : R = false := by rw [HR.out]; unfold Shp.ok; simp only [decide_eq_false_iff_not]; omega
    subst e
    have t6 : decide (mn ≤ mx) = false := decide_eq_false h6
    clear HR h6
    go_enter Tryd.func11, Tryd.ntmps11
    go_wp2
    go_ret
    exact ⟨rfl, (Below.refl _ w).alloc (Nat.le_refl _) _⟩
  have t6 : decide (mn ≤ mx) = true := decide_eq_true h6
  by_cases h7 : mx ≤ 16
  rotate_left
  · have e : R = false := by rw [HR.out]; unfold Shp.ok; simp only [decide_eq_false_iff_not]; omega
    subst e
    have t7 : decide (mx ≤ 16) = false := decide_eq_false h7
    clear HR h7
    go_enter Tryd.func11, Tryd.ntmps11
    go_wp2
    go_ret
    exact ⟨rfl, (Below.refl _ w).alloc (Nat.le_refl _) _⟩
  have t7 : decide (mx ≤ 16) = true := decide_eq_true h7
  have e : R = true := by rw [HR.out]; unfold Shp.ok; simp only [decide_eq_true_eq]; omega
  subst e
  clear HR
  go_enter Tryd.func11, Tryd.ntmps11
  go_wp2
  go_ret
  exact ⟨rfl, (Below.refl _ w).alloc (Nat.le_refl _) _⟩
set_option maxRecDepth 100000 in
set_option maxHeartbeats 2000000 in
theorem refunits_ok (g c : Nat) (mn mx : Int) (x : Nat) (w : World) (hg : g ≤ 16) (hc : c ≤ 1024) (hx : x ≤ 16) :
    Calls Tryd.prog 16 #[.agg #[.int .i64 (g : Int), .int .i64 (c : Int), .int .i64 mn, .int .i64 mx], .int .i64 (x : Int)] w fun e w' => e = .returned (.agg #[.int .i64 ((g * x : Nat) : Int), .int .i64 ((c * x : Nat) : Int)]) ∧ Below w.heap.size w w' := by
  obtain ⟨W3, hW3⟩ : ∃ W, W = ((w.alloc (.cells #[.int .i64 (g : Int), .int .i64 (c : Int), .int .i64 mn, .int .i64 mx] 23)).alloc (.cells #[.int .i64 0, .int .i64 0] 31)).alloc (.cells #[.int .i64 0, .int .i64 0] 31) := ⟨_, rfl⟩
  have hBW3 : Below w.heap.size w W3 := by rw [hW3]; exact ((((Below.refl w.heap.size w).alloc (Nat.le_refl _) _).alloc (by simp <;> omega) _).alloc (by simp <;> omega) _)
  have hzW3 : W3.heap.size = w.heap.size + 1 + 1 + 1 := by rw [hW3]; simp
  have b0W3 : W3.heap[w.heap.size]? = some (.cells #[.int .i64 (g : Int), .int .i64 (c : Int), .int .i64 mn, .int .i64 mx] 23 (0, 0)) := by
    have h9 := heap_alloc_new (w) (.cells #[.int .i64 (g : Int), .int .i64 (c : Int), .int .i64 mn, .int .i64 mx] 23)
    rw [hW3]; exact ((Below.heap_alloc _ _ _ (by simp <;> omega)).trans ((Below.heap_alloc _ _ _ (by simp <;> omega)).trans h9))
  have b1W3 : W3.heap[w.heap.size + 1]? = some (.cells #[.int .i64 0, .int .i64 0] 31 (0, 0)) := by
    have h9 := heap_alloc_new (w.alloc (.cells #[.int .i64 (g : Int), .int .i64 (c : Int), .int .i64 mn, .int .i64 mx] 23)) (.cells #[.int .i64 0, .int .i64 0] 31)
    rw [World.size_alloc] at h9
    rw [hW3]; exact ((Below.heap_alloc _ _ _ (by simp <;> omega)).trans h9)
  have b2W3 : W3.heap[w.heap.size + 1 + 1]? = some (.cells #[.int .i64 0, .int .i64 0] 31 (0, 0)) := by
    have h9 := heap_alloc_new ((w.alloc (.cells #[.int .i64 (g : Int), .int .i64 (c : Int), .int .i64 mn, .int .i64 mx] 23)).alloc (.cells #[.int .i64 0, .int .i64 0] 31)) (.cells #[.int .i64 0, .int .i64 0] 31)
    rw [World.size_alloc, World.size_alloc] at h9
    rw [hW3]; exact h9
  have HXW3 := Lib.hid (And.intro hBW3 (And.intro b0W3 (And.intro b1W3 (b2W3))))
  have HW3 := Lib.hid hW3
  have hwW3 : w.heap.size + 1 + 1 + 1 ≤ W3.heap.size := by omega
  clear hW3 hBW3 hzW3 b0W3 b1W3 b2W3
  obtain ⟨X, hX⟩ : ∃ X, X = g * x := ⟨_, rfl⟩
  obtain ⟨Y, hY⟩ : ∃ Y, Y = c * x := ⟨_, rfl⟩
  rw [← hX, ← hY]
  have HXY := Lib.hid (And.intro hX hY)
  clear hX hY
  go_enter Tryd.func16, Tryd.ntmps16
  go_wp2
  rw [← HW3.out]
  have hs0 := (Below.refl W3.heap.size W3)
  go_loopw [6] (fun i wr => ∃ j : Nat, i = .int .i64 j ∧ j ≤ x ∧ W3.heap.size ≤ wr.heap.size ∧ Hid (Below w.heap.size w wr ∧ ∃ a b : Nat, a = g * j ∧ b = c * j ∧ wr.heap[w.heap.size]? = some (.cells #[.int .i64 (g : Int), .int .i64 (c : Int), .int .i64 mn, .int .i64 mx] 23 (0, 0)) ∧ wr.heap[w.heap.size + 1]? = some (.cells #[.int .i64 0, .int .i64 0] 31 (0, 0)) ∧ wr.heap[w.heap.size + 1 + 1]? = some (.cells #[.int .i64 (a : Nat), .int .i64 (b : Nat)] 31 (0, 0)))) (fun i _ => x - (intOf i).toNat)
  case atStart => exact ⟨0, rfl, by omega, Nat.le_refl _, Lib.hid ⟨HXW3.out.1, 0, 0, by simp, by simp, HXW3.out.2.1, HXW3.out.2.2.1, HXW3.out.2.2.2⟩⟩
  case round =>
    obtain ⟨j, rfl, hj, hsz, hin⟩ := hrel
    obtain ⟨hB, a, b, ha, hb, k0, k1, k2⟩ := hin.out
    have s0 : wr.cell? ⟨w.heap.size, 0, none⟩ = _ := cell_blk (i := 0) k0 rfl
    have s1 : wr.cell? ⟨w.heap.size, 1, none⟩ = _ := cell_blk (i := 1) k0 rfl
    have r0 : wr.cell? ⟨w.heap.size + 1, 0, none⟩ = _ := cell_blk (i := 0) k1 rfl
    have r1 : wr.cell? ⟨w.heap.size + 1, 1, none⟩ = _ := cell_blk (i := 1) k1 rfl
    have rz0 : wr.frozen? ⟨w.heap.size + 1, 0, none⟩ = _ := frozen_blk k1
    have rz1 : wr.frozen? ⟨w.heap.size + 1, 1, none⟩ = _ := frozen_blk k1
    have u0 : wr.cell? ⟨w.heap.size + 1 + 1, 0, none⟩ = _ := cell_blk (i := 0) k2 rfl
    have u1 : wr.cell? ⟨w.heap.size + 1 + 1, 1, none⟩ = _ := cell_blk (i := 1) k2 rfl
    have uz0 : wr.frozen? ⟨w.heap.size + 1 + 1, 0, none⟩ = _ := frozen_blk k2
    have uz1 : wr.frozen? ⟨w.heap.size + 1 + 1, 1, none⟩ = _ := frozen_blk k2
    by_cases hlt : j < x
    · have a1 : a ≤ 256 := by rw [ha]; exact Nat.le_trans (Nat.mul_le_mul hg (show j ≤ 16 by omega)) (by omega)
      have b1 : b ≤ 16384 := by rw [hb]; exact Nat.le_trans (Nat.mul_le_mul hc (show j ≤ 16 by omega)) (by omega)
      have HA := Lib.hid (show a + g = g * (j + 1) ∧ b + c = c * (j + 1) by rw [ha, hb, Nat.mul_succ, Nat.mul_succ]; exact ⟨rfl, rfl⟩)
      have HK := Lib.hid (And.intro hB (And.intro k0 (And.intro k1 k2)))
      clear ha hb k0 k1 k2 hB hin
      go_wp2
      go_roundw
      case rel =>
        refine ⟨j + 1, by go_num, by omega, by simpa using hsz, Lib.hid ⟨(HK.out.1.setCell (by simp <;> omega) _).setCell (by simp <;> omega) _, a + g, b + c, HA.out.1, HA.out.2, ?_, ?_, ?_⟩⟩
        · exact (Below.heap_setCell _ _ _ _ (by simp <;> omega)).trans ((Below.heap_setCell _ _ _ _ (by simp <;> omega)).trans HK.out.2.1)
        · exact (Below.heap_setCell _ _ _ _ (by simp <;> omega)).trans ((Below.heap_setCell _ _ _ _ (by simp <;> omega)).trans HK.out.2.2.1)
        · have := blk_put (i := 1) (.int .i64 ((b : Int) + (c : Int))) (blk_put (i := 0) (.int .i64 ((a : Int) + (g : Int))) HK.out.2.2.2)
          simpa using this
      case measure => simp [intOf]; omega
    · obtain rfl : j = x := by omega
      obtain rfl : a = X := by rw [ha, HXY.out.1]
      obtain rfl : b = Y := by rw [hb, HXY.out.2]
      clear ha hb k0 k1 k2 hin hlt HXY
      have HB := Lib.hid hB
      clear hB
      go_wp2
      refine bodyPost_ret (v := .agg #[.int .i64 (a : Int), .int .i64 (b : Int)]) (by simp [results, Tryd.results16, go_sem, r0, r1]) rfl ?_
      exact ⟨rfl, (HB.out.setCell (by simp <;> omega) _).setCell (by simp <;> omega) _⟩
end Go.Proofs.YtjenokegpbhciaaDoor
