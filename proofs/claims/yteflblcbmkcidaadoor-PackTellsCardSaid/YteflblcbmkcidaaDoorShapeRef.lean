/- The document's answers on shapes: Right, Units. -/
import Derived.Test.YteflblcbmkcidaaDoorShapeUnits
namespace Go.Proofs.YteflblcbmkcidaaDoor
open Go.RowKit

set_option maxRecDepth 100000 in
set_option maxHeartbeats 2000000 in
theorem refright_any (g c mn mx : Int) (w : World) (hw : Shp.Wf ⟨g, c, mn, mx⟩) :
    Calls Tryd.prog 17 #[.agg #[.int .i64 g, .int .i64 c, .int .i64 mn, .int .i64 mx]] w fun e w' => e = .returned (.bool (Shp.ok ⟨g, c, mn, mx⟩)) ∧ Below w.heap.size w w' := by
  obtain ⟨bg1, bg2⟩ := bounds_i64 hw.g
  obtain ⟨bc1, bc2⟩ := bounds_i64 hw.c
  obtain ⟨bn1, bn2⟩ := bounds_i64 hw.mn
  obtain ⟨bx1, bx2⟩ := bounds_i64 hw.mx
  obtain ⟨R, hR⟩ : ∃ R, R = Shp.ok ⟨g, c, mn, mx⟩ := ⟨_, rfl⟩
  rw [← hR]
  have HR := Lib.hid hR
  clear hR hw
  by_cases h0 : 0 ≤ g
  rotate_left
  · have e : R = false := by rw [HR.out]; unfold Shp.ok; simp only [decide_eq_false_iff_not]; omega
    subst e
    have t0 : decide (0 ≤ g) = false := decide_eq_false h0
    clear HR h0
    go_enter Tryd.func17, Tryd.ntmps17
    go_wp2
    go_ret
    exact ⟨rfl, (Below.refl _ w).alloc (Nat.le_refl _) _⟩
  have t0 : decide (0 ≤ g) = true := decide_eq_true h0
  by_cases h1 : g ≤ 16
  rotate_left
  · have e : R = false := by rw [HR.out]; unfold Shp.ok; simp only [decide_eq_false_iff_not]; omega
    subst e
    have t1 : decide (g ≤ 16) = false := decide_eq_false h1
    clear HR h1
    go_enter Tryd.func17, Tryd.ntmps17
    go_wp2
    go_ret
    exact ⟨rfl, (Below.refl _ w).alloc (Nat.le_refl _) _⟩
  have t1 : decide (g ≤ 16) = true := decide_eq_true h1
  by_cases h2 : 0 ≤ c
  rotate_left
  · have e : R = false := by rw [HR.out]; unfold Shp.ok; simp only [decide_eq_false_iff_not]; omega
    subst e
    have t2 : decide (0 ≤ c) = false := decide_eq_false h2
    clear HR h2
    go_enter Tryd.func17, Tryd.ntmps17
    go_wp2
    go_ret
    exact ⟨rfl, (Below.refl _ w).alloc (Nat.le_refl _) _⟩
  have t2 : decide (0 ≤ c) = true := decide_eq_true h2
  by_cases h3 : c ≤ 1024
  rotate_left
  · have e : R = false := by rw [HR.out]; unfold Shp.ok; simp only [decide_eq_false_iff_not]; omega
    subst e
    have t3 : decide (c ≤ 1024) = false := decide_eq_false h3
    clear HR h3
    go_enter Tryd.func17, Tryd.ntmps17
    go_wp2
    go_ret
    exact ⟨rfl, (Below.refl _ w).alloc (Nat.le_refl _) _⟩
  have t3 : decide (c ≤ 1024) = true := decide_eq_true h3
  by_cases h4 : 0 < g + c
  rotate_left
  · have e : R = false := by rw [HR.out]; unfold Shp.ok; simp only [decide_eq_false_iff_not]; omega
    subst e
    have t4 : decide (0 < g + c) = false := decide_eq_false h4
    clear HR h4
    go_enter Tryd.func17, Tryd.ntmps17
    go_wp2
    go_ret
    exact ⟨rfl, (Below.refl _ w).alloc (Nat.le_refl _) _⟩
  have t4 : decide (0 < g + c) = true := decide_eq_true h4
  by_cases h5 : 1 ≤ mn
  rotate_left
  · have e : R = false := by rw [HR.out]; unfold Shp.ok; simp only [decide_eq_false_iff_not]; omega
    subst e
    have t5 : decide (1 ≤ mn) = false := decide_eq_false h5
    clear HR h5
    go_enter Tryd.func17, Tryd.ntmps17
    go_wp2
    go_ret
    exact ⟨rfl, (Below.refl _ w).alloc (Nat.le_refl _) _⟩
  have t5 : decide (1 ≤ mn) = true := decide_eq_true h5
  by_cases h6 : mn ≤ mx
  rotate_left
  · have e : R = false := by rw [HR.out]; unfold Shp.ok; simp only [decide_eq_false_iff_not]; omega
    subst e
    have t6 : decide (mn ≤ mx) = false := decide_eq_false h6
    clear HR h6
    go_enter Tryd.func17, Tryd.ntmps17
    go_wp2
    go_ret
    exact ⟨rfl, (Below.refl _ w).alloc (Nat.le_refl _) _⟩
  have t6 : decide (mn ≤ mx) = true := decide_eq_true h6
  by_cases h7 : mx ≤ 16
  rotate_left
  · have e : R = false := by rw [HR.out]; unfold Shp.ok; simp only [decide_eq_false_iff_not]; omega
    subst e
    have t7 : decide (mx ≤ 16) = false := decide_eq_false h7
    clear HR h7
    go_enter Tryd.func17, Tryd.ntmps17
    go_wp2
    go_ret
    exact ⟨rfl, (Below.refl _ w).alloc (Nat.le_refl _) _⟩
  have t7 : decide (mx ≤ 16) = true := decide_eq_true h7
  have e : R = true := by rw [HR.out]; unfold Shp.ok; simp only [decide_eq_true_eq]; omega
  subst e
  clear HR
  go_enter Tryd.func17, Tryd.ntmps17
  go_wp2
  go_ret
  exact ⟨rfl, (Below.refl _ w).alloc (Nat.le_refl _) _⟩
end Go.Proofs.YteflblcbmkcidaaDoor
