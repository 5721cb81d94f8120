/- Check of package shape: what a shape may be, asked of an array of its numbers. -/
import Derived.WalkKit
import Derived.Lib.Hide
import Derived.IntWalk
import Derived.Test.YteflblcbmkcidaaDoorMaskAwake
import Derived.Test.YteflblcbmkcidaaDoorBlk
namespace Go.Proofs.YteflblcbmkcidaaDoor
open Go.RowKit

/-- A shape's four numbers, and whether it may be. -/
structure Shp where
  g : Int
  c : Int
  mn : Int
  mx : Int
def Shp.v (s : Shp) : Value := .agg #[.int .i64 s.g, .int .i64 s.c, .int .i64 s.mn, .int .i64 s.mx]
def Shp.ok (s : Shp) : Bool := decide (0 ≤ s.g ∧ s.g ≤ 16 ∧ 0 ≤ s.c ∧ s.c ≤ 1024 ∧ 0 < s.g + s.c ∧ 1 ≤ s.mn ∧ s.mn ≤ s.mx ∧ s.mx ≤ 16)
structure Shp.Wf (s : Shp) : Prop where
  g : (Lit.int .i64 s.g).wf = true
  c : (Lit.int .i64 s.c).wf = true
  mn : (Lit.int .i64 s.mn).wf = true
  mx : (Lit.int .i64 s.mx).wf = true
def chk (b : Bool) : Int := if b = true then 0 else 1
theorem row_at0 (x0 x1 x2 x3 x4 x5 x6 x7 x8 x9 x10 x11 x12 x13 x14 : Value) (W : World) : (Instr.index 55 (.agg #[x0, x1, x2, x3, x4, x5, x6, x7, x8, x9, x10, x11, x12, x13, x14]) (.int .i64 0)).run Tryd.prog W = .ok (.agg #[x0, x1, x2]) W := by kernel_rfl
theorem row_at1 (x0 x1 x2 x3 x4 x5 x6 x7 x8 x9 x10 x11 x12 x13 x14 : Value) (W : World) : (Instr.index 55 (.agg #[x0, x1, x2, x3, x4, x5, x6, x7, x8, x9, x10, x11, x12, x13, x14]) (.int .i64 1)).run Tryd.prog W = .ok (.agg #[x3, x4, x5]) W := by kernel_rfl
theorem row_at2 (x0 x1 x2 x3 x4 x5 x6 x7 x8 x9 x10 x11 x12 x13 x14 : Value) (W : World) : (Instr.index 55 (.agg #[x0, x1, x2, x3, x4, x5, x6, x7, x8, x9, x10, x11, x12, x13, x14]) (.int .i64 2)).run Tryd.prog W = .ok (.agg #[x6, x7, x8]) W := by kernel_rfl
theorem row_at3 (x0 x1 x2 x3 x4 x5 x6 x7 x8 x9 x10 x11 x12 x13 x14 : Value) (W : World) : (Instr.index 55 (.agg #[x0, x1, x2, x3, x4, x5, x6, x7, x8, x9, x10, x11, x12, x13, x14]) (.int .i64 3)).run Tryd.prog W = .ok (.agg #[x9, x10, x11]) W := by kernel_rfl
theorem row_at4 (x0 x1 x2 x3 x4 x5 x6 x7 x8 x9 x10 x11 x12 x13 x14 : Value) (W : World) : (Instr.index 55 (.agg #[x0, x1, x2, x3, x4, x5, x6, x7, x8, x9, x10, x11, x12, x13, x14]) (.int .i64 4)).run Tryd.prog W = .ok (.agg #[x12, x13, x14]) W := by kernel_rfl
/-- How far the numbers have been asked. -/
def Asked (g c gs mn mx : Int) (k : Int) : Prop := (0 < k → 0 ≤ g ∧ g ≤ 16) ∧ (1 < k → 0 ≤ c ∧ c ≤ 1024) ∧ (2 < k → 1 ≤ gs ∧ gs ≤ 1040) ∧ (3 < k → 1 ≤ mn ∧ mn ≤ 16) ∧ (4 < k → mn ≤ mx ∧ mx ≤ 16)

set_option maxRecDepth 100000 in
set_option maxHeartbeats 4000000 in
theorem check_any (g c mn mx : Int) (w : World) (hg : (Lit.int .i64 g).wf = true) (hc : (Lit.int .i64 c).wf = true) (hn : (Lit.int .i64 mn).wf = true) (hx : (Lit.int .i64 mx).wf = true) :
    Calls Tryd.prog 12 #[.agg #[.int .i64 g, .int .i64 c, .int .i64 mn, .int .i64 mx]] w fun e w' => e = .returned (.int .i64 (chk (Shp.ok ⟨g, c, mn, mx⟩))) ∧ Below w.heap.size w w' := by
  obtain ⟨bg1, bg2⟩ := bounds_i64 hg
  obtain ⟨bc1, bc2⟩ := bounds_i64 hc
  obtain ⟨bn1, bn2⟩ := bounds_i64 hn
  obtain ⟨bx1, bx2⟩ := bounds_i64 hx
  obtain ⟨gs, hgs⟩ : ∃ gs, gs = wrap64 (g + c) := ⟨_, rfl⟩
  have hgr : 0 ≤ g → g ≤ 16 → 0 ≤ c → c ≤ 1024 → gs = g + c := fun _ _ _ _ => by rw [hgs]; exact IntWalk.wrap64_in _ (by omega)
  obtain ⟨R, hR⟩ : ∃ R, R = chk (Shp.ok ⟨g, c, mn, mx⟩) := ⟨_, rfl⟩
  rw [← hR]
  have H := Lib.hid (And.intro hgs hgr)
  have HR := Lib.hid hR
  clear hgs hgr hR hg hc hn hx
  have HNO : ∀ k : Int, k < 5 → 0 ≤ k → Asked g c gs mn mx k → ¬ Asked g c gs mn mx (k + 1) → R = 1 := fun k hk hk0 h h' => by
    rw [HR.out]; unfold chk Shp.ok
    have := H.out.2
    unfold Asked at h h'
    rw [if_neg]; simp; omega
  go_enter Tryd.func12, Tryd.ntmps12
  go_wp2
  rw [← H.out.1]
  generalize hW0 : ((w.alloc (Obj.cells #[Value.int IntKind.i64 g, Value.int IntKind.i64 c, Value.int IntKind.i64 mn, Value.int IntKind.i64 mx] 24)).alloc _) = W0
  have hB0 : Below w.heap.size w W0 := by rw [← hW0]; exact ((Below.refl _ w).alloc (Nat.le_refl _) _).alloc (by simp) _
  have hS0 := hB0.size
  have HB0 := Lib.hid hB0
  clear hW0 hB0
  go_loopw [28] (fun i wr => ∃ k : Int, i = .int .i64 k ∧ 0 ≤ k ∧ k ≤ 5 ∧ Hid (Below w.heap.size w wr ∧ Asked g c gs mn mx k)) (fun i _ => 5 - (intOf i).toNat)
  case atStart => exact ⟨0, rfl, by omega, by omega, Lib.hid ⟨HB0.out, by simp [Asked]⟩⟩
  case round =>
    obtain ⟨k, rfl, hk0, hk, hin⟩ := hrel
    rcases (show k = 0 ∨ k = 1 ∨ k = 2 ∨ k = 3 ∨ k = 4 ∨ k = 5 by omega) with rfl | rfl | rfl | rfl | rfl | rfl
    · have t0 : decide ((0 : Int) < 5) = true := by decide
      have hix := row_at0 (.int .i64 g) (.int .i64 0) (.int .i64 16) (.int .i64 c) (.int .i64 0) (.int .i64 1024) (.int .i64 gs) (.int .i64 1) (.int .i64 1040) (.int .i64 mn) (.int .i64 1) (.int .i64 16) (.int .i64 mx) (.int .i64 mn) (.int .i64 16)
      by_cases h1 : g < 0
      · have t1 : decide (g < 0) = true := decide_eq_true h1
        have hno := HNO 0 (by omega) (by omega) hin.out.2
        have e : R = 1 := hno (by unfold Asked; omega)
        subst e
        have HS := hin.out.1.size
        clear hno h1
        go_wp2
        go_ret
        exact ⟨rfl, hin.out.1.alloc HS _⟩
      by_cases h2 : 16 < g
      · have t1 : decide (g < 0) = false := decide_eq_false h1
        have t2 : decide (16 < g) = true := decide_eq_true h2
        have hno := HNO 0 (by omega) (by omega) hin.out.2
        have e : R = 1 := hno (by unfold Asked; omega)
        subst e
        have HS := hin.out.1.size
        clear hno h1 h2
        go_wp2
        go_ret
        exact ⟨rfl, hin.out.1.alloc HS _⟩
      have t1 : decide (g < 0) = false := decide_eq_false h1
      have t2 : decide (16 < g) = false := decide_eq_false h2
      have hA := hin.out.2
      have HA : Hid (Asked g c gs mn mx 1) := Lib.hid (by unfold Asked at hA ⊢; omega)
      have HB := Lib.hid hin.out.1
      have HS := hin.out.1.size
      clear hA h1 h2 hin
      go_wp2
      go_roundw
      case rel => exact ⟨1, rfl, by omega, by omega, Lib.hid ⟨HB.out.alloc HS _, HA.out⟩⟩
      case measure => simp [intOf]
    · have t0 : decide ((1 : Int) < 5) = true := by decide
      have hix := row_at1 (.int .i64 g) (.int .i64 0) (.int .i64 16) (.int .i64 c) (.int .i64 0) (.int .i64 1024) (.int .i64 gs) (.int .i64 1) (.int .i64 1040) (.int .i64 mn) (.int .i64 1) (.int .i64 16) (.int .i64 mx) (.int .i64 mn) (.int .i64 16)
      by_cases h1 : c < 0
      · have t1 : decide (c < 0) = true := decide_eq_true h1
        have hno := HNO 1 (by omega) (by omega) hin.out.2
        have e : R = 1 := hno (by unfold Asked; omega)
        subst e
        have HS := hin.out.1.size
        clear hno h1
        go_wp2
        go_ret
        exact ⟨rfl, hin.out.1.alloc HS _⟩
      by_cases h2 : 1024 < c
      · have t1 : decide (c < 0) = false := decide_eq_false h1
        have t2 : decide (1024 < c) = true := decide_eq_true h2
        have hno := HNO 1 (by omega) (by omega) hin.out.2
        have e : R = 1 := hno (by unfold Asked; omega)
        subst e
        have HS := hin.out.1.size
        clear hno h1 h2
        go_wp2
        go_ret
        exact ⟨rfl, hin.out.1.alloc HS _⟩
      have t1 : decide (c < 0) = false := decide_eq_false h1
      have t2 : decide (1024 < c) = false := decide_eq_false h2
      have hA := hin.out.2
      have HA : Hid (Asked g c gs mn mx 2) := Lib.hid (by unfold Asked at hA ⊢; omega)
      have HB := Lib.hid hin.out.1
      have HS := hin.out.1.size
      clear hA h1 h2 hin
      go_wp2
      go_roundw
      case rel => exact ⟨2, rfl, by omega, by omega, Lib.hid ⟨HB.out.alloc HS _, HA.out⟩⟩
      case measure => simp [intOf]
    · have t0 : decide ((2 : Int) < 5) = true := by decide
      have hix := row_at2 (.int .i64 g) (.int .i64 0) (.int .i64 16) (.int .i64 c) (.int .i64 0) (.int .i64 1024) (.int .i64 gs) (.int .i64 1) (.int .i64 1040) (.int .i64 mn) (.int .i64 1) (.int .i64 16) (.int .i64 mx) (.int .i64 mn) (.int .i64 16)
      by_cases h1 : gs < 1
      · have t1 : decide (gs < 1) = true := decide_eq_true h1
        have hno := HNO 2 (by omega) (by omega) hin.out.2
        have e : R = 1 := hno (by unfold Asked; omega)
        subst e
        have HS := hin.out.1.size
        clear hno h1
        go_wp2
        go_ret
        exact ⟨rfl, hin.out.1.alloc HS _⟩
      by_cases h2 : 1040 < gs
      · have t1 : decide (gs < 1) = false := decide_eq_false h1
        have t2 : decide (1040 < gs) = true := decide_eq_true h2
        have hno := HNO 2 (by omega) (by omega) hin.out.2
        have e : R = 1 := hno (by unfold Asked; omega)
        subst e
        have HS := hin.out.1.size
        clear hno h1 h2
        go_wp2
        go_ret
        exact ⟨rfl, hin.out.1.alloc HS _⟩
      have t1 : decide (gs < 1) = false := decide_eq_false h1
      have t2 : decide (1040 < gs) = false := decide_eq_false h2
      have hA := hin.out.2
      have HA : Hid (Asked g c gs mn mx 3) := Lib.hid (by unfold Asked at hA ⊢; omega)
      have HB := Lib.hid hin.out.1
      have HS := hin.out.1.size
      clear hA h1 h2 hin
      go_wp2
      go_roundw
      case rel => exact ⟨3, rfl, by omega, by omega, Lib.hid ⟨HB.out.alloc HS _, HA.out⟩⟩
      case measure => simp [intOf]
    · have t0 : decide ((3 : Int) < 5) = true := by decide
      have hix := row_at3 (.int .i64 g) (.int .i64 0) (.int .i64 16) (.int .i64 c) (.int .i64 0) (.int .i64 1024) (.int .i64 gs) (.int .i64 1) (.int .i64 1040) (.int .i64 mn) (.int .i64 1) (.int .i64 16) (.int .i64 mx) (.int .i64 mn) (.int .i64 16)
      by_cases h1 : mn < 1
      · have t1 : decide (mn < 1) = true := decide_eq_true h1
        have hno := HNO 3 (by omega) (by omega) hin.out.2
        have e : R = 1 := hno (by unfold Asked; omega)
        subst e
        have HS := hin.out.1.size
        clear hno h1
        go_wp2
        go_ret
        exact ⟨rfl, hin.out.1.alloc HS _⟩
      by_cases h2 : 16 < mn
      · have t1 : decide (mn < 1) = false := decide_eq_false h1
        have t2 : decide (16 < mn) = true := decide_eq_true h2
        have hno := HNO 3 (by omega) (by omega) hin.out.2
        have e : R = 1 := hno (by unfold Asked; omega)
        subst e
        have HS := hin.out.1.size
        clear hno h1 h2
        go_wp2
        go_ret
        exact ⟨rfl, hin.out.1.alloc HS _⟩
      have t1 : decide (mn < 1) = false := decide_eq_false h1
      have t2 : decide (16 < mn) = false := decide_eq_false h2
      have hA := hin.out.2
      have HA : Hid (Asked g c gs mn mx 4) := Lib.hid (by unfold Asked at hA ⊢; omega)
      have HB := Lib.hid hin.out.1
      have HS := hin.out.1.size
      clear hA h1 h2 hin
      go_wp2
      go_roundw
      case rel => exact ⟨4, rfl, by omega, by omega, Lib.hid ⟨HB.out.alloc HS _, HA.out⟩⟩
      case measure => simp [intOf]
    · have t0 : decide ((4 : Int) < 5) = true := by decide
      have hix := row_at4 (.int .i64 g) (.int .i64 0) (.int .i64 16) (.int .i64 c) (.int .i64 0) (.int .i64 1024) (.int .i64 gs) (.int .i64 1) (.int .i64 1040) (.int .i64 mn) (.int .i64 1) (.int .i64 16) (.int .i64 mx) (.int .i64 mn) (.int .i64 16)
      by_cases h1 : mx < mn
      · have t1 : decide (mx < mn) = true := decide_eq_true h1
        have hno := HNO 4 (by omega) (by omega) hin.out.2
        have e : R = 1 := hno (by unfold Asked; omega)
        subst e
        have HS := hin.out.1.size
        clear hno h1
        go_wp2
        go_ret
        exact ⟨rfl, hin.out.1.alloc HS _⟩
      by_cases h2 : 16 < mx
      · have t1 : decide (mx < mn) = false := decide_eq_false h1
        have t2 : decide (16 < mx) = true := decide_eq_true h2
        have hno := HNO 4 (by omega) (by omega) hin.out.2
        have e : R = 1 := hno (by unfold Asked; omega)
        subst e
        have HS := hin.out.1.size
        clear hno h1 h2
        go_wp2
        go_ret
        exact ⟨rfl, hin.out.1.alloc HS _⟩
      have t1 : decide (mx < mn) = false := decide_eq_false h1
      have t2 : decide (16 < mx) = false := decide_eq_false h2
      have hA := hin.out.2
      have HA : Hid (Asked g c gs mn mx 5) := Lib.hid (by unfold Asked at hA ⊢; omega)
      have HB := Lib.hid hin.out.1
      have HS := hin.out.1.size
      clear hA h1 h2 hin
      go_wp2
      go_roundw
      case rel => exact ⟨5, rfl, by omega, by omega, Lib.hid ⟨HB.out.alloc HS _, HA.out⟩⟩
      case measure => simp [intOf]
    · have t0 : decide ((5 : Int) < 5) = false := by decide
      have hA := hin.out.2
      have e : R = 0 := by
        rw [HR.out]; unfold Asked at hA; unfold chk Shp.ok
        have := H.out.2
        rw [if_pos]; simp; omega
      subst e
      clear hA
      go_wp2
      go_ret
      exact ⟨rfl, hin.out.1⟩
end Go.Proofs.YteflblcbmkcidaaDoor
