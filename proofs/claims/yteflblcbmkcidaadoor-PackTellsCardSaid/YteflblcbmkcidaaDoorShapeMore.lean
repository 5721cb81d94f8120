/- Into more no fewer members fit; of larger members no more do: plain facts, and what Fits answers as one number. -/
import Derived.WalkArith
import Derived.Test.YteflblcbmkcidaaDoorShapeBoth
namespace Go.Proofs.YteflblcbmkcidaaDoor
open Go.RowKit

namespace MM
theorem pc_and_le : ∀ (f a b : Nat), pc f (a &&& b) ≤ pc f b
  | 0, _, _ => Nat.le_refl _
  | f + 1, a, b => by
    unfold pc
    have h1 := pc_and_le f (a / 2) (b / 2)
    rw [← Nat.and_div_two] at h1
    have h2 : (a &&& b) % 2 ≤ b % 2 := by
      have := @Nat.and_mod_two_eq_one a b
      rcases Nat.mod_two_eq_zero_or_one (a &&& b) with e | e
      · omega
      · have := this.1 e; omega
    omega
theorem cnt_or_le (a b : Nat) : cnt a ≤ cnt (a ||| b) := by
  have h1 := cnt_add a b
  have h2 : cnt (a &&& b) ≤ cnt b := by rw [cnt_pc, cnt_pc]; exact pc_and_le 64 a b
  omega
end MM
def fitZ (g c u : Nat) (k : Int) : Nat := if k < 0 then 0 else fitN g c u k.toNat
theorem tms_more {n a b : Nat} (h : a ≤ b) : tms n a ≤ tms n b := by
  unfold tms; split
  · omega
  · exact Nat.div_le_div_right h
theorem tms_larger {n n' a : Nat} (h : n ≤ n') : min 16 (tms n' a) ≤ min 16 (tms n a) := by
  unfold tms
  by_cases h0 : n = 0
  · rw [if_pos h0]; omega
  · rw [if_neg h0, if_neg (by omega)]
    have : a / n' ≤ a / n := Nat.div_le_div_left h (by omega)
    omega
theorem fitZ_le (g c u : Nat) (k : Int) : fitZ g c u k ≤ 16 := by
  unfold fitZ; split
  · omega
  · exact fit_le _ _ _ _
theorem fitZ_more {g c u u' : Nat} {k k' : Int} (h : u ≤ u') (hk : k ≤ k') : fitZ g c u k ≤ fitZ g c u' k' := by
  unfold fitZ
  by_cases h0 : k < 0
  · rw [if_pos h0]; omega
  · rw [if_neg h0, if_neg (by omega)]
    unfold fitN
    have h1 := tms_more (n := g) h
    have h2 := tms_more (n := c) (show k.toNat ≤ k'.toNat by omega)
    omega
theorem fitZ_larger {g g' c c' u : Nat} {k : Int} (h : g ≤ g') (hc : c ≤ c') : fitZ g' c' u k ≤ fitZ g c u k := by
  unfold fitZ
  by_cases h0 : k < 0
  · rw [if_pos h0]; omega
  · rw [if_neg h0, if_neg h0]
    unfold fitN
    have h1 := tms_larger (a := u) h
    have h2 := tms_larger (a := k.toNat) hc
    omega
theorem fits_tell (g c : Nat) (mn mx x y : Int) (m : Nat) (k : Int) (w : World) (w0 : Shp.Wf ⟨g, c, mn, mx⟩) (hok : Shp.ok ⟨g, c, mn, mx⟩ = true) (wm : m < 18446744073709551616) (wk : (Lit.int .i64 k).wf = true) (hT : Tab w) :
    TellsFits 21 g c mn mx x y m k w (fitZ g c (MM.cnt m) k) := by
  obtain ⟨d1, d2⟩ := bounds_i64 wk
  intro W hW
  unfold fitZ
  by_cases hk : k < 0
  · rw [if_pos hk]; exact fits_neg g c mn mx x y m k W w0 hok hk
  · rw [if_neg hk]
    obtain ⟨q, rfl⟩ : ∃ q : Nat, k = q := ⟨k.toNat, by omega⟩
    exact fits_ok g c mn mx x y m q W w0 hok wm (by omega) (hT.below hW hT.size)
end Go.Proofs.YteflblcbmkcidaaDoor
