/- A pool's Drain and Undrain. -/
import Derived.Test.YtbcldamfekejgaaPoolObj
namespace Go.Proofs.Ytbcldamfekejgaa
open Go.RowKit

theorem isDr_at {dr : List Bool} {x : Int} {b : Bool} (h0 : ¬ (x < 0 ∨ (dr.length : Int) ≤ x)) (h : isDr dr x = b) : ∃ k : Nat, x = k ∧ dr[k]? = some b := by
  obtain ⟨k, rfl⟩ : ∃ k : Nat, x = k := ⟨x.toNat, by omega⟩
  refine ⟨k, rfl, ?_⟩
  rw [isDr_nat] at h
  have hk : k < dr.length := by omega
  rw [List.getElem?_eq_getElem hk] at h ⊢
  simpa using h
end Go.Proofs.Ytbcldamfekejgaa
