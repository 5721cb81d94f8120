/- What Less leaves is no less than nothing. No program is walked. -/
import Derived.Test.YtppapmacngdefaaGreatDoorFilM
set_option linter.unusedVariables false
namespace Go.Proofs.YtppapmacngdefaaGreatDoor
open Go.RowKit
theorem less_pos0 : ∀ (ss : List Fe) {l : List Fe}, (∀ f ∈ l, 0 ≤ f.c) → (turnL lessC l ss).1 = 0 → ∀ f ∈ (turnL lessC l ss).2, 0 ≤ f.c
 | [], l, h, _ => by rw [turnL]; exact h
 | s :: ss, l, h, h0 => by
  have h1 : turnL lessC l (s :: ss) = (0, (turnL lessC l (s :: ss)).2) := Prod.ext h0 rfl
  obtain ⟨a, ha, ha2⟩ := turnL_cons h1
  have hb : ∀ f ∈ a, 0 ≤ f.c := by
   obtain ⟨s0, k, f, hk, hf, hm, hc, rfl⟩ := stepL_less ha
   intro g hg
   rcases List.mem_or_eq_of_mem_set hg with hg | rfl
   ·exact h g hg
   ·simp only; omega
  have h2 := less_pos0 ss hb (by rw [ha2])
  rw [ha2] at h2
  exact h2
theorem less_pos {l : List Fe} {H : Ho} (hv : View l) (_ : ∀ s ∈ H.sl, FeOk s) (h0 : (turnL lessC l H.sl).1 = 0) : ∀ f ∈ (turnL lessC l H.sl).2, 0 ≤ f.c := less_pos0 H.sl (fun f hf => (hv.ok f hf).2.1) h0
end Go.Proofs.YtppapmacngdefaaGreatDoor
