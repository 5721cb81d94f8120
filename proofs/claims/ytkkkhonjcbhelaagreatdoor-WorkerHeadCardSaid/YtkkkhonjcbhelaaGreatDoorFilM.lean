import Derived.Test.YtkkkhonjcbhelaaGreatDoorProR
import Derived.Test.YtkkkhonjcbhelaaGreatDoorPackBack
set_option linter.unusedVariables false
namespace Go.Proofs.YtkkkhonjcbhelaaGreatDoor
open Go.RowKit
namespace PR
def hg (H : Ho) (q : Int) : Nat := if H.q = q then gs H.sl else 0
def hc (H : Ho) (q : Int) : Int := if H.q = q then cs H.sl else 0
theorem sl_one (l : List Ho) (H : Ho) : sl (l ++ [H]) = sl l ++ H.sl := by rw [sl_app]; simp [sl]
theorem over_one (l : List Ho) (H : Ho) (t : Int) : over (l ++ [H]) t = over l t ++ if H.u ≤ t then [H] else [] := by
 unfold over;rw [List.filter_append]
 congr 1
 by_cases e : H.u ≤ t
 ·simp [e]
 ·simp [e]
def Aft (now : Int) (lv : List Fe) (g c : Int) (l : List Ho) (X : Wa) (H : Ho) (T E : Int) : Prop :=
 ((turnL lessC lv H.sl).1 ≠ 0 ∧ T = 0 ∧ E = (turnL lessC lv H.sl).1) ∨ ((turnL lessC lv H.sl).1 = 0 ∧ Earl now (turnL lessC lv H.sl).2 (g - hg H X.q) (c - hc H X.q) (l ++ [H]) X T E)
theorem Aft.same {now : Int} {lv : List Fe} {g c : Int} {l : List Ho} {X : Wa} {H : Ho} {T E T' E' : Int} (h : Aft now lv g c l X H T E) (k : Aft now lv g c l X H T' E') : T = T' ∧ E = E' := by
 rcases h with ⟨h0, h1, h2⟩ | ⟨h0, h⟩ <;> rcases k with ⟨k0, k1, k2⟩ | ⟨k0, k⟩
 ·omega
 ·exact absurd k0 h0
 ·exact absurd h0 k0
 ·exact h.same k
theorem Aft.ok {now : Int} {lv : List Fe} {g c : Int} {l : List Ho} {X : Wa} {H : Ho} {T : Int} (h : Aft now lv g c l X H T 0) : turnL lessC lv H.sl = (0, (turnL lessC lv H.sl).2) ∧ Earl now (turnL lessC lv H.sl).2 (g - hg H X.q) (c - hc H X.q) (l ++ [H]) X T 0 := by
 rcases h with ⟨h0, _, h⟩ | ⟨h0, h⟩
 ·exact absurd h.symm h0
 ·exact ⟨Prod.ext h0 rfl, h⟩
def safeB (now promised T E : Int) : Bool := decide (E = 0 ∧ (T ≤ promised ∨ T ≤ now))
end PR
end Go.Proofs.YtkkkhonjcbhelaaGreatDoor
