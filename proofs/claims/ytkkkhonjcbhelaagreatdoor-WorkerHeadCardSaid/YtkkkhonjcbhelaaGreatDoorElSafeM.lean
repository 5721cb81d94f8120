import Derived.Test.YtkkkhonjcbhelaaGreatDoorElR
import Derived.Test.YtkkkhonjcbhelaaGreatDoorFilPos
set_option linter.unusedVariables false
namespace Go.Proofs.YtkkkhonjcbhelaaGreatDoor
open Go.RowKit
open PR
theorem MostE.same {L : Lk} {j : Jb} {n n' : Nat} {r r' : Int} (h : MostE L j n r) (k : MostE L j n' r') : r = r' ∧ (r = 0 → n = n') := by
 rcases h with ⟨h0, h1⟩ | ⟨h0, ⟨h1, h2⟩ | ⟨U, hU, h⟩⟩ <;> rcases k with ⟨k0, k1⟩ | ⟨k0, ⟨k1, k2⟩ | ⟨V, hV, k⟩⟩
 ·exact ⟨by omega, fun e => by omega⟩
 ·rw [h0] at k0; cases k0
 ·rw [h0] at k0; cases k0
 ·rw [h0] at k0; cases k0
 ·exact ⟨by omega, fun e => by omega⟩
 ·rw [h1] at hV; cases hV
 ·rw [h0] at k0; cases k0
 ·rw [k1] at hU; cases hU
 ·rw [hU] at hV;injection hV with e;subst e;exact h.same (fun m r r' a b => by rw [a, b]) k
theorem FillE.le {L : Lk} {j : Jb} {un : Int} {n n' m : Nat} {r q : Int} (h : FillE L j un n n' r) (k : MostE L j m q) : (q ≠ 0 → r = q) ∧ (r = 0 → q = 0 ∧ n' ≤ m ∧ LetR L j.id j.q un (placeF j.S L.lv n') 0) := by
 rcases h with ⟨E, hE, h0, h1⟩ | ⟨hE, h⟩
 ·obtain ⟨e1, _⟩ := hE.same k;exact ⟨fun _ => by omega, fun e => absurd (by omega) h0⟩
 ·obtain ⟨e1, e2⟩ := hE.same k;refine ⟨fun e => absurd e1.symm e, fun e => ?_⟩;rcases h with ⟨_, _, h2, h3, _⟩ | ⟨h9, _⟩
  ·exact ⟨e1.symm, by rw [← e2 rfl]; exact h2, h3⟩
  ·exact absurd e h9
theorem FillE.none_ {L : Lk} {j : Jb} {un : Int} {n n' m : Nat} {r q : Int} (h : FillE L j un n n' r) (k : MostE L j m q) (h0 : headL L = none ∨ j.id = L.hd) : r = q ∧ (r = 0 → n' = m) := by
 rcases h with ⟨E, hE, h1, h2⟩ | ⟨hE, h⟩
 ·obtain ⟨e1, _⟩ := hE.same k;exact ⟨by omega, fun e => absurd (by omega) h1⟩
 ·obtain ⟨e1, e2⟩ := hE.same k;rcases h with ⟨h1, _, h2, _, h4⟩ | ⟨h9, h8, _⟩
  ·refine ⟨by omega, fun _ => ?_⟩;rw [← e2 rfl];refine Nat.le_antisymm h2 (Nat.le_of_not_lt fun hlt => ?_);obtain ⟨r', hr, hl⟩ := h4 n hlt (Nat.le_refl _);exact hr (hl.none_ h0)
  ·exact absurd (LetR.none_ h8 h0) h9
theorem LetR.safe {L : Lk} {id q u : Int} {s : List Fe} {X : Wa} (h : LetR L id q u s 0) (h0 : id ≠ L.hd) (hX : headL L = some X) :
  ∃ U, leftL L X.q = some U ∧ ∃ T E, Aft L.now L.lv U.g U.c L.le X (hoOf q u s) T E ∧ safeB L.now L.pr T E = true := by
 rcases h with ⟨h1, _⟩ | ⟨_, Y, hY, h⟩
 ·rcases h1 with h1 | h1
  ·rw [h1] at hX; cases hX
  ·exact absurd h1 h0
 ·rw [hX] at hY;injection hY with e;subst e;rcases h with ⟨_, h⟩ | ⟨U, hU, T, E, hA, h⟩
  ·cases h
  ·refine ⟨U, hU, T, E, hA, ?_⟩
   cases hs : safeB L.now L.pr T E
   ·rw [hs] at h; cases h
   ·rfl
theorem safe_again {now pr g c T E T' E' : Int} {lv : List Fe} {l : List Ho} {X : Wa} {H H' : Ho} (h : Aft now lv g c l X H T E) (hs : safeB now pr T E = true) (k : Aft now lv g c l X H' T' E') (hq : H.q = H'.q) (hu : H.u = H'.u) (hsl : H.sl = H'.sl) : safeB now pr T' E' = true ∧ E' = 0 := by
 have h2 : Aft now lv g c l X H' T E := h.of_ hq.symm hu.symm hsl.symm;obtain ⟨rfl, rfl⟩ := h2.same k;refine ⟨hs, ?_⟩;unfold safeB at hs;simp at hs;exact hs.1
end Go.Proofs.YtkkkhonjcbhelaaGreatDoor
