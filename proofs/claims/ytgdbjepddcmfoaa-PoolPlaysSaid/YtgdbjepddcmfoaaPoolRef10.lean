/- The document's pool: New, its parts. -/
import Derived.Test.YtgdbjepddcmfoaaHeldOn
import Derived.Test.YtgdbjepddcmfoaaPoolRef9
namespace Go.Proofs.Ytgdbjepddcmfoaa
open Go.RowKit

section
variable {P : Program} {ops : Array Oper} {Q : Exit → Act → World → Prop} {md : Region.Mode} {S : World → Prop}
/-- Two numbers may come up: each first. -/
theorem held_two (i j : Nat) {oi oj : Oper} {f : Nat} {listed : Array Bool} {a : Act} {w : World} (hi : ops[i]? = some oi) (hj : ops[j]? = some oj) (hr : Region.ready md ops listed = [i, j])
    (hwi : Region.wanted oi (yielded ops a.tmps) = true) (hwj : Region.wanted oj (yielded ops a.tmps) = true)
    (h1 : ∀ K : Act → World → Prop, Hid (∀ a' w', S w' → wpAnyH P md ops Q S f (listed.setIfInBounds i true) a' w' → K a' w') → oi.wp P a w K Q)
    (h2 : ∀ K : Act → World → Prop, Hid (∀ a' w', S w' → wpAnyH P md ops Q S f (listed.setIfInBounds j true) a' w' → K a' w') → oj.wp P a w K Q) : wpAnyH P md ops Q S (f + 1) listed a w := by
  refine wpAnyH_all hr (by simp) fun k hk => ?_
  have hk2 : k = i ∨ k = j := by simpa using hk
  rcases hk2 with rfl | rfl
  · unfold wpOp
    simp only [hi]
    rw [if_pos hwi]
    exact .inl (h1 _ (Lib.hid fun _ _ h1 h2 => ⟨h1, h2⟩))
  · unfold wpOp
    simp only [hj]
    rw [if_pos hwj]
    exact .inl (h2 _ (Lib.hid fun _ _ h1 h2 => ⟨h1, h2⟩))
end
/-- All's list is young. -/
theorem refall_young (A : Option Addr) (c : Nat) (ns : List (List (Int × Int))) (w W : World) (h : Nodes w w.heap.size A ns) (hB : Below w.heap.size w W) (hok : cluOk ns = true) :
    Calls Try.prog 22 #[.agg #[.slice A ns.length c]] W fun e w' => ∃ g cp, e = .returned (.slice (some ⟨g, 0, none⟩) (frees ns).length cp) ∧ W.heap.size ≤ g ∧ g < w'.heap.size ∧ (∀ i f, (frees ns)[i]? = some f → FrAt w' g (i * 4) f) ∧ Below W.heap.size W w' := by
  have h' := Nodes.keep h hB hB.size
  obtain ⟨x, hx⟩ := get_lt (l := ns) (k := 0) (by have := cluOk_len hok; omega)
  obtain ⟨b, off, rfl, hb, hc⟩ := h'.at_ hx
  refine (refall_loop b off c _ ns rfl W hb hc hok).mono fun e w' ⟨v, he, ho, hb⟩ => ?_
  obtain ⟨g, cap, rfl, hgB, hgl⟩ := ho.form (frees_pos hok)
  obtain ⟨hT, _, _⟩ := TakenAt.of_own ho
  exact ⟨g, cap, he, by omega, hgl, fun i f hf => hT.at_ hf, hb⟩
end Go.Proofs.Ytgdbjepddcmfoaa
