/- Less of package pack, of whatever view, one without spots too. -/
import Derived.Test.YtppapmacngdefaaDoorProS
import Derived.Test.YtppapmacngdefaaDoorPackBack
set_option maxRecDepth 100000
set_option linter.unusedVariables false
namespace Go.Proofs.YtppapmacngdefaaDoor
open Go.RowKit
theorem nilE_less (ss : List Fe) : turnL lessC [] ss = (nilE ss, []) := by
  cases ss with
  | nil => rfl
  | cons s ss =>
    unfold nilE
    rw [turnL]
    unfold stepL
    by_cases h : s.c < 0
    · simp only [if_pos h]
      rw [if_neg (by decide)]
    · simp only [if_neg h, hitL, List.findIdx?_nil]
      rw [if_neg (by decide)]
set_option maxRecDepth 100000 in
theorem less_nil (A : Option Addr) (cap : Nat) (SA : Option Addr) (scap : Nat) (ss : List Fe) (w : World) (hs : Fes w w.heap.size SA ss) (hso : ∀ s ∈ ss, FeOk s) :
    Calls Tryd.prog 66 #[.slice A 0 cap, .slice SA ss.length scap] w fun e w' => Below w.heap.size w w' ∧ ∃ A' c' E, E = nilE ss ∧ ((E = 0 ∧ e = .returned (.tuple #[.slice A' 0 c', .int .i64 0])) ∨ (E ≠ 0 ∧ e = .returned (.tuple #[.slice none 0 0, .int .i64 E]))) := by
  have hT := Lib.hid (turn_nil A cap SA scap ss (.func (.func 80) #[] #[]) w hs hso)
  obtain ⟨q, hlq⟩ : ∃ n, ss.length = n := ⟨_, rfl⟩
  rw [hlq] at hT ⊢
  clear hs hso hlq
  go_enter Tryd.func66, Tryd.ntmps66
  go_wp2_with fail
  refine hT.out.mono ?_
  rintro e w2 ⟨hb2, A1, c1, E, hEE, ⟨rfl, rfl⟩ | ⟨hE, rfl⟩⟩
  · have HB := Lib.hid hb2
    have HEE := Lib.hid hEE
    clear hb2 hEE
    go_wp2
    go_ret2
    exact ⟨HB.out, A1, c1, 0, HEE.out, .inl ⟨rfl, rfl⟩⟩
  · have HB := Lib.hid hb2
    have HEE := Lib.hid hEE
    clear hb2 hEE
    go_wp2
    go_ret2
    exact ⟨HB.out, A1, c1, E, HEE.out, .inr ⟨hE, rfl⟩⟩
theorem pless_none (A : Option Addr) (c : Nat) (SA : Option Addr) (sc : Nat) (ss : List Fe) (w : World) (hv : View []) (hs : Fes w w.heap.size SA ss) (hso : ∀ s ∈ ss, FeOk s) :
    Calls Tryd.prog 66 #[.slice A 0 c, .slice SA ss.length sc] w fun e w' => Below w.heap.size w w' ∧ ∃ A' c', Hid (Fes w' w'.heap.size A' (turnL lessC [] ss).2 ∧ (turnL lessC [] ss).2.length = 0 ∧ View (turnL lessC [] ss).2 ∨ (turnL lessC [] ss).1 ≠ 0) ∧
      e = .returned (.tuple #[if (turnL lessC [] ss).1 = 0 then .slice A' 0 c' else .slice none 0 0, .int .i64 (turnL lessC [] ss).1]) := by
  refine (less_nil A c SA sc ss w hs hso).mono ?_
  rintro e w' ⟨hb, A', c', E, hE, ⟨h0, he⟩ | ⟨h0, he⟩⟩
  · refine ⟨hb, A', c', Lib.hid (.inl ?_), ?_⟩
    · rw [nilE_less]; exact ⟨.inl rfl, rfl, hv⟩
    · rw [nilE_less, ← hE, if_pos h0, he, h0]
  · refine ⟨hb, A', c', Lib.hid (.inr ?_), ?_⟩
    · rw [nilE_less, ← hE]; exact h0
    · rw [nilE_less, ← hE, if_neg h0, he]
theorem pless_any (A : Option Addr) (c : Nat) (l : List Fe) (SA : Option Addr) (sc : Nat) (ss : List Fe) (w : World) (h : Fes w w.heap.size A l) (hv : View l) (hn : l.length ≤ 100000) (hs : Fes w w.heap.size SA ss) (hso : ∀ s ∈ ss, FeOk s) (hsn : ss.length ≤ 100000) :
    Calls Tryd.prog 66 #[.slice A l.length c, .slice SA ss.length sc] w fun e w' => Below w.heap.size w w' ∧ ∃ A' c', Hid (Fes w' w'.heap.size A' (turnL lessC l ss).2 ∧ (turnL lessC l ss).2.length = l.length ∧ View (turnL lessC l ss).2 ∨ (turnL lessC l ss).1 ≠ 0) ∧
      e = .returned (.tuple #[if (turnL lessC l ss).1 = 0 then .slice A' l.length c' else .slice none 0 0, .int .i64 (turnL lessC l ss).1]) := by
  rcases h with h | ⟨b, off, rfl, hb, hc⟩
  · subst h; exact pless_none A c SA sc ss w hv hs hso
  · by_cases hl0 : 0 < l.length
    · refine (less_any b off c SA sc l ss w hc hb hl0 hn hv hs hso hsn).mono ?_
      rintro e w' ⟨hb9, h1, h2⟩
      by_cases hE : (turnL lessC l ss).1 = 0
      · obtain ⟨g, cap', he, hf⟩ := h1 hE
        exact ⟨hb9, _, cap', Lib.hid (.inl hf.out), by rw [if_pos hE, hE]; exact he⟩
      · exact ⟨hb9, none, 0, Lib.hid (.inr hE), by rw [if_neg hE]; exact h2 hE⟩
    · obtain rfl : l = [] := List.length_eq_zero_iff.1 (by omega)
      exact pless_none _ c SA sc ss w hv hs hso
end Go.Proofs.YtppapmacngdefaaDoor
