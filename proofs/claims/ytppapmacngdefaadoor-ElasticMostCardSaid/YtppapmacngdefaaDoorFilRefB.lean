/- What the document's Less tells, by its error. -/
import Derived.Test.YtppapmacngdefaaDoorFilRefL
set_option maxRecDepth 100000
set_option linter.unusedVariables false
namespace Go.Proofs.YtppapmacngdefaaDoor
open Go.RowKit
open PR
theorem refless_of (A : Option Addr) (c : Nat) (l : List Fe) (SA : Option Addr) (sc : Nat) (ss : List Fe) (E : Int) (lv2 : List Fe) (w : World) (hE : turnL lessC l ss = (E, lv2)) (h : Fes w w.heap.size A l) (hv : View l) (hn : l.length ≤ 1000) (hs : Fes w w.heap.size SA ss) (hso : ∀ s ∈ ss, FeOk s) (hsn : ss.length ≤ 100000) :
    Calls Tryd.prog 9 #[.slice A l.length c, .slice SA ss.length sc] w fun e w' => (E = 0 → ∃ A' c', Hid (Fes w' w'.heap.size A' lv2 ∧ lv2.length = l.length ∧ View lv2) ∧ e = .returned (.tuple #[.slice A' l.length c', .int .i64 0])) ∧ (E ≠ 0 → e = .returned (.tuple #[.slice none 0 0, .int .i64 E])) ∧ Below w.heap.size w w' := by
  refine (refless05_any A c l SA sc ss w h hv hn hs hso hsn).mono ?_
  rintro e w' ⟨hb, A', c', hf, he⟩
  rw [hE] at hf he
  refine ⟨fun h0 => ⟨A', c', Lib.hid ?_, ?_⟩, fun h0 => ?_, hb⟩
  · rcases hf.out with hf | hf
    · exact hf
    · exact absurd h0 hf
  · simp only [h0, if_true] at he; exact he
  · simp only [if_neg h0] at he; exact he
end Go.Proofs.YtppapmacngdefaaDoor
