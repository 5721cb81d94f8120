/- Fill and Grow of package elastic. -/
import Derived.Test.YtppapmacngdefaaDoorElMake
import Derived.Test.YtppapmacngdefaaDoorElLet
set_option linter.unusedVariables false
set_option maxRecDepth 100000
namespace Go.Proofs.YtppapmacngdefaaDoor
open Go.RowKit
open PR
theorem most_bounds {L : Lk} {j : Jb} {n : Nat} (h : MostE L j n 0) : j.S.ok = true ∧ j.S.mn.toNat ≤ n ∧ n ≤ j.S.mx.toNat ∧ n ≤ roomF j.S L.lv ∧ ∃ U, leftL L j.q = some U ∧ MostR j.S L.lv U.g U.c n 0 := by
  rcases h with ⟨_, h⟩ | ⟨h0, ⟨_, h⟩ | ⟨U, hU, h⟩⟩
  · cases h
  · cases h
  · refine ⟨h0, ?_, ?_, ?_, U, hU, h⟩ <;> rcases h with ⟨_, h1, h2, h3, _⟩ | ⟨h9, _⟩
    · exact h1
    · exact absurd rfl h9
    · exact h2
    · exact absurd rfl h9
    · exact (plE_zero.1 h3.symm).1
    · exact absurd rfl h9
end Go.Proofs.YtppapmacngdefaaDoor
