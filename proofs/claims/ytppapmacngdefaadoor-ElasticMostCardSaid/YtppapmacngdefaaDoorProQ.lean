/- insertionSortCmpFunc of package slices, at holds in one block that rise: the piece is sorted by its key, like keys in the order in which they stood. -/
/- stableCmpFunc and SortStableFunc of package slices, at the first n holds in one block: sorted by the key. -/
import Derived.RegionTactic
import Derived.BigRegion
import Derived.BigQuiet
import Derived.Deep.QuietTactic
import Derived.Test.YtppapmacngdefaaDoorProP
import Derived.Test.YtppapmacngdefaaDoorProSym
import Derived.Test.YtppapmacngdefaaDoorPackO
set_option maxRecDepth 100000
set_option linter.unusedVariables false
namespace Go.Proofs.YtppapmacngdefaaDoor
open Go.RowKit
namespace HK
open PK
theorem asc_cons_mid {key : Nat → Nat} {A B : List Nat} {z : Nat} (h : Asc key (A ++ B)) (h1 : A = [] ∨ ∀ x, A.getLast? = some x → key x ≤ key z) (h2 : ∀ x ∈ B, key z ≤ key x) : Asc key (A ++ z :: B) := by
  obtain ⟨a1, a2, a3⟩ := List.pairwise_append.1 h
  refine List.pairwise_append.2 ⟨a1, List.pairwise_cons.2 ⟨h2, a2⟩, fun a ha b hb => ?_⟩
  have hz : key a ≤ key z := by
    rcases h1 with e | h1
    · subst e; cases ha
    · obtain ⟨i, hi⟩ := List.mem_iff_getElem?.1 ha
      have hl := lt_of_get hi
      obtain ⟨y, hy⟩ := get_of_lt (L := A) (k := A.length - 1) (by omega)
      exact Nat.le_trans (Asc.get a1 (by omega) hi hy) (h1 y (by rw [List.getLast?_eq_getElem?]; exact hy))
  rcases List.mem_cons.1 hb with rfl | hb
  · exact hz
  · exact a3 a ha b hb
/-- Of a list the one ahead is held against the one behind by their keys. -/
abbrev Rise (key : Nat → Nat) (lt : Nat → Nat → Bool) (Q : List Nat) : Prop := Q.Pairwise (fun x y => lt y x = decide (key y < key x))
end HK
open PK HK
end Go.Proofs.YtppapmacngdefaaDoor

set_option linter.unusedVariables false
namespace Go.Proofs.YtppapmacngdefaaDoor
open Go.RowKit
open PK HK
end Go.Proofs.YtppapmacngdefaaDoor
