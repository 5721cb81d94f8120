/- The head's want. -/
import Derived.RegionTactic
import Derived.BigRegion
import Derived.Deep.QuietTactic
import Derived.BigQuiet
import Derived.Deep.RegionWith
import Derived.Test.YtppapmacngdefaaDoorElAsk
set_option linter.unusedVariables false
set_option maxRecDepth 100000
namespace Go.Proofs.YtppapmacngdefaaDoor
open Go.RowKit
open PR
/-- What few says of what is seen. -/
structure LkF (L : Lk) : Prop where
  v : View L.lv
  n : L.lv.length ≤ 70
  e1 : L.le.length ≤ 20
  e2 : ∀ x ∈ L.le, x.sl.length ≤ 20
  f : ∀ u ∈ L.lf, -1048576 ≤ u.g ∧ u.g ≤ 1048576 ∧ -1048576 ≤ u.c ∧ u.c ≤ 1048576
  m : (turnL moreC L.lv (sl L.le)).1 = 0
  fl : L.lf.length ≤ 20
theorem left_in {L : Lk} {q : Int} {U : Lu} (h : leftL L q = some U) : U ∈ L.lf ∧ 0 ≤ q ∧ q < L.lf.length := by
  unfold leftL at h
  split at h
  · have h9 := (List.getElem?_eq_some_iff.1 h).1
    exact ⟨List.mem_of_getElem? h, by omega, by omega⟩
  · cases h
end Go.Proofs.YtppapmacngdefaaDoor
