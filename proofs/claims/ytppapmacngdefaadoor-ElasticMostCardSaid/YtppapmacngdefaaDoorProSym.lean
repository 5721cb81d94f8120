/- symMergeCmpFunc whole: rows of two and more numbers each are cut at the middle, rotated, merged apart. -/
import Derived.RegionTactic
import Derived.BigRegion
import Derived.BigQuiet
import Derived.Deep.QuietTactic
import Derived.Test.YtppapmacngdefaaDoorProP
set_option linter.unusedVariables false
namespace Go.Proofs.YtppapmacngdefaaDoor
open Go.RowKit
namespace HK
open PK
theorem sym_join {key : Nat → Nat} {X Y Z1 Z2 : List Nat} {u v : Nat} (h1 : Z1.Perm (X.take u ++ Y.take v)) (h2 : Z2.Perm (X.drop u ++ Y.drop v)) (a1 : Asc key Z1) (a2 : Asc key Z2)
    (hc : ∀ z ∈ X.take u ++ Y.take v, ∀ z' ∈ X.drop u ++ Y.drop v, key z ≤ key z') : (Z1 ++ Z2).Perm (X ++ Y) ∧ Asc key (Z1 ++ Z2) := by
  refine ⟨(h1.append h2).trans ?_, List.pairwise_append.2 ⟨a1, a2, fun z hz z' hz' => hc z (h1.mem_iff.1 hz) z' (h2.mem_iff.1 hz')⟩⟩
  have e : X ++ Y = (X.take u ++ X.drop u) ++ (Y.take v ++ Y.drop v) := by rw [List.take_append_drop, List.take_append_drop]
  rw [e, List.append_assoc, List.append_assoc]
  refine List.Perm.append_left _ ?_
  rw [← List.append_assoc, ← List.append_assoc]
  exact (List.perm_append_comm).append_right _
end HK
open PK HK
end Go.Proofs.YtppapmacngdefaaDoor
