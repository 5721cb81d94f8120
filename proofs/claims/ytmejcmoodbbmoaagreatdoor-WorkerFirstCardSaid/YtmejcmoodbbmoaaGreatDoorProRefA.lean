/- The document's Right, Fits and All of layer 12. -/
import Derived.RegionTactic
import Derived.BigRegion
import Derived.Test.YtmejcmoodbbmoaaGreatDoorShapeP
import Derived.Test.YtmejcmoodbbmoaaGreatDoorPackTellsM
import Derived.Test.YtmejcmoodbbmoaaGreatDoorProU
import Derived.Test.YtmejcmoodbbmoaaGreatDoorProR
set_option linter.unusedVariables false
set_option maxRecDepth 100000
namespace Go.Proofs.YtmejcmoodbbmoaaGreatDoor
open Go.RowKit
open PR
theorem refunits_want (X : Wa) (w : World) (hok : X.ok = true) :
  Calls Tryz.prog 28 #[.agg #[.int .i64 X.S.g, .int .i64 X.S.c, .int .i64 X.S.mn, .int .i64 X.S.mx], .int .i64 X.n] w fun e w' => e = .returned (.agg #[.int .i64 X.g, .int .i64 X.c]) ∧ Below w.heap.size w w' := by
 have eg : X.S.g * X.n = X.g := by unfold Wa.g; rw [hok]; rfl
 have ec : X.S.c * X.n = X.c := by unfold Wa.c; rw [hok]; rfl
 rw [← eg, ← ec]
 obtain ⟨q, n, ⟨g, c, mn, mx⟩⟩ := X
 unfold Wa.ok at hok
 simp only [Bool.and_eq_true, decide_eq_true_eq] at hok
 obtain ⟨h1, h2, h3⟩ := hok
 obtain ⟨g', c', rfl, rfl, hg, hc, _⟩ := Shp.nat h1
 obtain ⟨m, rfl⟩ : ∃ m : Nat, n = m := ⟨n.toNat, by omega⟩
 have h9 := refunits_ok g' c' mn mx m w hg hc (by omega)
 simpa using h9
end Go.Proofs.YtmejcmoodbbmoaaGreatDoor
