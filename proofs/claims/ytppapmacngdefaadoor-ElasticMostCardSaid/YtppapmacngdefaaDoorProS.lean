/- More of package pack, of whatever view, one without spots too. -/
/- inSteps of package promise: the closure that is asked for ticks, rising: what is free, and left of the queue, at each. -/
/- inSteps of package promise: the closure is made. -/
import Derived.Test.YtppapmacngdefaaDoorPackS
import Derived.RegionTactic
import Derived.BigRegion
import Derived.Deep.QuietTactic
import Derived.BigQuiet
import Derived.StillTail
import Derived.StillTailTactics
import Derived.Deep.DrawnRows
import Derived.Test.YtppapmacngdefaaDoorProP
import Derived.Test.YtppapmacngdefaaDoorProR
set_option maxRecDepth 100000
set_option maxRecDepth 100000
set_option linter.unusedVariables false
namespace Go.Proofs.YtppapmacngdefaaDoor
open Go.RowKit
end Go.Proofs.YtppapmacngdefaaDoor

set_option linter.unusedVariables false
set_option maxRecDepth 100000
namespace Go.Proofs.YtppapmacngdefaaDoor
open Go.RowKit
open PR
/-- What the closure refers to: four boxes, one behind the other: what is free, what is left, the holds to come, the queue. -/
structure StepAt (w : World) (B S : Nat) (lv : List Fe) (g c : Int) (D : List Ho) (q : Int) : Prop where
  v : ∃ A cp, w.heap[S]? = some (.cells #[.slice A lv.length cp] 22 (0, 0)) ∧ Fes w w.heap.size A lv
  l : w.heap[S + 1]? = some (.cells #[.int .i64 g, .int .i64 c] 40 (0, 0))
  d : ∃ A cp, w.heap[S + 2]? = some (.cells #[.slice A D.length cp] 24 (0, 0)) ∧ HosIn w B A D ∧ D.length ≤ cp
  q : w.heap[S + 3]? = some (.cells #[.int .i64 q] 3 (0, 0))
  b : B ≤ S
  view : View lv
theorem StepAt.below {w w' : World} {B S : Nat} {lv : List Fe} {g c : Int} {D : List Ho} {q : Int} (h : StepAt w B S lv g c D q) (hk : Below w.heap.size w w') : StepAt w' B S lv g c D q := by
  obtain ⟨A, cp, h1, h2⟩ := h.v
  obtain ⟨A', cp', h3, h4, h5⟩ := h.d
  have lS := blk_lt h.q
  have e : ∀ i, i ≤ S + 3 → w'.heap[i]? = w.heap[i]? := fun i hi => hk.block i (by omega)
  exact ⟨⟨A, cp, (e _ (by omega)).trans h1, h2.keep hk hk.size⟩, (e _ (by omega)).trans h.l, ⟨A', cp', (e _ (by omega)).trans h3, h4.keep (hk.mono (by have := h.b; omega)) (Nat.le_refl _), h5⟩, (e _ (by omega)).trans h.q, h.b, h.view⟩
end Go.Proofs.YtppapmacngdefaaDoor

set_option linter.unusedVariables false
set_option maxRecDepth 100000
namespace Go.Proofs.YtppapmacngdefaaDoor
open Go.RowKit
open PR
end Go.Proofs.YtppapmacngdefaaDoor
