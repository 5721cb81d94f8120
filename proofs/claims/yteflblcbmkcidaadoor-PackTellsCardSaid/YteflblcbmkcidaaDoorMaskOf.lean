/- Of, at every list of numbers. -/
import Derived.Test.YteflblcbmkcidaaDoorMaskWalks
namespace Go.Proofs.YteflblcbmkcidaaDoor
open Go.RowKit

/-- The slice's cells read as the list. -/
def Cells (w : World) (b off : Nat) (l : List Int) : Prop := ∀ i, i < l.length → w.cell? ⟨b, off + i, none⟩ = some (.int .i64 (l[i]?.getD 0))

end Go.Proofs.YteflblcbmkcidaaDoor
