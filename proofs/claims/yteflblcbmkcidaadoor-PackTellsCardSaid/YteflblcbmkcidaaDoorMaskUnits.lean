/- Units, at every mask: a new slice that holds the units, rising. -/
import Derived.Test.YteflblcbmkcidaaDoorMaskLowest
namespace Go.Proofs.YteflblcbmkcidaaDoor
open Go.RowKit Go.Shelf
attribute [local go_sem] Oper.semAt_some

theorem info_int : (Tryd.prog.info? 3).map (fun i => (i.zero, i.size, i.bytes)) = some (some (.int .i64 0), 1, 8) := by kernel_rfl

/-- The cells of a list of numbers. -/
def ints (l : List Nat) : List Value := l.map fun k => .int .i64 (k : Nat)

end Go.Proofs.YteflblcbmkcidaaDoor
