/- slices.Concat at holds: two slices of holds, one behind the other, in a row of their own. -/
import Derived.Laws.EntriesVeiled
import Derived.Lib.SliceRun
import Derived.Lib.AppendZeros
import Derived.LoopN
import Derived.Test.YtppapmacngdefaaDoorProSort
set_option maxRecDepth 100000
set_option linter.unusedVariables false
namespace Go.Proofs.YtppapmacngdefaaDoor
open Go.RowKit
end Go.Proofs.YtppapmacngdefaaDoor
