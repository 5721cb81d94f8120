/- changes of package fill: the closure is made; what it tells of a sight: the view without the hold's slots, the units left without its own, and it is one more of the holds. -/
import Derived.Laws.EntriesVeiled
import Derived.Test.YtppapmacngdefaaDoorFilLess
import Derived.Test.YtppapmacngdefaaDoorFilWith
import Derived.Test.YtppapmacngdefaaDoorFilCat
import Derived.Test.YtppapmacngdefaaDoorProS
set_option maxRecDepth 100000
set_option linter.unusedVariables false
namespace Go.Proofs.YtppapmacngdefaaDoor
open Go.RowKit
open PR
end Go.Proofs.YtppapmacngdefaaDoor
