/- Earliest of package promise: the lowest tick at which the want fits. -/
import Derived.Test.YtppapmacngdefaaDoorProSort
import Derived.Test.YtppapmacngdefaaDoorProFits
import Derived.Test.YtppapmacngdefaaDoorProS
import Derived.Test.YtppapmacngdefaaDoorProR
set_option linter.unusedVariables false
set_option maxRecDepth 100000
namespace Go.Proofs.YtppapmacngdefaaDoor
open Go.RowKit
open PR
end Go.Proofs.YtppapmacngdefaaDoor
