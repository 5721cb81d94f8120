/- After and Safe of package fill. -/
import Derived.Test.YtppapmacngdefaaDoorFilCl
import Derived.Test.YtppapmacngdefaaDoorProEarl
set_option maxRecDepth 100000
set_option linter.unusedVariables false
namespace Go.Proofs.YtppapmacngdefaaDoor
open Go.RowKit
open PR
end Go.Proofs.YtppapmacngdefaaDoor
