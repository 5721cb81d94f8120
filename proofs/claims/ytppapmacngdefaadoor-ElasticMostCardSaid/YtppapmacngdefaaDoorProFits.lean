/- Fits of package promise: is there room for the want's members, and what they need left? -/
import Derived.RegionTactic
import Derived.BigRegion
import Derived.Test.YtppapmacngdefaaDoorProR
set_option linter.unusedVariables false
set_option maxRecDepth 100000
namespace Go.Proofs.YtppapmacngdefaaDoor
open Go.RowKit
end Go.Proofs.YtppapmacngdefaaDoor
