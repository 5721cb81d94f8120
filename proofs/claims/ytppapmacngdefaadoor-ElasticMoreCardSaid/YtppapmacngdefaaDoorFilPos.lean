/- What Less leaves is no less than nothing. No program is walked. -/
import Derived.Test.YtppapmacngdefaaDoorFilM
set_option linter.unusedVariables false
namespace Go.Proofs.YtppapmacngdefaaDoor
open Go.RowKit
end Go.Proofs.YtppapmacngdefaaDoor
