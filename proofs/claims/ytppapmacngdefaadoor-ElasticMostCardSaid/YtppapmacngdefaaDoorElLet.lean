/- let of package elastic: whether a hold leaves the head its promise. -/
import Derived.Test.YtppapmacngdefaaDoorElHead
import Derived.Test.YtppapmacngdefaaDoorFilAft
set_option linter.unusedVariables false
set_option maxRecDepth 100000
namespace Go.Proofs.YtppapmacngdefaaDoor
open Go.RowKit
open PR
end Go.Proofs.YtppapmacngdefaaDoor
