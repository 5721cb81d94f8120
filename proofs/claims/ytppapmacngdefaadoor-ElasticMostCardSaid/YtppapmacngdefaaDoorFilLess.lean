/- Less of package pack, of whatever view, one without spots too. -/
import Derived.Test.YtppapmacngdefaaDoorProS
import Derived.Test.YtppapmacngdefaaDoorPackBack
set_option maxRecDepth 100000
set_option linter.unusedVariables false
namespace Go.Proofs.YtppapmacngdefaaDoor
open Go.RowKit
end Go.Proofs.YtppapmacngdefaaDoor
