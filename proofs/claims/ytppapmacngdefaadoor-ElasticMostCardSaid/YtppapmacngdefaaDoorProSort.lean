/- byEnd of package promise: all of the holds, those that end earlier first, in a slice of their own. -/
import Derived.Laws.EntriesVeiled
import Derived.Lib.SliceRun
import Derived.Test.YtppapmacngdefaaDoorProQ
import Derived.Test.YtppapmacngdefaaDoorProR
import Derived.Test.YtppapmacngdefaaDoorPackQ
set_option maxRecDepth 100000
set_option linter.unusedVariables false
namespace Go.Proofs.YtppapmacngdefaaDoor
open Go.RowKit
end Go.Proofs.YtppapmacngdefaaDoor
