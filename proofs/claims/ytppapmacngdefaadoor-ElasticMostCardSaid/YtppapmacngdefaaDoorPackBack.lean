/- What was taken off, put back: the view. Plain facts. -/
import Derived.Test.YtppapmacngdefaaDoorPackS
namespace Go.Proofs.YtppapmacngdefaaDoor
open Go.RowKit
open PK
end Go.Proofs.YtppapmacngdefaaDoor
