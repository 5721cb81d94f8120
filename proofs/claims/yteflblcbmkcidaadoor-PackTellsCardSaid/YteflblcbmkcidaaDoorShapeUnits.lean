/- Units of package shape: what so many members need together. -/
import Derived.Test.YteflblcbmkcidaaDoorShapePiece
namespace Go.Proofs.YteflblcbmkcidaaDoor
open Go.RowKit

end Go.Proofs.YteflblcbmkcidaaDoor
