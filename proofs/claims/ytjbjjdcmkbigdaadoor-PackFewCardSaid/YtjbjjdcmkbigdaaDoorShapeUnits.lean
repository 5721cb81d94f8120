/- Units of package shape: what so many members need together. -/
import Derived.Test.YtjbjjdcmkbigdaaDoorShapePiece
namespace Go.Proofs.YtjbjjdcmkbigdaaDoor
open Go.RowKit

end Go.Proofs.YtjbjjdcmkbigdaaDoor
