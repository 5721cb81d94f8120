/- The document's answers for layer 2: All, Same, Index. -/
import Derived.Test.YtbcldamfekejgaaTopoRef
namespace Go.Proofs.Ytbcldamfekejgaa
open Go.RowKit
/-! ### All -/
end Go.Proofs.Ytbcldamfekejgaa
