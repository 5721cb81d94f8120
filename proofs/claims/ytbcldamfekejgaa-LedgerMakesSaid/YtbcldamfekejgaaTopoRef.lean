/- The document's answers for layer 2: Count, All, Same, Index. -/
import Derived.Deep.QuietTactic
import Derived.BigQuiet
import Derived.Deep.RegionHeld3
import Derived.StillTailTactics
import Derived.Deep.DrawnRows
import Derived.Test.YtbcldamfekejgaaTopoLaws
import Derived.Test.YtbcldamfekejgaaMaskRefB
namespace Go.Proofs.Ytbcldamfekejgaa
open Go.RowKit
attribute [local go_sem ↓] Go.wp_at_zero Go.wp_at_succ

end Go.Proofs.Ytbcldamfekejgaa
