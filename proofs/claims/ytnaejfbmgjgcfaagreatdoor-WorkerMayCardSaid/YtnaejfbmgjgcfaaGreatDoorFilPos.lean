/- What Less leaves is no less than nothing. No program is walked. -/
import Derived.Test.YtnaejfbmgjgcfaaGreatDoorFilM
set_option linter.unusedVariables false
namespace Go.Proofs.YtnaejfbmgjgcfaaGreatDoor
open Go.RowKit
end Go.Proofs.YtnaejfbmgjgcfaaGreatDoor
