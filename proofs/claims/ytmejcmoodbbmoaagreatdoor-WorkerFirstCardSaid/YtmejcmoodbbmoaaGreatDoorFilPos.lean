/- What Less leaves is no less than nothing. No program is walked. -/
import Derived.Test.YtmejcmoodbbmoaaGreatDoorFilM
set_option linter.unusedVariables false
namespace Go.Proofs.YtmejcmoodbbmoaaGreatDoor
open Go.RowKit
end Go.Proofs.YtmejcmoodbbmoaaGreatDoor
