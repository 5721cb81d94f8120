/- What Less leaves is no less than nothing. No program is walked. -/
import Derived.Test.YthnjbhkhmoddpaaGreatDoorFilM
set_option linter.unusedVariables false
namespace Go.Proofs.YthnjbhkhmoddpaaGreatDoor
open Go.RowKit
end Go.Proofs.YthnjbhkhmoddpaaGreatDoor
