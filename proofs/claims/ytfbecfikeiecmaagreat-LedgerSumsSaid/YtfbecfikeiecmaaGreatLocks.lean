/- The mutex's functions and types under their numbers in this seat's translation; the library's contracts of its Lock and Unlock. -/
import Derived.Test.YtfbecfikeiecmaaGreatProg
import Derived.Conc.MuLone
import Derived.WalkKit
import Derived.Defers
import Derived.KernelRfl
namespace Go.Proofs.YtfbecfikeiecmaaGreat
open Go.RowKit Go.MuLone
abbrev muLink : Go.Conc.Locks.MuLink := { lock := 65, unlock := 66, ilock := 103, iunlock := 104, lockSlow := 131, unlockSlow := 134, disable := 127, enable := 129, acquire := 130, relMerge := 132, cas32 := 128, add32 := 133, tMutex := 91, tIMutex := 89, tPMutex := 174, tPIMutex := 194, tPI32 := 196, tUP := 198, tNoCopy := 86, tU32 := 87 }
theorem muLib : Go.Conc.Locks.MuLib Tryz.prog muLink :=
  ⟨Tryz.func65, Tryz.func66, Tryz.func103, Tryz.func104, Tryz.func127, Tryz.func129, Tryz.func130, Tryz.func132, Tryz.func128, Tryz.func133, Tryz.underlying89, Tryz.runUnderlying89, Tryz.sizeOf89, Tryz.isAgg89, Tryz.zeroValue89, Tryz.underlying91, Tryz.runUnderlying91, Tryz.sizeOf91, Tryz.isAgg91, Tryz.zeroValue91, Tryz.underlying174, Tryz.runUnderlying174, Tryz.sizeOf174, Tryz.isAgg174, Tryz.zeroValue174, Tryz.underlying194, Tryz.runUnderlying194, Tryz.sizeOf194, Tryz.isAgg194, Tryz.zeroValue194, Tryz.underlying196, Tryz.runUnderlying196, Tryz.sizeOf196, Tryz.isAgg196, Tryz.zeroValue196, Tryz.underlying198, Tryz.runUnderlying198, Tryz.sizeOf198, Tryz.isAgg198, Tryz.zeroValue198, Tryz.underlying86, Tryz.runUnderlying86, Tryz.sizeOf86, Tryz.isAgg86, Tryz.zeroValue86, Tryz.underlying21, Tryz.runUnderlying21, Tryz.sizeOf21, Tryz.isAgg21, Tryz.zeroValue21, (by kernel_rfl)⟩
end Go.Proofs.YtfbecfikeiecmaaGreat
