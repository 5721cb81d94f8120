/- The mutex's functions and types under their numbers in this seat's translation; the library's contracts of its Lock and Unlock. -/
import Derived.Test.YtbcldamfekejgaaProg
import Derived.Conc.MuLone
import Derived.WalkKit
import Derived.Defers
import Derived.KernelRfl
namespace Go.Proofs.Ytbcldamfekejgaa
open Go.RowKit Go.MuLone
abbrev muLink : Go.Conc.Locks.MuLink := { lock := 22, unlock := 23, ilock := 33, iunlock := 34, lockSlow := 53, unlockSlow := 56, disable := 49, enable := 51, acquire := 52, relMerge := 54, cas32 := 50, add32 := 55, tMutex := 65, tIMutex := 63, tPMutex := 98, tPIMutex := 114, tPI32 := 116, tUP := 118, tNoCopy := 60, tU32 := 61 }
theorem muLib : Go.Conc.Locks.MuLib Try.prog muLink :=
  ⟨Try.func22, Try.func23, Try.func33, Try.func34, Try.func49, Try.func51, Try.func52, Try.func54, Try.func50, Try.func55, Try.underlying63, Try.runUnderlying63, Try.sizeOf63, Try.isAgg63, Try.zeroValue63, Try.underlying65, Try.runUnderlying65, Try.sizeOf65, Try.isAgg65, Try.zeroValue65, Try.underlying98, Try.runUnderlying98, Try.sizeOf98, Try.isAgg98, Try.zeroValue98, Try.underlying114, Try.runUnderlying114, Try.sizeOf114, Try.isAgg114, Try.zeroValue114, Try.underlying116, Try.runUnderlying116, Try.sizeOf116, Try.isAgg116, Try.zeroValue116, Try.underlying118, Try.runUnderlying118, Try.sizeOf118, Try.isAgg118, Try.zeroValue118, Try.underlying60, Try.runUnderlying60, Try.sizeOf60, Try.isAgg60, Try.zeroValue60, Try.underlying21, Try.runUnderlying21, Try.sizeOf21, Try.isAgg21, Try.zeroValue21, (by kernel_rfl)⟩
end Go.Proofs.Ytbcldamfekejgaa
