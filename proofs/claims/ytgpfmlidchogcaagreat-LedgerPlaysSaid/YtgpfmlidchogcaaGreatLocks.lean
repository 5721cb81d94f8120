/- The mutex's functions and types under their numbers in this seat's translation; the library's contracts of its Lock and Unlock. -/
import Derived.Test.YtgpfmlidchogcaaGreatProg
import Derived.Conc.MuLone
import Derived.WalkKit
import Derived.Defers
import Derived.KernelRfl
namespace Go.Proofs.YtgpfmlidchogcaaGreat
open Go.RowKit Go.MuLone
abbrev muLink : Go.Conc.Locks.MuLink := { lock := 49, unlock := 50, ilock := 89, iunlock := 90, lockSlow := 120, unlockSlow := 123, disable := 116, enable := 118, acquire := 119, relMerge := 121, cas32 := 117, add32 := 122, tMutex := 77, tIMutex := 75, tPMutex := 161, tPIMutex := 184, tPI32 := 186, tUP := 188, tNoCopy := 72, tU32 := 73 }
theorem muLib : Go.Conc.Locks.MuLib Tryz.prog muLink :=
 ⟨Tryz.func49, Tryz.func50, Tryz.func89, Tryz.func90, Tryz.func116, Tryz.func118, Tryz.func119, Tryz.func121, Tryz.func117, Tryz.func122, Tryz.underlying75, Tryz.runUnderlying75, Tryz.sizeOf75, Tryz.isAgg75, Tryz.zeroValue75, Tryz.underlying77, Tryz.runUnderlying77, Tryz.sizeOf77, Tryz.isAgg77, Tryz.zeroValue77, Tryz.underlying161, Tryz.runUnderlying161, Tryz.sizeOf161, Tryz.isAgg161, Tryz.zeroValue161, Tryz.underlying184, Tryz.runUnderlying184, Tryz.sizeOf184, Tryz.isAgg184, Tryz.zeroValue184, Tryz.underlying186, Tryz.runUnderlying186, Tryz.sizeOf186, Tryz.isAgg186, Tryz.zeroValue186, Tryz.underlying188, Tryz.runUnderlying188, Tryz.sizeOf188, Tryz.isAgg188, Tryz.zeroValue188, Tryz.underlying72, Tryz.runUnderlying72, Tryz.sizeOf72, Tryz.isAgg72, Tryz.zeroValue72, Tryz.underlying21, Tryz.runUnderlying21, Tryz.sizeOf21, Tryz.isAgg21, Tryz.zeroValue21, (by kernel_rfl)⟩
end Go.Proofs.YtgpfmlidchogcaaGreat
