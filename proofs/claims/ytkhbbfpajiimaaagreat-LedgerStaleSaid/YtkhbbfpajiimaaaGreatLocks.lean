/- The mutex's functions and types under their numbers in this seat's translation; the library's contracts of its Lock and Unlock. -/
import Derived.Test.YtkhbbfpajiimaaaGreatProg
import Derived.Conc.MuLone
import Derived.WalkKit
import Derived.Defers
import Derived.KernelRfl
namespace Go.Proofs.YtkhbbfpajiimaaaGreat
open Go.RowKit Go.MuLone
abbrev muLink : Go.Conc.Locks.MuLink := { lock := 66, unlock := 67, ilock := 104, iunlock := 105, lockSlow := 132, unlockSlow := 135, disable := 128, enable := 130, acquire := 131, relMerge := 133, cas32 := 129, add32 := 134, tMutex := 92, tIMutex := 90, tPMutex := 175, tPIMutex := 195, tPI32 := 197, tUP := 199, tNoCopy := 87, tU32 := 88 }
theorem muLib : Go.Conc.Locks.MuLib Tryz.prog muLink :=
  ⟨Tryz.func66, Tryz.func67, Tryz.func104, Tryz.func105, Tryz.func128, Tryz.func130, Tryz.func131, Tryz.func133, Tryz.func129, Tryz.func134, Tryz.underlying90, Tryz.runUnderlying90, Tryz.sizeOf90, Tryz.isAgg90, Tryz.zeroValue90, Tryz.underlying92, Tryz.runUnderlying92, Tryz.sizeOf92, Tryz.isAgg92, Tryz.zeroValue92, Tryz.underlying175, Tryz.runUnderlying175, Tryz.sizeOf175, Tryz.isAgg175, Tryz.zeroValue175, Tryz.underlying195, Tryz.runUnderlying195, Tryz.sizeOf195, Tryz.isAgg195, Tryz.zeroValue195, Tryz.underlying197, Tryz.runUnderlying197, Tryz.sizeOf197, Tryz.isAgg197, Tryz.zeroValue197, Tryz.underlying199, Tryz.runUnderlying199, Tryz.sizeOf199, Tryz.isAgg199, Tryz.zeroValue199, Tryz.underlying87, Tryz.runUnderlying87, Tryz.sizeOf87, Tryz.isAgg87, Tryz.zeroValue87, Tryz.underlying21, Tryz.runUnderlying21, Tryz.sizeOf21, Tryz.isAgg21, Tryz.zeroValue21, (by kernel_rfl)⟩
end Go.Proofs.YtkhbbfpajiimaaaGreat
