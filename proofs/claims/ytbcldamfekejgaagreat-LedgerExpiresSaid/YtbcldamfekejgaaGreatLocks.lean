/- The mutex's functions and types under their numbers in this seat's translation; the library's contracts of its Lock and Unlock. -/
import Derived.Test.YtbcldamfekejgaaGreatProg
import Derived.Conc.MuLone
import Derived.WalkKit
import Derived.Defers
import Derived.KernelRfl
namespace Go.Proofs.YtbcldamfekejgaaGreat
open Go.RowKit Go.MuLone
abbrev muLink : Go.Conc.Locks.MuLink := { lock := 74, unlock := 75, ilock := 107, iunlock := 108, lockSlow := 135, unlockSlow := 138, disable := 131, enable := 133, acquire := 134, relMerge := 136, cas32 := 132, add32 := 137, tMutex := 99, tIMutex := 97, tPMutex := 177, tPIMutex := 197, tPI32 := 199, tUP := 201, tNoCopy := 94, tU32 := 95 }
theorem muLib : Go.Conc.Locks.MuLib Tryz.prog muLink :=
  ⟨Tryz.func74, Tryz.func75, Tryz.func107, Tryz.func108, Tryz.func131, Tryz.func133, Tryz.func134, Tryz.func136, Tryz.func132, Tryz.func137, Tryz.underlying97, Tryz.runUnderlying97, Tryz.sizeOf97, Tryz.isAgg97, Tryz.zeroValue97, Tryz.underlying99, Tryz.runUnderlying99, Tryz.sizeOf99, Tryz.isAgg99, Tryz.zeroValue99, Tryz.underlying177, Tryz.runUnderlying177, Tryz.sizeOf177, Tryz.isAgg177, Tryz.zeroValue177, Tryz.underlying197, Tryz.runUnderlying197, Tryz.sizeOf197, Tryz.isAgg197, Tryz.zeroValue197, Tryz.underlying199, Tryz.runUnderlying199, Tryz.sizeOf199, Tryz.isAgg199, Tryz.zeroValue199, Tryz.underlying201, Tryz.runUnderlying201, Tryz.sizeOf201, Tryz.isAgg201, Tryz.zeroValue201, Tryz.underlying94, Tryz.runUnderlying94, Tryz.sizeOf94, Tryz.isAgg94, Tryz.zeroValue94, Tryz.underlying21, Tryz.runUnderlying21, Tryz.sizeOf21, Tryz.isAgg21, Tryz.zeroValue21, (by kernel_rfl)⟩
end Go.Proofs.YtbcldamfekejgaaGreat
