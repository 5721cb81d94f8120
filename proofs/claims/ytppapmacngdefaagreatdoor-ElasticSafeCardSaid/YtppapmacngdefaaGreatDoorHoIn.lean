/- A hold that comes in. -/
import Derived.Test.YtppapmacngdefaaGreatDoorProBase
set_option linter.unusedVariables false
set_option maxRecDepth 100000
namespace Go.Proofs.YtppapmacngdefaaGreatDoor
open Go.ChangeShapes Go.WideShapes Go.ChangeAt Go.RowKit Go.Deep
section
variable {H : Type} {enc : TypeId × Value → H} {w : World} {held : Bool} {r : Reach} {b0 : Nat} {v : Value} {d : DataW H} {p : List MemPlace}
theorem ho_of (hv : Value.okWide Tryz.prog w r b0 35 v) (h : DataW.Trod enc Tryz.prog w 0 (fun _ => true) held 35 v d p) : ∃ x : Ho, v = hoV x ∧ Fes w w.heap.size x.A x.sl ∧ HoOk x := by
 obtain ⟨cs, rfl, hl, hh⟩ := arg_struct (sh := hoSh) Tryz.underlying35 (by kernel_rfl) hv h
 have hl5 : cs.length = 5 := by rw [hl]; kernel_rfl
 obtain ⟨x, rfl, h1, h2⟩ := ho_lift hl5 hh
 exact ⟨x, rfl, h1, h2⟩
end
end Go.Proofs.YtppapmacngdefaaGreatDoor
