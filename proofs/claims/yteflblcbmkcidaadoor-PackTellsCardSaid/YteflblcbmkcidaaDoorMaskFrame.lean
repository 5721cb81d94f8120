/- What the row's condition on the library's table gives the walks; the start that meets it. -/
import Derived.Test.YteflblcbmkcidaaDoorRows
import Derived.Test.YteflblcbmkcidaaDoorMaskWalks
import Derived.WalkKit
import Derived.ProofKit
import Derived.LaidMore
import Derived.OpenShut
import Derived.Stop.Joined
import Derived.Lib.LaidTab
namespace Go.Proofs.YteflblcbmkcidaaDoor
open Go.ChangeShapes Go.WideShapes Go.ChangeAt Go.RowKit

theorem own : ownKnob Tryd.prog.godebug = none := by kernel_rfl
theorem laidOut : laidOutB Tryd.prog = true := by kernel_rfl

/-- The row's list; the table's name. -/
def laid1 : List (String × DataW Unit) := Rows.packTellsRow.laid
def tabName : String := (laid1.map (·.1)).headD default
theorem gTab : Tryd.prog.globalNamed tabName = some 0 := by kernel_rfl
def tabI : List Int := Lib.deBruijn64tab.map Int.ofNat
theorem laid_tab : laid1 = [(tabName, Lib.tabData .u8 tabI)] := by kernel_rfl

/-- The door's own heap meets the condition. -/
theorem door_met (os : Os) (args : Array Value) : laidMetH Tryd.prog laid1 ((World.doorLaid Tryd.prog 400 os).forCall (fun _ _ => 0) ⟨#[], args, []⟩).memory :=
  laidMetH_of_parts3 (fuel := 8) (laidMet_of_run' 8 (by kernel_rfl) (by kernel_rfl)) (by kernel_rfl) (by kernel_rfl)

/-- WHAT THE CONDITION GIVES THE WALKS. -/
theorem of_laid {W : World} (h : laidMetH Tryd.prog laid1 W) : Tab W := by
  rw [MakeChecks.laidMetH_plain _ _ _ (by kernel_rfl)] at h
  rw [laid_tab] at h
  have h1 := Lib.tabIs_of_head gTab (show (Tryd.prog.globals[0]?).map (·.type) = some 76 by kernel_rfl) (show Tryd.prog.underlying 76 = some (.array 64 5) by kernel_rfl) (show Tryd.prog.underlying 5 = some (.int .u8) by kernel_rfl) (by kernel_rfl) (by kernel_rfl) h
  intro j hj
  have h2 := h1.cell gTab j (by simpa [tabI] using hj)
  rw [h2]
  congr 2
  simp [tabI, List.getD]
  cases Lib.deBruijn64tab[j]? <;> simp
theorem Tab.size {W : World} (h : Tab W) : 0 < W.heap.size := by
  have := h 0 (by decide)
  simp only [World.cell?] at this
  cases hh : W.heap[0]? with
  | none => rw [hh] at this; simp at this
  | some o => exact (Array.getElem?_eq_some_iff.1 hh).1
end Go.Proofs.YteflblcbmkcidaaDoor
