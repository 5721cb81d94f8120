/-
  DERIVED. GIVEN WITH THE SEED: THE CARDS: each row of YtmejcmoodbbmoaaGreatDoorRows.lean that lists a variable, with what it lists TIED to the program's text (the seventh form; the later family's looks); each row that meets fmt, with fmt's text TOLD by the authors' own Lean function (tested against real Go, not proved from fmt's source: count such statements apart). THE CARD IS WHAT COUNTS. Prove the row's statement (the work); the ties are given (YtmejcmoodbbmoaaGreatDoorTie.lean); close each card by the builder's one call (the guide's Derived/Test/ToyasCard.lean, 'card_holds'). Laid BY PROGRAM, IN A SANDBOX (cutbox-door.mjs). By AI agents, Wed Nov 11 2026. No macro, syntax, notation, axiom, sorry.
-/
import Derived.Test.YtmejcmoodbbmoaaGreatDoorRows
import GoSem.ClaimSeven
namespace Go.Proofs.YtmejcmoodbbmoaaGreatDoor
namespace Rows

/-- THE TIED CARD OF 'ensemblelaw15.WorkerMay'. -/
def workerMayCard : Claim7 := { stood := { row := workerMayRow, standIns := [], harness := (true, "f334f10ef4fc8c5918d0aa54a944450a958479954715dad524b8595c0b01ed57"), looks := false }, kinds := [], alts := [], laidByText := true, laidKinds := [.data], laidTests := true, laidLooks := .later }
def WorkerMayCardSaid : Prop := Claim7.holds Tryz.pinned (.plain (OpenSpec.ofChange workerMaySpec)) workerMayCard

/-- THE TIED CARD OF 'ensemblelaw15.WorkerHead'. -/
def workerHeadCard : Claim7 := { stood := { row := workerHeadRow, standIns := [], harness := (true, "f334f10ef4fc8c5918d0aa54a944450a958479954715dad524b8595c0b01ed57"), looks := false }, kinds := [], alts := [], laidByText := true, laidKinds := [.data], laidTests := true, laidLooks := .later }
def WorkerHeadCardSaid : Prop := Claim7.holds Tryz.pinned (.plain (OpenSpec.ofChange workerHeadSpec)) workerHeadCard

/-- THE TIED CARD OF 'ensemblelaw15.WorkerRests'. -/
def workerRestsCard : Claim7 := { stood := { row := workerRestsRow, standIns := [], harness := (true, "f334f10ef4fc8c5918d0aa54a944450a958479954715dad524b8595c0b01ed57"), looks := false }, kinds := [], alts := [], laidByText := true, laidKinds := [.data], laidTests := true, laidLooks := .later }
def WorkerRestsCardSaid : Prop := Claim7.holds Tryz.pinned (.plain (OpenSpec.ofChange workerRestsSpec)) workerRestsCard

/-- THE TIED CARD OF 'ensemblelaw15.WorkerFirst'. -/
def workerFirstCard : Claim7 := { stood := { row := workerFirstRow, standIns := [], harness := (true, "f334f10ef4fc8c5918d0aa54a944450a958479954715dad524b8595c0b01ed57"), looks := false }, kinds := [], alts := [], laidByText := true, laidKinds := [.data], laidTests := true, laidLooks := .later }
def WorkerFirstCardSaid : Prop := Claim7.holds Tryz.pinned (.plain (OpenSpec.ofChange workerFirstSpec)) workerFirstCard

/-- THE SECOND FORM's CARD OF 'ensemblelaw15.WorkerMay'. -/
def workerMayUptoCard : Claim7 := { stood := { row := workerMayUptoRow, standIns := [], harness := (true, "f334f10ef4fc8c5918d0aa54a944450a958479954715dad524b8595c0b01ed57"), looks := false }, kinds := [], alts := [], laidByText := true, laidKinds := [.data], laidTests := true, laidLooks := .later }
def WorkerMayUptoCardSaid : Prop := Claim7.holds Tryz.pinned (.plain (OpenSpec.upto workerMaySpec)) workerMayUptoCard

/-- THE SECOND FORM's CARD OF 'ensemblelaw15.WorkerHead'. -/
def workerHeadUptoCard : Claim7 := { stood := { row := workerHeadUptoRow, standIns := [], harness := (true, "f334f10ef4fc8c5918d0aa54a944450a958479954715dad524b8595c0b01ed57"), looks := false }, kinds := [], alts := [], laidByText := true, laidKinds := [.data], laidTests := true, laidLooks := .later }
def WorkerHeadUptoCardSaid : Prop := Claim7.holds Tryz.pinned (.plain (OpenSpec.upto workerHeadSpec)) workerHeadUptoCard

/-- THE SECOND FORM's CARD OF 'ensemblelaw15.WorkerRests'. -/
def workerRestsUptoCard : Claim7 := { stood := { row := workerRestsUptoRow, standIns := [], harness := (true, "f334f10ef4fc8c5918d0aa54a944450a958479954715dad524b8595c0b01ed57"), looks := false }, kinds := [], alts := [], laidByText := true, laidKinds := [.data], laidTests := true, laidLooks := .later }
def WorkerRestsUptoCardSaid : Prop := Claim7.holds Tryz.pinned (.plain (OpenSpec.upto workerRestsSpec)) workerRestsUptoCard

/-- THE SECOND FORM's CARD OF 'ensemblelaw15.WorkerFirst'. -/
def workerFirstUptoCard : Claim7 := { stood := { row := workerFirstUptoRow, standIns := [], harness := (true, "f334f10ef4fc8c5918d0aa54a944450a958479954715dad524b8595c0b01ed57"), looks := false }, kinds := [], alts := [], laidByText := true, laidKinds := [.data], laidTests := true, laidLooks := .later }
def WorkerFirstUptoCardSaid : Prop := Claim7.holds Tryz.pinned (.plain (OpenSpec.upto workerFirstSpec)) workerFirstUptoCard
end Rows
end Go.Proofs.YtmejcmoodbbmoaaGreatDoor
