/-
  DERIVED. GIVEN WITH THE SEED: THE CARDS: each row of YtnaejfbmgjgcfaaGreatDoorRows.lean that lists a variable, with what it lists TIED to the program's text (the seventh form; the later family's looks); each row that meets fmt, with fmt's text TOLD by the authors' own Lean function (tested against real Go, not proved from fmt's source: count such statements apart). THE CARD IS WHAT COUNTS. Prove the row's statement (the work); the ties are given (YtnaejfbmgjgcfaaGreatDoorTie.lean); close each card by the builder's one call (the guide's Derived/Test/ToyasCard.lean, 'card_holds'). Laid BY PROGRAM, IN A SANDBOX (cutbox-door.mjs). By AI agents, Wed Nov 11 2026. No macro, syntax, notation, axiom, sorry.
-/
import Derived.Test.YtnaejfbmgjgcfaaGreatDoorRows
import GoSem.ClaimSeven
namespace Go.Proofs.YtnaejfbmgjgcfaaGreatDoor
namespace Rows

/-- THE TIED CARD OF 'ensemblelaw15.WorkerMay'. -/
def workerMayCard : Claim7 := { stood := { row := workerMayRow, standIns := [], harness := (true, "b9d59c9a5170af9e4e79d6d7864f994a154963f35b01863ccd842c78581fde1c"), looks := false }, kinds := [], alts := [], laidByText := true, laidKinds := [.data], laidTests := true, laidLooks := .later }
def WorkerMayCardSaid : Prop := Claim7.holds Tryz.pinned (.plain (OpenSpec.ofChange workerMaySpec)) workerMayCard

/-- THE SECOND FORM's CARD OF 'ensemblelaw15.WorkerMay'. -/
def workerMayUptoCard : Claim7 := { stood := { row := workerMayUptoRow, standIns := [], harness := (true, "b9d59c9a5170af9e4e79d6d7864f994a154963f35b01863ccd842c78581fde1c"), looks := false }, kinds := [], alts := [], laidByText := true, laidKinds := [.data], laidTests := true, laidLooks := .later }
def WorkerMayUptoCardSaid : Prop := Claim7.holds Tryz.pinned (.plain (OpenSpec.upto workerMaySpec)) workerMayUptoCard
end Rows
end Go.Proofs.YtnaejfbmgjgcfaaGreatDoor
