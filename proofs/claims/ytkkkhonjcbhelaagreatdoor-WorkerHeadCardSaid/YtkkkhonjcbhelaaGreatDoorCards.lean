/-
  DERIVED. GIVEN WITH THE SEED: THE CARDS: each row of YtkkkhonjcbhelaaGreatDoorRows.lean that lists a variable, with what it lists TIED to the program's text (the seventh form; the later family's looks); each row that meets fmt, with fmt's text TOLD by the authors' own Lean function (tested against real Go, not proved from fmt's source: count such statements apart). THE CARD IS WHAT COUNTS. Prove the row's statement (the work); the ties are given (YtkkkhonjcbhelaaGreatDoorTie.lean); close each card by the builder's one call (the guide's Derived/Test/ToyasCard.lean, 'card_holds'). Laid BY PROGRAM, IN A SANDBOX (cutbox-door.mjs). By AI agents, Wed Nov 11 2026. No macro, syntax, notation, axiom, sorry.
-/
import Derived.Test.YtkkkhonjcbhelaaGreatDoorRows
import GoSem.ClaimSeven
namespace Go.Proofs.YtkkkhonjcbhelaaGreatDoor
namespace Rows

/-- THE TIED CARD OF 'ensemblelaw15.WorkerHead'. -/
def workerHeadCard : Claim7 := { stood := { row := workerHeadRow, standIns := [], harness := (true, "216e8981a9c1884a1f4c4f7346e602e72f85d6c69c35106ac8d1ef3a57864fd9"), looks := false }, kinds := [], alts := [], laidByText := true, laidKinds := [.data], laidTests := true, laidLooks := .later }
def WorkerHeadCardSaid : Prop := Claim7.holds Tryz.pinned (.plain (OpenSpec.ofChange workerHeadSpec)) workerHeadCard

/-- THE SECOND FORM's CARD OF 'ensemblelaw15.WorkerHead'. -/
def workerHeadUptoCard : Claim7 := { stood := { row := workerHeadUptoRow, standIns := [], harness := (true, "216e8981a9c1884a1f4c4f7346e602e72f85d6c69c35106ac8d1ef3a57864fd9"), looks := false }, kinds := [], alts := [], laidByText := true, laidKinds := [.data], laidTests := true, laidLooks := .later }
def WorkerHeadUptoCardSaid : Prop := Claim7.holds Tryz.pinned (.plain (OpenSpec.upto workerHeadSpec)) workerHeadUptoCard
end Rows
end Go.Proofs.YtkkkhonjcbhelaaGreatDoor
