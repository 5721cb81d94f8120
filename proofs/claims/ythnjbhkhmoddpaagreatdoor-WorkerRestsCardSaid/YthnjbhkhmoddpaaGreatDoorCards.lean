/-
  DERIVED. GIVEN WITH THE SEED: THE CARDS: each row of YthnjbhkhmoddpaaGreatDoorRows.lean that lists a variable, with what it lists TIED to the program's text (the seventh form; the later family's looks); each row that meets fmt, with fmt's text TOLD by the authors' own Lean function (tested against real Go, not proved from fmt's source: count such statements apart). THE CARD IS WHAT COUNTS. Prove the row's statement (the work); the ties are given (YthnjbhkhmoddpaaGreatDoorTie.lean); close each card by the builder's one call (the guide's Derived/Test/ToyasCard.lean, 'card_holds'). Laid BY PROGRAM, IN A SANDBOX (cutbox-door.mjs). By AI agents, Wed Nov 11 2026. No macro, syntax, notation, axiom, sorry.
-/
import Derived.Test.YthnjbhkhmoddpaaGreatDoorRows
import GoSem.ClaimSeven
namespace Go.Proofs.YthnjbhkhmoddpaaGreatDoor
namespace Rows

/-- THE TIED CARD OF 'ensemblelaw15.WorkerHead'. -/
def workerHeadCard : Claim7 := { stood := { row := workerHeadRow, standIns := [], harness := (true, "fd4bfe5c52550e8164820738eb17fba4883d3e8cba7108e74bfc9cd4e6bca44d"), looks := false }, kinds := [], alts := [], laidByText := true, laidKinds := [.data], laidTests := true, laidLooks := .later }
def WorkerHeadCardSaid : Prop := Claim7.holds Tryz.pinned (.plain (OpenSpec.ofChange workerHeadSpec)) workerHeadCard

/-- THE TIED CARD OF 'ensemblelaw15.WorkerRests'. -/
def workerRestsCard : Claim7 := { stood := { row := workerRestsRow, standIns := [], harness := (true, "fd4bfe5c52550e8164820738eb17fba4883d3e8cba7108e74bfc9cd4e6bca44d"), looks := false }, kinds := [], alts := [], laidByText := true, laidKinds := [.data], laidTests := true, laidLooks := .later }
def WorkerRestsCardSaid : Prop := Claim7.holds Tryz.pinned (.plain (OpenSpec.ofChange workerRestsSpec)) workerRestsCard

/-- THE SECOND FORM's CARD OF 'ensemblelaw15.WorkerHead'. -/
def workerHeadUptoCard : Claim7 := { stood := { row := workerHeadUptoRow, standIns := [], harness := (true, "fd4bfe5c52550e8164820738eb17fba4883d3e8cba7108e74bfc9cd4e6bca44d"), looks := false }, kinds := [], alts := [], laidByText := true, laidKinds := [.data], laidTests := true, laidLooks := .later }
def WorkerHeadUptoCardSaid : Prop := Claim7.holds Tryz.pinned (.plain (OpenSpec.upto workerHeadSpec)) workerHeadUptoCard

/-- THE SECOND FORM's CARD OF 'ensemblelaw15.WorkerRests'. -/
def workerRestsUptoCard : Claim7 := { stood := { row := workerRestsUptoRow, standIns := [], harness := (true, "fd4bfe5c52550e8164820738eb17fba4883d3e8cba7108e74bfc9cd4e6bca44d"), looks := false }, kinds := [], alts := [], laidByText := true, laidKinds := [.data], laidTests := true, laidLooks := .later }
def WorkerRestsUptoCardSaid : Prop := Claim7.holds Tryz.pinned (.plain (OpenSpec.upto workerRestsSpec)) workerRestsUptoCard
end Rows
end Go.Proofs.YthnjbhkhmoddpaaGreatDoor
