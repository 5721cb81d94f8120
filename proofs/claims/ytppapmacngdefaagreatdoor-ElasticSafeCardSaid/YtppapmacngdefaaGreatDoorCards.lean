/-
  DERIVED. GIVEN WITH THE SEED: THE CARDS: each row of YtppapmacngdefaaGreatDoorRows.lean that lists a variable, with what it lists TIED to the program's text (the seventh form; the later family's looks); each row that meets fmt, with fmt's text TOLD by the authors' own Lean function (tested against real Go, not proved from fmt's source: count such statements apart). THE CARD IS WHAT COUNTS. Prove the row's statement (the work); the ties are given (YtppapmacngdefaaGreatDoorTie.lean); close each card by the builder's one call (the guide's Derived/Test/ToyasCard.lean, 'card_holds'). Laid BY PROGRAM, IN A SANDBOX (cutbox-door.mjs). By AI agents, Wed Nov 11 2026. No macro, syntax, notation, axiom, sorry.
-/
import Derived.Test.YtppapmacngdefaaGreatDoorRows
import GoSem.ClaimSeven
namespace Go.Proofs.YtppapmacngdefaaGreatDoor
namespace Rows

/-- THE TIED CARD OF 'ensemblelaw14.ElasticSafe'. -/
def elasticSafeCard : Claim7 := { stood := { row := elasticSafeRow, standIns := [], harness := (true, "ca77dbe63ffed71c637f117875a402ad9f7b111047e5727b0200ec2bad415e83"), looks := false }, kinds := [], alts := [], laidByText := true, laidKinds := [.data], laidTests := true, laidLooks := .later }
def ElasticSafeCardSaid : Prop := Claim7.holds Tryz.pinned (.plain (OpenSpec.ofChange elasticSafeSpec)) elasticSafeCard

/-- THE SECOND FORM's CARD OF 'ensemblelaw14.ElasticSafe'. -/
def elasticSafeUptoCard : Claim7 := { stood := { row := elasticSafeUptoRow, standIns := [], harness := (true, "ca77dbe63ffed71c637f117875a402ad9f7b111047e5727b0200ec2bad415e83"), looks := false }, kinds := [], alts := [], laidByText := true, laidKinds := [.data], laidTests := true, laidLooks := .later }
def ElasticSafeUptoCardSaid : Prop := Claim7.holds Tryz.pinned (.plain (OpenSpec.upto elasticSafeSpec)) elasticSafeUptoCard
end Rows
end Go.Proofs.YtppapmacngdefaaGreatDoor
