/-
  DERIVED. GIVEN WITH THE SEED: THE CARDS: each row of YtppapmacngdefaaDoorRows.lean that lists a variable, with what it lists TIED to the program's text (the seventh form; the later family's looks); each row that meets fmt, with fmt's text TOLD by the authors' own Lean function (tested against real Go, not proved from fmt's source: count such statements apart). THE CARD IS WHAT COUNTS. Prove the row's statement (the work); the ties are given (YtppapmacngdefaaDoorTie.lean); close each card by the builder's one call (the guide's Derived/Test/ToyasCard.lean, 'card_holds'). Laid BY PROGRAM, IN A SANDBOX (cutbox-door.mjs). By AI agents, Wed Nov 11 2026. No macro, syntax, notation, axiom, sorry.
-/
import Derived.Test.YtppapmacngdefaaDoorRows
import GoSem.ClaimSeven
namespace Go.Proofs.YtppapmacngdefaaDoor
namespace Rows

/-- THE TIED CARD OF 'ensemblelaw14.ElasticMost'. -/
def elasticMostCard : Claim7 := { stood := { row := elasticMostRow, standIns := [], harness := (true, "273006058a6462b1fc57942deb90ccaf133fcb987bb25ad19902ff5dda2e7f01"), looks := false }, kinds := [], alts := [], laidByText := true, laidKinds := [.data], laidTests := true, laidLooks := .later }
def ElasticMostCardSaid : Prop := Claim7.holds Tryd.pinned (.plain (OpenSpec.ofChange elasticMostSpec)) elasticMostCard

/-- THE TIED CARD OF 'ensemblelaw14.ElasticMore'. -/
def elasticMoreCard : Claim7 := { stood := { row := elasticMoreRow, standIns := [], harness := (true, "273006058a6462b1fc57942deb90ccaf133fcb987bb25ad19902ff5dda2e7f01"), looks := false }, kinds := [], alts := [], laidByText := true, laidKinds := [.data], laidTests := true, laidLooks := .later }
def ElasticMoreCardSaid : Prop := Claim7.holds Tryd.pinned (.plain (OpenSpec.ofChange elasticMoreSpec)) elasticMoreCard

/-- THE SECOND FORM's CARD OF 'ensemblelaw14.ElasticMost'. -/
def elasticMostUptoCard : Claim7 := { stood := { row := elasticMostUptoRow, standIns := [], harness := (true, "273006058a6462b1fc57942deb90ccaf133fcb987bb25ad19902ff5dda2e7f01"), looks := false }, kinds := [], alts := [], laidByText := true, laidKinds := [.data], laidTests := true, laidLooks := .later }
def ElasticMostUptoCardSaid : Prop := Claim7.holds Tryd.pinned (.plain (OpenSpec.upto elasticMostSpec)) elasticMostUptoCard

/-- THE SECOND FORM's CARD OF 'ensemblelaw14.ElasticMore'. -/
def elasticMoreUptoCard : Claim7 := { stood := { row := elasticMoreUptoRow, standIns := [], harness := (true, "273006058a6462b1fc57942deb90ccaf133fcb987bb25ad19902ff5dda2e7f01"), looks := false }, kinds := [], alts := [], laidByText := true, laidKinds := [.data], laidTests := true, laidLooks := .later }
def ElasticMoreUptoCardSaid : Prop := Claim7.holds Tryd.pinned (.plain (OpenSpec.upto elasticMoreSpec)) elasticMoreUptoCard
end Rows
end Go.Proofs.YtppapmacngdefaaDoor
