/-
  DERIVED. GIVEN WITH THE SEED: THE CARDS: each row of YtenldgnfjjchiaaDoorRows.lean that lists a variable, with what it lists TIED to the program's text (the seventh form; the later family's looks); each row that meets fmt, with fmt's text TOLD by the authors' own Lean function (tested against real Go, not proved from fmt's source: count such statements apart). THE CARD IS WHAT COUNTS. Prove the row's statement (the work); the ties are given (YtenldgnfjjchiaaDoorTie.lean); close each card by the builder's one call (the guide's Derived/Test/ToyasCard.lean, 'card_holds'). Laid BY PROGRAM, IN A SANDBOX (cutbox-door.mjs). By AI agents, Wed Nov 11 2026. No macro, syntax, notation, axiom, sorry.
-/
import Derived.Test.YtenldgnfjjchiaaDoorRows
import GoSem.ClaimSeven
namespace Go.Proofs.YtenldgnfjjchiaaDoor
namespace Rows

/-- THE TIED CARD OF 'ensemblelaw12.PromiseTells'. -/
def promiseTellsCard : Claim7 := { stood := { row := promiseTellsRow, standIns := [], harness := (true, "a01eac8b0257a5e4a303aae01613326c4af01dce7ad5aefc5746f614f22d66bc"), looks := false }, kinds := [], alts := [], laidByText := true, laidKinds := [.data], laidTests := true, laidLooks := .later }
def PromiseTellsCardSaid : Prop := Claim7.holds Tryd.pinned (.plain (OpenSpec.ofChange promiseTellsSpec)) promiseTellsCard

/-- THE TIED CARD OF 'ensemblelaw12.PromiseKeeps'. -/
def promiseKeepsCard : Claim7 := { stood := { row := promiseKeepsRow, standIns := [], harness := (true, "a01eac8b0257a5e4a303aae01613326c4af01dce7ad5aefc5746f614f22d66bc"), looks := false }, kinds := [], alts := [], laidByText := true, laidKinds := [.data], laidTests := true, laidLooks := .later }
def PromiseKeepsCardSaid : Prop := Claim7.holds Tryd.pinned (.plain (OpenSpec.ofChange promiseKeepsSpec)) promiseKeepsCard

/-- THE TIED CARD OF 'ensemblelaw12.PromiseLess'. -/
def promiseLessCard : Claim7 := { stood := { row := promiseLessRow, standIns := [], harness := (true, "a01eac8b0257a5e4a303aae01613326c4af01dce7ad5aefc5746f614f22d66bc"), looks := false }, kinds := [], alts := [], laidByText := true, laidKinds := [.data], laidTests := true, laidLooks := .later }
def PromiseLessCardSaid : Prop := Claim7.holds Tryd.pinned (.plain (OpenSpec.ofChange promiseLessSpec)) promiseLessCard

/-- THE TIED CARD OF 'ensemblelaw12.PromiseOnly'. -/
def promiseOnlyCard : Claim7 := { stood := { row := promiseOnlyRow, standIns := [], harness := (true, "a01eac8b0257a5e4a303aae01613326c4af01dce7ad5aefc5746f614f22d66bc"), looks := false }, kinds := [], alts := [], laidByText := true, laidKinds := [.data], laidTests := true, laidLooks := .later }
def PromiseOnlyCardSaid : Prop := Claim7.holds Tryd.pinned (.plain (OpenSpec.ofChange promiseOnlySpec)) promiseOnlyCard

/-- THE TIED CARD OF 'ensemblelaw12.PromiseRoom'. -/
def promiseRoomCard : Claim7 := { stood := { row := promiseRoomRow, standIns := [], harness := (true, "a01eac8b0257a5e4a303aae01613326c4af01dce7ad5aefc5746f614f22d66bc"), looks := false }, kinds := [], alts := [], laidByText := true, laidKinds := [.data], laidTests := true, laidLooks := .later }
def PromiseRoomCardSaid : Prop := Claim7.holds Tryd.pinned (.plain (OpenSpec.ofChange promiseRoomSpec)) promiseRoomCard

/-- THE SECOND FORM's CARD OF 'ensemblelaw12.PromiseTells'. -/
def promiseTellsUptoCard : Claim7 := { stood := { row := promiseTellsUptoRow, standIns := [], harness := (true, "a01eac8b0257a5e4a303aae01613326c4af01dce7ad5aefc5746f614f22d66bc"), looks := false }, kinds := [], alts := [], laidByText := true, laidKinds := [.data], laidTests := true, laidLooks := .later }
def PromiseTellsUptoCardSaid : Prop := Claim7.holds Tryd.pinned (.plain (OpenSpec.upto promiseTellsSpec)) promiseTellsUptoCard

/-- THE SECOND FORM's CARD OF 'ensemblelaw12.PromiseKeeps'. -/
def promiseKeepsUptoCard : Claim7 := { stood := { row := promiseKeepsUptoRow, standIns := [], harness := (true, "a01eac8b0257a5e4a303aae01613326c4af01dce7ad5aefc5746f614f22d66bc"), looks := false }, kinds := [], alts := [], laidByText := true, laidKinds := [.data], laidTests := true, laidLooks := .later }
def PromiseKeepsUptoCardSaid : Prop := Claim7.holds Tryd.pinned (.plain (OpenSpec.upto promiseKeepsSpec)) promiseKeepsUptoCard

/-- THE SECOND FORM's CARD OF 'ensemblelaw12.PromiseLess'. -/
def promiseLessUptoCard : Claim7 := { stood := { row := promiseLessUptoRow, standIns := [], harness := (true, "a01eac8b0257a5e4a303aae01613326c4af01dce7ad5aefc5746f614f22d66bc"), looks := false }, kinds := [], alts := [], laidByText := true, laidKinds := [.data], laidTests := true, laidLooks := .later }
def PromiseLessUptoCardSaid : Prop := Claim7.holds Tryd.pinned (.plain (OpenSpec.upto promiseLessSpec)) promiseLessUptoCard

/-- THE SECOND FORM's CARD OF 'ensemblelaw12.PromiseOnly'. -/
def promiseOnlyUptoCard : Claim7 := { stood := { row := promiseOnlyUptoRow, standIns := [], harness := (true, "a01eac8b0257a5e4a303aae01613326c4af01dce7ad5aefc5746f614f22d66bc"), looks := false }, kinds := [], alts := [], laidByText := true, laidKinds := [.data], laidTests := true, laidLooks := .later }
def PromiseOnlyUptoCardSaid : Prop := Claim7.holds Tryd.pinned (.plain (OpenSpec.upto promiseOnlySpec)) promiseOnlyUptoCard

/-- THE SECOND FORM's CARD OF 'ensemblelaw12.PromiseRoom'. -/
def promiseRoomUptoCard : Claim7 := { stood := { row := promiseRoomUptoRow, standIns := [], harness := (true, "a01eac8b0257a5e4a303aae01613326c4af01dce7ad5aefc5746f614f22d66bc"), looks := false }, kinds := [], alts := [], laidByText := true, laidKinds := [.data], laidTests := true, laidLooks := .later }
def PromiseRoomUptoCardSaid : Prop := Claim7.holds Tryd.pinned (.plain (OpenSpec.upto promiseRoomSpec)) promiseRoomUptoCard
end Rows
end Go.Proofs.YtenldgnfjjchiaaDoor
