/-
  DERIVED. GIVEN WITH THE SEED: THE CARDS: each row of YtikgmgimdeibgaaDoorRows.lean that lists a variable, with what it lists TIED to the program's text (the seventh form; the later family's looks); each row that meets fmt, with fmt's text TOLD by the authors' own Lean function (tested against real Go, not proved from fmt's source: count such statements apart). THE CARD IS WHAT COUNTS. Prove the row's statement (the work); the ties are given (YtikgmgimdeibgaaDoorTie.lean); close each card by the builder's one call (the guide's Derived/Test/ToyasCard.lean, 'card_holds'). Laid BY PROGRAM, IN A SANDBOX (cutbox-door.mjs). By AI agents, Wed Nov 11 2026. No macro, syntax, notation, axiom, sorry.
-/
import Derived.Test.YtikgmgimdeibgaaDoorRows
import GoSem.ClaimSeven
namespace Go.Proofs.YtikgmgimdeibgaaDoor
namespace Rows

/-- THE TIED CARD OF 'ensemblelaw13.FillTells'. -/
def fillTellsCard : Claim7 := { stood := { row := fillTellsRow, standIns := [], harness := (true, "2c05335eec67e70b9124bef880b6652516b53b259fffbee0de503249accfc150"), looks := false }, kinds := [], alts := [], laidByText := true, laidKinds := [.data], laidTests := true, laidLooks := .later }
def FillTellsCardSaid : Prop := Claim7.holds Tryd.pinned (.plain (OpenSpec.ofChange fillTellsSpec)) fillTellsCard

/-- THE TIED CARD OF 'ensemblelaw13.FillLate'. -/
def fillLateCard : Claim7 := { stood := { row := fillLateRow, standIns := [], harness := (true, "2c05335eec67e70b9124bef880b6652516b53b259fffbee0de503249accfc150"), looks := false }, kinds := [], alts := [], laidByText := true, laidKinds := [.data], laidTests := true, laidLooks := .later }
def FillLateCardSaid : Prop := Claim7.holds Tryd.pinned (.plain (OpenSpec.ofChange fillLateSpec)) fillLateCard

/-- THE TIED CARD OF 'ensemblelaw13.FillNone'. -/
def fillNoneCard : Claim7 := { stood := { row := fillNoneRow, standIns := [], harness := (true, "2c05335eec67e70b9124bef880b6652516b53b259fffbee0de503249accfc150"), looks := false }, kinds := [], alts := [], laidByText := true, laidKinds := [.data], laidTests := true, laidLooks := .later }
def FillNoneCardSaid : Prop := Claim7.holds Tryd.pinned (.plain (OpenSpec.ofChange fillNoneSpec)) fillNoneCard

/-- THE TIED CARD OF 'ensemblelaw13.FillMany'. -/
def fillManyCard : Claim7 := { stood := { row := fillManyRow, standIns := [], harness := (true, "2c05335eec67e70b9124bef880b6652516b53b259fffbee0de503249accfc150"), looks := false }, kinds := [], alts := [], laidByText := true, laidKinds := [.data], laidTests := true, laidLooks := .later }
def FillManyCardSaid : Prop := Claim7.holds Tryd.pinned (.plain (OpenSpec.ofChange fillManySpec)) fillManyCard

/-- THE TIED CARD OF 'ensemblelaw13.FillPast'. -/
def fillPastCard : Claim7 := { stood := { row := fillPastRow, standIns := [], harness := (true, "2c05335eec67e70b9124bef880b6652516b53b259fffbee0de503249accfc150"), looks := false }, kinds := [], alts := [], laidByText := true, laidKinds := [.data], laidTests := true, laidLooks := .later }
def FillPastCardSaid : Prop := Claim7.holds Tryd.pinned (.plain (OpenSpec.ofChange fillPastSpec)) fillPastCard

/-- THE SECOND FORM's CARD OF 'ensemblelaw13.FillTells'. -/
def fillTellsUptoCard : Claim7 := { stood := { row := fillTellsUptoRow, standIns := [], harness := (true, "2c05335eec67e70b9124bef880b6652516b53b259fffbee0de503249accfc150"), looks := false }, kinds := [], alts := [], laidByText := true, laidKinds := [.data], laidTests := true, laidLooks := .later }
def FillTellsUptoCardSaid : Prop := Claim7.holds Tryd.pinned (.plain (OpenSpec.upto fillTellsSpec)) fillTellsUptoCard

/-- THE SECOND FORM's CARD OF 'ensemblelaw13.FillLate'. -/
def fillLateUptoCard : Claim7 := { stood := { row := fillLateUptoRow, standIns := [], harness := (true, "2c05335eec67e70b9124bef880b6652516b53b259fffbee0de503249accfc150"), looks := false }, kinds := [], alts := [], laidByText := true, laidKinds := [.data], laidTests := true, laidLooks := .later }
def FillLateUptoCardSaid : Prop := Claim7.holds Tryd.pinned (.plain (OpenSpec.upto fillLateSpec)) fillLateUptoCard

/-- THE SECOND FORM's CARD OF 'ensemblelaw13.FillNone'. -/
def fillNoneUptoCard : Claim7 := { stood := { row := fillNoneUptoRow, standIns := [], harness := (true, "2c05335eec67e70b9124bef880b6652516b53b259fffbee0de503249accfc150"), looks := false }, kinds := [], alts := [], laidByText := true, laidKinds := [.data], laidTests := true, laidLooks := .later }
def FillNoneUptoCardSaid : Prop := Claim7.holds Tryd.pinned (.plain (OpenSpec.upto fillNoneSpec)) fillNoneUptoCard

/-- THE SECOND FORM's CARD OF 'ensemblelaw13.FillMany'. -/
def fillManyUptoCard : Claim7 := { stood := { row := fillManyUptoRow, standIns := [], harness := (true, "2c05335eec67e70b9124bef880b6652516b53b259fffbee0de503249accfc150"), looks := false }, kinds := [], alts := [], laidByText := true, laidKinds := [.data], laidTests := true, laidLooks := .later }
def FillManyUptoCardSaid : Prop := Claim7.holds Tryd.pinned (.plain (OpenSpec.upto fillManySpec)) fillManyUptoCard

/-- THE SECOND FORM's CARD OF 'ensemblelaw13.FillPast'. -/
def fillPastUptoCard : Claim7 := { stood := { row := fillPastUptoRow, standIns := [], harness := (true, "2c05335eec67e70b9124bef880b6652516b53b259fffbee0de503249accfc150"), looks := false }, kinds := [], alts := [], laidByText := true, laidKinds := [.data], laidTests := true, laidLooks := .later }
def FillPastUptoCardSaid : Prop := Claim7.holds Tryd.pinned (.plain (OpenSpec.upto fillPastSpec)) fillPastUptoCard
end Rows
end Go.Proofs.YtikgmgimdeibgaaDoor
