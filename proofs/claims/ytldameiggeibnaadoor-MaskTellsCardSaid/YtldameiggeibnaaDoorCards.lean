/-
  DERIVED. GIVEN WITH THE SEED: THE CARDS: each row of YtldameiggeibnaaDoorRows.lean that lists a variable, with what it lists TIED to the program's text (the seventh form; the later family's looks); each row that meets fmt, with fmt's text TOLD by the authors' own Lean function (tested against real Go, not proved from fmt's source: count such statements apart). THE CARD IS WHAT COUNTS. Prove the row's statement (the work); the ties are given (YtldameiggeibnaaDoorTie.lean); close each card by the builder's one call (the guide's Derived/Test/ToyasCard.lean, 'card_holds'). Laid BY PROGRAM, IN A SANDBOX (cutbox-door.mjs). By AI agents, Wed Nov 11 2026. No macro, syntax, notation, axiom, sorry.
-/
import Derived.Test.YtldameiggeibnaaDoorRows
import GoSem.ClaimSeven
namespace Go.Proofs.YtldameiggeibnaaDoor
namespace Rows

/-- THE TIED CARD OF 'ensemblelaw01.MaskTells'. -/
def maskTellsCard : Claim7 := { stood := { row := maskTellsRow, standIns := [], harness := (true, "ede31734961d0611366b55326f795f2f8f5a0711ffaffba0f5da5897f52eee40"), looks := false }, kinds := [], alts := [], laidByText := true, laidKinds := [.data], laidTests := true, laidLooks := .later }
def MaskTellsCardSaid : Prop := Claim7.holds Tryd.pinned (.plain (OpenSpec.ofChange maskTellsSpec)) maskTellsCard

/-- THE TIED CARD OF 'ensemblelaw01.MaskBack'. -/
def maskBackCard : Claim7 := { stood := { row := maskBackRow, standIns := [], harness := (true, "ede31734961d0611366b55326f795f2f8f5a0711ffaffba0f5da5897f52eee40"), looks := false }, kinds := [], alts := [], laidByText := true, laidKinds := [.data], laidTests := true, laidLooks := .later }
def MaskBackCardSaid : Prop := Claim7.holds Tryd.pinned (.plain (OpenSpec.ofChange maskBackSpec)) maskBackCard

/-- THE TIED CARD OF 'ensemblelaw01.MaskLow'. -/
def maskLowCard : Claim7 := { stood := { row := maskLowRow, standIns := [], harness := (true, "ede31734961d0611366b55326f795f2f8f5a0711ffaffba0f5da5897f52eee40"), looks := false }, kinds := [], alts := [], laidByText := true, laidKinds := [.data], laidTests := true, laidLooks := .later }
def MaskLowCardSaid : Prop := Claim7.holds Tryd.pinned (.plain (OpenSpec.ofChange maskLowSpec)) maskLowCard

/-- THE TIED CARD OF 'ensemblelaw01.MaskParts'. -/
def maskPartsCard : Claim7 := { stood := { row := maskPartsRow, standIns := [], harness := (true, "ede31734961d0611366b55326f795f2f8f5a0711ffaffba0f5da5897f52eee40"), looks := false }, kinds := [], alts := [], laidByText := true, laidKinds := [.data], laidTests := true, laidLooks := .later }
def MaskPartsCardSaid : Prop := Claim7.holds Tryd.pinned (.plain (OpenSpec.ofChange maskPartsSpec)) maskPartsCard

/-- THE TIED CARD OF 'ensemblelaw01.MaskNested'. -/
def maskNestedCard : Claim7 := { stood := { row := maskNestedRow, standIns := [], harness := (true, "ede31734961d0611366b55326f795f2f8f5a0711ffaffba0f5da5897f52eee40"), looks := false }, kinds := [], alts := [], laidByText := true, laidKinds := [.data], laidTests := true, laidLooks := .later }
def MaskNestedCardSaid : Prop := Claim7.holds Tryd.pinned (.plain (OpenSpec.ofChange maskNestedSpec)) maskNestedCard

/-- THE TIED CARD OF 'ensemblelaw01.MaskFirsts'. -/
def maskFirstsCard : Claim7 := { stood := { row := maskFirstsRow, standIns := [], harness := (true, "ede31734961d0611366b55326f795f2f8f5a0711ffaffba0f5da5897f52eee40"), looks := false }, kinds := [], alts := [], laidByText := true, laidKinds := [.data], laidTests := true, laidLooks := .later }
def MaskFirstsCardSaid : Prop := Claim7.holds Tryd.pinned (.plain (OpenSpec.ofChange maskFirstsSpec)) maskFirstsCard

/-- THE TIED CARD OF 'ensemblelaw01.MaskSteps'. -/
def maskStepsCard : Claim7 := { stood := { row := maskStepsRow, standIns := [], harness := (true, "ede31734961d0611366b55326f795f2f8f5a0711ffaffba0f5da5897f52eee40"), looks := false }, kinds := [], alts := [], laidByText := true, laidKinds := [.data], laidTests := true, laidLooks := .later }
def MaskStepsCardSaid : Prop := Claim7.holds Tryd.pinned (.plain (OpenSpec.ofChange maskStepsSpec)) maskStepsCard

/-- THE SECOND FORM's CARD OF 'ensemblelaw01.MaskTells'. -/
def maskTellsUptoCard : Claim7 := { stood := { row := maskTellsUptoRow, standIns := [], harness := (true, "ede31734961d0611366b55326f795f2f8f5a0711ffaffba0f5da5897f52eee40"), looks := false }, kinds := [], alts := [], laidByText := true, laidKinds := [.data], laidTests := true, laidLooks := .later }
def MaskTellsUptoCardSaid : Prop := Claim7.holds Tryd.pinned (.plain (OpenSpec.upto maskTellsSpec)) maskTellsUptoCard

/-- THE SECOND FORM's CARD OF 'ensemblelaw01.MaskBack'. -/
def maskBackUptoCard : Claim7 := { stood := { row := maskBackUptoRow, standIns := [], harness := (true, "ede31734961d0611366b55326f795f2f8f5a0711ffaffba0f5da5897f52eee40"), looks := false }, kinds := [], alts := [], laidByText := true, laidKinds := [.data], laidTests := true, laidLooks := .later }
def MaskBackUptoCardSaid : Prop := Claim7.holds Tryd.pinned (.plain (OpenSpec.upto maskBackSpec)) maskBackUptoCard

/-- THE SECOND FORM's CARD OF 'ensemblelaw01.MaskLow'. -/
def maskLowUptoCard : Claim7 := { stood := { row := maskLowUptoRow, standIns := [], harness := (true, "ede31734961d0611366b55326f795f2f8f5a0711ffaffba0f5da5897f52eee40"), looks := false }, kinds := [], alts := [], laidByText := true, laidKinds := [.data], laidTests := true, laidLooks := .later }
def MaskLowUptoCardSaid : Prop := Claim7.holds Tryd.pinned (.plain (OpenSpec.upto maskLowSpec)) maskLowUptoCard

/-- THE SECOND FORM's CARD OF 'ensemblelaw01.MaskParts'. -/
def maskPartsUptoCard : Claim7 := { stood := { row := maskPartsUptoRow, standIns := [], harness := (true, "ede31734961d0611366b55326f795f2f8f5a0711ffaffba0f5da5897f52eee40"), looks := false }, kinds := [], alts := [], laidByText := true, laidKinds := [.data], laidTests := true, laidLooks := .later }
def MaskPartsUptoCardSaid : Prop := Claim7.holds Tryd.pinned (.plain (OpenSpec.upto maskPartsSpec)) maskPartsUptoCard

/-- THE SECOND FORM's CARD OF 'ensemblelaw01.MaskNested'. -/
def maskNestedUptoCard : Claim7 := { stood := { row := maskNestedUptoRow, standIns := [], harness := (true, "ede31734961d0611366b55326f795f2f8f5a0711ffaffba0f5da5897f52eee40"), looks := false }, kinds := [], alts := [], laidByText := true, laidKinds := [.data], laidTests := true, laidLooks := .later }
def MaskNestedUptoCardSaid : Prop := Claim7.holds Tryd.pinned (.plain (OpenSpec.upto maskNestedSpec)) maskNestedUptoCard

/-- THE SECOND FORM's CARD OF 'ensemblelaw01.MaskFirsts'. -/
def maskFirstsUptoCard : Claim7 := { stood := { row := maskFirstsUptoRow, standIns := [], harness := (true, "ede31734961d0611366b55326f795f2f8f5a0711ffaffba0f5da5897f52eee40"), looks := false }, kinds := [], alts := [], laidByText := true, laidKinds := [.data], laidTests := true, laidLooks := .later }
def MaskFirstsUptoCardSaid : Prop := Claim7.holds Tryd.pinned (.plain (OpenSpec.upto maskFirstsSpec)) maskFirstsUptoCard

/-- THE SECOND FORM's CARD OF 'ensemblelaw01.MaskSteps'. -/
def maskStepsUptoCard : Claim7 := { stood := { row := maskStepsUptoRow, standIns := [], harness := (true, "ede31734961d0611366b55326f795f2f8f5a0711ffaffba0f5da5897f52eee40"), looks := false }, kinds := [], alts := [], laidByText := true, laidKinds := [.data], laidTests := true, laidLooks := .later }
def MaskStepsUptoCardSaid : Prop := Claim7.holds Tryd.pinned (.plain (OpenSpec.upto maskStepsSpec)) maskStepsUptoCard
end Rows
end Go.Proofs.YtldameiggeibnaaDoor
