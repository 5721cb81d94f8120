/-
  DERIVED. GIVEN WITH THE SEED: THE CARDS: each row of YtjenokegpbhciaaDoorRows.lean that lists a variable, with what it lists TIED to the program's text (the seventh form; the later family's looks); each row that meets fmt, with fmt's text TOLD by the authors' own Lean function (tested against real Go, not proved from fmt's source: count such statements apart). THE CARD IS WHAT COUNTS. Prove the row's statement (the work); the ties are given (YtjenokegpbhciaaDoorTie.lean); close each card by the builder's one call (the guide's Derived/Test/ToyasCard.lean, 'card_holds'). Laid BY PROGRAM, IN A SANDBOX (cutbox-door.mjs). By AI agents, Wed Nov 11 2026. No macro, syntax, notation, axiom, sorry.
-/
import Derived.Test.YtjenokegpbhciaaDoorRows
import GoSem.ClaimSeven
namespace Go.Proofs.YtjenokegpbhciaaDoor
namespace Rows

/-- THE TIED CARD OF 'ensemblelaw04.ShapeTells'. -/
def shapeTellsCard : Claim7 := { stood := { row := shapeTellsRow, standIns := [], harness := (true, "636bbaf40dcc68111a3fa734d3ff7a1327516b8476aa9ea106e786d66e6a6774"), looks := false }, kinds := [], alts := [], laidByText := true, laidKinds := [.data], laidTests := true, laidLooks := .later }
def ShapeTellsCardSaid : Prop := Claim7.holds Tryd.pinned (.plain (OpenSpec.ofChange shapeTellsSpec)) shapeTellsCard

/-- THE TIED CARD OF 'ensemblelaw04.ShapeCuts'. -/
def shapeCutsCard : Claim7 := { stood := { row := shapeCutsRow, standIns := [], harness := (true, "636bbaf40dcc68111a3fa734d3ff7a1327516b8476aa9ea106e786d66e6a6774"), looks := false }, kinds := [], alts := [], laidByText := true, laidKinds := [.data], laidTests := true, laidLooks := .later }
def ShapeCutsCardSaid : Prop := Claim7.holds Tryd.pinned (.plain (OpenSpec.ofChange shapeCutsSpec)) shapeCutsCard

/-- THE TIED CARD OF 'ensemblelaw04.ShapeGrows'. -/
def shapeGrowsCard : Claim7 := { stood := { row := shapeGrowsRow, standIns := [], harness := (true, "636bbaf40dcc68111a3fa734d3ff7a1327516b8476aa9ea106e786d66e6a6774"), looks := false }, kinds := [], alts := [], laidByText := true, laidKinds := [.data], laidTests := true, laidLooks := .later }
def ShapeGrowsCardSaid : Prop := Claim7.holds Tryd.pinned (.plain (OpenSpec.ofChange shapeGrowsSpec)) shapeGrowsCard

/-- THE TIED CARD OF 'ensemblelaw04.ShapeSums'. -/
def shapeSumsCard : Claim7 := { stood := { row := shapeSumsRow, standIns := [], harness := (true, "636bbaf40dcc68111a3fa734d3ff7a1327516b8476aa9ea106e786d66e6a6774"), looks := false }, kinds := [], alts := [], laidByText := true, laidKinds := [.data], laidTests := true, laidLooks := .later }
def ShapeSumsCardSaid : Prop := Claim7.holds Tryd.pinned (.plain (OpenSpec.ofChange shapeSumsSpec)) shapeSumsCard

/-- THE TIED CARD OF 'ensemblelaw04.ShapeBounds'. -/
def shapeBoundsCard : Claim7 := { stood := { row := shapeBoundsRow, standIns := [], harness := (true, "636bbaf40dcc68111a3fa734d3ff7a1327516b8476aa9ea106e786d66e6a6774"), looks := false }, kinds := [], alts := [], laidByText := true, laidKinds := [.data], laidTests := true, laidLooks := .later }
def ShapeBoundsCardSaid : Prop := Claim7.holds Tryd.pinned (.plain (OpenSpec.ofChange shapeBoundsSpec)) shapeBoundsCard

/-- THE SECOND FORM's CARD OF 'ensemblelaw04.ShapeTells'. -/
def shapeTellsUptoCard : Claim7 := { stood := { row := shapeTellsUptoRow, standIns := [], harness := (true, "636bbaf40dcc68111a3fa734d3ff7a1327516b8476aa9ea106e786d66e6a6774"), looks := false }, kinds := [], alts := [], laidByText := true, laidKinds := [.data], laidTests := true, laidLooks := .later }
def ShapeTellsUptoCardSaid : Prop := Claim7.holds Tryd.pinned (.plain (OpenSpec.upto shapeTellsSpec)) shapeTellsUptoCard

/-- THE SECOND FORM's CARD OF 'ensemblelaw04.ShapeCuts'. -/
def shapeCutsUptoCard : Claim7 := { stood := { row := shapeCutsUptoRow, standIns := [], harness := (true, "636bbaf40dcc68111a3fa734d3ff7a1327516b8476aa9ea106e786d66e6a6774"), looks := false }, kinds := [], alts := [], laidByText := true, laidKinds := [.data], laidTests := true, laidLooks := .later }
def ShapeCutsUptoCardSaid : Prop := Claim7.holds Tryd.pinned (.plain (OpenSpec.upto shapeCutsSpec)) shapeCutsUptoCard

/-- THE SECOND FORM's CARD OF 'ensemblelaw04.ShapeGrows'. -/
def shapeGrowsUptoCard : Claim7 := { stood := { row := shapeGrowsUptoRow, standIns := [], harness := (true, "636bbaf40dcc68111a3fa734d3ff7a1327516b8476aa9ea106e786d66e6a6774"), looks := false }, kinds := [], alts := [], laidByText := true, laidKinds := [.data], laidTests := true, laidLooks := .later }
def ShapeGrowsUptoCardSaid : Prop := Claim7.holds Tryd.pinned (.plain (OpenSpec.upto shapeGrowsSpec)) shapeGrowsUptoCard

/-- THE SECOND FORM's CARD OF 'ensemblelaw04.ShapeSums'. -/
def shapeSumsUptoCard : Claim7 := { stood := { row := shapeSumsUptoRow, standIns := [], harness := (true, "636bbaf40dcc68111a3fa734d3ff7a1327516b8476aa9ea106e786d66e6a6774"), looks := false }, kinds := [], alts := [], laidByText := true, laidKinds := [.data], laidTests := true, laidLooks := .later }
def ShapeSumsUptoCardSaid : Prop := Claim7.holds Tryd.pinned (.plain (OpenSpec.upto shapeSumsSpec)) shapeSumsUptoCard

/-- THE SECOND FORM's CARD OF 'ensemblelaw04.ShapeBounds'. -/
def shapeBoundsUptoCard : Claim7 := { stood := { row := shapeBoundsUptoRow, standIns := [], harness := (true, "636bbaf40dcc68111a3fa734d3ff7a1327516b8476aa9ea106e786d66e6a6774"), looks := false }, kinds := [], alts := [], laidByText := true, laidKinds := [.data], laidTests := true, laidLooks := .later }
def ShapeBoundsUptoCardSaid : Prop := Claim7.holds Tryd.pinned (.plain (OpenSpec.upto shapeBoundsSpec)) shapeBoundsUptoCard
end Rows
end Go.Proofs.YtjenokegpbhciaaDoor
