/-
  DERIVED. GIVEN WITH THE SEED: THE CARDS: each row of YtjbjjdcmkbigdaaDoorRows.lean that lists a variable, with what it lists TIED to the program's text (the seventh form; the later family's looks); each row that meets fmt, with fmt's text TOLD by the authors' own Lean function (tested against real Go, not proved from fmt's source: count such statements apart). THE CARD IS WHAT COUNTS. Prove the row's statement (the work); the ties are given (YtjbjjdcmkbigdaaDoorTie.lean); close each card by the builder's one call (the guide's Derived/Test/ToyasCard.lean, 'card_holds'). Laid BY PROGRAM, IN A SANDBOX (cutbox-door.mjs). By AI agents, Wed Nov 11 2026. No macro, syntax, notation, axiom, sorry.
-/
import Derived.Test.YtjbjjdcmkbigdaaDoorRows
import GoSem.ClaimSeven
namespace Go.Proofs.YtjbjjdcmkbigdaaDoor
namespace Rows

/-- THE TIED CARD OF 'ensemblelaw05.PackTells'. -/
def packTellsCard : Claim7 := { stood := { row := packTellsRow, standIns := [], harness := (true, "4adcc40197a11b00d299e31efc08a79e8bd449590cfd276831371b5feec198cb"), looks := false }, kinds := [], alts := [], laidByText := true, laidKinds := [.data], laidTests := true, laidLooks := .later }
def PackTellsCardSaid : Prop := Claim7.holds Tryd.pinned (.plain (OpenSpec.ofChange packTellsSpec)) packTellsCard

/-- THE TIED CARD OF 'ensemblelaw05.PackWhole'. -/
def packWholeCard : Claim7 := { stood := { row := packWholeRow, standIns := [], harness := (true, "4adcc40197a11b00d299e31efc08a79e8bd449590cfd276831371b5feec198cb"), looks := false }, kinds := [], alts := [], laidByText := true, laidKinds := [.data], laidTests := true, laidLooks := .later }
def PackWholeCardSaid : Prop := Claim7.holds Tryd.pinned (.plain (OpenSpec.ofChange packWholeSpec)) packWholeCard

/-- THE TIED CARD OF 'ensemblelaw05.PackFew'. -/
def packFewCard : Claim7 := { stood := { row := packFewRow, standIns := [], harness := (true, "4adcc40197a11b00d299e31efc08a79e8bd449590cfd276831371b5feec198cb"), looks := false }, kinds := [], alts := [], laidByText := true, laidKinds := [.data], laidTests := true, laidLooks := .later }
def PackFewCardSaid : Prop := Claim7.holds Tryd.pinned (.plain (OpenSpec.ofChange packFewSpec)) packFewCard

/-- THE TIED CARD OF 'ensemblelaw05.PackMore'. -/
def packMoreCard : Claim7 := { stood := { row := packMoreRow, standIns := [], harness := (true, "4adcc40197a11b00d299e31efc08a79e8bd449590cfd276831371b5feec198cb"), looks := false }, kinds := [], alts := [], laidByText := true, laidKinds := [.data], laidTests := true, laidLooks := .later }
def PackMoreCardSaid : Prop := Claim7.holds Tryd.pinned (.plain (OpenSpec.ofChange packMoreSpec)) packMoreCard

/-- THE TIED CARD OF 'ensemblelaw05.PackFront'. -/
def packFrontCard : Claim7 := { stood := { row := packFrontRow, standIns := [], harness := (true, "4adcc40197a11b00d299e31efc08a79e8bd449590cfd276831371b5feec198cb"), looks := false }, kinds := [], alts := [], laidByText := true, laidKinds := [.data], laidTests := true, laidLooks := .later }
def PackFrontCardSaid : Prop := Claim7.holds Tryd.pinned (.plain (OpenSpec.ofChange packFrontSpec)) packFrontCard

/-- THE TIED CARD OF 'ensemblelaw05.PackRooms'. -/
def packRoomsCard : Claim7 := { stood := { row := packRoomsRow, standIns := [], harness := (true, "4adcc40197a11b00d299e31efc08a79e8bd449590cfd276831371b5feec198cb"), looks := false }, kinds := [], alts := [], laidByText := true, laidKinds := [.data], laidTests := true, laidLooks := .later }
def PackRoomsCardSaid : Prop := Claim7.holds Tryd.pinned (.plain (OpenSpec.ofChange packRoomsSpec)) packRoomsCard

/-- THE TIED CARD OF 'ensemblelaw05.PackLeft'. -/
def packLeftCard : Claim7 := { stood := { row := packLeftRow, standIns := [], harness := (true, "4adcc40197a11b00d299e31efc08a79e8bd449590cfd276831371b5feec198cb"), looks := false }, kinds := [], alts := [], laidByText := true, laidKinds := [.data], laidTests := true, laidLooks := .later }
def PackLeftCardSaid : Prop := Claim7.holds Tryd.pinned (.plain (OpenSpec.ofChange packLeftSpec)) packLeftCard

/-- THE SECOND FORM's CARD OF 'ensemblelaw05.PackTells'. -/
def packTellsUptoCard : Claim7 := { stood := { row := packTellsUptoRow, standIns := [], harness := (true, "4adcc40197a11b00d299e31efc08a79e8bd449590cfd276831371b5feec198cb"), looks := false }, kinds := [], alts := [], laidByText := true, laidKinds := [.data], laidTests := true, laidLooks := .later }
def PackTellsUptoCardSaid : Prop := Claim7.holds Tryd.pinned (.plain (OpenSpec.upto packTellsSpec)) packTellsUptoCard

/-- THE SECOND FORM's CARD OF 'ensemblelaw05.PackWhole'. -/
def packWholeUptoCard : Claim7 := { stood := { row := packWholeUptoRow, standIns := [], harness := (true, "4adcc40197a11b00d299e31efc08a79e8bd449590cfd276831371b5feec198cb"), looks := false }, kinds := [], alts := [], laidByText := true, laidKinds := [.data], laidTests := true, laidLooks := .later }
def PackWholeUptoCardSaid : Prop := Claim7.holds Tryd.pinned (.plain (OpenSpec.upto packWholeSpec)) packWholeUptoCard

/-- THE SECOND FORM's CARD OF 'ensemblelaw05.PackFew'. -/
def packFewUptoCard : Claim7 := { stood := { row := packFewUptoRow, standIns := [], harness := (true, "4adcc40197a11b00d299e31efc08a79e8bd449590cfd276831371b5feec198cb"), looks := false }, kinds := [], alts := [], laidByText := true, laidKinds := [.data], laidTests := true, laidLooks := .later }
def PackFewUptoCardSaid : Prop := Claim7.holds Tryd.pinned (.plain (OpenSpec.upto packFewSpec)) packFewUptoCard

/-- THE SECOND FORM's CARD OF 'ensemblelaw05.PackMore'. -/
def packMoreUptoCard : Claim7 := { stood := { row := packMoreUptoRow, standIns := [], harness := (true, "4adcc40197a11b00d299e31efc08a79e8bd449590cfd276831371b5feec198cb"), looks := false }, kinds := [], alts := [], laidByText := true, laidKinds := [.data], laidTests := true, laidLooks := .later }
def PackMoreUptoCardSaid : Prop := Claim7.holds Tryd.pinned (.plain (OpenSpec.upto packMoreSpec)) packMoreUptoCard

/-- THE SECOND FORM's CARD OF 'ensemblelaw05.PackFront'. -/
def packFrontUptoCard : Claim7 := { stood := { row := packFrontUptoRow, standIns := [], harness := (true, "4adcc40197a11b00d299e31efc08a79e8bd449590cfd276831371b5feec198cb"), looks := false }, kinds := [], alts := [], laidByText := true, laidKinds := [.data], laidTests := true, laidLooks := .later }
def PackFrontUptoCardSaid : Prop := Claim7.holds Tryd.pinned (.plain (OpenSpec.upto packFrontSpec)) packFrontUptoCard

/-- THE SECOND FORM's CARD OF 'ensemblelaw05.PackRooms'. -/
def packRoomsUptoCard : Claim7 := { stood := { row := packRoomsUptoRow, standIns := [], harness := (true, "4adcc40197a11b00d299e31efc08a79e8bd449590cfd276831371b5feec198cb"), looks := false }, kinds := [], alts := [], laidByText := true, laidKinds := [.data], laidTests := true, laidLooks := .later }
def PackRoomsUptoCardSaid : Prop := Claim7.holds Tryd.pinned (.plain (OpenSpec.upto packRoomsSpec)) packRoomsUptoCard

/-- THE SECOND FORM's CARD OF 'ensemblelaw05.PackLeft'. -/
def packLeftUptoCard : Claim7 := { stood := { row := packLeftUptoRow, standIns := [], harness := (true, "4adcc40197a11b00d299e31efc08a79e8bd449590cfd276831371b5feec198cb"), looks := false }, kinds := [], alts := [], laidByText := true, laidKinds := [.data], laidTests := true, laidLooks := .later }
def PackLeftUptoCardSaid : Prop := Claim7.holds Tryd.pinned (.plain (OpenSpec.upto packLeftSpec)) packLeftUptoCard
end Rows
end Go.Proofs.YtjbjjdcmkbigdaaDoor
