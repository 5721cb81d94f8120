/- The document's answers for layer 2: Count, All, Same, Index. -/
import Derived.Deep.QuietTactic
import Derived.BigQuiet
import Derived.Deep.RegionHeld3
import Derived.StillTailTactics
import Derived.Deep.DrawnRows
import Derived.Test.YtkhbbfpajiimaaaGreatTopoLaws
import Derived.Test.YtkhbbfpajiimaaaGreatMaskRefB
namespace Go.Proofs.YtkhbbfpajiimaaaGreat
open Go.RowKit
attribute [local go_sem ↓] Go.wp_at_zero Go.wp_at_succ

theorem refunits_any (m : Nat) (hm : m < 18446744073709551616) (w : World) :
    Calls Tryz.prog 61 #[.int .u64 m] w fun e w' => ∃ A c, e = .returned (.slice A (MM.cnt m) c) ∧ Below w.heap.size w w' :=
  (refunits_own m hm w).mono fun e w' ⟨v, he, ho, hb⟩ => by
    rcases ho.2 with ⟨rfl, h0⟩ | ⟨g, cap, cur, rfl, _⟩
    · exact ⟨none, 0, by rw [he, h0], hb⟩
    · exact ⟨_, _, he, hb⟩
end Go.Proofs.YtkhbbfpajiimaaaGreat
