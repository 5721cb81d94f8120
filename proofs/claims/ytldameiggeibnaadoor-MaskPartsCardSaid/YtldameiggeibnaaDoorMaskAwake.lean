/- The document's example, which each law asks first; what a law's arguments are told as. -/
import Derived.Test.YtldameiggeibnaaDoorMaskUnits
import Derived.Test.YtldameiggeibnaaDoorMaskOf
import Derived.Test.YtldameiggeibnaaDoorMaskFrame
namespace Go.Proofs.YtldameiggeibnaaDoor
open Go.RowKit

/-- A slice of numbers that came in. -/
def IsRow (k : IntKind) (w : World) (a : Option Addr) (len cap : Nat) (zs : List Int) : Prop :=
  (a = none ∧ len = 0 ∧ cap = 0 ∧ zs = []) ∨
  ∃ x, a = some x ∧ len ≤ cap ∧ cap ≤ maxLen ∧ zs.length = cap ∧ (∀ i, i < zs.length → w.cell? (x.add i) = some (.int k (zs.getD i 0))) ∧ ∀ n ∈ zs, (Lit.int k n).wf = true

theorem low22 : MM.low 22 2 = 6 := by decide +kernel
theorem cnt22 : MM.cnt 22 = 3 := by decide +kernel
set_option maxRecDepth 100000 in
set_option maxHeartbeats 1000000 in
theorem awake_any (w : World) (hT : Tab w) : Calls Tryd.prog 10 #[] w fun e w' => e = .returned (.bool true) ∧ Below w.heap.size w w' := by
  have h1 := lowest_any 22 (by decide) 2 (by rw [cnt22]; decide) w hT hT.size
  have h2 := count_any 22 (by decide)
  rw [low22] at h1
  rw [cnt22] at h2
  have H1 := Lib.hid h1
  have H2 := Lib.hid h2
  clear h1 h2
  go_enter Tryd.func10, Tryd.ntmps10
  go_wp2_with (first
    | (go_at_call 11; refine H1.out.mono ?_; rintro e w1 ⟨rfl, hb⟩)
    | (go_at_call 17; refine (H2.out _).mono ?_; rintro e w' ⟨rfl, rfl⟩))
  go_ret
  exact ⟨rfl, hb⟩
end Go.Proofs.YtldameiggeibnaaDoor
