/- The document's answers for masks that later layers use (First, Units): contracts over the seat's translation. -/
import Derived.Deep.QuietTactic
import Derived.BigQuiet
import Derived.OwnWalk
import Derived.Maps.AppendAt
import Derived.Test.YtbcldamfekejgaaMaskBase
namespace Go.Proofs.Ytbcldamfekejgaa
open Go.RowKit
/-- Numbers as cells. -/
def ints (l : List Nat) : List Value := l.map fun k => .int .i64 (k : Nat)
theorem info_int : (Try.prog.info? 3).map (fun i => (i.zero, i.size, i.bytes)) = some (some (.int .i64 0), 1, 8) := by kernel_rfl


theorem bit_test (m k q : Nat) (h : q = m / 2 ^ k) : ((q : Int) % 2 == 1) = m.testBit k := by
  have e : m.testBit k = decide (q % 2 = 1) := by rw [Nat.testBit_eq_decide_div_mod_eq, h]
  rw [e, Bool.eq_iff_iff]
  simp
  omega
theorem clamp_lt {n : Int} {j : Nat} : j < clamp n ↔ (j : Int) < n ∧ j < 64 := by unfold clamp; split; omega; split <;> omega
/-- The units of m below j. -/
def upto (m j : Nat) : List Nat := (List.range j).filter fun k => m.testBit k
theorem upto_hit {m j : Nat} (h : m.testBit j = true) : upto m (j + 1) = upto m j ++ [j] := by
  unfold upto; rw [List.range_succ, List.filter_append]; simp [h]
theorem upto_miss {m j : Nat} (h : m.testBit j = false) : upto m (j + 1) = upto m j := by
  unfold upto; rw [List.range_succ, List.filter_append]; simp [h]
theorem upto_le (m j : Nat) : (upto m j).length ≤ j := by
  have := List.length_filter_le (fun k => m.testBit k) (List.range j)
  simpa [upto] using this
theorem upto_all (m : Nat) : upto m 64 = MM.units m := by
  refine MM.eq_of_sorted _ _ (List.Pairwise.filter _ List.pairwise_lt_range) (MM.units_sorted _) fun k => ?_
  rw [MM.units_mem]
  simp [upto]
end Go.Proofs.Ytbcldamfekejgaa
