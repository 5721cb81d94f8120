/- The document's answer for a mask's units, for the lowest ones, for the mask of a list: contracts over the seat's translation. -/
import Derived.Maps.AppendAt
import Derived.Test.YteflblcbmkcidaaDoorMaskRef
namespace Go.Proofs.YteflblcbmkcidaaDoor
open Go.RowKit

/-- The units of m below j. -/
def upto (m j : Nat) : List Nat := (List.range j).filter fun k => m.testBit k
theorem upto_hit {m j : Nat} (h : m.testBit j = true) : upto m (j + 1) = upto m j ++ [j] := by
  unfold upto; rw [List.range_succ, List.filter_append]; simp [h]
theorem upto_miss {m j : Nat} (h : m.testBit j = false) : upto m (j + 1) = upto m j := by
  unfold upto; rw [List.range_succ, List.filter_append]; simp [h]
theorem upto_le (m j : Nat) : (upto m j).length ≤ j := by
  have := List.length_filter_le (fun k => m.testBit k) (List.range j)
  simpa [upto] using this
theorem upto_all (m : Nat) : upto m 64 = MM.units m := by
  refine MM.eq_of_sorted _ _ (List.Pairwise.filter _ List.pairwise_lt_range) (MM.units_sorted _) fun k => ?_
  rw [MM.units_mem]
  simp [upto]
set_option maxRecDepth 100000 in
set_option maxHeartbeats 2000000 in
theorem refunits_own (m : Nat) (hm : m < 18446744073709551616) (w : World) :
    Calls Tryd.prog 33 #[.int .u64 m] w fun e w' => ∃ v, e = .returned v ∧ w'.ownsRow w.heap.size 3 1 v (MM.cnt m) (ints (MM.units m)) ∧ Below w.heap.size w w' := by
  obtain ⟨i0, hi, hz0, hz1, hz2⟩ := info_parts info_int
  go_enter Tryd.func33, Tryd.ntmps33
  go_wp2
  go_loopw [3, 4] (fun out i wr => ∃ j : Nat, i = .int .i64 j ∧ j ≤ 64 ∧ wr.ownsRow w.heap.size 3 1 out (upto m j).length (ints (upto m j)) ∧ Below w.heap.size w wr) (fun _ i _ => 64 - (intOf i).toNat)
  case atStart => exact ⟨0, rfl, by omega, World.ownsRow_nil _ _ _ _, Below.refl _ _⟩
  case round =>
    obtain ⟨j, rfl, hj, hown, hB⟩ := hrel
    have hul := upto_le m j
    have hBs := hB.size
    by_cases hlt : j < 64
    · have hh := has_any m j hm hlt
      cases hb : m.testBit j
      · rw [hb] at hh
        have HH := Lib.hid hh
        have e := upto_miss hb
        have E := Lib.hid e
        clear hh hb e hul
        go_wp2_with (go_at_call 42; refine (HH.out _).mono ?_; rintro e w' ⟨rfl, rfl⟩)
        exact ⟨⟨j + 1, by go_num, by omega, by rw [E.out]; exact hown, hB⟩, by simp [intOf]; omega⟩
      · rw [hb] at hh
        have HH := Lib.hid hh
        have e := upto_hit hb
        have E := Lib.hid e
        clear hh hb e
        go_wp2_with (first
          | (go_at_call 42; refine (HH.out _).mono ?_; rintro e w' ⟨rfl, rfl⟩)
          | (at_builtin; refine wpList_append_own _ rfl _ _ 43 rfl w.heap.size 3 i0 (.int .i64 0) 1 8 Tryd.underlying43 hi hz0 hz1 hz2 rfl (by decide) _ _ _ rfl (hown.alloc _) ⟨_, 0, none⟩ 1 1 [.int .i64 (j : Nat)] rfl rfl (cell_one_new _ _ _) (by simp [Value.oneCell']) (by unfold maxLen; omega) (by omega) (by simp; omega) ?_; intro v' w3 hown' hgrow3 hnil3))
        exact ⟨⟨j + 1, by go_num, by omega, by rw [E.out]; simpa [ints] using hown', (hB.alloc hBs _).grown hgrow3 (by simp; omega) (fun k e => (hown.lt k e).1)⟩, by simp [intOf]; omega⟩
    · obtain rfl : j = 64 := by omega
      rw [upto_all] at hown
      clear hlt hul
      go_wp2
      go_ret
      exact ⟨_, rfl, hown, hB⟩
theorem refunits_t (x : Nat) (hx : x < 18446744073709551616) (w : World) (hT : Tab w) :
    Calls Tryd.prog 33 #[.int .u64 x] w fun e w' => ∃ a cap, e = .returned (.slice a (MM.cnt x) cap) ∧ Row w' a (MM.units x) ∧ Stays w w' ∧ Tab w' :=
  (refunits_own x hx w).mono fun _ _ h => by
    obtain ⟨v, rfl, hr, hb⟩ := h
    obtain ⟨a, cap, rfl, hrow⟩ := row_of_owns (l := MM.units x) hr
    exact ⟨a, cap, rfl, hrow, .of hT hb, (Stays.of hT hb).tab⟩

end Go.Proofs.YteflblcbmkcidaaDoor
