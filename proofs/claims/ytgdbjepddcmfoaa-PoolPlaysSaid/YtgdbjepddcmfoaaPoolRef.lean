/- The document's pool: within, apart, spot. -/
import Derived.Laws.StructEq
import Derived.Deep.QuietTactic
import Derived.BigQuiet
import Derived.Test.YtgdbjepddcmfoaaPoolTwo
import Derived.Test.YtgdbjepddcmfoaaMaskRefB
namespace Go.Proofs.Ytgdbjepddcmfoaa
open Go.RowKit

theorem units_at {w : World} {B : Nat} {v : Value} {m : Nat} (h : w.ownsRow B 3 1 v (MM.cnt m) (ints (MM.units m))) : ∃ A c, v = .slice A (MM.cnt m) c ∧ (MM.cnt m = 0 ∨ ∃ g, A = some ⟨g, 0, none⟩ ∧ g < w.heap.size ∧ ∀ i k, (MM.units m)[i]? = some k → w.cell? ⟨g, i, none⟩ = some (.int .i64 (k : Nat))) := by
  rcases h.2 with ⟨rfl, h0⟩ | ⟨g, cap, cur, rfl, _⟩
  · exact ⟨none, 0, by rw [h0], .inl h0⟩
  · refine ⟨_, _, rfl, .inr ⟨g, rfl, (h.lt g rfl).2, fun i k hk => ?_⟩⟩
    have hi := (List.getElem?_eq_some_iff.1 hk).1
    have e := h.cellAt i (by have : (MM.units m).length = MM.cnt m := rfl; omega)
    rw [e]
    simp [ints, hk]
set_option maxRecDepth 100000 in
set_option maxHeartbeats 1000000 in
theorem refwithin_any (a b : Nat) (ha : a < 18446744073709551616) (hb : b < 18446744073709551616) (w : World) :
    Calls Try.prog 51 #[.int .u64 a, .int .u64 b] w fun e w' => e = .returned (.bool (decide (a &&& b = a))) ∧ Below w.heap.size w w' := by
  obtain ⟨R, hR⟩ : ∃ R, R = decide (a &&& b = a) := ⟨_, rfl⟩
  rw [← hR]
  have hU := Lib.hid (refunits_own a ha w)
  have hR2 : R = (MM.units a).all (fun k => b.testBit k) := by
    rw [hR, Bool.eq_iff_iff, PM.within_iff ha]; simp
  have hH := Lib.hid (fun k (hk : k < 64) W => has_any b k hb hk W)
  have hul : (MM.units a).length = MM.cnt a := rfl
  obtain ⟨n, hn⟩ : ∃ n, n = MM.cnt a := ⟨_, rfl⟩
  have hn64 : n ≤ 64 := by rw [hn]; exact MM.cnt_le a
  rw [← hn] at hU hul
  have Q := Lib.hid (And.intro hR2 (And.intro hul hn))
  clear hR hR2 hul hn ha hb
  go_enter Try.func51, Try.ntmps51
  go_wp2_with fail
  refine hU.out.mono ?_
  rintro e w1 ⟨v, rfl, ho, hb1⟩
  rw [Q.out.2.2] at ho
  obtain ⟨A, c, rfl, hA⟩ := units_at ho
  rw [← Q.out.2.2] at hA ⊢
  have HA := Lib.hid hA
  have HB := Lib.hid hb1
  clear ho hA hb1 hU
  go_wp2_with fail
  go_loop [6] (fun i => ∃ k : Nat, i = .int .i64 k ∧ k ≤ n ∧ Hid (((MM.units a).take k).all (fun k => b.testBit k) = true)) (fun i => n - (intOf i).toNat)
  case atStart => exact ⟨0, rfl, by omega, Lib.hid rfl⟩
  case round =>
    obtain ⟨k, rfl, hk, hall⟩ := hrel
    by_cases hlt : k < n
    · obtain ⟨x, hx⟩ := get_lt (l := MM.units a) (k := k) (by rw [Q.out.2.1]; exact hlt)
      rcases HA.out with h0 | ⟨g, rfl, hg, hc⟩
      · omega
      have c0 := hc k x hx
      have hx64 : x < 64 := MM.units_lt (List.mem_of_getElem? hx)
      have hHx := hH.out x hx64 w1
      have t0 : decide (k < n) = true := decide_eq_true hlt
      cases hbt : b.testBit x
      all_goals
        rw [hbt] at hHx
        have HHx := Lib.hid hHx
        clear hHx
      · have eR : R = false := by rw [Q.out.1]; exact all_no (p := fun k => b.testBit k) hx (by simp [hbt])
        subst eR
        clear hx hc hbt
        go_wp2_with (go_at_call 42; refine HHx.out.mono ?_; rintro e w' ⟨rfl, rfl⟩)
        go_ret
        exact ⟨rfl, HB.out⟩
      · have N := Lib.hid (all_next (p := fun k => b.testBit k) hx hall.out (by simp [hbt]))
        clear hx hc hbt
        go_wp2_with (go_at_call 42; refine HHx.out.mono ?_; rintro e w' ⟨rfl, rfl⟩)
        go_round
        case rel => exact ⟨k + 1, by go_num, by omega, N⟩
        case measure => simp [intOf]; omega
    · obtain rfl : k = n := by omega
      have eR : R = true := by
        rw [Q.out.1]
        have e := hall.out
        rw [← Q.out.2.1] at e
        exact all_end e
      subst eR
      clear hlt
      go_wp2
      go_ret
      exact ⟨rfl, HB.out⟩
set_option maxRecDepth 100000 in
set_option maxHeartbeats 1000000 in
theorem refapart_any (a b : Nat) (ha : a < 18446744073709551616) (hb : b < 18446744073709551616) (w : World) :
    Calls Try.prog 52 #[.int .u64 a, .int .u64 b] w fun e w' => e = .returned (.bool (decide (a &&& b = 0))) ∧ Below w.heap.size w w' := by
  obtain ⟨R, hR⟩ : ∃ R, R = decide (a &&& b = 0) := ⟨_, rfl⟩
  rw [← hR]
  have hU := Lib.hid (refunits_own a ha w)
  have hR2 : R = (MM.units a).all (fun k => !b.testBit k) := by
    rw [hR, Bool.eq_iff_iff, PM.apart_iff ha]; simp
  have hH := Lib.hid (fun k (hk : k < 64) W => has_any b k hb hk W)
  have hul : (MM.units a).length = MM.cnt a := rfl
  obtain ⟨n, hn⟩ : ∃ n, n = MM.cnt a := ⟨_, rfl⟩
  have hn64 : n ≤ 64 := by rw [hn]; exact MM.cnt_le a
  rw [← hn] at hU hul
  have Q := Lib.hid (And.intro hR2 (And.intro hul hn))
  clear hR hR2 hul hn ha hb
  go_enter Try.func52, Try.ntmps52
  go_wp2_with fail
  refine hU.out.mono ?_
  rintro e w1 ⟨v, rfl, ho, hb1⟩
  rw [Q.out.2.2] at ho
  obtain ⟨A, c, rfl, hA⟩ := units_at ho
  rw [← Q.out.2.2] at hA ⊢
  have HA := Lib.hid hA
  have HB := Lib.hid hb1
  clear ho hA hb1 hU
  go_wp2_with fail
  go_loop [6] (fun i => ∃ k : Nat, i = .int .i64 k ∧ k ≤ n ∧ Hid (((MM.units a).take k).all (fun k => !b.testBit k) = true)) (fun i => n - (intOf i).toNat)
  case atStart => exact ⟨0, rfl, by omega, Lib.hid rfl⟩
  case round =>
    obtain ⟨k, rfl, hk, hall⟩ := hrel
    by_cases hlt : k < n
    · obtain ⟨x, hx⟩ := get_lt (l := MM.units a) (k := k) (by rw [Q.out.2.1]; exact hlt)
      rcases HA.out with h0 | ⟨g, rfl, hg, hc⟩
      · omega
      have c0 := hc k x hx
      have hx64 : x < 64 := MM.units_lt (List.mem_of_getElem? hx)
      have hHx := hH.out x hx64 w1
      have t0 : decide (k < n) = true := decide_eq_true hlt
      cases hbt : b.testBit x
      all_goals
        rw [hbt] at hHx
        have HHx := Lib.hid hHx
        clear hHx
      · have N := Lib.hid (all_next (p := fun k => !b.testBit k) hx hall.out (by simp [hbt]))
        clear hx hc hbt
        go_wp2_with (go_at_call 42; refine HHx.out.mono ?_; rintro e w' ⟨rfl, rfl⟩)
        go_round
        case rel => exact ⟨k + 1, by go_num, by omega, N⟩
        case measure => simp [intOf]; omega
      · have eR : R = false := by rw [Q.out.1]; exact all_no (p := fun k => !b.testBit k) hx (by simp [hbt])
        subst eR
        clear hx hc hbt
        go_wp2_with (go_at_call 42; refine HHx.out.mono ?_; rintro e w' ⟨rfl, rfl⟩)
        go_ret
        exact ⟨rfl, HB.out⟩
    · obtain rfl : k = n := by omega
      have eR : R = true := by
        rw [Q.out.1]
        have e := hall.out
        rw [← Q.out.2.1] at e
        exact all_end e
      subst eR
      clear hlt
      go_wp2
      go_ret
      exact ⟨rfl, HB.out⟩
end Go.Proofs.Ytgdbjepddcmfoaa
