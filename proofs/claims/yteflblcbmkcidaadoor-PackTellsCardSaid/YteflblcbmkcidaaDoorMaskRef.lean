/- What each function of the document's answer for masks gives: contracts over the seat's translation. -/
import Derived.Deep.QuietTactic
import Derived.BigQuiet
import Derived.OwnWalk
import Derived.Test.YteflblcbmkcidaaDoorMaskIn
namespace Go.Proofs.YteflblcbmkcidaaDoor
open Go.RowKit

set_option maxRecDepth 100000 in
set_option maxHeartbeats 1000000 in
theorem refbit_any (k : Nat) (hk : k < 64) (w : World) :
    Calls Tryd.prog 34 #[.int .i64 k] w fun e w' => e = .returned (.int .u64 ((2 ^ k : Nat) : Int)) ∧ w = w' := by
  obtain ⟨z, hz⟩ : ∃ z, 2 ^ k = z := ⟨_, rfl⟩
  rw [hz]
  go_enter Tryd.func34, Tryd.ntmps34
  go_wp2
  go_loop [3, 4] (fun b i => ∃ j p : Nat, i = .int .i64 j ∧ b = .int .u64 p ∧ j ≤ k ∧ Hid (p = 2 ^ j)) (fun _ i => k - (intOf i).toNat)
  case atStart => exact ⟨0, 1, rfl, rfl, Nat.zero_le _, Lib.hid rfl⟩
  case round =>
    obtain ⟨j, p, rfl, rfl, hj, hp⟩ := hrel
    by_cases hlt : j < k
    · have hpl : p * 2 < 18446744073709551616 := by
        rw [hp.out, ← Nat.pow_succ]; exact pow_lt (k := j + 1) (by omega)
      have hpi : (p : Int) * 2 ≤ 18446744073709551615 := by omega
      clear hpl
      go_wp2
      exact ⟨⟨j + 1, p * 2, by go_num, by simp, by omega, Lib.hid (by rw [hp.out, Nat.pow_succ])⟩, by simp [intOf]; omega⟩
    · obtain rfl : j = k := by omega
      have e : p = z := by rw [hp.out, hz]
      subst e
      clear hz hp hlt
      go_wp2
      go_ret
      exact ⟨rfl, rfl⟩

theorem bit_test (m k q : Nat) (h : q = m / 2 ^ k) : ((q : Int) % 2 == 1) = m.testBit k := by
  have e : m.testBit k = decide (q % 2 = 1) := by rw [Nat.testBit_eq_decide_div_mod_eq, h]
  rw [e, Bool.eq_iff_iff]
  simp
  omega
set_option maxRecDepth 100000 in
set_option maxHeartbeats 1000000 in
theorem has_any (m k : Nat) (hm : m < 18446744073709551616) (hk : k < 64) (w : World) :
    Calls Tryd.prog 42 #[.int .u64 m, .int .i64 k] w fun e w' => e = .returned (.bool (m.testBit k)) ∧ w = w' := by
  obtain ⟨z, hz⟩ : ∃ z, m.testBit k = z := ⟨_, rfl⟩
  rw [hz]
  have h64 : decide ((k : Int) < 64) = true := by simp; omega
  go_enter Tryd.func42, Tryd.ntmps42
  go_wp2
  go_loop [0, 5] (fun x i => ∃ j q : Nat, i = .int .i64 j ∧ x = .int .u64 q ∧ j ≤ k ∧ q < 18446744073709551616 ∧ Hid (q = m / 2 ^ j)) (fun _ i => k - (intOf i).toNat)
  case atStart => exact ⟨0, m, rfl, rfl, Nat.zero_le _, hm, Lib.hid (by simp)⟩
  case round =>
    obtain ⟨j, q, rfl, rfl, hj, hq, hd⟩ := hrel
    by_cases hlt : j < k
    · go_wp2
      exact ⟨⟨j + 1, q / 2, by go_num, by simp, by omega, by omega, Lib.hid (by rw [hd.out, Nat.div_div_eq_div_mul, Nat.pow_succ])⟩, by simp [intOf]; omega⟩
    · obtain rfl : j = k := by omega
      have e := bit_test m j q hd.out
      rw [hz] at e
      clear hz hd hlt
      have E := Lib.hid e
      clear e
      go_wp2
      simp only [E.out]
      go_ret
      exact ⟨rfl, rfl⟩

theorem clamp_lt {n : Int} {j : Nat} : j < clamp n ↔ (j : Int) < n ∧ j < 64 := by unfold clamp; split; omega; split <;> omega
end Go.Proofs.YteflblcbmkcidaaDoor
