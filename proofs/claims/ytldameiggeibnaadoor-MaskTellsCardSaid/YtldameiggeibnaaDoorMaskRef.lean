/- What each function of the document's answer for masks gives: contracts over the seat's translation. -/
import Derived.Deep.QuietTactic
import Derived.BigQuiet
import Derived.OwnWalk
import Derived.Test.YtldameiggeibnaaDoorMaskIn
namespace Go.Proofs.YtldameiggeibnaaDoor
open Go.RowKit

set_option maxRecDepth 100000 in
set_option maxHeartbeats 1000000 in
theorem refbit_any (k : Nat) (hk : k < 64) (w : World) :
    Calls Tryd.prog 23 #[.int .i64 k] w fun e w' => e = .returned (.int .u64 ((2 ^ k : Nat) : Int)) ∧ w = w' := by
  obtain ⟨z, hz⟩ : ∃ z, 2 ^ k = z := ⟨_, rfl⟩
  rw [hz]
  go_enter Tryd.func23, Tryd.ntmps23
  go_wp2
  go_loop [3, 4] (fun b i => ∃ j p : Nat, i = .int .i64 j ∧ b = .int .u64 p ∧ j ≤ k ∧ Hid (p = 2 ^ j)) (fun _ i => k - (intOf i).toNat)
  case atStart => exact ⟨0, 1, rfl, rfl, Nat.zero_le _, Lib.hid rfl⟩
  case round =>
    obtain ⟨j, p, rfl, rfl, hj, hp⟩ := hrel
    by_cases hlt : j < k
    · have hpl : p * 2 < 18446744073709551616 := by
        rw [hp.out, ← Nat.pow_succ]; exact pow_lt (k := j + 1) (by omega)
      have hpi : (p : Int) * 2 ≤ 18446744073709551615 := by omega
      clear hpl
      go_wp2
      exact ⟨⟨j + 1, p * 2, by go_num, by simp, by omega, Lib.hid (by rw [hp.out, Nat.pow_succ])⟩, by simp [intOf]; omega⟩
    · obtain rfl : j = k := by omega
      have e : p = z := by rw [hp.out, hz]
      subst e
      clear hz hp hlt
      go_wp2
      go_ret
      exact ⟨rfl, rfl⟩

theorem bit_test (m k q : Nat) (h : q = m / 2 ^ k) : ((q : Int) % 2 == 1) = m.testBit k := by
  have e : m.testBit k = decide (q % 2 = 1) := by rw [Nat.testBit_eq_decide_div_mod_eq, h]
  rw [e, Bool.eq_iff_iff]
  simp
  omega
set_option maxRecDepth 100000 in
set_option maxHeartbeats 1000000 in
theorem has_any (m k : Nat) (hm : m < 18446744073709551616) (hk : k < 64) (w : World) :
    Calls Tryd.prog 24 #[.int .u64 m, .int .i64 k] w fun e w' => e = .returned (.bool (m.testBit k)) ∧ w = w' := by
  obtain ⟨z, hz⟩ : ∃ z, m.testBit k = z := ⟨_, rfl⟩
  rw [hz]
  have h64 : decide ((k : Int) < 64) = true := by simp; omega
  go_enter Tryd.func24, Tryd.ntmps24
  go_wp2
  go_loop [0, 5] (fun x i => ∃ j q : Nat, i = .int .i64 j ∧ x = .int .u64 q ∧ j ≤ k ∧ q < 18446744073709551616 ∧ Hid (q = m / 2 ^ j)) (fun _ i => k - (intOf i).toNat)
  case atStart => exact ⟨0, m, rfl, rfl, Nat.zero_le _, hm, Lib.hid (by simp)⟩
  case round =>
    obtain ⟨j, q, rfl, rfl, hj, hq, hd⟩ := hrel
    by_cases hlt : j < k
    · go_wp2
      exact ⟨⟨j + 1, q / 2, by go_num, by simp, by omega, by omega, Lib.hid (by rw [hd.out, Nat.div_div_eq_div_mul, Nat.pow_succ])⟩, by simp [intOf]; omega⟩
    · obtain rfl : j = k := by omega
      have e := bit_test m j q hd.out
      rw [hz] at e
      clear hz hd hlt
      have E := Lib.hid e
      clear e
      go_wp2
      simp only [E.out]
      go_ret
      exact ⟨rfl, rfl⟩

theorem clamp_lt {n : Int} {j : Nat} : j < clamp n ↔ (j : Int) < n ∧ j < 64 := by unfold clamp; split; omega; split <;> omega
set_option maxRecDepth 100000 in
set_option maxHeartbeats 1000000 in
theorem reffirst_any (n : Int) (w : World) :
    Calls Tryd.prog 16 #[.int .i64 n] w fun e w' => e = .returned (.int .u64 ((2 ^ clamp n - 1 : Nat) : Int)) ∧ w = w' := by
  obtain ⟨z, hz⟩ : ∃ z, 2 ^ clamp n - 1 = z := ⟨_, rfl⟩
  rw [hz]
  obtain ⟨c, hcl⟩ : ∃ c, clamp n = c := ⟨_, rfl⟩
  have hlt0 := fun j => @clamp_lt n j
  rw [hcl] at hz hlt0
  have H := Lib.hid hlt0
  clear hlt0 hcl
  go_enter Tryd.func16, Tryd.ntmps16
  go_wp2
  go_loop [3, 4] (fun m i => ∃ j q : Nat, i = .int .i64 j ∧ m = .int .u64 q ∧ j ≤ c ∧ j ≤ 64 ∧ Hid (q = 2 ^ j - 1)) (fun _ i => 64 - (intOf i).toNat)
  case atStart => exact ⟨0, 0, rfl, rfl, Nat.zero_le _, by omega, Lib.hid rfl⟩
  case round =>
    obtain ⟨j, q, rfl, rfl, hj, hj64, hq⟩ := hrel
    have hiff := H.out j
    by_cases hlt : j < c
    · obtain ⟨t1, t2⟩ := hiff.1 hlt
      have hb := refbit_any j t2
      have hp := Nat.two_pow_pos j
      have hpl := pow_lt (k := j + 1)
      have hqe := hq.out
      have hsum : q + 2 ^ j = 2 ^ (j + 1) - 1 := by rw [hqe, Nat.pow_succ]; omega
      have hsl : q + 2 ^ j < 18446744073709551616 := by rw [hsum]; exact first_lt (by omega)
      generalize 2 ^ j = p at hb hsum hsl
      have hi : (q : Int) + (p : Int) ≤ 18446744073709551615 := by omega
      have HB := Lib.hid hb
      have HS := Lib.hid hsum
      have t3 : (j : Int) < 64 := by omega
      clear hb hsum hsl hp hpl hqe hiff
      go_wp2_with (go_at_call 23; refine (HB.out _).mono ?_; rintro e w' ⟨rfl, rfl⟩)
      exact ⟨⟨j + 1, q + p, by go_num, by simp, by omega, by omega, HS⟩, by simp [intOf]; omega⟩
    · obtain rfl : j = c := by omega
      have e : q = z := by rw [hq.out, hz]
      subst e
      have hno : ¬ ((j : Int) < n ∧ j < 64) := fun h => hlt (hiff.2 h)
      clear hz hq hlt hiff
      by_cases t1 : (j : Int) < n
      · have t2 : 64 ≤ (j : Int) := by have := fun h => hno ⟨t1, h⟩; omega
        clear hno
        go_wp2
        go_ret
        exact ⟨rfl, rfl⟩
      · clear hno
        go_wp2
        go_ret
        exact ⟨rfl, rfl⟩
end Go.Proofs.YtldameiggeibnaaDoor
