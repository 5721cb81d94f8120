/- Count and First of package mask, and plain facts on bits of 64: contracts over the seat's translation (for layers above mask). -/
import Derived.WalkKit
import Derived.Lib.Hide
import Derived.IntWalk
import Derived.Laws.Bits64b
import Derived.Test.YtkhbbfpajiimaaaGreatMaskMath
import Derived.Test.YtkhbbfpajiimaaaGreatProg
namespace Go.Proofs.YtkhbbfpajiimaaaGreat
open Go.RowKit

theorem and_u64 (a b : Nat) (ha : a < 18446744073709551616) (hb : b < 18446744073709551616) : bits .and .u64 (a : Int) (b : Int) = ((a &&& b : Nat) : Int) := bits_and_u64_nat a b ha hb
theorem or_u64 (a b : Nat) (ha : a < 18446744073709551616) (hb : b < 18446744073709551616) : bits .or .u64 (a : Int) (b : Int) = ((a ||| b : Nat) : Int) := bits_or_u64_nat a b ha hb
theorem u64_nat (a : Nat) (ha : a < 18446744073709551616) : IntKind.u64.wrap (a : Int) = (a : Int) := by rw [IntKind.wrap_u64]; omega
theorem not_u64 (a b : Nat) (ha : a < 18446744073709551616) (hb : b < 18446744073709551616) : bits .andNot .u64 (a : Int) (b : Int) = ((MM.sub a b : Nat) : Int) := by
  have h1 : (BitVec.ofInt 64 (a : Int)).toNat = a := by
    rw [BitVec.ofInt_natCast, BitVec.toNat_ofNat]; exact Nat.mod_eq_of_lt (by omega)
  have h2 : (BitVec.ofInt 64 (b : Int)).toNat = b := by
    rw [BitVec.ofInt_natCast, BitVec.toNat_ofNat]; exact Nat.mod_eq_of_lt (by omega)
  show IntKind.u64.wrap ((BitVec.ofInt 64 (a : Int) &&& ~~~ BitVec.ofInt 64 (b : Int)).toNat : Int) = _
  have e : a &&& (2 ^ 64 - 1 - b) = MM.sub a b := by
    apply Nat.eq_of_testBit_eq
    intro i
    rw [MM.testBit_sub, Nat.testBit_and, show 2 ^ 64 - 1 - b = 2 ^ 64 - (b + 1) from by omega, Nat.testBit_two_pow_sub_succ (by omega)]
    cases hh : a.testBit i
    · rfl
    · have := MM.bits_lt ha hh
      simp [this]
  rw [BitVec.toNat_and, BitVec.toNat_not, h1, h2, e]
  exact u64_nat _ (MM.sub_lt b ha)
theorem k1 (x : Nat) (h : x < 18446744073709551616) : IntKind.u64.wrap (bits BinOp.and IntKind.u64 ((x : Int) / 2) 6148914691236517205 + bits BinOp.and IntKind.u64 (x : Int) 6148914691236517205) = ((MM.z1 x : Nat) : Int) := by
  have hz := (MM.z_lt x h).1
  have e1 : bits BinOp.and IntKind.u64 ((x : Int) / 2) 6148914691236517205 = ((x / 2 &&& 6148914691236517205 : Nat) : Int) := and_u64 (x / 2) 6148914691236517205 (by omega) (by decide)
  have e2 : bits BinOp.and IntKind.u64 (x : Int) 6148914691236517205 = ((x &&& 6148914691236517205 : Nat) : Int) := and_u64 x 6148914691236517205 h (by decide)
  rw [e1, e2, ← Int.natCast_add]
  exact u64_nat _ hz
theorem k2 (x : Nat) (h : x < 18446744073709551616) : IntKind.u64.wrap (bits BinOp.and IntKind.u64 ((MM.z1 x : Int) / 4) 3689348814741910323 + bits BinOp.and IntKind.u64 (MM.z1 x : Int) 3689348814741910323) = ((MM.z2 (MM.z1 x) : Nat) : Int) := by
  obtain ⟨h1, hz, _⟩ := MM.z_lt x h
  have e1 : bits BinOp.and IntKind.u64 ((MM.z1 x : Int) / 4) 3689348814741910323 = ((MM.z1 x / 4 &&& 3689348814741910323 : Nat) : Int) := and_u64 (MM.z1 x / 4) 3689348814741910323 (by omega) (by decide)
  have e2 : bits BinOp.and IntKind.u64 (MM.z1 x : Int) 3689348814741910323 = ((MM.z1 x &&& 3689348814741910323 : Nat) : Int) := and_u64 (MM.z1 x) 3689348814741910323 h1 (by decide)
  rw [e1, e2, ← Int.natCast_add]
  exact u64_nat _ (Nat.lt_trans hz (by decide))
theorem k3 (y : Nat) (h : y < 9223372036854775808) : bits BinOp.and IntKind.u64 (IntKind.u64.wrap ((y : Int) / 16 + (y : Int))) 1085102592571150095 = ((MM.z3 y : Nat) : Int) := by
  have e : IntKind.u64.wrap ((y : Int) / 16 + (y : Int)) = ((y / 16 + y : Nat) : Int) := u64_nat (y / 16 + y) (by omega)
  rw [e]
  exact and_u64 (y / 16 + y) 1085102592571150095 (by omega) (by decide)
theorem k4 (z d a : Nat) (h : a < 18446744073709551616) (e : a = z + z / d) : IntKind.u64.wrap ((z : Int) + (z : Int) / (d : Int)) = ((a : Nat) : Int) := by
  subst e
  exact u64_nat (z + z / d) h
theorem and_i64 (a b : Nat) (ha : a < 9223372036854775808) (hb : b < 9223372036854775808) : bits .and .i64 (a : Int) (b : Int) = ((a &&& b : Nat) : Int) := by
  have hx : a &&& b < 9223372036854775808 := Nat.lt_of_le_of_lt Nat.and_le_left ha
  have h1 : (BitVec.ofInt 64 (a : Int)).toNat = a := by
    rw [BitVec.ofInt_natCast, BitVec.toNat_ofNat]; exact Nat.mod_eq_of_lt (by omega)
  have h2 : (BitVec.ofInt 64 (b : Int)).toNat = b := by
    rw [BitVec.ofInt_natCast, BitVec.toNat_ofNat]; exact Nat.mod_eq_of_lt (by omega)
  show IntKind.i64.wrap ((BitVec.ofInt 64 (a : Int) &&& BitVec.ofInt 64 (b : Int)).toNat : Int) = _
  rw [BitVec.toNat_and, h1, h2]
  exact IntWalk.i64_in _ (by omega)
theorem k5 (c : Nat) (h : c < 9223372036854775808) : bits BinOp.and IntKind.i64 (wrap64 (c : Int)) 127 = ((c % 128 : Nat) : Int) := by
  have e : wrap64 (c : Int) = (c : Int) := IntWalk.wrap64_in _ (by omega)
  rw [e, show (127 : Int) = ((127 : Nat) : Int) from rfl, and_i64 c 127 h (by decide)]
  rw [show (127 : Nat) = 2 ^ 7 - 1 from rfl, Nat.and_two_pow_sub_one_eq_mod]

set_option maxHeartbeats 400000 in
theorem ones_any (x : Nat) (hx : x < 18446744073709551616) (w : World) :
    Calls Tryz.prog 168 #[.int .u64 x] w fun e w' => e = .returned (.int .i64 (MM.cnt x)) ∧ w = w' := by
  obtain ⟨a, ha⟩ : ∃ a, a = MM.z3 (MM.z2 (MM.z1 x)) + MM.z3 (MM.z2 (MM.z1 x)) / 256 := ⟨_, rfl⟩
  obtain ⟨b, hb⟩ : ∃ b, b = a + a / 65536 := ⟨_, rfl⟩
  obtain ⟨c, hc⟩ : ∃ c, c = b + b / 4294967296 := ⟨_, rfl⟩
  obtain ⟨l1, l2, l3, l4⟩ := MM.ones x hx _ a b c rfl ha hb hc
  have q1 := k1 x hx
  have q2 := k2 x hx
  have q3 := k3 _ (MM.z_lt x hx).2.1
  have q4 : IntKind.u64.wrap ((MM.z3 (MM.z2 (MM.z1 x)) : Int) + (MM.z3 (MM.z2 (MM.z1 x)) : Int) / 256) = (a : Int) := k4 _ 256 a l1 ha
  have q5 : IntKind.u64.wrap ((a : Int) + (a : Int) / 65536) = (b : Int) := k4 _ 65536 b l2 hb
  have q6 : IntKind.u64.wrap ((b : Int) + (b : Int) / 4294967296) = (c : Int) := k4 _ 4294967296 c (Nat.lt_trans l3 (by decide)) hc
  have q7 := k5 c l3
  rw [l4] at q7
  clear ha hb hc l1 l2 l3 l4
  have Q : Hid (_ ∧ _ ∧ _ ∧ _ ∧ _ ∧ _ ∧ _) := ⟨q1, q2, q3, q4, q5, q6, q7⟩
  clear q1 q2 q3 q4 q5 q6 q7
  go_enter Tryz.func168, Tryz.ntmps168
  go_wp2
  obtain ⟨q1, q2, q3, q4, q5, q6, q7⟩ := Q.out
  simp only [q1, q2, q3, q4, q5, q6, q7]
  go_ret
  exact ⟨rfl, rfl⟩
theorem count_any (x : Nat) (hx : x < 18446744073709551616) (w : World) :
    Calls Tryz.prog 140 #[.int .u64 x] w fun e w' => e = .returned (.int .i64 (MM.cnt x)) ∧ w = w' := by
  go_enter Tryz.func140, Tryz.ntmps140
  go_wp2_with (go_at_call 168; refine (ones_any x hx _).mono ?_; rintro e w' ⟨rfl, rfl⟩)
  go_ret
  exact ⟨rfl, rfl⟩
theorem pow_lt {k : Nat} (hk : k < 64) : 2 ^ k < 18446744073709551616 := Nat.pow_lt_pow_right (a := 2) (by decide) hk
/-- How many first units First(n) has. -/
def clamp (n : Int) : Nat := if n < 0 then 0 else if 64 < n then 64 else n.toNat
theorem clamp_le (n : Int) : clamp n ≤ 64 := by unfold clamp; split; omega; split <;> omega
theorem first_lt {k : Nat} (h : k ≤ 64) : 2 ^ k - 1 < 18446744073709551616 := by
  have : 2 ^ k ≤ 2 ^ 64 := Nat.pow_le_pow_right (by decide) h
  omega
theorem first_mid (k : Nat) (h : k < 64) : IntKind.u64.wrap (IntKind.u64.wrap (2 ^ k) - 1) = ((2 ^ k - 1 : Nat) : Int) := by
  have h1 := pow_lt h
  have h2 : 0 < 2 ^ k := Nat.two_pow_pos k
  have e : IntKind.u64.wrap (2 ^ k) = ((2 ^ k : Nat) : Int) := by
    have := u64_nat (2 ^ k) h1
    rw [← this]; simp
  rw [e, show ((2 ^ k : Nat) : Int) - 1 = ((2 ^ k - 1 : Nat) : Int) from by omega]
  exact u64_nat _ (by omega)
theorem first_top : IntKind.u64.wrap (IntKind.u64.wrap 18446744073709551616 - 1) = ((2 ^ 64 - 1 : Nat) : Int) := by simp [IntKind.wrap_u64]
theorem first_any (n : Int) (w : World) :
    Calls Tryz.prog 145 #[.int .i64 n] w fun e w' => e = .returned (.int .u64 ((2 ^ clamp n - 1 : Nat) : Int)) ∧ w = w' := by
  by_cases h1 : n < 0
  · have hc : clamp n = 0 := by unfold clamp; rw [if_pos h1]
    rw [hc]; clear hc
    go_enter Tryz.func145, Tryz.ntmps145
    go_wp2
    go_ret
    exact ⟨rfl, rfl⟩
  · by_cases h2 : 64 < n
    · have hc : clamp n = 64 := by unfold clamp; rw [if_neg h1, if_pos h2]
      rw [hc]; clear hc
      go_enter Tryz.func145, Tryz.ntmps145
      go_wp2
      all_goals
        simp only [first_top]
        go_ret
        exact ⟨rfl, rfl⟩
    · obtain ⟨k, rfl⟩ : ∃ k : Nat, n = k := ⟨n.toNat, by omega⟩
      have hc : clamp (k : Int) = k := by unfold clamp; rw [if_neg h1, if_neg h2]; rfl
      rw [hc]; clear hc
      by_cases h3 : k = 64
      · subst h3
        go_enter Tryz.func145, Tryz.ntmps145
        go_wp2
        all_goals
          simp only [first_top]
          go_ret
          exact ⟨rfl, rfl⟩
      · have hk : k < 64 := by omega
        have F := Lib.hid (first_mid k hk)
        clear h3
        go_enter Tryz.func145, Tryz.ntmps145
        go_wp2
        all_goals
          simp only [F.out]
          go_ret
          exact ⟨rfl, rfl⟩

end Go.Proofs.YtkhbbfpajiimaaaGreat
