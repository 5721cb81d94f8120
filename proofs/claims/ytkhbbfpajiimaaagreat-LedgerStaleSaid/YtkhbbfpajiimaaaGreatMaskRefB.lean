/- The document's answers for masks that later layers use (First, Units): contracts over the seat's translation. -/
import Derived.Deep.QuietTactic
import Derived.BigQuiet
import Derived.OwnWalk
import Derived.Maps.AppendAt
import Derived.Test.YtkhbbfpajiimaaaGreatMaskBase
namespace Go.Proofs.YtkhbbfpajiimaaaGreat
open Go.RowKit
/-- Numbers as cells. -/
def ints (l : List Nat) : List Value := l.map fun k => .int .i64 (k : Nat)
theorem info_int : (Tryz.prog.info? 3).map (fun i => (i.zero, i.size, i.bytes)) = some (some (.int .i64 0), 1, 8) := by kernel_rfl


set_option maxRecDepth 100000 in
set_option maxHeartbeats 1000000 in
theorem refbit_any (k : Nat) (hk : k < 64) (w : World) :
    Calls Tryz.prog 98 #[.int .i64 k] w fun e w' => e = .returned (.int .u64 ((2 ^ k : Nat) : Int)) ∧ w = w' := by
  obtain ⟨z, hz⟩ : ∃ z, 2 ^ k = z := ⟨_, rfl⟩
  rw [hz]
  go_enter Tryz.func98, Tryz.ntmps98
  go_wp2
  go_loop [3, 4] (fun b i => ∃ j p : Nat, i = .int .i64 j ∧ b = .int .u64 p ∧ j ≤ k ∧ Hid (p = 2 ^ j)) (fun _ i => k - (intOf i).toNat)
  case atStart => exact ⟨0, 1, rfl, rfl, Nat.zero_le _, Lib.hid rfl⟩
  case round =>
    obtain ⟨j, p, rfl, rfl, hj, hp⟩ := hrel
    by_cases hlt : j < k
    · have hpl : p * 2 < 18446744073709551616 := by
        rw [hp.out, ← Nat.pow_succ]; exact pow_lt (k := j + 1) (by omega)
      have hpi : (p : Int) * 2 ≤ 18446744073709551615 := by omega
      clear hpl
      go_wp2
      exact ⟨⟨j + 1, p * 2, by go_num, by simp, by omega, Lib.hid (by rw [hp.out, Nat.pow_succ])⟩, by simp [intOf]; omega⟩
    · obtain rfl : j = k := by omega
      have e : p = z := by rw [hp.out, hz]
      subst e
      clear hz hp hlt
      go_wp2
      go_ret
      exact ⟨rfl, rfl⟩

theorem bit_test (m k q : Nat) (h : q = m / 2 ^ k) : ((q : Int) % 2 == 1) = m.testBit k := by
  have e : m.testBit k = decide (q % 2 = 1) := by rw [Nat.testBit_eq_decide_div_mod_eq, h]
  rw [e, Bool.eq_iff_iff]
  simp
  omega
set_option maxRecDepth 100000 in
set_option maxHeartbeats 1000000 in
theorem has_any (m k : Nat) (hm : m < 18446744073709551616) (hk : k < 64) (w : World) :
    Calls Tryz.prog 103 #[.int .u64 m, .int .i64 k] w fun e w' => e = .returned (.bool (m.testBit k)) ∧ w = w' := by
  obtain ⟨z, hz⟩ : ∃ z, m.testBit k = z := ⟨_, rfl⟩
  rw [hz]
  have h64 : decide ((k : Int) < 64) = true := by simp; omega
  go_enter Tryz.func103, Tryz.ntmps103
  go_wp2
  go_loop [0, 5] (fun x i => ∃ j q : Nat, i = .int .i64 j ∧ x = .int .u64 q ∧ j ≤ k ∧ q < 18446744073709551616 ∧ Hid (q = m / 2 ^ j)) (fun _ i => k - (intOf i).toNat)
  case atStart => exact ⟨0, m, rfl, rfl, Nat.zero_le _, hm, Lib.hid (by simp)⟩
  case round =>
    obtain ⟨j, q, rfl, rfl, hj, hq, hd⟩ := hrel
    by_cases hlt : j < k
    · go_wp2
      exact ⟨⟨j + 1, q / 2, by go_num, by simp, by omega, by omega, Lib.hid (by rw [hd.out, Nat.div_div_eq_div_mul, Nat.pow_succ])⟩, by simp [intOf]; omega⟩
    · obtain rfl : j = k := by omega
      have e := bit_test m j q hd.out
      rw [hz] at e
      clear hz hd hlt
      have E := Lib.hid e
      clear e
      go_wp2
      simp only [E.out]
      go_ret
      exact ⟨rfl, rfl⟩

theorem clamp_lt {n : Int} {j : Nat} : j < clamp n ↔ (j : Int) < n ∧ j < 64 := by unfold clamp; split; omega; split <;> omega
set_option maxRecDepth 100000 in
set_option maxHeartbeats 1000000 in
theorem reffirst_any (n : Int) (w : World) :
    Calls Tryz.prog 56 #[.int .i64 n] w fun e w' => e = .returned (.int .u64 ((2 ^ clamp n - 1 : Nat) : Int)) ∧ w = w' := by
  obtain ⟨z, hz⟩ : ∃ z, 2 ^ clamp n - 1 = z := ⟨_, rfl⟩
  rw [hz]
  obtain ⟨c, hcl⟩ : ∃ c, clamp n = c := ⟨_, rfl⟩
  have hlt0 := fun j => @clamp_lt n j
  rw [hcl] at hz hlt0
  have H := Lib.hid hlt0
  clear hlt0 hcl
  go_enter Tryz.func56, Tryz.ntmps56
  go_wp2
  go_loop [3, 4] (fun m i => ∃ j q : Nat, i = .int .i64 j ∧ m = .int .u64 q ∧ j ≤ c ∧ j ≤ 64 ∧ Hid (q = 2 ^ j - 1)) (fun _ i => 64 - (intOf i).toNat)
  case atStart => exact ⟨0, 0, rfl, rfl, Nat.zero_le _, by omega, Lib.hid rfl⟩
  case round =>
    obtain ⟨j, q, rfl, rfl, hj, hj64, hq⟩ := hrel
    have hiff := H.out j
    by_cases hlt : j < c
    · obtain ⟨t1, t2⟩ := hiff.1 hlt
      have hb := refbit_any j t2
      have hp := Nat.two_pow_pos j
      have hpl := pow_lt (k := j + 1)
      have hqe := hq.out
      have hsum : q + 2 ^ j = 2 ^ (j + 1) - 1 := by rw [hqe, Nat.pow_succ]; omega
      have hsl : q + 2 ^ j < 18446744073709551616 := by rw [hsum]; exact first_lt (by omega)
      generalize 2 ^ j = p at hb hsum hsl
      have hi : (q : Int) + (p : Int) ≤ 18446744073709551615 := by omega
      have HB := Lib.hid hb
      have HS := Lib.hid hsum
      have t3 : (j : Int) < 64 := by omega
      clear hb hsum hsl hp hpl hqe hiff
      go_wp2_with (go_at_call 98; refine (HB.out _).mono ?_; rintro e w' ⟨rfl, rfl⟩)
      exact ⟨⟨j + 1, q + p, by go_num, by simp, by omega, by omega, HS⟩, by simp [intOf]; omega⟩
    · obtain rfl : j = c := by omega
      have e : q = z := by rw [hq.out, hz]
      subst e
      have hno : ¬ ((j : Int) < n ∧ j < 64) := fun h => hlt (hiff.2 h)
      clear hz hq hlt hiff
      by_cases t1 : (j : Int) < n
      · have t2 : 64 ≤ (j : Int) := by have := fun h => hno ⟨t1, h⟩; omega
        clear hno
        go_wp2
        go_ret
        exact ⟨rfl, rfl⟩
      · clear hno
        go_wp2
        go_ret
        exact ⟨rfl, rfl⟩
/-- The units of m below j. -/
def upto (m j : Nat) : List Nat := (List.range j).filter fun k => m.testBit k
theorem upto_hit {m j : Nat} (h : m.testBit j = true) : upto m (j + 1) = upto m j ++ [j] := by
  unfold upto; rw [List.range_succ, List.filter_append]; simp [h]
theorem upto_miss {m j : Nat} (h : m.testBit j = false) : upto m (j + 1) = upto m j := by
  unfold upto; rw [List.range_succ, List.filter_append]; simp [h]
theorem upto_le (m j : Nat) : (upto m j).length ≤ j := by
  have := List.length_filter_le (fun k => m.testBit k) (List.range j)
  simpa [upto] using this
theorem upto_all (m : Nat) : upto m 64 = MM.units m := by
  refine MM.eq_of_sorted _ _ (List.Pairwise.filter _ List.pairwise_lt_range) (MM.units_sorted _) fun k => ?_
  rw [MM.units_mem]
  simp [upto]
set_option maxRecDepth 100000 in
set_option maxHeartbeats 2000000 in
theorem refunits_own (m : Nat) (hm : m < 18446744073709551616) (w : World) :
    Calls Tryz.prog 61 #[.int .u64 m] w fun e w' => ∃ v, e = .returned v ∧ w'.ownsRow w.heap.size 3 1 v (MM.cnt m) (ints (MM.units m)) ∧ Below w.heap.size w w' := by
  obtain ⟨i0, hi, hz0, hz1, hz2⟩ := info_parts info_int
  go_enter Tryz.func61, Tryz.ntmps61
  go_wp2
  go_loopw [3, 4] (fun out i wr => ∃ j : Nat, i = .int .i64 j ∧ j ≤ 64 ∧ wr.ownsRow w.heap.size 3 1 out (upto m j).length (ints (upto m j)) ∧ Below w.heap.size w wr) (fun _ i _ => 64 - (intOf i).toNat)
  case atStart => exact ⟨0, rfl, by omega, World.ownsRow_nil _ _ _ _, Below.refl _ _⟩
  case round =>
    obtain ⟨j, rfl, hj, hown, hB⟩ := hrel
    have hul := upto_le m j
    have hBs := hB.size
    by_cases hlt : j < 64
    · have hh := has_any m j hm hlt
      cases hb : m.testBit j
      · rw [hb] at hh
        have HH := Lib.hid hh
        have e := upto_miss hb
        have E := Lib.hid e
        clear hh hb e hul
        go_wp2_with (go_at_call 103; refine (HH.out _).mono ?_; rintro e w' ⟨rfl, rfl⟩)
        exact ⟨⟨j + 1, by go_num, by omega, by rw [E.out]; exact hown, hB⟩, by simp [intOf]; omega⟩
      · rw [hb] at hh
        have HH := Lib.hid hh
        have e := upto_hit hb
        have E := Lib.hid e
        clear hh hb e
        go_wp2_with (first
          | (go_at_call 103; refine (HH.out _).mono ?_; rintro e w' ⟨rfl, rfl⟩)
          | (at_builtin; refine wpList_append_own _ rfl _ _ 36 rfl w.heap.size 3 i0 (.int .i64 0) 1 8 Tryz.underlying36 hi hz0 hz1 hz2 rfl (by decide) _ _ _ rfl (hown.alloc _) ⟨_, 0, none⟩ 1 1 [.int .i64 (j : Nat)] rfl rfl (cell_one_new _ _ _) (by simp [Value.oneCell']) (by unfold maxLen; omega) (by omega) (by simp; omega) ?_; intro v' w3 hown' hgrow3 hnil3))
        exact ⟨⟨j + 1, by go_num, by omega, by rw [E.out]; simpa [ints] using hown', (hB.alloc hBs _).grown hgrow3 (by simp; omega) (fun k e => (hown.lt k e).1)⟩, by simp [intOf]; omega⟩
    · obtain rfl : j = 64 := by omega
      rw [upto_all] at hown
      clear hlt hul
      go_wp2
      go_ret
      exact ⟨_, rfl, hown, hB⟩
end Go.Proofs.YtkhbbfpajiimaaaGreat
