/- The document's numbers: fits, bytes, number, cut, Size. -/
import Derived.Deep.QuietTactic
import Derived.BigQuiet
import Derived.OwnWalk
import Derived.Test.YtplekkpfpidebaaHeldTo
import Derived.Test.YtplekkpfpidebaaWireStr
import Derived.Test.YtplekkpfpidebaaProg
set_option linter.unusedVariables false
namespace Go.Proofs.Ytplekkpfpidebaa
open Go.RowKit
attribute [local go_sem] bs_size bs_get bs_cut bs_app bs_nil bs_list

def sizeZ (k : Int) : Int := match WM.size k with
  | some n => n
  | none => -1
set_option maxRecDepth 100000 in
set_option maxHeartbeats 1000000 in
theorem rsize_any (k : Int) (w : World) :
    Calls Try.prog 23 #[.int .i64 k] w fun e w' => e = .returned (.int .i64 (sizeZ k)) ∧ w = w' := by
  obtain ⟨z, hz⟩ : ∃ z, z = sizeZ k := ⟨_, rfl⟩
  rw [← hz]
  unfold sizeZ WM.size at hz
  have HZ := Lib.hid hz
  clear hz
  go_enter Try.func23, Try.ntmps23
  by_cases h0 : k = 0
  · subst h0
    go_wp2
    go_ret
    exact ⟨by rw [HZ.out]; rfl, rfl⟩
  by_cases h1 : k = 1
  · subst h1
    go_wp2
    go_ret
    exact ⟨by rw [HZ.out]; rfl, rfl⟩
  by_cases h2 : k = 2
  · subst h2
    go_wp2
    go_ret
    exact ⟨by rw [HZ.out]; rfl, rfl⟩
  by_cases h3 : k = 3
  · subst h3
    go_wp2
    go_ret
    exact ⟨by rw [HZ.out]; rfl, rfl⟩
  by_cases h4 : k = 4
  · subst h4
    go_wp2
    go_ret
    exact ⟨by rw [HZ.out]; rfl, rfl⟩
  by_cases h5 : k = 5
  · subst h5
    go_wp2
    go_ret
    exact ⟨by rw [HZ.out]; rfl, rfl⟩
  by_cases h6 : k = 6
  · subst h6
    go_wp2
    go_ret
    exact ⟨by rw [HZ.out]; rfl, rfl⟩
  by_cases h7 : k = 7
  · subst h7
    go_wp2
    go_ret
    exact ⟨by rw [HZ.out]; rfl, rfl⟩
  have e0 : (k == 0) = false := by simpa using h0
  have e1 : (k == 1) = false := by simpa using h1
  have e2 : (k == 2) = false := by simpa using h2
  have e3 : (k == 3) = false := by simpa using h3
  have e4 : (k == 4) = false := by simpa using h4
  have e5 : (k == 5) = false := by simpa using h5
  have e6 : (k == 6) = false := by simpa using h6
  have e7 : (k == 7) = false := by simpa using h7
  have hv : z = -1 := by rw [HZ.out]; simp [h0, h1, h2, h3, h4, h5, h6, h7]
  clear h0 h1 h2 h3 h4 h5 h6 h7 HZ
  subst hv
  go_wp2
  go_ret
  exact ⟨rfl, rfl⟩
set_option maxRecDepth 100000 in
set_option maxHeartbeats 1000000 in
theorem rfits_any (n : Int) (c : Nat) (hc : c ≤ 3) (w : World) :
    Calls Try.prog 25 #[.int .i64 n, .int .i64 c] w fun e w' => e = .returned (.bool (WM.fit n c)) ∧ w = w' := by
  obtain ⟨z, hz⟩ : ∃ z, z = WM.fit n c := ⟨_, rfl⟩
  rw [← hz]
  have HZ := Lib.hid hz
  clear hz
  go_enter Try.func25, Try.ntmps25
  go_wp2
  go_loop [5, 6] (fun m i => ∃ j p : Nat, i = .int .i64 j ∧ m = .int .i64 p ∧ j ≤ c ∧ p ≤ 16777216 ∧ Hid (p = 256 ^ j)) (fun _ i => c - (intOf i).toNat)
  case atStart => exact ⟨0, 1, rfl, rfl, Nat.zero_le _, by omega, Lib.hid rfl⟩
  case round =>
    obtain ⟨j, p, rfl, rfl, hj, hp, hpe⟩ := hrel
    by_cases hlt : j < c
    · have hpl : p * 256 ≤ 16777216 := by
        rw [hpe.out, ← Nat.pow_succ]; exact Nat.pow_le_pow_right (n := 256) (j := 3) (by decide) (by omega)
      go_wp2
      exact ⟨⟨j + 1, p * 256, by go_num, by simp, by omega, hpl, Lib.hid (by rw [hpe.out, Nat.pow_succ])⟩, by simp [intOf]; omega⟩
    · obtain rfl : j = c := by omega
      have e : z = (decide (0 ≤ n) && decide (n < p)) := by
        rw [HZ.out, WM.fit, hpe.out]; push_cast; rfl
      clear HZ hpe hlt
      by_cases h0 : 0 ≤ n
      · by_cases h1 : n < p
        · have t0 : decide (0 ≤ n) = true := decide_eq_true h0
          have t1 : decide (n < (p : Int)) = true := decide_eq_true h1
          rw [t0, t1] at e
          subst e
          go_wp2
          go_ret
          exact ⟨rfl, rfl⟩
        · have t0 : decide (0 ≤ n) = true := decide_eq_true h0
          have t1 : decide (n < (p : Int)) = false := decide_eq_false h1
          rw [t0, t1] at e
          subst e
          go_wp2
          go_ret
          exact ⟨rfl, rfl⟩
      · have t0 : decide (0 ≤ n) = false := decide_eq_false h0
        rw [t0] at e
        simp only [Bool.false_and] at e
        subst e
        go_wp2
        go_ret
        exact ⟨rfl, rfl⟩
set_option maxRecDepth 100000 in
set_option maxHeartbeats 1000000 in
theorem rnumber_any (l : List UInt8) (hl : l.length ≤ 7) (w : World) :
    Calls Try.prog 29 #[.string (bs l)] w fun e w' => e = .returned (.int .i64 (WM.num l)) ∧ w = w' := by
  obtain ⟨n, hn⟩ : ∃ n, n = l.length := ⟨_, rfl⟩
  obtain ⟨z, hz⟩ : ∃ z, z = WM.num l := ⟨_, rfl⟩
  rw [← hz]
  rw [← hn] at hl
  have hs : (bs l).size = n := by rw [bs_size, hn]
  have HN := Lib.hid hn
  have HZ := Lib.hid hz
  clear hn hz
  go_enter Try.func29, Try.ntmps29
  go_wp2
  go_loop [3, 4] (fun m i => ∃ j p : Nat, i = .int .i64 j ∧ m = .int .i64 p ∧ j ≤ n ∧ Hid (p = WM.num (l.take j))) (fun _ i => n - (intOf i).toNat)
  case atStart => exact ⟨0, 0, rfl, rfl, Nat.zero_le _, Lib.hid rfl⟩
  case round =>
    obtain ⟨j, p, rfl, rfl, hj, hpe⟩ := hrel
    by_cases hlt : j < n
    · obtain ⟨b, hb⟩ : ∃ b, b = byt l j := ⟨_, rfl⟩
      have hb2 : b < 256 := by rw [hb]; exact byt_lt l j
      have hpl : p < 281474976710656 := by
        rw [hpe.out]; exact num_le 6 (by simp; omega)
      have Hp : Hid (p * 256 + b = WM.num (l.take (j + 1))) := Lib.hid (by rw [hpe.out, hb, num_take (by rw [← HN.out]; exact hlt)])
      have hb3 := hb.symm
      clear hpe hb
      go_wp2
      exact ⟨⟨j + 1, p * 256 + b, by go_num, by simp, by omega, Hp⟩, by simp [intOf]; omega⟩
    · obtain rfl : j = n := by omega
      have e : z = p := by rw [HZ.out, hpe.out, HN.out, List.take_length]
      subst e
      clear hlt
      go_wp2
      go_ret
      exact ⟨rfl, rfl⟩
/-- What cut tells. -/
def cutZ (l : List UInt8) (n : Nat) : Int × List UInt8 := if n ≤ l.length then (WM.num (l.take n), l.drop n) else (-1, [])
set_option maxRecDepth 100000 in
set_option maxHeartbeats 2000000 in
theorem rcut_any (l : List UInt8) (n : Nat) (hn : n ≤ 7) (hl : l.length ≤ 4611686018427387904) (w : World) :
    Calls Try.prog 31 #[.string (bs l), .int .i64 n] w fun e w' => e = .returned (.tuple #[.int .i64 (cutZ l n).1, .string (bs (cutZ l n).2)]) ∧ Below w.heap.size w w' := by
  obtain ⟨m, hm⟩ : ∃ m, m = l.length := ⟨_, rfl⟩
  obtain ⟨Z, hZ⟩ : ∃ Z, Z = cutZ l n := ⟨_, rfl⟩
  obtain ⟨z, r⟩ := Z
  rw [← hZ]
  unfold cutZ at hZ
  rw [← hm] at hl hZ
  have hs : (bs l).size = m := by rw [bs_size, hm]
  have HM := Lib.hid hm
  go_enter Try.func31, Try.ntmps31
  by_cases h0 : n ≤ m
  · rw [if_pos h0] at hZ
    simp only [Prod.mk.injEq] at hZ
    obtain ⟨hz, hr⟩ := hZ
    have hN := Lib.hid (fun W => show Calls Try.prog 29 #[.string (bs (l.take n))] W (fun e w' => e = .returned (.int .i64 z) ∧ w' = W) from by
      rw [hz]; exact (rnumber_any (l.take n) (by simp; omega) W).mono fun _ _ h => ⟨h.1, h.2.symm⟩)
    have e1 : (bs l).extract 0 n = bs (l.take n) := by rw [bs_cut]; simp
    have e2 : (bs l).extract n m = bs r := by rw [bs_cut, hr, hm]; congr 1; rw [List.take_of_length_le]; simp
    clear hm hz hr
    go_wp2
    go_quiet ((go_at_call 29; exact Calls.quiet_of_same (hN.out _)))
    go_wp2
    go_ret2
    exact ⟨rfl, below_drewN (Below.refl _ w) _⟩
  · rw [if_neg h0] at hZ
    simp only [Prod.mk.injEq] at hZ
    obtain ⟨rfl, rfl⟩ := hZ
    clear hm
    go_wp2
    go_ret2
    exact ⟨rfl, Below.refl _ _⟩
theorem conv_one (w : World) (v : Int) : (convert 67 9 (.slice (some ⟨w.heap.size, 0, none⟩) 1 1)).run Try.prog (w.alloc (.cells #[.int .u8 v] 5)) = .ok (.string (bs [UInt8.ofNat v.toNat])) (w.alloc (.cells #[.int .u8 v] 5)) :=
  run_convert_bytes_arg (w.alloc (.cells #[.int .u8 v] 5)) 67 5 Try.underlying67 Try.underlying5 w.heap.size 0 1 1 [v] rfl (fun i hi => by
    obtain rfl : i = 0 := by omega
    exact cell_blk (heap_alloc_new w _) rfl) 9 Try.underlying9
theorem enc_step {y : Int} {c j : Nat} (hy : 0 ≤ y) (hj : j < c) : WM.enc y.toNat (c - j) = WM.enc (y.tdiv 256).toNat (c - (j + 1)) ++ [UInt8.ofNat (y.tmod 256 % 256).toNat] := by
  obtain ⟨k, hk⟩ : ∃ k, c - j = k + 1 := ⟨c - j - 1, by omega⟩
  rw [hk, show c - (j + 1) = k by omega, WM.enc, Int.tdiv_eq_ediv_of_nonneg hy, Int.tmod_eq_emod_of_nonneg hy]
  congr 3 <;> omega
set_option maxRecDepth 100000 in
set_option maxHeartbeats 2000000 in
theorem rbytes_any (n : Int) (hn : I64 n) (c : Nat) (hc : c ≤ 3) (w : World) :
    Calls Try.prog 24 #[.int .i64 n, .int .i64 c] w fun e w' => ∃ l : List UInt8, e = .returned (.string (bs l)) ∧ l.length = c ∧ (0 ≤ n → l = WM.enc n.toNat c) ∧ Below w.heap.size w w' := by
  go_enter Try.func24, Try.ntmps24
  go_wp2
  go_loopw [0, 5, 6] (fun x s i wr => ∃ (j : Nat) (y : Int) (l : List UInt8), i = .int .i64 j ∧ x = .int .i64 y ∧ s = .string (bs l) ∧ j ≤ c ∧ l.length = j ∧ (-9223372036854775808 ≤ y ∧ y ≤ 9223372036854775807) ∧ Hid (Below w.heap.size w wr) ∧ Hid (0 ≤ n → 0 ≤ y ∧ WM.enc n.toNat c = WM.enc y.toNat (c - j) ++ l)) (fun _ _ i _ => c - (intOf i).toNat)
  case atStart => exact ⟨0, n, [], rfl, rfl, rfl, Nat.zero_le _, rfl, hn, Lib.hid (Below.refl _ _), Lib.hid fun h => ⟨h, by simp⟩⟩
  case round =>
    obtain ⟨j, y, l, rfl, rfl, rfl, hj, hl, hy, hB, hE⟩ := hrel
    by_cases hlt : j < c
    · have hcv := conv_one wr (y.tmod 256 % 256)
      have hq : -9223372036854775808 ≤ y.tdiv 256 ∧ y.tdiv 256 ≤ 9223372036854775807 := by
        have : Int.sign 256 = 1 := rfl
        rw [Int.tdiv_eq_ediv]
        split <;> omega
      go_wp2
      go_roundw
      case rel => exact ⟨j + 1, _, _, by go_num, rfl, rfl, by omega, by simp [hl] <;> omega, hq, Lib.hid (hB.out.alloc (by have := hB.out.size; omega) _), Lib.hid fun h => ⟨Int.tdiv_nonneg (hE.out h).1 (by decide), by
        rw [(hE.out h).2, enc_step (hE.out h).1 hlt]; simp⟩⟩
      case measure => simp [intOf]; omega
    · obtain rfl : j = c := by omega
      go_wp2
      go_ret
      exact ⟨l, rfl, hl, fun h => by rw [(hE.out h).2]; simp [WM.enc], hB.out⟩
end Go.Proofs.Ytplekkpfpidebaa
