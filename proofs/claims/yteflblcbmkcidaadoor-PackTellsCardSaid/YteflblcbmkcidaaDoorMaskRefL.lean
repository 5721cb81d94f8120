/- The document's answer for the lowest units, and for the mask of a list: contracts over the seat's translation. -/
import Derived.Test.YteflblcbmkcidaaDoorMaskRefU
namespace Go.Proofs.YteflblcbmkcidaaDoor
open Go.RowKit

theorem add_or : ∀ (k a : Nat), ¬ a.testBit k = true → a + 2 ^ k = a ||| 2 ^ k
  | 0, a, h => by
    have ha : a % 2 = 0 := by
      have := @Nat.mod_two_eq_one_iff_testBit_zero a
      have : ¬ a % 2 = 1 := fun e => h (this.1 e)
      omega
    have h1 : (a ||| 1) / 2 = a / 2 := by rw [Nat.or_div_two]; simp
    have h2 : (a ||| 1) % 2 = 1 := by rw [Nat.or_mod_two_eq_one]; right; rfl
    show a + 1 = a ||| 1
    omega
  | k + 1, a, h => by
    have ih := add_or k (a / 2) (by rwa [Nat.testBit_add_one] at h)
    have h1 : (a ||| 2 ^ (k + 1)) / 2 = a / 2 ||| 2 ^ k := by rw [Nat.or_div_two, Nat.pow_succ]; simp
    have h2 : (a ||| 2 ^ (k + 1)) % 2 = a % 2 := by
      have e1 := @Nat.or_mod_two_eq_one a (2 ^ (k + 1))
      have e2 : 2 ^ (k + 1) % 2 = 0 := by rw [Nat.pow_succ]; omega
      have e3 := Nat.mod_two_eq_zero_or_one (a ||| 2 ^ (k + 1))
      rcases Nat.mod_two_eq_zero_or_one a with e | e
      · rcases e3 with e3 | e3
        · omega
        · have := e1.1 e3; omega
      · rw [e1.2 (.inl e), e]
    have e : 2 ^ (k + 1) = 2 * 2 ^ k := by rw [Nat.pow_succ]; omega
    omega
theorem take_or {l : List Nat} {j : Nat} (h : j < l.length) (hs : l.Pairwise (· < ·)) : MM.ofu (l.take j) + 2 ^ (l[j]?.getD 0) = MM.ofu (l.take (j + 1)) := by
  have e : l.take (j + 1) = l.take j ++ [l[j]?.getD 0] := by
    rw [List.take_succ_eq_append_getElem h, List.getElem?_eq_getElem h]; rfl
  rw [e, MM.ofu_snoc]
  refine add_or _ _ ?_
  rw [MM.testBit_ofu]
  have hn : l.Nodup := hs.imp fun h => Nat.ne_of_lt h
  have h2 : (l.take (j + 1)).Nodup := hn.sublist (List.take_sublist _ _)
  rw [e] at h2
  have := (List.nodup_append.1 h2).2.2
  simp
  intro hm
  exact this _ hm _ (by simp) rfl
theorem reflow_low (x : Nat) (n : Int) (hn : n < 0) (w : World) :
    Calls Tryd.prog 26 #[.int .u64 x, .int .i64 n] w fun e w' => e = .returned (.tuple #[.int .u64 0, .int .i64 1]) ∧ w = w' := by
  go_enter Tryd.func26, Tryd.ntmps26
  go_wp2
  go_ret2
  exact ⟨rfl, rfl⟩
theorem reflow_full (x : Nat) (hx : x < 18446744073709551616) (k : Nat) (hk : MM.cnt x < k) (w : World) (hT : Tab w) :
    Calls Tryd.prog 26 #[.int .u64 x, .int .i64 k] w fun e w' => e = .returned (.tuple #[.int .u64 0, .int .i64 2]) ∧ Stays w w' ∧ Tab w' := by
  have HU := Lib.hid (refunits_t x hx w hT)
  clear hT
  go_enter Tryd.func26, Tryd.ntmps26
  go_wp2_with (go_at_call 33; refine HU.out.mono ?_; rintro e w2 ⟨a, cap, rfl, hrow, hs2, hT2⟩)
  go_ret2
  exact ⟨rfl, hs2, hT2⟩
set_option maxRecDepth 100000 in
set_option maxHeartbeats 2000000 in
theorem reflow_t (x : Nat) (hx : x < 18446744073709551616) (k : Nat) (hk : k ≤ MM.cnt x) (w : World) (hT : Tab w) :
    Calls Tryd.prog 26 #[.int .u64 x, .int .i64 k] w fun e w' => e = .returned (.tuple #[.int .u64 (MM.low x k), .int .i64 0]) ∧ Stays w w' ∧ Tab w' := by
  obtain ⟨z, hz⟩ : ∃ z, MM.low x k = z := ⟨_, rfl⟩
  rw [hz]
  have HU := Lib.hid (refunits_t x hx w hT)
  have h64 := MM.cnt_le x
  have hd : decide (MM.cnt x < k) = false := by simp; omega
  clear hT
  go_enter Tryd.func26, Tryd.ntmps26
  go_wp2_with (go_at_call 33; refine HU.out.mono ?_; rintro e w2 ⟨a, cap, rfl, hrow, hs2, hT2⟩; have HR := Lib.hid hrow; clear hrow)
  go_loop [7, 8] (fun out i => ∃ j q : Nat, i = .int .i64 j ∧ out = .int .u64 q ∧ j ≤ k ∧ Hid (q = MM.ofu ((MM.units x).take j))) (fun _ i => k - (intOf i).toNat)
  case atStart => exact ⟨0, 0, rfl, rfl, Nat.zero_le _, Lib.hid rfl⟩
  case round =>
    obtain ⟨j, q, rfl, rfl, hj, hq⟩ := hrel
    by_cases hlt : j < k
    · have hjl : j < (MM.units x).length := Nat.lt_of_lt_of_le hlt hk
      have hadd := take_or hjl (MM.units_sorted x)
      rw [← hq.out] at hadd
      have hul : (MM.units x)[j]?.getD 0 < 64 := by
        rw [List.getElem?_eq_getElem hjl]; exact MM.units_lt (List.getElem_mem hjl)
      have hol : MM.ofu ((MM.units x).take (j + 1)) < 18446744073709551616 := MM.ofu_lt fun i hi => MM.units_lt (List.mem_of_mem_take hi)
      obtain ⟨g, rfl, hc⟩ : ∃ g, a = some ⟨g, 0, none⟩ ∧ w2.cell? ⟨g, j, none⟩ = some (.int .i64 (((MM.units x)[j]?.getD 0 : Nat) : Int)) := by
        rcases HR.out with h | ⟨g, h, _, hc⟩
        · rw [h] at hjl; simp at hjl
        · exact ⟨g, h, hc j hjl⟩
      generalize (MM.units x)[j]?.getD 0 = u at hadd hul hc
      have hb := refbit_any u hul
      generalize 2 ^ u = p at hadd hb
      rw [← hadd] at hol
      have hi : (q : Int) + (p : Int) ≤ 18446744073709551615 := by omega
      have HB := Lib.hid hb
      have HS := Lib.hid hadd
      clear hb hadd hol hjl hul
      go_wp2_with (go_at_call 34; refine (HB.out _).mono ?_; rintro e w' ⟨rfl, rfl⟩)
      exact ⟨⟨j + 1, q + p, by go_num, by simp, by omega, HS⟩, by simp [intOf]; omega⟩
    · obtain rfl : j = k := by omega
      have e : q = z := by rw [hq.out, ← hz]; rfl
      subst e
      clear hz hq hlt hd
      go_wp2
      go_ret2
      exact ⟨rfl, hs2, hT2⟩

end Go.Proofs.YteflblcbmkcidaaDoor
