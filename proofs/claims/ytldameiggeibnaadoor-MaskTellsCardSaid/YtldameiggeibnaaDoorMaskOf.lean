/- Of, at every list of numbers. -/
import Derived.Test.YtldameiggeibnaaDoorMaskWalks
namespace Go.Proofs.YtldameiggeibnaaDoor
open Go.RowKit

/-- The slice's cells read as the list. -/
def Cells (w : World) (b off : Nat) (l : List Int) : Prop := ∀ i, i < l.length → w.cell? ⟨b, off + i, none⟩ = some (.int .i64 (l[i]?.getD 0))

theorem of_nil (a : Option Addr) (cap : Nat) (w : World) :
    Calls Tryd.prog 13 #[.slice a 0 cap] w fun e w' => e = .returned (.tuple #[.int .u64 0, .int .i64 0]) ∧ w = w' := by
  go_enter Tryd.func13, Tryd.ntmps13
  go_wp2
  go_loop [4, 6, 9] (fun m _ i => m = .int .u64 0 ∧ i = .int .i64 0) (fun _ _ _ => 0)
  case atStart => exact ⟨rfl, rfl⟩
  case round =>
    obtain ⟨rfl, rfl⟩ := hrel
    go_wp2
    go_ret2
    exact ⟨rfl, rfl⟩

set_option maxRecDepth 100000 in
set_option maxHeartbeats 1000000 in
theorem of_cells (b off cap : Nat) (l : List Int) (w : World) (hl : l.length < 9223372036854775807) (hc : Cells w b off l) :
    Calls Tryd.prog 13 #[.slice (some ⟨b, off, none⟩) l.length cap] w fun e w' => e = .returned (.tuple #[.int .u64 ((MM.ofr 0 l).1 : Nat), .int .i64 (MM.ofr 0 l).2]) ∧ w = w' := by
  go_enter Tryd.func13, Tryd.ntmps13
  go_wp2
  go_loop [4, 6, 9] (fun m _ i => ∃ j x : Nat, j ≤ l.length ∧ i = .int .i64 j ∧ m = .int .u64 x ∧ x < 18446744073709551616 ∧ MM.ofr 0 l = MM.ofr x (l.drop j)) (fun _ _ i => l.length - (intOf i).toNat)
  case atStart => exact ⟨0, 0, Nat.zero_le _, rfl, rfl, by omega, rfl⟩
  case round =>
    obtain ⟨j, x, hj, rfl, rfl, hx, hr⟩ := hrel
    by_cases hlt : j < l.length
    · have hcell := hc j hlt
      have hd := MM.drop_at hlt
      rw [hd] at hr
      generalize hk : l[j]?.getD 0 = k at hcell hr
      clear hd hk hc
      by_cases ho : k < 0 ∨ 64 ≤ k
      · have e := MM.ofr_out (m := x) (l := l.drop (j + 1)) ho
        have E := Lib.hid (hr.trans e)
        clear hr e
        by_cases hneg : k < 0
        · clear ho
          have ht : decide (k < 0) = true := by simpa using hneg
          go_wp2
          go_ret2
          exact ⟨by rw [E.out]; rfl, rfl⟩
        · have h64 : 64 ≤ k := by omega
          clear ho
          have ht : decide (k < 0) = false := by simpa using hneg
          have ht2 : decide (64 ≤ k) = true := by simpa using h64
          go_wp2
          go_ret2
          exact ⟨by rw [E.out]; rfl, rfl⟩
      · obtain ⟨q, rfl⟩ : ∃ q : Nat, k = q := ⟨k.toNat, by omega⟩
        have hq : q < 64 := by omega
        have hpw := pow_lt hq
        have hp0 : 0 < 2 ^ q := Nat.two_pow_pos q
        have hbit := bit_any q hq
        have hand := MM.and_pow x q
        have HP : Hid (∃ p, p = 2 ^ q) := ⟨_, rfl⟩
        have ha := and_u64 x (2 ^ q) hx hpw
        have hor := or_u64 x (2 ^ q) hx hpw
        have hol := MM.or_lt hx hpw
        have hon := @MM.ofr_on x q (l.drop (j + 1)) ho
        have htw := @MM.ofr_two x q (l.drop (j + 1)) ho
        have eq : (q : Int).toNat = q := rfl
        rw [eq] at hon htw
        clear ho eq
        have ht1 : decide ((q : Int) < 0) = false := by simp
        have ht2 : decide (64 ≤ (q : Int)) = false := by simp; omega
        by_cases hb : x.testBit q = true
        · have e := htw hb
          rw [if_pos hb] at hand
          rw [hand] at ha
          clear hand hon htw hb hor hol
          generalize 2 ^ q = p at *
          have E := Lib.hid (hr.trans e)
          have hne : ((p : Int) != 0) = true := by simp; omega
          have HB := Lib.hid hbit
          clear hr e hbit hp0 hpw
          go_wp2_with (go_at_call 22; refine (HB.out _).mono ?_; rintro e w' ⟨rfl, rfl⟩)
          go_ret2
          exact ⟨by rw [E.out]; rfl, rfl⟩
        · have e := hon hb
          rw [if_neg hb] at hand
          rw [hand] at ha
          clear hand hon htw hb
          generalize 2 ^ q = p at *
          have E := Lib.hid (hr.trans e)
          have HB := Lib.hid hbit
          have HO := Lib.hid hol
          clear hr e hbit hp0 hpw hol
          go_wp2_with (go_at_call 22; refine (HB.out _).mono ?_; rintro e w' ⟨rfl, rfl⟩)
          exact ⟨⟨j + 1, x ||| p, by omega, by go_num, rfl, HO.out, E.out⟩, by simp [intOf]; omega⟩
    · have hjl : j = l.length := by omega
      rw [hjl, List.drop_length] at hr
      have E := Lib.hid hr
      have hx' : Hid (MM.ofr x [] = (x, 0)) := rfl
      clear hr hjl hc
      go_wp2
      go_ret2
      exact ⟨by rw [E.out]; rfl, rfl⟩
end Go.Proofs.YtldameiggeibnaaDoor
