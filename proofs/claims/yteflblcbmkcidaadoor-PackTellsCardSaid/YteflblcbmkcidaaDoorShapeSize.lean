/- Size of package shape: how many units are in a mask, shifted out of it. -/
import Derived.StillTactics
import Derived.StillTailTactics
import Derived.Test.YteflblcbmkcidaaDoorShapeCheck
namespace Go.Proofs.YteflblcbmkcidaaDoor
open Go.RowKit

namespace MM
/-- A mask without its lowest unit and what lies below it. -/
def shr (x : Nat) : Nat := x / 2 ^ (Lib.ctz 64 x + 1)
theorem pc_zero : ∀ f, pc f 0 = 0
  | 0 => rfl
  | f + 1 => by unfold pc; simp [pc_zero f]
theorem shr_spec {x : Nat} (h0 : x ≠ 0) (h : x < 18446744073709551616) : cnt x = cnt (shr x) + 1 ∧ shr x < x := by
  obtain ⟨m, hm, hk⟩ := Lib.ctzFrom_spec 64 x (by omega) h
  have e : Lib.ctz 64 x = Lib.ctzFrom 64 x := by simp [Lib.ctz, h0]
  unfold shr
  rw [e]
  generalize Lib.ctzFrom 64 x = k at hm hk
  have hp : 0 < 2 ^ k := Nat.two_pow_pos k
  have e1 : x / 2 ^ k = 2 * m + 1 := by rw [hm]; exact Nat.mul_div_cancel_left _ hp
  have e2 : x / 2 ^ (k + 1) = m := by rw [Nat.pow_succ, ← Nat.div_div_eq_div_mul, e1]; omega
  have e3 : x % 2 ^ k = 0 := by rw [hm]; exact Nat.mul_mod_right _ _
  rw [e2]
  have hml : m < 2 ^ (63 - k) := by
    have h1 : 2 ^ k * (2 * m + 1) < 2 ^ k * 2 ^ (64 - k) := by rw [← hm, ← Nat.pow_add, show k + (64 - k) = 64 by omega]; exact h
    have h2 := Nat.lt_of_mul_lt_mul_left h1
    rw [show 64 - k = 63 - k + 1 by omega, Nat.pow_succ] at h2
    omega
  constructor
  · rw [cnt_pc, cnt_pc]
    have a1 : pc 64 x = pc k x + pc (64 - k) (x / 2 ^ k) := by
      have := pc_add k (64 - k) x; rwa [show k + (64 - k) = 64 by omega] at this
    have a2 : pc k x = 0 := by rw [← pc_mod, e3]; exact pc_zero k
    have a3 : pc (64 - k) (2 * m + 1) = 1 + pc (63 - k) m := by
      rw [show 64 - k = 63 - k + 1 by omega]
      show (2 * m + 1) % 2 + pc (63 - k) ((2 * m + 1) / 2) = _
      rw [show (2 * m + 1) % 2 = 1 by omega, show (2 * m + 1) / 2 = m by omega]
    have a4 : pc 64 m = pc (63 - k) m + pc (k + 1) (m / 2 ^ (63 - k)) := by
      have := pc_add (63 - k) (k + 1) m; rwa [show 63 - k + (k + 1) = 64 by omega] at this
    rw [Nat.div_eq_of_lt hml, pc_zero] at a4
    rw [e1, a3, a2] at a1
    omega
  · rw [hm]
    calc m < 2 * m + 1 := by omega
      _ ≤ 2 ^ k * (2 * m + 1) := Nat.le_mul_of_pos_left _ hp
end MM
set_option maxRecDepth 100000 in
set_option maxHeartbeats 1000000 in
theorem out_none (b : Nat) (w : World) (hc : w.cell? ⟨b, 0, none⟩ = some (.int .u64 0)) :
    Calls Tryd.prog 35 #[.pointer (some ⟨b, 0, none⟩)] w fun e w' => e = .returned (.bool false) ∧ w = w' := by
  go_enter Tryd.func35, Tryd.ntmps35
  go_wp2
  go_ret
  exact ⟨rfl, rfl⟩
set_option maxRecDepth 100000 in
set_option maxHeartbeats 1000000 in
theorem out_one (b x : Nat) (w : World) (hT : Tab w) (h0 : x ≠ 0) (hx : x < 18446744073709551616) (hc : w.cell? ⟨b, 0, none⟩ = some (.int .u64 x)) (hf : w.frozen? ⟨b, 0, none⟩ = false) :
    Calls Tryd.prog 35 #[.pointer (some ⟨b, 0, none⟩)] w fun e w' => e = .returned (.bool true) ∧ w' = w.drew.setCell ⟨b, 0, none⟩ (.int .u64 (MM.shr x : Nat)) := by
  have hz := Lib.hid (tz_any x h0 hx)
  have hk := MM.ctz_lt h0 hx
  have t0 : ((x : Int) == 0) = false := by simp; omega
  have HT := Lib.hid hT
  have HX := Lib.hid (MM.shr_spec h0 hx)
  obtain ⟨k, hk2⟩ : ∃ k, k = Lib.ctz 64 x := ⟨_, rfl⟩
  have hs : MM.shr x = x / 2 ^ (k + 1) := by rw [hk2]; rfl
  rw [← hk2] at hz hk
  have HS := Lib.hid hs
  have hw : IntKind.i64.wrap ((k : Int) + 1) = (k : Int) + 1 := IntWalk.i64_in _ (by omega)
  have hn : (0 : Int) ≤ (k : Int) + 1 := by omega
  have hn2 : ((k : Int) + 1).toNat = k + 1 := by omega
  have HC := Lib.hid hc
  clear hT h0 hs hk2
  go_enter Tryd.func35, Tryd.ntmps35
  go_wp2
  go_still_tail 5, (by kernel_rfl)
  still_call ((hz.out w.drew (fun j hj => HT.out j hj)).mono fun _ _ h => ⟨h.1, h.2.symm⟩)
  repeat still_step
  refine wpStill_nil ?_
  change wpList _ _ _ _ _ w.drew
  have e : (x : Int) / 2 ^ (k + 1) = ((MM.shr x : Nat) : Int) := by rw [HS.out]; simp
  rw [e]
  clear e hw hn hn2 hc
  have hf9 : w.drew.frozen? ⟨b, 0, none⟩ = false := hf
  have hc9 : w.drew.cell? ⟨b, 0, none⟩ = some (.int .u64 x) := HC.out
  obtain ⟨w9, hw9⟩ : ∃ w9, w9 = w.drew := ⟨_, rfl⟩
  rw [← hw9] at hf9 hc9 ⊢
  have HW := Lib.hid hw9
  clear hw9 hf
  go_wp2
  go_ret
  exact ⟨rfl, by rw [HW.out]⟩
/-- How many units are in a mask. -/
theorem size_any (x : Nat) (hx : x < 18446744073709551616) (w : World) (hT : Tab w) :
    Calls Tryd.prog 29 #[.int .u64 x] w fun e w' => e = .returned (.int .i64 (MM.cnt x)) ∧ Below w.heap.size w w' := by
  have h64 := MM.cnt_le x
  have HT := Lib.hid hT
  have hB1 := (Below.refl w.heap.size w).alloc (Nat.le_refl _) (.cells #[.int .u64 x] 36)
  have hb := heap_alloc_new w (.cells #[.int .u64 x] 36)
  have H1 := Lib.hid (And.intro hB1 hb)
  have hX := Lib.hid hx
  obtain ⟨n, hn⟩ : ∃ n, MM.cnt x = n := ⟨_, rfl⟩
  rw [hn] at h64 ⊢
  have HN := Lib.hid hn
  clear hT hB1 hb hx hn
  go_enter Tryd.func29, Tryd.ntmps29
  go_wp2
  go_loopw [4] (fun i wr => ∃ j y : Nat, i = .int .i64 j ∧ j ≤ n ∧ Hid (y < 18446744073709551616 ∧ n = j + MM.cnt y ∧ Below w.heap.size w wr ∧ wr.heap[w.heap.size]? = some (.cells #[.int .u64 (y : Nat)] 36 (0, 0)))) (fun i _ => n - (intOf i).toNat)
  case atStart => exact ⟨0, x, rfl, by omega, Lib.hid ⟨hX.out, by rw [HN.out]; omega, H1.out.1, H1.out.2⟩⟩
  case round =>
    obtain ⟨j, y, rfl, hj, hin⟩ := hrel
    obtain ⟨hy, hs, hB, hbk⟩ := hin.out
    have hcell : wr.cell? ⟨w.heap.size, 0, none⟩ = some (.int .u64 (y : Nat)) := cell_blk (i := 0) hbk rfl
    have hfz : wr.frozen? ⟨w.heap.size, 0, none⟩ = false := frozen_blk hbk
    have hTr : Tab wr := HT.out.below hB HT.out.size
    by_cases h0 : y = 0
    · subst h0
      have e : j = n := by rw [hs]; simp [MM.cnt, MM.units_zero]
      subst e
      have hO := Lib.hid (out_none w.heap.size wr hcell)
      have HB := Lib.hid hB
      clear hs hbk hB hcell hfz hTr hin hy
      go_wp2_with (go_at_call 35; refine hO.out.mono ?_; rintro e w' ⟨rfl, rfl⟩)
      go_ret
      exact ⟨rfl, HB.out⟩
    · have hO := Lib.hid (out_one w.heap.size y wr hTr h0 hy hcell hfz)
      obtain ⟨c1, c2⟩ := MM.shr_spec h0 hy
      have hj2 : j + 1 ≤ n := by omega
      have HS := Lib.hid (show MM.shr y < 18446744073709551616 ∧ n = j + 1 + MM.cnt (MM.shr y) from ⟨by omega, by omega⟩)
      have HB := Lib.hid (And.intro hB hbk)
      clear hs hbk hB hcell hfz hTr hin hy h0 c1 c2
      go_wp2_with (go_at_call 35; refine hO.out.mono ?_; rintro e w2 ⟨rfl, hw2⟩; have HW2 := Lib.hid hw2; clear hw2)
      go_roundw
      case rel =>
        refine ⟨j + 1, MM.shr y, by go_num, hj2, Lib.hid ⟨HS.out.1, HS.out.2, ?_, ?_⟩⟩
        · rw [HW2.out]; exact HB.out.1.drew.setCell (Nat.le_refl _) _
        · rw [HW2.out]
          exact blk_put (i := 0) _ (show wr.drew.heap[w.heap.size]? = _ from HB.out.2)
      case measure => simp [intOf]; omega
end Go.Proofs.YteflblcbmkcidaaDoor
