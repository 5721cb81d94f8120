import Derived.Test.YtkkkhonjcbhelaaGreatDoorMaskP
import Derived.Test.YtkkkhonjcbhelaaGreatDoorKitP
import Derived.StillTailTactics
namespace Go.Proofs.YtkkkhonjcbhelaaGreatDoor
section
open Go.RowKit
structure Shp where
 g : Int
 c : Int
 mn : Int
 mx : Int
def Shp.v (s : Shp) : Value := .agg #[.int .i64 s.g, .int .i64 s.c, .int .i64 s.mn, .int .i64 s.mx]
def Shp.ok (s : Shp) : Bool := decide (0 ≤ s.g ∧ s.g ≤ 16 ∧ 0 ≤ s.c ∧ s.c ≤ 1024 ∧ 0 < s.g + s.c ∧ 1 ≤ s.mn ∧ s.mn ≤ s.mx ∧ s.mx ≤ 16)
structure Shp.Wf (s : Shp) : Prop where
 g : (Lit.int .i64 s.g).wf = true
 c : (Lit.int .i64 s.c).wf = true
 mn : (Lit.int .i64 s.mn).wf = true
 mx : (Lit.int .i64 s.mx).wf = true
def chk (b : Bool) : Int := if b = true then 0 else 1
theorem row_at0 (x0 x1 x2 x3 x4 x5 x6 x7 x8 x9 x10 x11 x12 x13 x14 : Value) (W : World) : (Instr.index 129 (.agg #[x0, x1, x2, x3, x4, x5, x6, x7, x8, x9, x10, x11, x12, x13, x14]) (.int .i64 0)).run Tryz.prog W = .ok (.agg #[x0, x1, x2]) W := by kernel_rfl
theorem row_at1 (x0 x1 x2 x3 x4 x5 x6 x7 x8 x9 x10 x11 x12 x13 x14 : Value) (W : World) : (Instr.index 129 (.agg #[x0, x1, x2, x3, x4, x5, x6, x7, x8, x9, x10, x11, x12, x13, x14]) (.int .i64 1)).run Tryz.prog W = .ok (.agg #[x3, x4, x5]) W := by kernel_rfl
theorem row_at2 (x0 x1 x2 x3 x4 x5 x6 x7 x8 x9 x10 x11 x12 x13 x14 : Value) (W : World) : (Instr.index 129 (.agg #[x0, x1, x2, x3, x4, x5, x6, x7, x8, x9, x10, x11, x12, x13, x14]) (.int .i64 2)).run Tryz.prog W = .ok (.agg #[x6, x7, x8]) W := by kernel_rfl
theorem row_at3 (x0 x1 x2 x3 x4 x5 x6 x7 x8 x9 x10 x11 x12 x13 x14 : Value) (W : World) : (Instr.index 129 (.agg #[x0, x1, x2, x3, x4, x5, x6, x7, x8, x9, x10, x11, x12, x13, x14]) (.int .i64 3)).run Tryz.prog W = .ok (.agg #[x9, x10, x11]) W := by kernel_rfl
theorem row_at4 (x0 x1 x2 x3 x4 x5 x6 x7 x8 x9 x10 x11 x12 x13 x14 : Value) (W : World) : (Instr.index 129 (.agg #[x0, x1, x2, x3, x4, x5, x6, x7, x8, x9, x10, x11, x12, x13, x14]) (.int .i64 4)).run Tryz.prog W = .ok (.agg #[x12, x13, x14]) W := by kernel_rfl
def Asked (g c gs mn mx : Int) (k : Int) : Prop := (0 < k → 0 ≤ g ∧ g ≤ 16) ∧ (1 < k → 0 ≤ c ∧ c ≤ 1024) ∧ (2 < k → 1 ≤ gs ∧ gs ≤ 1040) ∧ (3 < k → 1 ≤ mn ∧ mn ≤ 16) ∧ (4 < k → mn ≤ mx ∧ mx ≤ 16)
set_option maxRecDepth 100000 in
set_option maxHeartbeats 4000000 in
theorem check_any (g c mn mx : Int) (w : World) (hg : (Lit.int .i64 g).wf = true) (hc : (Lit.int .i64 c).wf = true) (hn : (Lit.int .i64 mn).wf = true) (hx : (Lit.int .i64 mx).wf = true) :
  Calls Tryz.prog 55 #[.agg #[.int .i64 g, .int .i64 c, .int .i64 mn, .int .i64 mx]] w fun e w' => e = .returned (.int .i64 (chk (Shp.ok ⟨g, c, mn, mx⟩))) ∧ Below w.heap.size w w' := by
 obtain ⟨bg1, bg2⟩ := bounds_i64 hg;obtain ⟨bc1, bc2⟩ := bounds_i64 hc;obtain ⟨bn1, bn2⟩ := bounds_i64 hn;obtain ⟨bx1, bx2⟩ := bounds_i64 hx;obtain ⟨gs, hgs⟩ := nx (wrap64 (g + c));have hgr : 0 ≤ g → g ≤ 16 → 0 ≤ c → c ≤ 1024 → gs = g + c := fun _ _ _ _ => by rw [hgs]; exact IntWalk.wrap64_in _ (by omega)
 obtain ⟨R, hR⟩ := nx (chk (Shp.ok ⟨g, c, mn, mx⟩));rw [← hR];have H := Hq (Ai hgs hgr);have HR := Hq hR;clear hgs hgr hR hg hc hn hx;have HNO : ∀ k : Int, k < 5 → 0 ≤ k → Asked g c gs mn mx k → ¬ Asked g c gs mn mx (k + 1) → R = 1 := fun k hk hk0 h h' => by
  rw [HR.out]; unfold chk Shp.ok;have := H.out.2;unfold Asked at h h';rw [if_neg]; simp; omega
 go_enter Tryz.func55, Tryz.ntmps55;go_wp2;rw [← H.out.1];generalize hW0 : ((w.alloc (Obj.cells #[Value.int IntKind.i64 g, Value.int IntKind.i64 c, Value.int IntKind.i64 mn, Value.int IntKind.i64 mx] 32)).alloc _) = W0;have hB0 : Below w.heap.size w W0 := by rw [← hW0]; exact ((Below.refl _ w).alloc (Nat.le_refl _) _).alloc (by simp) _
 have hS0 := hB0.size;have HB0 := Hq hB0;clear hW0 hB0;go_loopw [28] (fun i wr => ∃ k : Int, i = .int .i64 k ∧ 0 ≤ k ∧ k ≤ 5 ∧ Hid (Below w.heap.size w wr ∧ Asked g c gs mn mx k)) (fun i _ => 5 - (intOf i).toNat)
 case atStart => exact ⟨0, rfl, by omega, by omega, Hq ⟨HB0.out, by simp [Asked]⟩⟩
 case round =>
  obtain ⟨k, rfl, hk0, hk, hin⟩ := hrel;rcases (show k = 0 ∨ k = 1 ∨ k = 2 ∨ k = 3 ∨ k = 4 ∨ k = 5 by omega) with rfl | rfl | rfl | rfl | rfl | rfl
  ·have t0 : decide ((0 : Int) < 5) = true := (by decide);have hix := row_at0 (.int .i64 g) (.int .i64 0) (.int .i64 16) (.int .i64 c) (.int .i64 0) (.int .i64 1024) (.int .i64 gs) (.int .i64 1) (.int .i64 1040) (.int .i64 mn) (.int .i64 1) (.int .i64 16) (.int .i64 mx) (.int .i64 mn) (.int .i64 16);by_cases h1 : g < 0
   ·have t1 : decide (g < 0) = true := decide_eq_true h1;have hno := HNO 0 (by omega) (by omega) hin.out.2;have e : R = 1 := hno (by unfold Asked; omega);subst e;have HS := hin.out.1.size;clear hno h1;go_wp2
    go_ret
    exact ⟨rfl, hin.out.1.alloc HS _⟩
   by_cases h2 : 16 < g
   ·have t1 : decide (g < 0) = false := decide_eq_false h1;have t2 : decide (16 < g) = true := decide_eq_true h2;have hno := HNO 0 (by omega) (by omega) hin.out.2;have e : R = 1 := hno (by unfold Asked; omega);subst e;have HS := hin.out.1.size;clear hno h1 h2;go_wp2
    go_ret
    exact ⟨rfl, hin.out.1.alloc HS _⟩
   have t1 : decide (g < 0) = false := decide_eq_false h1;have t2 : decide (16 < g) = false := decide_eq_false h2;have hA := hin.out.2;have HA : Hid (Asked g c gs mn mx 1) := Hq (by unfold Asked at hA ⊢; omega);have HB := Hq hin.out.1;have HS := hin.out.1.size;clear hA h1 h2 hin;go_wp2
   go_roundw
   case rel => exact ⟨1, rfl, by omega, by omega, Hq ⟨HB.out.alloc HS _, HA.out⟩⟩
   case measure => simp [intOf]
  ·have t0 : decide ((1 : Int) < 5) = true := (by decide);have hix := row_at1 (.int .i64 g) (.int .i64 0) (.int .i64 16) (.int .i64 c) (.int .i64 0) (.int .i64 1024) (.int .i64 gs) (.int .i64 1) (.int .i64 1040) (.int .i64 mn) (.int .i64 1) (.int .i64 16) (.int .i64 mx) (.int .i64 mn) (.int .i64 16);by_cases h1 : c < 0
   ·have t1 : decide (c < 0) = true := decide_eq_true h1;have hno := HNO 1 (by omega) (by omega) hin.out.2;have e : R = 1 := hno (by unfold Asked; omega);subst e;have HS := hin.out.1.size;clear hno h1;go_wp2
    go_ret
    exact ⟨rfl, hin.out.1.alloc HS _⟩
   by_cases h2 : 1024 < c
   ·have t1 : decide (c < 0) = false := decide_eq_false h1;have t2 : decide (1024 < c) = true := decide_eq_true h2;have hno := HNO 1 (by omega) (by omega) hin.out.2;have e : R = 1 := hno (by unfold Asked; omega);subst e;have HS := hin.out.1.size;clear hno h1 h2;go_wp2
    go_ret
    exact ⟨rfl, hin.out.1.alloc HS _⟩
   have t1 : decide (c < 0) = false := decide_eq_false h1;have t2 : decide (1024 < c) = false := decide_eq_false h2;have hA := hin.out.2;have HA : Hid (Asked g c gs mn mx 2) := Hq (by unfold Asked at hA ⊢; omega);have HB := Hq hin.out.1;have HS := hin.out.1.size;clear hA h1 h2 hin;go_wp2
   go_roundw
   case rel => exact ⟨2, rfl, by omega, by omega, Hq ⟨HB.out.alloc HS _, HA.out⟩⟩
   case measure => simp [intOf]
  ·have t0 : decide ((2 : Int) < 5) = true := (by decide);have hix := row_at2 (.int .i64 g) (.int .i64 0) (.int .i64 16) (.int .i64 c) (.int .i64 0) (.int .i64 1024) (.int .i64 gs) (.int .i64 1) (.int .i64 1040) (.int .i64 mn) (.int .i64 1) (.int .i64 16) (.int .i64 mx) (.int .i64 mn) (.int .i64 16);by_cases h1 : gs < 1
   ·have t1 : decide (gs < 1) = true := decide_eq_true h1;have hno := HNO 2 (by omega) (by omega) hin.out.2;have e : R = 1 := hno (by unfold Asked; omega);subst e;have HS := hin.out.1.size;clear hno h1;go_wp2
    go_ret
    exact ⟨rfl, hin.out.1.alloc HS _⟩
   by_cases h2 : 1040 < gs
   ·have t1 : decide (gs < 1) = false := decide_eq_false h1;have t2 : decide (1040 < gs) = true := decide_eq_true h2;have hno := HNO 2 (by omega) (by omega) hin.out.2;have e : R = 1 := hno (by unfold Asked; omega);subst e;have HS := hin.out.1.size;clear hno h1 h2;go_wp2
    go_ret
    exact ⟨rfl, hin.out.1.alloc HS _⟩
   have t1 : decide (gs < 1) = false := decide_eq_false h1;have t2 : decide (1040 < gs) = false := decide_eq_false h2;have hA := hin.out.2;have HA : Hid (Asked g c gs mn mx 3) := Hq (by unfold Asked at hA ⊢; omega);have HB := Hq hin.out.1;have HS := hin.out.1.size;clear hA h1 h2 hin;go_wp2
   go_roundw
   case rel => exact ⟨3, rfl, by omega, by omega, Hq ⟨HB.out.alloc HS _, HA.out⟩⟩
   case measure => simp [intOf]
  ·have t0 : decide ((3 : Int) < 5) = true := (by decide);have hix := row_at3 (.int .i64 g) (.int .i64 0) (.int .i64 16) (.int .i64 c) (.int .i64 0) (.int .i64 1024) (.int .i64 gs) (.int .i64 1) (.int .i64 1040) (.int .i64 mn) (.int .i64 1) (.int .i64 16) (.int .i64 mx) (.int .i64 mn) (.int .i64 16);by_cases h1 : mn < 1
   ·have t1 : decide (mn < 1) = true := decide_eq_true h1;have hno := HNO 3 (by omega) (by omega) hin.out.2;have e : R = 1 := hno (by unfold Asked; omega);subst e;have HS := hin.out.1.size;clear hno h1;go_wp2
    go_ret
    exact ⟨rfl, hin.out.1.alloc HS _⟩
   by_cases h2 : 16 < mn
   ·have t1 : decide (mn < 1) = false := decide_eq_false h1;have t2 : decide (16 < mn) = true := decide_eq_true h2;have hno := HNO 3 (by omega) (by omega) hin.out.2;have e : R = 1 := hno (by unfold Asked; omega);subst e;have HS := hin.out.1.size;clear hno h1 h2;go_wp2
    go_ret
    exact ⟨rfl, hin.out.1.alloc HS _⟩
   have t1 : decide (mn < 1) = false := decide_eq_false h1;have t2 : decide (16 < mn) = false := decide_eq_false h2;have hA := hin.out.2;have HA : Hid (Asked g c gs mn mx 4) := Hq (by unfold Asked at hA ⊢; omega);have HB := Hq hin.out.1;have HS := hin.out.1.size;clear hA h1 h2 hin;go_wp2
   go_roundw
   case rel => exact ⟨4, rfl, by omega, by omega, Hq ⟨HB.out.alloc HS _, HA.out⟩⟩
   case measure => simp [intOf]
  ·have t0 : decide ((4 : Int) < 5) = true := (by decide);have hix := row_at4 (.int .i64 g) (.int .i64 0) (.int .i64 16) (.int .i64 c) (.int .i64 0) (.int .i64 1024) (.int .i64 gs) (.int .i64 1) (.int .i64 1040) (.int .i64 mn) (.int .i64 1) (.int .i64 16) (.int .i64 mx) (.int .i64 mn) (.int .i64 16);by_cases h1 : mx < mn
   ·have t1 : decide (mx < mn) = true := decide_eq_true h1;have hno := HNO 4 (by omega) (by omega) hin.out.2;have e : R = 1 := hno (by unfold Asked; omega);subst e;have HS := hin.out.1.size;clear hno h1;go_wp2
    go_ret
    exact ⟨rfl, hin.out.1.alloc HS _⟩
   by_cases h2 : 16 < mx
   ·have t1 : decide (mx < mn) = false := decide_eq_false h1;have t2 : decide (16 < mx) = true := decide_eq_true h2;have hno := HNO 4 (by omega) (by omega) hin.out.2;have e : R = 1 := hno (by unfold Asked; omega);subst e;have HS := hin.out.1.size;clear hno h1 h2;go_wp2
    go_ret
    exact ⟨rfl, hin.out.1.alloc HS _⟩
   have t1 : decide (mx < mn) = false := decide_eq_false h1;have t2 : decide (16 < mx) = false := decide_eq_false h2;have hA := hin.out.2;have HA : Hid (Asked g c gs mn mx 5) := Hq (by unfold Asked at hA ⊢; omega);have HB := Hq hin.out.1;have HS := hin.out.1.size;clear hA h1 h2 hin;go_wp2
   go_roundw
   case rel => exact ⟨5, rfl, by omega, by omega, Hq ⟨HB.out.alloc HS _, HA.out⟩⟩
   case measure => simp [intOf]
  ·have t0 : decide ((5 : Int) < 5) = false := (by decide);have hA := hin.out.2;have e : R = 0 := by
    rw [HR.out]; unfold Asked at hA; unfold chk Shp.ok;have := H.out.2;rw [if_pos]; simp; omega
   subst e;clear hA;go_wp2
   go_ret
   exact ⟨rfl, hin.out.1⟩
end
section
open Go.RowKit
namespace MM
def shr (x : Nat) : Nat := x / 2 ^ (Lib.ctz 64 x + 1)
theorem pc_zero : ∀ f, pc f 0 = 0
 | 0 => rfl
 | f + 1 => by unfold pc; simp [pc_zero f]
theorem shr_spec {x : Nat} (h0 : x ≠ 0) (h : x < 18446744073709551616) : cnt x = cnt (shr x) + 1 ∧ shr x < x := by
 obtain ⟨m, hm, hk⟩ := Lib.ctzFrom_spec 64 x (by omega) h;have e : Lib.ctz 64 x = Lib.ctzFrom 64 x := by simp [Lib.ctz, h0]
 unfold shr;rw [e];generalize Lib.ctzFrom 64 x = k at hm hk;have hp : 0 < 2 ^ k := Nat.two_pow_pos k;have e1 : x / 2 ^ k = 2 * m + 1 := by rw [hm]; exact Nat.mul_div_cancel_left _ hp
 have e2 : x / 2 ^ (k + 1) = m := by rw [Nat.pow_succ, ← Nat.div_div_eq_div_mul, e1]; omega
 have e3 : x % 2 ^ k = 0 := by rw [hm]; exact Nat.mul_mod_right _ _
 rw [e2];have hml : m < 2 ^ (63 - k) := by
  have h1 : 2 ^ k * (2 * m + 1) < 2 ^ k * 2 ^ (64 - k) := by rw [← hm, ← Nat.pow_add, show k + (64 - k) = 64 by omega]; exact h
  have h2 := Nat.lt_of_mul_lt_mul_left h1;rw [show 64 - k = 63 - k + 1 by omega, Nat.pow_succ] at h2;omega
 constructor
 ·rw [cnt_pc, cnt_pc];have a1 : pc 64 x = pc k x + pc (64 - k) (x / 2 ^ k) := by
   have := pc_add k (64 - k) x; rwa [show k + (64 - k) = 64 by omega] at this
  have a2 : pc k x = 0 := by rw [← pc_mod, e3]; exact pc_zero k
  have a3 : pc (64 - k) (2 * m + 1) = 1 + pc (63 - k) m := by
   rw [show 64 - k = 63 - k + 1 by omega];show (2 * m + 1) % 2 + pc (63 - k) ((2 * m + 1) / 2) = _;rw [show (2 * m + 1) % 2 = 1 by omega, show (2 * m + 1) / 2 = m by omega]
  have a4 : pc 64 m = pc (63 - k) m + pc (k + 1) (m / 2 ^ (63 - k)) := by
   have := pc_add (63 - k) (k + 1) m; rwa [show 63 - k + (k + 1) = 64 by omega] at this
  rw [Nat.div_eq_of_lt hml, pc_zero] at a4;rw [e1, a3, a2] at a1;omega
 ·rw [hm]
  calc m < 2 * m + 1 := by omega
   _ ≤ 2 ^ k * (2 * m + 1) := Nat.le_mul_of_pos_left _ hp
end MM
set_option maxRecDepth 100000 in
set_option maxHeartbeats 1000000 in
theorem out_none (b : Nat) (w : World) (hc : w.cell? ⟨b, 0, none⟩ = some (.int .u64 0)) :
  Calls Tryz.prog 82 #[.pointer (some ⟨b, 0, none⟩)] w fun e w' => e = .returned (.bool false) ∧ w = w' := by
 go_enter Tryz.func82, Tryz.ntmps82;go_wp2
 go_ret
 exact ⟨rfl, rfl⟩
set_option maxRecDepth 100000 in
set_option maxHeartbeats 1000000 in
theorem out_one (b x : Nat) (w : World) (hT : Tab w) (h0 : x ≠ 0) (hx : x < 18446744073709551616) (hc : w.cell? ⟨b, 0, none⟩ = some (.int .u64 x)) (hf : w.frozen? ⟨b, 0, none⟩ = false) :
  Calls Tryz.prog 82 #[.pointer (some ⟨b, 0, none⟩)] w fun e w' => e = .returned (.bool true) ∧ w' = w.drew.setCell ⟨b, 0, none⟩ (.int .u64 (MM.shr x : Nat)) := by
 have hz := Hq (tz_any x h0 hx);have hk := MM.ctz_lt h0 hx;have t0 : ((x : Int) == 0) = false := by simp; omega
 have HT := Hq hT;have HX := Hq (MM.shr_spec h0 hx);obtain ⟨k, hk2⟩ : ∃ k, k = Lib.ctz 64 x := ⟨_, rfl⟩
 have hs : MM.shr x = x / 2 ^ (k + 1) := by rw [hk2]; rfl
 rw [← hk2] at hz hk;have HS := Hq hs;have hw : IntKind.i64.wrap ((k : Int) + 1) = (k : Int) + 1 := IntWalk.i64_in _ (by omega);have hn : (0 : Int) ≤ (k : Int) + 1 := by omega
 have hn2 : ((k : Int) + 1).toNat = k + 1 := by omega
 have HC := Hq hc;clear hT h0 hs hk2;go_enter Tryz.func82, Tryz.ntmps82;go_wp2
 go_still_tail 5, (by kernel_rfl)
 still_call ((hz.out w.drew (fun j hj => HT.out j hj)).mono fun _ _ h => ⟨h.1, h.2.symm⟩)
 repeat still_step
 refine wpStill_nil ?_
 change wpList _ _ _ _ _ w.drew
 have e : (x : Int) / 2 ^ (k + 1) = ((MM.shr x : Nat) : Int) := by rw [HS.out]; simp
 rw [e];clear e hw hn hn2 hc;have hf9 : w.drew.frozen? ⟨b, 0, none⟩ = false := hf;have hc9 : w.drew.cell? ⟨b, 0, none⟩ = some (.int .u64 x) := HC.out;obtain ⟨w9, hw9⟩ := nx (w.drew);rw [← hw9] at hf9 hc9 ⊢;have HW := Hq hw9;clear hw9 hf;go_wp2
 go_ret
 exact ⟨rfl, by rw [HW.out]⟩
theorem size_any (x : Nat) (hx : x < 18446744073709551616) (w : World) (hT : Tab w) :
  Calls Tryz.prog 76 #[.int .u64 x] w fun e w' => e = .returned (.int .i64 (MM.cnt x)) ∧ Below w.heap.size w w' := by
 have h64 := MM.cnt_le x;have HT := Hq hT;have hB1 := (Below.refl w.heap.size w).alloc (Nat.le_refl _) (.cells #[.int .u64 x] 59);have hb := heap_alloc_new w (.cells #[.int .u64 x] 59);have H1 := Hq (Ai hB1 hb);have hX := Hq hx;obtain ⟨n, hn⟩ : ∃ n, MM.cnt x = n := ⟨_, rfl⟩
 rw [hn] at h64 ⊢;have HN := Hq hn;clear hT hB1 hb hx hn;go_enter Tryz.func76, Tryz.ntmps76;go_wp2;go_loopw [4] (fun i wr => ∃ j y : Nat, i = .int .i64 j ∧ j ≤ n ∧ Hid (y < 18446744073709551616 ∧ n = j + MM.cnt y ∧ Below w.heap.size w wr ∧ wr.heap[w.heap.size]? = some (.cells #[.int .u64 (y : Nat)] 59 (0, 0)))) (fun i _ => n - (intOf i).toNat)
 case atStart => exact ⟨0, x, rfl, by omega, Hq ⟨hX.out, by rw [HN.out]; omega, H1.out.1, H1.out.2⟩⟩
 case round =>
  obtain ⟨j, y, rfl, hj, hin⟩ := hrel;obtain ⟨hy, hs, hB, hbk⟩ := hin.out;have hcell : wr.cell? ⟨w.heap.size, 0, none⟩ = some (.int .u64 (y : Nat)) := cell_blk (i := 0) hbk rfl;have hfz : wr.frozen? ⟨w.heap.size, 0, none⟩ = false := frozen_blk hbk;have hTr : Tab wr := HT.out.below hB HT.out.size;by_cases h0 : y = 0
  ·subst h0;have e : j = n := by rw [hs]; simp [MM.cnt, MM.units_zero]
   subst e;have hO := Hq (out_none w.heap.size wr hcell);have HB := Hq hB;clear hs hbk hB hcell hfz hTr hin hy;go_wp2_with (go_at_call 82; refine hO.out.mono ?_; rintro e w' ⟨rfl, rfl⟩)
   go_ret
   exact ⟨rfl, HB.out⟩
  ·have hO := Hq (out_one w.heap.size y wr hTr h0 hy hcell hfz);obtain ⟨c1, c2⟩ := MM.shr_spec h0 hy;have hj2 : j + 1 ≤ n := (by omega);have HS := Hq (show MM.shr y < 18446744073709551616 ∧ n = j + 1 + MM.cnt (MM.shr y) from ⟨by omega, by omega⟩);have HB := Hq (Ai hB hbk);clear hs hbk hB hcell hfz hTr hin hy h0 c1 c2;go_wp2_with (go_at_call 82; refine hO.out.mono ?_; rintro e w2 ⟨rfl, hw2⟩; have HW2 := Hq hw2; clear hw2)
   go_roundw
   case rel =>
    refine ⟨j + 1, MM.shr y, by go_num, hj2, Hq ⟨HS.out.1, HS.out.2, ?_, ?_⟩⟩
    ·rw [HW2.out]; exact HB.out.1.drew.setCell (Nat.le_refl _) _
    ·rw [HW2.out];exact blk_put (i := 0) _ (show wr.drew.heap[w.heap.size]? = _ from HB.out.2)
   case measure => simp [intOf]; omega
end
section
open Go.RowKit
def tms (need free : Nat) : Nat := if need = 0 then 16 else free / need
def fitN (g c m k : Nat) : Nat := min (min 16 (tms g m)) (tms c k)
theorem tms_le (need free : Nat) (h : free ≤ 9223372036854775807) : tms need free ≤ 9223372036854775807 := by
 unfold tms; split
 ·omega
 ·exact Nat.le_trans (Nat.div_le_self _ _) h
theorem times_any (need free : Nat) (hn : need ≤ 1024) (hf : free ≤ 9223372036854775807) (w : World) :
  Calls Tryz.prog 75 #[.int .i64 need, .int .i64 free] w fun e w' => e = .returned (.int .i64 (tms need free : Nat)) ∧ w = w' := by
 by_cases h0 : need = 0
 ·subst h0;have e : tms 0 free = 16 := rfl;rw [e];clear e;go_enter Tryz.func75, Tryz.ntmps75;go_wp2
  go_ret
  exact ⟨rfl, rfl⟩
 ·have hpos : 0 < need := by omega
  have t0 : ((need : Int) == 0) = false := by simp; omega
  have e : ((tms need free : Nat) : Int) = (free : Int) / (need : Int) := by unfold tms; rw [if_neg h0]; simp
  have H := Hq e;clear e h0;go_enter Tryz.func75, Tryz.ntmps75;go_wp2
  go_ret
  refine ⟨?_, rfl⟩;rw [H.out];show Ending.returned (.int .i64 (wrap64 ((free : Int) / (need : Int)))) = _;have h1 := tms_le need free hf;rw [IntWalk.wrap64_in _ (by rw [← H.out]; omega)]
set_option maxHeartbeats 1000000 in
theorem least_any (b x y : Nat) (w : World) (hx : x ≤ 9223372036854775807) (hy : y ≤ 9223372036854775807) (h0 : w.cell? ⟨b, 0, none⟩ = some (.int .i64 x)) (h1 : w.cell? ⟨b, 1, none⟩ = some (.int .i64 y)) :
  Calls Tryz.prog 74 #[.int .i64 16, .slice (some ⟨b, 0, none⟩) 2 2] w fun e w' => e = .returned (.int .i64 (min (min 16 x) y : Nat)) ∧ w = w' := by
 obtain ⟨R, hR⟩ := nx (min (min 16 x) y);rw [← hR];have HR := Hq hR;clear hR;go_enter Tryz.func74, Tryz.ntmps74;go_wp2
 go_loop [0, 9] (fun n i => ∃ k q : Nat, i = .int .i64 (k : Int) ∧ n = .int .i64 (q : Int) ∧ k ≤ 2 ∧ q ≤ 16 ∧ Hid (q = if k = 0 then 16 else if k = 1 then min 16 x else min (min 16 x) y)) (fun _ i => 2 - (intOf i).toNat)
 case atStart => exact ⟨0, 16, rfl, rfl, by omega, by omega, Hq rfl⟩
 case round =>
  obtain ⟨k, q, rfl, rfl, hk, hq, hQ⟩ := hrel;rcases (show k = 0 ∨ k = 1 ∨ k = 2 by omega) with rfl | rfl | rfl
  ·go_wp2;refine ⟨⟨1, if x < q then x else q, rfl, by split <;> rfl, by omega, by split <;> omega, Hq ?_⟩, by simp [intOf]⟩;have := hQ.out; simp at this; subst this; simp; split <;> omega
  ·go_wp2;refine ⟨⟨2, if y < q then y else q, rfl, by split <;> rfl, by omega, by split <;> omega, Hq ?_⟩, by simp [intOf]⟩;have := hQ.out; simp at this; subst this; simp; split <;> omega
  ·have e : R = q := by have := hQ.out; have := HR.out; simp at *; omega
   subst e;clear hQ;go_wp2
   go_ret
   exact ⟨rfl, rfl⟩
theorem fit_le (g c m k : Nat) : fitN g c m k ≤ 16 := by unfold fitN; omega
theorem check_ok (g c mn mx : Int) (w : World) (hw : Shp.Wf ⟨g, c, mn, mx⟩) (h : Shp.ok ⟨g, c, mn, mx⟩ = true) :
  Calls Tryz.prog 55 #[.agg #[.int .i64 g, .int .i64 c, .int .i64 mn, .int .i64 mx]] w fun e w' => e = .returned (.int .i64 0) ∧ Below w.heap.size w w' := by
 have := check_any g c mn mx w hw.g hw.c hw.mn hw.mx; rw [h] at this; exact this
theorem check_no (g c mn mx : Int) (w : World) (hw : Shp.Wf ⟨g, c, mn, mx⟩) (h : Shp.ok ⟨g, c, mn, mx⟩ = false) :
  Calls Tryz.prog 55 #[.agg #[.int .i64 g, .int .i64 c, .int .i64 mn, .int .i64 mx]] w fun e w' => e = .returned (.int .i64 1) ∧ Below w.heap.size w w' := by
 have := check_any g c mn mx w hw.g hw.c hw.mn hw.mx; rw [h] at this; exact this
theorem Shp.nat {g c mn mx : Int} (h : Shp.ok ⟨g, c, mn, mx⟩ = true) : ∃ a b : Nat, g = a ∧ c = b ∧ a ≤ 16 ∧ b ≤ 1024 ∧ 0 < a + b := by
 unfold Shp.ok at h; simp at h;exact ⟨g.toNat, c.toNat, by omega, by omega, by omega, by omega, by omega⟩
set_option maxRecDepth 100000 in
set_option maxHeartbeats 1000000 in
theorem fits_bad (g c mn mx n d : Int) (m : Nat) (k : Int) (w : World) (hw : Shp.Wf ⟨g, c, mn, mx⟩) (h : Shp.ok ⟨g, c, mn, mx⟩ = false) :
  Calls Tryz.prog 67 #[.agg #[.int .i64 g, .int .i64 c, .int .i64 mn, .int .i64 mx], .agg #[.int .i64 n, .int .i64 d, .int .u64 (m : Nat), .int .i64 k]] w fun e w' => e = .returned (.int .i64 0) ∧ Below w.heap.size w w' := by
 have bS := heap_alloc_new w (.cells #[.int .i64 g, .int .i64 c, .int .i64 mn, .int .i64 mx] 32);have bF := heap_alloc_new (w.alloc (.cells #[.int .i64 g, .int .i64 c, .int .i64 mn, .int .i64 mx] 32)) (.cells #[.int .i64 n, .int .i64 d, .int .u64 (m : Nat), .int .i64 k] 63);have hB1 := (Below.refl w.heap.size w).alloc (Nat.le_refl _) (.cells #[.int .i64 g, .int .i64 c, .int .i64 mn, .int .i64 mx] 32);have hB2 := hB1.alloc (by simp) (.cells #[.int .i64 n, .int .i64 d, .int .u64 (m : Nat), .int .i64 k] 63);have bS2 := (Below.heap_alloc (w.alloc (.cells #[.int .i64 g, .int .i64 c, .int .i64 mn, .int .i64 mx] 32)) (.cells #[.int .i64 n, .int .i64 d, .int .u64 (m : Nat), .int .i64 k] 63) _ (blk_lt bS)).trans bS;rw [World.size_alloc] at bF;have hC := Hq (fun W => check_no g c mn mx W hw h);have HB := Hq hB2;clear hw h bS bF hB1 bS2 hB2;go_enter Tryz.func67, Tryz.ntmps67;go_wp2_with (go_at_call 55; refine (hC.out _).mono ?_; rintro e w1 ⟨rfl, hb1⟩)
 go_ret
 exact ⟨rfl, below_step HB.out hb1⟩
set_option maxRecDepth 100000 in
set_option maxHeartbeats 1000000 in
theorem fits_neg (g c mn mx n d : Int) (m : Nat) (k : Int) (w : World) (hw : Shp.Wf ⟨g, c, mn, mx⟩) (h : Shp.ok ⟨g, c, mn, mx⟩ = true) (hk : k < 0) :
  Calls Tryz.prog 67 #[.agg #[.int .i64 g, .int .i64 c, .int .i64 mn, .int .i64 mx], .agg #[.int .i64 n, .int .i64 d, .int .u64 (m : Nat), .int .i64 k]] w fun e w' => e = .returned (.int .i64 0) ∧ Below w.heap.size w w' := by
 have bS := heap_alloc_new w (.cells #[.int .i64 g, .int .i64 c, .int .i64 mn, .int .i64 mx] 32);have bF := heap_alloc_new (w.alloc (.cells #[.int .i64 g, .int .i64 c, .int .i64 mn, .int .i64 mx] 32)) (.cells #[.int .i64 n, .int .i64 d, .int .u64 (m : Nat), .int .i64 k] 63);have hB1 := (Below.refl w.heap.size w).alloc (Nat.le_refl _) (.cells #[.int .i64 g, .int .i64 c, .int .i64 mn, .int .i64 mx] 32);have hB2 := hB1.alloc (by simp) (.cells #[.int .i64 n, .int .i64 d, .int .u64 (m : Nat), .int .i64 k] 63);have bS2 := (Below.heap_alloc (w.alloc (.cells #[.int .i64 g, .int .i64 c, .int .i64 mn, .int .i64 mx] 32)) (.cells #[.int .i64 n, .int .i64 d, .int .u64 (m : Nat), .int .i64 k] 63) _ (blk_lt bS)).trans bS;rw [World.size_alloc] at bF;have hC := Hq (fun W => check_ok g c mn mx W hw h);have HB := Hq hB2;have HF := Hq bF;have t0 : decide (k < 0) = true := decide_eq_true hk;clear hw h bS bF hB1 bS2 hB2 hk;go_enter Tryz.func67, Tryz.ntmps67;go_wp2_with (go_at_call 55; refine (hC.out _).mono ?_; rintro e w1 ⟨rfl, hb1⟩; have k3 : w1.cell? ⟨w.heap.size + 1, 2 + 1, none⟩ = some (.int .i64 k) := (hb1.cell (p := ⟨w.heap.size + 1, 2 + 1, none⟩) (by simp)).trans (cell_blk (i := 3) HF.out rfl))
 go_ret
 exact ⟨rfl, below_step HB.out hb1⟩
set_option maxRecDepth 100000 in
set_option maxHeartbeats 1000000 in
theorem fits_ok (g c : Nat) (mn mx n d : Int) (m k : Nat) (w : World) (hw : Shp.Wf ⟨g, c, mn, mx⟩) (h : Shp.ok ⟨g, c, mn, mx⟩ = true) (hm : m < 18446744073709551616) (hk : k ≤ 9223372036854775807) (hT : Tab w) :
  Calls Tryz.prog 67 #[.agg #[.int .i64 (g : Int), .int .i64 (c : Int), .int .i64 mn, .int .i64 mx], .agg #[.int .i64 n, .int .i64 d, .int .u64 (m : Nat), .int .i64 (k : Int)]] w fun e w' => e = .returned (.int .i64 (fitN g c (MM.cnt m) k : Nat)) ∧ Below w.heap.size w w' := by
 have bS := heap_alloc_new w (.cells #[.int .i64 (g : Int), .int .i64 (c : Int), .int .i64 mn, .int .i64 mx] 32);have bF := heap_alloc_new (w.alloc (.cells #[.int .i64 (g : Int), .int .i64 (c : Int), .int .i64 mn, .int .i64 mx] 32)) (.cells #[.int .i64 n, .int .i64 d, .int .u64 (m : Nat), .int .i64 (k : Int)] 63);have hB1 := (Below.refl w.heap.size w).alloc (Nat.le_refl _) (.cells #[.int .i64 (g : Int), .int .i64 (c : Int), .int .i64 mn, .int .i64 mx] 32);have hB2 := hB1.alloc (by simp) (.cells #[.int .i64 n, .int .i64 d, .int .u64 (m : Nat), .int .i64 (k : Int)] 63);have bS2 := (Below.heap_alloc (w.alloc (.cells #[.int .i64 (g : Int), .int .i64 (c : Int), .int .i64 mn, .int .i64 mx] 32)) (.cells #[.int .i64 n, .int .i64 d, .int .u64 (m : Nat), .int .i64 (k : Int)] 63) _ (blk_lt bS)).trans bS;rw [World.size_alloc] at bF;have hC := Hq (fun W => check_ok g c mn mx W hw h);have HB := Hq hB2;have HT := Hq hT;have HF := Hq (Ai bS2 bF);obtain ⟨a, b, ha, hb, ha2, hb2, _⟩ := Shp.nat h;have hg16 : g ≤ 16 := by omega
 have hc16 : c ≤ 1024 := by omega
 have t0 : decide ((k : Int) < 0) = false := by simp
 have hS := Hq (fun W hW => size_any m hm W hW);obtain ⟨u, hu⟩ : ∃ u, MM.cnt m = u := ⟨_, rfl⟩
 have hu64 : u ≤ 64 := by rw [← hu]; exact MM.cnt_le m
 rw [hu] at hS ⊢;have hT1 := Hq (fun W => times_any g u (by omega) (by omega) W);have hT2 := Hq (fun W => times_any c k (by omega) hk W);obtain ⟨q, hq⟩ := nx (fitN g c u k);obtain ⟨x, hx⟩ := nx (tms g u);obtain ⟨y, hy⟩ := nx (tms c k);have hxl : x ≤ 9223372036854775807 := by rw [hx]; exact tms_le _ _ (by omega)
 have hyl : y ≤ 9223372036854775807 := by rw [hy]; exact tms_le _ _ hk
 rw [← hq];rw [← hx] at hT1;rw [← hy] at hT2;have HQ := Hq (show q = min (min 16 x) y by rw [hq, hx, hy]; rfl);clear hw h bS bF hB1 bS2 hB2 hT hu hq hx hy ha hb;go_enter Tryz.func67, Tryz.ntmps67;go_wp2_with fail;refine (hC.out _).mono ?_;rintro e w1 ⟨rfl, hb1⟩;have hs1 : w.heap.size + 1 + 1 ≤ w1.heap.size := by have := hb1.size; simpa using this
 have s0 : w1.cell? ⟨w.heap.size, 0, none⟩ = some (.int .i64 (g : Int)) := (hb1.cell (p := ⟨w.heap.size, 0, none⟩) (by simp <;> omega)).trans (cell_blk (i := 0) HF.out.1 rfl);have s1 : w1.cell? ⟨w.heap.size, 1, none⟩ = some (.int .i64 (c : Int)) := (hb1.cell (p := ⟨w.heap.size, 1, none⟩) (by simp <;> omega)).trans (cell_blk (i := 1) HF.out.1 rfl);have f2 : w1.cell? ⟨w.heap.size + 1, 2, none⟩ = some (.int .u64 (m : Nat)) := (hb1.cell (p := ⟨w.heap.size + 1, 2, none⟩) (by simp <;> omega)).trans (cell_blk (i := 2) HF.out.2 rfl);have f3 : w1.cell? ⟨w.heap.size + 1, 3, none⟩ = some (.int .i64 (k : Int)) := (hb1.cell (p := ⟨w.heap.size + 1, 3, none⟩) (by simp <;> omega)).trans (cell_blk (i := 3) HF.out.2 rfl);have HT1 := Hq ((HT.out.below HB.out HT.out.size).below (hb1.mono HB.out.size) (by have := HT.out.size; have := HB.out.size; omega));go_wp2_with fail;refine held_begin (fun w' : World => w'.cell? ⟨w.heap.size, 0, none⟩ = some (.int .i64 (g : Int)) ∧ w'.cell? ⟨w.heap.size, 1, none⟩ = some (.int .i64 (c : Int)) ∧ w'.cell? ⟨w.heap.size + 1, 2, none⟩ = some (.int .u64 (m : Nat)) ∧ w'.cell? ⟨w.heap.size + 1, 3, none⟩ = some (.int .i64 (k : Int))) (by kernel_rfl) ?_;have hBh0 : Below w1.heap.size w1 w1.drew := (Below.refl _ _).drew;have hSh0 := Ai s0 (Ai s1 (Ai f2 f3));refine tkA 0 13 hSh0 ?_;refine tkA 1 14 hSh0 ?_;refine tkA 2 15 hSh0 ?_;refine tkA 3 16 hSh0 ?_;refine tkA 6 19 hSh0 ?_;refine tkA 7 20 hSh0 ?_;refine tkA 8 21 hSh0 ?_;refine tkA 9 22 hSh0 ?_;refine held_one 4 rfl (by kernel_rfl) (by rfl) (fun K hK => ?_);go_simp
 go_at_call 76
 refine (hS.out w1.drew (HT1.out.below hBh0 HT1.out.size)).mono ?_;rintro e wh1 ⟨rfl, hbh1⟩;have hBh1 : Below w1.heap.size w1 wh1 := below_step hBh0 hbh1;have hSh1 := Ai (ck hBh1 s0) (Ai (ck hBh1 s1) (Ai (ck hBh1 f2) (ck hBh1 f3)));refine hK.out _ _ hSh1 ?_;clear hK K;refine held_one 5 rfl (by kernel_rfl) (by rfl) (fun K hK => ?_);go_simp
 go_at_call 75
 refine (hT1.out _).mono ?_;rintro e w' ⟨rfl, rfl⟩;refine hK.out _ _ hSh1 ?_;clear hK K;refine held_one 10 rfl (by kernel_rfl) (by rfl) (fun K hK => ?_);go_simp
 go_at_call 75
 refine (hT2.out _).mono ?_;rintro e w' ⟨rfl, rfl⟩;refine hK.out _ _ hSh1 ?_;clear hK K;refine held_one 11 rfl (by kernel_rfl) (by rfl) (fun K hK => ?_);go_simp;obtain ⟨wh2, hwh2⟩ := nx (wh1.alloc (.cells #[.int .i64 (x : Nat), .int .i64 (y : Nat)] 3));have hBh2 : Below w1.heap.size w1 wh2 := by rw [hwh2]; exact hBh1.alloc hBh1.size _
 have hSh2 := Ai (ck hBh2 s0) (Ai (ck hBh2 s1) (Ai (ck hBh2 f2) (ck hBh2 f3)));refine hK.out _ _ (show _ from by rw [← hwh2]; exact hSh2) ?_;clear hK K;try simp only [Act.put, pzA, pzB, pzC]
 rw [← hwh2];have Hwh2 := Hq hwh2;clear hwh2;refine held_one 12 rfl (by kernel_rfl) (by rfl) (fun K hK => ?_);go_simp
 go_at_call 74
 refine (show Calls _ _ _ wh2 (fun e w2 => e = .returned (.int .i64 (q : Nat)) ∧ wh2 = w2) from (by have h9 := least_any wh1.heap.size x y wh2 hxl hyl (by rw [Hwh2.out]; go_simp) (by rw [Hwh2.out]; go_simp); rw [← HQ.out] at h9; exact h9)).mono ?_;rintro e w' ⟨rfl, rfl⟩;refine hK.out _ _ hSh2 ?_;clear hK K;refine tkA 13 4 hSh2 ?_;refine wpAnyH_done (by kernel_rfl) ?_ _;go_wp2
 go_ret
 exact ⟨rfl, (below_step HB.out hb1).trans (hBh2.mono (by have := HB.out.size; have := hb1.size; omega))⟩
end
section
open Go.RowKit
theorem fit_pos {g c m k : Nat} (h : 0 < fitN g c m k) : g ≤ m ∧ c ≤ k := by
 unfold fitN tms at h;constructor
 ·by_cases e : g = 0
  ·omega
  ·rw [if_neg e] at h;rcases Nat.lt_or_ge m g with h2 | h2
   ·rw [Nat.div_eq_of_lt h2] at h; omega
   ·exact h2
 ·by_cases e : c = 0
  ·omega
  ·rw [if_neg e] at h;rcases Nat.lt_or_ge k c with h2 | h2
   ·rw [Nat.div_eq_of_lt h2] at h; omega
   ·exact h2
set_option maxRecDepth 100000 in
set_option maxHeartbeats 2000000 in
theorem piece_ok (g c : Nat) (mn mx n d : Int) (m k : Nat) (w : World) (hw : Shp.Wf ⟨g, c, mn, mx⟩) (h : Shp.ok ⟨g, c, mn, mx⟩ = true) (hm : m < 18446744073709551616) (hk : k ≤ 9223372036854775807) (hT : Tab w) (hfit : 0 < fitN g c (MM.cnt m) k) :
  Calls Tryz.prog 71 #[.agg #[.int .i64 (g : Int), .int .i64 (c : Int), .int .i64 mn, .int .i64 mx], .agg #[.int .i64 n, .int .i64 d, .int .u64 (m : Nat), .int .i64 (k : Int)]] w fun e w' => e = .returned (.tuple #[.agg #[.int .i64 n, .int .i64 d, .int .u64 (MM.low m g : Nat), .int .i64 (c : Int)], .agg #[.int .i64 n, .int .i64 d, .int .u64 (MM.sub m (MM.low m g) : Nat), .int .i64 ((k - c : Nat) : Int)], .int .i64 0]) ∧ Below w.heap.size w w' := by
 obtain ⟨hgm, hck⟩ := fit_pos hfit;obtain ⟨a, b, ha, hb, ha2, hb2, _⟩ := Shp.nat h;have hg16 : g ≤ 16 := by omega
 have hc16 : c ≤ 1024 := by omega
 have hC := Hq (fun W => check_ok g c mn mx W hw h);have HF := Hq (fun W (hW : Below w.heap.size w W) => fits_ok g c mn mx n d m k W hw h hm hk (hT.below hW hT.size));have HL := Hq (fun W (hW : Below w.heap.size w W) => lowest_t m hm g hgm W (hT.below hW hT.size));have hsub := not_u64 m (MM.low m g) hm (MM.low_lt m g);obtain ⟨q, hq⟩ := nx (fitN g c (MM.cnt m) k);obtain ⟨lo, hlo⟩ := nx (MM.low m g);obtain ⟨re, hre⟩ := nx (MM.sub m lo);rw [← hlo] at hsub HL;rw [← hre] at hsub;rw [← hq] at HF hfit;rw [← hlo, ← hre];have hq16 : q ≤ 16 := by rw [hq]; exact fit_le _ _ _ _
 have tq : ((q : Int) == 0) = false := by simp; omega
 have hkc : (k : Int) - (c : Int) = ((k - c : Nat) : Int) := by omega
 have Hkc := Hq (Ai hkc hsub);obtain ⟨W4, hW4⟩ := nx ((((w.alloc (.cells #[.int .i64 (g : Int), .int .i64 (c : Int), .int .i64 mn, .int .i64 mx] 32)).alloc (.cells #[.int .i64 n, .int .i64 d, .int .u64 (m : Nat), .int .i64 (k : Int)] 63)).alloc (.cells #[.int .i64 0, .int .i64 0, .int .u64 0, .int .i64 0] 64)).alloc (.cells #[.int .i64 0, .int .i64 0, .int .u64 0, .int .i64 0] 63));have hB4 : Below w.heap.size w W4 := by rw [hW4]; exact ((((Below.refl w.heap.size w).alloc (Nat.le_refl _) _).alloc (by simp) _).alloc (by simp <;> omega) _).alloc (by simp <;> omega) _
 have hz4 : W4.heap.size = w.heap.size + 1 + 1 + 1 + 1 := by rw [hW4]; simp
 have b0 : W4.heap[w.heap.size]? = some (.cells #[.int .i64 (g : Int), .int .i64 (c : Int), .int .i64 mn, .int .i64 mx] 32 (0, 0)) := by
  rw [hW4]; exact (Below.heap_alloc _ _ _ (by simp <;> omega)).trans ((Below.heap_alloc _ _ _ (by simp <;> omega)).trans ((Below.heap_alloc _ _ _ (by simp)).trans (heap_alloc_new w _)))
 have b1 : W4.heap[w.heap.size + 1]? = some (.cells #[.int .i64 n, .int .i64 d, .int .u64 (m : Nat), .int .i64 (k : Int)] 63 (0, 0)) := by
  have := heap_alloc_new (w.alloc (.cells #[.int .i64 (g : Int), .int .i64 (c : Int), .int .i64 mn, .int .i64 mx] 32)) (.cells #[.int .i64 n, .int .i64 d, .int .u64 (m : Nat), .int .i64 (k : Int)] 63);rw [World.size_alloc] at this;rw [hW4]; exact (Below.heap_alloc _ _ _ (by simp <;> omega)).trans ((Below.heap_alloc _ _ _ (by simp)).trans this)
 have b2 : W4.heap[w.heap.size + 1 + 1]? = some (.cells #[.int .i64 0, .int .i64 0, .int .u64 0, .int .i64 0] 64 (0, 0)) := by
  have := heap_alloc_new ((w.alloc (.cells #[.int .i64 (g : Int), .int .i64 (c : Int), .int .i64 mn, .int .i64 mx] 32)).alloc (.cells #[.int .i64 n, .int .i64 d, .int .u64 (m : Nat), .int .i64 (k : Int)] 63)) (.cells #[.int .i64 0, .int .i64 0, .int .u64 0, .int .i64 0] 64);rw [World.size_alloc, World.size_alloc] at this;rw [hW4]; exact (Below.heap_alloc _ _ _ (by simp)).trans this
 have b3 : W4.heap[w.heap.size + 1 + 1 + 1]? = some (.cells #[.int .i64 0, .int .i64 0, .int .u64 0, .int .i64 0] 63 (0, 0)) := by
  have := heap_alloc_new (((w.alloc (.cells #[.int .i64 (g : Int), .int .i64 (c : Int), .int .i64 mn, .int .i64 mx] 32)).alloc (.cells #[.int .i64 n, .int .i64 d, .int .u64 (m : Nat), .int .i64 (k : Int)] 63)).alloc (.cells #[.int .i64 0, .int .i64 0, .int .u64 0, .int .i64 0] 64)) (.cells #[.int .i64 0, .int .i64 0, .int .u64 0, .int .i64 0] 63);rw [World.size_alloc, World.size_alloc, World.size_alloc] at this;rw [hW4]; exact this
 have HX := Hq (Ai hB4 (Ai b0 (Ai b1 (Ai b2 b3))));have HW4 := Hq hW4;have hw4 : w.heap.size + 1 + 1 + 1 + 1 ≤ W4.heap.size := by omega
 clear hw h hT hq hlo hre hgm hck ha hb hkc hsub hfit;clear hW4 hB4 hz4 b0 b1 b2 b3;go_enter Tryz.func71, Tryz.ntmps71;go_wp2_with fail;rw [← HW4.out];refine (hC.out _).mono ?_;rintro e w1 ⟨rfl, hb1⟩;have hs1 := hb1.size;have hB1 := HX.out.1.trans (hb1.mono (by omega));have sB := (hb1.block _ (show w.heap.size < W4.heap.size by omega)).trans HX.out.2.1;have s0 : w1.cell? ⟨w.heap.size, 0, none⟩ = _ := cell_blk (i := 0) sB rfl;have s1 : w1.cell? ⟨w.heap.size, 1, none⟩ = _ := cell_blk (i := 1) sB rfl;have s2 : w1.cell? ⟨w.heap.size, 2, none⟩ = _ := cell_blk (i := 2) sB rfl;have s3 : w1.cell? ⟨w.heap.size, 3, none⟩ = _ := cell_blk (i := 3) sB rfl;clear sB;have fB := (hb1.block _ (show w.heap.size + 1 < W4.heap.size by omega)).trans HX.out.2.2.1;have f0 : w1.cell? ⟨w.heap.size + 1, 0, none⟩ = _ := cell_blk (i := 0) fB rfl;have f1 : w1.cell? ⟨w.heap.size + 1, 1, none⟩ = _ := cell_blk (i := 1) fB rfl;have f2 : w1.cell? ⟨w.heap.size + 1, 2, none⟩ = _ := cell_blk (i := 2) fB rfl;have f3 : w1.cell? ⟨w.heap.size + 1, 3, none⟩ = _ := cell_blk (i := 3) fB rfl;clear fB;go_wp2_with fail;refine (HF.out w1 hB1).mono ?_;rintro e w2 ⟨rfl, hb2⟩;have hs2 := hb2.size;have hb12 : Below W4.heap.size W4 w2 := hb1.trans (hb2.mono hb1.size);have hB2 := HX.out.1.trans (hb12.mono (by omega));clear s0 s1 s2 s3 f0 f1 f2 f3;have sB := (hb12.block _ (show w.heap.size < W4.heap.size by omega)).trans HX.out.2.1;have s0 : w2.cell? ⟨w.heap.size, 0, none⟩ = _ := cell_blk (i := 0) sB rfl;have s1 : w2.cell? ⟨w.heap.size, 1, none⟩ = _ := cell_blk (i := 1) sB rfl;have s2 : w2.cell? ⟨w.heap.size, 2, none⟩ = _ := cell_blk (i := 2) sB rfl;have s3 : w2.cell? ⟨w.heap.size, 3, none⟩ = _ := cell_blk (i := 3) sB rfl;clear sB;have fB := (hb12.block _ (show w.heap.size + 1 < W4.heap.size by omega)).trans HX.out.2.2.1;have f0 : w2.cell? ⟨w.heap.size + 1, 0, none⟩ = _ := cell_blk (i := 0) fB rfl;have f1 : w2.cell? ⟨w.heap.size + 1, 1, none⟩ = _ := cell_blk (i := 1) fB rfl;have f2 : w2.cell? ⟨w.heap.size + 1, 2, none⟩ = _ := cell_blk (i := 2) fB rfl;have f3 : w2.cell? ⟨w.heap.size + 1, 3, none⟩ = _ := cell_blk (i := 3) fB rfl;clear fB;go_wp2_with fail;refine (HL.out w2 hB2).mono ?_;rintro e w3 ⟨rfl, hst3, _⟩;have hb3 := hst3.below;have hs3 := hb3.size;have hb13 : Below W4.heap.size W4 w3 := hb12.trans (hb3.mono hb12.size);clear s0 s1 s2 s3 f0 f1 f2 f3;have sB := (hb13.block _ (show w.heap.size < W4.heap.size by omega)).trans HX.out.2.1;have s0 : w3.cell? ⟨w.heap.size, 0, none⟩ = _ := cell_blk (i := 0) sB rfl;have s1 : w3.cell? ⟨w.heap.size, 1, none⟩ = _ := cell_blk (i := 1) sB rfl;have s2 : w3.cell? ⟨w.heap.size, 2, none⟩ = _ := cell_blk (i := 2) sB rfl;have s3 : w3.cell? ⟨w.heap.size, 3, none⟩ = _ := cell_blk (i := 3) sB rfl;clear sB;have fB := (hb13.block _ (show w.heap.size + 1 < W4.heap.size by omega)).trans HX.out.2.2.1;have f0 : w3.cell? ⟨w.heap.size + 1, 0, none⟩ = _ := cell_blk (i := 0) fB rfl;have f1 : w3.cell? ⟨w.heap.size + 1, 1, none⟩ = _ := cell_blk (i := 1) fB rfl;have f2 : w3.cell? ⟨w.heap.size + 1, 2, none⟩ = _ := cell_blk (i := 2) fB rfl
 have f3 : w3.cell? ⟨w.heap.size + 1, 3, none⟩ = _ := cell_blk (i := 3) fB rfl;clear fB;have l0 : w.heap.size < w3.heap.size := by omega
 have l1 : w.heap.size + 1 < w3.heap.size := by omega
 have l2 : w.heap.size + 1 + 1 < w3.heap.size := by omega
 have l3 : w.heap.size + 1 + 1 + 1 < w3.heap.size := by omega
 have m0 : w.heap.size < w3.heap.size + 1 := by omega
 have m1 : w.heap.size + 1 < w3.heap.size + 1 := by omega
 go_wp2_with fail;have e44 := Hkc.out;simp only [e44.1, e44.2];clear e44;generalize hW9 : ((w3.alloc _).alloc _) = W9;have bA : W9.heap[w3.heap.size]? = some (.cells #[.int .i64 n, .int .i64 d, .int .u64 (lo : Nat), .int .i64 (c : Int)] 64 (0, 0)) := by
  rw [← hW9]; exact (Below.heap_alloc _ _ _ (by simp)).trans (heap_alloc_new w3 _)
 have bD : W9.heap[w3.heap.size + 1]? = some (.cells #[.int .i64 n, .int .i64 d, .int .u64 (re : Nat), .int .i64 ((k - c : Nat) : Int)] 63 (0, 0)) := by
  rw [← hW9]; have := heap_alloc_new (w3.alloc (.cells #[.int .i64 n, .int .i64 d, .int .u64 (lo : Nat), .int .i64 (c : Int)] 64)) (.cells #[.int .i64 n, .int .i64 d, .int .u64 (re : Nat), .int .i64 ((k - c : Nat) : Int)] 63)
  rwa [World.size_alloc] at this
 have hb9 : Below W4.heap.size W4 W9 := by rw [← hW9]; exact (hb13.alloc (by omega) _).alloc (by simp <;> omega) _
 clear s0 s1 s2 s3 f0 f1 f2 f3;have pB := (hb9.block _ (show w.heap.size + 1 + 1 < W4.heap.size by omega)).trans HX.out.2.2.2.1;have p0 : W9.cell? ⟨w.heap.size + 1 + 1, 0, none⟩ = _ := cell_blk (i := 0) pB rfl;have pz0 : W9.frozen? ⟨w.heap.size + 1 + 1, 0, none⟩ = _ := frozen_blk pB;have p1 : W9.cell? ⟨w.heap.size + 1 + 1, 1, none⟩ = _ := cell_blk (i := 1) pB rfl;have pz1 : W9.frozen? ⟨w.heap.size + 1 + 1, 1, none⟩ = _ := frozen_blk pB;have p2 : W9.cell? ⟨w.heap.size + 1 + 1, 2, none⟩ = _ := cell_blk (i := 2) pB rfl;have pz2 : W9.frozen? ⟨w.heap.size + 1 + 1, 2, none⟩ = _ := frozen_blk pB;have p3 : W9.cell? ⟨w.heap.size + 1 + 1, 3, none⟩ = _ := cell_blk (i := 3) pB rfl;have pz3 : W9.frozen? ⟨w.heap.size + 1 + 1, 3, none⟩ = _ := frozen_blk pB;clear pB;have rB := (hb9.block _ (show w.heap.size + 1 + 1 + 1 < W4.heap.size by omega)).trans HX.out.2.2.2.2;have r0 : W9.cell? ⟨w.heap.size + 1 + 1 + 1, 0, none⟩ = _ := cell_blk (i := 0) rB rfl;have rz0 : W9.frozen? ⟨w.heap.size + 1 + 1 + 1, 0, none⟩ = _ := frozen_blk rB;have r1 : W9.cell? ⟨w.heap.size + 1 + 1 + 1, 1, none⟩ = _ := cell_blk (i := 1) rB rfl;have rz1 : W9.frozen? ⟨w.heap.size + 1 + 1 + 1, 1, none⟩ = _ := frozen_blk rB;have r2 : W9.cell? ⟨w.heap.size + 1 + 1 + 1, 2, none⟩ = _ := cell_blk (i := 2) rB rfl;have rz2 : W9.frozen? ⟨w.heap.size + 1 + 1 + 1, 2, none⟩ = _ := frozen_blk rB;have r3 : W9.cell? ⟨w.heap.size + 1 + 1 + 1, 3, none⟩ = _ := cell_blk (i := 3) rB rfl;have rz3 : W9.frozen? ⟨w.heap.size + 1 + 1 + 1, 3, none⟩ = _ := frozen_blk rB;clear rB;have A0 : W9.cell? ⟨w3.heap.size, 0, none⟩ = _ := cell_blk (i := 0) bA rfl;have A1 : W9.cell? ⟨w3.heap.size, 1, none⟩ = _ := cell_blk (i := 1) bA rfl;have A2 : W9.cell? ⟨w3.heap.size, 2, none⟩ = _ := cell_blk (i := 2) bA rfl;have A3 : W9.cell? ⟨w3.heap.size, 3, none⟩ = _ := cell_blk (i := 3) bA rfl;have D0 : W9.cell? ⟨w3.heap.size + 1, 0, none⟩ = _ := cell_blk (i := 0) bD rfl;have D1 : W9.cell? ⟨w3.heap.size + 1, 1, none⟩ = _ := cell_blk (i := 1) bD rfl;have D2 : W9.cell? ⟨w3.heap.size + 1, 2, none⟩ = _ := cell_blk (i := 2) bD rfl;have D3 : W9.cell? ⟨w3.heap.size + 1, 3, none⟩ = _ := cell_blk (i := 3) bD rfl;have hB9 := HX.out.1.trans (hb9.mono (by omega));clear hW9 bA bD hb9 hb13 hb12 hb3 hb2 hb1 hst3 hB1 hB2 l0 l1 l2 l3 m0 m1;obtain ⟨N3, hN3⟩ := nx (w3.heap.size);have h3N : w.heap.size + 1 + 1 + 1 < N3 := by omega
 rw [← hN3] at A0 A1 A2 A3 D0 D1 D2 D3 ⊢;clear hN3;go_region;go_wp2;refine bodyPost_ret (v := .tuple #[.agg #[.int .i64 n, .int .i64 d, .int .u64 (lo : Nat), .int .i64 (c : Int)], .agg #[.int .i64 n, .int .i64 d, .int .u64 (re : Nat), .int .i64 ((k - c : Nat) : Int)], .int .i64 0]) (by simp [results, Tryz.results71, go_sem, p0, p1, p2, p3, r0, r1, r2, r3]) rfl ?_;exact ⟨rfl, ((((((((hB9.setCell (by simp <;> omega) _).setCell (by simp <;> omega) _).setCell (by simp <;> omega) _).setCell (by simp <;> omega) _).setCell (by simp <;> omega) _).setCell (by simp <;> omega) _).setCell (by simp <;> omega) _).setCell (by simp <;> omega) _).drew⟩
end
section
open Go.RowKit
set_option maxRecDepth 100000 in
set_option maxHeartbeats 2000000 in
theorem units_bad (g c mn mx x : Int) (w : World) (hw : Shp.Wf ⟨g, c, mn, mx⟩) (h : Shp.ok ⟨g, c, mn, mx⟩ = false) :
  Calls Tryz.prog 58 #[.agg #[.int .i64 g, .int .i64 c, .int .i64 mn, .int .i64 mx], .int .i64 x] w fun e w' => e = .returned (.tuple #[.agg #[.int .i64 0, .int .i64 0], .int .i64 1]) ∧ Below w.heap.size w w' := by
 have hC := Hq (fun W => check_no g c mn mx W hw h);obtain ⟨W4, hW4⟩ := nx ((w.alloc (.cells #[.int .i64 g, .int .i64 c, .int .i64 mn, .int .i64 mx] 32)).alloc (.cells #[.int .i64 0, .int .i64 0] 42));have hBW4 : Below w.heap.size w W4 := by rw [hW4]; exact (((Below.refl w.heap.size w).alloc (Nat.le_refl _) _).alloc (by simp <;> omega) _)
 have hzW4 : W4.heap.size = w.heap.size + 1 + 1 := by rw [hW4]; simp
 have b0W4 : W4.heap[w.heap.size]? = some (.cells #[.int .i64 g, .int .i64 c, .int .i64 mn, .int .i64 mx] 32 (0, 0)) := by
  have h9 := heap_alloc_new (w) (.cells #[.int .i64 g, .int .i64 c, .int .i64 mn, .int .i64 mx] 32);rw [hW4]; exact ((Below.heap_alloc _ _ _ (by simp <;> omega)).trans h9)
 have b1W4 : W4.heap[w.heap.size + 1]? = some (.cells #[.int .i64 0, .int .i64 0] 42 (0, 0)) := by
  have h9 := heap_alloc_new (w.alloc (.cells #[.int .i64 g, .int .i64 c, .int .i64 mn, .int .i64 mx] 32)) (.cells #[.int .i64 0, .int .i64 0] 42);rw [World.size_alloc] at h9;rw [hW4]; exact h9
 have HXW4 := Hq (Ai hBW4 (Ai b0W4 (b1W4)));have HW4 := Hq hW4;have hwW4 : w.heap.size + 1 + 1 ≤ W4.heap.size := by omega
 clear hw h ;clear hW4 hBW4 hzW4 b0W4 b1W4;go_enter Tryz.func58, Tryz.ntmps58;go_wp2_with fail;rw [← HW4.out];refine (hC.out _).mono ?_;rintro e w1 ⟨rfl, hb1⟩;have hs1 := hb1.size;have sB := (hb1.block _ (show w.heap.size < W4.heap.size by omega)).trans HXW4.out.2.1;have s0 : w1.cell? ⟨w.heap.size, 0, none⟩ = _ := cell_blk (i := 0) sB rfl;have s1 : w1.cell? ⟨w.heap.size, 1, none⟩ = _ := cell_blk (i := 1) sB rfl;have s2 : w1.cell? ⟨w.heap.size, 2, none⟩ = _ := cell_blk (i := 2) sB rfl;have s3 : w1.cell? ⟨w.heap.size, 3, none⟩ = _ := cell_blk (i := 3) sB rfl;clear sB;have pB := (hb1.block _ (show w.heap.size + 1 < W4.heap.size by omega)).trans HXW4.out.2.2;have p0 : w1.cell? ⟨w.heap.size + 1, 0, none⟩ = _ := cell_blk (i := 0) pB rfl;have pz0 : w1.frozen? ⟨w.heap.size + 1, 0, none⟩ = _ := frozen_blk pB;have p1 : w1.cell? ⟨w.heap.size + 1, 1, none⟩ = _ := cell_blk (i := 1) pB rfl;have pz1 : w1.frozen? ⟨w.heap.size + 1, 1, none⟩ = _ := frozen_blk pB;clear pB;go_wp2;refine bodyPost_ret (v := .tuple #[.agg #[.int .i64 0, .int .i64 0], .int .i64 1]) (by simp [results, Tryz.results58, go_sem, p0, p1]) rfl ?_;exact ⟨rfl, (((HXW4.out.1.trans (hb1.mono (by omega))).setCell (by simp <;> omega) _).setCell (by simp <;> omega) _)⟩
set_option maxRecDepth 100000 in
set_option maxHeartbeats 2000000 in
theorem units_low (g c mn mx x : Int) (w : World) (hw : Shp.Wf ⟨g, c, mn, mx⟩) (h : Shp.ok ⟨g, c, mn, mx⟩ = true) (hx : x < 0) :
  Calls Tryz.prog 58 #[.agg #[.int .i64 g, .int .i64 c, .int .i64 mn, .int .i64 mx], .int .i64 x] w fun e w' => e = .returned (.tuple #[.agg #[.int .i64 0, .int .i64 0], .int .i64 1]) ∧ Below w.heap.size w w' := by
 have hC := Hq (fun W => check_ok g c mn mx W hw h);have t0 : decide (x < 0) = true := decide_eq_true hx;obtain ⟨W4, hW4⟩ := nx ((w.alloc (.cells #[.int .i64 g, .int .i64 c, .int .i64 mn, .int .i64 mx] 32)).alloc (.cells #[.int .i64 0, .int .i64 0] 42));have hBW4 : Below w.heap.size w W4 := by rw [hW4]; exact (((Below.refl w.heap.size w).alloc (Nat.le_refl _) _).alloc (by simp <;> omega) _)
 have hzW4 : W4.heap.size = w.heap.size + 1 + 1 := by rw [hW4]; simp
 have b0W4 : W4.heap[w.heap.size]? = some (.cells #[.int .i64 g, .int .i64 c, .int .i64 mn, .int .i64 mx] 32 (0, 0)) := by
  have h9 := heap_alloc_new (w) (.cells #[.int .i64 g, .int .i64 c, .int .i64 mn, .int .i64 mx] 32);rw [hW4]; exact ((Below.heap_alloc _ _ _ (by simp <;> omega)).trans h9)
 have b1W4 : W4.heap[w.heap.size + 1]? = some (.cells #[.int .i64 0, .int .i64 0] 42 (0, 0)) := by
  have h9 := heap_alloc_new (w.alloc (.cells #[.int .i64 g, .int .i64 c, .int .i64 mn, .int .i64 mx] 32)) (.cells #[.int .i64 0, .int .i64 0] 42);rw [World.size_alloc] at h9;rw [hW4]; exact h9
 have HXW4 := Hq (Ai hBW4 (Ai b0W4 (b1W4)));have HW4 := Hq hW4;have hwW4 : w.heap.size + 1 + 1 ≤ W4.heap.size := by omega
 clear hw h hx;clear hW4 hBW4 hzW4 b0W4 b1W4;go_enter Tryz.func58, Tryz.ntmps58;go_wp2_with fail;rw [← HW4.out];refine (hC.out _).mono ?_;rintro e w1 ⟨rfl, hb1⟩;have hs1 := hb1.size;have sB := (hb1.block _ (show w.heap.size < W4.heap.size by omega)).trans HXW4.out.2.1;have s0 : w1.cell? ⟨w.heap.size, 0, none⟩ = _ := cell_blk (i := 0) sB rfl;have s1 : w1.cell? ⟨w.heap.size, 1, none⟩ = _ := cell_blk (i := 1) sB rfl;have s2 : w1.cell? ⟨w.heap.size, 2, none⟩ = _ := cell_blk (i := 2) sB rfl;have s3 : w1.cell? ⟨w.heap.size, 3, none⟩ = _ := cell_blk (i := 3) sB rfl;clear sB;have pB := (hb1.block _ (show w.heap.size + 1 < W4.heap.size by omega)).trans HXW4.out.2.2;have p0 : w1.cell? ⟨w.heap.size + 1, 0, none⟩ = _ := cell_blk (i := 0) pB rfl;have pz0 : w1.frozen? ⟨w.heap.size + 1, 0, none⟩ = _ := frozen_blk pB;have p1 : w1.cell? ⟨w.heap.size + 1, 1, none⟩ = _ := cell_blk (i := 1) pB rfl;have pz1 : w1.frozen? ⟨w.heap.size + 1, 1, none⟩ = _ := frozen_blk pB;clear pB;go_wp2;refine bodyPost_ret (v := .tuple #[.agg #[.int .i64 0, .int .i64 0], .int .i64 1]) (by simp [results, Tryz.results58, go_sem, p0, p1]) rfl ?_;exact ⟨rfl, (((HXW4.out.1.trans (hb1.mono (by omega))).setCell (by simp <;> omega) _).setCell (by simp <;> omega) _)⟩
set_option maxRecDepth 100000 in
set_option maxHeartbeats 2000000 in
theorem units_high (g c mn mx x : Int) (w : World) (hw : Shp.Wf ⟨g, c, mn, mx⟩) (h : Shp.ok ⟨g, c, mn, mx⟩ = true) (hx : 16 < x) :
  Calls Tryz.prog 58 #[.agg #[.int .i64 g, .int .i64 c, .int .i64 mn, .int .i64 mx], .int .i64 x] w fun e w' => e = .returned (.tuple #[.agg #[.int .i64 0, .int .i64 0], .int .i64 1]) ∧ Below w.heap.size w w' := by
 have hC := Hq (fun W => check_ok g c mn mx W hw h);have t0 : decide (x < 0) = false := decide_eq_false (by omega);have t1 : decide (16 < x) = true := decide_eq_true hx;obtain ⟨W4, hW4⟩ := nx ((w.alloc (.cells #[.int .i64 g, .int .i64 c, .int .i64 mn, .int .i64 mx] 32)).alloc (.cells #[.int .i64 0, .int .i64 0] 42));have hBW4 : Below w.heap.size w W4 := by rw [hW4]; exact (((Below.refl w.heap.size w).alloc (Nat.le_refl _) _).alloc (by simp <;> omega) _)
 have hzW4 : W4.heap.size = w.heap.size + 1 + 1 := by rw [hW4]; simp
 have b0W4 : W4.heap[w.heap.size]? = some (.cells #[.int .i64 g, .int .i64 c, .int .i64 mn, .int .i64 mx] 32 (0, 0)) := by
  have h9 := heap_alloc_new (w) (.cells #[.int .i64 g, .int .i64 c, .int .i64 mn, .int .i64 mx] 32);rw [hW4]; exact ((Below.heap_alloc _ _ _ (by simp <;> omega)).trans h9)
 have b1W4 : W4.heap[w.heap.size + 1]? = some (.cells #[.int .i64 0, .int .i64 0] 42 (0, 0)) := by
  have h9 := heap_alloc_new (w.alloc (.cells #[.int .i64 g, .int .i64 c, .int .i64 mn, .int .i64 mx] 32)) (.cells #[.int .i64 0, .int .i64 0] 42);rw [World.size_alloc] at h9;rw [hW4]; exact h9
 have HXW4 := Hq (Ai hBW4 (Ai b0W4 (b1W4)));have HW4 := Hq hW4;have hwW4 : w.heap.size + 1 + 1 ≤ W4.heap.size := by omega
 clear hw h hx;clear hW4 hBW4 hzW4 b0W4 b1W4;go_enter Tryz.func58, Tryz.ntmps58;go_wp2_with fail;rw [← HW4.out];refine (hC.out _).mono ?_;rintro e w1 ⟨rfl, hb1⟩;have hs1 := hb1.size;have sB := (hb1.block _ (show w.heap.size < W4.heap.size by omega)).trans HXW4.out.2.1;have s0 : w1.cell? ⟨w.heap.size, 0, none⟩ = _ := cell_blk (i := 0) sB rfl;have s1 : w1.cell? ⟨w.heap.size, 1, none⟩ = _ := cell_blk (i := 1) sB rfl;have s2 : w1.cell? ⟨w.heap.size, 2, none⟩ = _ := cell_blk (i := 2) sB rfl;have s3 : w1.cell? ⟨w.heap.size, 3, none⟩ = _ := cell_blk (i := 3) sB rfl;clear sB;have pB := (hb1.block _ (show w.heap.size + 1 < W4.heap.size by omega)).trans HXW4.out.2.2;have p0 : w1.cell? ⟨w.heap.size + 1, 0, none⟩ = _ := cell_blk (i := 0) pB rfl;have pz0 : w1.frozen? ⟨w.heap.size + 1, 0, none⟩ = _ := frozen_blk pB;have p1 : w1.cell? ⟨w.heap.size + 1, 1, none⟩ = _ := cell_blk (i := 1) pB rfl;have pz1 : w1.frozen? ⟨w.heap.size + 1, 1, none⟩ = _ := frozen_blk pB;clear pB;go_wp2;refine bodyPost_ret (v := .tuple #[.agg #[.int .i64 0, .int .i64 0], .int .i64 1]) (by simp [results, Tryz.results58, go_sem, p0, p1]) rfl ?_;exact ⟨rfl, (((HXW4.out.1.trans (hb1.mono (by omega))).setCell (by simp <;> omega) _).setCell (by simp <;> omega) _)⟩
set_option maxRecDepth 100000 in
set_option maxHeartbeats 2000000 in
theorem units_ok (g c : Nat) (mn mx : Int) (x : Nat) (w : World) (hw : Shp.Wf ⟨g, c, mn, mx⟩) (h : Shp.ok ⟨g, c, mn, mx⟩ = true) (hx : x ≤ 16) :
  Calls Tryz.prog 58 #[.agg #[.int .i64 (g : Int), .int .i64 (c : Int), .int .i64 mn, .int .i64 mx], .int .i64 (x : Int)] w fun e w' => e = .returned (.tuple #[.agg #[.int .i64 ((g * x : Nat) : Int), .int .i64 ((c * x : Nat) : Int)], .int .i64 0]) ∧ Below w.heap.size w w' := by
 have hC := Hq (fun W => check_ok g c mn mx W hw h);obtain ⟨a, b, ha, hb, ha2, hb2, _⟩ := Shp.nat h;have hg16 : g ≤ 16 := by omega
 have hc16 : c ≤ 1024 := by omega
 have h1 := Nat.mul_le_mul hg16 hx;have h2 := Nat.mul_le_mul hc16 hx;have HP := Hq (show wrap64 ((g : Int) * (x : Int)) = ((g * x : Nat) : Int) ∧ wrap64 ((c : Int) * (x : Int)) = ((c * x : Nat) : Int) from ⟨by rw [← Int.natCast_mul]; exact IntWalk.wrap64_in _ (by omega), by rw [← Int.natCast_mul]; exact IntWalk.wrap64_in _ (by omega)⟩);clear h1 h2;obtain ⟨W4, hW4⟩ := nx ((w.alloc (.cells #[.int .i64 (g : Int), .int .i64 (c : Int), .int .i64 mn, .int .i64 mx] 32)).alloc (.cells #[.int .i64 0, .int .i64 0] 42));have hBW4 : Below w.heap.size w W4 := by rw [hW4]; exact (((Below.refl w.heap.size w).alloc (Nat.le_refl _) _).alloc (by simp <;> omega) _)
 have hzW4 : W4.heap.size = w.heap.size + 1 + 1 := by rw [hW4]; simp
 have b0W4 : W4.heap[w.heap.size]? = some (.cells #[.int .i64 (g : Int), .int .i64 (c : Int), .int .i64 mn, .int .i64 mx] 32 (0, 0)) := by
  have h9 := heap_alloc_new (w) (.cells #[.int .i64 (g : Int), .int .i64 (c : Int), .int .i64 mn, .int .i64 mx] 32);rw [hW4]; exact ((Below.heap_alloc _ _ _ (by simp <;> omega)).trans h9)
 have b1W4 : W4.heap[w.heap.size + 1]? = some (.cells #[.int .i64 0, .int .i64 0] 42 (0, 0)) := by
  have h9 := heap_alloc_new (w.alloc (.cells #[.int .i64 (g : Int), .int .i64 (c : Int), .int .i64 mn, .int .i64 mx] 32)) (.cells #[.int .i64 0, .int .i64 0] 42);rw [World.size_alloc] at h9;rw [hW4]; exact h9
 have HXW4 := Hq (Ai hBW4 (Ai b0W4 (b1W4)));have HW4 := Hq hW4;have hwW4 : w.heap.size + 1 + 1 ≤ W4.heap.size := by omega
 clear hw h ha hb;clear hW4 hBW4 hzW4 b0W4 b1W4;go_enter Tryz.func58, Tryz.ntmps58;go_wp2_with fail;rw [← HW4.out];refine (hC.out _).mono ?_;rintro e w1 ⟨rfl, hb1⟩;have hs1 := hb1.size;have sB := (hb1.block _ (show w.heap.size < W4.heap.size by omega)).trans HXW4.out.2.1;have s0 : w1.cell? ⟨w.heap.size, 0, none⟩ = _ := cell_blk (i := 0) sB rfl;have s1 : w1.cell? ⟨w.heap.size, 1, none⟩ = _ := cell_blk (i := 1) sB rfl;have s2 : w1.cell? ⟨w.heap.size, 2, none⟩ = _ := cell_blk (i := 2) sB rfl;have s3 : w1.cell? ⟨w.heap.size, 3, none⟩ = _ := cell_blk (i := 3) sB rfl;clear sB;have pB := (hb1.block _ (show w.heap.size + 1 < W4.heap.size by omega)).trans HXW4.out.2.2;have p0 : w1.cell? ⟨w.heap.size + 1, 0, none⟩ = _ := cell_blk (i := 0) pB rfl;have pz0 : w1.frozen? ⟨w.heap.size + 1, 0, none⟩ = _ := frozen_blk pB;have p1 : w1.cell? ⟨w.heap.size + 1, 1, none⟩ = _ := cell_blk (i := 1) pB rfl;have pz1 : w1.frozen? ⟨w.heap.size + 1, 1, none⟩ = _ := frozen_blk pB;clear pB;go_wp2;simp only [HP.out.1, HP.out.2];refine bodyPost_ret (v := .tuple #[.agg #[.int .i64 ((g * x : Nat) : Int), .int .i64 ((c * x : Nat) : Int)], .int .i64 0]) (by simp [results, Tryz.results58, go_sem, p0, p1]) rfl ?_;exact ⟨rfl, (((HXW4.out.1.trans (hb1.mono (by omega))).setCell (by simp <;> omega) _).setCell (by simp <;> omega) _)⟩
end
section
open Go.RowKit
set_option maxRecDepth 100000 in
set_option maxHeartbeats 2000000 in
theorem refright_any (g c mn mx : Int) (w : World) (hw : Shp.Wf ⟨g, c, mn, mx⟩) :
  Calls Tryz.prog 28 #[.agg #[.int .i64 g, .int .i64 c, .int .i64 mn, .int .i64 mx]] w fun e w' => e = .returned (.bool (Shp.ok ⟨g, c, mn, mx⟩)) ∧ Below w.heap.size w w' := by
 obtain ⟨bg1, bg2⟩ := bounds_i64 hw.g;obtain ⟨bc1, bc2⟩ := bounds_i64 hw.c;obtain ⟨bn1, bn2⟩ := bounds_i64 hw.mn;obtain ⟨bx1, bx2⟩ := bounds_i64 hw.mx;obtain ⟨R, hR⟩ := nx (Shp.ok ⟨g, c, mn, mx⟩);rw [← hR];have HR := Hq hR;clear hR hw;by_cases h0 : 0 ≤ g;rotate_left
 ·have e : R = false := by rw [HR.out]; unfold Shp.ok; simp only [decide_eq_false_iff_not]; omega
  subst e;have t0 : decide (0 ≤ g) = false := decide_eq_false h0;clear HR h0;go_enter Tryz.func28, Tryz.ntmps28;go_wp2
  go_ret
  exact ⟨rfl, (Below.refl _ w).alloc (Nat.le_refl _) _⟩
 have t0 : decide (0 ≤ g) = true := decide_eq_true h0;by_cases h1 : g ≤ 16;rotate_left
 ·have e : R = false := by rw [HR.out]; unfold Shp.ok; simp only [decide_eq_false_iff_not]; omega
  subst e;have t1 : decide (g ≤ 16) = false := decide_eq_false h1;clear HR h1;go_enter Tryz.func28, Tryz.ntmps28;go_wp2
  go_ret
  exact ⟨rfl, (Below.refl _ w).alloc (Nat.le_refl _) _⟩
 have t1 : decide (g ≤ 16) = true := decide_eq_true h1;by_cases h2 : 0 ≤ c;rotate_left
 ·have e : R = false := by rw [HR.out]; unfold Shp.ok; simp only [decide_eq_false_iff_not]; omega
  subst e;have t2 : decide (0 ≤ c) = false := decide_eq_false h2;clear HR h2;go_enter Tryz.func28, Tryz.ntmps28;go_wp2
  go_ret
  exact ⟨rfl, (Below.refl _ w).alloc (Nat.le_refl _) _⟩
 have t2 : decide (0 ≤ c) = true := decide_eq_true h2;by_cases h3 : c ≤ 1024;rotate_left
 ·have e : R = false := by rw [HR.out]; unfold Shp.ok; simp only [decide_eq_false_iff_not]; omega
  subst e;have t3 : decide (c ≤ 1024) = false := decide_eq_false h3;clear HR h3;go_enter Tryz.func28, Tryz.ntmps28;go_wp2
  go_ret
  exact ⟨rfl, (Below.refl _ w).alloc (Nat.le_refl _) _⟩
 have t3 : decide (c ≤ 1024) = true := decide_eq_true h3;by_cases h4 : 0 < g + c;rotate_left
 ·have e : R = false := by rw [HR.out]; unfold Shp.ok; simp only [decide_eq_false_iff_not]; omega
  subst e;have t4 : decide (0 < g + c) = false := decide_eq_false h4;clear HR h4;go_enter Tryz.func28, Tryz.ntmps28;go_wp2
  go_ret
  exact ⟨rfl, (Below.refl _ w).alloc (Nat.le_refl _) _⟩
 have t4 : decide (0 < g + c) = true := decide_eq_true h4;by_cases h5 : 1 ≤ mn;rotate_left
 ·have e : R = false := by rw [HR.out]; unfold Shp.ok; simp only [decide_eq_false_iff_not]; omega
  subst e;have t5 : decide (1 ≤ mn) = false := decide_eq_false h5;clear HR h5;go_enter Tryz.func28, Tryz.ntmps28;go_wp2
  go_ret
  exact ⟨rfl, (Below.refl _ w).alloc (Nat.le_refl _) _⟩
 have t5 : decide (1 ≤ mn) = true := decide_eq_true h5;by_cases h6 : mn ≤ mx;rotate_left
 ·have e : R = false := by rw [HR.out]; unfold Shp.ok; simp only [decide_eq_false_iff_not]; omega
  subst e;have t6 : decide (mn ≤ mx) = false := decide_eq_false h6;clear HR h6;go_enter Tryz.func28, Tryz.ntmps28;go_wp2
  go_ret
  exact ⟨rfl, (Below.refl _ w).alloc (Nat.le_refl _) _⟩
 have t6 : decide (mn ≤ mx) = true := decide_eq_true h6;by_cases h7 : mx ≤ 16;rotate_left
 ·have e : R = false := by rw [HR.out]; unfold Shp.ok; simp only [decide_eq_false_iff_not]; omega
  subst e;have t7 : decide (mx ≤ 16) = false := decide_eq_false h7;clear HR h7;go_enter Tryz.func28, Tryz.ntmps28;go_wp2
  go_ret
  exact ⟨rfl, (Below.refl _ w).alloc (Nat.le_refl _) _⟩
 have t7 : decide (mx ≤ 16) = true := decide_eq_true h7;have e : R = true := by rw [HR.out]; unfold Shp.ok; simp only [decide_eq_true_eq]; omega
 subst e;clear HR;go_enter Tryz.func28, Tryz.ntmps28;go_wp2
 go_ret
 exact ⟨rfl, (Below.refl _ w).alloc (Nat.le_refl _) _⟩
set_option maxRecDepth 100000 in
set_option maxHeartbeats 2000000 in
theorem refunits_ok (g c : Nat) (mn mx : Int) (x : Nat) (w : World) (hg : g ≤ 16) (hc : c ≤ 1024) (hx : x ≤ 16) :
  Calls Tryz.prog 18 #[.agg #[.int .i64 (g : Int), .int .i64 (c : Int), .int .i64 mn, .int .i64 mx], .int .i64 (x : Int)] w fun e w' => e = .returned (.agg #[.int .i64 ((g * x : Nat) : Int), .int .i64 ((c * x : Nat) : Int)]) ∧ Below w.heap.size w w' := by
 obtain ⟨W3, hW3⟩ := nx (((w.alloc (.cells #[.int .i64 (g : Int), .int .i64 (c : Int), .int .i64 mn, .int .i64 mx] 32)).alloc (.cells #[.int .i64 0, .int .i64 0] 42)).alloc (.cells #[.int .i64 0, .int .i64 0] 42));have hBW3 : Below w.heap.size w W3 := by rw [hW3]; exact ((((Below.refl w.heap.size w).alloc (Nat.le_refl _) _).alloc (by simp <;> omega) _).alloc (by simp <;> omega) _)
 have hzW3 : W3.heap.size = w.heap.size + 1 + 1 + 1 := by rw [hW3]; simp
 have b0W3 : W3.heap[w.heap.size]? = some (.cells #[.int .i64 (g : Int), .int .i64 (c : Int), .int .i64 mn, .int .i64 mx] 32 (0, 0)) := by
  have h9 := heap_alloc_new (w) (.cells #[.int .i64 (g : Int), .int .i64 (c : Int), .int .i64 mn, .int .i64 mx] 32);rw [hW3]; exact ((Below.heap_alloc _ _ _ (by simp <;> omega)).trans ((Below.heap_alloc _ _ _ (by simp <;> omega)).trans h9))
 have b1W3 : W3.heap[w.heap.size + 1]? = some (.cells #[.int .i64 0, .int .i64 0] 42 (0, 0)) := by
  have h9 := heap_alloc_new (w.alloc (.cells #[.int .i64 (g : Int), .int .i64 (c : Int), .int .i64 mn, .int .i64 mx] 32)) (.cells #[.int .i64 0, .int .i64 0] 42);rw [World.size_alloc] at h9;rw [hW3]; exact ((Below.heap_alloc _ _ _ (by simp <;> omega)).trans h9)
 have b2W3 : W3.heap[w.heap.size + 1 + 1]? = some (.cells #[.int .i64 0, .int .i64 0] 42 (0, 0)) := by
  have h9 := heap_alloc_new ((w.alloc (.cells #[.int .i64 (g : Int), .int .i64 (c : Int), .int .i64 mn, .int .i64 mx] 32)).alloc (.cells #[.int .i64 0, .int .i64 0] 42)) (.cells #[.int .i64 0, .int .i64 0] 42);rw [World.size_alloc, World.size_alloc] at h9;rw [hW3]; exact h9
 have HXW3 := Hq (Ai hBW3 (Ai b0W3 (Ai b1W3 (b2W3))));have HW3 := Hq hW3;have hwW3 : w.heap.size + 1 + 1 + 1 ≤ W3.heap.size := by omega
 clear hW3 hBW3 hzW3 b0W3 b1W3 b2W3;obtain ⟨X, hX⟩ := nx (g * x);obtain ⟨Y, hY⟩ := nx (c * x);rw [← hX, ← hY];have HXY := Hq (Ai hX hY);clear hX hY;go_enter Tryz.func18, Tryz.ntmps18;go_wp2;rw [← HW3.out];have hs0 := (Below.refl W3.heap.size W3)
 go_loopw [6] (fun i wr => ∃ j : Nat, i = .int .i64 j ∧ j ≤ x ∧ W3.heap.size ≤ wr.heap.size ∧ Hid (Below w.heap.size w wr ∧ ∃ a b : Nat, a = g * j ∧ b = c * j ∧ wr.heap[w.heap.size]? = some (.cells #[.int .i64 (g : Int), .int .i64 (c : Int), .int .i64 mn, .int .i64 mx] 32 (0, 0)) ∧ wr.heap[w.heap.size + 1]? = some (.cells #[.int .i64 0, .int .i64 0] 42 (0, 0)) ∧ wr.heap[w.heap.size + 1 + 1]? = some (.cells #[.int .i64 (a : Nat), .int .i64 (b : Nat)] 42 (0, 0)))) (fun i _ => x - (intOf i).toNat)
 case atStart => exact ⟨0, rfl, by omega, Nat.le_refl _, Hq ⟨HXW3.out.1, 0, 0, by simp, by simp, HXW3.out.2.1, HXW3.out.2.2.1, HXW3.out.2.2.2⟩⟩
 case round =>
  obtain ⟨j, rfl, hj, hsz, hin⟩ := hrel;obtain ⟨hB, a, b, ha, hb, k0, k1, k2⟩ := hin.out;have s0 : wr.cell? ⟨w.heap.size, 0, none⟩ = _ := cell_blk (i := 0) k0 rfl;have s1 : wr.cell? ⟨w.heap.size, 1, none⟩ = _ := cell_blk (i := 1) k0 rfl;have r0 : wr.cell? ⟨w.heap.size + 1, 0, none⟩ = _ := cell_blk (i := 0) k1 rfl;have r1 : wr.cell? ⟨w.heap.size + 1, 1, none⟩ = _ := cell_blk (i := 1) k1 rfl;have rz0 : wr.frozen? ⟨w.heap.size + 1, 0, none⟩ = _ := frozen_blk k1;have rz1 : wr.frozen? ⟨w.heap.size + 1, 1, none⟩ = _ := frozen_blk k1;have u0 : wr.cell? ⟨w.heap.size + 1 + 1, 0, none⟩ = _ := cell_blk (i := 0) k2 rfl;have u1 : wr.cell? ⟨w.heap.size + 1 + 1, 1, none⟩ = _ := cell_blk (i := 1) k2 rfl;have uz0 : wr.frozen? ⟨w.heap.size + 1 + 1, 0, none⟩ = _ := frozen_blk k2;have uz1 : wr.frozen? ⟨w.heap.size + 1 + 1, 1, none⟩ = _ := frozen_blk k2;by_cases hlt : j < x
  ·have a1 : a ≤ 256 := by rw [ha]; exact Nat.le_trans (Nat.mul_le_mul hg (show j ≤ 16 by omega)) (by omega)
   have b1 : b ≤ 16384 := by rw [hb]; exact Nat.le_trans (Nat.mul_le_mul hc (show j ≤ 16 by omega)) (by omega)
   have HA := Hq (show a + g = g * (j + 1) ∧ b + c = c * (j + 1) by rw [ha, hb, Nat.mul_succ, Nat.mul_succ]; exact ⟨rfl, rfl⟩);have HK := Hq (Ai hB (Ai k0 (Ai k1 k2)));clear ha hb k0 k1 k2 hB hin;go_wp2
   go_roundw
   case rel =>
    refine ⟨j + 1, by go_num, by omega, by simpa using hsz, Hq ⟨(HK.out.1.setCell (by simp <;> omega) _).setCell (by simp <;> omega) _, a + g, b + c, HA.out.1, HA.out.2, ?_, ?_, ?_⟩⟩
    ·exact (Below.heap_setCell _ _ _ _ (by simp <;> omega)).trans ((Below.heap_setCell _ _ _ _ (by simp <;> omega)).trans HK.out.2.1)
    ·exact (Below.heap_setCell _ _ _ _ (by simp <;> omega)).trans ((Below.heap_setCell _ _ _ _ (by simp <;> omega)).trans HK.out.2.2.1)
    ·have := blk_put (i := 1) (.int .i64 ((b : Int) + (c : Int))) (blk_put (i := 0) (.int .i64 ((a : Int) + (g : Int))) HK.out.2.2.2);simpa using this
   case measure => simp [intOf]; omega
  ·obtain rfl : j = x := by omega
   obtain rfl : a = X := by rw [ha, HXY.out.1]
   obtain rfl : b = Y := by rw [hb, HXY.out.2]
   clear ha hb k0 k1 k2 hin hlt HXY;have HB := Hq hB;clear hB;go_wp2;refine bodyPost_ret (v := .agg #[.int .i64 (a : Int), .int .i64 (b : Int)]) (by simp [results, Tryz.results18, go_sem, r0, r1]) rfl ?_;exact ⟨rfl, (HB.out.setCell (by simp <;> omega) _).setCell (by simp <;> omega) _⟩
end
end Go.Proofs.YtkkkhonjcbhelaaGreatDoor
