import Derived.Test.YtkkkhonjcbhelaaGreatDoorProR
set_option linter.unusedVariables false
set_option maxRecDepth 100000
namespace Go.Proofs.YtkkkhonjcbhelaaGreatDoor
open Go.RowKit
def fewH (lv : List Fe) (g c : Int) (l : List Ho) : Bool := decide (lv.length ≤ 70) && (rightL lv && (decide (l.length ≤ 20) && (decide (-1048576 ≤ g ∧ g ≤ 1048576 ∧ -1048576 ≤ c ∧ c ≤ 1048576) && l.all fun x => decide (x.sl.length ≤ 20))))
set_option maxHeartbeats 4000000 in
theorem few12_any (A1 : Option Addr) (p1 : Nat) (lv : List Fe) (g c : Int) (A2 : Option Addr) (p2 : Nat) (l : List Ho) (w : World) (h : Fes w w.heap.size A1 lv) (hp1 : lv.length ≤ p1) (hd : Hos w w.heap.size A2 l) (hs : ∀ x ∈ l, x.sl.length ≤ maxLen) :
  Calls Tryz.prog 23 #[.slice A1 lv.length p1, .agg #[.int .i64 g, .int .i64 c], .slice A2 l.length p2] w fun e w' => e = .returned (.bool (fewH lv g c l)) ∧ Below w.heap.size w w' := by
 obtain ⟨R, hR⟩ := nx (fewH lv g c l);obtain ⟨r, hr⟩ := nx (rightL lv);rw [← hR];obtain ⟨n, hn⟩ := nx (lv.length);obtain ⟨m, hm⟩ := nx (l.length);unfold fewH at hR;rw [← hn, ← hm, ← hr] at hR;rw [← hn, ← hm];by_cases h1 : 70 < n
 ·obtain rfl : R = false := by rw [hR, decide_eq_false (show ¬ n ≤ 70 by omega)]; rfl
  have t1 : decide (70 < (n : Int)) = true := decide_eq_true (by omega);clear hR hr hn hm h hp1 hd hs h1;obtain ⟨B0, hB0⟩ := nx (w.heap.size);rw [← hB0];have HB0 := Hq hB0;clear hB0;have HBel := Hq (Below.refl w.heap.size w);have hlow : w.heap.size ≤ w.heap.size := Nat.le_refl _;go_enter Tryz.func23, Tryz.ntmps23;go_wp2;obtain ⟨V1, hV1⟩ := nx (w.alloc (.cells #[.int .i64 g, .int .i64 c] 42));rw [← hV1];have hzV1 := sz1 hV1;replace HBel := be1 hV1 HBel hlow;have B_f := Hq (new10 hV1);obtain ⟨N_f, hN_f⟩ := nx (w.heap.size);(try rw [← hN_f]);rw [← hN_f] at B_f;have l_f : N_f < V1.heap.size := by omega
  have g_f : w.heap.size ≤ N_f := by omega
  replace hlow : w.heap.size ≤ V1.heap.size := by omega
  clear hV1 hzV1 hN_f
  go_ret
  exact ⟨rfl, by rw [HB0.out]; exact HBel.out⟩
 have t1 : decide (70 < (n : Int)) = false := decide_eq_false (by omega);have hRi := Hq (fun W (hW : Below w.heap.size w W) => show Calls Tryz.prog 35 #[.slice A1 n p1] W (fun e w' => e = .returned (.bool r) ∧ Below W.heap.size W w') from by
  have h9 := right_any A1 p1 W.heap.size lv W (h.keep hW hW.size) (Nat.le_refl _) (by omega) hp1;rw [← hn, ← hr] at h9; exact h9)
 rw [decide_eq_true (show n ≤ 70 by omega), Bool.true_and] at hR
 cases hr1 : r
 ·obtain rfl : R = false := by rw [hR, hr1]; rfl
  rw [hr1] at hRi;clear hR hr hr1 hn hm h hp1 hd hs h1;obtain ⟨B0, hB0⟩ := nx (w.heap.size);rw [← hB0];have HB0 := Hq hB0;clear hB0;have HBel := Hq (Below.refl w.heap.size w);have hlow : w.heap.size ≤ w.heap.size := Nat.le_refl _;go_enter Tryz.func23, Tryz.ntmps23;go_wp2_with fail;obtain ⟨V1, hV1⟩ := nx (w.alloc (.cells #[.int .i64 g, .int .i64 c] 42));rw [← hV1];have hzV1 := sz1 hV1;replace HBel := be1 hV1 HBel hlow;have B_f := Hq (new10 hV1);obtain ⟨N_f, hN_f⟩ := nx (w.heap.size);(try rw [← hN_f]);rw [← hN_f] at B_f;have l_f : N_f < V1.heap.size := by omega
  have g_f : w.heap.size ≤ N_f := by omega
  replace hlow : w.heap.size ≤ V1.heap.size := by omega
  clear hV1 hzV1 hN_f;refine (hRi.out V1 HBel.out).mono ?_;rintro e U2 ⟨rfl, hb9⟩;have hs9 := hb9.size;replace HBel := bt9 HBel hb9 hlow;replace B_f := bb9 hb9 B_f l_f;replace l_f : N_f < U2.heap.size := by omega
  replace hlow : w.heap.size ≤ U2.heap.size := by omega
  clear hb9 hs9;obtain ⟨f0, f1⟩ := cells2 B_f.out;go_wp2
  go_ret
  exact ⟨rfl, by rw [HB0.out]; exact HBel.out⟩
 rw [hr1] at hR hRi;rw [Bool.true_and] at hR;clear hr hr1;by_cases h3 : 20 < m
 ·obtain rfl : R = false := by rw [hR, decide_eq_false (show ¬ m ≤ 20 by omega)]; rfl
  have t3 : decide (20 < (m : Int)) = true := decide_eq_true (by omega);clear hR hn hm h hp1 hd hs h1 h3;obtain ⟨B0, hB0⟩ := nx (w.heap.size);rw [← hB0];have HB0 := Hq hB0;clear hB0;have HBel := Hq (Below.refl w.heap.size w);have hlow : w.heap.size ≤ w.heap.size := Nat.le_refl _;go_enter Tryz.func23, Tryz.ntmps23;go_wp2_with fail;obtain ⟨V1, hV1⟩ := nx (w.alloc (.cells #[.int .i64 g, .int .i64 c] 42));rw [← hV1];have hzV1 := sz1 hV1;replace HBel := be1 hV1 HBel hlow;have B_f := Hq (new10 hV1);obtain ⟨N_f, hN_f⟩ := nx (w.heap.size);(try rw [← hN_f]);rw [← hN_f] at B_f;have l_f : N_f < V1.heap.size := by omega
  have g_f : w.heap.size ≤ N_f := by omega
  replace hlow : w.heap.size ≤ V1.heap.size := by omega
  clear hV1 hzV1 hN_f;refine (hRi.out V1 HBel.out).mono ?_;rintro e U2 ⟨rfl, hb9⟩;have hs9 := hb9.size;replace HBel := bt9 HBel hb9 hlow;replace B_f := bb9 hb9 B_f l_f;replace l_f : N_f < U2.heap.size := by omega
  replace hlow : w.heap.size ≤ U2.heap.size := by omega
  clear hb9 hs9;obtain ⟨f0, f1⟩ := cells2 B_f.out;go_wp2
  go_ret
  exact ⟨rfl, by rw [HB0.out]; exact HBel.out⟩
 have t3 : decide (20 < (m : Int)) = false := decide_eq_false (by omega);rw [decide_eq_true (show m ≤ 20 by omega), Bool.true_and] at hR;by_cases h4 : g < -1048576
 ·obtain rfl : R = false := by rw [hR, decide_eq_false (by omega)]; rfl
  have t4 : decide (g < -1048576) = true := decide_eq_true h4;clear hR hn hm h hp1 hd hs h1 h3 h4;obtain ⟨B0, hB0⟩ := nx (w.heap.size);rw [← hB0];have HB0 := Hq hB0;clear hB0;have HBel := Hq (Below.refl w.heap.size w);have hlow : w.heap.size ≤ w.heap.size := Nat.le_refl _;go_enter Tryz.func23, Tryz.ntmps23;go_wp2_with fail;obtain ⟨V1, hV1⟩ := nx (w.alloc (.cells #[.int .i64 g, .int .i64 c] 42));rw [← hV1];have hzV1 := sz1 hV1;replace HBel := be1 hV1 HBel hlow;have B_f := Hq (new10 hV1);obtain ⟨N_f, hN_f⟩ := nx (w.heap.size);(try rw [← hN_f]);rw [← hN_f] at B_f;have l_f : N_f < V1.heap.size := by omega
  have g_f : w.heap.size ≤ N_f := by omega
  replace hlow : w.heap.size ≤ V1.heap.size := by omega
  clear hV1 hzV1 hN_f;refine (hRi.out V1 HBel.out).mono ?_;rintro e U2 ⟨rfl, hb9⟩;have hs9 := hb9.size;replace HBel := bt9 HBel hb9 hlow;replace B_f := bb9 hb9 B_f l_f;replace l_f : N_f < U2.heap.size := by omega
  replace hlow : w.heap.size ≤ U2.heap.size := by omega
  clear hb9 hs9;obtain ⟨f0, f1⟩ := cells2 B_f.out;go_wp2
  go_ret
  exact ⟨rfl, by rw [HB0.out]; exact HBel.out⟩
 have t4 : decide (g < -1048576) = false := decide_eq_false h4;by_cases h5 : 1048576 < g
 ·obtain rfl : R = false := by rw [hR, decide_eq_false (by omega)]; rfl
  have t5 : decide (1048576 < g) = true := decide_eq_true h5;clear hR hn hm h hp1 hd hs h1 h3 h4 h5;obtain ⟨B0, hB0⟩ := nx (w.heap.size);rw [← hB0];have HB0 := Hq hB0;clear hB0;have HBel := Hq (Below.refl w.heap.size w);have hlow : w.heap.size ≤ w.heap.size := Nat.le_refl _;go_enter Tryz.func23, Tryz.ntmps23;go_wp2_with fail;obtain ⟨V1, hV1⟩ := nx (w.alloc (.cells #[.int .i64 g, .int .i64 c] 42));rw [← hV1];have hzV1 := sz1 hV1;replace HBel := be1 hV1 HBel hlow;have B_f := Hq (new10 hV1);obtain ⟨N_f, hN_f⟩ := nx (w.heap.size);(try rw [← hN_f]);rw [← hN_f] at B_f;have l_f : N_f < V1.heap.size := by omega
  have g_f : w.heap.size ≤ N_f := by omega
  replace hlow : w.heap.size ≤ V1.heap.size := by omega
  clear hV1 hzV1 hN_f;refine (hRi.out V1 HBel.out).mono ?_;rintro e U2 ⟨rfl, hb9⟩;have hs9 := hb9.size;replace HBel := bt9 HBel hb9 hlow;replace B_f := bb9 hb9 B_f l_f;replace l_f : N_f < U2.heap.size := by omega
  replace hlow : w.heap.size ≤ U2.heap.size := by omega
  clear hb9 hs9;obtain ⟨f0, f1⟩ := cells2 B_f.out;go_wp2
  go_ret
  exact ⟨rfl, by rw [HB0.out]; exact HBel.out⟩
 have t5 : decide (1048576 < g) = false := decide_eq_false h5;by_cases h6 : c < -1048576
 ·obtain rfl : R = false := by rw [hR, decide_eq_false (by omega)]; rfl
  have t6 : decide (c < -1048576) = true := decide_eq_true h6;clear hR hn hm h hp1 hd hs h1 h3 h4 h5 h6;obtain ⟨B0, hB0⟩ := nx (w.heap.size);rw [← hB0];have HB0 := Hq hB0;clear hB0;have HBel := Hq (Below.refl w.heap.size w);have hlow : w.heap.size ≤ w.heap.size := Nat.le_refl _;go_enter Tryz.func23, Tryz.ntmps23;go_wp2_with fail;obtain ⟨V1, hV1⟩ := nx (w.alloc (.cells #[.int .i64 g, .int .i64 c] 42));rw [← hV1];have hzV1 := sz1 hV1;replace HBel := be1 hV1 HBel hlow;have B_f := Hq (new10 hV1);obtain ⟨N_f, hN_f⟩ := nx (w.heap.size);(try rw [← hN_f]);rw [← hN_f] at B_f;have l_f : N_f < V1.heap.size := by omega
  have g_f : w.heap.size ≤ N_f := by omega
  replace hlow : w.heap.size ≤ V1.heap.size := by omega
  clear hV1 hzV1 hN_f;refine (hRi.out V1 HBel.out).mono ?_;rintro e U2 ⟨rfl, hb9⟩;have hs9 := hb9.size;replace HBel := bt9 HBel hb9 hlow;replace B_f := bb9 hb9 B_f l_f;replace l_f : N_f < U2.heap.size := by omega
  replace hlow : w.heap.size ≤ U2.heap.size := by omega
  clear hb9 hs9;obtain ⟨f0, f1⟩ := cells2 B_f.out;go_wp2
  go_ret
  exact ⟨rfl, by rw [HB0.out]; exact HBel.out⟩
 have t6 : decide (c < -1048576) = false := decide_eq_false h6;by_cases h7 : 1048576 < c
 ·obtain rfl : R = false := by rw [hR, decide_eq_false (by omega)]; rfl
  have t7 : decide (1048576 < c) = true := decide_eq_true h7;clear hR hn hm h hp1 hd hs h1 h3 h4 h5 h6 h7;obtain ⟨B0, hB0⟩ := nx (w.heap.size);rw [← hB0];have HB0 := Hq hB0;clear hB0;have HBel := Hq (Below.refl w.heap.size w);have hlow : w.heap.size ≤ w.heap.size := Nat.le_refl _;go_enter Tryz.func23, Tryz.ntmps23;go_wp2_with fail;obtain ⟨V1, hV1⟩ := nx (w.alloc (.cells #[.int .i64 g, .int .i64 c] 42));rw [← hV1];have hzV1 := sz1 hV1;replace HBel := be1 hV1 HBel hlow;have B_f := Hq (new10 hV1);obtain ⟨N_f, hN_f⟩ := nx (w.heap.size);(try rw [← hN_f]);rw [← hN_f] at B_f;have l_f : N_f < V1.heap.size := by omega
  have g_f : w.heap.size ≤ N_f := by omega
  replace hlow : w.heap.size ≤ V1.heap.size := by omega
  clear hV1 hzV1 hN_f;refine (hRi.out V1 HBel.out).mono ?_;rintro e U2 ⟨rfl, hb9⟩;have hs9 := hb9.size;replace HBel := bt9 HBel hb9 hlow;replace B_f := bb9 hb9 B_f l_f;replace l_f : N_f < U2.heap.size := by omega
  replace hlow : w.heap.size ≤ U2.heap.size := by omega
  clear hb9 hs9;obtain ⟨f0, f1⟩ := cells2 B_f.out;go_wp2
  go_ret
  exact ⟨rfl, by rw [HB0.out]; exact HBel.out⟩
 have t7 : decide (1048576 < c) = false := decide_eq_false h7;rw [decide_eq_true (show -1048576 ≤ g ∧ g ≤ 1048576 ∧ -1048576 ≤ c ∧ c ≤ 1048576 by omega), Bool.true_and] at hR;have H := Hq (Ai hd (Ai hm (Ai hs hR)));have hm20 : m ≤ 20 := by omega
 clear hR hn hm h hp1 hd hs h1 h3 h4 h5 h6 h7;obtain ⟨B0, hB0⟩ := nx (w.heap.size);rw [← hB0];have HB0 := Hq hB0;clear hB0;have HBel := Hq (Below.refl w.heap.size w);have hlow : w.heap.size ≤ w.heap.size := Nat.le_refl _;go_enter Tryz.func23, Tryz.ntmps23;go_wp2_with fail;obtain ⟨V1, hV1⟩ := nx (w.alloc (.cells #[.int .i64 g, .int .i64 c] 42));rw [← hV1];have hzV1 := sz1 hV1;replace HBel := be1 hV1 HBel hlow;have B_f := Hq (new10 hV1);obtain ⟨N_f, hN_f⟩ := nx (w.heap.size);(try rw [← hN_f]);rw [← hN_f] at B_f;have l_f : N_f < V1.heap.size := by omega
 have g_f : w.heap.size ≤ N_f := by omega
 replace hlow : w.heap.size ≤ V1.heap.size := by omega
 clear hV1 hzV1 hN_f;refine (hRi.out V1 HBel.out).mono ?_;rintro e U2 ⟨rfl, hb9⟩;have hs9 := hb9.size;replace HBel := bt9 HBel hb9 hlow;replace B_f := bb9 hb9 B_f l_f;replace l_f : N_f < U2.heap.size := by omega
 replace hlow : w.heap.size ≤ U2.heap.size := by omega
 clear hb9 hs9;obtain ⟨f0, f1⟩ := cells2 B_f.out;go_wp2;go_loopw [7] (fun i wr => ∃ k : Nat, i = .int .i64 k ∧ k ≤ m ∧ U2 = wr ∧ Hid ((l.take k).all (fun x => decide (x.sl.length ≤ 20)) = true)) (fun i _ => m - (intOf i).toNat)
 case atStart => exact ⟨0, rfl, by omega, by first | rfl | trivial, Hq (by simp)⟩
 case round =>
  obtain ⟨k, rfl, hk, rfl, hA⟩ := hrel;obtain ⟨hd, hm, hs, hR⟩ := H.out;by_cases hlt : k < m
  ·have u1 : decide (k < m) = true := decide_eq_true hlt;obtain ⟨x, hx⟩ := get_lt (l := l) (k := k) (by rw [← hm]; exact hlt);obtain ⟨b, off, rfl, hb, hall⟩ := hd.at_ hx;have hk4 := (hall k x hx).keep hb HBel.out;have h4 := hk4 4 _ rfl;obtain ⟨v, hv⟩ := nx (x.sl.length);have hv6 := hs x (List.mem_of_getElem? hx);unfold maxLen at hv6;rw [← hv] at h4 hv6;by_cases h20 : 20 < v
   ·have u2 : decide (20 < (v : Int)) = true := decide_eq_true (by omega);have hf : R = false := by rw [hR]; exact all_no hx (by simp; omega)
    have HF := Hq hf;clear hall hk4 hx hv hd hm hs hR hf h20;go_wp2
    go_ret
    exact ⟨by rw [HF.out]; rfl, by rw [HB0.out]; exact HBel.out⟩
   ·have u2 : decide (20 < (v : Int)) = false := decide_eq_false (by omega);have HN := Hq (all_next hx hA.out (by simp; omega));clear hall hk4 hx hv hd hm hs hR h20;go_wp2
    go_roundw
    case rel => exact ⟨k + 1, by go_num, by omega, by first | rfl | trivial, HN⟩
    case measure => simp [intOf]; omega
  ·obtain rfl : k = m := by omega
   have u1 : decide (k < k) = false := (by simp);have hf : R = true := by rw [hR]; refine all_end ?_; have := hA.out; rw [hm] at this; exact this
   have HF := Hq hf;clear hd hm hs hR hf hlt;go_wp2
   go_ret
   exact ⟨by rw [HF.out]; rfl, by rw [HB0.out]; exact HBel.out⟩
end Go.Proofs.YtkkkhonjcbhelaaGreatDoor
