import Derived.Test.YtkkkhonjcbhelaaGreatDoorPackMem
import Derived.Test.YtkkkhonjcbhelaaGreatDoorPackP
import Derived.Deep.RegionHeld3
import Derived.Deep.AppendLies
import Derived.Deep.Onto
set_option maxRecDepth 100000
namespace Go.Proofs.YtkkkhonjcbhelaaGreatDoor
section
open Go.RowKit
theorem info_intP : (Tryz.prog.info? 3).map (fun i => (i.zero, i.size, i.bytes)) = some (some (.int .i64 0), 1, 8) := by kernel_rfl
def fitsL (S : Shp) (l : List Fe) : List Nat := l.map (fitF S)
theorem fitsL_next {S : Shp} {l : List Fe} {k : Nat} {f : Fe} (h : l[k]? = some f) : fitsL S (l.take (k + 1)) = fitsL S (l.take k) ++ [fitF S f] := by unfold fitsL; rw [take_next h, List.map_append]; rfl
set_option maxRecDepth 100000 in
set_option maxHeartbeats 2000000 in
theorem fits_all (A : Option Addr) (c B : Nat) (l : List Fe) (S : Shp) (w : World) (h : Fes w B A l) (hB : B ≤ w.heap.size) (hn : l.length ≤ 500000) (hw : S.Wf) (hf : ∀ f ∈ l, FeOk f) (hT : Tab w) :
  Calls Tryz.prog 59 #[.slice A l.length c, shV S] w fun e w' => ∃ v, e = .returned v ∧ w'.ownsRow (w.heap.size + 1) 3 1 v l.length (ints (fitsL S l)) ∧ Below w.heap.size w w' := by
 obtain ⟨n, hln⟩ : ∃ n, l.length = n := ⟨_, rfl⟩
 have H := Hq (Ai h (Ai hln (Ai hf hw)));have HT := Hq hT;rw [hln] at hn ⊢;have hTs := hT.size;clear h hln hf hw hT;obtain ⟨i0, hi, hz0, hz1, hz2⟩ := info_parts info_intP;obtain ⟨g, cc, mn, mx⟩ := S;unfold shV;obtain ⟨w1, hw1⟩ := nx (w.alloc (.cells #[.int .i64 g, .int .i64 cc, .int .i64 mn, .int .i64 mx] 32));have hB1 : Below w.heap.size w w1 := by rw [hw1]; exact (Below.refl w.heap.size w).alloc (Nat.le_refl _) _
 have bS : Hid (w1.heap[w.heap.size]? = some (.cells #[.int .i64 g, .int .i64 cc, .int .i64 mn, .int .i64 mx] 32 (0, 0))) := Hq (by rw [hw1]; exact heap_alloc_new w _);have hs1 : w.heap.size < w1.heap.size := by rw [hw1]; simp
 have hw1s : w1.heap.size = w.heap.size + 1 := by rw [hw1]; simp
 go_enter Tryz.func59, Tryz.ntmps59;go_wp2_with (at_make; rw [← hw1]; refine wpList_make_own _ rfl _ _ _ rfl (w.heap.size + 1) 3 i0 (.int .i64 0) 1 Tryz.underlying103 hi hz0 hz1 .i64 .i64 (n : Int) n rfl rfl rfl (by rw [hz2]; omega) (by unfold maxLen; omega) (by omega) ?_; intro w2 hown hgr);have HB2 : Hid (Below w.heap.size w w2) := Hq (hB1.grown hgr (by omega) (fun k e => by cases e));have bS2 : Hid (w2.heap[w.heap.size]? = some (.cells #[.int .i64 g, .int .i64 cc, .int .i64 mn, .int .i64 mx] 32 (0, 0))) := Hq ((hgr.block _ hs1 (by simp)).trans bS.out);have hs2 : w.heap.size < w2.heap.size := Nat.lt_of_lt_of_le hs1 hgr.size;have HO : Hid (w2.ownsRow (w.heap.size + 1) 3 1 (.slice (some ⟨w.heap.size + 1, 0, none⟩) 0 n) 0 (ints (fitsL ⟨g, cc, mn, mx⟩ (l.take 0)))) := Hq (by rw [hw1s] at hown; simpa [fitsL, ints] using hown);clear hown hgr bS hs1 hB1 hw1s;go_loopw [5, 13] (fun out i wr => ∃ k : Nat, i = .int .i64 k ∧ k ≤ n ∧ Hid (wr.ownsRow (w.heap.size + 1) 3 1 out k (ints (fitsL ⟨g, cc, mn, mx⟩ (l.take k)))) ∧ Hid (Below w.heap.size w wr) ∧ w.heap.size < wr.heap.size ∧ Hid (wr.heap[w.heap.size]? = some (.cells #[.int .i64 g, .int .i64 cc, .int .i64 mn, .int .i64 mx] 32 (0, 0)))) (fun _ i _ => n - (intOf i).toNat)
 case atStart => exact ⟨0, rfl, by omega, HO, HB2, hs2, bS2⟩
 case round =>
  clear HO HB2 hs2 bS2 hw1;obtain ⟨k, rfl, hk, hO, hBl, hsw, hS⟩ := hrel;by_cases hlt : k < n
  ·obtain ⟨f, hx⟩ := get_lt (l := l) (k := k) (by rw [H.out.2.1]; exact hlt);obtain ⟨b, off, hA, hb, hc⟩ := H.out.1.at_ hx;subst hA;have HBd := Hq hb;obtain ⟨f0, f1, f2, f3⟩ := (hc k f hx).keep (B := w.heap.size) (by omega) hBl.out;obtain ⟨W, hW⟩ := nx (wr.alloc (.cells #[.int .i64 f.n, .int .i64 f.d, .int .u64 (f.m : Nat), .int .i64 f.c] 63));have hBW : Below w.heap.size w W := by rw [hW]; exact hBl.out.alloc (by omega) _
   have hBW' : Below wr.heap.size wr W := by rw [hW]; exact (Below.refl _ _).alloc (Nat.le_refl _) _
   have hWs : W.heap.size = wr.heap.size + 1 := by rw [hW]; simp
   have hF := Hq (fit_any ⟨g, cc, mn, mx⟩ f W H.out.2.2.2 (H.out.2.2.1 f (List.mem_of_getElem? hx)) (HT.out.below hBW hTs));unfold shV feV at hF;have hq := fitF_le ⟨g, cc, mn, mx⟩ f;have hbox : W.heap[wr.heap.size]? = some (.cells #[.int .i64 f.n, .int .i64 f.d, .int .u64 (f.m : Nat), .int .i64 f.c] 63 (0, 0)) := by rw [hW]; exact heap_alloc_new wr _
   have bSW := (hBW'.block _ hsw).trans hS.out;have s0 : wr.cell? ⟨w.heap.size, 0, none⟩ = some (.int .i64 g) := cell_blk (i := 0) hS.out rfl;have s1 : wr.cell? ⟨w.heap.size, 1, none⟩ = some (.int .i64 cc) := cell_blk (i := 1) hS.out rfl;have s2 : wr.cell? ⟨w.heap.size, 2, none⟩ = some (.int .i64 mn) := cell_blk (i := 2) hS.out rfl;have s3 : wr.cell? ⟨w.heap.size, 3, none⟩ = some (.int .i64 mx) := cell_blk (i := 3) hS.out rfl;have HX := Hq (Ai hBW (Ai hBW' (Ai hWs (Ai bSW (fitsL_next (S := ⟨g, cc, mn, mx⟩) hx)))));obtain ⟨q, hqq⟩ : ∃ q, q = fitF ⟨g, cc, mn, mx⟩ f := ⟨_, rfl⟩
   rw [← hqq] at hF hq HX;have HW := Hq hW;have t1 : decide (k < n) = true := decide_eq_true hlt;clear hx hc hbox bSW hBW hBW' hqq hW hb;go_wp2_with fail;rw [← HW.out];refine hF.out.mono ?_;rintro e w4 ⟨rfl, hb4⟩;obtain ⟨hBW, hBW', hWs, bSW, hNx⟩ := HX.out;have hown4 : w4.ownsRow (w.heap.size + 1) 3 1 u5 k (ints (fitsL ⟨g, cc, mn, mx⟩ (l.take k))) := own_below (own_below hO.out hBW') hb4;have hs4 := hb4.size;have hB4 : Below w.heap.size w w4 := hBW.trans (hb4.mono (by omega));have bS4 := (hb4.block w.heap.size (by omega)).trans bSW;have hz4 : w.heap.size + 1 < w4.heap.size := (by omega);have HK := Hq (Ai hB4 (Ai bS4 hNx));clear hBW hBW' hWs bSW hNx hb4 hs4 hO hBl hsw hS s0 s1 s2 s3 f0 f1 f2 f3 HX HW hF hB4 bS4;go_wp2_with (at_builtin; refine wpList_append_own _ rfl _ _ 103 rfl (w.heap.size + 1) 3 i0 (.int .i64 0) 1 8 Tryz.underlying103 hi hz0 hz1 hz2 rfl (by decide) _ _ _ rfl (hown4.alloc _) ⟨_, 0, none⟩ 1 1 [.int .i64 (q : Nat)] rfl rfl (cell_one_new _ _ _) (by simp [Value.oneCell']) (by unfold maxLen; omega) (by omega) (by simp; omega) ?_; intro v' w5 hown' hgrow hnil);have hl := fun k e => (hown4.lt k e).1
   go_roundw
   case rel =>
    refine ⟨k + 1, by go_num, by omega, Hq ?_, Hq ?_, ?_, Hq ?_⟩
    ·rw [HK.out.2.2]; simpa [ints] using hown'
    ·exact (HK.out.1.alloc (by omega) _).grown hgrow (by simp; omega) (fun k e => by have := hl k e; omega)
    ·have := hgrow.size; simp at this; omega
    ·exact (hgrow.block _ (by simp; omega) (fun e => by have := hl _ e.symm; omega)).trans ((Below.heap_alloc _ _ _ (by omega)).trans HK.out.2.1)
   case measure => simp [intOf]; omega
  ·obtain rfl : k = n := by omega
   have HR : Hid (wr.ownsRow (w.heap.size + 1) 3 1 u5 k (ints (fitsL ⟨g, cc, mn, mx⟩ l))) := Hq (by have := hO.out; rw [← H.out.2.1, List.take_length] at this; rw [← H.out.2.1]; exact this);clear hlt;go_wp2
   go_ret
   exact ⟨_, rfl, HR.out, hBl.out⟩
theorem sum_le16 {l : List Nat} (h : ∀ x ∈ l, x ≤ 16) : l.sum ≤ 16 * l.length := by
 induction l with
 | nil => simp
 | cons x l ih =>
  have h1 := h x (by simp);have h2 := ih fun y hy => h y (List.mem_cons_of_mem _ hy)
  rw [List.sum_cons, List.length_cons]; omega
set_option maxRecDepth 100000 in
theorem sum_any (a : Option Addr) (c : Nat) (l : List Nat) (w : World) (h : Row w a l) (h16 : ∀ x ∈ l, x ≤ 16) (hn : l.length ≤ 500000) :
  Calls Tryz.prog 60 #[.slice a l.length c] w fun e w' => e = .returned (.int .i64 (l.sum : Nat)) ∧ w = w' := by
 obtain ⟨n, hln⟩ : ∃ n, l.length = n := ⟨_, rfl⟩
 obtain ⟨R, hR⟩ := nx (l.sum);have H := Hq (Ai h (Ai hln (Ai hR h16)));rw [hln] at hn ⊢;rw [← hR];clear h hln hR h16;go_enter Tryz.func60, Tryz.ntmps60;go_wp2
 go_loop [3, 8] (fun s i => ∃ (k q : Nat), i = .int .i64 k ∧ s = .int .i64 q ∧ k ≤ n ∧ q ≤ 16 * k ∧ Hid (q = (l.take k).sum)) (fun _ i => n - (intOf i).toNat)
 case atStart => exact ⟨0, 0, rfl, rfl, by omega, by omega, Hq (by simp)⟩
 case round =>
  obtain ⟨k, q, rfl, rfl, hk, hq, hS⟩ := hrel;by_cases hlt : k < n
  ·obtain ⟨x, hx⟩ := get_lt (l := l) (k := k) (by rw [H.out.2.1]; exact hlt);have hx16 := H.out.2.2.2 x (List.mem_of_getElem? hx);rcases H.out.1 with h0 | ⟨g, ha, hg, hc⟩
   ·rw [h0] at hx; simp at hx
   subst ha;have c1 := hc k (by rw [H.out.2.1]; exact hlt);rw [hx] at c1;simp only [Option.getD_some] at c1;have HN := Hq (show q + x = (l.take (k + 1)).sum by rw [take_next hx, List.sum_append, ← hS.out]; simp);have t1 : decide (k < n) = true := decide_eq_true hlt;clear hc hx hS hg;go_wp2
   go_round
   case rel => exact ⟨k + 1, q + x, by go_num, by go_num, by omega, by omega, HN⟩
   case measure => simp [intOf]; omega
  ·obtain rfl : k = n := by omega
   have e : R = q := (by rw [H.out.2.2.1, hS.out, ← H.out.2.1, List.take_length]);subst e;clear hlt hS;go_wp2
   go_ret
   exact ⟨rfl, rfl⟩
def roomF (S : Shp) (l : List Fe) : Nat := (fitsL S l).sum
theorem fitsL_le (S : Shp) (l : List Fe) : ∀ x ∈ fitsL S l, x ≤ 16 := fun x hx => by
 obtain ⟨f, _, rfl⟩ := List.mem_map.1 hx;exact fitF_le S f
theorem fitsL_len (S : Shp) (l : List Fe) : (fitsL S l).length = l.length := List.length_map _
theorem roomF_le (S : Shp) (l : List Fe) : roomF S l ≤ 16 * l.length := by have := sum_le16 (fitsL_le S l); rwa [fitsL_len] at this
theorem fits_row (A : Option Addr) (c B : Nat) (l : List Fe) (S : Shp) (w : World) (h : Fes w B A l) (hB : B ≤ w.heap.size) (hn : l.length ≤ 500000) (hw : S.Wf) (hf : ∀ f ∈ l, FeOk f) (hT : Tab w) :
  Calls Tryz.prog 59 #[.slice A l.length c, shV S] w fun e w' => ∃ a cap, e = .returned (.slice a l.length cap) ∧ Row w' a (fitsL S l) ∧ Below w.heap.size w w' :=
 (fits_all A c B l S w h hB hn hw hf hT).mono fun e w' ⟨v, he, ho, hb⟩ => by
  rw [← fitsL_len S l] at ho;obtain ⟨a, cap, rfl, hr⟩ := row_of_owns ho;exact ⟨a, cap, by rw [he, fitsL_len], hr, hb⟩
set_option maxRecDepth 100000 in
theorem room_any (A : Option Addr) (c B : Nat) (l : List Fe) (S : Shp) (w : World) (h : Fes w B A l) (hB : B ≤ w.heap.size) (hn : l.length ≤ 500000) (hw : S.Wf) (hf : ∀ f ∈ l, FeOk f) (hT : Tab w) :
  Calls Tryz.prog 113 #[.slice A l.length c, shV S] w fun e w' => e = .returned (.int .i64 (roomF S l : Nat)) ∧ Below w.heap.size w w' := by
 obtain ⟨g, cc, mn, mx⟩ := S;obtain ⟨w1, hw1⟩ := nx (w.alloc (.cells #[.int .i64 g, .int .i64 cc, .int .i64 mn, .int .i64 mx] 32));have hB1 : Below w.heap.size w w1 := by rw [hw1]; exact (Below.refl w.heap.size w).alloc (Nat.le_refl _) _
 have hw1s : w1.heap.size = w.heap.size + 1 := by rw [hw1]; simp
 have hC := fits_row A c w1.heap.size l ⟨g, cc, mn, mx⟩ w1 (Fes.keep (h.imp hB fun _ _ _ _ h => h) hB1 (by omega)) (Nat.le_refl _) hn hw hf (hT.below hB1 hT.size);have hS := Hq (fun a cap W (hr : Row W a (fitsL ⟨g, cc, mn, mx⟩ l)) => sum_any a cap (fitsL ⟨g, cc, mn, mx⟩ l) W hr (fitsL_le _ _) (by rw [fitsL_len]; exact hn));rw [fitsL_len] at hS;have hr16 := roomF_le ⟨g, cc, mn, mx⟩ l;obtain ⟨r, hr⟩ := nx (roomF ⟨g, cc, mn, mx⟩ l);rw [← hr];unfold roomF at hr;rw [← hr] at hS;obtain ⟨n, hln⟩ : ∃ n, l.length = n := ⟨_, rfl⟩
 rw [hln] at hC hS ⊢;have HC := Hq hC;have HW := Hq hw1;have HB := Hq hB1;clear hC hB1 h hf hT hln hr hr16 hw1s hw hn;unfold shV at HC ⊢;clear hw1;go_enter Tryz.func113, Tryz.ntmps113;go_wp2_with fail;rw [← HW.out];refine HC.out.mono ?_;rintro e w2 ⟨a, cap, rfl, hrow, hb2⟩;go_wp2_with fail;refine (hS.out a cap w2 hrow).mono ?_;rintro e w' ⟨rfl, rfl⟩;go_wp2
 go_ret
 exact ⟨rfl, below_step HB.out hb2⟩
end
section
open Go.RowKit
open PK
def cmpI (x y : Int) : Int := if x < y then -1 else if y < x then 1 else 0
theorem nan_any (x : Int) (w : World) : Calls Tryz.prog 78 #[.int .i64 x] w fun e w' => e = .returned (.bool false) ∧ w = w' := by
 have t0 : (x != x) = false := by simp
 go_enter Tryz.func78, Tryz.ntmps78;go_wp2
 go_ret
 exact ⟨by simp, rfl⟩
theorem compare_any (x y : Int) (w : World) : Calls Tryz.prog 70 #[.int .i64 x, .int .i64 y] w fun e w' => e = .returned (.int .i64 (cmpI x y)) ∧ w = w' := by
 have h1 := Hq (fun W => nan_any x W);have h2 := Hq (fun W => nan_any y W);obtain ⟨r, hr⟩ := nx (cmpI x y);rw [← hr];have HR := Hq hr;clear hr;rcases Int.lt_trichotomy x y with h | h | h
 ·have t1 : decide (x < y) = true := decide_eq_true h;obtain rfl : r = -1 := by rw [HR.out]; unfold cmpI; rw [if_pos h]
  go_enter Tryz.func70, Tryz.ntmps70;go_wp2_with (go_at_call 78; first | (refine (h1.out _).mono ?_; rintro e w' ⟨rfl, rfl⟩) | (refine (h2.out _).mono ?_; rintro e w' ⟨rfl, rfl⟩))
  go_ret
  exact ⟨rfl, rfl⟩
 ·subst h;have t1 : decide (x < x) = false := decide_eq_false (by omega);obtain rfl : r = 0 := by rw [HR.out]; unfold cmpI; rw [if_neg (by omega), if_neg (by omega)]
  go_enter Tryz.func70, Tryz.ntmps70;go_wp2_with (go_at_call 78; first | (refine (h1.out _).mono ?_; rintro e w' ⟨rfl, rfl⟩) | (refine (h2.out _).mono ?_; rintro e w' ⟨rfl, rfl⟩))
  go_ret
  exact ⟨rfl, rfl⟩
 ·have t1 : decide (x < y) = false := decide_eq_false (by omega);have t2 : decide (y < x) = true := decide_eq_true h;obtain rfl : r = 1 := by rw [HR.out]; unfold cmpI; rw [if_neg (by omega), if_pos h]
  go_enter Tryz.func70, Tryz.ntmps70;go_wp2_with (go_at_call 78; first | (refine (h1.out _).mono ?_; rintro e w' ⟨rfl, rfl⟩) | (refine (h2.out _).mono ?_; rintro e w' ⟨rfl, rfl⟩))
  go_ret
  exact ⟨rfl, rfl⟩
def ftL (L : List Nat) (x : Nat) : Nat := L[x]?.getD 0
def cvL (L : List Nat) (x y : Nat) : Int := cmpI (ftL L y : Nat) (ftL L x : Nat)
def keyL (L : List Nat) (x : Nat) : Nat := (16 - ftL L x) * L.length + x
theorem keyL_rel (L : List Nat) (h16 : ∀ x ∈ L, x ≤ 16) (x y : Nat) (hxy : x < y) (hy : y < L.length) : ltC (cvL L) y x = decide (keyL L y < keyL L x) := by
 have f : ∀ z, ftL L z ≤ 16 := fun z => by
  unfold ftL
  cases h : L[z]? with
  | none => simp
  | some v => exact h16 v (List.mem_of_getElem? h)
 have fx := f x;have fy := f y;unfold ltC cvL cmpI keyL;generalize ftL L x = a at *;generalize ftL L y = b at *;generalize L.length = n at *;have : (if (a : Int) < (b : Int) then (-1 : Int) else if (b : Int) < (a : Int) then 1 else 0) < 0 ↔ a < b := by split <;> (try split) <;> omega
 rw [decide_eq_decide, this];constructor
 ·intro h;obtain ⟨d, hd⟩ : ∃ d, 16 - a = (16 - b) + 1 + d := ⟨b - a - 1, by omega⟩
  rw [hd, Nat.add_mul, Nat.add_mul, Nat.one_mul];generalize (16 - b) * n = q;generalize d * n = p;omega
 ·intro h;rcases Nat.lt_or_ge a b with h1 | h1
  ·exact h1
  ·exfalso;have : (16 - a) * n ≤ (16 - b) * n := Nat.mul_le_mul_right n (by omega);omega
set_option maxRecDepth 100000 in
theorem cmp_closure (g n bx : Nat) (fa : Option Addr) (fc : Nat) (L : List Nat) (w : World) (hn : L.length = n) (hbx : w.cell? ⟨bx, 0, none⟩ = some (.slice fa n fc)) (hb : bx ≠ g) (hr : Row w fa L) (hg : ∀ a, fa = some a → a.block ≠ g) :
  Cmp g n (.pointer (some ⟨bx, 0, none⟩)) (cvL L) w := by
 intro W hW x y hx hy;have h1 := Hq (fun W => compare_any (ftL L y : Nat) (ftL L x : Nat) W);have hbl := lt_of_cell hbx;have c0 : W.cell? ⟨bx, 0, none⟩ = some (.slice fa n fc) := (hW.cell (p := ⟨bx, 0, none⟩) hbl hb).trans hbx;obtain ⟨gf, rfl, hgf, hc⟩ : ∃ gf, fa = some ⟨gf, 0, none⟩ ∧ gf < w.heap.size ∧ ∀ j, j < L.length → w.cell? ⟨gf, j, none⟩ = some (.int .i64 ((L[j]?.getD 0 : Nat) : Int)) := by
  rcases hr with h | h
  ·rw [h] at hn; simp at hn; omega
  ·exact h
 have hne := hg _ rfl;have c1 : W.cell? ⟨gf, x, none⟩ = some (.int .i64 (ftL L x : Nat)) := (hW.cell (p := ⟨gf, x, none⟩) hgf hne).trans (hc x (by omega));have c2 : W.cell? ⟨gf, y, none⟩ = some (.int .i64 (ftL L y : Nat)) := (hW.cell (p := ⟨gf, y, none⟩) hgf hne).trans (hc y (by omega));have e : cvL L x y = cmpI (ftL L y : Nat) (ftL L x : Nat) := rfl;rw [e];have j1 : (x : Int) < (n : Int) := by omega
 have j2 : (y : Int) < (n : Int) := by omega
 clear e hc hr hbx hW hn;generalize ftL L x = p at *;generalize ftL L y = q at *;go_enter Tryz.func69, Tryz.ntmps69;go_wp2_with fail;go_quiet (first | (go_at_call 70; exact Calls.quiet_of_same ((h1.out _).mono fun e w' h => ⟨h.1, h.2.symm⟩)));go_wp2
 go_ret
 exact ⟨rfl, nq, rfl⟩
def firstN (n k : Nat) : List Nat := List.range k ++ List.replicate (n - k) 0
theorem firstN_set {n k : Nat} (h : k < n) : (firstN n k).set k k = firstN n (k + 1) := by
 unfold firstN;obtain ⟨r, hr⟩ : ∃ r, n - k = r + 1 := ⟨n - k - 1, by omega⟩
 rw [hr, List.replicate_succ, List.set_append_right _ _ (by simp), List.length_range, Nat.sub_self, List.set_cons_zero, List.range_succ, show n - (k + 1) = r by omega]
 simp
theorem firstN_all (n : Nat) : firstN n n = List.range n := by unfold firstN; simp
set_option maxRecDepth 100000 in
set_option maxHeartbeats 1000000 in
theorem roomiest_any (A : Option Addr) (c : Nat) (L : List Nat) (w : World) (h : Row w A L) (h16 : ∀ x ∈ L, x ≤ 16) (h0 : 0 < L.length) (hn : L.length ≤ 500000) :
  Calls Tryz.prog 61 #[.slice A L.length c] w fun e w' => ∃ g, e = .returned (.slice (some ⟨g, 0, none⟩) L.length L.length) ∧ w.heap.size ≤ g ∧ Below w.heap.size w w' ∧ Hid (∃ Z, Blk w' g Z ∧ Z.Perm (List.range L.length) ∧ Asc (keyL L) Z) := by
 obtain ⟨n, hln⟩ : ∃ n, L.length = n := ⟨_, rfl⟩
 rw [hln] at h0 hn ⊢;obtain ⟨w1, hw1⟩ := nx (w.alloc (.cells #[.slice A n c] 103));have hB1 : Below w.heap.size w w1 := by rw [hw1]; exact (Below.refl w.heap.size w).alloc (Nat.le_refl _) _
 have hw1s : w1.heap.size = w.heap.size + 1 := by rw [hw1]; simp
 have bX : w1.heap[w.heap.size]? = some (.cells #[.slice A n c] 103 (0, 0)) := by rw [hw1]; exact heap_alloc_new w _
 obtain ⟨i0, hi, hz0, hz1, hz2⟩ := info_parts info_intP;have hmk : ∀ W : World, (Instr.makeSlice 103 (.int .i64 (n : Nat)) (.int .i64 (n : Nat))).run Tryz.prog W = .ok (.slice (some ⟨W.heap.size, 0, none⟩) n n) (W.alloc (.cells (nums (firstN n 0)) 3)) := fun W => by
  have := run_make (P := Tryz.prog) W 103 3 i0 _ Tryz.underlying103 hi hz0 .i64 .i64 (n : Nat) (n : Nat) (by omega) (by omega) (by rw [hz2]; omega) (by omega);rw [hz1] at this;have e : madeCells (Value.int .i64 0).cells (n * 1) = nums (firstN n 0) := by
   rw [Nat.mul_one];have := toList_madeCells_one (Value.int .i64 0) n;apply Array.toList_inj.1;refine this.trans ?_;unfold nums firstN
   simp
  rw [← e];simpa using this
 obtain ⟨w2, hw2⟩ := nx (w1.alloc (.cells (nums (firstN n 0)) 3));have hB2 : Below w.heap.size w w2 := by rw [hw2]; exact hB1.alloc (by omega) _
 have bX2 : w2.heap[w.heap.size]? = some (.cells #[.slice A n c] 103 (0, 0)) := by rw [hw2]; exact (Below.heap_alloc _ _ _ (by omega)).trans bX
 have bG2 : Blk w2 (w.heap.size + 1) (firstN n 0) := by rw [hw2, ← hw1s]; exact heap_alloc_new w1 _
 have c0 : w1.cell? ⟨w.heap.size, 0, none⟩ = some (.slice A n c) := cell_blk (i := 0) bX rfl;have HW := Hq (Ai hw1 hw2);have hlr := fun a (ha : A = some a) => (show a.block < w.heap.size from by
  rcases h with e | ⟨g, e, hg, _⟩
  ·rw [e] at hln; simp at hln; omega
  ·rw [ha] at e; cases e; exact hg)
 have H := Hq (Ai h (Ai hln (Ai h16 hlr)));have HB2 := Hq hB2;have HX2 := Hq bX2;have HG2 := Hq bG2;have hs2 : w.heap.size + 1 < w2.heap.size := bG2.lt;clear hw1 hw2 h hln h16 hlr hB1 hw1s bX hB2 bX2 bG2 c0 hi hz0 hz1 hz2;go_enter Tryz.func61, Tryz.ntmps61;go_wp2;rw [← HW.out.1, ← HW.out.2];go_loopw [10] (fun i wr => ∃ k : Nat, i = .int .i64 k ∧ k ≤ n ∧ Hid (Below w.heap.size w wr) ∧ Hid (wr.heap[w.heap.size]? = some (.cells #[.slice A n c] 103 (0, 0))) ∧ Hid (Blk wr (w.heap.size + 1) (firstN n k)) ∧ w.heap.size + 1 < wr.heap.size) (fun i _ => n - (intOf i).toNat)
 case atStart => exact ⟨0, rfl, by omega, HB2, HX2, HG2, hs2⟩
 case round =>
  clear HB2 HX2 HG2 hs2;obtain ⟨k, rfl, hk, hBl, hX, hG, hsw⟩ := hrel;by_cases hlt : k < n
  ·have hfl : (firstN n k).length = n := by unfold firstN; simp; omega
   obtain ⟨x, hx⟩ := get_of_lt (L := firstN n k) (k := k) (by omega);have c1 := hG.out.cell hx;have z1 : wr.frozen? ⟨w.heap.size + 1, k, none⟩ = false := hG.out.frozen;have N1 : Hid (Blk (wr.setCell ⟨w.heap.size + 1, k, none⟩ (.int .i64 (k : Int))) (w.heap.size + 1) (firstN n (k + 1))) := Hq (by rw [← firstN_set hlt]; exact hG.out.put k);have N2 : Hid (Below w.heap.size w (wr.setCell ⟨w.heap.size + 1, k, none⟩ (.int .i64 (k : Int)))) := Hq (hBl.out.setCell (p := ⟨w.heap.size + 1, k, none⟩) (by simp) _);have N3 : Hid ((wr.setCell ⟨w.heap.size + 1, k, none⟩ (.int .i64 (k : Int))).heap[w.heap.size]? = some (.cells #[.slice A n c] 103 (0, 0))) := Hq ((Below.heap_setCell _ _ _ _ (by simp)).trans hX.out);have t1 : decide (k < n) = true := decide_eq_true hlt;clear hx hfl hG hBl hX;go_wp2
   go_roundw
   case rel => exact ⟨k + 1, by go_num, by omega, N2, N3, N1, by simpa using hsw⟩
   case measure => simp [intOf]; omega
  ·obtain rfl : k = n := by omega
   have t1 : decide (k < k) = false := decide_eq_false (by omega);have hS : Hid (Calls Tryz.prog 68 #[.slice (some ⟨w.heap.size + 1, 0, none⟩) k k, .func (.func 69) #[] #[.pointer (some ⟨w.heap.size, 0, none⟩)]] wr fun e w' =>
     e = .returned (.tuple #[]) ∧ Foot (· = w.heap.size + 1) wr w' ∧ Hid (∃ Z, Blk w' (w.heap.size + 1) Z ∧ Z.Perm (List.range k) ∧ Asc (keyL L) Z)) := Hq (by
    obtain ⟨h, hln, h16, hlr⟩ := H.out;refine sortstable_any (keyL L) (w.heap.size + 1) k (.pointer (some ⟨w.heap.size, 0, none⟩)) (cvL L) wr (cmp_closure (w.heap.size + 1) k w.heap.size A c L wr hln (cell_blk (i := 0) hX.out rfl) (by omega) (h.below hBl.out) (fun a ha => by have := hlr a ha; omega)) (fun x y hxy hy => keyL_rel L h16 x y hxy (by omega)) hn (by have := hG.out; rw [firstN_all] at this; exact this))
   clear hlt hX hG;go_wp2_with fail;refine hS.out.mono ?_;rintro e w5 ⟨rfl, hf5, hZ⟩;clear hS;go_wp2
   go_ret
   exact ⟨_, rfl, by omega, hBl.out.trans (hf5.below (Nat.le_of_lt (by omega)) (fun i e => by omega)), hZ⟩
end
section
open Go.RowKit
theorem info_slotP : (Tryz.prog.info? 64).map (fun i => (i.zero, i.size, i.bytes)) = some (some (.agg #[.int .i64 0, .int .i64 0, .int .u64 0, .int .i64 0]), 4, 32) := by kernel_rfl
def slotF (S : Shp) (f : Fe) : Fe := ⟨f.n, f.d, MM.low f.m S.g.toNat, S.c⟩
def restF (S : Shp) (f : Fe) : Fe := ⟨f.n, f.d, MM.sub f.m (MM.low f.m S.g.toNat), f.c - S.c⟩
def pieces (S : Shp) : Fe → Nat → List Fe
 | _, 0 => []
 | f, p + 1 => slotF S f :: pieces S (restF S f) p
def rests (S : Shp) : Fe → Nat → Fe
 | f, 0 => f
 | f, p + 1 => rests S (restF S f) p
theorem pieces_next (S : Shp) : ∀ (k : Nat) (f : Fe), pieces S f (k + 1) = pieces S f k ++ [slotF S (rests S f k)]
 | 0, _ => rfl
 | k + 1, f => by
  rw [pieces, pieces_next S k (restF S f)];rfl
theorem rests_next (S : Shp) : ∀ (k : Nat) (f : Fe), rests S f (k + 1) = restF S (rests S f k)
 | 0, _ => rfl
 | k + 1, f => by rw [rests, rests_next S k (restF S f)]; rfl
theorem pieces_len (S : Shp) : ∀ (k : Nat) (f : Fe), (pieces S f k).length = k
 | 0, _ => rfl
 | k + 1, f => by rw [pieces, List.length_cons, pieces_len]
theorem rests_spot (S : Shp) : ∀ (k : Nat) (f : Fe), (rests S f k).n = f.n ∧ (rests S f k).d = f.d
 | 0, _ => ⟨rfl, rfl⟩
 | k + 1, f => rests_spot S k (restF S f)
theorem tms_step (n a : Nat) : tms n a ≤ tms n (a - n) + 1 := by
 unfold tms;by_cases h : n = 0
 ·rw [if_pos h, if_pos h]; omega
 ·rw [if_neg h, if_neg h];rcases Nat.lt_or_ge a n with h1 | h1
  ·rw [Nat.div_eq_of_lt h1]; exact Nat.zero_le _
  ·have := Nat.div_eq_sub_div (show 0 < n by omega) h1;omega
theorem fit_pos' {S : Shp} {f : Fe} (h : 0 < fitF S f) : S.ok = true ∧ ∃ (g c k : Nat), S.g = g ∧ S.c = c ∧ f.c = k ∧ fitF S f = fitN g c (MM.cnt f.m) k ∧ g ≤ MM.cnt f.m ∧ c ≤ k := by
 obtain ⟨g, c, mn, mx⟩ := S
 cases hok : Shp.ok ⟨g, c, mn, mx⟩
 ·unfold fitF at h; rw [hok] at h; simp at h
 ·obtain ⟨g', c', rfl, rfl, _⟩ := Shp.nat hok;have h2 : fitF ⟨(g' : Int), (c' : Int), mn, mx⟩ f = fitZ g' c' (MM.cnt f.m) f.c := by unfold fitF; rw [if_pos hok]; rfl
  rw [h2] at h;by_cases h0 : f.c < 0
  ·unfold fitZ at h; rw [if_pos h0] at h; omega
  ·have h3 : fitZ g' c' (MM.cnt f.m) f.c = fitN g' c' (MM.cnt f.m) f.c.toNat := by unfold fitZ; rw [if_neg h0]
   rw [h3] at h;obtain ⟨a, b⟩ := fit_pos h;exact ⟨rfl, g', c', f.c.toNat, rfl, rfl, by omega, by rw [h2, h3], a, b⟩
theorem restF_fit {S : Shp} {f : Fe} (h : 0 < fitF S f) : fitF S f ≤ fitF S (restF S f) + 1 := by
 obtain ⟨hok, g, c, k, hg, hc, hk, e, h1, h2⟩ := fit_pos' h;have e2 : fitF S (restF S f) = fitN g c (MM.cnt f.m - g) (k - c) := by
  unfold fitF restF;rw [if_pos hok];simp only [hg, hc, hk];rw [show ((g : Int)).toNat = g from rfl, show ((c : Int)).toNat = c from rfl, MM.cnt_rest];unfold fitZ;rw [if_neg (by omega)]
  congr 1
  omega
 rw [e, e2];unfold fitN;have a1 := tms_step g (MM.cnt f.m);have a2 := tms_step c k;omega
theorem slotF_ok {S : Shp} {f : Fe} (hw : S.Wf) (hf : FeOk f) : FeOk (slotF S f) := ⟨hf.n, hf.d, MM.low_lt _ _, hw.c⟩
theorem restF_ok {S : Shp} {f : Fe} (hf : FeOk f) (h : 0 < fitF S f) : FeOk (restF S f) := by
 obtain ⟨hok, g, c, k, hg, hc, hk, e, h1, h2⟩ := fit_pos' h;have := bounds_i64 hf.c;refine ⟨hf.n, hf.d, MM.sub_lt _ hf.m, ?_⟩;unfold restF;refine WalkArith.wf_i64 ?_;simp only [hc, hk] at *;omega
theorem piece_call (S : Shp) (f : Fe) (w : World) (hw : S.Wf) (hf : FeOk f) (hT : Tab w) (h : 0 < fitF S f) :
  Calls Tryz.prog 71 #[shV S, feV f] w fun e w' => e = .returned (.tuple #[feV (slotF S f), feV (restF S f), .int .i64 0]) ∧ Below w.heap.size w w' := by
 have b := bounds_i64 hf.c;obtain ⟨hok, g, c, k, hg, hc, hk, e, h1, h2⟩ := fit_pos' h;rw [hk] at b;obtain ⟨g0, c0, mn, mx⟩ := S;obtain ⟨fn, fd, fm, fc⟩ := f;simp only at hg hc hk;subst hg hc hk;rw [e] at h;have := piece_ok g c mn mx fn fd fm k w hw hok hf.m (by have h9 := b.2; omega) hT h;have e1 : ((k : Int) - (c : Int)) = ((k - c : Nat) : Int) := by omega
 unfold shV feV slotF restF;simp only [e1];exact this
set_option maxRecDepth 100000 in
set_option maxHeartbeats 4000000 in
theorem cut_any (A : Option Addr) (cap base : Nat) (L : List Fe) (f : Fe) (S : Shp) (p : Nat) (w : World) (ho : w.ownsRow base 64 4 (.slice A L.length cap) L.length (L.flatMap feC)) (hbase : base ≤ w.heap.size) (hw : S.Wf) (hf : FeOk f) (hp : p ≤ fitF S f) (hL : L.length ≤ 100000) (hT : Tab w) (hTb : 0 < base) :
  Calls Tryz.prog 62 #[.slice A L.length cap, feV f, shV S, .int .i64 (p : Nat)] w fun e w' => ∃ A' cap', e = .returned (.slice A' (L.length + p) cap') ∧
   w'.ownsRow base 64 4 (.slice A' (L.length + p) cap') (L.length + p) ((L ++ pieces S f p).flatMap feC) ∧ Foot (fun i => (Value.slice A L.length cap).ownBlock = some i) w w' ∧ (∀ i, (Value.slice A' (L.length + p) cap').ownBlock = some i → (Value.slice A L.length cap).ownBlock = some i ∨ w.heap.size ≤ i) := by
 have hp16 : p ≤ 16 := Nat.le_trans hp (fitF_le S f);obtain ⟨n, hn⟩ : ∃ n, L.length = n := ⟨_, rfl⟩
 rw [hn] at ho hL ⊢;obtain ⟨V, hV⟩ := nx (Value.slice A n cap);obtain ⟨g, c, mn, mx⟩ := S;obtain ⟨w1, hw1⟩ := nx ((w.alloc (.cells #[.int .i64 f.n, .int .i64 f.d, .int .u64 (f.m : Nat), .int .i64 f.c] 63)).alloc (.cells #[.int .i64 g, .int .i64 c, .int .i64 mn, .int .i64 mx] 32));have hw1s : w1.heap.size = w.heap.size + 1 + 1 := by rw [hw1]; simp
 have hB1 : Below w.heap.size w w1 := by rw [hw1]; exact ((Below.refl w.heap.size w).alloc (Nat.le_refl _) _).alloc (by simp) _
 have bF : w1.heap[w.heap.size]? = some (.cells #[.int .i64 f.n, .int .i64 f.d, .int .u64 (f.m : Nat), .int .i64 f.c] 63 (0, 0)) := by rw [hw1]; exact (Below.heap_alloc _ _ _ (by simp)).trans (heap_alloc_new w _)
 have bS : w1.heap[w.heap.size + 1]? = some (.cells #[.int .i64 g, .int .i64 c, .int .i64 mn, .int .i64 mx] 32 (0, 0)) := by
  have h9 := heap_alloc_new (w.alloc (.cells #[.int .i64 f.n, .int .i64 f.d, .int .u64 (f.m : Nat), .int .i64 f.c] 63)) (.cells #[.int .i64 g, .int .i64 c, .int .i64 mn, .int .i64 mx] 32);rw [World.size_alloc] at h9;rw [hw1]; exact h9
 have ho1 : w1.ownsRow base 64 4 (.slice A n cap) n (L.flatMap feC) := own_below ho hB1
 -- the state of a round
 obtain ⟨St, hSt⟩ : ∃ St : Nat → World → Value → Prop, St = fun (k : Nat) (wr : World) (v : Value) => ∃ A' cap', v = .slice A' (n + k) cap' ∧ wr.ownsRow base 64 4 v (n + k) ((L ++ pieces ⟨g, c, mn, mx⟩ f k).flatMap feC) ∧ Foot (fun i => V.ownBlock = some i) w wr ∧ (∀ i, v.ownBlock = some i → V.ownBlock = some i ∨ w.heap.size + 1 < i) ∧
  wr.heap[w.heap.size]? = some (.cells #[.int .i64 (rests ⟨g, c, mn, mx⟩ f k).n, .int .i64 (rests ⟨g, c, mn, mx⟩ f k).d, .int .u64 ((rests ⟨g, c, mn, mx⟩ f k).m : Nat), .int .i64 (rests ⟨g, c, mn, mx⟩ f k).c] 63 (0, 0)) ∧ wr.heap[w.heap.size + 1]? = some (.cells #[.int .i64 g, .int .i64 c, .int .i64 mn, .int .i64 mx] 32 (0, 0)) ∧
  FeOk (rests ⟨g, c, mn, mx⟩ f k) ∧ p ≤ fitF ⟨g, c, mn, mx⟩ (rests ⟨g, c, mn, mx⟩ f k) + k ∧ w.heap.size + 1 < wr.heap.size := ⟨_, rfl⟩
 have HS0 : Hid (St 0 w1 (.slice A n cap)) := Hq (by
  rw [hSt];refine ⟨A, cap, rfl, by simpa [pieces] using ho1, (Foot.refl _ w).trans (Foot.of_below (F := fun _ => False) hB1) (fun _ h => h.elim), fun i h => .inl (by rw [hV]; exact h), bF, bS, hf, by simpa [rests] using hp, by omega⟩)
 have hVlt := fun i (h : V.ownBlock = some i) => (show i < w.heap.size ∧ base ≤ i from by rw [hV] at h; exact ⟨(ho.lt i h).2, (ho.lt i h).1⟩)
 have H := Hq (Ai hSt (Ai hVlt (Ai hT (Ai hTb hw))));have HV := Hq hV;have HW := Hq hw1;rw [← hV];clear hSt hVlt hT hTb hw hV hw1 hw1s hB1 bF bS ho1 ho hf hp;unfold feV shV;obtain ⟨i0, hi, hz0, hz1, hz2⟩ := info_parts info_slotP;go_enter Tryz.func62, Tryz.ntmps62;go_wp2_with fail;rw [← HW.out];rw [HV.out];go_loopw [0, 13] (fun v i wr => ∃ k : Nat, i = .int .i64 k ∧ k ≤ p ∧ Hid (St k wr v)) (fun _ i _ => p - (intOf i).toNat)
 case atStart => exact ⟨0, rfl, by omega, HS0⟩
 case round =>
  clear HS0;obtain ⟨k, rfl, hk, hS⟩ := hrel;have hSk := hS.out;rw [H.out.1] at hSk;obtain ⟨A', cap', rfl, hown, hft, hfar, bF, bS, hok, hpk, hsw⟩ := hSk;clear hS;by_cases hlt : k < p
  ·obtain ⟨q, hq⟩ := nx (rests ⟨g, c, mn, mx⟩ f k);rw [← hq] at bF hok hpk;have hTr : Tab wr := H.out.2.2.1.below (hft.below hbase fun i hi => (H.out.2.1 i hi).2) H.out.2.2.2.1;have hpos : 0 < fitF ⟨g, c, mn, mx⟩ q := (by omega);have hC := Hq (piece_call ⟨g, c, mn, mx⟩ q wr H.out.2.2.2.2 hok hTr hpos);have hrf := restF_fit hpos;have hrok := restF_ok hok hpos;obtain ⟨sl, hsl⟩ := nx (slotF ⟨g, c, mn, mx⟩ q);obtain ⟨re, hre⟩ := nx (restF ⟨g, c, mn, mx⟩ q);rw [← hsl, ← hre] at hC;rw [← hre] at hrf hrok;have HN := Hq (Ai (show pieces ⟨g, c, mn, mx⟩ f (k + 1) = pieces ⟨g, c, mn, mx⟩ f k ++ [sl] by rw [hsl, hq]; exact pieces_next _ _ _) (Ai (show rests ⟨g, c, mn, mx⟩ f (k + 1) = re by rw [hre, hq]; exact rests_next _ _ _) (Ai hrok (Ai hrf (Ai hpk (Ai hown (Ai hft (Ai hfar (Ai bF bS)))))))));unfold shV feV at hC;have x0 : wr.cell? ⟨w.heap.size, 0, none⟩ = some (.int .i64 q.n) := cell_blk (i := 0) bF rfl;have x1 : wr.cell? ⟨w.heap.size, 1, none⟩ = some (.int .i64 q.d) := cell_blk (i := 1) bF rfl;have x2 : wr.cell? ⟨w.heap.size, 2, none⟩ = some (.int .u64 (q.m : Nat)) := cell_blk (i := 2) bF rfl;have x3 : wr.cell? ⟨w.heap.size, 3, none⟩ = some (.int .i64 q.c) := cell_blk (i := 3) bF rfl;have s0 : wr.cell? ⟨w.heap.size + 1, 0, none⟩ = some (.int .i64 g) := cell_blk (i := 0) bS rfl;have s1 : wr.cell? ⟨w.heap.size + 1, 1, none⟩ = some (.int .i64 c) := cell_blk (i := 1) bS rfl;have s2 : wr.cell? ⟨w.heap.size + 1, 2, none⟩ = some (.int .i64 mn) := cell_blk (i := 2) bS rfl;have s3 : wr.cell? ⟨w.heap.size + 1, 3, none⟩ = some (.int .i64 mx) := cell_blk (i := 3) bS rfl;have t1 : decide (k < p) = true := decide_eq_true hlt;clear hq hok hpk hTr hpos hrf hrok hsl hre hown hft hfar bF bS;go_wp2_with fail;refine hC.out.mono ?_;rintro e w2 ⟨rfl, hb2⟩;have hs2 := hb2.size;clear x0 x1 x2 x3 s0 s1 s2 s3 hC;go_wp2_with fail;generalize hW9 : (w2.alloc (.cells #[.int .i64 sl.n, .int .i64 sl.d, .int .u64 (sl.m : Nat), .int .i64 sl.c] 64)).alloc (.cells #[.int .i64 re.n, .int .i64 re.d, .int .u64 (re.m : Nat), .int .i64 re.c] 63) = W9;have bA : W9.heap[w2.heap.size]? = some (.cells #[.int .i64 sl.n, .int .i64 sl.d, .int .u64 (sl.m : Nat), .int .i64 sl.c] 64 (0, 0)) := by rw [← hW9]; exact (Below.heap_alloc _ _ _ (by simp)).trans (heap_alloc_new w2 _)
   have bD : W9.heap[w2.heap.size + 1]? = some (.cells #[.int .i64 re.n, .int .i64 re.d, .int .u64 (re.m : Nat), .int .i64 re.c] 63 (0, 0)) := by
    have h9 := heap_alloc_new (w2.alloc (.cells #[.int .i64 sl.n, .int .i64 sl.d, .int .u64 (sl.m : Nat), .int .i64 sl.c] 64)) (.cells #[.int .i64 re.n, .int .i64 re.d, .int .u64 (re.m : Nat), .int .i64 re.c] 63);rw [World.size_alloc] at h9; rw [← hW9]; exact h9
   have hb9 : Below wr.heap.size wr W9 := by rw [← hW9]; exact (hb2.alloc hs2 _).alloc (by simp; omega) _
   have hz9 : W9.heap.size = w2.heap.size + 1 + 1 := by rw [← hW9]; simp
   obtain ⟨N2, hN2⟩ := nx (w2.heap.size);rw [← hN2] at bA bD hz9 ⊢;have l2 : wr.heap.size ≤ N2 := (by omega);have hown9 : W9.ownsRow base 64 4 (.slice A' (n + k) cap') (n + k) ((L ++ pieces ⟨g, c, mn, mx⟩ f k).flatMap feC) := own_below HN.out.2.2.2.2.2.1 hb9;have hbs9 : base ≤ W9.heap.size := (by omega);have ownA : (Value.slice A' (n + k) cap').ownBlock ≠ some N2 := fun e => by have := (HN.out.2.2.2.2.2.1.lt _ e).2; omega
   have ownD : (Value.slice A' (n + k) cap').ownBlock ≠ some (N2 + 1) := fun e => by have := (HN.out.2.2.2.2.2.1.lt _ e).2; omega
   have bF9 := Hq ((hb9.block w.heap.size (by omega)).trans HN.out.2.2.2.2.2.2.2.2.1);have bS9 := Hq ((hb9.block (w.heap.size + 1) hsw).trans HN.out.2.2.2.2.2.2.2.2.2);have hb9' := Hq hb9;clear hW9 hN2 hb2 hs2 hb9;refine held_begin (fun w' : World => w'.cell? ⟨N2, 0, none⟩ = some (.int .i64 sl.n) ∧ w'.cell? ⟨N2, 1, none⟩ = some (.int .i64 sl.d) ∧ w'.cell? ⟨N2, 2, none⟩ = some (.int .u64 (sl.m : Nat)) ∧ w'.cell? ⟨N2, 3, none⟩ = some (.int .i64 sl.c) ∧ w'.cell? ⟨N2 + 1, 0, none⟩ = some (.int .i64 re.n) ∧ w'.cell? ⟨N2 + 1, 1, none⟩ = some (.int .i64 re.d) ∧ w'.cell? ⟨N2 + 1, 2, none⟩ = some (.int .u64 (re.m : Nat)) ∧ w'.cell? ⟨N2 + 1, 3, none⟩ = some (.int .i64 re.c)) (by kernel_rfl) ?_;have hS0 := Ai (cell_blk (i := 0) (w := W9) bA rfl) (Ai (cell_blk (i := 1) (w := W9) bA rfl) (Ai (cell_blk (i := 2) (w := W9) bA rfl) (Ai (cell_blk (i := 3) (w := W9) bA rfl) (Ai (cell_blk (i := 0) (w := W9) bD rfl) (Ai (cell_blk (i := 1) (w := W9) bD rfl) (Ai (cell_blk (i := 2) (w := W9) bD rfl) (cell_blk (i := 3) (w := W9) bD rfl)))))));refine tkA 0 22 hS0 ?_;refine tkA 1 23 hS0 ?_;refine tkA 4 26 hS0 ?_;refine held_one 2 rfl (by kernel_rfl) (by rfl) (fun K hK => ?_);go_simp;obtain ⟨W5, hW5⟩ := nx ((W9.alloc (.cells #[.int .i64 sl.n, .int .i64 sl.d, .int .u64 (sl.m : Nat), .int .i64 sl.c] 64)).drew);have hB5 : Below W9.heap.size W9 W5 := by rw [hW5]; exact ((Below.refl _ _).alloc (Nat.le_refl _) _).drew
   have bN5 : W5.heap[W9.heap.size]? = some (.cells #[.int .i64 sl.n, .int .i64 sl.d, .int .u64 (sl.m : Nat), .int .i64 sl.c] 64 (0, 0)) := by rw [hW5]; exact heap_alloc_new W9 _
   have hz5 : W5.heap.size = W9.heap.size + 1 := by rw [hW5]; exact World.size_alloc _ _
   have hS5 := Ai ((hB5.cell (p := ⟨N2, 0, none⟩) (show N2 < W9.heap.size by omega)).trans (cell_blk (i := 0) bA rfl)) (Ai ((hB5.cell (p := ⟨N2, 1, none⟩) (show N2 < W9.heap.size by omega)).trans (cell_blk (i := 1) bA rfl)) (Ai ((hB5.cell (p := ⟨N2, 2, none⟩) (show N2 < W9.heap.size by omega)).trans (cell_blk (i := 2) bA rfl)) (Ai ((hB5.cell (p := ⟨N2, 3, none⟩) (show N2 < W9.heap.size by omega)).trans (cell_blk (i := 3) bA rfl)) (Ai ((hB5.cell (p := ⟨N2 + 1, 0, none⟩) (show N2 + 1 < W9.heap.size by omega)).trans (cell_blk (i := 0) bD rfl)) (Ai ((hB5.cell (p := ⟨N2 + 1, 1, none⟩) (show N2 + 1 < W9.heap.size by omega)).trans (cell_blk (i := 1) bD rfl)) (Ai ((hB5.cell (p := ⟨N2 + 1, 2, none⟩) (show N2 + 1 < W9.heap.size by omega)).trans (cell_blk (i := 2) bD rfl)) ((hB5.cell (p := ⟨N2 + 1, 3, none⟩) (show N2 + 1 < W9.heap.size by omega)).trans (cell_blk (i := 3) bD rfl))))))));refine hK.out _ _ (show _ from by rw [← hW5]; exact hS5) ?_;clear hK K;try simp only [Act.put, pzA, pzB, pzC]
   rw [← hW5];have hown5 := own_below hown9 hB5;rw [hz9] at bN5;clear hW5;refine held_one 3 rfl (by kernel_rfl) (by rfl) (fun K hK => ?_);refine wp_append_lies _ _ _ 37 rfl base 64 i0 _ 4 32 Tryz.underlying37 hi hz0 hz1 hz2 rfl (by omega) (.slice A' (n + k) cap') (n + k) ((L ++ pieces ⟨g, c, mn, mx⟩ f k).flatMap feC) rfl hown5 ⟨N2 + 1 + 1, 0, none⟩ 1 1 [.int .i64 sl.n, .int .i64 sl.d, .int .u64 (sl.m : Nat), .int .i64 sl.c] rfl rfl (World.news_of_block bN5) (by simp [Value.oneCell']) (by omega) (by unfold maxLen; omega) (by omega) (by omega) W5.heap.size rfl ?_;intro gg cap6 w6 hown6 hgr hat hlt6;have hgf : gg = W5.heap.size ∨ (Value.slice A' (n + k) cap').ownBlock = some gg := by rcases hat with h | h; exact .inr h; exact .inl h
   have far6 : ∀ (j : Nat), j < W5.heap.size → (Value.slice A' (n + k) cap').ownBlock ≠ some j → w6.heap[j]? = W5.heap[j]? := fun j hj hne => hgr.block j hj (fun e => hne e.symm)
   have hS6 : (fun w' : World => w'.cell? ⟨N2, 0, none⟩ = some (.int .i64 sl.n) ∧ w'.cell? ⟨N2, 1, none⟩ = some (.int .i64 sl.d) ∧ w'.cell? ⟨N2, 2, none⟩ = some (.int .u64 (sl.m : Nat)) ∧ w'.cell? ⟨N2, 3, none⟩ = some (.int .i64 sl.c) ∧ w'.cell? ⟨N2 + 1, 0, none⟩ = some (.int .i64 re.n) ∧ w'.cell? ⟨N2 + 1, 1, none⟩ = some (.int .i64 re.d) ∧ w'.cell? ⟨N2 + 1, 2, none⟩ = some (.int .u64 (re.m : Nat)) ∧ w'.cell? ⟨N2 + 1, 3, none⟩ = some (.int .i64 re.c)) w6 := by
    have e1 := (far6 N2 (by omega) ownA).trans ((hB5.block _ (by omega)).trans bA);have e2 := (far6 (N2 + 1) (by omega) ownD).trans ((hB5.block _ (by omega)).trans bD);exact ⟨cell_blk (i := 0) e1 rfl, cell_blk (i := 1) e1 rfl, cell_blk (i := 2) e1 rfl, cell_blk (i := 3) e1 rfl, cell_blk (i := 0) e2 rfl, cell_blk (i := 1) e2 rfl, cell_blk (i := 2) e2 rfl, cell_blk (i := 3) e2 rfl⟩
   refine hK.out _ _ hS6 ?_;clear hK K;try simp only [Act.put, List.setIfInBounds_toArray]
   refine tkH ?_ 5 0 ?_ hS6 ?_;rotate_left
   ·rintro w' ⟨y0, y1, y2, y3, y4, y5, y6, y7⟩;go_simp;(try with_reducible rfl)
   simp only [Act.put];have nF : (Value.slice A' (n + k) cap').ownBlock ≠ some w.heap.size := fun e => by
    rcases HN.out.2.2.2.2.2.2.2.1 _ e with h | h
    ·have := (H.out.2.1 _ h).1; omega
    ·omega
   have nS : (Value.slice A' (n + k) cap').ownBlock ≠ some (w.heap.size + 1) := fun e => by
    rcases HN.out.2.2.2.2.2.2.2.1 _ e with h | h
    ·have := (H.out.2.1 _ h).1; omega
    ·omega
   have bF6 := (far6 w.heap.size (by omega) nF).trans ((hB5.block _ (by omega)).trans bF9.out);have bS6 := (far6 (w.heap.size + 1) (by omega) nS).trans ((hB5.block _ (by omega)).trans bS9.out);have u0 := cell_blk (i := 0) bF6 rfl;have u1 := cell_blk (i := 1) bF6 rfl;have u2 := cell_blk (i := 2) bF6 rfl;have u3 := cell_blk (i := 3) bF6 rfl;have z0 := frozen_blk (i := 0) bF6;have z1 := frozen_blk (i := 1) bF6;have z2 := frozen_blk (i := 2) bF6;have z3 := frozen_blk (i := 3) bF6;obtain ⟨W7, hW7⟩ := nx ((((w6.setCell ⟨w.heap.size, 0, none⟩ (.int .i64 re.n)).setCell ⟨w.heap.size, 1, none⟩ (.int .i64 re.d)).setCell ⟨w.heap.size, 2, none⟩ (.int .u64 (re.m : Nat))).setCell ⟨w.heap.size, 3, none⟩ (.int .i64 re.c));have far7 : ∀ (j : Nat), j ≠ w.heap.size → W7.heap[j]? = w6.heap[j]? := fun j hj => by
    rw [hW7]; exact (Below.heap_setCell _ _ _ _ (by simpa using hj)).trans ((Below.heap_setCell _ _ _ _ (by simpa using hj)).trans ((Below.heap_setCell _ _ _ _ (by simpa using hj)).trans (Below.heap_setCell _ _ _ _ (by simpa using hj))))
   have bF7 : W7.heap[w.heap.size]? = some (.cells #[.int .i64 re.n, .int .i64 re.d, .int .u64 (re.m : Nat), .int .i64 re.c] 63 (0, 0)) := by
    have := blk_put (i := 3) (.int .i64 re.c) (blk_put (i := 2) (.int .u64 (re.m : Nat)) (blk_put (i := 1) (.int .i64 re.d) (blk_put (i := 0) (.int .i64 re.n) bF6)));rw [← hW7] at this;simpa using this
   have hS7 : (fun w' : World => w'.cell? ⟨N2, 0, none⟩ = some (.int .i64 sl.n) ∧ w'.cell? ⟨N2, 1, none⟩ = some (.int .i64 sl.d) ∧ w'.cell? ⟨N2, 2, none⟩ = some (.int .u64 (sl.m : Nat)) ∧ w'.cell? ⟨N2, 3, none⟩ = some (.int .i64 sl.c) ∧ w'.cell? ⟨N2 + 1, 0, none⟩ = some (.int .i64 re.n) ∧ w'.cell? ⟨N2 + 1, 1, none⟩ = some (.int .i64 re.d) ∧ w'.cell? ⟨N2 + 1, 2, none⟩ = some (.int .u64 (re.m : Nat)) ∧ w'.cell? ⟨N2 + 1, 3, none⟩ = some (.int .i64 re.c)) W7 := by
    have e1 := (far7 N2 (by omega)).trans ((far6 N2 (by omega) ownA).trans ((hB5.block _ (by omega)).trans bA));have e2 := (far7 (N2 + 1) (by omega)).trans ((far6 (N2 + 1) (by omega) ownD).trans ((hB5.block _ (by omega)).trans bD));exact ⟨cell_blk (i := 0) e1 rfl, cell_blk (i := 1) e1 rfl, cell_blk (i := 2) e1 rfl, cell_blk (i := 3) e1 rfl, cell_blk (i := 0) e2 rfl, cell_blk (i := 1) e2 rfl, cell_blk (i := 2) e2 rfl, cell_blk (i := 3) e2 rfl⟩
   have hf6 : Foot (fun i => V.ownBlock = some i) w w6 := by
    have h1 : Foot (fun i => V.ownBlock = some i) w W5 := (HN.out.2.2.2.2.2.2.1.trans (Foot.of_below (F := fun _ => False) hb9'.out) (fun _ h => h.elim)).trans (Foot.of_below (F := fun _ => False) hB5) (fun _ h => h.elim);exact h1.grown hgr (fun i e => by rcases HN.out.2.2.2.2.2.2.2.1 i e with h | h; exact .inl h; exact .inr (by omega))
   have hf7 : Foot (fun i => V.ownBlock = some i) w W7 := by
    rw [hW7]; exact (((hf6.setCell (.inr (Nat.le_refl _)) _).setCell (.inr (Nat.le_refl _)) _).setCell (.inr (Nat.le_refl _)) _).setCell (.inr (Nat.le_refl _)) _
   have hg6 : ∀ i, (Value.slice (some ⟨gg, 0, none⟩) (n + k + 1) cap6).ownBlock = some i → V.ownBlock = some i ∨ w.heap.size + 1 < i := fun i e => by
    have e : gg = i := by simpa [Value.ownBlock] using e
    subst e;rcases hgf with h | h
    ·exact .inr (by omega)
    ·exact HN.out.2.2.2.2.2.2.2.1 _ h
   have hown7 : W7.ownsRow base 64 4 (.slice (some ⟨gg, 0, none⟩) (n + k + 1) cap6) (n + k + 1) ((L ++ pieces ⟨g, c, mn, mx⟩ f (k + 1)).flatMap feC) := by
    have h1 : w6.ownsRow base 64 4 (.slice (some ⟨gg, 0, none⟩) (n + k + 1) cap6) (n + k + 1) ((L ++ pieces ⟨g, c, mn, mx⟩ f (k + 1)).flatMap feC) := by
     rw [HN.out.1, ← List.append_assoc, List.flatMap_append];simpa [feC] using hown6
    refine own_kept h1 fun i e => far7 i fun e2 => ?_
    subst e2;rcases hg6 _ e with h | h
    ·have := (H.out.2.1 _ h).1; omega
    ·omega
   have hs67 := hgr.size;have hs7 : w.heap.size + 1 < W7.heap.size := by rw [hW7]; simp; omega
   have HN3 : Hid (St (k + 1) W7 (.slice (some ⟨gg, 0, none⟩) (n + k + 1) cap6)) := Hq (by
    rw [H.out.1];exact ⟨_, _, rfl, hown7, hf7, hg6, by rw [HN.out.2.1]; exact bF7, (far7 (w.heap.size + 1) (by omega)).trans bS6, by rw [HN.out.2.1]; exact HN.out.2.2.1, by rw [HN.out.2.1]; have := HN.out.2.2.2.1; have := HN.out.2.2.2.2.1; omega, hs7⟩)
   refine held_one 6 rfl (by kernel_rfl) (by rfl) (fun K hK => ?_);clear hown7 hf7 hf6 far7 bF7 bS6 bF6 hgr hat hgf far6 hown6 hlt6 bA bD;go_simp;refine hK.out _ _ (show _ from by rw [← hW7]; exact hS7) ?_;clear hK K;rw [← hW7];clear hW7 u0 u1 u2 u3 z0 z1 z2 z3;refine wpAnyH_done (by kernel_rfl) ?_ _;go_wp2
   go_roundw
   case rel => exact ⟨k + 1, by go_num, by omega, HN3⟩
   case measure => simp [intOf]; omega
  ·obtain rfl : k = p := by omega
   have t1 : decide (k < k) = false := decide_eq_false (by omega);clear hlt;go_wp2
   go_ret
   exact ⟨A', cap', rfl, hown, hft, fun i hi => (hfar i hi).imp id (fun h => by omega)⟩
end
section
open Go.RowKit
open PK
def placeL (S : Shp) (l : List Fe) : List Nat → Nat → List Fe
 | [], _ => []
 | k :: Z, r => match l[k]? with
  | none => placeL S l Z r
  | some f => pieces S f (min (fitF S f) r) ++ placeL S l Z (r - min (fitF S f) r)
def fitSum (S : Shp) (l : List Fe) (Z : List Nat) : Nat := (Z.map (ftL (fitsL S l))).sum
theorem ftL_at {S : Shp} {l : List Fe} {k : Nat} {f : Fe} (h : l[k]? = some f) : ftL (fitsL S l) k = fitF S f := by unfold ftL fitsL; rw [List.getElem?_map, h]; rfl
theorem placeL_len (S : Shp) (l : List Fe) : ∀ (Z : List Nat) (r : Nat), (placeL S l Z r).length = min r (fitSum S l Z)
 | [], r => by simp [placeL, fitSum]
 | k :: Z, r => by
  unfold placeL;have e : fitSum S l (k :: Z) = ftL (fitsL S l) k + fitSum S l Z := by simp [fitSum]
  rw [e]
  cases h : l[k]? with
  | none =>
   have : ftL (fitsL S l) k = 0 := by unfold ftL fitsL; rw [List.getElem?_map, h]; rfl
   rw [this]; simp only;rw [placeL_len S l Z r, Nat.zero_add]
  | some f =>
   simp only;rw [ftL_at h, List.length_append, pieces_len, placeL_len S l Z _];omega
theorem placeL_next (S : Shp) (l : List Fe) {k : Nat} {f : Fe} (hk : l[k]? = some f) : ∀ (Z : List Nat) (r : Nat), placeL S l (Z ++ [k]) r = placeL S l Z r ++ pieces S f (min (fitF S f) (r - fitSum S l Z))
 | [], r => by simp [placeL, hk, fitSum]
 | q :: Z, r => by
  have e : fitSum S l (q :: Z) = ftL (fitsL S l) q + fitSum S l Z := by simp [fitSum]
  rw [e]
  cases h : l[q]? with
  | none =>
   have : ftL (fitsL S l) q = 0 := by unfold ftL fitsL; rw [List.getElem?_map, h]; rfl
   rw [this, Nat.zero_add];have := placeL_next S l hk Z r;simp only [List.cons_append, placeL, h];exact this
  | some x =>
   rw [ftL_at h];have := placeL_next S l hk Z (r - min (fitF S x) r);simp only [List.cons_append, placeL, h];rw [this, List.append_assoc]
   congr 3
   omega
theorem fitSum_perm {S : Shp} {l : List Fe} {Z : List Nat} (h : Z.Perm (List.range l.length)) : fitSum S l Z = roomF S l := by
 have h1 : (Z.map (ftL (fitsL S l))).sum = ((List.range l.length).map (ftL (fitsL S l))).sum := (h.map _).sum_nat;unfold fitSum roomF;rw [h1]
 congr 1
 refine List.ext_getElem? fun i => ?_
 rw [List.getElem?_map];rcases Nat.lt_or_ge i l.length with hi | hi
 ·rw [List.getElem?_range hi];have hf : i < (fitsL S l).length := by rw [fitsL_len]; exact hi
  unfold ftL;rw [Option.map_some, List.getElem?_eq_getElem hf, Option.getD_some]
 ·rw [List.getElem?_eq_none (by simpa using hi), List.getElem?_eq_none (by rw [fitsL_len]; exact hi)]; rfl
theorem asc_unique {key : Nat → Nat} {Y Z : List Nat} (hp : Y.Perm Z) (hi : ∀ x ∈ Z, ∀ y ∈ Z, key x = key y → x = y) (hn : Z.Nodup) (hY : Asc key Y) (hZ : Asc key Z) : Y = Z := by
 induction Y generalizing Z with
 | nil => exact (List.nil_perm.1 hp).symm ▸ rfl
 | cons y Y ih =>
  cases Z with
  | nil => exact absurd hp.length_eq (by simp)
  | cons z Z =>
   have hyz : y = z := by
    have h1 : y ∈ z :: Z := hp.mem_iff.1 (by simp);have h2 : z ∈ y :: Y := hp.mem_iff.2 (by simp);have a : key z ≤ key y := by
     rcases List.mem_cons.1 h1 with h | h
     ·rw [h]; exact Nat.le_refl _
     ·exact (List.pairwise_cons.1 hZ).1 y h
    have b : key y ≤ key z := by
     rcases List.mem_cons.1 h2 with h | h
     ·rw [h]; exact Nat.le_refl _
     ·exact (List.pairwise_cons.1 hY).1 z h
    exact hi y h1 z (by simp) (by omega)
   subst hyz;rw [ih ((List.perm_cons y).1 hp) (fun a ha b hb => hi a (List.mem_cons_of_mem _ ha) b (List.mem_cons_of_mem _ hb)) (List.nodup_cons.1 hn).2 (List.pairwise_cons.1 hY).2 (List.pairwise_cons.1 hZ).2]
theorem keyL_inj {L : List Nat} {x y : Nat} (hx : x < L.length) (hy : y < L.length) (h : keyL L x = keyL L y) : x = y := by
 unfold keyL at h;have e1 := congrArg (· % L.length) h;simp only [Nat.add_comm, Nat.mul_comm, Nat.add_mul_mod_self_left, Nat.mod_eq_of_lt hx, Nat.mod_eq_of_lt hy] at e1;exact e1
theorem order_unique {L Y Z : List Nat} {n : Nat} (hL : L.length = n) (hY : Y.Perm (List.range n)) (hZ : Z.Perm (List.range n)) (aY : Asc (keyL L) Y) (aZ : Asc (keyL L) Z) : Y = Z :=
 asc_unique (hY.trans hZ.symm) (fun x hx y hy h => keyL_inj (by have := hZ.mem_iff.1 hx; rw [hL]; simpa using this) (by have := hZ.mem_iff.1 hy; rw [hL]; simpa using this) h) (hZ.nodup_iff.2 List.nodup_range) aY aZ
end
section
open Go.RowKit
open PK
theorem fes_up {w W : World} {B : Nat} {A : Option Addr} {l : List Fe} (h : Fes w B A l) (hB : B ≤ w.heap.size) (hW : Below w.heap.size w W) : Fes W W.heap.size A l := Fes.keep (Rows.imp h hB fun _ _ _ _ h => h) hW hW.size
theorem chk_any (S : Shp) (w : World) (hw : S.Wf) : Calls Tryz.prog 55 #[shV S] w fun e w' => e = .returned (.int .i64 (if S.ok then 0 else 1)) ∧ Below w.heap.size w w' := by
 obtain ⟨g, c, mn, mx⟩ := S;unfold shV
 cases h : Shp.ok ⟨g, c, mn, mx⟩
 ·exact check_no g c mn mx w hw h
 ·exact check_ok g c mn mx w hw h
set_option maxRecDepth 100000 in
set_option maxHeartbeats 1000000 in
theorem place_full (A : Option Addr) (cap B : Nat) (l : List Fe) (S : Shp) (p : Nat) (w : World) (h : Fes w B A l) (hB : B ≤ w.heap.size) (hn : l.length ≤ 500000) (hw : S.Wf) (hf : ∀ f ∈ l, FeOk f) (hT : Tab w) (hok : S.ok = true) (h1 : 1 ≤ p) (h16 : p ≤ 16) (hr : roomF S l < p) :
  Calls Tryz.prog 52 #[.slice A l.length cap, shV S, .int .i64 (p : Nat)] w fun e w' => e = .returned (.tuple #[.slice none 0 0, .int .i64 7]) ∧ Below w.heap.size w w' := by
 obtain ⟨w1, hw1⟩ := nx (w.alloc (.cells #[.int .i64 S.g, .int .i64 S.c, .int .i64 S.mn, .int .i64 S.mx] 32));have hB1 : Below w.heap.size w w1 := by rw [hw1]; exact (Below.refl w.heap.size w).alloc (Nat.le_refl _) _
 have hs1 : w.heap.size < w1.heap.size := by rw [hw1]; simp
 have bS1 : w1.heap[w.heap.size]? = some (.cells #[.int .i64 S.g, .int .i64 S.c, .int .i64 S.mn, .int .i64 S.mx] 32 (0, 0)) := by rw [hw1]; exact heap_alloc_new w _
 have hC := chk_any S w1 hw;rw [hok] at hC;simp only [if_true] at hC;have hC := Hq hC;have hF := Hq (fun W (hW : Below w.heap.size w W) => fits_row A cap W.heap.size l S W (fes_up h hB hW) (Nat.le_refl _) hn hw hf (hT.below hW hT.size));have hS := Hq (fun a c W (hr : Row W a (fitsL S l)) => sum_any a c (fitsL S l) W hr (fitsL_le _ _) (by rw [fitsL_len]; exact hn));rw [fitsL_len] at hS;have hrr := hr;unfold roomF at hrr;obtain ⟨r, hrd⟩ : ∃ r, r = (fitsL S l).sum := ⟨_, rfl⟩
 rw [← hrd] at hS hrr;obtain ⟨n, hln⟩ : ∃ n, l.length = n := ⟨_, rfl⟩
 rw [hln] at hF hS ⊢;have HB := Hq hB1;have HW := Hq hw1;have HX := Hq bS1;have t1 : decide ((p : Int) < 1) = false := decide_eq_false (by omega);have t2 : decide (16 < (p : Int)) = false := decide_eq_false (by omega);have t3 : decide (r < p) = true := decide_eq_true hrr;clear hw1 hB1 hw h hf hT hr hrr hrd hln hok hn bS1;unfold shV at hC hF ⊢;go_enter Tryz.func52, Tryz.ntmps52;go_wp2_with fail;rw [← HW.out];refine hC.out.mono ?_;rintro e w2 ⟨rfl, hb2⟩;have hs2 := hb2.size;have hB2 := below_step HB.out hb2;have bS2 := (hb2.block w.heap.size hs1).trans HX.out;have s0 : w2.cell? ⟨w.heap.size, 0, none⟩ = _ := cell_blk (i := 0) bS2 rfl;have s1 : w2.cell? ⟨w.heap.size, 1, none⟩ = _ := cell_blk (i := 1) bS2 rfl;have s2 : w2.cell? ⟨w.heap.size, 2, none⟩ = _ := cell_blk (i := 2) bS2 rfl;have s3 : w2.cell? ⟨w.heap.size, 3, none⟩ = _ := cell_blk (i := 3) bS2 rfl;go_wp2_with fail;refine (hF.out w2 hB2).mono ?_;rintro e w3 ⟨a, c3, rfl, hrow, hb3⟩;clear s0 s1 s2 s3;go_wp2_with fail;refine (hS.out a c3 w3 hrow).mono ?_;rintro e w' ⟨rfl, rfl⟩;go_wp2
 go_ret2
 exact ⟨rfl, below_step hB2 hb3⟩
set_option maxRecDepth 100000 in
set_option maxHeartbeats 4000000 in
theorem place_ok (A : Option Addr) (cap B : Nat) (l : List Fe) (S : Shp) (p : Nat) (w : World) (h : Fes w B A l) (hB : B ≤ w.heap.size) (hn : l.length ≤ 500000) (hw : S.Wf) (hf : ∀ f ∈ l, FeOk f) (hT : Tab w) (hok : S.ok = true) (h1 : 1 ≤ p) (h16 : p ≤ 16) (hr : p ≤ roomF S l) :
  Calls Tryz.prog 52 #[.slice A l.length cap, shV S, .int .i64 (p : Nat)] w fun e w' => ∃ A' cap', e = .returned (.tuple #[.slice A' p cap', .int .i64 0]) ∧ Below w.heap.size w w' ∧
   Hid (∃ Z, Z.Perm (List.range l.length) ∧ Asc (keyL (fitsL S l)) Z ∧ w'.ownsRow w.heap.size 64 4 (.slice A' p cap') p ((placeL S l Z p).flatMap feC)) := by
 obtain ⟨w1, hw1⟩ := nx (w.alloc (.cells #[.int .i64 S.g, .int .i64 S.c, .int .i64 S.mn, .int .i64 S.mx] 32));have hB1 : Below w.heap.size w w1 := by rw [hw1]; exact (Below.refl w.heap.size w).alloc (Nat.le_refl _) _
 have hs1 : w.heap.size < w1.heap.size := by rw [hw1]; simp
 have bS1 : w1.heap[w.heap.size]? = some (.cells #[.int .i64 S.g, .int .i64 S.c, .int .i64 S.mn, .int .i64 S.mx] 32 (0, 0)) := by rw [hw1]; exact heap_alloc_new w _
 have hC := chk_any S w1 hw;rw [hok] at hC;simp only [if_true] at hC;have hC := Hq hC;have hF := Hq (fun W (hW : Below w.heap.size w W) => fits_row A cap W.heap.size l S W (fes_up h hB hW) (Nat.le_refl _) hn hw hf (hT.below hW hT.size));have hS := Hq (fun a c W (hr : Row W a (fitsL S l)) => sum_any a c (fitsL S l) W hr (fitsL_le _ _) (by rw [fitsL_len]; exact hn));rw [fitsL_len] at hS;have hl0 : 0 < l.length := by
  rcases Nat.eq_zero_or_pos l.length with e | e
  ·have := roomF_le S l; rw [e] at this; omega
  ·exact e
 have hO := Hq (fun a c W (hr : Row W a (fitsL S l)) => roomiest_any a c (fitsL S l) W hr (fitsL_le _ _) (by rw [fitsL_len]; exact hl0) (by rw [fitsL_len]; exact hn));rw [fitsL_len] at hO;have hrr := hr;unfold roomF at hrr;obtain ⟨r, hrd⟩ : ∃ r, r = (fitsL S l).sum := ⟨_, rfl⟩
 rw [← hrd] at hS hrr;obtain ⟨n, hln⟩ : ∃ n, l.length = n := ⟨_, rfl⟩
 have H := Hq (Ai h (Ai hln (Ai hw (Ai hf (Ai hT hr)))));rw [hln] at hF hS hO hn hl0 ⊢;have HB := Hq hB1;have HW := Hq hw1;have HX := Hq bS1;have t1 : decide ((p : Int) < 1) = false := decide_eq_false (by omega);have t2 : decide (16 < (p : Int)) = false := decide_eq_false (by omega);have t3 : decide (r < p) = false := decide_eq_false (by omega);clear hw1 hB1 hw h hf hT hr hrr hrd hln hok bS1;unfold shV at hC hF ⊢;obtain ⟨i0, hi, hz0, hz1, hz2⟩ := info_parts info_slotP;go_enter Tryz.func52, Tryz.ntmps52;go_wp2_with fail;rw [← HW.out];refine hC.out.mono ?_;rintro e w2 ⟨rfl, hb2⟩;have hs2 := hb2.size;have hB2 := below_step HB.out hb2;have bS2 := (hb2.block w.heap.size hs1).trans HX.out;have s0 : w2.cell? ⟨w.heap.size, 0, none⟩ = _ := cell_blk (i := 0) bS2 rfl;have s1 : w2.cell? ⟨w.heap.size, 1, none⟩ = _ := cell_blk (i := 1) bS2 rfl;have s2 : w2.cell? ⟨w.heap.size, 2, none⟩ = _ := cell_blk (i := 2) bS2 rfl;have s3 : w2.cell? ⟨w.heap.size, 3, none⟩ = _ := cell_blk (i := 3) bS2 rfl;go_wp2_with fail;refine (hF.out w2 hB2).mono ?_;rintro e w3 ⟨fa, fc, rfl, hrow, hb3⟩;clear s0 s1 s2 s3;have hs3 := hb3.size;have hB3 := Hq (below_step hB2 hb3);have bS3 := Hq ((hb3.block w.heap.size (by omega)).trans bS2);have hRow := Hq hrow;clear hb2 hb3 hB2 bS2 hrow hC hF;have hz3 : w.heap.size < w3.heap.size := by omega
 go_wp2_with fail;refine (hS.out fa fc w3 hRow.out).mono ?_;rintro e w' ⟨rfl, rfl⟩;clear hS hs1 hs2 hs3;go_wp2_with (at_make; refine wpList_make_own _ rfl _ _ _ rfl w3.heap.size 64 i0 (.agg #[.int .i64 0, .int .i64 0, .int .u64 0, .int .i64 0]) 4 Tryz.underlying37 hi hz0 hz1 .i64 .i64 (p : Int) p rfl rfl rfl (by rw [hz2]; omega) (by unfold maxLen; omega) (Nat.le_refl _) ?_; intro w4 hown4 hgr4);have hlt4 := (hown4.lt w3.heap.size rfl).2;have hb34 : Below w3.heap.size w3 w4 := (Below.refl _ _).grown hgr4 (Nat.le_refl _) (fun k e => by cases e);have hRow4 := Hq (hRow.out.below hb34);have hB4 := Hq (below_step hB3.out hb34);have bS4 := Hq ((hb34.block w.heap.size hz3).trans bS3.out);have hO4 := Hq hown4;clear hgr4 hown4 hb34 hB3 bS3 hi hz0 hz1 hz2;go_wp2_with fail;refine (hO.out fa fc w4 hRow4.out).mono ?_;rintro e w5 ⟨g, rfl, hg, hb5, hZ⟩;obtain ⟨Z, zb, zp, za⟩ := hZ.out;have hs5 := hb5.size;have hzl : Z.length = n := by rw [zp.length_eq, List.length_range]
 have hg5 : g < w5.heap.size := zb.lt;have hgf : ∃ gf, fa = some ⟨gf, 0, none⟩ ∧ gf < w3.heap.size := by
  rcases hRow.out with e | ⟨gf, e, hgf, _⟩
  ·have := congrArg List.length e; rw [fitsL_len, H.out.2.1] at this; simp at this; omega
  ·exact ⟨gf, e, hgf⟩
 obtain ⟨gf, rfl, hgf⟩ := hgf;obtain ⟨St, hSt⟩ : ∃ St : Nat → World → Value → Prop, St = fun (j : Nat) (wr : World) (v : Value) => ∃ A' c', v = .slice A' (placeL S l (Z.take j) p).length c' ∧ wr.ownsRow w3.heap.size 64 4 v (placeL S l (Z.take j) p).length ((placeL S l (Z.take j) p).flatMap feC) ∧ (∀ i, v.ownBlock = some i → i = w3.heap.size ∨ w5.heap.size ≤ i) ∧
  Blk wr g Z ∧ wr.heap[w.heap.size]? = some (.cells #[.int .i64 S.g, .int .i64 S.c, .int .i64 S.mn, .int .i64 S.mx] 32 (0, 0)) ∧ Row wr (some ⟨gf, 0, none⟩) (fitsL S l) ∧ Below w.heap.size w wr ∧ w5.heap.size ≤ wr.heap.size := ⟨_, rfl⟩
 have HS0 : Hid (St 0 w5 (.slice (some ⟨w3.heap.size, 0, none⟩) 0 p)) := Hq (by
  rw [hSt];exact ⟨_, _, rfl, own_below hO4.out hb5, fun i e => .inl (by simpa [Value.ownBlock] using e.symm), zb, (hb5.block _ (by omega)).trans bS4.out, hRow4.out.below hb5, below_step hB4.out hb5, Nat.le_refl _⟩)
 have HZ := Hq (Ai hSt (Ai zp (Ai za hzl)));clear hZ zb hb5 hO4 bS4 hRow4 hB4 hRow hO hSt zp za hzl;go_wp2;go_loopw [9, 35] (fun v i wr => ∃ j : Nat, i = .int .i64 j ∧ j ≤ n ∧ Hid (St j wr v)) (fun _ i _ => n - (intOf i).toNat)
 case atStart => exact ⟨0, rfl, by omega, HS0⟩
 case round =>
  clear HS0;obtain ⟨j, rfl, hj, hS⟩ := hrel;have hSj := hS.out;rw [HZ.out.1] at hSj;obtain ⟨A', c', rfl, hown, hfar, hZb, bS, hRw, hBw, hsw⟩ := hSj;clear hS;by_cases hlt : j < n
  ·obtain ⟨k, hk⟩ := get_of_lt (L := Z) (k := j) (by rw [HZ.out.2.2.2]; exact hlt);have hkn : k < n := by have := HZ.out.2.1.mem_iff.1 (List.mem_of_getElem? hk); simpa using this
   obtain ⟨f, hx⟩ := get_lt (l := l) (k := k) (by rw [H.out.2.1]; exact hkn);obtain ⟨b, off, rfl, hb, hc⟩ := H.out.1.at_ hx;obtain ⟨f0, f1, f2, f3⟩ := (hc k f hx).keep (B := w.heap.size) (by omega) hBw;have c1 := hZb.cell hk;have s0 : wr.cell? ⟨w.heap.size, 0, none⟩ = some (.int .i64 S.g) := cell_blk (i := 0) bS rfl;have s1 : wr.cell? ⟨w.heap.size, 1, none⟩ = some (.int .i64 S.c) := cell_blk (i := 1) bS rfl;have s2 : wr.cell? ⟨w.heap.size, 2, none⟩ = some (.int .i64 S.mn) := cell_blk (i := 2) bS rfl;have s3 : wr.cell? ⟨w.heap.size, 3, none⟩ = some (.int .i64 S.mx) := cell_blk (i := 3) bS rfl;obtain ⟨q, hq⟩ := nx (fitF S f);have c2 : wr.cell? ⟨gf, k, none⟩ = some (.int .i64 (q : Nat)) := by
    rcases hRw with e | ⟨g', e, _, hcc⟩
    ·have := congrArg List.length e; rw [fitsL_len, H.out.2.1] at this; simp at this; omega
    ·cases e
     have := hcc k (by rw [fitsL_len, H.out.2.1]; exact hkn);rw [hq, ← ftL_at hx];exact this
   obtain ⟨m, hm⟩ := nx ((placeL S l (Z.take j) p).length);have hmp : m ≤ p := by rw [hm, placeL_len]; omega
   rw [← hm] at hown hfar ⊢;have HK := Hq (Ai hk (Ai hx (Ai hm (Ai hq (Ai hown (Ai hfar (Ai hZb (Ai bS (Ai hRw hBw)))))))));have j1 : (k : Int) < (n : Int) := (by omega);have t4 : decide (j < n) = true := decide_eq_true hlt;clear hk hx hc hm hq hown hfar hZb bS hRw hBw;go_wp2_with fail;refine held_begin (fun w' : World => w'.cell? ⟨b, off + k * 4, none⟩ = some (.int .i64 f.n) ∧ w'.cell? ⟨b, off + k * 4 + 1, none⟩ = some (.int .i64 f.d) ∧ w'.cell? ⟨b, off + k * 4 + 2, none⟩ = some (.int .u64 (f.m : Nat)) ∧ w'.cell? ⟨b, off + k * 4 + 3, none⟩ = some (.int .i64 f.c) ∧ w'.cell? ⟨w.heap.size, 0, none⟩ = some (.int .i64 S.g) ∧ w'.cell? ⟨w.heap.size, 1, none⟩ = some (.int .i64 S.c) ∧ w'.cell? ⟨w.heap.size, 2, none⟩ = some (.int .i64 S.mn) ∧ w'.cell? ⟨w.heap.size, 3, none⟩ = some (.int .i64 S.mx) ∧ w'.cell? ⟨gf, k, none⟩ = some (.int .i64 (q : Nat))) (by kernel_rfl) ?_;have hS0 := Ai f0 (Ai f1 (Ai f2 (Ai f3 (Ai s0 (Ai s1 (Ai s2 (Ai s3 c2)))))));refine tkA 0 39 hS0 ?_;refine tkA 1 40 hS0 ?_;refine tkA 2 41 hS0 ?_;refine tkA 3 42 hS0 ?_;refine tkA 4 43 hS0 ?_;refine tkA 5 44 hS0 ?_;refine tkA 6 45 hS0 ?_;refine tkA 7 46 hS0 ?_;refine tkA 8 47 hS0 ?_;refine tkA 9 48 hS0 ?_;refine tkA 10 49 hS0 ?_;refine tkA 11 50 hS0 ?_;refine tkA 12 51 hS0 ?_;refine tkA 13 52 hS0 ?_;refine tkA 14 53 hS0 ?_;refine held_one 15 rfl (by kernel_rfl) (by rfl) (fun K hK => ?_);go_simp;obtain ⟨x, hxx⟩ : ∃ x, x = min q (p - m) := ⟨_, rfl⟩
   have ex : (if IntKind.i64.wrap ((p : Int) - (m : Int)) < (q : Int) then IntKind.i64.wrap ((p : Int) - (m : Int)) else (q : Int)) = ((x : Nat) : Int) := by
    rw [IntWalk.i64_in _ (by omega)]
    split <;> omega
   rw [ex];obtain ⟨hk, hx, hm, hq, hown, hfar, hZb, bS, hRw, hBw⟩ := HK.out;have hoD : wr.drew.ownsRow w3.heap.size 64 4 (.slice A' (placeL S l (Z.take j) p).length c') (placeL S l (Z.take j) p).length ((placeL S l (Z.take j) p).flatMap feC) := by rw [← hm]; exact hown
   have hTr : Tab wr.drew := H.out.2.2.2.2.1.below hBw.drew H.out.2.2.2.2.1.size;have hC9 := cut_any A' c' w3.heap.size (placeL S l (Z.take j) p) f S x wr.drew hoD (show w3.heap.size ≤ wr.heap.size by omega) H.out.2.2.1 (H.out.2.2.2.1 f (List.mem_of_getElem? hx)) (by rw [hxx, hq]; omega) (by rw [← hm]; omega) hTr (by have := H.out.2.2.2.2.1.size; omega);rw [← hm] at hC9;refine hC9.mono ?_;rintro e w6 ⟨A6, c6, rfl, hown6, hft6, hfar6⟩;have hs6 : wr.heap.size ≤ w6.heap.size := hft6.size;have hVne : ∀ i, i < w5.heap.size → i ≠ w3.heap.size → ¬ (Value.slice A' m c').ownBlock = some i := fun i h1 h2 h3 => by rcases hfar i h3 with h | h; exact h2 h; omega
   have blk6 : ∀ i, i < w5.heap.size → i ≠ w3.heap.size → w6.heap[i]? = wr.heap[i]? := fun i h1 h2 => hft6.block i (show i < wr.heap.size by omega) (hVne i h1 h2)
   have hlow6 : Below w.heap.size wr w6 := (show Foot _ wr w6 from ⟨hft6.os, hft6.tape, hft6.output, hft6.size, hft6.block⟩).below (by omega) (fun i e => by rcases hfar i e with h | h; omega; omega);have bS6 := (blk6 w.heap.size (by omega) (by omega)).trans bS;have hZ6 : Blk w6 g Z := (blk6 g hg5 (by omega)).trans hZb;have eP : placeL S l (Z.take (j + 1)) p = placeL S l (Z.take j) p ++ pieces S f x := by
    rw [take_at hk, placeL_next S l hx, ← hq]
    congr 2
    rw [hxx, hm, placeL_len];omega
   have hRw6 : Row w6 (some ⟨gf, 0, none⟩) (fitsL S l) := by
    rcases hRw with e | ⟨g', e, hg', hcc⟩
    ·exact .inl e
    ·cases e
     exact .inr ⟨gf, rfl, by omega, fun i hi => (World.cell?_of_block (blk6 gf (by omega) (by omega))).trans (hcc i hi)⟩
   have hN : Hid (St (j + 1) w6 (.slice A6 (m + x) c6)) := Hq (by
    rw [HZ.out.1];have el : (placeL S l (Z.take (j + 1)) p).length = m + x := (by rw [eP, List.length_append, pieces_len, ← hm]);refine ⟨A6, c6, by rw [el], by rw [el, eP]; exact hown6, fun i e => ?_, hZ6, bS6, hRw6, hBw.trans hlow6, by omega⟩;rcases hfar6 i e with h | h
    ·exact hfar i h
    ·exact .inr (Nat.le_trans hsw h))
   have hS6 : (fun w' : World => w'.cell? ⟨b, off + k * 4, none⟩ = some (.int .i64 f.n) ∧ w'.cell? ⟨b, off + k * 4 + 1, none⟩ = some (.int .i64 f.d) ∧ w'.cell? ⟨b, off + k * 4 + 2, none⟩ = some (.int .u64 (f.m : Nat)) ∧ w'.cell? ⟨b, off + k * 4 + 3, none⟩ = some (.int .i64 f.c) ∧ w'.cell? ⟨w.heap.size, 0, none⟩ = some (.int .i64 S.g) ∧ w'.cell? ⟨w.heap.size, 1, none⟩ = some (.int .i64 S.c) ∧ w'.cell? ⟨w.heap.size, 2, none⟩ = some (.int .i64 S.mn) ∧ w'.cell? ⟨w.heap.size, 3, none⟩ = some (.int .i64 S.mx) ∧ w'.cell? ⟨gf, k, none⟩ = some (.int .i64 (q : Nat))) w6 := by
    have hb6 := hlow6;obtain ⟨f0', f1', f2', f3'⟩ := FeAt.keep (f := f) (show FeAt wr b (off + k * 4) f from ⟨f0, f1, f2, f3⟩) (B := w.heap.size) (by omega) hlow6;exact ⟨f0', f1', f2', f3', cell_blk (i := 0) bS6 rfl, cell_blk (i := 1) bS6 rfl, cell_blk (i := 2) bS6 rfl, cell_blk (i := 3) bS6 rfl, (World.cell?_of_block (blk6 gf (by omega) (by omega))).trans c2⟩
   clear hRw6 hZ6 bS6 hlow6 blk6 hVne hown6 hft6 hfar6 hC9 hTr hoD hk hx hm hq hown hfar hZb bS hRw hBw eP ex hxx hS0 f0 f1 f2 f3 s0 s1 s2 s3 c1 c2;refine hK.out _ _ hS6 ?_;clear hK K;refine tkA 16 9 hS6 ?_;refine wpAnyH_done (by kernel_rfl) ?_ _;go_wp2
   go_roundw
   case rel => exact ⟨j + 1, by go_num, by omega, hN⟩
   case measure => simp [intOf]; omega
  ·obtain rfl : j = n := by omega
   have hl : placeL S l (Z.take j) p = placeL S l Z p := by rw [List.take_of_length_le (by rw [HZ.out.2.2.2]; omega)]
   have hlen : (placeL S l (Z.take j) p).length = p := by rw [hl, placeL_len, fitSum_perm (by rw [H.out.2.1]; exact HZ.out.2.1)]; have := H.out.2.2.2.2.2; omega
   rw [hlen] at hown ⊢;rw [hl] at hown;have HR : Hid (∃ Z, Z.Perm (List.range j) ∧ Asc (keyL (fitsL S l)) Z ∧ wr.ownsRow w.heap.size 64 4 (.slice A' p c') p ((placeL S l Z p).flatMap feC)) := Hq ⟨Z, HZ.out.2.1, HZ.out.2.2.1, hown.mono (by omega)⟩;have HBw := Hq hBw;have t4 : decide (j < j) = false := decide_eq_false (by omega);clear hl hlen hown hfar hZb bS hRw hBw hlt;go_wp2
   go_ret2
   exact ⟨A', c', rfl, HBw.out, HR⟩
end
section
open Go.RowKit
open PK
end
end Go.Proofs.YtkkkhonjcbhelaaGreatDoor
