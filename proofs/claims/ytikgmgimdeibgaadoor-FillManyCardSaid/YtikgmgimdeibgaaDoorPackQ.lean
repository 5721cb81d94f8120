/- fits, sum, Room of package pack. -/
/- roomiestFirst of package pack: the spots' numbers, those with more room first, like ones in their order. -/
/- cut of package pack: pieces of what is free at a spot, one behind the other, behind some slots. -/
/- Where members go: plain facts of a placing, in whatever order the spots are gone through. -/
/- Place of package pack. -/
/- The document's example for layer 5, which each law asks first. -/
import Derived.Test.YtikgmgimdeibgaaDoorPackMem
import Derived.Test.YtikgmgimdeibgaaDoorPackP
import Derived.RegionTactic
import Derived.WalkArith
import Derived.BigRegion
import Derived.Deep.RegionHeld3
import Derived.Deep.AppendLies
import Derived.Test.YtikgmgimdeibgaaDoorKitP
import Derived.Deep.Onto
import Derived.Test.YtikgmgimdeibgaaDoorShapeQ
namespace Go.Proofs.YtikgmgimdeibgaaDoor
open Go.RowKit

theorem info_intP : (Tryd.prog.info? 3).map (fun i => (i.zero, i.size, i.bytes)) = some (some (.int .i64 0), 1, 8) := by kernel_rfl
def fitsL (S : Shp) (l : List Fe) : List Nat := l.map (fitF S)
theorem fitsL_next {S : Shp} {l : List Fe} {k : Nat} {f : Fe} (h : l[k]? = some f) : fitsL S (l.take (k + 1)) = fitsL S (l.take k) ++ [fitF S f] := by unfold fitsL; rw [take_next h, List.map_append]; rfl
set_option maxRecDepth 100000 in
set_option maxHeartbeats 2000000 in
theorem fits_all (A : Option Addr) (c B : Nat) (l : List Fe) (S : Shp) (w : World) (h : Fes w B A l) (hB : B ≤ w.heap.size) (hn : l.length ≤ 500000) (hw : S.Wf) (hf : ∀ f ∈ l, FeOk f) (hT : Tab w) :
    Calls Tryd.prog 62 #[.slice A l.length c, shV S] w fun e w' => ∃ v, e = .returned v ∧ w'.ownsRow (w.heap.size + 1) 3 1 v l.length (ints (fitsL S l)) ∧ Below w.heap.size w w' := by
  obtain ⟨n, hln⟩ : ∃ n, l.length = n := ⟨_, rfl⟩
  have H := Lib.hid (And.intro h (And.intro hln (And.intro hf hw)))
  have HT := Lib.hid hT
  rw [hln] at hn ⊢
  have hTs := hT.size
  clear h hln hf hw hT
  obtain ⟨i0, hi, hz0, hz1, hz2⟩ := info_parts info_intP
  obtain ⟨g, cc, mn, mx⟩ := S
  unfold shV
  obtain ⟨w1, hw1⟩ : ∃ w1, w1 = w.alloc (.cells #[.int .i64 g, .int .i64 cc, .int .i64 mn, .int .i64 mx] 27) := ⟨_, rfl⟩
  have hB1 : Below w.heap.size w w1 := by rw [hw1]; exact (Below.refl w.heap.size w).alloc (Nat.le_refl _) _
  have bS : Hid (w1.heap[w.heap.size]? = some (.cells #[.int .i64 g, .int .i64 cc, .int .i64 mn, .int .i64 mx] 27 (0, 0))) := Lib.hid (by rw [hw1]; exact heap_alloc_new w _)
  have hs1 : w.heap.size < w1.heap.size := by rw [hw1]; simp
  have hw1s : w1.heap.size = w.heap.size + 1 := by rw [hw1]; simp
  go_enter Tryd.func62, Tryd.ntmps62
  go_wp2_with (at_make; rw [← hw1]; refine wpList_make_own _ rfl _ _ _ rfl (w.heap.size + 1) 3 i0 (.int .i64 0) 1 Tryd.underlying73 hi hz0 hz1 .i64 .i64 (n : Int) n rfl rfl rfl (by rw [hz2]; omega) (by unfold maxLen; omega) (by omega) ?_; intro w2 hown hgr)
  have HB2 : Hid (Below w.heap.size w w2) := Lib.hid (hB1.grown hgr (by omega) (fun k e => by cases e))
  have bS2 : Hid (w2.heap[w.heap.size]? = some (.cells #[.int .i64 g, .int .i64 cc, .int .i64 mn, .int .i64 mx] 27 (0, 0))) := Lib.hid ((hgr.block _ hs1 (by simp)).trans bS.out)
  have hs2 : w.heap.size < w2.heap.size := Nat.lt_of_lt_of_le hs1 hgr.size
  have HO : Hid (w2.ownsRow (w.heap.size + 1) 3 1 (.slice (some ⟨w.heap.size + 1, 0, none⟩) 0 n) 0 (ints (fitsL ⟨g, cc, mn, mx⟩ (l.take 0)))) := Lib.hid (by rw [hw1s] at hown; simpa [fitsL, ints] using hown)
  clear hown hgr bS hs1 hB1 hw1s
  go_loopw [5, 13] (fun out i wr => ∃ k : Nat, i = .int .i64 k ∧ k ≤ n ∧ Hid (wr.ownsRow (w.heap.size + 1) 3 1 out k (ints (fitsL ⟨g, cc, mn, mx⟩ (l.take k)))) ∧ Hid (Below w.heap.size w wr) ∧ w.heap.size < wr.heap.size ∧ Hid (wr.heap[w.heap.size]? = some (.cells #[.int .i64 g, .int .i64 cc, .int .i64 mn, .int .i64 mx] 27 (0, 0)))) (fun _ i _ => n - (intOf i).toNat)
  case atStart => exact ⟨0, rfl, by omega, HO, HB2, hs2, bS2⟩
  case round =>
    clear HO HB2 hs2 bS2 hw1
    obtain ⟨k, rfl, hk, hO, hBl, hsw, hS⟩ := hrel
    by_cases hlt : k < n
    · obtain ⟨f, hx⟩ := get_lt (l := l) (k := k) (by rw [H.out.2.1]; exact hlt)
      obtain ⟨b, off, hA, hb, hc⟩ := H.out.1.at_ hx
      subst hA
      have HBd := Lib.hid hb
      obtain ⟨f0, f1, f2, f3⟩ := (hc k f hx).keep (B := w.heap.size) (by omega) hBl.out
      obtain ⟨W, hW⟩ : ∃ W, W = wr.alloc (.cells #[.int .i64 f.n, .int .i64 f.d, .int .u64 (f.m : Nat), .int .i64 f.c] 58) := ⟨_, rfl⟩
      have hBW : Below w.heap.size w W := by rw [hW]; exact hBl.out.alloc (by omega) _
      have hBW' : Below wr.heap.size wr W := by rw [hW]; exact (Below.refl _ _).alloc (Nat.le_refl _) _
      have hWs : W.heap.size = wr.heap.size + 1 := by rw [hW]; simp
      have hF := Lib.hid (fit_any ⟨g, cc, mn, mx⟩ f W H.out.2.2.2 (H.out.2.2.1 f (List.mem_of_getElem? hx)) (HT.out.below hBW hTs))
      unfold shV feV at hF
      have hq := fitF_le ⟨g, cc, mn, mx⟩ f
      have hbox : W.heap[wr.heap.size]? = some (.cells #[.int .i64 f.n, .int .i64 f.d, .int .u64 (f.m : Nat), .int .i64 f.c] 58 (0, 0)) := by rw [hW]; exact heap_alloc_new wr _
      have bSW := (hBW'.block _ hsw).trans hS.out
      have s0 : wr.cell? ⟨w.heap.size, 0, none⟩ = some (.int .i64 g) := cell_blk (i := 0) hS.out rfl
      have s1 : wr.cell? ⟨w.heap.size, 1, none⟩ = some (.int .i64 cc) := cell_blk (i := 1) hS.out rfl
      have s2 : wr.cell? ⟨w.heap.size, 2, none⟩ = some (.int .i64 mn) := cell_blk (i := 2) hS.out rfl
      have s3 : wr.cell? ⟨w.heap.size, 3, none⟩ = some (.int .i64 mx) := cell_blk (i := 3) hS.out rfl
      have HX := Lib.hid (And.intro hBW (And.intro hBW' (And.intro hWs (And.intro bSW (fitsL_next (S := ⟨g, cc, mn, mx⟩) hx)))))
      obtain ⟨q, hqq⟩ : ∃ q, q = fitF ⟨g, cc, mn, mx⟩ f := ⟨_, rfl⟩
      rw [← hqq] at hF hq HX
      have HW := Lib.hid hW
      have t1 : decide (k < n) = true := decide_eq_true hlt
      clear hx hc hbox bSW hBW hBW' hqq hW hb
      go_wp2_with fail
      rw [← HW.out]
      refine hF.out.mono ?_
      rintro e w4 ⟨rfl, hb4⟩
      obtain ⟨hBW, hBW', hWs, bSW, hNx⟩ := HX.out
      have hown4 : w4.ownsRow (w.heap.size + 1) 3 1 u5 k (ints (fitsL ⟨g, cc, mn, mx⟩ (l.take k))) := own_below (own_below hO.out hBW') hb4
      have hs4 := hb4.size
      have hB4 : Below w.heap.size w w4 := hBW.trans (hb4.mono (by omega))
      have bS4 := (hb4.block w.heap.size (by omega)).trans bSW
      have hz4 : w.heap.size + 1 < w4.heap.size := by omega
      have HK := Lib.hid (And.intro hB4 (And.intro bS4 hNx))
      clear hBW hBW' hWs bSW hNx hb4 hs4 hO hBl hsw hS s0 s1 s2 s3 f0 f1 f2 f3 HX HW hF hB4 bS4
      go_wp2_with (at_builtin; refine wpList_append_own _ rfl _ _ 73 rfl (w.heap.size + 1) 3 i0 (.int .i64 0) 1 8 Tryd.underlying73 hi hz0 hz1 hz2 rfl (by decide) _ _ _ rfl (hown4.alloc _) ⟨_, 0, none⟩ 1 1 [.int .i64 (q : Nat)] rfl rfl (cell_one_new _ _ _) (by simp [Value.oneCell']) (by unfold maxLen; omega) (by omega) (by simp; omega) ?_; intro v' w5 hown' hgrow hnil)
      have hl := fun k e => (hown4.lt k e).1
      go_roundw
      case rel =>
        refine ⟨k + 1, by go_num, by omega, Lib.hid ?_, Lib.hid ?_, ?_, Lib.hid ?_⟩
        · rw [HK.out.2.2]; simpa [ints] using hown'
        · exact (HK.out.1.alloc (by omega) _).grown hgrow (by simp; omega) (fun k e => by have := hl k e; omega)
        · have := hgrow.size; simp at this; omega
        · exact (hgrow.block _ (by simp; omega) (fun e => by have := hl _ e.symm; omega)).trans ((Below.heap_alloc _ _ _ (by omega)).trans HK.out.2.1)
      case measure => simp [intOf]; omega
    · obtain rfl : k = n := by omega
      have HR : Hid (wr.ownsRow (w.heap.size + 1) 3 1 u5 k (ints (fitsL ⟨g, cc, mn, mx⟩ l))) := Lib.hid (by have := hO.out; rw [← H.out.2.1, List.take_length] at this; rw [← H.out.2.1]; exact this)
      clear hlt
      go_wp2
      go_ret
      exact ⟨_, rfl, HR.out, hBl.out⟩
theorem sum_le16 {l : List Nat} (h : ∀ x ∈ l, x ≤ 16) : l.sum ≤ 16 * l.length := by
  induction l with
  | nil => simp
  | cons x l ih =>
    have h1 := h x (by simp)
    have h2 := ih fun y hy => h y (List.mem_cons_of_mem _ hy)
    rw [List.sum_cons, List.length_cons]; omega
set_option maxRecDepth 100000 in
theorem sum_any (a : Option Addr) (c : Nat) (l : List Nat) (w : World) (h : Row w a l) (h16 : ∀ x ∈ l, x ≤ 16) (hn : l.length ≤ 500000) :
    Calls Tryd.prog 61 #[.slice a l.length c] w fun e w' => e = .returned (.int .i64 (l.sum : Nat)) ∧ w = w' := by
  obtain ⟨n, hln⟩ : ∃ n, l.length = n := ⟨_, rfl⟩
  obtain ⟨R, hR⟩ : ∃ R, R = l.sum := ⟨_, rfl⟩
  have H := Lib.hid (And.intro h (And.intro hln (And.intro hR h16)))
  rw [hln] at hn ⊢
  rw [← hR]
  clear h hln hR h16
  go_enter Tryd.func61, Tryd.ntmps61
  go_wp2
  go_loop [3, 8] (fun s i => ∃ (k q : Nat), i = .int .i64 k ∧ s = .int .i64 q ∧ k ≤ n ∧ q ≤ 16 * k ∧ Hid (q = (l.take k).sum)) (fun _ i => n - (intOf i).toNat)
  case atStart => exact ⟨0, 0, rfl, rfl, by omega, by omega, Lib.hid (by simp)⟩
  case round =>
    obtain ⟨k, q, rfl, rfl, hk, hq, hS⟩ := hrel
    by_cases hlt : k < n
    · obtain ⟨x, hx⟩ := get_lt (l := l) (k := k) (by rw [H.out.2.1]; exact hlt)
      have hx16 := H.out.2.2.2 x (List.mem_of_getElem? hx)
      rcases H.out.1 with h0 | ⟨g, ha, hg, hc⟩
      · rw [h0] at hx; simp at hx
      subst ha
      have c1 := hc k (by rw [H.out.2.1]; exact hlt)
      rw [hx] at c1
      simp only [Option.getD_some] at c1
      have HN := Lib.hid (show q + x = (l.take (k + 1)).sum by rw [take_next hx, List.sum_append, ← hS.out]; simp)
      have t1 : decide (k < n) = true := decide_eq_true hlt
      clear hc hx hS hg
      go_wp2
      go_round
      case rel => exact ⟨k + 1, q + x, by go_num, by go_num, by omega, by omega, HN⟩
      case measure => simp [intOf]; omega
    · obtain rfl : k = n := by omega
      have e : R = q := by rw [H.out.2.2.1, hS.out, ← H.out.2.1, List.take_length]
      subst e
      clear hlt hS
      go_wp2
      go_ret
      exact ⟨rfl, rfl⟩
def roomF (S : Shp) (l : List Fe) : Nat := (fitsL S l).sum
theorem fitsL_le (S : Shp) (l : List Fe) : ∀ x ∈ fitsL S l, x ≤ 16 := fun x hx => by
  obtain ⟨f, _, rfl⟩ := List.mem_map.1 hx
  exact fitF_le S f
theorem fitsL_len (S : Shp) (l : List Fe) : (fitsL S l).length = l.length := List.length_map _
theorem roomF_le (S : Shp) (l : List Fe) : roomF S l ≤ 16 * l.length := by have := sum_le16 (fitsL_le S l); rwa [fitsL_len] at this
/-- fits, as sum asks it. -/
theorem fits_row (A : Option Addr) (c B : Nat) (l : List Fe) (S : Shp) (w : World) (h : Fes w B A l) (hB : B ≤ w.heap.size) (hn : l.length ≤ 500000) (hw : S.Wf) (hf : ∀ f ∈ l, FeOk f) (hT : Tab w) :
    Calls Tryd.prog 62 #[.slice A l.length c, shV S] w fun e w' => ∃ a cap, e = .returned (.slice a l.length cap) ∧ Row w' a (fitsL S l) ∧ Below w.heap.size w w' :=
  (fits_all A c B l S w h hB hn hw hf hT).mono fun e w' ⟨v, he, ho, hb⟩ => by
    rw [← fitsL_len S l] at ho
    obtain ⟨a, cap, rfl, hr⟩ := row_of_owns ho
    exact ⟨a, cap, by rw [he, fitsL_len], hr, hb⟩
set_option maxRecDepth 100000 in
theorem room_any (A : Option Addr) (c B : Nat) (l : List Fe) (S : Shp) (w : World) (h : Fes w B A l) (hB : B ≤ w.heap.size) (hn : l.length ≤ 500000) (hw : S.Wf) (hf : ∀ f ∈ l, FeOk f) (hT : Tab w) :
    Calls Tryd.prog 48 #[.slice A l.length c, shV S] w fun e w' => e = .returned (.int .i64 (roomF S l : Nat)) ∧ Below w.heap.size w w' := by
  obtain ⟨g, cc, mn, mx⟩ := S
  obtain ⟨w1, hw1⟩ : ∃ w1, w1 = w.alloc (.cells #[.int .i64 g, .int .i64 cc, .int .i64 mn, .int .i64 mx] 27) := ⟨_, rfl⟩
  have hB1 : Below w.heap.size w w1 := by rw [hw1]; exact (Below.refl w.heap.size w).alloc (Nat.le_refl _) _
  have hw1s : w1.heap.size = w.heap.size + 1 := by rw [hw1]; simp
  have hC := fits_row A c w1.heap.size l ⟨g, cc, mn, mx⟩ w1 (Fes.keep (h.imp hB fun _ _ _ _ h => h) hB1 (by omega)) (Nat.le_refl _) hn hw hf (hT.below hB1 hT.size)
  have hS := Lib.hid (fun a cap W (hr : Row W a (fitsL ⟨g, cc, mn, mx⟩ l)) => sum_any a cap (fitsL ⟨g, cc, mn, mx⟩ l) W hr (fitsL_le _ _) (by rw [fitsL_len]; exact hn))
  rw [fitsL_len] at hS
  have hr16 := roomF_le ⟨g, cc, mn, mx⟩ l
  obtain ⟨r, hr⟩ : ∃ r, r = roomF ⟨g, cc, mn, mx⟩ l := ⟨_, rfl⟩
  rw [← hr]
  unfold roomF at hr
  rw [← hr] at hS
  obtain ⟨n, hln⟩ : ∃ n, l.length = n := ⟨_, rfl⟩
  rw [hln] at hC hS ⊢
  have HC := Lib.hid hC
  have HW := Lib.hid hw1
  have HB := Lib.hid hB1
  clear hC hB1 h hf hT hln hr hr16 hw1s hw hn
  unfold shV at HC ⊢
  clear hw1
  go_enter Tryd.func48, Tryd.ntmps48
  go_wp2_with fail
  rw [← HW.out]
  refine HC.out.mono ?_
  rintro e w2 ⟨a, cap, rfl, hrow, hb2⟩
  go_wp2_with fail
  refine (hS.out a cap w2 hrow).mono ?_
  rintro e w' ⟨rfl, rfl⟩
  go_wp2
  go_ret
  exact ⟨rfl, below_step HB.out hb2⟩
end Go.Proofs.YtikgmgimdeibgaaDoor

namespace Go.Proofs.YtikgmgimdeibgaaDoor
open Go.RowKit
open PK
/-- What cmp.Compare answers of two numbers. -/
def cmpI (x y : Int) : Int := if x < y then -1 else if y < x then 1 else 0
theorem nan_any (x : Int) (w : World) : Calls Tryd.prog 60 #[.int .i64 x] w fun e w' => e = .returned (.bool false) ∧ w = w' := by
  have t0 : (x != x) = false := by simp
  go_enter Tryd.func60, Tryd.ntmps60
  go_wp2
  go_ret
  exact ⟨by simp, rfl⟩
theorem compare_any (x y : Int) (w : World) : Calls Tryd.prog 44 #[.int .i64 x, .int .i64 y] w fun e w' => e = .returned (.int .i64 (cmpI x y)) ∧ w = w' := by
  have h1 := Lib.hid (fun W => nan_any x W)
  have h2 := Lib.hid (fun W => nan_any y W)
  obtain ⟨r, hr⟩ : ∃ r, r = cmpI x y := ⟨_, rfl⟩
  rw [← hr]
  have HR := Lib.hid hr
  clear hr
  rcases Int.lt_trichotomy x y with h | h | h
  · have t1 : decide (x < y) = true := decide_eq_true h
    obtain rfl : r = -1 := by rw [HR.out]; unfold cmpI; rw [if_pos h]
    go_enter Tryd.func44, Tryd.ntmps44
    go_wp2_with (go_at_call 60; first | (refine (h1.out _).mono ?_; rintro e w' ⟨rfl, rfl⟩) | (refine (h2.out _).mono ?_; rintro e w' ⟨rfl, rfl⟩))
    go_ret
    exact ⟨rfl, rfl⟩
  · subst h
    have t1 : decide (x < x) = false := decide_eq_false (by omega)
    obtain rfl : r = 0 := by rw [HR.out]; unfold cmpI; rw [if_neg (by omega), if_neg (by omega)]
    go_enter Tryd.func44, Tryd.ntmps44
    go_wp2_with (go_at_call 60; first | (refine (h1.out _).mono ?_; rintro e w' ⟨rfl, rfl⟩) | (refine (h2.out _).mono ?_; rintro e w' ⟨rfl, rfl⟩))
    go_ret
    exact ⟨rfl, rfl⟩
  · have t1 : decide (x < y) = false := decide_eq_false (by omega)
    have t2 : decide (y < x) = true := decide_eq_true h
    obtain rfl : r = 1 := by rw [HR.out]; unfold cmpI; rw [if_neg (by omega), if_pos h]
    go_enter Tryd.func44, Tryd.ntmps44
    go_wp2_with (go_at_call 60; first | (refine (h1.out _).mono ?_; rintro e w' ⟨rfl, rfl⟩) | (refine (h2.out _).mono ?_; rintro e w' ⟨rfl, rfl⟩))
    go_ret
    exact ⟨rfl, rfl⟩
def ftL (L : List Nat) (x : Nat) : Nat := L[x]?.getD 0
def cvL (L : List Nat) (x y : Nat) : Int := cmpI (ftL L y : Nat) (ftL L x : Nat)
def keyL (L : List Nat) (x : Nat) : Nat := (16 - ftL L x) * L.length + x
theorem keyL_rel (L : List Nat) (h16 : ∀ x ∈ L, x ≤ 16) (x y : Nat) (hxy : x < y) (hy : y < L.length) : ltC (cvL L) y x = decide (keyL L y < keyL L x) := by
  have f : ∀ z, ftL L z ≤ 16 := fun z => by
    unfold ftL
    cases h : L[z]? with
    | none => simp
    | some v => exact h16 v (List.mem_of_getElem? h)
  have fx := f x
  have fy := f y
  unfold ltC cvL cmpI keyL
  generalize ftL L x = a at *
  generalize ftL L y = b at *
  generalize L.length = n at *
  have : (if (a : Int) < (b : Int) then (-1 : Int) else if (b : Int) < (a : Int) then 1 else 0) < 0 ↔ a < b := by split <;> (try split) <;> omega
  rw [decide_eq_decide, this]
  constructor
  · intro h
    obtain ⟨d, hd⟩ : ∃ d, 16 - a = (16 - b) + 1 + d := ⟨b - a - 1, by omega⟩
    rw [hd, Nat.add_mul, Nat.add_mul, Nat.one_mul]
    generalize (16 - b) * n = q
    generalize d * n = p
    omega
  · intro h
    rcases Nat.lt_or_ge a b with h1 | h1
    · exact h1
    · exfalso
      have : (16 - a) * n ≤ (16 - b) * n := Nat.mul_le_mul_right n (by omega)
      omega
/-- The spots' numbers, as they were made: 0 and on. -/
def firstN (n k : Nat) : List Nat := List.range k ++ List.replicate (n - k) 0
theorem firstN_set {n k : Nat} (h : k < n) : (firstN n k).set k k = firstN n (k + 1) := by
  unfold firstN
  obtain ⟨r, hr⟩ : ∃ r, n - k = r + 1 := ⟨n - k - 1, by omega⟩
  rw [hr, List.replicate_succ, List.set_append_right _ _ (by simp), List.length_range, Nat.sub_self, List.set_cons_zero, List.range_succ, show n - (k + 1) = r by omega]
  simp
theorem firstN_all (n : Nat) : firstN n n = List.range n := by unfold firstN; simp
end Go.Proofs.YtikgmgimdeibgaaDoor

namespace Go.Proofs.YtikgmgimdeibgaaDoor
open Go.RowKit

theorem info_slotP : (Tryd.prog.info? 57).map (fun i => (i.zero, i.size, i.bytes)) = some (some (.agg #[.int .i64 0, .int .i64 0, .int .u64 0, .int .i64 0]), 4, 32) := by kernel_rfl
def slotF (S : Shp) (f : Fe) : Fe := ⟨f.n, f.d, MM.low f.m S.g.toNat, S.c⟩
def restF (S : Shp) (f : Fe) : Fe := ⟨f.n, f.d, MM.sub f.m (MM.low f.m S.g.toNat), f.c - S.c⟩
def pieces (S : Shp) : Fe → Nat → List Fe
  | _, 0 => []
  | f, p + 1 => slotF S f :: pieces S (restF S f) p
def rests (S : Shp) : Fe → Nat → Fe
  | f, 0 => f
  | f, p + 1 => rests S (restF S f) p
theorem pieces_next (S : Shp) : ∀ (k : Nat) (f : Fe), pieces S f (k + 1) = pieces S f k ++ [slotF S (rests S f k)]
  | 0, _ => rfl
  | k + 1, f => by
    rw [pieces, pieces_next S k (restF S f)]
    rfl
theorem rests_next (S : Shp) : ∀ (k : Nat) (f : Fe), rests S f (k + 1) = restF S (rests S f k)
  | 0, _ => rfl
  | k + 1, f => by rw [rests, rests_next S k (restF S f)]; rfl
theorem pieces_len (S : Shp) : ∀ (k : Nat) (f : Fe), (pieces S f k).length = k
  | 0, _ => rfl
  | k + 1, f => by rw [pieces, List.length_cons, pieces_len]
theorem rests_spot (S : Shp) : ∀ (k : Nat) (f : Fe), (rests S f k).n = f.n ∧ (rests S f k).d = f.d
  | 0, _ => ⟨rfl, rfl⟩
  | k + 1, f => rests_spot S k (restF S f)
theorem tms_step (n a : Nat) : tms n a ≤ tms n (a - n) + 1 := by
  unfold tms
  by_cases h : n = 0
  · rw [if_pos h, if_pos h]; omega
  · rw [if_neg h, if_neg h]
    rcases Nat.lt_or_ge a n with h1 | h1
    · rw [Nat.div_eq_of_lt h1]; exact Nat.zero_le _
    · have := Nat.div_eq_sub_div (show 0 < n by omega) h1
      omega
theorem fit_pos' {S : Shp} {f : Fe} (h : 0 < fitF S f) : S.ok = true ∧ ∃ (g c k : Nat), S.g = g ∧ S.c = c ∧ f.c = k ∧ fitF S f = fitN g c (MM.cnt f.m) k ∧ g ≤ MM.cnt f.m ∧ c ≤ k := by
  obtain ⟨g, c, mn, mx⟩ := S
  cases hok : Shp.ok ⟨g, c, mn, mx⟩
  · unfold fitF at h; rw [hok] at h; simp at h
  · obtain ⟨g', c', rfl, rfl, _⟩ := Shp.nat hok
    have h2 : fitF ⟨(g' : Int), (c' : Int), mn, mx⟩ f = fitZ g' c' (MM.cnt f.m) f.c := by unfold fitF; rw [if_pos hok]; rfl
    rw [h2] at h
    by_cases h0 : f.c < 0
    · unfold fitZ at h; rw [if_pos h0] at h; omega
    · have h3 : fitZ g' c' (MM.cnt f.m) f.c = fitN g' c' (MM.cnt f.m) f.c.toNat := by unfold fitZ; rw [if_neg h0]
      rw [h3] at h
      obtain ⟨a, b⟩ := fit_pos h
      exact ⟨rfl, g', c', f.c.toNat, rfl, rfl, by omega, by rw [h2, h3], a, b⟩
theorem restF_fit {S : Shp} {f : Fe} (h : 0 < fitF S f) : fitF S f ≤ fitF S (restF S f) + 1 := by
  obtain ⟨hok, g, c, k, hg, hc, hk, e, h1, h2⟩ := fit_pos' h
  have e2 : fitF S (restF S f) = fitN g c (MM.cnt f.m - g) (k - c) := by
    unfold fitF restF
    rw [if_pos hok]
    simp only [hg, hc, hk]
    rw [show ((g : Int)).toNat = g from rfl, show ((c : Int)).toNat = c from rfl, MM.cnt_rest]
    unfold fitZ
    rw [if_neg (by omega)]
    congr 1
    omega
  rw [e, e2]
  unfold fitN
  have a1 := tms_step g (MM.cnt f.m)
  have a2 := tms_step c k
  omega
theorem slotF_ok {S : Shp} {f : Fe} (hw : S.Wf) (hf : FeOk f) : FeOk (slotF S f) := ⟨hf.n, hf.d, MM.low_lt _ _, hw.c⟩
theorem restF_ok {S : Shp} {f : Fe} (hf : FeOk f) (h : 0 < fitF S f) : FeOk (restF S f) := by
  obtain ⟨hok, g, c, k, hg, hc, hk, e, h1, h2⟩ := fit_pos' h
  have := bounds_i64 hf.c
  refine ⟨hf.n, hf.d, MM.sub_lt _ hf.m, ?_⟩
  unfold restF
  refine WalkArith.wf_i64 ?_
  simp only [hc, hk] at *
  omega
end Go.Proofs.YtikgmgimdeibgaaDoor

namespace Go.Proofs.YtikgmgimdeibgaaDoor
open Go.RowKit
open PK
/-- The slots of r members: spots gone through in the order of Z, into each as many as fit. -/
def placeL (S : Shp) (l : List Fe) : List Nat → Nat → List Fe
  | [], _ => []
  | k :: Z, r => match l[k]? with
    | none => placeL S l Z r
    | some f => pieces S f (min (fitF S f) r) ++ placeL S l Z (r - min (fitF S f) r)
/-- How many members fit into the spots of Z. -/
def fitSum (S : Shp) (l : List Fe) (Z : List Nat) : Nat := (Z.map (ftL (fitsL S l))).sum
theorem ftL_at {S : Shp} {l : List Fe} {k : Nat} {f : Fe} (h : l[k]? = some f) : ftL (fitsL S l) k = fitF S f := by unfold ftL fitsL; rw [List.getElem?_map, h]; rfl
theorem placeL_len (S : Shp) (l : List Fe) : ∀ (Z : List Nat) (r : Nat), (placeL S l Z r).length = min r (fitSum S l Z)
  | [], r => by simp [placeL, fitSum]
  | k :: Z, r => by
    unfold placeL
    have e : fitSum S l (k :: Z) = ftL (fitsL S l) k + fitSum S l Z := by simp [fitSum]
    rw [e]
    cases h : l[k]? with
    | none =>
      have : ftL (fitsL S l) k = 0 := by unfold ftL fitsL; rw [List.getElem?_map, h]; rfl
      rw [this]; simp only
      rw [placeL_len S l Z r, Nat.zero_add]
    | some f =>
      simp only
      rw [ftL_at h, List.length_append, pieces_len, placeL_len S l Z _]
      omega
theorem fitSum_take {S : Shp} {l : List Fe} {Z : List Nat} {j k : Nat} (h : Z[j]? = some k) : fitSum S l (Z.take (j + 1)) = fitSum S l (Z.take j) + ftL (fitsL S l) k := by
  unfold fitSum; rw [take_at h, List.map_append, List.sum_append]; simp
theorem placeL_next (S : Shp) (l : List Fe) {k : Nat} {f : Fe} (hk : l[k]? = some f) : ∀ (Z : List Nat) (r : Nat), placeL S l (Z ++ [k]) r = placeL S l Z r ++ pieces S f (min (fitF S f) (r - fitSum S l Z))
  | [], r => by simp [placeL, hk, fitSum]
  | q :: Z, r => by
    have e : fitSum S l (q :: Z) = ftL (fitsL S l) q + fitSum S l Z := by simp [fitSum]
    rw [e]
    cases h : l[q]? with
    | none =>
      have : ftL (fitsL S l) q = 0 := by unfold ftL fitsL; rw [List.getElem?_map, h]; rfl
      rw [this, Nat.zero_add]
      have := placeL_next S l hk Z r
      simp only [List.cons_append, placeL, h]
      exact this
    | some x =>
      rw [ftL_at h]
      have := placeL_next S l hk Z (r - min (fitF S x) r)
      simp only [List.cons_append, placeL, h]
      rw [this, List.append_assoc]
      congr 3
      omega
theorem fitSum_perm {S : Shp} {l : List Fe} {Z : List Nat} (h : Z.Perm (List.range l.length)) : fitSum S l Z = roomF S l := by
  have h1 : (Z.map (ftL (fitsL S l))).sum = ((List.range l.length).map (ftL (fitsL S l))).sum := (h.map _).sum_nat
  unfold fitSum roomF
  rw [h1]
  congr 1
  refine List.ext_getElem? fun i => ?_
  rw [List.getElem?_map]
  rcases Nat.lt_or_ge i l.length with hi | hi
  · rw [List.getElem?_range hi]
    have hf : i < (fitsL S l).length := by rw [fitsL_len]; exact hi
    unfold ftL
    rw [Option.map_some, List.getElem?_eq_getElem hf, Option.getD_some]
  · rw [List.getElem?_eq_none (by simpa using hi), List.getElem?_eq_none (by rw [fitsL_len]; exact hi)]; rfl
/-- Sorted by a key that tells all apart, a list is one. -/
theorem asc_unique {key : Nat → Nat} {Y Z : List Nat} (hp : Y.Perm Z) (hi : ∀ x ∈ Z, ∀ y ∈ Z, key x = key y → x = y) (hn : Z.Nodup) (hY : Asc key Y) (hZ : Asc key Z) : Y = Z := by
  induction Y generalizing Z with
  | nil => exact (List.nil_perm.1 hp).symm ▸ rfl
  | cons y Y ih =>
    cases Z with
    | nil => exact absurd hp.length_eq (by simp)
    | cons z Z =>
      have hyz : y = z := by
        have h1 : y ∈ z :: Z := hp.mem_iff.1 (by simp)
        have h2 : z ∈ y :: Y := hp.mem_iff.2 (by simp)
        have a : key z ≤ key y := by
          rcases List.mem_cons.1 h1 with h | h
          · rw [h]; exact Nat.le_refl _
          · exact (List.pairwise_cons.1 hZ).1 y h
        have b : key y ≤ key z := by
          rcases List.mem_cons.1 h2 with h | h
          · rw [h]; exact Nat.le_refl _
          · exact (List.pairwise_cons.1 hY).1 z h
        exact hi y h1 z (by simp) (by omega)
      subst hyz
      rw [ih ((List.perm_cons y).1 hp) (fun a ha b hb => hi a (List.mem_cons_of_mem _ ha) b (List.mem_cons_of_mem _ hb)) (List.nodup_cons.1 hn).2 (List.pairwise_cons.1 hY).2 (List.pairwise_cons.1 hZ).2]
theorem keyL_inj {L : List Nat} {x y : Nat} (hx : x < L.length) (hy : y < L.length) (h : keyL L x = keyL L y) : x = y := by
  unfold keyL at h
  have e1 := congrArg (· % L.length) h
  simp only [Nat.add_comm, Nat.mul_comm, Nat.add_mul_mod_self_left, Nat.mod_eq_of_lt hx, Nat.mod_eq_of_lt hy] at e1
  exact e1
theorem order_unique {L Y Z : List Nat} {n : Nat} (hL : L.length = n) (hY : Y.Perm (List.range n)) (hZ : Z.Perm (List.range n)) (aY : Asc (keyL L) Y) (aZ : Asc (keyL L) Z) : Y = Z :=
  asc_unique (hY.trans hZ.symm) (fun x hx y hy h => keyL_inj (by have := hZ.mem_iff.1 hx; rw [hL]; simpa using this) (by have := hZ.mem_iff.1 hy; rw [hL]; simpa using this) h) (hZ.nodup_iff.2 List.nodup_range) aY aZ
end Go.Proofs.YtikgmgimdeibgaaDoor

namespace Go.Proofs.YtikgmgimdeibgaaDoor
open Go.RowKit
open PK
theorem fes_up {w W : World} {B : Nat} {A : Option Addr} {l : List Fe} (h : Fes w B A l) (hB : B ≤ w.heap.size) (hW : Below w.heap.size w W) : Fes W W.heap.size A l := Fes.keep (Rows.imp h hB fun _ _ _ _ h => h) hW hW.size
theorem chk_any (S : Shp) (w : World) (hw : S.Wf) : Calls Tryd.prog 56 #[shV S] w fun e w' => e = .returned (.int .i64 (if S.ok then 0 else 1)) ∧ Below w.heap.size w w' := by
  obtain ⟨g, c, mn, mx⟩ := S
  unfold shV
  cases h : Shp.ok ⟨g, c, mn, mx⟩
  · exact check_no g c mn mx w hw h
  · exact check_ok g c mn mx w hw h
end Go.Proofs.YtikgmgimdeibgaaDoor

namespace Go.Proofs.YtikgmgimdeibgaaDoor
open Go.RowKit
open PK
def exS : Shp := ⟨1, 0, 1, 3⟩
def exL : List Fe := [⟨0, 0, 1, 0⟩, ⟨1, 0, 7, 0⟩]
theorem ex_fits : fitsL exS exL = [1, 3] := by decide +kernel
theorem ex_order {Z : List Nat} (hp : Z.Perm (List.range exL.length)) (ha : Asc (keyL (fitsL exS exL)) Z) : Z = [1, 0] := by
  refine order_unique (n := 2) (L := fitsL exS exL) (by rw [ex_fits]; rfl) hp (by decide) ha ?_
  rw [ex_fits]
  decide +kernel
theorem ex_place : placeL exS exL [1, 0] 4 = [⟨1, 0, 1, 0⟩, ⟨1, 0, 2, 0⟩, ⟨1, 0, 4, 0⟩, ⟨0, 0, 1, 0⟩] := by
  have h1 : fitF exS ⟨1, 0, 7, 0⟩ = 3 := by decide +kernel
  have h2 : fitF exS ⟨0, 0, 1, 0⟩ = 1 := by decide +kernel
  have p1 : pieces exS ⟨1, 0, 7, 0⟩ 3 = [⟨1, 0, 1, 0⟩, ⟨1, 0, 2, 0⟩, ⟨1, 0, 4, 0⟩] := by
    have a : MM.low 7 1 = 1 := by decide +kernel
    have b : MM.low 6 1 = 2 := by decide +kernel
    have c : MM.low 4 1 = 4 := by decide +kernel
    have d : MM.sub 7 1 = 6 := by decide +kernel
    have e : MM.sub 6 2 = 4 := by decide +kernel
    simp [pieces, slotF, restF, exS, a, b, c, d, e]
  have p2 : pieces exS ⟨0, 0, 1, 0⟩ 1 = [⟨0, 0, 1, 0⟩] := by
    have a : MM.low 1 1 = 1 := by decide +kernel
    simp [pieces, slotF, exS, a]
  simp [placeL, exL, h1, h2, p1, p2]
end Go.Proofs.YtikgmgimdeibgaaDoor
