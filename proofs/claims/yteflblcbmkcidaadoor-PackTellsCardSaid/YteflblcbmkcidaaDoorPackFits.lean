/- fits, sum, Room of package pack. -/
import Derived.Test.YteflblcbmkcidaaDoorPackMem
namespace Go.Proofs.YteflblcbmkcidaaDoor
open Go.RowKit

theorem info_intP : (Tryd.prog.info? 3).map (fun i => (i.zero, i.size, i.bytes)) = some (some (.int .i64 0), 1, 8) := by kernel_rfl
def fitsL (S : Shp) (l : List Fe) : List Nat := l.map (fitF S)
theorem fitsL_next {S : Shp} {l : List Fe} {k : Nat} {f : Fe} (h : l[k]? = some f) : fitsL S (l.take (k + 1)) = fitsL S (l.take k) ++ [fitF S f] := by unfold fitsL; rw [take_next h, List.map_append]; rfl
set_option maxRecDepth 100000 in
set_option maxHeartbeats 2000000 in
theorem fits_all (A : Option Addr) (c B : Nat) (l : List Fe) (S : Shp) (w : World) (h : Fes w B A l) (hB : B ≤ w.heap.size) (hn : l.length ≤ 500000) (hw : S.Wf) (hf : ∀ f ∈ l, FeOk f) (hT : Tab w) :
    Calls Tryd.prog 13 #[.slice A l.length c, shV S] w fun e w' => ∃ v, e = .returned v ∧ w'.ownsRow (w.heap.size + 1) 3 1 v l.length (ints (fitsL S l)) ∧ Below w.heap.size w w' := by
  obtain ⟨n, hln⟩ : ∃ n, l.length = n := ⟨_, rfl⟩
  have H := Lib.hid (And.intro h (And.intro hln (And.intro hf hw)))
  have HT := Lib.hid hT
  rw [hln] at hn ⊢
  have hTs := hT.size
  clear h hln hf hw hT
  obtain ⟨i0, hi, hz0, hz1, hz2⟩ := info_parts info_intP
  obtain ⟨g, cc, mn, mx⟩ := S
  unfold shV
  obtain ⟨w1, hw1⟩ : ∃ w1, w1 = w.alloc (.cells #[.int .i64 g, .int .i64 cc, .int .i64 mn, .int .i64 mx] 24) := ⟨_, rfl⟩
  have hB1 : Below w.heap.size w w1 := by rw [hw1]; exact (Below.refl w.heap.size w).alloc (Nat.le_refl _) _
  have bS : Hid (w1.heap[w.heap.size]? = some (.cells #[.int .i64 g, .int .i64 cc, .int .i64 mn, .int .i64 mx] 24 (0, 0))) := Lib.hid (by rw [hw1]; exact heap_alloc_new w _)
  have hs1 : w.heap.size < w1.heap.size := by rw [hw1]; simp
  have hw1s : w1.heap.size = w.heap.size + 1 := by rw [hw1]; simp
  go_enter Tryd.func13, Tryd.ntmps13
  go_wp2_with (at_make; rw [← hw1]; refine wpList_make_own _ rfl _ _ _ rfl (w.heap.size + 1) 3 i0 (.int .i64 0) 1 Tryd.underlying43 hi hz0 hz1 .i64 .i64 (n : Int) n rfl rfl rfl (by rw [hz2]; omega) (by unfold maxLen; omega) (by omega) ?_; intro w2 hown hgr)
  have HB2 : Hid (Below w.heap.size w w2) := Lib.hid (hB1.grown hgr (by omega) (fun k e => by cases e))
  have bS2 : Hid (w2.heap[w.heap.size]? = some (.cells #[.int .i64 g, .int .i64 cc, .int .i64 mn, .int .i64 mx] 24 (0, 0))) := Lib.hid ((hgr.block _ hs1 (by simp)).trans bS.out)
  have hs2 : w.heap.size < w2.heap.size := Nat.lt_of_lt_of_le hs1 hgr.size
  have HO : Hid (w2.ownsRow (w.heap.size + 1) 3 1 (.slice (some ⟨w.heap.size + 1, 0, none⟩) 0 n) 0 (ints (fitsL ⟨g, cc, mn, mx⟩ (l.take 0)))) := Lib.hid (by rw [hw1s] at hown; simpa [fitsL, ints] using hown)
  clear hown hgr bS hs1 hB1 hw1s
  go_loopw [5, 13] (fun out i wr => ∃ k : Nat, i = .int .i64 k ∧ k ≤ n ∧ Hid (wr.ownsRow (w.heap.size + 1) 3 1 out k (ints (fitsL ⟨g, cc, mn, mx⟩ (l.take k)))) ∧ Hid (Below w.heap.size w wr) ∧ w.heap.size < wr.heap.size ∧ Hid (wr.heap[w.heap.size]? = some (.cells #[.int .i64 g, .int .i64 cc, .int .i64 mn, .int .i64 mx] 24 (0, 0)))) (fun _ i _ => n - (intOf i).toNat)
  case atStart => exact ⟨0, rfl, by omega, HO, HB2, hs2, bS2⟩
  case round =>
    clear HO HB2 hs2 bS2 hw1
    obtain ⟨k, rfl, hk, hO, hBl, hsw, hS⟩ := hrel
    by_cases hlt : k < n
    · obtain ⟨f, hx⟩ := get_lt (l := l) (k := k) (by rw [H.out.2.1]; exact hlt)
      obtain ⟨b, off, hA, hb, hc⟩ := H.out.1.at_ hx
      subst hA
      have HBd := Lib.hid hb
      obtain ⟨f0, f1, f2, f3⟩ := (hc k f hx).keep (B := w.heap.size) (by omega) hBl.out
      obtain ⟨W, hW⟩ : ∃ W, W = wr.alloc (.cells #[.int .i64 f.n, .int .i64 f.d, .int .u64 (f.m : Nat), .int .i64 f.c] 40) := ⟨_, rfl⟩
      have hBW : Below w.heap.size w W := by rw [hW]; exact hBl.out.alloc (by omega) _
      have hBW' : Below wr.heap.size wr W := by rw [hW]; exact (Below.refl _ _).alloc (Nat.le_refl _) _
      have hWs : W.heap.size = wr.heap.size + 1 := by rw [hW]; simp
      have hF := Lib.hid (fit_any ⟨g, cc, mn, mx⟩ f W H.out.2.2.2 (H.out.2.2.1 f (List.mem_of_getElem? hx)) (HT.out.below hBW hTs))
      unfold shV feV at hF
      have hq := fitF_le ⟨g, cc, mn, mx⟩ f
      have hbox : W.heap[wr.heap.size]? = some (.cells #[.int .i64 f.n, .int .i64 f.d, .int .u64 (f.m : Nat), .int .i64 f.c] 40 (0, 0)) := by rw [hW]; exact heap_alloc_new wr _
      have bSW := (hBW'.block _ hsw).trans hS.out
      have s0 : wr.cell? ⟨w.heap.size, 0, none⟩ = some (.int .i64 g) := cell_blk (i := 0) hS.out rfl
      have s1 : wr.cell? ⟨w.heap.size, 1, none⟩ = some (.int .i64 cc) := cell_blk (i := 1) hS.out rfl
      have s2 : wr.cell? ⟨w.heap.size, 2, none⟩ = some (.int .i64 mn) := cell_blk (i := 2) hS.out rfl
      have s3 : wr.cell? ⟨w.heap.size, 3, none⟩ = some (.int .i64 mx) := cell_blk (i := 3) hS.out rfl
      have HX := Lib.hid (And.intro hBW (And.intro hBW' (And.intro hWs (And.intro bSW (fitsL_next (S := ⟨g, cc, mn, mx⟩) hx)))))
      obtain ⟨q, hqq⟩ : ∃ q, q = fitF ⟨g, cc, mn, mx⟩ f := ⟨_, rfl⟩
      rw [← hqq] at hF hq HX
      have HW := Lib.hid hW
      have t1 : decide (k < n) = true := decide_eq_true hlt
      clear hx hc hbox bSW hBW hBW' hqq hW hb
      go_wp2_with fail
      rw [← HW.out]
      refine hF.out.mono ?_
      rintro e w4 ⟨rfl, hb4⟩
      obtain ⟨hBW, hBW', hWs, bSW, hNx⟩ := HX.out
      have hown4 : w4.ownsRow (w.heap.size + 1) 3 1 u5 k (ints (fitsL ⟨g, cc, mn, mx⟩ (l.take k))) := own_below (own_below hO.out hBW') hb4
      have hs4 := hb4.size
      have hB4 : Below w.heap.size w w4 := hBW.trans (hb4.mono (by omega))
      have bS4 := (hb4.block w.heap.size (by omega)).trans bSW
      have hz4 : w.heap.size + 1 < w4.heap.size := by omega
      have HK := Lib.hid (And.intro hB4 (And.intro bS4 hNx))
      clear hBW hBW' hWs bSW hNx hb4 hs4 hO hBl hsw hS s0 s1 s2 s3 f0 f1 f2 f3 HX HW hF hB4 bS4
      go_wp2_with (at_builtin; refine wpList_append_own _ rfl _ _ 43 rfl (w.heap.size + 1) 3 i0 (.int .i64 0) 1 8 Tryd.underlying43 hi hz0 hz1 hz2 rfl (by decide) _ _ _ rfl (hown4.alloc _) ⟨_, 0, none⟩ 1 1 [.int .i64 (q : Nat)] rfl rfl (cell_one_new _ _ _) (by simp [Value.oneCell']) (by unfold maxLen; omega) (by omega) (by simp; omega) ?_; intro v' w5 hown' hgrow hnil)
      have hl := fun k e => (hown4.lt k e).1
      go_roundw
      case rel =>
        refine ⟨k + 1, by go_num, by omega, Lib.hid ?_, Lib.hid ?_, ?_, Lib.hid ?_⟩
        · rw [HK.out.2.2]; simpa [ints] using hown'
        · exact (HK.out.1.alloc (by omega) _).grown hgrow (by simp; omega) (fun k e => by have := hl k e; omega)
        · have := hgrow.size; simp at this; omega
        · exact (hgrow.block _ (by simp; omega) (fun e => by have := hl _ e.symm; omega)).trans ((Below.heap_alloc _ _ _ (by omega)).trans HK.out.2.1)
      case measure => simp [intOf]; omega
    · obtain rfl : k = n := by omega
      have HR : Hid (wr.ownsRow (w.heap.size + 1) 3 1 u5 k (ints (fitsL ⟨g, cc, mn, mx⟩ l))) := Lib.hid (by have := hO.out; rw [← H.out.2.1, List.take_length] at this; rw [← H.out.2.1]; exact this)
      clear hlt
      go_wp2
      go_ret
      exact ⟨_, rfl, HR.out, hBl.out⟩
theorem sum_le16 {l : List Nat} (h : ∀ x ∈ l, x ≤ 16) : l.sum ≤ 16 * l.length := by
  induction l with
  | nil => simp
  | cons x l ih =>
    have h1 := h x (by simp)
    have h2 := ih fun y hy => h y (List.mem_cons_of_mem _ hy)
    rw [List.sum_cons, List.length_cons]; omega
set_option maxRecDepth 100000 in
theorem sum_any (a : Option Addr) (c : Nat) (l : List Nat) (w : World) (h : Row w a l) (h16 : ∀ x ∈ l, x ≤ 16) (hn : l.length ≤ 500000) :
    Calls Tryd.prog 14 #[.slice a l.length c] w fun e w' => e = .returned (.int .i64 (l.sum : Nat)) ∧ w = w' := by
  obtain ⟨n, hln⟩ : ∃ n, l.length = n := ⟨_, rfl⟩
  obtain ⟨R, hR⟩ : ∃ R, R = l.sum := ⟨_, rfl⟩
  have H := Lib.hid (And.intro h (And.intro hln (And.intro hR h16)))
  rw [hln] at hn ⊢
  rw [← hR]
  clear h hln hR h16
  go_enter Tryd.func14, Tryd.ntmps14
  go_wp2
  go_loop [3, 8] (fun s i => ∃ (k q : Nat), i = .int .i64 k ∧ s = .int .i64 q ∧ k ≤ n ∧ q ≤ 16 * k ∧ Hid (q = (l.take k).sum)) (fun _ i => n - (intOf i).toNat)
  case atStart => exact ⟨0, 0, rfl, rfl, by omega, by omega, Lib.hid (by simp)⟩
  case round =>
    obtain ⟨k, q, rfl, rfl, hk, hq, hS⟩ := hrel
    by_cases hlt : k < n
    · obtain ⟨x, hx⟩ := get_lt (l := l) (k := k) (by rw [H.out.2.1]; exact hlt)
      have hx16 := H.out.2.2.2 x (List.mem_of_getElem? hx)
      rcases H.out.1 with h0 | ⟨g, ha, hg, hc⟩
      · rw [h0] at hx; simp at hx
      subst ha
      have c1 := hc k (by rw [H.out.2.1]; exact hlt)
      rw [hx] at c1
      simp only [Option.getD_some] at c1
      have HN := Lib.hid (show q + x = (l.take (k + 1)).sum by rw [take_next hx, List.sum_append, ← hS.out]; simp)
      have t1 : decide (k < n) = true := decide_eq_true hlt
      clear hc hx hS hg
      go_wp2
      go_round
      case rel => exact ⟨k + 1, q + x, by go_num, by go_num, by omega, by omega, HN⟩
      case measure => simp [intOf]; omega
    · obtain rfl : k = n := by omega
      have e : R = q := by rw [H.out.2.2.1, hS.out, ← H.out.2.1, List.take_length]
      subst e
      clear hlt hS
      go_wp2
      go_ret
      exact ⟨rfl, rfl⟩
def roomF (S : Shp) (l : List Fe) : Nat := (fitsL S l).sum
theorem fitsL_le (S : Shp) (l : List Fe) : ∀ x ∈ fitsL S l, x ≤ 16 := fun x hx => by
  obtain ⟨f, _, rfl⟩ := List.mem_map.1 hx
  exact fitF_le S f
theorem fitsL_len (S : Shp) (l : List Fe) : (fitsL S l).length = l.length := List.length_map _
theorem roomF_le (S : Shp) (l : List Fe) : roomF S l ≤ 16 * l.length := by have := sum_le16 (fitsL_le S l); rwa [fitsL_len] at this
/-- fits, as sum asks it. -/
theorem fits_row (A : Option Addr) (c B : Nat) (l : List Fe) (S : Shp) (w : World) (h : Fes w B A l) (hB : B ≤ w.heap.size) (hn : l.length ≤ 500000) (hw : S.Wf) (hf : ∀ f ∈ l, FeOk f) (hT : Tab w) :
    Calls Tryd.prog 13 #[.slice A l.length c, shV S] w fun e w' => ∃ a cap, e = .returned (.slice a l.length cap) ∧ Row w' a (fitsL S l) ∧ Below w.heap.size w w' :=
  (fits_all A c B l S w h hB hn hw hf hT).mono fun e w' ⟨v, he, ho, hb⟩ => by
    rw [← fitsL_len S l] at ho
    obtain ⟨a, cap, rfl, hr⟩ := row_of_owns ho
    exact ⟨a, cap, by rw [he, fitsL_len], hr, hb⟩
set_option maxRecDepth 100000 in
theorem room_any (A : Option Addr) (c B : Nat) (l : List Fe) (S : Shp) (w : World) (h : Fes w B A l) (hB : B ≤ w.heap.size) (hn : l.length ≤ 500000) (hw : S.Wf) (hf : ∀ f ∈ l, FeOk f) (hT : Tab w) :
    Calls Tryd.prog 8 #[.slice A l.length c, shV S] w fun e w' => e = .returned (.int .i64 (roomF S l : Nat)) ∧ Below w.heap.size w w' := by
  obtain ⟨g, cc, mn, mx⟩ := S
  obtain ⟨w1, hw1⟩ : ∃ w1, w1 = w.alloc (.cells #[.int .i64 g, .int .i64 cc, .int .i64 mn, .int .i64 mx] 24) := ⟨_, rfl⟩
  have hB1 : Below w.heap.size w w1 := by rw [hw1]; exact (Below.refl w.heap.size w).alloc (Nat.le_refl _) _
  have hw1s : w1.heap.size = w.heap.size + 1 := by rw [hw1]; simp
  have hC := fits_row A c w1.heap.size l ⟨g, cc, mn, mx⟩ w1 (Fes.keep (h.imp hB fun _ _ _ _ h => h) hB1 (by omega)) (Nat.le_refl _) hn hw hf (hT.below hB1 hT.size)
  have hS := Lib.hid (fun a cap W (hr : Row W a (fitsL ⟨g, cc, mn, mx⟩ l)) => sum_any a cap (fitsL ⟨g, cc, mn, mx⟩ l) W hr (fitsL_le _ _) (by rw [fitsL_len]; exact hn))
  rw [fitsL_len] at hS
  have hr16 := roomF_le ⟨g, cc, mn, mx⟩ l
  obtain ⟨r, hr⟩ : ∃ r, r = roomF ⟨g, cc, mn, mx⟩ l := ⟨_, rfl⟩
  rw [← hr]
  unfold roomF at hr
  rw [← hr] at hS
  obtain ⟨n, hln⟩ : ∃ n, l.length = n := ⟨_, rfl⟩
  rw [hln] at hC hS ⊢
  have HC := Lib.hid hC
  have HW := Lib.hid hw1
  have HB := Lib.hid hB1
  clear hC hB1 h hf hT hln hr hr16 hw1s hw hn
  unfold shV at HC ⊢
  clear hw1
  go_enter Tryd.func8, Tryd.ntmps8
  go_wp2_with fail
  rw [← HW.out]
  refine HC.out.mono ?_
  rintro e w2 ⟨a, cap, rfl, hrow, hb2⟩
  go_wp2_with fail
  refine (hS.out a cap w2 hrow).mono ?_
  rintro e w' ⟨rfl, rfl⟩
  go_wp2
  go_ret
  exact ⟨rfl, below_step HB.out hb2⟩
end Go.Proofs.YteflblcbmkcidaaDoor
