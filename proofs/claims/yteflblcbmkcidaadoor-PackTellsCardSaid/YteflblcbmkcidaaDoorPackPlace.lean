/- Place of package pack. -/
import Derived.Deep.Onto
import Derived.Test.YteflblcbmkcidaaDoorHeldOn
import Derived.Test.YteflblcbmkcidaaDoorPackPlaceM
namespace Go.Proofs.YteflblcbmkcidaaDoor
open Go.RowKit
open PK
theorem fes_up {w W : World} {B : Nat} {A : Option Addr} {l : List Fe} (h : Fes w B A l) (hB : B ≤ w.heap.size) (hW : Below w.heap.size w W) : Fes W W.heap.size A l := Fes.keep (Rows.imp h hB fun _ _ _ _ h => h) hW hW.size
theorem chk_any (S : Shp) (w : World) (hw : S.Wf) : Calls Tryd.prog 12 #[shV S] w fun e w' => e = .returned (.int .i64 (if S.ok then 0 else 1)) ∧ Below w.heap.size w w' := by
  obtain ⟨g, c, mn, mx⟩ := S
  unfold shV
  cases h : Shp.ok ⟨g, c, mn, mx⟩
  · exact check_no g c mn mx w hw h
  · exact check_ok g c mn mx w hw h
set_option maxRecDepth 100000 in
set_option maxHeartbeats 1000000 in
theorem place_bad (A : Option Addr) (n cap : Nat) (S : Shp) (p : Int) (w : World) (hw : S.Wf) (h : S.ok = false ∨ p < 1 ∨ 16 < p) :
    Calls Tryd.prog 6 #[.slice A n cap, shV S, .int .i64 p] w fun e w' => e = .returned (.tuple #[.slice none 0 0, .int .i64 1]) ∧ Below w.heap.size w w' := by
  obtain ⟨w1, hw1⟩ : ∃ w1, w1 = w.alloc (.cells #[.int .i64 S.g, .int .i64 S.c, .int .i64 S.mn, .int .i64 S.mx] 24) := ⟨_, rfl⟩
  have hB1 : Below w.heap.size w w1 := by rw [hw1]; exact (Below.refl w.heap.size w).alloc (Nat.le_refl _) _
  have hC := Lib.hid (chk_any S w1 hw)
  have HB := Lib.hid hB1
  have HW := Lib.hid hw1
  clear hw1 hB1 hw
  unfold shV at hC ⊢
  cases hok : S.ok
  · rw [hok] at hC
    simp only [Bool.false_eq_true, if_false] at hC
    clear h hok
    go_enter Tryd.func6, Tryd.ntmps6
    go_wp2_with fail
    rw [← HW.out]
    refine hC.out.mono ?_
    rintro e w2 ⟨rfl, hb2⟩
    go_wp2
    go_ret2
    exact ⟨rfl, below_step HB.out hb2⟩
  · rw [hok] at hC h
    simp only [if_true] at hC
    have h : p < 1 ∨ 16 < p := by rcases h with h | h; cases h; exact h
    clear hok
    by_cases h1 : p < 1
    · have t1 : decide (p < 1) = true := decide_eq_true h1
      clear h
      go_enter Tryd.func6, Tryd.ntmps6
      go_wp2_with fail
      rw [← HW.out]
      refine hC.out.mono ?_
      rintro e w2 ⟨rfl, hb2⟩
      go_wp2
      go_ret2
      exact ⟨rfl, below_step HB.out hb2⟩
    · have t1 : decide (p < 1) = false := decide_eq_false h1
      have t2 : decide (16 < p) = true := decide_eq_true (by omega)
      clear h h1
      go_enter Tryd.func6, Tryd.ntmps6
      go_wp2_with fail
      rw [← HW.out]
      refine hC.out.mono ?_
      rintro e w2 ⟨rfl, hb2⟩
      go_wp2
      go_ret2
      exact ⟨rfl, below_step HB.out hb2⟩
set_option maxRecDepth 100000 in
set_option maxHeartbeats 1000000 in
theorem place_full (A : Option Addr) (cap B : Nat) (l : List Fe) (S : Shp) (p : Nat) (w : World) (h : Fes w B A l) (hB : B ≤ w.heap.size) (hn : l.length ≤ 500000) (hw : S.Wf) (hf : ∀ f ∈ l, FeOk f) (hT : Tab w) (hok : S.ok = true) (h1 : 1 ≤ p) (h16 : p ≤ 16) (hr : roomF S l < p) :
    Calls Tryd.prog 6 #[.slice A l.length cap, shV S, .int .i64 (p : Nat)] w fun e w' => e = .returned (.tuple #[.slice none 0 0, .int .i64 7]) ∧ Below w.heap.size w w' := by
  obtain ⟨w1, hw1⟩ : ∃ w1, w1 = w.alloc (.cells #[.int .i64 S.g, .int .i64 S.c, .int .i64 S.mn, .int .i64 S.mx] 24) := ⟨_, rfl⟩
  have hB1 : Below w.heap.size w w1 := by rw [hw1]; exact (Below.refl w.heap.size w).alloc (Nat.le_refl _) _
  have hs1 : w.heap.size < w1.heap.size := by rw [hw1]; simp
  have bS1 : w1.heap[w.heap.size]? = some (.cells #[.int .i64 S.g, .int .i64 S.c, .int .i64 S.mn, .int .i64 S.mx] 24 (0, 0)) := by rw [hw1]; exact heap_alloc_new w _
  have hC := chk_any S w1 hw
  rw [hok] at hC
  simp only [if_true] at hC
  have hC := Lib.hid hC
  have hF := Lib.hid (fun W (hW : Below w.heap.size w W) => fits_row A cap W.heap.size l S W (fes_up h hB hW) (Nat.le_refl _) hn hw hf (hT.below hW hT.size))
  have hS := Lib.hid (fun a c W (hr : Row W a (fitsL S l)) => sum_any a c (fitsL S l) W hr (fitsL_le _ _) (by rw [fitsL_len]; exact hn))
  rw [fitsL_len] at hS
  have hrr := hr
  unfold roomF at hrr
  obtain ⟨r, hrd⟩ : ∃ r, r = (fitsL S l).sum := ⟨_, rfl⟩
  rw [← hrd] at hS hrr
  obtain ⟨n, hln⟩ : ∃ n, l.length = n := ⟨_, rfl⟩
  rw [hln] at hF hS ⊢
  have HB := Lib.hid hB1
  have HW := Lib.hid hw1
  have HX := Lib.hid bS1
  have t1 : decide ((p : Int) < 1) = false := decide_eq_false (by omega)
  have t2 : decide (16 < (p : Int)) = false := decide_eq_false (by omega)
  have t3 : decide (r < p) = true := decide_eq_true hrr
  clear hw1 hB1 hw h hf hT hr hrr hrd hln hok hn bS1
  unfold shV at hC hF ⊢
  go_enter Tryd.func6, Tryd.ntmps6
  go_wp2_with fail
  rw [← HW.out]
  refine hC.out.mono ?_
  rintro e w2 ⟨rfl, hb2⟩
  have hs2 := hb2.size
  have hB2 := below_step HB.out hb2
  have bS2 := (hb2.block w.heap.size hs1).trans HX.out
  have s0 : w2.cell? ⟨w.heap.size, 0, none⟩ = _ := cell_blk (i := 0) bS2 rfl
  have s1 : w2.cell? ⟨w.heap.size, 1, none⟩ = _ := cell_blk (i := 1) bS2 rfl
  have s2 : w2.cell? ⟨w.heap.size, 2, none⟩ = _ := cell_blk (i := 2) bS2 rfl
  have s3 : w2.cell? ⟨w.heap.size, 3, none⟩ = _ := cell_blk (i := 3) bS2 rfl
  go_wp2_with fail
  refine (hF.out w2 hB2).mono ?_
  rintro e w3 ⟨a, c3, rfl, hrow, hb3⟩
  clear s0 s1 s2 s3
  go_wp2_with fail
  refine (hS.out a c3 w3 hrow).mono ?_
  rintro e w' ⟨rfl, rfl⟩
  go_wp2
  go_ret2
  exact ⟨rfl, below_step hB2 hb3⟩
set_option maxRecDepth 100000 in
set_option maxHeartbeats 4000000 in
theorem place_ok (A : Option Addr) (cap B : Nat) (l : List Fe) (S : Shp) (p : Nat) (w : World) (h : Fes w B A l) (hB : B ≤ w.heap.size) (hn : l.length ≤ 500000) (hw : S.Wf) (hf : ∀ f ∈ l, FeOk f) (hT : Tab w) (hok : S.ok = true) (h1 : 1 ≤ p) (h16 : p ≤ 16) (hr : p ≤ roomF S l) :
    Calls Tryd.prog 6 #[.slice A l.length cap, shV S, .int .i64 (p : Nat)] w fun e w' => ∃ A' cap', e = .returned (.tuple #[.slice A' p cap', .int .i64 0]) ∧ Below w.heap.size w w' ∧
      Hid (∃ Z, Z.Perm (List.range l.length) ∧ Asc (keyL (fitsL S l)) Z ∧ w'.ownsRow w.heap.size 41 4 (.slice A' p cap') p ((placeL S l Z p).flatMap feC)) := by
  obtain ⟨w1, hw1⟩ : ∃ w1, w1 = w.alloc (.cells #[.int .i64 S.g, .int .i64 S.c, .int .i64 S.mn, .int .i64 S.mx] 24) := ⟨_, rfl⟩
  have hB1 : Below w.heap.size w w1 := by rw [hw1]; exact (Below.refl w.heap.size w).alloc (Nat.le_refl _) _
  have hs1 : w.heap.size < w1.heap.size := by rw [hw1]; simp
  have bS1 : w1.heap[w.heap.size]? = some (.cells #[.int .i64 S.g, .int .i64 S.c, .int .i64 S.mn, .int .i64 S.mx] 24 (0, 0)) := by rw [hw1]; exact heap_alloc_new w _
  have hC := chk_any S w1 hw
  rw [hok] at hC
  simp only [if_true] at hC
  have hC := Lib.hid hC
  have hF := Lib.hid (fun W (hW : Below w.heap.size w W) => fits_row A cap W.heap.size l S W (fes_up h hB hW) (Nat.le_refl _) hn hw hf (hT.below hW hT.size))
  have hS := Lib.hid (fun a c W (hr : Row W a (fitsL S l)) => sum_any a c (fitsL S l) W hr (fitsL_le _ _) (by rw [fitsL_len]; exact hn))
  rw [fitsL_len] at hS
  have hl0 : 0 < l.length := by
    rcases Nat.eq_zero_or_pos l.length with e | e
    · have := roomF_le S l; rw [e] at this; omega
    · exact e
  have hO := Lib.hid (fun a c W (hr : Row W a (fitsL S l)) => roomiest_any a c (fitsL S l) W hr (fitsL_le _ _) (by rw [fitsL_len]; exact hl0) (by rw [fitsL_len]; exact hn))
  rw [fitsL_len] at hO
  have hrr := hr
  unfold roomF at hrr
  obtain ⟨r, hrd⟩ : ∃ r, r = (fitsL S l).sum := ⟨_, rfl⟩
  rw [← hrd] at hS hrr
  obtain ⟨n, hln⟩ : ∃ n, l.length = n := ⟨_, rfl⟩
  have H := Lib.hid (And.intro h (And.intro hln (And.intro hw (And.intro hf (And.intro hT hr)))))
  rw [hln] at hF hS hO hn hl0 ⊢
  have HB := Lib.hid hB1
  have HW := Lib.hid hw1
  have HX := Lib.hid bS1
  have t1 : decide ((p : Int) < 1) = false := decide_eq_false (by omega)
  have t2 : decide (16 < (p : Int)) = false := decide_eq_false (by omega)
  have t3 : decide (r < p) = false := decide_eq_false (by omega)
  clear hw1 hB1 hw h hf hT hr hrr hrd hln hok bS1
  unfold shV at hC hF ⊢
  obtain ⟨i0, hi, hz0, hz1, hz2⟩ := info_parts info_slotP
  go_enter Tryd.func6, Tryd.ntmps6
  go_wp2_with fail
  rw [← HW.out]
  refine hC.out.mono ?_
  rintro e w2 ⟨rfl, hb2⟩
  have hs2 := hb2.size
  have hB2 := below_step HB.out hb2
  have bS2 := (hb2.block w.heap.size hs1).trans HX.out
  have s0 : w2.cell? ⟨w.heap.size, 0, none⟩ = _ := cell_blk (i := 0) bS2 rfl
  have s1 : w2.cell? ⟨w.heap.size, 1, none⟩ = _ := cell_blk (i := 1) bS2 rfl
  have s2 : w2.cell? ⟨w.heap.size, 2, none⟩ = _ := cell_blk (i := 2) bS2 rfl
  have s3 : w2.cell? ⟨w.heap.size, 3, none⟩ = _ := cell_blk (i := 3) bS2 rfl
  go_wp2_with fail
  refine (hF.out w2 hB2).mono ?_
  rintro e w3 ⟨fa, fc, rfl, hrow, hb3⟩
  clear s0 s1 s2 s3
  have hs3 := hb3.size
  have hB3 := Lib.hid (below_step hB2 hb3)
  have bS3 := Lib.hid ((hb3.block w.heap.size (by omega)).trans bS2)
  have hRow := Lib.hid hrow
  clear hb2 hb3 hB2 bS2 hrow hC hF
  have hz3 : w.heap.size < w3.heap.size := by omega
  go_wp2_with fail
  refine (hS.out fa fc w3 hRow.out).mono ?_
  rintro e w' ⟨rfl, rfl⟩
  clear hS hs1 hs2 hs3
  go_wp2_with (at_make; refine wpList_make_own _ rfl _ _ _ rfl w3.heap.size 41 i0 (.agg #[.int .i64 0, .int .i64 0, .int .u64 0, .int .i64 0]) 4 Tryd.underlying27 hi hz0 hz1 .i64 .i64 (p : Int) p rfl rfl rfl (by rw [hz2]; omega) (by unfold maxLen; omega) (Nat.le_refl _) ?_; intro w4 hown4 hgr4)
  have hlt4 := (hown4.lt w3.heap.size rfl).2
  have hb34 : Below w3.heap.size w3 w4 := (Below.refl _ _).grown hgr4 (Nat.le_refl _) (fun k e => by cases e)
  have hRow4 := Lib.hid (hRow.out.below hb34)
  have hB4 := Lib.hid (below_step hB3.out hb34)
  have bS4 := Lib.hid ((hb34.block w.heap.size hz3).trans bS3.out)
  have hO4 := Lib.hid hown4
  clear hgr4 hown4 hb34 hB3 bS3 hi hz0 hz1 hz2
  go_wp2_with fail
  refine (hO.out fa fc w4 hRow4.out).mono ?_
  rintro e w5 ⟨g, rfl, hg, hb5, hZ⟩
  obtain ⟨Z, zb, zp, za⟩ := hZ.out
  have hs5 := hb5.size
  have hzl : Z.length = n := by rw [zp.length_eq, List.length_range]
  have hg5 : g < w5.heap.size := zb.lt
  have hgf : ∃ gf, fa = some ⟨gf, 0, none⟩ ∧ gf < w3.heap.size := by
    rcases hRow.out with e | ⟨gf, e, hgf, _⟩
    · have := congrArg List.length e; rw [fitsL_len, H.out.2.1] at this; simp at this; omega
    · exact ⟨gf, e, hgf⟩
  obtain ⟨gf, rfl, hgf⟩ := hgf
  obtain ⟨St, hSt⟩ : ∃ St : Nat → World → Value → Prop, St = fun (j : Nat) (wr : World) (v : Value) => ∃ A' c', v = .slice A' (placeL S l (Z.take j) p).length c' ∧ wr.ownsRow w3.heap.size 41 4 v (placeL S l (Z.take j) p).length ((placeL S l (Z.take j) p).flatMap feC) ∧ (∀ i, v.ownBlock = some i → i = w3.heap.size ∨ w5.heap.size ≤ i) ∧
    Blk wr g Z ∧ wr.heap[w.heap.size]? = some (.cells #[.int .i64 S.g, .int .i64 S.c, .int .i64 S.mn, .int .i64 S.mx] 24 (0, 0)) ∧ Row wr (some ⟨gf, 0, none⟩) (fitsL S l) ∧ Below w.heap.size w wr ∧ w5.heap.size ≤ wr.heap.size := ⟨_, rfl⟩
  have HS0 : Hid (St 0 w5 (.slice (some ⟨w3.heap.size, 0, none⟩) 0 p)) := Lib.hid (by
    rw [hSt]
    exact ⟨_, _, rfl, own_below hO4.out hb5, fun i e => .inl (by simpa [Value.ownBlock] using e.symm), zb, (hb5.block _ (by omega)).trans bS4.out, hRow4.out.below hb5, below_step hB4.out hb5, Nat.le_refl _⟩)
  have HZ := Lib.hid (And.intro hSt (And.intro zp (And.intro za hzl)))
  clear hZ zb hb5 hO4 bS4 hRow4 hB4 hRow hO hSt zp za hzl
  go_wp2
  go_loopw [9, 35] (fun v i wr => ∃ j : Nat, i = .int .i64 j ∧ j ≤ n ∧ Hid (St j wr v)) (fun _ i _ => n - (intOf i).toNat)
  case atStart => exact ⟨0, rfl, by omega, HS0⟩
  case round =>
    clear HS0
    obtain ⟨j, rfl, hj, hS⟩ := hrel
    have hSj := hS.out
    rw [HZ.out.1] at hSj
    obtain ⟨A', c', rfl, hown, hfar, hZb, bS, hRw, hBw, hsw⟩ := hSj
    clear hS
    by_cases hlt : j < n
    · obtain ⟨k, hk⟩ := get_of_lt (L := Z) (k := j) (by rw [HZ.out.2.2.2]; exact hlt)
      have hkn : k < n := by have := HZ.out.2.1.mem_iff.1 (List.mem_of_getElem? hk); simpa using this
      obtain ⟨f, hx⟩ := get_lt (l := l) (k := k) (by rw [H.out.2.1]; exact hkn)
      obtain ⟨b, off, rfl, hb, hc⟩ := H.out.1.at_ hx
      obtain ⟨f0, f1, f2, f3⟩ := (hc k f hx).keep (B := w.heap.size) (by omega) hBw
      have c1 := hZb.cell hk
      have s0 : wr.cell? ⟨w.heap.size, 0, none⟩ = some (.int .i64 S.g) := cell_blk (i := 0) bS rfl
      have s1 : wr.cell? ⟨w.heap.size, 1, none⟩ = some (.int .i64 S.c) := cell_blk (i := 1) bS rfl
      have s2 : wr.cell? ⟨w.heap.size, 2, none⟩ = some (.int .i64 S.mn) := cell_blk (i := 2) bS rfl
      have s3 : wr.cell? ⟨w.heap.size, 3, none⟩ = some (.int .i64 S.mx) := cell_blk (i := 3) bS rfl
      obtain ⟨q, hq⟩ : ∃ q, q = fitF S f := ⟨_, rfl⟩
      have c2 : wr.cell? ⟨gf, k, none⟩ = some (.int .i64 (q : Nat)) := by
        rcases hRw with e | ⟨g', e, _, hcc⟩
        · have := congrArg List.length e; rw [fitsL_len, H.out.2.1] at this; simp at this; omega
        · cases e
          have := hcc k (by rw [fitsL_len, H.out.2.1]; exact hkn)
          rw [hq, ← ftL_at hx]
          exact this
      obtain ⟨m, hm⟩ : ∃ m, m = (placeL S l (Z.take j) p).length := ⟨_, rfl⟩
      have hmp : m ≤ p := by rw [hm, placeL_len]; omega
      rw [← hm] at hown hfar ⊢
      have HK := Lib.hid (And.intro hk (And.intro hx (And.intro hm (And.intro hq (And.intro hown (And.intro hfar (And.intro hZb (And.intro bS (And.intro hRw hBw)))))))))
      have j1 : (k : Int) < (n : Int) := by omega
      have t4 : decide (j < n) = true := decide_eq_true hlt
      clear hk hx hc hm hq hown hfar hZb bS hRw hBw
      go_wp2_with fail
      refine held_begin (fun w' : World => w'.cell? ⟨b, off + k * 4, none⟩ = some (.int .i64 f.n) ∧ w'.cell? ⟨b, off + k * 4 + 1, none⟩ = some (.int .i64 f.d) ∧ w'.cell? ⟨b, off + k * 4 + 2, none⟩ = some (.int .u64 (f.m : Nat)) ∧ w'.cell? ⟨b, off + k * 4 + 3, none⟩ = some (.int .i64 f.c) ∧ w'.cell? ⟨w.heap.size, 0, none⟩ = some (.int .i64 S.g) ∧ w'.cell? ⟨w.heap.size, 1, none⟩ = some (.int .i64 S.c) ∧ w'.cell? ⟨w.heap.size, 2, none⟩ = some (.int .i64 S.mn) ∧ w'.cell? ⟨w.heap.size, 3, none⟩ = some (.int .i64 S.mx) ∧ w'.cell? ⟨gf, k, none⟩ = some (.int .i64 (q : Nat))) (by kernel_rfl) ?_
      have hS0 : (fun w' : World => w'.cell? ⟨b, off + k * 4, none⟩ = some (.int .i64 f.n) ∧ w'.cell? ⟨b, off + k * 4 + 1, none⟩ = some (.int .i64 f.d) ∧ w'.cell? ⟨b, off + k * 4 + 2, none⟩ = some (.int .u64 (f.m : Nat)) ∧ w'.cell? ⟨b, off + k * 4 + 3, none⟩ = some (.int .i64 f.c) ∧ w'.cell? ⟨w.heap.size, 0, none⟩ = some (.int .i64 S.g) ∧ w'.cell? ⟨w.heap.size, 1, none⟩ = some (.int .i64 S.c) ∧ w'.cell? ⟨w.heap.size, 2, none⟩ = some (.int .i64 S.mn) ∧ w'.cell? ⟨w.heap.size, 3, none⟩ = some (.int .i64 S.mx) ∧ w'.cell? ⟨gf, k, none⟩ = some (.int .i64 (q : Nat))) wr.drew := ⟨f0, f1, f2, f3, s0, s1, s2, s3, c2⟩
      refine held_take (v := ?_) 0 39 rfl rfl (by kernel_rfl) (by kernel_rfl) (by kernel_rfl) (fun _ _ _ h => h) ⟨by rfl, ?_⟩ hS0 ?_
      rotate_left
      · intro w' hw'; obtain ⟨y0, y1, y2, y3, y4, y5, y6, y7, y8⟩ := hw'; go_simp; (try with_reducible rfl)
      simp only [Act.put, List.setIfInBounds_toArray, List.set_cons_zero, List.set_cons_succ]
      refine held_take (v := ?_) 1 40 rfl rfl (by kernel_rfl) (by kernel_rfl) (by kernel_rfl) (fun _ _ _ h => h) ⟨by rfl, ?_⟩ hS0 ?_
      rotate_left
      · intro w' hw'; obtain ⟨y0, y1, y2, y3, y4, y5, y6, y7, y8⟩ := hw'; go_simp; (try with_reducible rfl)
      simp only [Act.put, List.setIfInBounds_toArray, List.set_cons_zero, List.set_cons_succ]
      refine held_take (v := ?_) 2 41 rfl rfl (by kernel_rfl) (by kernel_rfl) (by kernel_rfl) (fun _ _ _ h => h) ⟨by rfl, ?_⟩ hS0 ?_
      rotate_left
      · intro w' hw'; obtain ⟨y0, y1, y2, y3, y4, y5, y6, y7, y8⟩ := hw'; go_simp; (try with_reducible rfl)
      simp only [Act.put, List.setIfInBounds_toArray, List.set_cons_zero, List.set_cons_succ]
      refine held_take (v := ?_) 3 42 rfl rfl (by kernel_rfl) (by kernel_rfl) (by kernel_rfl) (fun _ _ _ h => h) ⟨by rfl, ?_⟩ hS0 ?_
      rotate_left
      · intro w' hw'; obtain ⟨y0, y1, y2, y3, y4, y5, y6, y7, y8⟩ := hw'; go_simp; (try with_reducible rfl)
      simp only [Act.put, List.setIfInBounds_toArray, List.set_cons_zero, List.set_cons_succ]
      refine held_take (v := ?_) 4 43 rfl rfl (by kernel_rfl) (by kernel_rfl) (by kernel_rfl) (fun _ _ _ h => h) ⟨by rfl, ?_⟩ hS0 ?_
      rotate_left
      · intro w' hw'; obtain ⟨y0, y1, y2, y3, y4, y5, y6, y7, y8⟩ := hw'; go_simp; (try with_reducible rfl)
      simp only [Act.put, List.setIfInBounds_toArray, List.set_cons_zero, List.set_cons_succ]
      refine held_take (v := ?_) 5 44 rfl rfl (by kernel_rfl) (by kernel_rfl) (by kernel_rfl) (fun _ _ _ h => h) ⟨by rfl, ?_⟩ hS0 ?_
      rotate_left
      · intro w' hw'; obtain ⟨y0, y1, y2, y3, y4, y5, y6, y7, y8⟩ := hw'; go_simp; (try with_reducible rfl)
      simp only [Act.put, List.setIfInBounds_toArray, List.set_cons_zero, List.set_cons_succ]
      refine held_take (v := ?_) 6 45 rfl rfl (by kernel_rfl) (by kernel_rfl) (by kernel_rfl) (fun _ _ _ h => h) ⟨by rfl, ?_⟩ hS0 ?_
      rotate_left
      · intro w' hw'; obtain ⟨y0, y1, y2, y3, y4, y5, y6, y7, y8⟩ := hw'; go_simp; (try with_reducible rfl)
      simp only [Act.put, List.setIfInBounds_toArray, List.set_cons_zero, List.set_cons_succ]
      refine held_take (v := ?_) 7 46 rfl rfl (by kernel_rfl) (by kernel_rfl) (by kernel_rfl) (fun _ _ _ h => h) ⟨by rfl, ?_⟩ hS0 ?_
      rotate_left
      · intro w' hw'; obtain ⟨y0, y1, y2, y3, y4, y5, y6, y7, y8⟩ := hw'; go_simp; (try with_reducible rfl)
      simp only [Act.put, List.setIfInBounds_toArray, List.set_cons_zero, List.set_cons_succ]
      refine held_take (v := ?_) 8 47 rfl rfl (by kernel_rfl) (by kernel_rfl) (by kernel_rfl) (fun _ _ _ h => h) ⟨by rfl, ?_⟩ hS0 ?_
      rotate_left
      · intro w' hw'; obtain ⟨y0, y1, y2, y3, y4, y5, y6, y7, y8⟩ := hw'; go_simp; (try with_reducible rfl)
      simp only [Act.put, List.setIfInBounds_toArray, List.set_cons_zero, List.set_cons_succ]
      refine held_take (v := ?_) 9 48 rfl rfl (by kernel_rfl) (by kernel_rfl) (by kernel_rfl) (fun _ _ _ h => h) ⟨by rfl, ?_⟩ hS0 ?_
      rotate_left
      · intro w' hw'; obtain ⟨y0, y1, y2, y3, y4, y5, y6, y7, y8⟩ := hw'; go_simp; (try with_reducible rfl)
      simp only [Act.put, List.setIfInBounds_toArray, List.set_cons_zero, List.set_cons_succ]
      refine held_take (v := ?_) 10 49 rfl rfl (by kernel_rfl) (by kernel_rfl) (by kernel_rfl) (fun _ _ _ h => h) ⟨by rfl, ?_⟩ hS0 ?_
      rotate_left
      · intro w' hw'; obtain ⟨y0, y1, y2, y3, y4, y5, y6, y7, y8⟩ := hw'; go_simp; (try with_reducible rfl)
      simp only [Act.put, List.setIfInBounds_toArray, List.set_cons_zero, List.set_cons_succ]
      refine held_take (v := ?_) 11 50 rfl rfl (by kernel_rfl) (by kernel_rfl) (by kernel_rfl) (fun _ _ _ h => h) ⟨by rfl, ?_⟩ hS0 ?_
      rotate_left
      · intro w' hw'; obtain ⟨y0, y1, y2, y3, y4, y5, y6, y7, y8⟩ := hw'; go_simp; (try with_reducible rfl)
      simp only [Act.put, List.setIfInBounds_toArray, List.set_cons_zero, List.set_cons_succ]
      refine held_take (v := ?_) 12 51 rfl rfl (by kernel_rfl) (by kernel_rfl) (by kernel_rfl) (fun _ _ _ h => h) ⟨by rfl, ?_⟩ hS0 ?_
      rotate_left
      · intro w' hw'; obtain ⟨y0, y1, y2, y3, y4, y5, y6, y7, y8⟩ := hw'; go_simp; (try with_reducible rfl)
      simp only [Act.put, List.setIfInBounds_toArray, List.set_cons_zero, List.set_cons_succ]
      refine held_take (v := ?_) 13 52 rfl rfl (by kernel_rfl) (by kernel_rfl) (by kernel_rfl) (fun _ _ _ h => h) ⟨by rfl, ?_⟩ hS0 ?_
      rotate_left
      · intro w' hw'; obtain ⟨y0, y1, y2, y3, y4, y5, y6, y7, y8⟩ := hw'; go_simp; (try with_reducible rfl)
      simp only [Act.put, List.setIfInBounds_toArray, List.set_cons_zero, List.set_cons_succ]
      refine held_take (v := ?_) 14 53 rfl rfl (by kernel_rfl) (by kernel_rfl) (by kernel_rfl) (fun _ _ _ h => h) ⟨by rfl, ?_⟩ hS0 ?_
      rotate_left
      · intro w' hw'; obtain ⟨y0, y1, y2, y3, y4, y5, y6, y7, y8⟩ := hw'; go_simp; (try with_reducible rfl)
      simp only [Act.put, List.setIfInBounds_toArray, List.set_cons_zero, List.set_cons_succ]
      refine held_one 15 rfl (by kernel_rfl) (by rfl) (fun K hK => ?_)
      go_simp
      obtain ⟨x, hxx⟩ : ∃ x, x = min q (p - m) := ⟨_, rfl⟩
      have ex : (if IntKind.i64.wrap ((p : Int) - (m : Int)) < (q : Int) then IntKind.i64.wrap ((p : Int) - (m : Int)) else (q : Int)) = ((x : Nat) : Int) := by
        rw [IntWalk.i64_in _ (by omega)]
        split <;> omega
      rw [ex]
      obtain ⟨hk, hx, hm, hq, hown, hfar, hZb, bS, hRw, hBw⟩ := HK.out
      have hoD : wr.drew.ownsRow w3.heap.size 41 4 (.slice A' (placeL S l (Z.take j) p).length c') (placeL S l (Z.take j) p).length ((placeL S l (Z.take j) p).flatMap feC) := by rw [← hm]; exact hown
      have hTr : Tab wr.drew := H.out.2.2.2.2.1.below hBw.drew H.out.2.2.2.2.1.size
      have hC9 := cut_any A' c' w3.heap.size (placeL S l (Z.take j) p) f S x wr.drew hoD (show w3.heap.size ≤ wr.heap.size by omega) H.out.2.2.1 (H.out.2.2.2.1 f (List.mem_of_getElem? hx)) (by rw [hxx, hq]; omega) (by rw [← hm]; omega) hTr (by have := H.out.2.2.2.2.1.size; omega)
      rw [← hm] at hC9
      refine hC9.mono ?_
      rintro e w6 ⟨A6, c6, rfl, hown6, hft6, hfar6⟩
      have hs6 : wr.heap.size ≤ w6.heap.size := hft6.size
      have hVne : ∀ i, i < w5.heap.size → i ≠ w3.heap.size → ¬ (Value.slice A' m c').ownBlock = some i := fun i h1 h2 h3 => by rcases hfar i h3 with h | h; exact h2 h; omega
      have blk6 : ∀ i, i < w5.heap.size → i ≠ w3.heap.size → w6.heap[i]? = wr.heap[i]? := fun i h1 h2 => hft6.block i (show i < wr.heap.size by omega) (hVne i h1 h2)
      have hlow6 : Below w.heap.size wr w6 := (show Foot _ wr w6 from ⟨hft6.os, hft6.tape, hft6.output, hft6.size, hft6.block⟩).below (by omega) (fun i e => by rcases hfar i e with h | h; omega; omega)
      have bS6 := (blk6 w.heap.size (by omega) (by omega)).trans bS
      have hZ6 : Blk w6 g Z := (blk6 g hg5 (by omega)).trans hZb
      have eP : placeL S l (Z.take (j + 1)) p = placeL S l (Z.take j) p ++ pieces S f x := by
        rw [take_at hk, placeL_next S l hx, ← hq]
        congr 2
        rw [hxx, hm, placeL_len]
        omega
      have hRw6 : Row w6 (some ⟨gf, 0, none⟩) (fitsL S l) := by
        rcases hRw with e | ⟨g', e, hg', hcc⟩
        · exact .inl e
        · cases e
          exact .inr ⟨gf, rfl, by omega, fun i hi => (World.cell?_of_block (blk6 gf (by omega) (by omega))).trans (hcc i hi)⟩
      have hN : Hid (St (j + 1) w6 (.slice A6 (m + x) c6)) := Lib.hid (by
        rw [HZ.out.1]
        have el : (placeL S l (Z.take (j + 1)) p).length = m + x := by rw [eP, List.length_append, pieces_len, ← hm]
        refine ⟨A6, c6, by rw [el], by rw [el, eP]; exact hown6, fun i e => ?_, hZ6, bS6, hRw6, hBw.trans hlow6, by omega⟩
        rcases hfar6 i e with h | h
        · exact hfar i h
        · exact .inr (Nat.le_trans hsw h))
      have hS6 : (fun w' : World => w'.cell? ⟨b, off + k * 4, none⟩ = some (.int .i64 f.n) ∧ w'.cell? ⟨b, off + k * 4 + 1, none⟩ = some (.int .i64 f.d) ∧ w'.cell? ⟨b, off + k * 4 + 2, none⟩ = some (.int .u64 (f.m : Nat)) ∧ w'.cell? ⟨b, off + k * 4 + 3, none⟩ = some (.int .i64 f.c) ∧ w'.cell? ⟨w.heap.size, 0, none⟩ = some (.int .i64 S.g) ∧ w'.cell? ⟨w.heap.size, 1, none⟩ = some (.int .i64 S.c) ∧ w'.cell? ⟨w.heap.size, 2, none⟩ = some (.int .i64 S.mn) ∧ w'.cell? ⟨w.heap.size, 3, none⟩ = some (.int .i64 S.mx) ∧ w'.cell? ⟨gf, k, none⟩ = some (.int .i64 (q : Nat))) w6 := by
        have hb6 := hlow6
        obtain ⟨f0', f1', f2', f3'⟩ := FeAt.keep (f := f) (show FeAt wr b (off + k * 4) f from ⟨f0, f1, f2, f3⟩) (B := w.heap.size) (by omega) hlow6
        exact ⟨f0', f1', f2', f3', cell_blk (i := 0) bS6 rfl, cell_blk (i := 1) bS6 rfl, cell_blk (i := 2) bS6 rfl, cell_blk (i := 3) bS6 rfl, (World.cell?_of_block (blk6 gf (by omega) (by omega))).trans c2⟩
      clear hRw6 hZ6 bS6 hlow6 blk6 hVne hown6 hft6 hfar6 hC9 hTr hoD hk hx hm hq hown hfar hZb bS hRw hBw eP ex hxx hS0 f0 f1 f2 f3 s0 s1 s2 s3 c1 c2
      refine hK.out _ _ hS6 ?_
      clear hK K
      refine held_take (v := ?_) 16 9 rfl rfl (by kernel_rfl) (by kernel_rfl) (by kernel_rfl) (fun _ _ _ h => h) ⟨by rfl, ?_⟩ hS6 ?_
      rotate_left
      · intro w' hw'; obtain ⟨y0, y1, y2, y3, y4, y5, y6, y7, y8⟩ := hw'; go_simp; (try with_reducible rfl)
      simp only [Act.put, List.setIfInBounds_toArray, List.set_cons_zero, List.set_cons_succ]
      refine wpAnyH_done (by kernel_rfl) ?_ _
      go_wp2
      go_roundw
      case rel => exact ⟨j + 1, by go_num, by omega, hN⟩
      case measure => simp [intOf]; omega
    · obtain rfl : j = n := by omega
      have hl : placeL S l (Z.take j) p = placeL S l Z p := by rw [List.take_of_length_le (by rw [HZ.out.2.2.2]; omega)]
      have hlen : (placeL S l (Z.take j) p).length = p := by rw [hl, placeL_len, fitSum_perm (by rw [H.out.2.1]; exact HZ.out.2.1)]; have := H.out.2.2.2.2.2; omega
      rw [hlen] at hown ⊢
      rw [hl] at hown
      have HR : Hid (∃ Z, Z.Perm (List.range j) ∧ Asc (keyL (fitsL S l)) Z ∧ wr.ownsRow w.heap.size 41 4 (.slice A' p c') p ((placeL S l Z p).flatMap feC)) := Lib.hid ⟨Z, HZ.out.2.1, HZ.out.2.2.1, hown.mono (by omega)⟩
      have HBw := Lib.hid hBw
      have t4 : decide (j < j) = false := decide_eq_false (by omega)
      clear hl hlen hown hfar hZb bS hRw hBw hlt
      go_wp2
      go_ret2
      exact ⟨A', c', rfl, HBw.out, HR⟩
end Go.Proofs.YteflblcbmkcidaaDoor
