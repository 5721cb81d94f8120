/- The document's answers on shapes: Fits. -/
import Derived.Test.YteflblcbmkcidaaDoorShapeRef2
namespace Go.Proofs.YteflblcbmkcidaaDoor
open Go.RowKit

/-- Cut one by one, as often as it goes. -/
theorem fit_at {g c u k j : Nat} (h0 : 0 < g + c) (hj : j ≤ 16) (h1 : g * j ≤ u) (h2 : c * j ≤ k) (h : j = 16 ∨ u < g * j + g ∨ k < c * j + c) : j = fitN g c u k := by
  unfold fitN tms
  have a1 : g ≠ 0 → j ≤ u / g := fun h => by rw [Nat.le_div_iff_mul_le (by omega), Nat.mul_comm]; exact h1
  have a2 : c ≠ 0 → j ≤ k / c := fun h => by rw [Nat.le_div_iff_mul_le (by omega), Nat.mul_comm]; exact h2
  have b1 : u < g * j + g → g ≠ 0 ∧ u / g < j + 1 := fun h => by
    have : g ≠ 0 := by rintro rfl; omega
    exact ⟨this, by rw [Nat.div_lt_iff_lt_mul (by omega), Nat.succ_mul, Nat.mul_comm]; exact h⟩
  have b2 : k < c * j + c → c ≠ 0 ∧ k / c < j + 1 := fun h => by
    have : c ≠ 0 := by rintro rfl; omega
    exact ⟨this, by rw [Nat.div_lt_iff_lt_mul (by omega), Nat.succ_mul, Nat.mul_comm]; exact h⟩
  rcases h with rfl | h | h
  · split <;> split <;> omega
  · obtain ⟨c1, c2⟩ := b1 h
    have := a1 c1
    rw [if_neg c1]; split <;> omega
  · obtain ⟨c1, c2⟩ := b2 h
    have := a2 c1
    rw [if_neg c1]; split <;> omega

set_option maxRecDepth 100000 in
set_option maxHeartbeats 2000000 in
theorem reffits_neg (g c : Nat) (mn mx n d : Int) (m : Nat) (k : Int) (w : World) (hw : Shp.Wf ⟨g, c, mn, mx⟩) (hok : Shp.ok ⟨g, c, mn, mx⟩ = true) (hm : m < 18446744073709551616) (hT : Tab w) (hk : k < 0) :
    Calls Tryd.prog 18 #[.agg #[.int .i64 (g : Int), .int .i64 (c : Int), .int .i64 mn, .int .i64 mx], .agg #[.int .i64 n, .int .i64 d, .int .u64 (m : Nat), .int .i64 k]] w fun e w' => e = .returned (.int .i64 0) ∧ Below w.heap.size w w' := by
  have hR := Lib.hid (fun W => refright_any g c mn mx W hw)
  rw [hok] at hR
  have hP := Lib.hid (fun W (hT : Tab W) => show Calls Tryd.prog 19 #[.agg #[.int .i64 (g : Int), .int .i64 (c : Int), .int .i64 mn, .int .i64 mx], .agg #[.int .i64 n, .int .i64 d, .int .u64 (m : Nat), .int .i64 k]] W _ from (by
    by_cases hf : MM.cnt m < g
    · exact refpiece_few g c mn mx n d m k W hm hT hf
    · exact refpiece_neg g c mn mx n d m k W hm hT (by omega) hk))
  obtain ⟨W2, hW2⟩ : ∃ W, W = (w.alloc (.cells #[.int .i64 (g : Int), .int .i64 (c : Int), .int .i64 mn, .int .i64 mx] 24)).alloc (.cells #[.int .i64 n, .int .i64 d, .int .u64 (m : Nat), .int .i64 k] 40) := ⟨_, rfl⟩
  have hBW2 : Below w.heap.size w W2 := by rw [hW2]; exact (((Below.refl w.heap.size w).alloc (Nat.le_refl _) _).alloc (by simp <;> omega) _)
  have hzW2 : W2.heap.size = w.heap.size + 1 + 1 := by rw [hW2]; simp
  have b0W2 : W2.heap[w.heap.size]? = some (.cells #[.int .i64 (g : Int), .int .i64 (c : Int), .int .i64 mn, .int .i64 mx] 24 (0, 0)) := by
    have h9 := heap_alloc_new (w) (.cells #[.int .i64 (g : Int), .int .i64 (c : Int), .int .i64 mn, .int .i64 mx] 24)
    rw [hW2]; exact ((Below.heap_alloc _ _ _ (by simp <;> omega)).trans h9)
  have b1W2 : W2.heap[w.heap.size + 1]? = some (.cells #[.int .i64 n, .int .i64 d, .int .u64 (m : Nat), .int .i64 k] 40 (0, 0)) := by
    have h9 := heap_alloc_new (w.alloc (.cells #[.int .i64 (g : Int), .int .i64 (c : Int), .int .i64 mn, .int .i64 mx] 24)) (.cells #[.int .i64 n, .int .i64 d, .int .u64 (m : Nat), .int .i64 k] 40)
    rw [World.size_alloc] at h9
    rw [hW2]; exact h9
  have HXW2 := Lib.hid (And.intro hBW2 (And.intro b0W2 (b1W2)))
  have HW2 := Lib.hid hW2
  have hwW2 : w.heap.size + 1 + 1 ≤ W2.heap.size := by omega
  have hTW := hT.below hBW2 hT.size
  have HT := Lib.hid (And.intro hTW hT.size)
  clear hw hok hT hTW hk hm
  clear hW2 hBW2 hzW2 b0W2 b1W2
  go_enter Tryd.func18, Tryd.ntmps18
  go_wp2_with fail
  rw [← HW2.out]
  refine (hR.out _).mono ?_
  rintro e w1 ⟨rfl, hb1⟩
  have hs1 := hb1.size
  have hT1 := HT.out.1.below hb1 HT.out.1.size
  have sB := (hb1.block _ (show w.heap.size < W2.heap.size by omega)).trans HXW2.out.2.1
  have s0 : w1.cell? ⟨w.heap.size, 0, none⟩ = _ := cell_blk (i := 0) sB rfl
  have s1 : w1.cell? ⟨w.heap.size, 1, none⟩ = _ := cell_blk (i := 1) sB rfl
  have s2 : w1.cell? ⟨w.heap.size, 2, none⟩ = _ := cell_blk (i := 2) sB rfl
  have s3 : w1.cell? ⟨w.heap.size, 3, none⟩ = _ := cell_blk (i := 3) sB rfl
  clear sB
  have fB := (hb1.block _ (show w.heap.size + 1 < W2.heap.size by omega)).trans HXW2.out.2.2
  have f0 : w1.cell? ⟨w.heap.size + 1, 0, none⟩ = _ := cell_blk (i := 0) fB rfl
  have f1 : w1.cell? ⟨w.heap.size + 1, 1, none⟩ = _ := cell_blk (i := 1) fB rfl
  have f2 : w1.cell? ⟨w.heap.size + 1, 2, none⟩ = _ := cell_blk (i := 2) fB rfl
  have f3 : w1.cell? ⟨w.heap.size + 1, 3, none⟩ = _ := cell_blk (i := 3) fB rfl
  clear fB
  have HB1 := Lib.hid (And.intro hb1 hT1)
  clear hb1 hT1
  go_wp2
  go_loopw [5] (fun i wr => i = .int .i64 0 ∧ Hid (wr = w1)) (fun _ _ => 0)
  case atStart => exact ⟨rfl, Lib.hid rfl⟩
  case round =>
    obtain ⟨rfl, hwr⟩ := hrel
    obtain rfl := hwr.out
    go_wp2_with fail
    refine (hP.out _ HB1.out.2).mono ?_
    rintro e w2 ⟨rfl, hb2⟩
    have hs2 := hb2.size
    go_wp2
    go_ret
    exact ⟨rfl, (((HXW2.out.1.trans (HB1.out.1.mono (by omega))).trans (hb2.mono (by omega))).alloc (by omega) _).alloc (by simp <;> omega) _⟩
set_option maxRecDepth 100000 in
set_option maxHeartbeats 2000000 in
theorem reffits_ok (g c : Nat) (mn mx n d : Int) (m k : Nat) (w : World) (hw : Shp.Wf ⟨g, c, mn, mx⟩) (hok : Shp.ok ⟨g, c, mn, mx⟩ = true) (hm : m < 18446744073709551616) (hT : Tab w) (hk : k ≤ 9223372036854775807) :
    Calls Tryd.prog 18 #[.agg #[.int .i64 (g : Int), .int .i64 (c : Int), .int .i64 mn, .int .i64 mx], .agg #[.int .i64 n, .int .i64 d, .int .u64 (m : Nat), .int .i64 (k : Int)]] w fun e w' => e = .returned (.int .i64 (fitN g c (MM.cnt m) k : Nat)) ∧ Below w.heap.size w w' := by
  obtain ⟨ga, ca, hga, hca, hg16, hc16, hgc⟩ := Shp.nat hok
  obtain rfl : g = ga := by omega
  obtain rfl : c = ca := by omega
  have hu := MM.cnt_le m
  have hR := Lib.hid (fun W => refright_any g c mn mx W hw)
  rw [hok] at hR
  have hPok := Lib.hid (fun (mj kj : Nat) W (hm : mj < 18446744073709551616) (hk : kj ≤ 9223372036854775807) (hT : Tab W) (hf : g ≤ MM.cnt mj) (hkc : c ≤ kj) => refpiece_ok g c mn mx n d mj kj W hm hk hT hf hkc)
  have hPno := Lib.hid (fun (mj kj : Nat) W (hm : mj < 18446744073709551616) (hT : Tab W) (h : ¬ (g ≤ MM.cnt mj ∧ c ≤ kj)) => show Calls Tryd.prog 19 #[.agg #[.int .i64 (g : Int), .int .i64 (c : Int), .int .i64 mn, .int .i64 mx], .agg #[.int .i64 n, .int .i64 d, .int .u64 (mj : Nat), .int .i64 (kj : Int)]] W _ from (by
    by_cases hf : MM.cnt mj < g
    · exact refpiece_few g c mn mx n d mj kj W hm hT hf
    · exact refpiece_less g c mn mx n d mj kj W hm hT (by omega) (by omega) (by omega)))
  obtain ⟨q, hq⟩ : ∃ q, q = fitN g c (MM.cnt m) k := ⟨_, rfl⟩
  rw [← hq]
  obtain ⟨W2, hW2⟩ : ∃ W, W = (w.alloc (.cells #[.int .i64 (g : Int), .int .i64 (c : Int), .int .i64 mn, .int .i64 mx] 24)).alloc (.cells #[.int .i64 n, .int .i64 d, .int .u64 (m : Nat), .int .i64 (k : Int)] 40) := ⟨_, rfl⟩
  have hBW2 : Below w.heap.size w W2 := by rw [hW2]; exact (((Below.refl w.heap.size w).alloc (Nat.le_refl _) _).alloc (by simp <;> omega) _)
  have hzW2 : W2.heap.size = w.heap.size + 1 + 1 := by rw [hW2]; simp
  have b0W2 : W2.heap[w.heap.size]? = some (.cells #[.int .i64 (g : Int), .int .i64 (c : Int), .int .i64 mn, .int .i64 mx] 24 (0, 0)) := by
    have h9 := heap_alloc_new (w) (.cells #[.int .i64 (g : Int), .int .i64 (c : Int), .int .i64 mn, .int .i64 mx] 24)
    rw [hW2]; exact ((Below.heap_alloc _ _ _ (by simp <;> omega)).trans h9)
  have b1W2 : W2.heap[w.heap.size + 1]? = some (.cells #[.int .i64 n, .int .i64 d, .int .u64 (m : Nat), .int .i64 (k : Int)] 40 (0, 0)) := by
    have h9 := heap_alloc_new (w.alloc (.cells #[.int .i64 (g : Int), .int .i64 (c : Int), .int .i64 mn, .int .i64 mx] 24)) (.cells #[.int .i64 n, .int .i64 d, .int .u64 (m : Nat), .int .i64 (k : Int)] 40)
    rw [World.size_alloc] at h9
    rw [hW2]; exact h9
  have HXW2 := Lib.hid (And.intro hBW2 (And.intro b0W2 (b1W2)))
  have HW2 := Lib.hid hW2
  have hwW2 : w.heap.size + 1 + 1 ≤ W2.heap.size := by omega
  have hTW := hT.below hBW2 hT.size
  have HT := Lib.hid (And.intro hTW (And.intro hT.size (And.intro hT (And.intro hq (And.intro hm (And.intro hu (And.intro hgc hk)))))))
  clear hw hok hT hTW hq hm hu hga hca hgc
  clear hW2 hBW2 hzW2 b0W2 b1W2
  go_enter Tryd.func18, Tryd.ntmps18
  go_wp2_with fail
  rw [← HW2.out]
  refine (hR.out _).mono ?_
  rintro e w1 ⟨rfl, hb1⟩
  have hs1 := hb1.size
  have HB1 := Lib.hid hb1
  clear hb1
  go_wp2
  go_loopw [5] (fun i wr => ∃ j : Nat, i = .int .i64 j ∧ j ≤ 16 ∧ W2.heap.size ≤ wr.heap.size ∧ Hid (Below w.heap.size w wr ∧ wr.heap[w.heap.size]? = some (.cells #[.int .i64 (g : Int), .int .i64 (c : Int), .int .i64 mn, .int .i64 mx] 24 (0, 0)) ∧ ∃ mj kj : Nat, wr.heap[w.heap.size + 1]? = some (.cells #[.int .i64 n, .int .i64 d, .int .u64 (mj : Nat), .int .i64 (kj : Int)] 40 (0, 0)) ∧ mj < 18446744073709551616 ∧ MM.cnt mj + g * j = MM.cnt m ∧ kj + c * j = k)) (fun i _ => 16 - (intOf i).toNat)
  case atStart => exact ⟨0, rfl, by omega, hs1, Lib.hid ⟨HXW2.out.1.trans (HB1.out.mono (by omega)), (HB1.out.block _ (by omega)).trans HXW2.out.2.1, m, k, (HB1.out.block _ (by omega)).trans HXW2.out.2.2, HT.out.2.2.2.2.1, by simp, by simp⟩⟩
  case round =>
    obtain ⟨j, rfl, hj, hsz, hin⟩ := hrel
    obtain ⟨hB, k0, mj, kj, k1, hmj, hcm, hck⟩ := hin.out
    have hTr : Tab wr := HT.out.2.2.1.below hB HT.out.2.2.1.size
    have s0 : wr.cell? ⟨w.heap.size, 0, none⟩ = _ := cell_blk (i := 0) k0 rfl
    have s1 : wr.cell? ⟨w.heap.size, 1, none⟩ = _ := cell_blk (i := 1) k0 rfl
    have s2 : wr.cell? ⟨w.heap.size, 2, none⟩ = _ := cell_blk (i := 2) k0 rfl
    have s3 : wr.cell? ⟨w.heap.size, 3, none⟩ = _ := cell_blk (i := 3) k0 rfl
    have f0 : wr.cell? ⟨w.heap.size + 1, 0, none⟩ = _ := cell_blk (i := 0) k1 rfl
    have f1 : wr.cell? ⟨w.heap.size + 1, 1, none⟩ = _ := cell_blk (i := 1) k1 rfl
    have f2 : wr.cell? ⟨w.heap.size + 1, 2, none⟩ = _ := cell_blk (i := 2) k1 rfl
    have f3 : wr.cell? ⟨w.heap.size + 1, 3, none⟩ = _ := cell_blk (i := 3) k1 rfl
    by_cases hlt : j < 16
    · have t0 : decide ((j : Int) < 16) = true := decide_eq_true (by omega)
      by_cases hp : g ≤ MM.cnt mj ∧ c ≤ kj
      · have hC := Lib.hid (hPok.out mj kj wr hmj (by omega) hTr hp.1 hp.2)
        obtain ⟨lo, hlo⟩ : ∃ lo, lo = MM.low mj g := ⟨_, rfl⟩
        obtain ⟨re, hre⟩ : ∃ re, re = MM.sub mj lo := ⟨_, rfl⟩
        have hrc : MM.cnt re = MM.cnt mj - g := by rw [hre, hlo]; exact MM.cnt_rest mj g
        have hrl : re < 18446744073709551616 := by rw [hre]; exact MM.sub_lt _ hmj
        rw [← hlo, ← hre] at hC
        have hN := Lib.hid (show MM.cnt re + g * (j + 1) = MM.cnt m ∧ (kj - c) + c * (j + 1) = k ∧ re < 18446744073709551616 from ⟨by rw [hrc, Nat.mul_succ]; omega, by rw [Nat.mul_succ]; omega, hrl⟩)
        have HK := Lib.hid (And.intro hB (And.intro k0 k1))
        clear hB k0 k1 hmj hcm hck hTr hin hp hlo hre hrc hrl
        go_wp2_with fail
        refine hC.out.mono ?_
        rintro e w2 ⟨rfl, hb2⟩
        have hs2 := hb2.size
        have z0 : w2.cell? ⟨w.heap.size + 1, 0, none⟩ = _ := (hb2.cell (p := ⟨w.heap.size + 1, 0, none⟩) (show w.heap.size + 1 < wr.heap.size by omega)).trans f0
        have z1 : w2.cell? ⟨w.heap.size + 1, 1, none⟩ = _ := (hb2.cell (p := ⟨w.heap.size + 1, 1, none⟩) (show w.heap.size + 1 < wr.heap.size by omega)).trans f1
        have z2 : w2.cell? ⟨w.heap.size + 1, 2, none⟩ = _ := (hb2.cell (p := ⟨w.heap.size + 1, 2, none⟩) (show w.heap.size + 1 < wr.heap.size by omega)).trans f2
        have z3 : w2.cell? ⟨w.heap.size + 1, 3, none⟩ = _ := (hb2.cell (p := ⟨w.heap.size + 1, 3, none⟩) (show w.heap.size + 1 < wr.heap.size by omega)).trans f3
        have y0 : w2.frozen? ⟨w.heap.size + 1, 0, none⟩ = false := frozen_blk ((hb2.block _ (by omega)).trans HK.out.2.2)
        have y1 : w2.frozen? ⟨w.heap.size + 1, 1, none⟩ = false := frozen_blk ((hb2.block _ (by omega)).trans HK.out.2.2)
        have y2 : w2.frozen? ⟨w.heap.size + 1, 2, none⟩ = false := frozen_blk ((hb2.block _ (by omega)).trans HK.out.2.2)
        have y3 : w2.frozen? ⟨w.heap.size + 1, 3, none⟩ = false := frozen_blk ((hb2.block _ (by omega)).trans HK.out.2.2)
        have l1 : w.heap.size + 1 < w2.heap.size := by omega
        have l2 : w.heap.size + 1 < w2.heap.size + 1 := by omega
        clear s0 s1 s2 s3 f0 f1 f2 f3
        go_wp2
        refine ⟨⟨j + 1, by go_num, by omega, by simp <;> omega, Lib.hid ⟨?_, ?_, re, kj - c, ?_, hN.out.2.2, hN.out.1, hN.out.2.1⟩⟩, by simp [intOf] <;> omega⟩
        · exact ((((((HK.out.1.trans (hb2.mono (by omega))).setCell (by simp <;> omega) _).setCell (by simp <;> omega) _).setCell (by simp <;> omega) _).setCell (by simp <;> omega) _).alloc (by simp <;> omega) _).alloc (by simp <;> omega) _
        · exact (Below.heap_alloc _ _ _ (by simp <;> omega)).trans ((Below.heap_alloc _ _ _ (by simp <;> omega)).trans ((Below.heap_setCell _ _ _ _ (by simp <;> omega)).trans ((Below.heap_setCell _ _ _ _ (by simp <;> omega)).trans ((Below.heap_setCell _ _ _ _ (by simp <;> omega)).trans ((Below.heap_setCell _ _ _ _ (by simp <;> omega)).trans ((hb2.block _ (by omega)).trans HK.out.2.1))))))
        · have hbk := (hb2.block (w.heap.size + 1) (by omega)).trans HK.out.2.2
          have := blk_put (i := 3) (.int .i64 ((kj - c : Nat) : Int)) (blk_put (i := 2) (.int .u64 (re : Nat)) (blk_put (i := 1) (.int .i64 d) (blk_put (i := 0) (.int .i64 n) hbk)))
          exact (Below.heap_alloc _ _ _ (by simp <;> omega)).trans ((Below.heap_alloc _ _ _ (by simp <;> omega)).trans (by simpa using this))
      · have hC := Lib.hid (hPno.out mj kj wr hmj hTr hp)
        have e : j = q := by
          rw [HT.out.2.2.2.1]
          exact fit_at HT.out.2.2.2.2.2.2.1 hj (by omega) (by omega) (by omega)
        subst e
        have HB := Lib.hid hB
        clear hB k0 k1 hmj hcm hck hTr hin hp
        go_wp2_with fail
        refine hC.out.mono ?_
        rintro e w2 ⟨rfl, hb2⟩
        have hs2 := hb2.size
        clear s0 s1 s2 s3 f0 f1 f2 f3
        go_wp2
        go_ret
        exact ⟨rfl, ((HB.out.trans (hb2.mono (by omega))).alloc (by omega) _).alloc (by simp <;> omega) _⟩
    · have e : j = q := by
        rw [HT.out.2.2.2.1]
        exact fit_at HT.out.2.2.2.2.2.2.1 hj (by omega) (by omega) (by omega)
      subst e
      have t0 : decide ((j : Int) < 16) = false := decide_eq_false (by omega)
      have HB := Lib.hid hB
      clear hB k0 k1 hmj hcm hck hTr hin hlt
      go_wp2
      go_ret
      exact ⟨rfl, HB.out⟩
end Go.Proofs.YteflblcbmkcidaaDoor
