/- What some members need and what others do is what all of them need; a member fits just if its piece can be cut: the law ShapeSums answers true, at every input. The library's table of lowest units is as the program's text lays it (tied). -/
import Derived.Test.YtjenokegpbhciaaDoorShapeIn
import Derived.SevenTiedAt
import Derived.Test.YtjenokegpbhciaaDoorTie
import Derived.Test.YtjenokegpbhciaaDoorCards
set_option linter.unusedVariables false
namespace Go.Proofs.YtjenokegpbhciaaDoor.shapeSums
open Go Go.ChangeShapes Go.WideShapes Go.ChangeAt Go.RowKit
set_option maxRecDepth 100000 in
set_option maxHeartbeats 4000000 in
theorem walk (g0 c0 mn0 mx0 : Int) (a1 a2 : Int) (x3 y3 : Int) (m3 : Nat) (k3 : Int) (w : World) (w0 : Shp.Wf ⟨g0, c0, mn0, mx0⟩) (w1 : (Lit.int .u8 a1).wf = true) (w2 : (Lit.int .u8 a2).wf = true) (wm3 : m3 < 18446744073709551616) (wk3 : (Lit.int .i64 k3).wf = true) (hT : Tab w) :
    Calls Tryd.prog 6 #[.agg #[.int .i64 g0, .int .i64 c0, .int .i64 mn0, .int .i64 mx0], .int .u8 a1, .int .u8 a2, .agg #[.int .i64 x3, .int .i64 y3, .int .u64 (m3 : Nat), .int .i64 k3]] w fun e w' => e = .returned (.bool true) ∧ Below w.heap.size w w' := by
  have HT := Lib.hid hT
  have hAw := Lib.hid (fun W (hT : Tab W) => awake_any W hT)
  cases hok : Shp.ok ⟨g0, c0, mn0, mx0⟩
  · have hC := Lib.hid (fun W => check_no g0 c0 mn0 mx0 W w0 hok)
    clear hok w0 w1 w2 wm3 wk3 hT
    have HBel := Lib.hid (Below.refl w.heap.size w)
    have hlow : w.heap.size ≤ w.heap.size := Nat.le_refl _
    go_enter Tryd.func6, Tryd.ntmps6
    go_wp2_with fail
    obtain ⟨V1, hV1⟩ : ∃ W, W = (w.alloc (.cells #[.int .i64 g0, .int .i64 c0, .int .i64 mn0, .int .i64 mx0] 23)).alloc (.cells #[.int .i64 x3, .int .i64 y3, .int .u64 (m3 : Nat), .int .i64 k3] 28) := ⟨_, rfl⟩
    rw [← hV1]
    have hzV1 : V1.heap.size = w.heap.size + 1 + 1 := by rw [hV1]; simp
    replace HBel : Hid (Below w.heap.size w V1) := Lib.hid (by rw [hV1]; exact ((HBel.out.alloc (hlow) _).alloc (by simp <;> omega) _))
    have B_s : Hid (V1.heap[w.heap.size]? = some (.cells #[.int .i64 g0, .int .i64 c0, .int .i64 mn0, .int .i64 mx0] 23 (0, 0))) := Lib.hid (by
      have h9 := heap_alloc_new (w) (.cells #[.int .i64 g0, .int .i64 c0, .int .i64 mn0, .int .i64 mx0] 23)
      rw [hV1]; exact ((Below.heap_alloc _ _ _ (by simp <;> omega)).trans h9))
    have B_f : Hid (V1.heap[w.heap.size + 1]? = some (.cells #[.int .i64 x3, .int .i64 y3, .int .u64 (m3 : Nat), .int .i64 k3] 28 (0, 0))) := Lib.hid (by
      have h9 := heap_alloc_new (w.alloc (.cells #[.int .i64 g0, .int .i64 c0, .int .i64 mn0, .int .i64 mx0] 23)) (.cells #[.int .i64 x3, .int .i64 y3, .int .u64 (m3 : Nat), .int .i64 k3] 28)
      rw [World.size_alloc] at h9
      rw [hV1]; exact h9)
    obtain ⟨N_s, hN_s⟩ : ∃ N, N = w.heap.size := ⟨_, rfl⟩
    obtain ⟨N_f, hN_f⟩ : ∃ N, N = w.heap.size + 1 := ⟨_, rfl⟩
    (try rw [← hN_f])
    rw [← hN_f] at B_f
    (try rw [← hN_s])
    rw [← hN_s] at B_s
    have l_s : N_s < V1.heap.size := by omega
    have l_f : N_f < V1.heap.size := by omega
    have g_s : w.heap.size ≤ N_s := by omega
    have g_f : w.heap.size ≤ N_f := by omega
    have d_s_f : N_s < N_f := by omega
    replace hlow : w.heap.size ≤ V1.heap.size := by omega
    clear hV1 hzV1 hN_s hN_f
    refine (hAw.out V1 (HT.out.below HBel.out HT.out.size)).mono ?_
    rintro e U2 ⟨rfl, hb9⟩
    have hs9 := hb9.size
    replace HBel := Lib.hid (HBel.out.trans (hb9.mono hlow))
    replace B_s : Hid (U2.heap[N_s]? = some (.cells #[.int .i64 g0, .int .i64 c0, .int .i64 mn0, .int .i64 mx0] 23 (0, 0))) := Lib.hid ((hb9.block _ l_s).trans B_s.out)
    replace B_f : Hid (U2.heap[N_f]? = some (.cells #[.int .i64 x3, .int .i64 y3, .int .u64 (m3 : Nat), .int .i64 k3] 28 (0, 0))) := Lib.hid ((hb9.block _ l_f).trans B_f.out)
    replace l_s : N_s < U2.heap.size := by omega
    replace l_f : N_f < U2.heap.size := by omega
    replace hlow : w.heap.size ≤ U2.heap.size := by omega
    clear hb9 hs9
    have s0 : U2.cell? ⟨N_s, 0, none⟩ = some (.int .i64 g0) := cell_blk (i := 0) B_s.out rfl
    have s1 : U2.cell? ⟨N_s, 1, none⟩ = some (.int .i64 c0) := cell_blk (i := 1) B_s.out rfl
    have s2 : U2.cell? ⟨N_s, 2, none⟩ = some (.int .i64 mn0) := cell_blk (i := 2) B_s.out rfl
    have s3 : U2.cell? ⟨N_s, 3, none⟩ = some (.int .i64 mx0) := cell_blk (i := 3) B_s.out rfl
    go_wp2_with fail
    refine (hC.out _).mono ?_
    rintro e U3 ⟨rfl, hb9⟩
    clear s0 s1 s2 s3
    have hs9 := hb9.size
    replace HBel := Lib.hid (HBel.out.trans (hb9.mono hlow))
    replace B_s : Hid (U3.heap[N_s]? = some (.cells #[.int .i64 g0, .int .i64 c0, .int .i64 mn0, .int .i64 mx0] 23 (0, 0))) := Lib.hid ((hb9.block _ l_s).trans B_s.out)
    replace B_f : Hid (U3.heap[N_f]? = some (.cells #[.int .i64 x3, .int .i64 y3, .int .u64 (m3 : Nat), .int .i64 k3] 28 (0, 0))) := Lib.hid ((hb9.block _ l_f).trans B_f.out)
    replace l_s : N_s < U3.heap.size := by omega
    replace l_f : N_f < U3.heap.size := by omega
    replace hlow : w.heap.size ≤ U3.heap.size := by omega
    clear hb9 hs9
    go_wp2
    go_ret
    exact ⟨rfl, HBel.out⟩
  obtain ⟨g, c, rfl, rfl, hg16, hc16, hgc⟩ := Shp.nat hok
  obtain ⟨b1, b2⟩ := bounds_u8 w1
  obtain ⟨b3, b4⟩ := bounds_u8 w2
  obtain ⟨p, rfl⟩ : ∃ p : Nat, a1 = p := ⟨a1.toNat, by omega⟩
  obtain ⟨q, rfl⟩ : ∃ q : Nat, a2 = q := ⟨a2.toNat, by omega⟩
  obtain ⟨x, hx⟩ : ∃ x, p % 9 = x := ⟨_, rfl⟩
  obtain ⟨y, hy⟩ : ∃ y, q % 8 = y := ⟨_, rfl⟩
  have hx9 : x < 9 := by omega
  have hy8 : y < 8 := by omega
  have ex : (p : Int) % 9 = (x : Int) := by omega
  have ey : (q : Int) % 8 = (y : Int) := by omega
  have hC := Lib.hid (fun W => check_ok g c mn0 mx0 W w0 hok)
  have hUx := Lib.hid (fun W => units_ok g c mn0 mx0 x W w0 hok (by omega))
  have hUy := Lib.hid (fun W => units_ok g c mn0 mx0 y W w0 hok (by omega))
  have hUz : Hid (∀ W, Calls Tryd.prog 9 #[.agg #[.int .i64 (g : Int), .int .i64 (c : Int), .int .i64 mn0, .int .i64 mx0], .int .i64 ((x : Int) + (y : Int))] W _) := Lib.hid (fun W => units_ok g c mn0 mx0 (x + y) W w0 hok (by omega))
  obtain ⟨gx, hgx⟩ : ∃ v, v = g * x := ⟨_, rfl⟩
  obtain ⟨cx, hcx⟩ : ∃ v, v = c * x := ⟨_, rfl⟩
  obtain ⟨gy, hgy⟩ : ∃ v, v = g * y := ⟨_, rfl⟩
  obtain ⟨cy, hcy⟩ : ∃ v, v = c * y := ⟨_, rfl⟩
  obtain ⟨gz, hgz⟩ : ∃ v, v = g * (x + y) := ⟨_, rfl⟩
  obtain ⟨cz, hcz⟩ : ∃ v, v = c * (x + y) := ⟨_, rfl⟩
  rw [← hgx, ← hcx] at hUx
  rw [← hgy, ← hcy] at hUy
  simp only [← hgz, ← hcz] at hUz
  have hg1 : gx + gy = gz := by rw [hgx, hgy, hgz, Nat.mul_add]
  have hc1 : cx + cy = cz := by rw [hcx, hcy, hcz, Nat.mul_add]
  have hgl : gz ≤ 256 := by rw [hgz]; exact Nat.le_trans (Nat.mul_le_mul hg16 (show x + y ≤ 16 by omega)) (by omega)
  have hcl : cz ≤ 16384 := by rw [hcz]; exact Nat.le_trans (Nat.mul_le_mul hc16 (show x + y ≤ 16 by omega)) (by omega)
  have tg : ((gx : Int) + (gy : Int) == (gz : Int)) = true := by rw [← hg1]; simp
  have tc : ((cx : Int) + (cy : Int) == (cz : Int)) = true := by rw [← hc1]; simp
  have l1 : gx ≤ 256 := by omega
  have l2 : gy ≤ 256 := by omega
  have l3 : cx ≤ 16384 := by omega
  have l4 : cy ≤ 16384 := by omega
  clear hg1 hc1 hgx hcx hgy hcy hgz hcz hx hy w1 w2
  -- the member's piece, and how many fit: both some, or none
  obtain ⟨N, E, p0, p1, p2, p3, r0, r1, r2, r3, hFit, hPiece, hNE, hN⟩ : ∃ (N : Nat) (E : Int) (p0 p1 p2 p3 r0 r1 r2 r3 : Int), Hid (∀ W, Below w.heap.size w W → Calls Tryd.prog 13 #[.agg #[.int .i64 (g : Int), .int .i64 (c : Int), .int .i64 mn0, .int .i64 mx0], .agg #[.int .i64 x3, .int .i64 y3, .int .u64 (m3 : Nat), .int .i64 k3]] W fun e w' => e = .returned (.int .i64 (N : Nat)) ∧ Below W.heap.size W w') ∧
      Hid (∀ W, Below w.heap.size w W → Calls Tryd.prog 10 #[.agg #[.int .i64 (g : Int), .int .i64 (c : Int), .int .i64 mn0, .int .i64 mx0], .agg #[.int .i64 x3, .int .i64 y3, .int .u64 (m3 : Nat), .int .i64 k3]] W fun e w' => e = .returned (.tuple #[.agg #[.int .i64 p0, .int .i64 p1, .int .u64 p2, .int .i64 p3], .agg #[.int .i64 r0, .int .i64 r1, .int .u64 r2, .int .i64 r3], .int .i64 E]) ∧ Below W.heap.size W w') ∧
      ((decide (0 < N)) = (E == 0)) ∧ N ≤ 16 := by
    obtain ⟨d1, d2⟩ := bounds_i64 wk3
    by_cases hk : k3 < 0
    · have hF := fun W (_ : Below w.heap.size w W) => fits_neg g c mn0 mx0 x3 y3 m3 k3 W w0 hok hk
      exact ⟨0, 7, 0, 0, 0, 0, 0, 0, 0, 0, Lib.hid hF, Lib.hid fun W hW => piece_full g c mn0 mx0 x3 y3 m3 k3 W w0 hok fun W' hW' => hF W' (hW.trans (hW'.mono hW.size)), by decide, by omega⟩
    · obtain ⟨k, rfl⟩ : ∃ k : Nat, k3 = k := ⟨k3.toNat, by omega⟩
      have hF := fun W (hW : Below w.heap.size w W) => fits_ok g c mn0 mx0 x3 y3 m3 k W w0 hok wm3 (by omega) (hT.below hW hT.size)
      have h16 := fit_le g c (MM.cnt m3) k
      by_cases h0 : fitN g c (MM.cnt m3) k = 0
      · rw [h0] at hF
        exact ⟨0, 7, 0, 0, 0, 0, 0, 0, 0, 0, Lib.hid hF, Lib.hid fun W hW => piece_full g c mn0 mx0 x3 y3 m3 k W w0 hok fun W' hW' => hF W' (hW.trans (hW'.mono hW.size)), by decide, by omega⟩
      · exact ⟨_, 0, _, _, _, _, _, _, _, _, Lib.hid hF, Lib.hid fun W hW => piece_ok g c mn0 mx0 x3 y3 m3 k W w0 hok wm3 (by omega) (hT.below hW hT.size) (by omega), by simp; omega, h16⟩
  clear w0 hok hgc wm3 wk3 hT
  have HNE := Lib.hid hNE
  clear hNE
  have HBel := Lib.hid (Below.refl w.heap.size w)
  have hlow : w.heap.size ≤ w.heap.size := Nat.le_refl _
  go_enter Tryd.func6, Tryd.ntmps6
  go_wp2_with fail
  obtain ⟨V1, hV1⟩ : ∃ W, W = (w.alloc (.cells #[.int .i64 (g : Int), .int .i64 (c : Int), .int .i64 mn0, .int .i64 mx0] 23)).alloc (.cells #[.int .i64 x3, .int .i64 y3, .int .u64 (m3 : Nat), .int .i64 k3] 28) := ⟨_, rfl⟩
  rw [← hV1]
  have hzV1 : V1.heap.size = w.heap.size + 1 + 1 := by rw [hV1]; simp
  replace HBel : Hid (Below w.heap.size w V1) := Lib.hid (by rw [hV1]; exact ((HBel.out.alloc (hlow) _).alloc (by simp <;> omega) _))
  have B_s : Hid (V1.heap[w.heap.size]? = some (.cells #[.int .i64 (g : Int), .int .i64 (c : Int), .int .i64 mn0, .int .i64 mx0] 23 (0, 0))) := Lib.hid (by
    have h9 := heap_alloc_new (w) (.cells #[.int .i64 (g : Int), .int .i64 (c : Int), .int .i64 mn0, .int .i64 mx0] 23)
    rw [hV1]; exact ((Below.heap_alloc _ _ _ (by simp <;> omega)).trans h9))
  have B_f : Hid (V1.heap[w.heap.size + 1]? = some (.cells #[.int .i64 x3, .int .i64 y3, .int .u64 (m3 : Nat), .int .i64 k3] 28 (0, 0))) := Lib.hid (by
    have h9 := heap_alloc_new (w.alloc (.cells #[.int .i64 (g : Int), .int .i64 (c : Int), .int .i64 mn0, .int .i64 mx0] 23)) (.cells #[.int .i64 x3, .int .i64 y3, .int .u64 (m3 : Nat), .int .i64 k3] 28)
    rw [World.size_alloc] at h9
    rw [hV1]; exact h9)
  obtain ⟨N_s, hN_s⟩ : ∃ N, N = w.heap.size := ⟨_, rfl⟩
  obtain ⟨N_f, hN_f⟩ : ∃ N, N = w.heap.size + 1 := ⟨_, rfl⟩
  (try rw [← hN_f])
  rw [← hN_f] at B_f
  (try rw [← hN_s])
  rw [← hN_s] at B_s
  have l_s : N_s < V1.heap.size := by omega
  have l_f : N_f < V1.heap.size := by omega
  have g_s : w.heap.size ≤ N_s := by omega
  have g_f : w.heap.size ≤ N_f := by omega
  have d_s_f : N_s < N_f := by omega
  replace hlow : w.heap.size ≤ V1.heap.size := by omega
  clear hV1 hzV1 hN_s hN_f
  refine (hAw.out V1 (HT.out.below HBel.out HT.out.size)).mono ?_
  rintro e U2 ⟨rfl, hb9⟩
  have hs9 := hb9.size
  replace HBel := Lib.hid (HBel.out.trans (hb9.mono hlow))
  replace B_s : Hid (U2.heap[N_s]? = some (.cells #[.int .i64 (g : Int), .int .i64 (c : Int), .int .i64 mn0, .int .i64 mx0] 23 (0, 0))) := Lib.hid ((hb9.block _ l_s).trans B_s.out)
  replace B_f : Hid (U2.heap[N_f]? = some (.cells #[.int .i64 x3, .int .i64 y3, .int .u64 (m3 : Nat), .int .i64 k3] 28 (0, 0))) := Lib.hid ((hb9.block _ l_f).trans B_f.out)
  replace l_s : N_s < U2.heap.size := by omega
  replace l_f : N_f < U2.heap.size := by omega
  replace hlow : w.heap.size ≤ U2.heap.size := by omega
  clear hb9 hs9
  have s0 : U2.cell? ⟨N_s, 0, none⟩ = some (.int .i64 (g : Int)) := cell_blk (i := 0) B_s.out rfl
  have s1 : U2.cell? ⟨N_s, 1, none⟩ = some (.int .i64 (c : Int)) := cell_blk (i := 1) B_s.out rfl
  have s2 : U2.cell? ⟨N_s, 2, none⟩ = some (.int .i64 mn0) := cell_blk (i := 2) B_s.out rfl
  have s3 : U2.cell? ⟨N_s, 3, none⟩ = some (.int .i64 mx0) := cell_blk (i := 3) B_s.out rfl
  go_wp2_with fail
  refine (hC.out _).mono ?_
  rintro e U3 ⟨rfl, hb9⟩
  clear s0 s1 s2 s3
  have hs9 := hb9.size
  replace HBel := Lib.hid (HBel.out.trans (hb9.mono hlow))
  replace B_s : Hid (U3.heap[N_s]? = some (.cells #[.int .i64 (g : Int), .int .i64 (c : Int), .int .i64 mn0, .int .i64 mx0] 23 (0, 0))) := Lib.hid ((hb9.block _ l_s).trans B_s.out)
  replace B_f : Hid (U3.heap[N_f]? = some (.cells #[.int .i64 x3, .int .i64 y3, .int .u64 (m3 : Nat), .int .i64 k3] 28 (0, 0))) := Lib.hid ((hb9.block _ l_f).trans B_f.out)
  replace l_s : N_s < U3.heap.size := by omega
  replace l_f : N_f < U3.heap.size := by omega
  replace hlow : w.heap.size ≤ U3.heap.size := by omega
  clear hb9 hs9
  have s0 : U3.cell? ⟨N_s, 0, none⟩ = some (.int .i64 (g : Int)) := cell_blk (i := 0) B_s.out rfl
  have s1 : U3.cell? ⟨N_s, 1, none⟩ = some (.int .i64 (c : Int)) := cell_blk (i := 1) B_s.out rfl
  have s2 : U3.cell? ⟨N_s, 2, none⟩ = some (.int .i64 mn0) := cell_blk (i := 2) B_s.out rfl
  have s3 : U3.cell? ⟨N_s, 3, none⟩ = some (.int .i64 mx0) := cell_blk (i := 3) B_s.out rfl
  go_wp2_with fail
  refine (hUx.out _).mono ?_
  rintro e U4 ⟨rfl, hb9⟩
  clear s0 s1 s2 s3
  have hs9 := hb9.size
  replace HBel := Lib.hid (HBel.out.trans (hb9.mono hlow))
  replace B_s : Hid (U4.heap[N_s]? = some (.cells #[.int .i64 (g : Int), .int .i64 (c : Int), .int .i64 mn0, .int .i64 mx0] 23 (0, 0))) := Lib.hid ((hb9.block _ l_s).trans B_s.out)
  replace B_f : Hid (U4.heap[N_f]? = some (.cells #[.int .i64 x3, .int .i64 y3, .int .u64 (m3 : Nat), .int .i64 k3] 28 (0, 0))) := Lib.hid ((hb9.block _ l_f).trans B_f.out)
  replace l_s : N_s < U4.heap.size := by omega
  replace l_f : N_f < U4.heap.size := by omega
  replace hlow : w.heap.size ≤ U4.heap.size := by omega
  clear hb9 hs9
  have s0 : U4.cell? ⟨N_s, 0, none⟩ = some (.int .i64 (g : Int)) := cell_blk (i := 0) B_s.out rfl
  have s1 : U4.cell? ⟨N_s, 1, none⟩ = some (.int .i64 (c : Int)) := cell_blk (i := 1) B_s.out rfl
  have s2 : U4.cell? ⟨N_s, 2, none⟩ = some (.int .i64 mn0) := cell_blk (i := 2) B_s.out rfl
  have s3 : U4.cell? ⟨N_s, 3, none⟩ = some (.int .i64 mx0) := cell_blk (i := 3) B_s.out rfl
  go_wp2_with fail
  clear s0 s1 s2 s3
  obtain ⟨V5, hV5⟩ : ∃ W, W = U4.alloc (.cells #[.int .i64 (gx : Int), .int .i64 (cx : Int)] 31) := ⟨_, rfl⟩
  rw [← hV5]
  have hzV5 : V5.heap.size = U4.heap.size + 1 := by rw [hV5]; simp
  replace HBel : Hid (Below w.heap.size w V5) := Lib.hid (by rw [hV5]; exact (HBel.out.alloc (hlow) _))
  replace B_s : Hid (V5.heap[N_s]? = some (.cells #[.int .i64 (g : Int), .int .i64 (c : Int), .int .i64 mn0, .int .i64 mx0] 23 (0, 0))) := Lib.hid (by rw [hV5]; exact ((Below.heap_alloc _ _ _ (by first | omega | (simp <;> omega))).trans B_s.out))
  replace B_f : Hid (V5.heap[N_f]? = some (.cells #[.int .i64 x3, .int .i64 y3, .int .u64 (m3 : Nat), .int .i64 k3] 28 (0, 0))) := Lib.hid (by rw [hV5]; exact ((Below.heap_alloc _ _ _ (by first | omega | (simp <;> omega))).trans B_f.out))
  have B_ux : Hid (V5.heap[U4.heap.size]? = some (.cells #[.int .i64 (gx : Int), .int .i64 (cx : Int)] 31 (0, 0))) := Lib.hid (by
    have h9 := heap_alloc_new (U4) (.cells #[.int .i64 (gx : Int), .int .i64 (cx : Int)] 31)
    rw [hV5]; exact h9)
  obtain ⟨N_ux, hN_ux⟩ : ∃ N, N = U4.heap.size := ⟨_, rfl⟩
  (try rw [← hN_ux])
  rw [← hN_ux] at B_ux
  have d_s_ux : N_s < N_ux := by omega
  have d_f_ux : N_f < N_ux := by omega
  replace l_s : N_s < V5.heap.size := by omega
  replace l_f : N_f < V5.heap.size := by omega
  have l_ux : N_ux < V5.heap.size := by omega
  have g_ux : w.heap.size ≤ N_ux := by omega
  replace hlow : w.heap.size ≤ V5.heap.size := by omega
  clear hV5 hzV5 hN_ux
  have s0 : V5.cell? ⟨N_s, 0, none⟩ = some (.int .i64 (g : Int)) := cell_blk (i := 0) B_s.out rfl
  have s1 : V5.cell? ⟨N_s, 1, none⟩ = some (.int .i64 (c : Int)) := cell_blk (i := 1) B_s.out rfl
  have s2 : V5.cell? ⟨N_s, 2, none⟩ = some (.int .i64 mn0) := cell_blk (i := 2) B_s.out rfl
  have s3 : V5.cell? ⟨N_s, 3, none⟩ = some (.int .i64 mx0) := cell_blk (i := 3) B_s.out rfl
  refine (hUy.out _).mono ?_
  rintro e U6 ⟨rfl, hb9⟩
  clear s0 s1 s2 s3
  have hs9 := hb9.size
  replace HBel := Lib.hid (HBel.out.trans (hb9.mono hlow))
  replace B_s : Hid (U6.heap[N_s]? = some (.cells #[.int .i64 (g : Int), .int .i64 (c : Int), .int .i64 mn0, .int .i64 mx0] 23 (0, 0))) := Lib.hid ((hb9.block _ l_s).trans B_s.out)
  replace B_f : Hid (U6.heap[N_f]? = some (.cells #[.int .i64 x3, .int .i64 y3, .int .u64 (m3 : Nat), .int .i64 k3] 28 (0, 0))) := Lib.hid ((hb9.block _ l_f).trans B_f.out)
  replace B_ux : Hid (U6.heap[N_ux]? = some (.cells #[.int .i64 (gx : Int), .int .i64 (cx : Int)] 31 (0, 0))) := Lib.hid ((hb9.block _ l_ux).trans B_ux.out)
  replace l_s : N_s < U6.heap.size := by omega
  replace l_f : N_f < U6.heap.size := by omega
  replace l_ux : N_ux < U6.heap.size := by omega
  replace hlow : w.heap.size ≤ U6.heap.size := by omega
  clear hb9 hs9
  have s0 : U6.cell? ⟨N_s, 0, none⟩ = some (.int .i64 (g : Int)) := cell_blk (i := 0) B_s.out rfl
  have s1 : U6.cell? ⟨N_s, 1, none⟩ = some (.int .i64 (c : Int)) := cell_blk (i := 1) B_s.out rfl
  have s2 : U6.cell? ⟨N_s, 2, none⟩ = some (.int .i64 mn0) := cell_blk (i := 2) B_s.out rfl
  have s3 : U6.cell? ⟨N_s, 3, none⟩ = some (.int .i64 mx0) := cell_blk (i := 3) B_s.out rfl
  go_wp2_with fail
  clear s0 s1 s2 s3
  obtain ⟨V7, hV7⟩ : ∃ W, W = U6.alloc (.cells #[.int .i64 (gy : Int), .int .i64 (cy : Int)] 31) := ⟨_, rfl⟩
  rw [← hV7]
  have hzV7 : V7.heap.size = U6.heap.size + 1 := by rw [hV7]; simp
  replace HBel : Hid (Below w.heap.size w V7) := Lib.hid (by rw [hV7]; exact (HBel.out.alloc (hlow) _))
  replace B_s : Hid (V7.heap[N_s]? = some (.cells #[.int .i64 (g : Int), .int .i64 (c : Int), .int .i64 mn0, .int .i64 mx0] 23 (0, 0))) := Lib.hid (by rw [hV7]; exact ((Below.heap_alloc _ _ _ (by first | omega | (simp <;> omega))).trans B_s.out))
  replace B_f : Hid (V7.heap[N_f]? = some (.cells #[.int .i64 x3, .int .i64 y3, .int .u64 (m3 : Nat), .int .i64 k3] 28 (0, 0))) := Lib.hid (by rw [hV7]; exact ((Below.heap_alloc _ _ _ (by first | omega | (simp <;> omega))).trans B_f.out))
  replace B_ux : Hid (V7.heap[N_ux]? = some (.cells #[.int .i64 (gx : Int), .int .i64 (cx : Int)] 31 (0, 0))) := Lib.hid (by rw [hV7]; exact ((Below.heap_alloc _ _ _ (by first | omega | (simp <;> omega))).trans B_ux.out))
  have B_uy : Hid (V7.heap[U6.heap.size]? = some (.cells #[.int .i64 (gy : Int), .int .i64 (cy : Int)] 31 (0, 0))) := Lib.hid (by
    have h9 := heap_alloc_new (U6) (.cells #[.int .i64 (gy : Int), .int .i64 (cy : Int)] 31)
    rw [hV7]; exact h9)
  obtain ⟨N_uy, hN_uy⟩ : ∃ N, N = U6.heap.size := ⟨_, rfl⟩
  (try rw [← hN_uy])
  rw [← hN_uy] at B_uy
  have d_s_uy : N_s < N_uy := by omega
  have d_f_uy : N_f < N_uy := by omega
  have d_ux_uy : N_ux < N_uy := by omega
  replace l_s : N_s < V7.heap.size := by omega
  replace l_f : N_f < V7.heap.size := by omega
  replace l_ux : N_ux < V7.heap.size := by omega
  have l_uy : N_uy < V7.heap.size := by omega
  have g_uy : w.heap.size ≤ N_uy := by omega
  replace hlow : w.heap.size ≤ V7.heap.size := by omega
  clear hV7 hzV7 hN_uy
  refine (hUz.out _).mono ?_
  rintro e U8 ⟨rfl, hb9⟩
  have hs9 := hb9.size
  replace HBel := Lib.hid (HBel.out.trans (hb9.mono hlow))
  replace B_s : Hid (U8.heap[N_s]? = some (.cells #[.int .i64 (g : Int), .int .i64 (c : Int), .int .i64 mn0, .int .i64 mx0] 23 (0, 0))) := Lib.hid ((hb9.block _ l_s).trans B_s.out)
  replace B_f : Hid (U8.heap[N_f]? = some (.cells #[.int .i64 x3, .int .i64 y3, .int .u64 (m3 : Nat), .int .i64 k3] 28 (0, 0))) := Lib.hid ((hb9.block _ l_f).trans B_f.out)
  replace B_ux : Hid (U8.heap[N_ux]? = some (.cells #[.int .i64 (gx : Int), .int .i64 (cx : Int)] 31 (0, 0))) := Lib.hid ((hb9.block _ l_ux).trans B_ux.out)
  replace B_uy : Hid (U8.heap[N_uy]? = some (.cells #[.int .i64 (gy : Int), .int .i64 (cy : Int)] 31 (0, 0))) := Lib.hid ((hb9.block _ l_uy).trans B_uy.out)
  replace l_s : N_s < U8.heap.size := by omega
  replace l_f : N_f < U8.heap.size := by omega
  replace l_ux : N_ux < U8.heap.size := by omega
  replace l_uy : N_uy < U8.heap.size := by omega
  replace hlow : w.heap.size ≤ U8.heap.size := by omega
  clear hb9 hs9
  have s0 : U8.cell? ⟨N_s, 0, none⟩ = some (.int .i64 (g : Int)) := cell_blk (i := 0) B_s.out rfl
  have s1 : U8.cell? ⟨N_s, 1, none⟩ = some (.int .i64 (c : Int)) := cell_blk (i := 1) B_s.out rfl
  have s2 : U8.cell? ⟨N_s, 2, none⟩ = some (.int .i64 mn0) := cell_blk (i := 2) B_s.out rfl
  have s3 : U8.cell? ⟨N_s, 3, none⟩ = some (.int .i64 mx0) := cell_blk (i := 3) B_s.out rfl
  have f0 : U8.cell? ⟨N_f, 0, none⟩ = some (.int .i64 x3) := cell_blk (i := 0) B_f.out rfl
  have f1 : U8.cell? ⟨N_f, 1, none⟩ = some (.int .i64 y3) := cell_blk (i := 1) B_f.out rfl
  have f2 : U8.cell? ⟨N_f, 2, none⟩ = some (.int .u64 (m3 : Nat)) := cell_blk (i := 2) B_f.out rfl
  have f3 : U8.cell? ⟨N_f, 3, none⟩ = some (.int .i64 k3) := cell_blk (i := 3) B_f.out rfl
  go_wp2_with fail
  clear s0 s1 s2 s3 f0 f1 f2 f3
  obtain ⟨V9, hV9⟩ : ∃ W, W = U8.alloc (.cells #[.int .i64 (gz : Int), .int .i64 (cz : Int)] 31) := ⟨_, rfl⟩
  rw [← hV9]
  have hzV9 : V9.heap.size = U8.heap.size + 1 := by rw [hV9]; simp
  replace HBel : Hid (Below w.heap.size w V9) := Lib.hid (by rw [hV9]; exact (HBel.out.alloc (hlow) _))
  replace B_s : Hid (V9.heap[N_s]? = some (.cells #[.int .i64 (g : Int), .int .i64 (c : Int), .int .i64 mn0, .int .i64 mx0] 23 (0, 0))) := Lib.hid (by rw [hV9]; exact ((Below.heap_alloc _ _ _ (by first | omega | (simp <;> omega))).trans B_s.out))
  replace B_f : Hid (V9.heap[N_f]? = some (.cells #[.int .i64 x3, .int .i64 y3, .int .u64 (m3 : Nat), .int .i64 k3] 28 (0, 0))) := Lib.hid (by rw [hV9]; exact ((Below.heap_alloc _ _ _ (by first | omega | (simp <;> omega))).trans B_f.out))
  replace B_ux : Hid (V9.heap[N_ux]? = some (.cells #[.int .i64 (gx : Int), .int .i64 (cx : Int)] 31 (0, 0))) := Lib.hid (by rw [hV9]; exact ((Below.heap_alloc _ _ _ (by first | omega | (simp <;> omega))).trans B_ux.out))
  replace B_uy : Hid (V9.heap[N_uy]? = some (.cells #[.int .i64 (gy : Int), .int .i64 (cy : Int)] 31 (0, 0))) := Lib.hid (by rw [hV9]; exact ((Below.heap_alloc _ _ _ (by first | omega | (simp <;> omega))).trans B_uy.out))
  have B_uz : Hid (V9.heap[U8.heap.size]? = some (.cells #[.int .i64 (gz : Int), .int .i64 (cz : Int)] 31 (0, 0))) := Lib.hid (by
    have h9 := heap_alloc_new (U8) (.cells #[.int .i64 (gz : Int), .int .i64 (cz : Int)] 31)
    rw [hV9]; exact h9)
  obtain ⟨N_uz, hN_uz⟩ : ∃ N, N = U8.heap.size := ⟨_, rfl⟩
  (try rw [← hN_uz])
  rw [← hN_uz] at B_uz
  have d_s_uz : N_s < N_uz := by omega
  have d_f_uz : N_f < N_uz := by omega
  have d_ux_uz : N_ux < N_uz := by omega
  have d_uy_uz : N_uy < N_uz := by omega
  replace l_s : N_s < V9.heap.size := by omega
  replace l_f : N_f < V9.heap.size := by omega
  replace l_ux : N_ux < V9.heap.size := by omega
  replace l_uy : N_uy < V9.heap.size := by omega
  have l_uz : N_uz < V9.heap.size := by omega
  have g_uz : w.heap.size ≤ N_uz := by omega
  replace hlow : w.heap.size ≤ V9.heap.size := by omega
  clear hV9 hzV9 hN_uz
  refine (hPiece.out _ HBel.out).mono ?_
  rintro e U10 ⟨rfl, hb9⟩
  have hs9 := hb9.size
  replace HBel := Lib.hid (HBel.out.trans (hb9.mono hlow))
  replace B_s : Hid (U10.heap[N_s]? = some (.cells #[.int .i64 (g : Int), .int .i64 (c : Int), .int .i64 mn0, .int .i64 mx0] 23 (0, 0))) := Lib.hid ((hb9.block _ l_s).trans B_s.out)
  replace B_f : Hid (U10.heap[N_f]? = some (.cells #[.int .i64 x3, .int .i64 y3, .int .u64 (m3 : Nat), .int .i64 k3] 28 (0, 0))) := Lib.hid ((hb9.block _ l_f).trans B_f.out)
  replace B_ux : Hid (U10.heap[N_ux]? = some (.cells #[.int .i64 (gx : Int), .int .i64 (cx : Int)] 31 (0, 0))) := Lib.hid ((hb9.block _ l_ux).trans B_ux.out)
  replace B_uy : Hid (U10.heap[N_uy]? = some (.cells #[.int .i64 (gy : Int), .int .i64 (cy : Int)] 31 (0, 0))) := Lib.hid ((hb9.block _ l_uy).trans B_uy.out)
  replace B_uz : Hid (U10.heap[N_uz]? = some (.cells #[.int .i64 (gz : Int), .int .i64 (cz : Int)] 31 (0, 0))) := Lib.hid ((hb9.block _ l_uz).trans B_uz.out)
  replace l_s : N_s < U10.heap.size := by omega
  replace l_f : N_f < U10.heap.size := by omega
  replace l_ux : N_ux < U10.heap.size := by omega
  replace l_uy : N_uy < U10.heap.size := by omega
  replace l_uz : N_uz < U10.heap.size := by omega
  replace hlow : w.heap.size ≤ U10.heap.size := by omega
  clear hb9 hs9
  have s0 : U10.cell? ⟨N_s, 0, none⟩ = some (.int .i64 (g : Int)) := cell_blk (i := 0) B_s.out rfl
  have s1 : U10.cell? ⟨N_s, 1, none⟩ = some (.int .i64 (c : Int)) := cell_blk (i := 1) B_s.out rfl
  have s2 : U10.cell? ⟨N_s, 2, none⟩ = some (.int .i64 mn0) := cell_blk (i := 2) B_s.out rfl
  have s3 : U10.cell? ⟨N_s, 3, none⟩ = some (.int .i64 mx0) := cell_blk (i := 3) B_s.out rfl
  have l_s_0 : N_s < U10.heap.size + 1 := by omega
  have l_s_1 : N_s < U10.heap.size + 1 + 1 := by omega
  have f0 : U10.cell? ⟨N_f, 0, none⟩ = some (.int .i64 x3) := cell_blk (i := 0) B_f.out rfl
  have f1 : U10.cell? ⟨N_f, 1, none⟩ = some (.int .i64 y3) := cell_blk (i := 1) B_f.out rfl
  have f2 : U10.cell? ⟨N_f, 2, none⟩ = some (.int .u64 (m3 : Nat)) := cell_blk (i := 2) B_f.out rfl
  have f3 : U10.cell? ⟨N_f, 3, none⟩ = some (.int .i64 k3) := cell_blk (i := 3) B_f.out rfl
  have l_f_0 : N_f < U10.heap.size + 1 := by omega
  have l_f_1 : N_f < U10.heap.size + 1 + 1 := by omega
  have ux0 : U10.cell? ⟨N_ux, 0, none⟩ = some (.int .i64 (gx : Int)) := cell_blk (i := 0) B_ux.out rfl
  have ux1 : U10.cell? ⟨N_ux, 1, none⟩ = some (.int .i64 (cx : Int)) := cell_blk (i := 1) B_ux.out rfl
  have l_ux_0 : N_ux < U10.heap.size + 1 := by omega
  have l_ux_1 : N_ux < U10.heap.size + 1 + 1 := by omega
  have uy0 : U10.cell? ⟨N_uy, 0, none⟩ = some (.int .i64 (gy : Int)) := cell_blk (i := 0) B_uy.out rfl
  have uy1 : U10.cell? ⟨N_uy, 1, none⟩ = some (.int .i64 (cy : Int)) := cell_blk (i := 1) B_uy.out rfl
  have l_uy_0 : N_uy < U10.heap.size + 1 := by omega
  have l_uy_1 : N_uy < U10.heap.size + 1 + 1 := by omega
  have uz0 : U10.cell? ⟨N_uz, 0, none⟩ = some (.int .i64 (gz : Int)) := cell_blk (i := 0) B_uz.out rfl
  have uz1 : U10.cell? ⟨N_uz, 1, none⟩ = some (.int .i64 (cz : Int)) := cell_blk (i := 1) B_uz.out rfl
  have l_uz_0 : N_uz < U10.heap.size + 1 := by omega
  have l_uz_1 : N_uz < U10.heap.size + 1 + 1 := by omega
  go_wp2_with fail
  clear s0 s1 s2 s3 l_s_0 l_s_1 f0 f1 f2 f3 l_f_0 l_f_1 ux0 ux1 l_ux_0 l_ux_1 uy0 uy1 l_uy_0 l_uy_1 uz0 uz1 l_uz_0 l_uz_1
  obtain ⟨V11, hV11⟩ : ∃ W, W = (U10.alloc (.cells #[.int .i64 p0, .int .i64 p1, .int .u64 p2, .int .i64 p3] 35)).alloc (.cells #[.int .i64 r0, .int .i64 r1, .int .u64 r2, .int .i64 r3] 28) := ⟨_, rfl⟩
  rw [← hV11]
  have hzV11 : V11.heap.size = U10.heap.size + 1 + 1 := by rw [hV11]; simp
  replace HBel : Hid (Below w.heap.size w V11) := Lib.hid (by rw [hV11]; exact ((HBel.out.alloc (hlow) _).alloc (by simp <;> omega) _))
  replace B_s : Hid (V11.heap[N_s]? = some (.cells #[.int .i64 (g : Int), .int .i64 (c : Int), .int .i64 mn0, .int .i64 mx0] 23 (0, 0))) := Lib.hid (by rw [hV11]; exact ((Below.heap_alloc _ _ _ (by first | omega | (simp <;> omega))).trans ((Below.heap_alloc _ _ _ (by first | omega | (simp <;> omega))).trans B_s.out)))
  replace B_f : Hid (V11.heap[N_f]? = some (.cells #[.int .i64 x3, .int .i64 y3, .int .u64 (m3 : Nat), .int .i64 k3] 28 (0, 0))) := Lib.hid (by rw [hV11]; exact ((Below.heap_alloc _ _ _ (by first | omega | (simp <;> omega))).trans ((Below.heap_alloc _ _ _ (by first | omega | (simp <;> omega))).trans B_f.out)))
  replace B_ux : Hid (V11.heap[N_ux]? = some (.cells #[.int .i64 (gx : Int), .int .i64 (cx : Int)] 31 (0, 0))) := Lib.hid (by rw [hV11]; exact ((Below.heap_alloc _ _ _ (by first | omega | (simp <;> omega))).trans ((Below.heap_alloc _ _ _ (by first | omega | (simp <;> omega))).trans B_ux.out)))
  replace B_uy : Hid (V11.heap[N_uy]? = some (.cells #[.int .i64 (gy : Int), .int .i64 (cy : Int)] 31 (0, 0))) := Lib.hid (by rw [hV11]; exact ((Below.heap_alloc _ _ _ (by first | omega | (simp <;> omega))).trans ((Below.heap_alloc _ _ _ (by first | omega | (simp <;> omega))).trans B_uy.out)))
  replace B_uz : Hid (V11.heap[N_uz]? = some (.cells #[.int .i64 (gz : Int), .int .i64 (cz : Int)] 31 (0, 0))) := Lib.hid (by rw [hV11]; exact ((Below.heap_alloc _ _ _ (by first | omega | (simp <;> omega))).trans ((Below.heap_alloc _ _ _ (by first | omega | (simp <;> omega))).trans B_uz.out)))
  have B_ps : Hid (V11.heap[U10.heap.size]? = some (.cells #[.int .i64 p0, .int .i64 p1, .int .u64 p2, .int .i64 p3] 35 (0, 0))) := Lib.hid (by
    have h9 := heap_alloc_new (U10) (.cells #[.int .i64 p0, .int .i64 p1, .int .u64 p2, .int .i64 p3] 35)
    rw [hV11]; exact ((Below.heap_alloc _ _ _ (by simp <;> omega)).trans h9))
  have B_rs : Hid (V11.heap[U10.heap.size + 1]? = some (.cells #[.int .i64 r0, .int .i64 r1, .int .u64 r2, .int .i64 r3] 28 (0, 0))) := Lib.hid (by
    have h9 := heap_alloc_new (U10.alloc (.cells #[.int .i64 p0, .int .i64 p1, .int .u64 p2, .int .i64 p3] 35)) (.cells #[.int .i64 r0, .int .i64 r1, .int .u64 r2, .int .i64 r3] 28)
    rw [World.size_alloc] at h9
    rw [hV11]; exact h9)
  obtain ⟨N_ps, hN_ps⟩ : ∃ N, N = U10.heap.size := ⟨_, rfl⟩
  obtain ⟨N_rs, hN_rs⟩ : ∃ N, N = U10.heap.size + 1 := ⟨_, rfl⟩
  (try rw [← hN_rs])
  rw [← hN_rs] at B_rs
  (try rw [← hN_ps])
  rw [← hN_ps] at B_ps
  have d_s_ps : N_s < N_ps := by omega
  have d_f_ps : N_f < N_ps := by omega
  have d_ux_ps : N_ux < N_ps := by omega
  have d_uy_ps : N_uy < N_ps := by omega
  have d_uz_ps : N_uz < N_ps := by omega
  have d_s_rs : N_s < N_rs := by omega
  have d_f_rs : N_f < N_rs := by omega
  have d_ux_rs : N_ux < N_rs := by omega
  have d_uy_rs : N_uy < N_rs := by omega
  have d_uz_rs : N_uz < N_rs := by omega
  replace l_s : N_s < V11.heap.size := by omega
  replace l_f : N_f < V11.heap.size := by omega
  replace l_ux : N_ux < V11.heap.size := by omega
  replace l_uy : N_uy < V11.heap.size := by omega
  replace l_uz : N_uz < V11.heap.size := by omega
  have l_ps : N_ps < V11.heap.size := by omega
  have l_rs : N_rs < V11.heap.size := by omega
  have g_ps : w.heap.size ≤ N_ps := by omega
  have g_rs : w.heap.size ≤ N_rs := by omega
  have d_ps_rs : N_ps < N_rs := by omega
  replace hlow : w.heap.size ≤ V11.heap.size := by omega
  clear hV11 hzV11 hN_ps hN_rs
  refine (hFit.out _ HBel.out).mono ?_
  rintro e U12 ⟨rfl, hb9⟩
  have hs9 := hb9.size
  replace HBel := Lib.hid (HBel.out.trans (hb9.mono hlow))
  replace B_s : Hid (U12.heap[N_s]? = some (.cells #[.int .i64 (g : Int), .int .i64 (c : Int), .int .i64 mn0, .int .i64 mx0] 23 (0, 0))) := Lib.hid ((hb9.block _ l_s).trans B_s.out)
  replace B_f : Hid (U12.heap[N_f]? = some (.cells #[.int .i64 x3, .int .i64 y3, .int .u64 (m3 : Nat), .int .i64 k3] 28 (0, 0))) := Lib.hid ((hb9.block _ l_f).trans B_f.out)
  replace B_ux : Hid (U12.heap[N_ux]? = some (.cells #[.int .i64 (gx : Int), .int .i64 (cx : Int)] 31 (0, 0))) := Lib.hid ((hb9.block _ l_ux).trans B_ux.out)
  replace B_uy : Hid (U12.heap[N_uy]? = some (.cells #[.int .i64 (gy : Int), .int .i64 (cy : Int)] 31 (0, 0))) := Lib.hid ((hb9.block _ l_uy).trans B_uy.out)
  replace B_uz : Hid (U12.heap[N_uz]? = some (.cells #[.int .i64 (gz : Int), .int .i64 (cz : Int)] 31 (0, 0))) := Lib.hid ((hb9.block _ l_uz).trans B_uz.out)
  replace B_ps : Hid (U12.heap[N_ps]? = some (.cells #[.int .i64 p0, .int .i64 p1, .int .u64 p2, .int .i64 p3] 35 (0, 0))) := Lib.hid ((hb9.block _ l_ps).trans B_ps.out)
  replace B_rs : Hid (U12.heap[N_rs]? = some (.cells #[.int .i64 r0, .int .i64 r1, .int .u64 r2, .int .i64 r3] 28 (0, 0))) := Lib.hid ((hb9.block _ l_rs).trans B_rs.out)
  replace l_s : N_s < U12.heap.size := by omega
  replace l_f : N_f < U12.heap.size := by omega
  replace l_ux : N_ux < U12.heap.size := by omega
  replace l_uy : N_uy < U12.heap.size := by omega
  replace l_uz : N_uz < U12.heap.size := by omega
  replace l_ps : N_ps < U12.heap.size := by omega
  replace l_rs : N_rs < U12.heap.size := by omega
  replace hlow : w.heap.size ≤ U12.heap.size := by omega
  clear hb9 hs9
  go_wp2
  go_ret
  refine ⟨?_, HBel.out⟩
  show Ending.returned (.bool (decide (0 < N) == (E == 0))) = _
  rw [HNE.out, beq_self_eq_true]

set_option maxRecDepth 100000 in
set_option maxHeartbeats 1000000 in
theorem lifted (os : Os) (started : os.Started) (H : Type) (enc : TypeId × Value → H) :
    ReturnsInHanded {} Tryd.checked os 6 .any (fun w args => (Rows.shapeSumsSpec.pre enc Tryd.prog Tryd.f6 [] false w args ∧ laidMetH Tryd.prog laid1 w) ∧ sizedMet enc Tryd.prog Tryd.f6 (OpenSpec.ofChange Rows.shapeSumsSpec) false w args)
      (Rows.shapeSumsSpec.post enc Tryd.prog Tryd.f6 false true false false) := by
  refine returnsInHanded_of_change_and (C := Tryd.checked) (X := fun w _ => laidMetH Tryd.prog laid1 w) (fun _ _ _ hh h => h.of_heap hh) own started (by kernel_rfl) Tryd.func6
    (ChangeSpec.witness_shaped (enc := enc) (C := Tryd.checked) (os := os) (X := fun w _ => laidMetH Tryd.prog laid1 w) false (World.doorLaid Tryd.prog 400 os) #[.agg #[.int .i64 0, .int .i64 0, .int .i64 0, .int .i64 0], .int .u8 0, .int .u8 0, .agg #[.int .i64 0, .int .i64 0, .int .u64 0, .int .i64 0]] 8 rfl (World.shaped_of_RefB (by kernel_rfl) (by kernel_rfl)) (by kernel_rfl) (by kernel_rfl) (by kernel_rfl) (door_met os _)) ?_
  intro W base args ds gs before hval0 hW _ _ hL _
  have hval : ∀ (j : Nat) t v, Tryd.f6.params[j]? = some t → args[j]? = some v → Value.okWide Tryd.prog W .any base t v := hval0
  have hW' := hW
  obtain ⟨p, q, hA0, hV, rfl, hfz, hnd⟩ := hW
  have hA : DataW.TrodAll enc Tryd.prog W 0 (fun _ => true) true Tryd.f6.params.toList args.toList ds p := hA0
  rw [Tryd.params6] at hA hval
  obtain ⟨v0, vs0, d0, ds0, p0, q0, hargs, rfl, rfl, h0, r0⟩ := trodAll_cons hA
  obtain ⟨v1, vs1, d1, ds1, p1, q1, rfl, rfl, rfl, h1, r1⟩ := trodAll_cons r0
  obtain ⟨v2, vs2, d2, ds2, p2, q2, rfl, rfl, rfl, h2, r2⟩ := trodAll_cons r1
  obtain ⟨v3, vs3, d3, ds3, p3, q3, rfl, rfl, rfl, h3, r3⟩ := trodAll_cons r2
  obtain ⟨rfl, rfl, rfl⟩ := trodAll_nil r3
  obtain rfl : args = #[v0, v1, v2, v3] := by cases args; simp_all
  obtain ⟨rfl, rfl⟩ := trodVars_none hV
  have k0 := h0
  have lt0 : ∀ x ∈ p0, x.block < W.heap.size := by obtain ⟨m, hm⟩ := k0; exact DataW.trod_lt m _ _ _ hm
  obtain ⟨g0, c0, mn0, mx0, rfl, w0⟩ := shape_of (hval 0 23 v0 rfl rfl) h0
  have k1 := h1
  have lt1 : ∀ x ∈ p1, x.block < W.heap.size := by obtain ⟨m, hm⟩ := k1; exact DataW.trod_lt m _ _ _ hm
  obtain ⟨a1, rfl, _, _, w1⟩ := open_int Tryd.underlying5 (hval 1 5 v1 rfl rfl) h1
  have k2 := h2
  have lt2 : ∀ x ∈ p2, x.block < W.heap.size := by obtain ⟨m, hm⟩ := k2; exact DataW.trod_lt m _ _ _ hm
  obtain ⟨a2, rfl, _, _, w2⟩ := open_int Tryd.underlying5 (hval 2 5 v2 rfl rfl) h2
  have k3 := h3
  have lt3 : ∀ x ∈ p3, x.block < W.heap.size := by obtain ⟨m, hm⟩ := k3; exact DataW.trod_lt m _ _ _ hm
  obtain ⟨fx3, fy3, fm3, fk3, rfl, wm3, wk3⟩ := free_of (hval 3 28 v3 rfl rfl) h3
  have hT := of_laid hL
  clear hL
  clear hA0 hval0
  refine (walk g0 c0 mn0 mx0 a1 a2 fx3 fy3 fm3 fk3 W w0 w1 w2 wm3 wk3 hT).mono fun e W' ⟨he, bel⟩ => ?_
  subst he
  exact ⟨_, rfl, _, _, _, [], _, [], hW', trodAll_mk1 (shut_bool Tryd.underlying4 _), (trodAll_cons_mk (Below.trod laidOut (by kernel_rfl) (of_decide_eq_true (by kernel_rfl)) k0 bel lt0) (trodAll_cons_mk (Below.trod laidOut (by kernel_rfl) (of_decide_eq_true (by kernel_rfl)) k1 bel lt1) (trodAll_cons_mk (Below.trod laidOut (by kernel_rfl) (of_decide_eq_true (by kernel_rfl)) k2 bel lt2) (trodAll_cons_mk (Below.trod laidOut (by kernel_rfl) (of_decide_eq_true (by kernel_rfl)) k3 bel lt3) trodAll_mk0)))), rfl, bel.frame _, fun h => by cases h⟩

/-- THE ROW. -/
theorem row_holds : Rows.ShapeSumsSaid :=
  OpenClaim.holds_of_wide 6 Tryd.f6 rfl rfl rfl rfl rfl rfl rfl ⟨rfl, rfl, rfl, rfl, rfl⟩ rfl rfl rfl rfl rfl (by kernel_rfl) Tryd.func6 (by kernel_rfl)
    (of_decide_eq_true (by kernel_rfl)) (by unfold Func.isWrapper; first | (rw [if_pos (by decide +kernel)]; kernel_rfl) | (rw [if_neg (by decide +kernel)]; exact ⟨rfl, rfl⟩))
    (fun os started H enc _ => lifted os started H enc)

/-- THE STATEMENT. -/
theorem card_holds : Rows.ShapeSumsCardSaid :=
  Claim7.holds_tied_plain_at .later [] [.data] true (true, Rows.shapeSumsCard.stood.harness.2) false
    row_holds (fun _ h => by cases h) (by kernel_rfl) (fun _ h => by cases h) shapeSums_row_tie rfl ⟨rfl, rfl⟩ (by kernel_rfl) rfl
    (fun f fn hf hfn => by
      obtain rfl : f = 6 := Option.some.inj ((show Tryd.prog.funcNamed Rows.shapeSumsRow.func = some 6 by kernel_rfl).symm.trans hf) |>.symm
      obtain rfl : fn = Tryd.f6 := (Option.some.inj (Tryd.func6.symm.trans hfn)).symm
      exact ⟨by kernel_rfl, fun j t ht => by
        rw [Tryd.params6] at ht
        have hm : t ∈ [23, 5, 5, 28] := by simpa using Array.mem_of_getElem? ht
        have hall : ([23, 5, 5, 28].all fun u => !Tryd.prog.wantsStandIn u) = true := by kernel_rfl
        exact (show Tryd.prog.wantsStandIn t = false by simpa using List.all_eq_true.1 hall t hm)⟩)
    (by kernel_rfl)
end Go.Proofs.YtjenokegpbhciaaDoor.shapeSums
