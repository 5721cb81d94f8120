/- Pieces are cut just as often as members fit; each has what a member needs, they share no unit, and with what is left they are what was free: the law ShapeCuts answers true, at every input. The library's table of lowest units is as the program's text lays it (tied). -/
import Derived.Test.YtjenokegpbhciaaDoorShapeMore
import Derived.SevenTiedAt
import Derived.Test.YtjenokegpbhciaaDoorTie
import Derived.Test.YtjenokegpbhciaaDoorCards
set_option linter.unusedVariables false
namespace Go.Proofs.YtjenokegpbhciaaDoor.shapeCuts
open Go Go.ChangeShapes Go.WideShapes Go.ChangeAt Go.RowKit
/-- While fewer were cut than fit, one more goes. -/
theorem fit_room {g c u k j : Nat} (h : j < fitN g c u k) : g * j + g ≤ u ∧ c * j + c ≤ k := by
  unfold fitN tms at h
  constructor
  · by_cases e : g = 0
    · subst e; omega
    · rw [if_neg e] at h
      have : j + 1 ≤ u / g := by omega
      rw [Nat.le_div_iff_mul_le (by omega), Nat.succ_mul, Nat.mul_comm] at this
      exact this
  · by_cases e : c = 0
    · subst e; omega
    · rw [if_neg e] at h
      have : j + 1 ≤ k / c := by omega
      rw [Nat.le_div_iff_mul_le (by omega), Nat.succ_mul, Nat.mul_comm] at this
      exact this
/-- Where as many were cut as fit, and these are not 16, none goes any more. -/
theorem fit_none {g c u k u' k' : Nat} (h16 : fitN g c u k ≠ 16) (h1 : u' + g * fitN g c u k = u) (h2 : k' + c * fitN g c u k = k) : fitN g c u' k' = 0 := by
  rcases Nat.eq_zero_or_pos (fitN g c u' k') with h | h
  · exact h
  · obtain ⟨a, b⟩ := fit_pos h
    have h3 := fit_le g c u k
    generalize hj : fitN g c u k = j at *
    exfalso
    have c1 : g ≠ 0 → j + 1 ≤ u / g := fun e => by rw [Nat.le_div_iff_mul_le (by omega), Nat.succ_mul, Nat.mul_comm]; omega
    have c2 : c ≠ 0 → j + 1 ≤ k / c := fun e => by rw [Nat.le_div_iff_mul_le (by omega), Nat.succ_mul, Nat.mul_comm]; omega
    unfold fitN tms at hj
    by_cases e1 : g = 0
    · rw [if_pos e1] at hj
      by_cases e2 : c = 0
      · rw [if_pos e2] at hj; omega
      · rw [if_neg e2] at hj; have := c2 e2; omega
    · rw [if_neg e1] at hj; have := c1 e1
      by_cases e2 : c = 0
      · rw [if_pos e2] at hj; omega
      · rw [if_neg e2] at hj; have := c2 e2; omega
theorem sub_or_sub (m a b : Nat) : MM.sub (MM.sub m a) b = MM.sub m (a ||| b) := Nat.eq_of_testBit_eq fun i => by
  rw [MM.testBit_sub, MM.testBit_sub, MM.testBit_sub, Nat.testBit_or]; cases m.testBit i <;> cases a.testBit i <;> cases b.testBit i <;> rfl
theorem low_apart (m u g : Nat) : MM.low (MM.sub m u) g &&& u = 0 := Nat.eq_of_testBit_eq fun i => by
  rw [Nat.testBit_and, Nat.zero_testBit]
  cases h : (MM.low (MM.sub m u) g).testBit i
  · rfl
  · have := MM.low_in _ _ _ h; rw [MM.testBit_sub] at this; simp at this; simp [this]
theorem low_inside (m u g : Nat) : MM.sub (MM.low (MM.sub m u) g) m = 0 := Nat.eq_of_testBit_eq fun i => by
  rw [MM.testBit_sub, Nat.zero_testBit]
  cases h : (MM.low (MM.sub m u) g).testBit i
  · rfl
  · have := MM.low_in _ _ _ h; rw [MM.testBit_sub] at this; simp at this; simp [this]
theorem sub_zero (m : Nat) : MM.sub m 0 = m := Nat.eq_of_testBit_eq fun i => by rw [MM.testBit_sub]; simp
theorem piece_tell (g c : Nat) (mn mx x y : Int) (m : Nat) (k3 : Int) (w : World) (w0 : Shp.Wf ⟨g, c, mn, mx⟩) (hok : Shp.ok ⟨g, c, mn, mx⟩ = true) (wm : m < 18446744073709551616) (wk : (Lit.int .i64 k3).wf = true) (hT : Tab w) :
    ∃ (p0 p1 p2 p3 r0 r1 r2 r3 : Int), TellsPiece 10 g c mn mx x y m k3 w p0 p1 p2 p3 r0 r1 r2 r3 (if fitZ g c (MM.cnt m) k3 = 0 then 7 else 0) := by
  obtain ⟨d1, d2⟩ := bounds_i64 wk
  have hF := fits_tell g c mn mx x y m k3 w w0 hok wm wk hT
  by_cases h0 : fitZ g c (MM.cnt m) k3 = 0
  · rw [if_pos h0]
    rw [h0] at hF
    exact ⟨0, 0, 0, 0, 0, 0, 0, 0, fun W hW => piece_full g c mn mx x y m k3 W w0 hok fun W' hW' => hF W' (hW.trans (hW'.mono hW.size))⟩
  · rw [if_neg h0]
    have hk : ¬ k3 < 0 := fun h => h0 (by unfold fitZ; rw [if_pos h])
    obtain ⟨k, rfl⟩ : ∃ k : Nat, k3 = k := ⟨k3.toNat, by omega⟩
    have h1 : fitN g c (MM.cnt m) k ≠ 0 := fun h => h0 (by unfold fitZ; rw [if_neg hk]; exact h)
    exact ⟨_, _, _, _, _, _, _, _, fun W hW => piece_ok g c mn mx x y m k W w0 hok wm (by omega) (hT.below hW hT.size) (by omega)⟩
set_option maxRecDepth 100000 in
set_option maxHeartbeats 4000000 in
theorem walk (g0 c0 mn0 mx0 : Int) (fx1 fy1 : Int) (fm1 : Nat) (fk1 : Int) (w : World) (w0 : Shp.Wf ⟨g0, c0, mn0, mx0⟩) (wm1 : fm1 < 18446744073709551616) (wk1 : (Lit.int .i64 fk1).wf = true) (hT : Tab w) :
    Calls Tryd.prog 4 #[.agg #[.int .i64 g0, .int .i64 c0, .int .i64 mn0, .int .i64 mx0], .agg #[.int .i64 fx1, .int .i64 fy1, .int .u64 (fm1 : Nat), .int .i64 fk1]] w fun e w' => e = .returned (.bool true) ∧ Below w.heap.size w w' := by
  have HT := Lib.hid hT
  have hAw := Lib.hid (fun W (hT : Tab W) => awake_any W hT)
  cases hok : Shp.ok ⟨g0, c0, mn0, mx0⟩
  · have hC := Lib.hid (fun W => check_no g0 c0 mn0 mx0 W w0 hok)
    clear hok w0 wm1 wk1 hT
    have HBel := Lib.hid (Below.refl w.heap.size w)
    have hlow : w.heap.size ≤ w.heap.size := Nat.le_refl _
    go_enter Tryd.func4, Tryd.ntmps4
    go_wp2_with fail
    obtain ⟨V1, hV1⟩ : ∃ W, W = (w.alloc (.cells #[.int .i64 g0, .int .i64 c0, .int .i64 mn0, .int .i64 mx0] 23)).alloc (.cells #[.int .i64 fx1, .int .i64 fy1, .int .u64 (fm1 : Nat), .int .i64 fk1] 28) := ⟨_, rfl⟩
    rw [← hV1]
    have hzV1 : V1.heap.size = w.heap.size + 1 + 1 := by rw [hV1]; simp
    replace HBel : Hid (Below w.heap.size w V1) := Lib.hid (by rw [hV1]; exact ((HBel.out.alloc (hlow) _).alloc (by simp <;> omega) _))
    have B_s : Hid (V1.heap[w.heap.size]? = some (.cells #[.int .i64 g0, .int .i64 c0, .int .i64 mn0, .int .i64 mx0] 23 (0, 0))) := Lib.hid (by
      have h9 := heap_alloc_new (w) (.cells #[.int .i64 g0, .int .i64 c0, .int .i64 mn0, .int .i64 mx0] 23)
      rw [hV1]; exact ((Below.heap_alloc _ _ _ (by simp <;> omega)).trans h9))
    have B_f : Hid (V1.heap[w.heap.size + 1]? = some (.cells #[.int .i64 fx1, .int .i64 fy1, .int .u64 (fm1 : Nat), .int .i64 fk1] 28 (0, 0))) := Lib.hid (by
      have h9 := heap_alloc_new (w.alloc (.cells #[.int .i64 g0, .int .i64 c0, .int .i64 mn0, .int .i64 mx0] 23)) (.cells #[.int .i64 fx1, .int .i64 fy1, .int .u64 (fm1 : Nat), .int .i64 fk1] 28)
      rw [World.size_alloc] at h9
      rw [hV1]; exact h9)
    obtain ⟨N_s, hN_s⟩ : ∃ N, N = w.heap.size := ⟨_, rfl⟩
    obtain ⟨N_f, hN_f⟩ : ∃ N, N = w.heap.size + 1 := ⟨_, rfl⟩
    (try rw [← hN_f])
    rw [← hN_f] at B_f
    (try rw [← hN_s])
    rw [← hN_s] at B_s
    have l_s : N_s < V1.heap.size := by omega
    have l_f : N_f < V1.heap.size := by omega
    have g_s : w.heap.size ≤ N_s := by omega
    have g_f : w.heap.size ≤ N_f := by omega
    have d_s_f : N_s < N_f := by omega
    replace hlow : w.heap.size ≤ V1.heap.size := by omega
    clear hV1 hzV1 hN_s hN_f
    refine (hAw.out V1 (HT.out.below HBel.out HT.out.size)).mono ?_
    rintro e U2 ⟨rfl, hb9⟩
    have hs9 := hb9.size
    replace HBel := Lib.hid (HBel.out.trans (hb9.mono hlow))
    replace B_s : Hid (U2.heap[N_s]? = some (.cells #[.int .i64 g0, .int .i64 c0, .int .i64 mn0, .int .i64 mx0] 23 (0, 0))) := Lib.hid ((hb9.block _ l_s).trans B_s.out)
    replace B_f : Hid (U2.heap[N_f]? = some (.cells #[.int .i64 fx1, .int .i64 fy1, .int .u64 (fm1 : Nat), .int .i64 fk1] 28 (0, 0))) := Lib.hid ((hb9.block _ l_f).trans B_f.out)
    replace l_s : N_s < U2.heap.size := by omega
    replace l_f : N_f < U2.heap.size := by omega
    replace hlow : w.heap.size ≤ U2.heap.size := by omega
    clear hb9 hs9
    have s0 : U2.cell? ⟨N_s, 0, none⟩ = some (.int .i64 g0) := cell_blk (i := 0) B_s.out rfl
    have s1 : U2.cell? ⟨N_s, 1, none⟩ = some (.int .i64 c0) := cell_blk (i := 1) B_s.out rfl
    have s2 : U2.cell? ⟨N_s, 2, none⟩ = some (.int .i64 mn0) := cell_blk (i := 2) B_s.out rfl
    have s3 : U2.cell? ⟨N_s, 3, none⟩ = some (.int .i64 mx0) := cell_blk (i := 3) B_s.out rfl
    go_wp2_with fail
    refine (hC.out _).mono ?_
    rintro e U3 ⟨rfl, hb9⟩
    clear s0 s1 s2 s3
    have hs9 := hb9.size
    replace HBel := Lib.hid (HBel.out.trans (hb9.mono hlow))
    replace B_s : Hid (U3.heap[N_s]? = some (.cells #[.int .i64 g0, .int .i64 c0, .int .i64 mn0, .int .i64 mx0] 23 (0, 0))) := Lib.hid ((hb9.block _ l_s).trans B_s.out)
    replace B_f : Hid (U3.heap[N_f]? = some (.cells #[.int .i64 fx1, .int .i64 fy1, .int .u64 (fm1 : Nat), .int .i64 fk1] 28 (0, 0))) := Lib.hid ((hb9.block _ l_f).trans B_f.out)
    replace l_s : N_s < U3.heap.size := by omega
    replace l_f : N_f < U3.heap.size := by omega
    replace hlow : w.heap.size ≤ U3.heap.size := by omega
    clear hb9 hs9
    go_wp2
    go_ret
    exact ⟨rfl, HBel.out⟩
  obtain ⟨g, c, rfl, rfl, hg16, hc16, hgc⟩ := Shp.nat hok
  obtain ⟨d1, d2⟩ := bounds_i64 wk1
  have hC := Lib.hid (fun W => check_ok g c mn0 mx0 W w0 hok)
  have hF1 := fits_tell g c mn0 mx0 fx1 fy1 fm1 fk1 w w0 hok wm1 wk1 hT
  have hn16 := fitZ_le g c (MM.cnt fm1) fk1
  obtain ⟨n, hn⟩ : ∃ n, n = fitZ g c (MM.cnt fm1) fk1 := ⟨_, rfl⟩
  rw [← hn] at hF1 hn16
  have HF1 := Lib.hid hF1
  have hPok := Lib.hid (fun (m k : Nat) W (hm : m < 18446744073709551616) (hk : k ≤ 9223372036854775807) (hT : Tab W) (hf : 0 < fitN g c (MM.cnt m) k) => piece_ok g c mn0 mx0 fx1 fy1 m k W w0 hok hm hk hT hf)
  have hPt := Lib.hid (fun (m : Nat) (k : Int) (hm : m < 18446744073709551616) (hk : (Lit.int .i64 k).wf = true) => piece_tell g c mn0 mx0 fx1 fy1 m k w w0 hok hm hk hT)
  have Q := Lib.hid (And.intro hn (And.intro hgc (And.intro wm1 wk1)))
  clear hF1 hn w0 hok hT hgc wk1
  have HBel := Lib.hid (Below.refl w.heap.size w)
  have hlow : w.heap.size ≤ w.heap.size := Nat.le_refl _
  go_enter Tryd.func4, Tryd.ntmps4
  go_wp2_with fail
  obtain ⟨V1, hV1⟩ : ∃ W, W = (w.alloc (.cells #[.int .i64 (g : Int), .int .i64 (c : Int), .int .i64 mn0, .int .i64 mx0] 23)).alloc (.cells #[.int .i64 fx1, .int .i64 fy1, .int .u64 (fm1 : Nat), .int .i64 fk1] 28) := ⟨_, rfl⟩
  rw [← hV1]
  have hzV1 : V1.heap.size = w.heap.size + 1 + 1 := by rw [hV1]; simp
  replace HBel : Hid (Below w.heap.size w V1) := Lib.hid (by rw [hV1]; exact ((HBel.out.alloc (hlow) _).alloc (by simp <;> omega) _))
  have B_s : Hid (V1.heap[w.heap.size]? = some (.cells #[.int .i64 (g : Int), .int .i64 (c : Int), .int .i64 mn0, .int .i64 mx0] 23 (0, 0))) := Lib.hid (by
    have h9 := heap_alloc_new (w) (.cells #[.int .i64 (g : Int), .int .i64 (c : Int), .int .i64 mn0, .int .i64 mx0] 23)
    rw [hV1]; exact ((Below.heap_alloc _ _ _ (by simp <;> omega)).trans h9))
  have B_f : Hid (V1.heap[w.heap.size + 1]? = some (.cells #[.int .i64 fx1, .int .i64 fy1, .int .u64 (fm1 : Nat), .int .i64 fk1] 28 (0, 0))) := Lib.hid (by
    have h9 := heap_alloc_new (w.alloc (.cells #[.int .i64 (g : Int), .int .i64 (c : Int), .int .i64 mn0, .int .i64 mx0] 23)) (.cells #[.int .i64 fx1, .int .i64 fy1, .int .u64 (fm1 : Nat), .int .i64 fk1] 28)
    rw [World.size_alloc] at h9
    rw [hV1]; exact h9)
  obtain ⟨N_s, hN_s⟩ : ∃ N, N = w.heap.size := ⟨_, rfl⟩
  obtain ⟨N_f, hN_f⟩ : ∃ N, N = w.heap.size + 1 := ⟨_, rfl⟩
  (try rw [← hN_f])
  rw [← hN_f] at B_f
  (try rw [← hN_s])
  rw [← hN_s] at B_s
  have l_s : N_s < V1.heap.size := by omega
  have l_f : N_f < V1.heap.size := by omega
  have g_s : w.heap.size ≤ N_s := by omega
  have g_f : w.heap.size ≤ N_f := by omega
  have d_s_f : N_s < N_f := by omega
  replace hlow : w.heap.size ≤ V1.heap.size := by omega
  clear hV1 hzV1 hN_s hN_f
  refine (hAw.out V1 (HT.out.below HBel.out HT.out.size)).mono ?_
  rintro e U2 ⟨rfl, hb9⟩
  have hs9 := hb9.size
  replace HBel := Lib.hid (HBel.out.trans (hb9.mono hlow))
  replace B_s : Hid (U2.heap[N_s]? = some (.cells #[.int .i64 (g : Int), .int .i64 (c : Int), .int .i64 mn0, .int .i64 mx0] 23 (0, 0))) := Lib.hid ((hb9.block _ l_s).trans B_s.out)
  replace B_f : Hid (U2.heap[N_f]? = some (.cells #[.int .i64 fx1, .int .i64 fy1, .int .u64 (fm1 : Nat), .int .i64 fk1] 28 (0, 0))) := Lib.hid ((hb9.block _ l_f).trans B_f.out)
  replace l_s : N_s < U2.heap.size := by omega
  replace l_f : N_f < U2.heap.size := by omega
  replace hlow : w.heap.size ≤ U2.heap.size := by omega
  clear hb9 hs9
  have s0 : U2.cell? ⟨N_s, 0, none⟩ = some (.int .i64 (g : Int)) := cell_blk (i := 0) B_s.out rfl
  have s1 : U2.cell? ⟨N_s, 1, none⟩ = some (.int .i64 (c : Int)) := cell_blk (i := 1) B_s.out rfl
  have s2 : U2.cell? ⟨N_s, 2, none⟩ = some (.int .i64 mn0) := cell_blk (i := 2) B_s.out rfl
  have s3 : U2.cell? ⟨N_s, 3, none⟩ = some (.int .i64 mx0) := cell_blk (i := 3) B_s.out rfl
  go_wp2_with fail
  refine (hC.out _).mono ?_
  rintro e U3 ⟨rfl, hb9⟩
  clear s0 s1 s2 s3
  have hs9 := hb9.size
  replace HBel := Lib.hid (HBel.out.trans (hb9.mono hlow))
  replace B_s : Hid (U3.heap[N_s]? = some (.cells #[.int .i64 (g : Int), .int .i64 (c : Int), .int .i64 mn0, .int .i64 mx0] 23 (0, 0))) := Lib.hid ((hb9.block _ l_s).trans B_s.out)
  replace B_f : Hid (U3.heap[N_f]? = some (.cells #[.int .i64 fx1, .int .i64 fy1, .int .u64 (fm1 : Nat), .int .i64 fk1] 28 (0, 0))) := Lib.hid ((hb9.block _ l_f).trans B_f.out)
  replace l_s : N_s < U3.heap.size := by omega
  replace l_f : N_f < U3.heap.size := by omega
  replace hlow : w.heap.size ≤ U3.heap.size := by omega
  clear hb9 hs9
  have s0 : U3.cell? ⟨N_s, 0, none⟩ = some (.int .i64 (g : Int)) := cell_blk (i := 0) B_s.out rfl
  have s1 : U3.cell? ⟨N_s, 1, none⟩ = some (.int .i64 (c : Int)) := cell_blk (i := 1) B_s.out rfl
  have s2 : U3.cell? ⟨N_s, 2, none⟩ = some (.int .i64 mn0) := cell_blk (i := 2) B_s.out rfl
  have s3 : U3.cell? ⟨N_s, 3, none⟩ = some (.int .i64 mx0) := cell_blk (i := 3) B_s.out rfl
  have f0 : U3.cell? ⟨N_f, 0, none⟩ = some (.int .i64 fx1) := cell_blk (i := 0) B_f.out rfl
  have f1 : U3.cell? ⟨N_f, 1, none⟩ = some (.int .i64 fy1) := cell_blk (i := 1) B_f.out rfl
  have f2 : U3.cell? ⟨N_f, 2, none⟩ = some (.int .u64 (fm1 : Nat)) := cell_blk (i := 2) B_f.out rfl
  have f3 : U3.cell? ⟨N_f, 3, none⟩ = some (.int .i64 fk1) := cell_blk (i := 3) B_f.out rfl
  go_wp2_with fail
  refine (HF1.out _ HBel.out).mono ?_
  rintro e U4 ⟨rfl, hb9⟩
  clear s0 s1 s2 s3 f0 f1 f2 f3
  have hs9 := hb9.size
  replace HBel := Lib.hid (HBel.out.trans (hb9.mono hlow))
  replace B_s : Hid (U4.heap[N_s]? = some (.cells #[.int .i64 (g : Int), .int .i64 (c : Int), .int .i64 mn0, .int .i64 mx0] 23 (0, 0))) := Lib.hid ((hb9.block _ l_s).trans B_s.out)
  replace B_f : Hid (U4.heap[N_f]? = some (.cells #[.int .i64 fx1, .int .i64 fy1, .int .u64 (fm1 : Nat), .int .i64 fk1] 28 (0, 0))) := Lib.hid ((hb9.block _ l_f).trans B_f.out)
  replace l_s : N_s < U4.heap.size := by omega
  replace l_f : N_f < U4.heap.size := by omega
  replace hlow : w.heap.size ≤ U4.heap.size := by omega
  clear hb9 hs9
  have s0 : U4.cell? ⟨N_s, 0, none⟩ = some (.int .i64 (g : Int)) := cell_blk (i := 0) B_s.out rfl
  have s1 : U4.cell? ⟨N_s, 1, none⟩ = some (.int .i64 (c : Int)) := cell_blk (i := 1) B_s.out rfl
  have s2 : U4.cell? ⟨N_s, 2, none⟩ = some (.int .i64 mn0) := cell_blk (i := 2) B_s.out rfl
  have s3 : U4.cell? ⟨N_s, 3, none⟩ = some (.int .i64 mx0) := cell_blk (i := 3) B_s.out rfl
  have l_s_0 : N_s < U4.heap.size + 1 := by omega
  have f0 : U4.cell? ⟨N_f, 0, none⟩ = some (.int .i64 fx1) := cell_blk (i := 0) B_f.out rfl
  have f1 : U4.cell? ⟨N_f, 1, none⟩ = some (.int .i64 fy1) := cell_blk (i := 1) B_f.out rfl
  have f2 : U4.cell? ⟨N_f, 2, none⟩ = some (.int .u64 (fm1 : Nat)) := cell_blk (i := 2) B_f.out rfl
  have f3 : U4.cell? ⟨N_f, 3, none⟩ = some (.int .i64 fk1) := cell_blk (i := 3) B_f.out rfl
  have l_f_0 : N_f < U4.heap.size + 1 := by omega
  go_wp2_with fail
  clear s0 s1 s2 s3 l_s_0 f0 f1 f2 f3 l_f_0
  obtain ⟨V5, hV5⟩ : ∃ W, W = U4.alloc (.cells #[.int .i64 fx1, .int .i64 fy1, .int .u64 (fm1 : Nat), .int .i64 fk1] 28) := ⟨_, rfl⟩
  rw [← hV5]
  have hzV5 : V5.heap.size = U4.heap.size + 1 := by rw [hV5]; simp
  replace HBel : Hid (Below w.heap.size w V5) := Lib.hid (by rw [hV5]; exact (HBel.out.alloc (hlow) _))
  replace B_s : Hid (V5.heap[N_s]? = some (.cells #[.int .i64 (g : Int), .int .i64 (c : Int), .int .i64 mn0, .int .i64 mx0] 23 (0, 0))) := Lib.hid (by rw [hV5]; exact ((Below.heap_alloc _ _ _ (by first | omega | (simp <;> omega))).trans B_s.out))
  replace B_f : Hid (V5.heap[N_f]? = some (.cells #[.int .i64 fx1, .int .i64 fy1, .int .u64 (fm1 : Nat), .int .i64 fk1] 28 (0, 0))) := Lib.hid (by rw [hV5]; exact ((Below.heap_alloc _ _ _ (by first | omega | (simp <;> omega))).trans B_f.out))
  have B_r : Hid (V5.heap[U4.heap.size]? = some (.cells #[.int .i64 fx1, .int .i64 fy1, .int .u64 (fm1 : Nat), .int .i64 fk1] 28 (0, 0))) := Lib.hid (by
    have h9 := heap_alloc_new (U4) (.cells #[.int .i64 fx1, .int .i64 fy1, .int .u64 (fm1 : Nat), .int .i64 fk1] 28)
    rw [hV5]; exact h9)
  obtain ⟨N_r, hN_r⟩ : ∃ N, N = U4.heap.size := ⟨_, rfl⟩
  (try rw [← hN_r])
  rw [← hN_r] at B_r
  have d_s_r : N_s < N_r := by omega
  have d_f_r : N_f < N_r := by omega
  replace l_s : N_s < V5.heap.size := by omega
  replace l_f : N_f < V5.heap.size := by omega
  have l_r : N_r < V5.heap.size := by omega
  have g_r : w.heap.size ≤ N_r := by omega
  replace hlow : w.heap.size ≤ V5.heap.size := by omega
  clear hV5 hzV5 hN_r
  have hs0 : N_s < V5.heap.size ∧ N_f < V5.heap.size ∧ N_r < V5.heap.size := ⟨l_s, l_f, l_r⟩
  go_loopw [6, 7, 9] (fun u q i wr => ∃ j uu cc : Nat, i = .int .i64 j ∧ u = .int .u64 uu ∧ q = .int .i64 cc ∧ j ≤ n ∧ w.heap.size ≤ wr.heap.size ∧ N_s < wr.heap.size ∧ N_f < wr.heap.size ∧ N_r < wr.heap.size ∧ Hid (Below w.heap.size w wr ∧ wr.heap[N_s]? = some (.cells #[.int .i64 (g : Int), .int .i64 (c : Int), .int .i64 mn0, .int .i64 mx0] 23 (0, 0)) ∧ wr.heap[N_f]? = some (.cells #[.int .i64 fx1, .int .i64 fy1, .int .u64 (fm1 : Nat), .int .i64 fk1] 28 (0, 0)) ∧ ∃ (mj : Nat) (kj : Int), wr.heap[N_r]? = some (.cells #[.int .i64 fx1, .int .i64 fy1, .int .u64 (mj : Nat), .int .i64 kj] 28 (0, 0)) ∧ uu < 18446744073709551616 ∧ mj = MM.sub fm1 uu ∧ MM.cnt mj + g * j = MM.cnt fm1 ∧ kj + (cc : Int) = fk1 ∧ cc = c * j)) (fun _ _ i _ => n - (intOf i).toNat)
  case atStart => exact ⟨0, 0, 0, rfl, rfl, rfl, Nat.zero_le _, hlow, l_s, l_f, l_r, Lib.hid ⟨HBel.out, B_s.out, B_f.out, fm1, fk1, B_r.out, by omega, (sub_zero fm1).symm, by simp, by simp, by simp⟩⟩
  case round =>
    clear HBel hlow B_s B_f B_r l_s l_f l_r hs0
    obtain ⟨j, uu, cc, rfl, rfl, rfl, hj, hlow, l_s, l_f, l_r, hin⟩ := hrel
    obtain ⟨hB, bs, bf, mj, kj, br, huu, hmj, hcm, hkj, hcc⟩ := hin.out
    have hmjl : mj < 18446744073709551616 := by rw [hmj]; exact MM.sub_lt _ wm1
    have HBel := Lib.hid hB; have B_s := Lib.hid bs; have B_f := Lib.hid bf; have B_r := Lib.hid br
    clear hB bs bf br hin
    by_cases hlt : j < n
    · have t0 : decide (j < n) = true := decide_eq_true hlt
      have hk0 : ¬ fk1 < 0 := fun h => by have := Q.out.1; unfold fitZ at this; rw [if_pos h] at this; omega
      obtain ⟨kf, hkf⟩ : ∃ kf : Nat, fk1 = kf := ⟨fk1.toNat, by omega⟩
      have hnn : n = fitN g c (MM.cnt fm1) kf := by rw [Q.out.1, hkf]; unfold fitZ; rw [if_neg (by omega)]; rfl
      obtain ⟨f1, f2⟩ := fit_room (show j < fitN g c (MM.cnt fm1) kf by omega)
      have hck : cc + c ≤ kf := by rw [hcc]; exact f2
      obtain ⟨kk, rfl⟩ : ∃ kk : Nat, kj = kk := ⟨kj.toNat, by omega⟩
      have hgm : g ≤ MM.cnt mj := by omega
      have hckk : c ≤ kk := by omega
      have hkl : kk ≤ 9223372036854775807 := by omega
      have hone := fit_one (g := g) (c := c) Q.out.2.1 hgm hckk
      have hP := hPok.out mj kk wr hmjl hkl (HT.out.below HBel.out HT.out.size) hone
      obtain ⟨lo, hlo⟩ : ∃ lo, lo = MM.low mj g := ⟨_, rfl⟩
      obtain ⟨re, hre⟩ : ∃ re, re = MM.sub mj lo := ⟨_, rfl⟩
      rw [← hlo, ← hre] at hP
      have hlol : lo < 18446744073709551616 := by rw [hlo]; exact MM.low_lt _ _
      have a1 := and_u64 lo uu hlol huu
      rw [show lo &&& uu = 0 by rw [hlo, hmj]; exact low_apart fm1 uu g] at a1
      have a2 := not_u64 lo fm1 hlol wm1
      rw [show MM.sub lo fm1 = 0 by rw [hlo, hmj]; exact low_inside fm1 uu g] at a2
      have a3 := or_u64 uu lo huu hlol
      have hcnt : MM.cnt lo = g := by rw [hlo]; exact MM.cnt_low hgm
      have hCn := count_any lo hlol
      rw [hcnt] at hCn
      obtain ⟨u2, hu2⟩ : ∃ u2, u2 = uu ||| lo := ⟨_, rfl⟩
      rw [← hu2] at a3
      have hres : re = MM.sub fm1 u2 := by rw [hre, hu2, hmj]; exact sub_or_sub fm1 uu lo
      have hN : Hid (u2 < 18446744073709551616 ∧ re = MM.sub fm1 u2 ∧ MM.cnt re + g * (j + 1) = MM.cnt fm1 ∧ ((kk - c : Nat) : Int) + ((cc + c : Nat) : Int) = fk1 ∧ cc + c = c * (j + 1)) :=
        Lib.hid ⟨by rw [hu2]; exact MM.or_lt huu hlol, hres, by rw [hre, hlo, MM.cnt_rest, Nat.mul_succ]; omega, by omega, by rw [hcc, Nat.mul_succ]⟩
      have hP := Lib.hid hP
      have hCn := Lib.hid hCn
      have e1 := spot_ne fx1 fy1
      have hccl : (cc : Int) + (c : Int) = ((cc + c : Nat) : Int) := by omega
      have hccb : cc + c ≤ 9223372036854775807 := by omega
      have HA := Lib.hid (And.intro a1 (And.intro a2 (And.intro a3 hccl)))
      clear hmj hcm hkj hcc hmjl hk0 hkf hnn f1 f2 hone hlo hre hcnt hu2 hres huu hgm hccl
      have s0 : wr.cell? ⟨N_s, 0, none⟩ = some (.int .i64 (g : Int)) := cell_blk (i := 0) B_s.out rfl
      have s1 : wr.cell? ⟨N_s, 1, none⟩ = some (.int .i64 (c : Int)) := cell_blk (i := 1) B_s.out rfl
      have s2 : wr.cell? ⟨N_s, 2, none⟩ = some (.int .i64 mn0) := cell_blk (i := 2) B_s.out rfl
      have s3 : wr.cell? ⟨N_s, 3, none⟩ = some (.int .i64 mx0) := cell_blk (i := 3) B_s.out rfl
      have f0 : wr.cell? ⟨N_f, 0, none⟩ = some (.int .i64 fx1) := cell_blk (i := 0) B_f.out rfl
      have f1 : wr.cell? ⟨N_f, 1, none⟩ = some (.int .i64 fy1) := cell_blk (i := 1) B_f.out rfl
      have f2 : wr.cell? ⟨N_f, 2, none⟩ = some (.int .u64 (fm1 : Nat)) := cell_blk (i := 2) B_f.out rfl
      have f3 : wr.cell? ⟨N_f, 3, none⟩ = some (.int .i64 fk1) := cell_blk (i := 3) B_f.out rfl
      have r0 : wr.cell? ⟨N_r, 0, none⟩ = some (.int .i64 fx1) := cell_blk (i := 0) B_r.out rfl
      have r1 : wr.cell? ⟨N_r, 1, none⟩ = some (.int .i64 fy1) := cell_blk (i := 1) B_r.out rfl
      have r2 : wr.cell? ⟨N_r, 2, none⟩ = some (.int .u64 (mj : Nat)) := cell_blk (i := 2) B_r.out rfl
      have r3 : wr.cell? ⟨N_r, 3, none⟩ = some (.int .i64 (kk : Int)) := cell_blk (i := 3) B_r.out rfl
      go_wp2_with fail
      refine (hP.out).mono ?_
      rintro e U21 ⟨rfl, hb9⟩
      clear s0 s1 s2 s3 f0 f1 f2 f3 r0 r1 r2 r3
      have hs9 := hb9.size
      replace HBel := Lib.hid (HBel.out.trans (hb9.mono hlow))
      replace B_s : Hid (U21.heap[N_s]? = some (.cells #[.int .i64 (g : Int), .int .i64 (c : Int), .int .i64 mn0, .int .i64 mx0] 23 (0, 0))) := Lib.hid ((hb9.block _ l_s).trans B_s.out)
      replace B_f : Hid (U21.heap[N_f]? = some (.cells #[.int .i64 fx1, .int .i64 fy1, .int .u64 (fm1 : Nat), .int .i64 fk1] 28 (0, 0))) := Lib.hid ((hb9.block _ l_f).trans B_f.out)
      replace B_r : Hid (U21.heap[N_r]? = some (.cells #[.int .i64 fx1, .int .i64 fy1, .int .u64 (mj : Nat), .int .i64 (kk : Int)] 28 (0, 0))) := Lib.hid ((hb9.block _ l_r).trans B_r.out)
      replace l_s : N_s < U21.heap.size := by omega
      replace l_f : N_f < U21.heap.size := by omega
      replace l_r : N_r < U21.heap.size := by omega
      replace hlow : w.heap.size ≤ U21.heap.size := by omega
      clear hb9 hs9
      have s0 : U21.cell? ⟨N_s, 0, none⟩ = some (.int .i64 (g : Int)) := cell_blk (i := 0) B_s.out rfl
      have s1 : U21.cell? ⟨N_s, 1, none⟩ = some (.int .i64 (c : Int)) := cell_blk (i := 1) B_s.out rfl
      have s2 : U21.cell? ⟨N_s, 2, none⟩ = some (.int .i64 mn0) := cell_blk (i := 2) B_s.out rfl
      have s3 : U21.cell? ⟨N_s, 3, none⟩ = some (.int .i64 mx0) := cell_blk (i := 3) B_s.out rfl
      have l_s_0 : N_s < U21.heap.size + 1 := by omega
      have l_s_1 : N_s < U21.heap.size + 1 + 1 := by omega
      have f0 : U21.cell? ⟨N_f, 0, none⟩ = some (.int .i64 fx1) := cell_blk (i := 0) B_f.out rfl
      have f1 : U21.cell? ⟨N_f, 1, none⟩ = some (.int .i64 fy1) := cell_blk (i := 1) B_f.out rfl
      have f2 : U21.cell? ⟨N_f, 2, none⟩ = some (.int .u64 (fm1 : Nat)) := cell_blk (i := 2) B_f.out rfl
      have f3 : U21.cell? ⟨N_f, 3, none⟩ = some (.int .i64 fk1) := cell_blk (i := 3) B_f.out rfl
      have l_f_0 : N_f < U21.heap.size + 1 := by omega
      have l_f_1 : N_f < U21.heap.size + 1 + 1 := by omega
      have r0 : U21.cell? ⟨N_r, 0, none⟩ = some (.int .i64 fx1) := cell_blk (i := 0) B_r.out rfl
      have r1 : U21.cell? ⟨N_r, 1, none⟩ = some (.int .i64 fy1) := cell_blk (i := 1) B_r.out rfl
      have r2 : U21.cell? ⟨N_r, 2, none⟩ = some (.int .u64 (mj : Nat)) := cell_blk (i := 2) B_r.out rfl
      have r3 : U21.cell? ⟨N_r, 3, none⟩ = some (.int .i64 (kk : Int)) := cell_blk (i := 3) B_r.out rfl
      have l_r_0 : N_r < U21.heap.size + 1 := by omega
      have l_r_1 : N_r < U21.heap.size + 1 + 1 := by omega
      go_wp2_with fail
      clear s0 s1 s2 s3 l_s_0 l_s_1 f0 f1 f2 f3 l_f_0 l_f_1 r0 r1 r2 r3 l_r_0 l_r_1
      obtain ⟨V22, hV22⟩ : ∃ W, W = (U21.alloc (.cells #[.int .i64 fx1, .int .i64 fy1, .int .u64 (lo : Nat), .int .i64 (c : Int)] 35)).alloc (.cells #[.int .i64 fx1, .int .i64 fy1, .int .u64 (re : Nat), .int .i64 ((kk - c : Nat) : Int)] 28) := ⟨_, rfl⟩
      rw [← hV22]
      have hzV22 : V22.heap.size = U21.heap.size + 1 + 1 := by rw [hV22]; simp
      replace HBel : Hid (Below w.heap.size w V22) := Lib.hid (by rw [hV22]; exact ((HBel.out.alloc (hlow) _).alloc (by simp <;> omega) _))
      replace B_s : Hid (V22.heap[N_s]? = some (.cells #[.int .i64 (g : Int), .int .i64 (c : Int), .int .i64 mn0, .int .i64 mx0] 23 (0, 0))) := Lib.hid (by rw [hV22]; exact ((Below.heap_alloc _ _ _ (by first | omega | (simp <;> omega))).trans ((Below.heap_alloc _ _ _ (by first | omega | (simp <;> omega))).trans B_s.out)))
      replace B_f : Hid (V22.heap[N_f]? = some (.cells #[.int .i64 fx1, .int .i64 fy1, .int .u64 (fm1 : Nat), .int .i64 fk1] 28 (0, 0))) := Lib.hid (by rw [hV22]; exact ((Below.heap_alloc _ _ _ (by first | omega | (simp <;> omega))).trans ((Below.heap_alloc _ _ _ (by first | omega | (simp <;> omega))).trans B_f.out)))
      replace B_r : Hid (V22.heap[N_r]? = some (.cells #[.int .i64 fx1, .int .i64 fy1, .int .u64 (mj : Nat), .int .i64 (kk : Int)] 28 (0, 0))) := Lib.hid (by rw [hV22]; exact ((Below.heap_alloc _ _ _ (by first | omega | (simp <;> omega))).trans ((Below.heap_alloc _ _ _ (by first | omega | (simp <;> omega))).trans B_r.out)))
      have B_p : Hid (V22.heap[U21.heap.size]? = some (.cells #[.int .i64 fx1, .int .i64 fy1, .int .u64 (lo : Nat), .int .i64 (c : Int)] 35 (0, 0))) := Lib.hid (by
        have h9 := heap_alloc_new (U21) (.cells #[.int .i64 fx1, .int .i64 fy1, .int .u64 (lo : Nat), .int .i64 (c : Int)] 35)
        rw [hV22]; exact ((Below.heap_alloc _ _ _ (by simp <;> omega)).trans h9))
      have B_l : Hid (V22.heap[U21.heap.size + 1]? = some (.cells #[.int .i64 fx1, .int .i64 fy1, .int .u64 (re : Nat), .int .i64 ((kk - c : Nat) : Int)] 28 (0, 0))) := Lib.hid (by
        have h9 := heap_alloc_new (U21.alloc (.cells #[.int .i64 fx1, .int .i64 fy1, .int .u64 (lo : Nat), .int .i64 (c : Int)] 35)) (.cells #[.int .i64 fx1, .int .i64 fy1, .int .u64 (re : Nat), .int .i64 ((kk - c : Nat) : Int)] 28)
        rw [World.size_alloc] at h9
        rw [hV22]; exact h9)
      obtain ⟨N_p, hN_p⟩ : ∃ N, N = U21.heap.size := ⟨_, rfl⟩
      obtain ⟨N_l, hN_l⟩ : ∃ N, N = U21.heap.size + 1 := ⟨_, rfl⟩
      (try rw [← hN_l])
      rw [← hN_l] at B_l
      (try rw [← hN_p])
      rw [← hN_p] at B_p
      have d_s_p : N_s < N_p := by omega
      have d_f_p : N_f < N_p := by omega
      have d_r_p : N_r < N_p := by omega
      have d_s_l : N_s < N_l := by omega
      have d_f_l : N_f < N_l := by omega
      have d_r_l : N_r < N_l := by omega
      replace l_s : N_s < V22.heap.size := by omega
      replace l_f : N_f < V22.heap.size := by omega
      replace l_r : N_r < V22.heap.size := by omega
      have l_p : N_p < V22.heap.size := by omega
      have l_l : N_l < V22.heap.size := by omega
      have g_p : w.heap.size ≤ N_p := by omega
      have g_l : w.heap.size ≤ N_l := by omega
      have d_p_l : N_p < N_l := by omega
      replace hlow : w.heap.size ≤ V22.heap.size := by omega
      clear hV22 hzV22 hN_p hN_l
      have a1 := HA.out.1
      have a2 := HA.out.2.1
      have s0 : V22.cell? ⟨N_s, 0, none⟩ = some (.int .i64 (g : Int)) := cell_blk (i := 0) B_s.out rfl
      have s1 : V22.cell? ⟨N_s, 1, none⟩ = some (.int .i64 (c : Int)) := cell_blk (i := 1) B_s.out rfl
      have s2 : V22.cell? ⟨N_s, 2, none⟩ = some (.int .i64 mn0) := cell_blk (i := 2) B_s.out rfl
      have s3 : V22.cell? ⟨N_s, 3, none⟩ = some (.int .i64 mx0) := cell_blk (i := 3) B_s.out rfl
      have f0 : V22.cell? ⟨N_f, 0, none⟩ = some (.int .i64 fx1) := cell_blk (i := 0) B_f.out rfl
      have f1 : V22.cell? ⟨N_f, 1, none⟩ = some (.int .i64 fy1) := cell_blk (i := 1) B_f.out rfl
      have f2 : V22.cell? ⟨N_f, 2, none⟩ = some (.int .u64 (fm1 : Nat)) := cell_blk (i := 2) B_f.out rfl
      have f3 : V22.cell? ⟨N_f, 3, none⟩ = some (.int .i64 fk1) := cell_blk (i := 3) B_f.out rfl
      have p0 : V22.cell? ⟨N_p, 0, none⟩ = some (.int .i64 fx1) := cell_blk (i := 0) B_p.out rfl
      have p1 : V22.cell? ⟨N_p, 1, none⟩ = some (.int .i64 fy1) := cell_blk (i := 1) B_p.out rfl
      have p2 : V22.cell? ⟨N_p, 2, none⟩ = some (.int .u64 (lo : Nat)) := cell_blk (i := 2) B_p.out rfl
      have p3 : V22.cell? ⟨N_p, 3, none⟩ = some (.int .i64 (c : Int)) := cell_blk (i := 3) B_p.out rfl
      have l0 : V22.cell? ⟨N_l, 0, none⟩ = some (.int .i64 fx1) := cell_blk (i := 0) B_l.out rfl
      have l1 : V22.cell? ⟨N_l, 1, none⟩ = some (.int .i64 fy1) := cell_blk (i := 1) B_l.out rfl
      have l2 : V22.cell? ⟨N_l, 2, none⟩ = some (.int .u64 (re : Nat)) := cell_blk (i := 2) B_l.out rfl
      have l3 : V22.cell? ⟨N_l, 3, none⟩ = some (.int .i64 ((kk - c : Nat) : Int)) := cell_blk (i := 3) B_l.out rfl
      refine held_begin (fun w' : World => w'.cell? ⟨N_s, 0, none⟩ = some (.int .i64 (g : Int)) ∧ w'.cell? ⟨N_s, 1, none⟩ = some (.int .i64 (c : Int)) ∧ w'.cell? ⟨N_s, 2, none⟩ = some (.int .i64 mn0) ∧ w'.cell? ⟨N_s, 3, none⟩ = some (.int .i64 mx0) ∧ w'.cell? ⟨N_f, 0, none⟩ = some (.int .i64 fx1) ∧ w'.cell? ⟨N_f, 1, none⟩ = some (.int .i64 fy1) ∧ w'.cell? ⟨N_f, 2, none⟩ = some (.int .u64 (fm1 : Nat)) ∧ w'.cell? ⟨N_f, 3, none⟩ = some (.int .i64 fk1) ∧ w'.cell? ⟨N_p, 0, none⟩ = some (.int .i64 fx1) ∧ w'.cell? ⟨N_p, 1, none⟩ = some (.int .i64 fy1) ∧ w'.cell? ⟨N_p, 2, none⟩ = some (.int .u64 (lo : Nat)) ∧ w'.cell? ⟨N_p, 3, none⟩ = some (.int .i64 (c : Int)) ∧ w'.cell? ⟨N_l, 0, none⟩ = some (.int .i64 fx1) ∧ w'.cell? ⟨N_l, 1, none⟩ = some (.int .i64 fy1) ∧ w'.cell? ⟨N_l, 2, none⟩ = some (.int .u64 (re : Nat)) ∧ w'.cell? ⟨N_l, 3, none⟩ = some (.int .i64 ((kk - c : Nat) : Int))) (by kernel_rfl) ?_
      have hBh0 : Below V22.heap.size V22 V22.drew := (Below.refl _ _).drew
      have hSh0 : (fun w' : World => w'.cell? ⟨N_s, 0, none⟩ = some (.int .i64 (g : Int)) ∧ w'.cell? ⟨N_s, 1, none⟩ = some (.int .i64 (c : Int)) ∧ w'.cell? ⟨N_s, 2, none⟩ = some (.int .i64 mn0) ∧ w'.cell? ⟨N_s, 3, none⟩ = some (.int .i64 mx0) ∧ w'.cell? ⟨N_f, 0, none⟩ = some (.int .i64 fx1) ∧ w'.cell? ⟨N_f, 1, none⟩ = some (.int .i64 fy1) ∧ w'.cell? ⟨N_f, 2, none⟩ = some (.int .u64 (fm1 : Nat)) ∧ w'.cell? ⟨N_f, 3, none⟩ = some (.int .i64 fk1) ∧ w'.cell? ⟨N_p, 0, none⟩ = some (.int .i64 fx1) ∧ w'.cell? ⟨N_p, 1, none⟩ = some (.int .i64 fy1) ∧ w'.cell? ⟨N_p, 2, none⟩ = some (.int .u64 (lo : Nat)) ∧ w'.cell? ⟨N_p, 3, none⟩ = some (.int .i64 (c : Int)) ∧ w'.cell? ⟨N_l, 0, none⟩ = some (.int .i64 fx1) ∧ w'.cell? ⟨N_l, 1, none⟩ = some (.int .i64 fy1) ∧ w'.cell? ⟨N_l, 2, none⟩ = some (.int .u64 (re : Nat)) ∧ w'.cell? ⟨N_l, 3, none⟩ = some (.int .i64 ((kk - c : Nat) : Int))) V22.drew := ⟨s0, s1, s2, s3, f0, f1, f2, f3, p0, p1, p2, p3, l0, l1, l2, l3⟩
      refine held_take (v := ?_) 0 37 rfl rfl (by kernel_rfl) (by kernel_rfl) (by kernel_rfl) (fun _ _ _ h => h) ⟨by rfl, ?_⟩ hSh0 ?_
      rotate_left
      · intro w' hw'; obtain ⟨x0, x1, x2, x3, x4, x5, x6, x7, x8, x9, x10, x11, x12, x13, x14, x15⟩ := hw'; go_simp; (try with_reducible rfl)
      simp only [Act.put, List.setIfInBounds_toArray, List.set_cons_zero, List.set_cons_succ]
      refine held_take (v := ?_) 1 38 rfl rfl (by kernel_rfl) (by kernel_rfl) (by kernel_rfl) (fun _ _ _ h => h) ⟨by rfl, ?_⟩ hSh0 ?_
      rotate_left
      · intro w' hw'; obtain ⟨x0, x1, x2, x3, x4, x5, x6, x7, x8, x9, x10, x11, x12, x13, x14, x15⟩ := hw'; go_simp; (try with_reducible rfl)
      simp only [Act.put, List.setIfInBounds_toArray, List.set_cons_zero, List.set_cons_succ]
      refine held_take (v := ?_) 2 39 rfl rfl (by kernel_rfl) (by kernel_rfl) (by kernel_rfl) (fun _ _ _ h => h) ⟨by rfl, ?_⟩ hSh0 ?_
      rotate_left
      · intro w' hw'; obtain ⟨x0, x1, x2, x3, x4, x5, x6, x7, x8, x9, x10, x11, x12, x13, x14, x15⟩ := hw'; go_simp; (try with_reducible rfl)
      simp only [Act.put, List.setIfInBounds_toArray, List.set_cons_zero, List.set_cons_succ]
      refine held_take (v := ?_) 3 40 rfl rfl (by kernel_rfl) (by kernel_rfl) (by kernel_rfl) (fun _ _ _ h => h) ⟨by rfl, ?_⟩ hSh0 ?_
      rotate_left
      · intro w' hw'; obtain ⟨x0, x1, x2, x3, x4, x5, x6, x7, x8, x9, x10, x11, x12, x13, x14, x15⟩ := hw'; go_simp; (try with_reducible rfl)
      simp only [Act.put, List.setIfInBounds_toArray, List.set_cons_zero, List.set_cons_succ]
      refine held_take (v := ?_) 4 41 rfl rfl (by kernel_rfl) (by kernel_rfl) (by kernel_rfl) (fun _ _ _ h => h) ⟨by rfl, ?_⟩ hSh0 ?_
      rotate_left
      · intro w' hw'; obtain ⟨x0, x1, x2, x3, x4, x5, x6, x7, x8, x9, x10, x11, x12, x13, x14, x15⟩ := hw'; go_simp; (try with_reducible rfl)
      simp only [Act.put, List.setIfInBounds_toArray, List.set_cons_zero, List.set_cons_succ]
      refine held_take (v := ?_) 5 42 rfl rfl (by kernel_rfl) (by kernel_rfl) (by kernel_rfl) (fun _ _ _ h => h) ⟨by rfl, ?_⟩ hSh0 ?_
      rotate_left
      · intro w' hw'; obtain ⟨x0, x1, x2, x3, x4, x5, x6, x7, x8, x9, x10, x11, x12, x13, x14, x15⟩ := hw'; go_simp; (try with_reducible rfl)
      simp only [Act.put, List.setIfInBounds_toArray, List.set_cons_zero, List.set_cons_succ]
      refine held_take (v := ?_) 6 43 rfl rfl (by kernel_rfl) (by kernel_rfl) (by kernel_rfl) (fun _ _ _ h => h) ⟨by rfl, ?_⟩ hSh0 ?_
      rotate_left
      · intro w' hw'; obtain ⟨x0, x1, x2, x3, x4, x5, x6, x7, x8, x9, x10, x11, x12, x13, x14, x15⟩ := hw'; go_simp; (try with_reducible rfl)
      simp only [Act.put, List.setIfInBounds_toArray, List.set_cons_zero, List.set_cons_succ]
      refine held_take (v := ?_) 7 44 rfl rfl (by kernel_rfl) (by kernel_rfl) (by kernel_rfl) (fun _ _ _ h => h) ⟨by rfl, ?_⟩ hSh0 ?_
      rotate_left
      · intro w' hw'; obtain ⟨x0, x1, x2, x3, x4, x5, x6, x7, x8, x9, x10, x11, x12, x13, x14, x15⟩ := hw'; go_simp; (try with_reducible rfl)
      simp only [Act.put, List.setIfInBounds_toArray, List.set_cons_zero, List.set_cons_succ]
      refine held_take (v := ?_) 8 45 rfl rfl (by kernel_rfl) (by kernel_rfl) (by kernel_rfl) (fun _ _ _ h => h) ⟨by rfl, ?_⟩ hSh0 ?_
      rotate_left
      · intro w' hw'; obtain ⟨x0, x1, x2, x3, x4, x5, x6, x7, x8, x9, x10, x11, x12, x13, x14, x15⟩ := hw'; go_simp; (try with_reducible rfl)
      simp only [Act.put, List.setIfInBounds_toArray, List.set_cons_zero, List.set_cons_succ]
      refine held_take (v := ?_) 9 46 rfl rfl (by kernel_rfl) (by kernel_rfl) (by kernel_rfl) (fun _ _ _ h => h) ⟨by rfl, ?_⟩ hSh0 ?_
      rotate_left
      · intro w' hw'; obtain ⟨x0, x1, x2, x3, x4, x5, x6, x7, x8, x9, x10, x11, x12, x13, x14, x15⟩ := hw'; go_simp; (try with_reducible rfl)
      simp only [Act.put, List.setIfInBounds_toArray, List.set_cons_zero, List.set_cons_succ]
      refine held_take (v := ?_) 10 47 rfl rfl (by kernel_rfl) (by kernel_rfl) (by kernel_rfl) (fun _ _ _ h => h) ⟨by rfl, ?_⟩ hSh0 ?_
      rotate_left
      · intro w' hw'; obtain ⟨x0, x1, x2, x3, x4, x5, x6, x7, x8, x9, x10, x11, x12, x13, x14, x15⟩ := hw'; go_simp; (try with_reducible rfl)
      simp only [Act.put, List.setIfInBounds_toArray, List.set_cons_zero, List.set_cons_succ]
      refine held_take (v := ?_) 11 48 rfl rfl (by kernel_rfl) (by kernel_rfl) (by kernel_rfl) (fun _ _ _ h => h) ⟨by rfl, ?_⟩ hSh0 ?_
      rotate_left
      · intro w' hw'; obtain ⟨x0, x1, x2, x3, x4, x5, x6, x7, x8, x9, x10, x11, x12, x13, x14, x15⟩ := hw'; go_simp; (try with_reducible rfl)
      simp only [Act.put, List.setIfInBounds_toArray, List.set_cons_zero, List.set_cons_succ]
      refine held_take (v := ?_) 12 49 rfl rfl (by kernel_rfl) (by kernel_rfl) (by kernel_rfl) (fun _ _ _ h => h) ⟨by rfl, ?_⟩ hSh0 ?_
      rotate_left
      · intro w' hw'; obtain ⟨x0, x1, x2, x3, x4, x5, x6, x7, x8, x9, x10, x11, x12, x13, x14, x15⟩ := hw'; go_simp; (try with_reducible rfl)
      simp only [Act.put, List.setIfInBounds_toArray, List.set_cons_zero, List.set_cons_succ]
      refine held_take (v := ?_) 13 50 rfl rfl (by kernel_rfl) (by kernel_rfl) (by kernel_rfl) (fun _ _ _ h => h) ⟨by rfl, ?_⟩ hSh0 ?_
      rotate_left
      · intro w' hw'; obtain ⟨x0, x1, x2, x3, x4, x5, x6, x7, x8, x9, x10, x11, x12, x13, x14, x15⟩ := hw'; go_simp; (try with_reducible rfl)
      simp only [Act.put, List.setIfInBounds_toArray, List.set_cons_zero, List.set_cons_succ]
      refine held_take (v := ?_) 14 51 rfl rfl (by kernel_rfl) (by kernel_rfl) (by kernel_rfl) (fun _ _ _ h => h) ⟨by rfl, ?_⟩ hSh0 ?_
      rotate_left
      · intro w' hw'; obtain ⟨x0, x1, x2, x3, x4, x5, x6, x7, x8, x9, x10, x11, x12, x13, x14, x15⟩ := hw'; go_simp; (try with_reducible rfl)
      simp only [Act.put, List.setIfInBounds_toArray, List.set_cons_zero, List.set_cons_succ]
      refine held_take (v := ?_) 15 52 rfl rfl (by kernel_rfl) (by kernel_rfl) (by kernel_rfl) (fun _ _ _ h => h) ⟨by rfl, ?_⟩ hSh0 ?_
      rotate_left
      · intro w' hw'; obtain ⟨x0, x1, x2, x3, x4, x5, x6, x7, x8, x9, x10, x11, x12, x13, x14, x15⟩ := hw'; go_simp; (try with_reducible rfl)
      simp only [Act.put, List.setIfInBounds_toArray, List.set_cons_zero, List.set_cons_succ]
      refine held_take (v := ?_) 16 53 rfl rfl (by kernel_rfl) (by kernel_rfl) (by kernel_rfl) (fun _ _ _ h => h) ⟨by rfl, ?_⟩ hSh0 ?_
      rotate_left
      · intro w' hw'; obtain ⟨x0, x1, x2, x3, x4, x5, x6, x7, x8, x9, x10, x11, x12, x13, x14, x15⟩ := hw'; go_simp; (try with_reducible rfl)
      simp only [Act.put, List.setIfInBounds_toArray, List.set_cons_zero, List.set_cons_succ]
      refine held_take (v := ?_) 17 54 rfl rfl (by kernel_rfl) (by kernel_rfl) (by kernel_rfl) (fun _ _ _ h => h) ⟨by rfl, ?_⟩ hSh0 ?_
      rotate_left
      · intro w' hw'; obtain ⟨x0, x1, x2, x3, x4, x5, x6, x7, x8, x9, x10, x11, x12, x13, x14, x15⟩ := hw'; go_simp; (try with_reducible rfl)
      simp only [Act.put, List.setIfInBounds_toArray, List.set_cons_zero, List.set_cons_succ]
      refine held_take (v := ?_) 18 55 rfl rfl (by kernel_rfl) (by kernel_rfl) (by kernel_rfl) (fun _ _ _ h => h) ⟨by rfl, ?_⟩ hSh0 ?_
      rotate_left
      · intro w' hw'; obtain ⟨x0, x1, x2, x3, x4, x5, x6, x7, x8, x9, x10, x11, x12, x13, x14, x15⟩ := hw'; go_simp; (try with_reducible rfl)
      simp only [Act.put, List.setIfInBounds_toArray, List.set_cons_zero, List.set_cons_succ]
      refine held_take (v := ?_) 20 57 rfl rfl (by kernel_rfl) (by kernel_rfl) (by kernel_rfl) (fun _ _ _ h => h) ⟨by rfl, ?_⟩ hSh0 ?_
      rotate_left
      · intro w' hw'; obtain ⟨x0, x1, x2, x3, x4, x5, x6, x7, x8, x9, x10, x11, x12, x13, x14, x15⟩ := hw'; go_simp; (try with_reducible rfl)
      simp only [Act.put, List.setIfInBounds_toArray, List.set_cons_zero, List.set_cons_succ]
      refine held_take (v := ?_) 21 58 rfl rfl (by kernel_rfl) (by kernel_rfl) (by kernel_rfl) (fun _ _ _ h => h) ⟨by rfl, ?_⟩ hSh0 ?_
      rotate_left
      · intro w' hw'; obtain ⟨x0, x1, x2, x3, x4, x5, x6, x7, x8, x9, x10, x11, x12, x13, x14, x15⟩ := hw'; go_simp; (try with_reducible rfl)
      simp only [Act.put, List.setIfInBounds_toArray, List.set_cons_zero, List.set_cons_succ]
      refine held_one 19 rfl (by kernel_rfl) (by rfl) (fun K hK => ?_)
      go_simp
      go_at_call 17
      refine (hCn.out _).mono ?_
      rintro e w' ⟨rfl, rfl⟩
      refine hK.out _ _ hSh0 ?_
      clear hK K
      refine held_take (v := ?_) 22 59 rfl rfl (by kernel_rfl) (by kernel_rfl) (by kernel_rfl) (fun _ _ _ h => h) ⟨by rfl, ?_⟩ hSh0 ?_
      rotate_left
      · intro w' hw'; obtain ⟨x0, x1, x2, x3, x4, x5, x6, x7, x8, x9, x10, x11, x12, x13, x14, x15⟩ := hw'; go_simp; (try with_reducible rfl)
      simp only [Act.put, List.setIfInBounds_toArray, List.set_cons_zero, List.set_cons_succ]
      refine held_take (v := ?_) 23 60 rfl rfl (by kernel_rfl) (by kernel_rfl) (by kernel_rfl) (fun _ _ _ h => h) ⟨by rfl, ?_⟩ hSh0 ?_
      rotate_left
      · intro w' hw'; obtain ⟨x0, x1, x2, x3, x4, x5, x6, x7, x8, x9, x10, x11, x12, x13, x14, x15⟩ := hw'; go_simp; (try with_reducible rfl)
      simp only [Act.put, List.setIfInBounds_toArray, List.set_cons_zero, List.set_cons_succ]
      refine held_take (v := ?_) 24 61 rfl rfl (by kernel_rfl) (by kernel_rfl) (by kernel_rfl) (fun _ _ _ h => h) ⟨by rfl, ?_⟩ hSh0 ?_
      rotate_left
      · intro w' hw'; obtain ⟨x0, x1, x2, x3, x4, x5, x6, x7, x8, x9, x10, x11, x12, x13, x14, x15⟩ := hw'; go_simp; (try with_reducible rfl)
      simp only [Act.put, List.setIfInBounds_toArray, List.set_cons_zero, List.set_cons_succ]
      refine held_take (v := ?_) 25 62 rfl rfl (by kernel_rfl) (by kernel_rfl) (by kernel_rfl) (fun _ _ _ h => h) ⟨by rfl, ?_⟩ hSh0 ?_
      rotate_left
      · intro w' hw'; obtain ⟨x0, x1, x2, x3, x4, x5, x6, x7, x8, x9, x10, x11, x12, x13, x14, x15⟩ := hw'; go_simp; (try with_reducible rfl)
      simp only [Act.put, List.setIfInBounds_toArray, List.set_cons_zero, List.set_cons_succ]
      refine held_take (v := ?_) 26 63 rfl rfl (by kernel_rfl) (by kernel_rfl) (by kernel_rfl) (fun _ _ _ h => h) ⟨by rfl, ?_⟩ hSh0 ?_
      rotate_left
      · intro w' hw'; obtain ⟨x0, x1, x2, x3, x4, x5, x6, x7, x8, x9, x10, x11, x12, x13, x14, x15⟩ := hw'; go_simp; (try with_reducible rfl)
      simp only [Act.put, List.setIfInBounds_toArray, List.set_cons_zero, List.set_cons_succ]
      refine held_take (v := ?_) 27 64 rfl rfl (by kernel_rfl) (by kernel_rfl) (by kernel_rfl) (fun _ _ _ h => h) ⟨by rfl, ?_⟩ hSh0 ?_
      rotate_left
      · intro w' hw'; obtain ⟨x0, x1, x2, x3, x4, x5, x6, x7, x8, x9, x10, x11, x12, x13, x14, x15⟩ := hw'; go_simp; (try with_reducible rfl)
      simp only [Act.put, List.setIfInBounds_toArray, List.set_cons_zero, List.set_cons_succ]
      refine held_take (v := ?_) 28 65 rfl rfl (by kernel_rfl) (by kernel_rfl) (by kernel_rfl) (fun _ _ _ h => h) ⟨by rfl, ?_⟩ hSh0 ?_
      rotate_left
      · intro w' hw'; obtain ⟨x0, x1, x2, x3, x4, x5, x6, x7, x8, x9, x10, x11, x12, x13, x14, x15⟩ := hw'; go_simp; (try with_reducible rfl)
      simp only [Act.put, List.setIfInBounds_toArray, List.set_cons_zero, List.set_cons_succ]
      refine held_take (v := ?_) 29 66 rfl rfl (by kernel_rfl) (by kernel_rfl) (by kernel_rfl) (fun _ _ _ h => h) ⟨by rfl, ?_⟩ hSh0 ?_
      rotate_left
      · intro w' hw'; obtain ⟨x0, x1, x2, x3, x4, x5, x6, x7, x8, x9, x10, x11, x12, x13, x14, x15⟩ := hw'; go_simp; (try with_reducible rfl)
      simp only [Act.put, List.setIfInBounds_toArray, List.set_cons_zero, List.set_cons_succ]
      refine held_take (v := ?_) 30 67 rfl rfl (by kernel_rfl) (by kernel_rfl) (by kernel_rfl) (fun _ _ _ h => h) ⟨by rfl, ?_⟩ hSh0 ?_
      rotate_left
      · intro w' hw'; obtain ⟨x0, x1, x2, x3, x4, x5, x6, x7, x8, x9, x10, x11, x12, x13, x14, x15⟩ := hw'; go_simp; (try with_reducible rfl)
      simp only [Act.put, List.setIfInBounds_toArray, List.set_cons_zero, List.set_cons_succ]
      refine held_take (v := ?_) 31 68 rfl rfl (by kernel_rfl) (by kernel_rfl) (by kernel_rfl) (fun _ _ _ h => h) ⟨by rfl, ?_⟩ hSh0 ?_
      rotate_left
      · intro w' hw'; obtain ⟨x0, x1, x2, x3, x4, x5, x6, x7, x8, x9, x10, x11, x12, x13, x14, x15⟩ := hw'; go_simp; (try with_reducible rfl)
      simp only [Act.put, List.setIfInBounds_toArray, List.set_cons_zero, List.set_cons_succ]
      refine held_take (v := ?_) 32 69 rfl rfl (by kernel_rfl) (by kernel_rfl) (by kernel_rfl) (fun _ _ _ h => h) ⟨by rfl, ?_⟩ hSh0 ?_
      rotate_left
      · intro w' hw'; obtain ⟨x0, x1, x2, x3, x4, x5, x6, x7, x8, x9, x10, x11, x12, x13, x14, x15⟩ := hw'; go_simp; (try with_reducible rfl)
      simp only [Act.put, List.setIfInBounds_toArray, List.set_cons_zero, List.set_cons_succ]
      refine held_take (v := ?_) 33 70 rfl rfl (by kernel_rfl) (by kernel_rfl) (by kernel_rfl) (fun _ _ _ h => h) ⟨by rfl, ?_⟩ hSh0 ?_
      rotate_left
      · intro w' hw'; obtain ⟨x0, x1, x2, x3, x4, x5, x6, x7, x8, x9, x10, x11, x12, x13, x14, x15⟩ := hw'; go_simp; (try with_reducible rfl)
      simp only [Act.put, List.setIfInBounds_toArray, List.set_cons_zero, List.set_cons_succ]
      refine held_take (v := ?_) 34 71 rfl rfl (by kernel_rfl) (by kernel_rfl) (by kernel_rfl) (fun _ _ _ h => h) ⟨by rfl, ?_⟩ hSh0 ?_
      rotate_left
      · intro w' hw'; obtain ⟨x0, x1, x2, x3, x4, x5, x6, x7, x8, x9, x10, x11, x12, x13, x14, x15⟩ := hw'; go_simp; (try with_reducible rfl)
      simp only [Act.put, List.setIfInBounds_toArray, List.set_cons_zero, List.set_cons_succ]
      refine held_take (v := ?_) 35 72 rfl rfl (by kernel_rfl) (by kernel_rfl) (by kernel_rfl) (fun _ _ _ h => h) ⟨by rfl, ?_⟩ hSh0 ?_
      rotate_left
      · intro w' hw'; obtain ⟨x0, x1, x2, x3, x4, x5, x6, x7, x8, x9, x10, x11, x12, x13, x14, x15⟩ := hw'; go_simp; (try with_reducible rfl)
      simp only [Act.put, List.setIfInBounds_toArray, List.set_cons_zero, List.set_cons_succ]
      refine held_take (v := ?_) 36 73 rfl rfl (by kernel_rfl) (by kernel_rfl) (by kernel_rfl) (fun _ _ _ h => h) ⟨by rfl, ?_⟩ hSh0 ?_
      rotate_left
      · intro w' hw'; obtain ⟨x0, x1, x2, x3, x4, x5, x6, x7, x8, x9, x10, x11, x12, x13, x14, x15⟩ := hw'; go_simp; (try with_reducible rfl)
      simp only [Act.put, List.setIfInBounds_toArray, List.set_cons_zero, List.set_cons_succ]
      refine held_take (v := ?_) 37 74 rfl rfl (by kernel_rfl) (by kernel_rfl) (by kernel_rfl) (fun _ _ _ h => h) ⟨by rfl, ?_⟩ hSh0 ?_
      rotate_left
      · intro w' hw'; obtain ⟨x0, x1, x2, x3, x4, x5, x6, x7, x8, x9, x10, x11, x12, x13, x14, x15⟩ := hw'; go_simp; (try with_reducible rfl)
      simp only [Act.put, List.setIfInBounds_toArray, List.set_cons_zero, List.set_cons_succ]
      refine held_take (v := ?_) 38 75 rfl rfl (by kernel_rfl) (by kernel_rfl) (by kernel_rfl) (fun _ _ _ h => h) ⟨by rfl, ?_⟩ hSh0 ?_
      rotate_left
      · intro w' hw'; obtain ⟨x0, x1, x2, x3, x4, x5, x6, x7, x8, x9, x10, x11, x12, x13, x14, x15⟩ := hw'; go_simp; (try with_reducible rfl)
      simp only [Act.put, List.setIfInBounds_toArray, List.set_cons_zero, List.set_cons_succ]
      refine held_take (v := ?_) 39 76 rfl rfl (by kernel_rfl) (by kernel_rfl) (by kernel_rfl) (fun _ _ _ h => h) ⟨by rfl, ?_⟩ hSh0 ?_
      rotate_left
      · intro w' hw'; obtain ⟨x0, x1, x2, x3, x4, x5, x6, x7, x8, x9, x10, x11, x12, x13, x14, x15⟩ := hw'; go_simp; (try with_reducible rfl)
      simp only [Act.put, List.setIfInBounds_toArray, List.set_cons_zero, List.set_cons_succ]
      refine held_take (v := ?_) 40 77 rfl rfl (by kernel_rfl) (by kernel_rfl) (by kernel_rfl) (fun _ _ _ h => h) ⟨by rfl, ?_⟩ hSh0 ?_
      rotate_left
      · intro w' hw'; obtain ⟨x0, x1, x2, x3, x4, x5, x6, x7, x8, x9, x10, x11, x12, x13, x14, x15⟩ := hw'; go_simp; (try with_reducible rfl)
      simp only [Act.put, List.setIfInBounds_toArray, List.set_cons_zero, List.set_cons_succ]
      refine held_take (v := ?_) 41 78 rfl rfl (by kernel_rfl) (by kernel_rfl) (by kernel_rfl) (fun _ _ _ h => h) ⟨by rfl, ?_⟩ hSh0 ?_
      rotate_left
      · intro w' hw'; obtain ⟨x0, x1, x2, x3, x4, x5, x6, x7, x8, x9, x10, x11, x12, x13, x14, x15⟩ := hw'; go_simp; (try with_reducible rfl)
      simp only [Act.put, List.setIfInBounds_toArray, List.set_cons_zero, List.set_cons_succ]
      refine held_take (v := ?_) 42 79 rfl rfl (by kernel_rfl) (by kernel_rfl) (by kernel_rfl) (fun _ _ _ h => h) ⟨by rfl, ?_⟩ hSh0 ?_
      rotate_left
      · intro w' hw'; obtain ⟨x0, x1, x2, x3, x4, x5, x6, x7, x8, x9, x10, x11, x12, x13, x14, x15⟩ := hw'; go_simp; (try with_reducible rfl)
      simp only [Act.put, List.setIfInBounds_toArray, List.set_cons_zero, List.set_cons_succ]
      refine held_take (v := ?_) 43 80 rfl rfl (by kernel_rfl) (by kernel_rfl) (by kernel_rfl) (fun _ _ _ h => h) ⟨by rfl, ?_⟩ hSh0 ?_
      rotate_left
      · intro w' hw'; obtain ⟨x0, x1, x2, x3, x4, x5, x6, x7, x8, x9, x10, x11, x12, x13, x14, x15⟩ := hw'; go_simp; (try with_reducible rfl)
      simp only [Act.put, List.setIfInBounds_toArray, List.set_cons_zero, List.set_cons_succ]
      refine held_take (v := ?_) 44 81 rfl rfl (by kernel_rfl) (by kernel_rfl) (by kernel_rfl) (fun _ _ _ h => h) ⟨by rfl, ?_⟩ hSh0 ?_
      rotate_left
      · intro w' hw'; obtain ⟨x0, x1, x2, x3, x4, x5, x6, x7, x8, x9, x10, x11, x12, x13, x14, x15⟩ := hw'; go_simp; (try with_reducible rfl)
      simp only [Act.put, List.setIfInBounds_toArray, List.set_cons_zero, List.set_cons_succ]
      refine held_take (v := ?_) 45 82 rfl rfl (by kernel_rfl) (by kernel_rfl) (by kernel_rfl) (fun _ _ _ h => h) ⟨by rfl, ?_⟩ hSh0 ?_
      rotate_left
      · intro w' hw'; obtain ⟨x0, x1, x2, x3, x4, x5, x6, x7, x8, x9, x10, x11, x12, x13, x14, x15⟩ := hw'; go_simp; (try with_reducible rfl)
      simp only [Act.put, List.setIfInBounds_toArray, List.set_cons_zero, List.set_cons_succ]
      refine wpAnyH_done (by kernel_rfl) ?_ _
      obtain ⟨D23, hD9⟩ : ∃ D, D = V22.drew := ⟨_, rfl⟩
      have hb9 : Below V22.heap.size V22 D23 := by rw [hD9]; exact hBh0
      rw [← hD9]
      clear hD9
      clear s0 s1 s2 s3 f0 f1 f2 f3 p0 p1 p2 p3 l0 l1 l2 l3
      have hs9 := hb9.size
      replace HBel := Lib.hid (HBel.out.trans (hb9.mono hlow))
      replace B_s : Hid (D23.heap[N_s]? = some (.cells #[.int .i64 (g : Int), .int .i64 (c : Int), .int .i64 mn0, .int .i64 mx0] 23 (0, 0))) := Lib.hid ((hb9.block _ l_s).trans B_s.out)
      replace B_f : Hid (D23.heap[N_f]? = some (.cells #[.int .i64 fx1, .int .i64 fy1, .int .u64 (fm1 : Nat), .int .i64 fk1] 28 (0, 0))) := Lib.hid ((hb9.block _ l_f).trans B_f.out)
      replace B_r : Hid (D23.heap[N_r]? = some (.cells #[.int .i64 fx1, .int .i64 fy1, .int .u64 (mj : Nat), .int .i64 (kk : Int)] 28 (0, 0))) := Lib.hid ((hb9.block _ l_r).trans B_r.out)
      replace B_p : Hid (D23.heap[N_p]? = some (.cells #[.int .i64 fx1, .int .i64 fy1, .int .u64 (lo : Nat), .int .i64 (c : Int)] 35 (0, 0))) := Lib.hid ((hb9.block _ l_p).trans B_p.out)
      replace B_l : Hid (D23.heap[N_l]? = some (.cells #[.int .i64 fx1, .int .i64 fy1, .int .u64 (re : Nat), .int .i64 ((kk - c : Nat) : Int)] 28 (0, 0))) := Lib.hid ((hb9.block _ l_l).trans B_l.out)
      replace l_s : N_s < D23.heap.size := by omega
      replace l_f : N_f < D23.heap.size := by omega
      replace l_r : N_r < D23.heap.size := by omega
      replace l_p : N_p < D23.heap.size := by omega
      replace l_l : N_l < D23.heap.size := by omega
      replace hlow : w.heap.size ≤ D23.heap.size := by omega
      clear hb9 hs9
      clear a1 a2 e1
      have s0 : D23.cell? ⟨N_s, 0, none⟩ = some (.int .i64 (g : Int)) := cell_blk (i := 0) B_s.out rfl
      have s1 : D23.cell? ⟨N_s, 1, none⟩ = some (.int .i64 (c : Int)) := cell_blk (i := 1) B_s.out rfl
      have s2 : D23.cell? ⟨N_s, 2, none⟩ = some (.int .i64 mn0) := cell_blk (i := 2) B_s.out rfl
      have s3 : D23.cell? ⟨N_s, 3, none⟩ = some (.int .i64 mx0) := cell_blk (i := 3) B_s.out rfl
      have f0 : D23.cell? ⟨N_f, 0, none⟩ = some (.int .i64 fx1) := cell_blk (i := 0) B_f.out rfl
      have f1 : D23.cell? ⟨N_f, 1, none⟩ = some (.int .i64 fy1) := cell_blk (i := 1) B_f.out rfl
      have f2 : D23.cell? ⟨N_f, 2, none⟩ = some (.int .u64 (fm1 : Nat)) := cell_blk (i := 2) B_f.out rfl
      have f3 : D23.cell? ⟨N_f, 3, none⟩ = some (.int .i64 fk1) := cell_blk (i := 3) B_f.out rfl
      have p0 : D23.cell? ⟨N_p, 0, none⟩ = some (.int .i64 fx1) := cell_blk (i := 0) B_p.out rfl
      have p1 : D23.cell? ⟨N_p, 1, none⟩ = some (.int .i64 fy1) := cell_blk (i := 1) B_p.out rfl
      have p2 : D23.cell? ⟨N_p, 2, none⟩ = some (.int .u64 (lo : Nat)) := cell_blk (i := 2) B_p.out rfl
      have p3 : D23.cell? ⟨N_p, 3, none⟩ = some (.int .i64 (c : Int)) := cell_blk (i := 3) B_p.out rfl
      have l0 : D23.cell? ⟨N_l, 0, none⟩ = some (.int .i64 fx1) := cell_blk (i := 0) B_l.out rfl
      have l1 : D23.cell? ⟨N_l, 1, none⟩ = some (.int .i64 fy1) := cell_blk (i := 1) B_l.out rfl
      have l2 : D23.cell? ⟨N_l, 2, none⟩ = some (.int .u64 (re : Nat)) := cell_blk (i := 2) B_l.out rfl
      have l3 : D23.cell? ⟨N_l, 3, none⟩ = some (.int .i64 ((kk - c : Nat) : Int)) := cell_blk (i := 3) B_l.out rfl
      have r0 : D23.cell? ⟨N_r, 0, none⟩ = some (.int .i64 fx1) := cell_blk (i := 0) B_r.out rfl
      have r1 : D23.cell? ⟨N_r, 1, none⟩ = some (.int .i64 fy1) := cell_blk (i := 1) B_r.out rfl
      have r2 : D23.cell? ⟨N_r, 2, none⟩ = some (.int .u64 (mj : Nat)) := cell_blk (i := 2) B_r.out rfl
      have r3 : D23.cell? ⟨N_r, 3, none⟩ = some (.int .i64 (kk : Int)) := cell_blk (i := 3) B_r.out rfl
      have rz0 : D23.frozen? ⟨N_r, 0, none⟩ = false := frozen_blk B_r.out
      have rz1 : D23.frozen? ⟨N_r, 1, none⟩ = false := frozen_blk B_r.out
      have rz2 : D23.frozen? ⟨N_r, 2, none⟩ = false := frozen_blk B_r.out
      have rz3 : D23.frozen? ⟨N_r, 3, none⟩ = false := frozen_blk B_r.out
      have a3 := HA.out.2.2.1
      go_wp2
      go_roundw
      case rel =>
        refine ⟨j + 1, u2, cc + c, by go_num, rfl, by simp, by omega, by simp <;> omega, by simp <;> omega, by simp <;> omega, by simp <;> omega, Lib.hid ⟨?_, ?_, ?_, re, ((kk - c : Nat) : Int), ?_, hN.out.1, hN.out.2.1, hN.out.2.2.1, hN.out.2.2.2.1, hN.out.2.2.2.2⟩⟩
        · exact (((HBel.out.setCell (by omega) _).setCell (by omega) _).setCell (by omega) _).setCell (by omega) _
        · exact (Below.heap_setCell _ _ _ _ (by simp <;> omega)).trans ((Below.heap_setCell _ _ _ _ (by simp <;> omega)).trans ((Below.heap_setCell _ _ _ _ (by simp <;> omega)).trans ((Below.heap_setCell _ _ _ _ (by simp <;> omega)).trans B_s.out)))
        · exact (Below.heap_setCell _ _ _ _ (by simp <;> omega)).trans ((Below.heap_setCell _ _ _ _ (by simp <;> omega)).trans ((Below.heap_setCell _ _ _ _ (by simp <;> omega)).trans ((Below.heap_setCell _ _ _ _ (by simp <;> omega)).trans B_f.out)))
        · have := blk_put (i := 3) (.int .i64 ((kk - c : Nat) : Int)) (blk_put (i := 2) (.int .u64 (re : Nat)) (blk_put (i := 1) (.int .i64 fy1) (blk_put (i := 0) (.int .i64 fx1) B_r.out)))
          simpa using this
      case measure => simp [intOf]; omega
    · obtain rfl : j = n := by omega
      have t0 : decide (j < j) = false := by simp
      have hm1 := not_u64 fm1 uu wm1 huu
      rw [← hmj] at hm1
      have hwk : (Lit.int .i64 kj).wf = true ∧ (j ≠ 0 → 0 ≤ kj) ∧ (j ≠ 16 → fitZ g c (MM.cnt mj) kj = 0) := by
        by_cases hk0 : fk1 < 0
        · have h0 : j = 0 := by rw [Q.out.1]; unfold fitZ; rw [if_pos hk0]
          subst h0
          have e : kj = fk1 := by have := hcc; simp at this; omega
          rw [e]
          exact ⟨Q.out.2.2.2, fun h => absurd rfl h, fun _ => by unfold fitZ; rw [if_pos hk0]⟩
        · obtain ⟨kf, hkf⟩ : ∃ kf : Nat, fk1 = kf := ⟨fk1.toNat, by omega⟩
          have hjn : j = fitN g c (MM.cnt fm1) kf := by rw [Q.out.1, hkf]; unfold fitZ; rw [if_neg (by omega)]; rfl
          have hcl : c * j ≤ kf := by
            rcases Nat.eq_zero_or_pos j with h | h
            · rw [h]; omega
            · obtain ⟨_, f2⟩ := fit_room (show j - 1 < fitN g c (MM.cnt fm1) kf by omega)
              have : c * j = c * (j - 1) + c := by rw [← Nat.mul_succ]; congr 1; omega
              omega
          obtain ⟨kk, rfl⟩ : ∃ kk : Nat, kj = kk := ⟨kj.toNat, by omega⟩
          refine ⟨Go.WalkArith.wf_i64 ⟨by omega, by omega⟩, fun _ => by omega, fun h16 => ?_⟩
          unfold fitZ; rw [if_neg (by omega)]
          exact fit_none (g := g) (c := c) (u := MM.cnt fm1) (k := kf) (by omega) (by rw [← hjn]; exact hcm) (by rw [← hjn, ← hcc]; simp; omega)
      obtain ⟨p0, p1, p2, p3, r0, r1, r2, r3, hP⟩ := hPt.out mj kj hmjl hwk.1
      obtain ⟨E, hE⟩ : ∃ E : Int, E = (if fitZ g c (MM.cnt mj) kj = 0 then 7 else 0) := ⟨_, rfl⟩
      rw [← hE] at hP
      have hE7 : j ≠ 16 → E = 7 := fun h => by rw [hE, if_pos (hwk.2.2 h)]
      have hP := Lib.hid hP
      have hjp := hwk.2.1
      have hc0 : j ≠ 0 → (kj == fk1 - (cc : Int)) = true := fun _ => by simp; omega
      have hfl : j ≠ 0 → 0 ≤ kj ∧ 0 ≤ fk1 := fun h => ⟨hjp h, by have := hjp h; omega⟩
      have hccl : cc ≤ 16384 := by rw [hcc]; exact Nat.le_trans (Nat.mul_le_mul hc16 hn16) (by omega)
      clear hmj hcm hkj hcc hmjl hlt hE hwk huu hjp
      by_cases h0 : j = 0
      · subst h0
        have hE := hE7 (by omega)
        subst hE
        clear hE7 hc0 hfl
        have s0 : wr.cell? ⟨N_s, 0, none⟩ = some (.int .i64 (g : Int)) := cell_blk (i := 0) B_s.out rfl
        have s1 : wr.cell? ⟨N_s, 1, none⟩ = some (.int .i64 (c : Int)) := cell_blk (i := 1) B_s.out rfl
        have s2 : wr.cell? ⟨N_s, 2, none⟩ = some (.int .i64 mn0) := cell_blk (i := 2) B_s.out rfl
        have s3 : wr.cell? ⟨N_s, 3, none⟩ = some (.int .i64 mx0) := cell_blk (i := 3) B_s.out rfl
        have f0 : wr.cell? ⟨N_f, 0, none⟩ = some (.int .i64 fx1) := cell_blk (i := 0) B_f.out rfl
        have f1 : wr.cell? ⟨N_f, 1, none⟩ = some (.int .i64 fy1) := cell_blk (i := 1) B_f.out rfl
        have f2 : wr.cell? ⟨N_f, 2, none⟩ = some (.int .u64 (fm1 : Nat)) := cell_blk (i := 2) B_f.out rfl
        have f3 : wr.cell? ⟨N_f, 3, none⟩ = some (.int .i64 fk1) := cell_blk (i := 3) B_f.out rfl
        have r0 : wr.cell? ⟨N_r, 0, none⟩ = some (.int .i64 fx1) := cell_blk (i := 0) B_r.out rfl
        have r1 : wr.cell? ⟨N_r, 1, none⟩ = some (.int .i64 fy1) := cell_blk (i := 1) B_r.out rfl
        have r2 : wr.cell? ⟨N_r, 2, none⟩ = some (.int .u64 (mj : Nat)) := cell_blk (i := 2) B_r.out rfl
        have r3 : wr.cell? ⟨N_r, 3, none⟩ = some (.int .i64 kj) := cell_blk (i := 3) B_r.out rfl
        go_wp2_with fail
        refine (hP.out _ HBel.out).mono ?_
        rintro e U41 ⟨rfl, hb9⟩
        clear s0 s1 s2 s3 f0 f1 f2 f3 r0 r1 r2 r3
        have hs9 := hb9.size
        replace HBel := Lib.hid (HBel.out.trans (hb9.mono hlow))
        replace B_s : Hid (U41.heap[N_s]? = some (.cells #[.int .i64 (g : Int), .int .i64 (c : Int), .int .i64 mn0, .int .i64 mx0] 23 (0, 0))) := Lib.hid ((hb9.block _ l_s).trans B_s.out)
        replace B_f : Hid (U41.heap[N_f]? = some (.cells #[.int .i64 fx1, .int .i64 fy1, .int .u64 (fm1 : Nat), .int .i64 fk1] 28 (0, 0))) := Lib.hid ((hb9.block _ l_f).trans B_f.out)
        replace B_r : Hid (U41.heap[N_r]? = some (.cells #[.int .i64 fx1, .int .i64 fy1, .int .u64 (mj : Nat), .int .i64 kj] 28 (0, 0))) := Lib.hid ((hb9.block _ l_r).trans B_r.out)
        replace l_s : N_s < U41.heap.size := by omega
        replace l_f : N_f < U41.heap.size := by omega
        replace l_r : N_r < U41.heap.size := by omega
        replace hlow : w.heap.size ≤ U41.heap.size := by omega
        clear hb9 hs9
        have f0 : U41.cell? ⟨N_f, 0, none⟩ = some (.int .i64 fx1) := cell_blk (i := 0) B_f.out rfl
        have f1 : U41.cell? ⟨N_f, 1, none⟩ = some (.int .i64 fy1) := cell_blk (i := 1) B_f.out rfl
        have f2 : U41.cell? ⟨N_f, 2, none⟩ = some (.int .u64 (fm1 : Nat)) := cell_blk (i := 2) B_f.out rfl
        have f3 : U41.cell? ⟨N_f, 3, none⟩ = some (.int .i64 fk1) := cell_blk (i := 3) B_f.out rfl
        have l_f_0 : N_f < U41.heap.size + 1 := by omega
        have l_f_1 : N_f < U41.heap.size + 1 + 1 := by omega
        have r0 : U41.cell? ⟨N_r, 0, none⟩ = some (.int .i64 fx1) := cell_blk (i := 0) B_r.out rfl
        have r1 : U41.cell? ⟨N_r, 1, none⟩ = some (.int .i64 fy1) := cell_blk (i := 1) B_r.out rfl
        have r2 : U41.cell? ⟨N_r, 2, none⟩ = some (.int .u64 (mj : Nat)) := cell_blk (i := 2) B_r.out rfl
        have r3 : U41.cell? ⟨N_r, 3, none⟩ = some (.int .i64 kj) := cell_blk (i := 3) B_r.out rfl
        have l_r_0 : N_r < U41.heap.size + 1 := by omega
        have l_r_1 : N_r < U41.heap.size + 1 + 1 := by omega
        go_wp2
        go_ret
        exact ⟨rfl, (HBel.out.alloc hlow _).alloc (by simp <;> omega) _⟩
      · have tz : ((j : Int) == 0) = false := by simp; omega
        have tc := hc0 h0
        obtain ⟨g1, g2⟩ := hfl h0
        by_cases h16 : j = 16
        · have te : ((j : Int) == 16) = true := by rw [h16]; rfl
          clear hE7 hc0 hfl h0 h16
          have s0 : wr.cell? ⟨N_s, 0, none⟩ = some (.int .i64 (g : Int)) := cell_blk (i := 0) B_s.out rfl
          have s1 : wr.cell? ⟨N_s, 1, none⟩ = some (.int .i64 (c : Int)) := cell_blk (i := 1) B_s.out rfl
          have s2 : wr.cell? ⟨N_s, 2, none⟩ = some (.int .i64 mn0) := cell_blk (i := 2) B_s.out rfl
          have s3 : wr.cell? ⟨N_s, 3, none⟩ = some (.int .i64 mx0) := cell_blk (i := 3) B_s.out rfl
          have f0 : wr.cell? ⟨N_f, 0, none⟩ = some (.int .i64 fx1) := cell_blk (i := 0) B_f.out rfl
          have f1 : wr.cell? ⟨N_f, 1, none⟩ = some (.int .i64 fy1) := cell_blk (i := 1) B_f.out rfl
          have f2 : wr.cell? ⟨N_f, 2, none⟩ = some (.int .u64 (fm1 : Nat)) := cell_blk (i := 2) B_f.out rfl
          have f3 : wr.cell? ⟨N_f, 3, none⟩ = some (.int .i64 fk1) := cell_blk (i := 3) B_f.out rfl
          have r0 : wr.cell? ⟨N_r, 0, none⟩ = some (.int .i64 fx1) := cell_blk (i := 0) B_r.out rfl
          have r1 : wr.cell? ⟨N_r, 1, none⟩ = some (.int .i64 fy1) := cell_blk (i := 1) B_r.out rfl
          have r2 : wr.cell? ⟨N_r, 2, none⟩ = some (.int .u64 (mj : Nat)) := cell_blk (i := 2) B_r.out rfl
          have r3 : wr.cell? ⟨N_r, 3, none⟩ = some (.int .i64 kj) := cell_blk (i := 3) B_r.out rfl
          go_wp2_with fail
          refine (hP.out _ HBel.out).mono ?_
          rintro e U41 ⟨rfl, hb9⟩
          clear s0 s1 s2 s3 f0 f1 f2 f3 r0 r1 r2 r3
          have hs9 := hb9.size
          replace HBel := Lib.hid (HBel.out.trans (hb9.mono hlow))
          replace B_s : Hid (U41.heap[N_s]? = some (.cells #[.int .i64 (g : Int), .int .i64 (c : Int), .int .i64 mn0, .int .i64 mx0] 23 (0, 0))) := Lib.hid ((hb9.block _ l_s).trans B_s.out)
          replace B_f : Hid (U41.heap[N_f]? = some (.cells #[.int .i64 fx1, .int .i64 fy1, .int .u64 (fm1 : Nat), .int .i64 fk1] 28 (0, 0))) := Lib.hid ((hb9.block _ l_f).trans B_f.out)
          replace B_r : Hid (U41.heap[N_r]? = some (.cells #[.int .i64 fx1, .int .i64 fy1, .int .u64 (mj : Nat), .int .i64 kj] 28 (0, 0))) := Lib.hid ((hb9.block _ l_r).trans B_r.out)
          replace l_s : N_s < U41.heap.size := by omega
          replace l_f : N_f < U41.heap.size := by omega
          replace l_r : N_r < U41.heap.size := by omega
          replace hlow : w.heap.size ≤ U41.heap.size := by omega
          clear hb9 hs9
          have f0 : U41.cell? ⟨N_f, 0, none⟩ = some (.int .i64 fx1) := cell_blk (i := 0) B_f.out rfl
          have f1 : U41.cell? ⟨N_f, 1, none⟩ = some (.int .i64 fy1) := cell_blk (i := 1) B_f.out rfl
          have f2 : U41.cell? ⟨N_f, 2, none⟩ = some (.int .u64 (fm1 : Nat)) := cell_blk (i := 2) B_f.out rfl
          have f3 : U41.cell? ⟨N_f, 3, none⟩ = some (.int .i64 fk1) := cell_blk (i := 3) B_f.out rfl
          have l_f_0 : N_f < U41.heap.size + 1 := by omega
          have l_f_1 : N_f < U41.heap.size + 1 + 1 := by omega
          have r0 : U41.cell? ⟨N_r, 0, none⟩ = some (.int .i64 fx1) := cell_blk (i := 0) B_r.out rfl
          have r1 : U41.cell? ⟨N_r, 1, none⟩ = some (.int .i64 fy1) := cell_blk (i := 1) B_r.out rfl
          have r2 : U41.cell? ⟨N_r, 2, none⟩ = some (.int .u64 (mj : Nat)) := cell_blk (i := 2) B_r.out rfl
          have r3 : U41.cell? ⟨N_r, 3, none⟩ = some (.int .i64 kj) := cell_blk (i := 3) B_r.out rfl
          have l_r_0 : N_r < U41.heap.size + 1 := by omega
          have l_r_1 : N_r < U41.heap.size + 1 + 1 := by omega
          go_wp2
          go_ret
          exact ⟨rfl, (HBel.out.alloc hlow _).alloc (by simp <;> omega) _⟩
        · have te : ((j : Int) == 16) = false := by simp; omega
          have hE := hE7 h16
          subst hE
          clear hE7 hc0 hfl h0 h16
          have s0 : wr.cell? ⟨N_s, 0, none⟩ = some (.int .i64 (g : Int)) := cell_blk (i := 0) B_s.out rfl
          have s1 : wr.cell? ⟨N_s, 1, none⟩ = some (.int .i64 (c : Int)) := cell_blk (i := 1) B_s.out rfl
          have s2 : wr.cell? ⟨N_s, 2, none⟩ = some (.int .i64 mn0) := cell_blk (i := 2) B_s.out rfl
          have s3 : wr.cell? ⟨N_s, 3, none⟩ = some (.int .i64 mx0) := cell_blk (i := 3) B_s.out rfl
          have f0 : wr.cell? ⟨N_f, 0, none⟩ = some (.int .i64 fx1) := cell_blk (i := 0) B_f.out rfl
          have f1 : wr.cell? ⟨N_f, 1, none⟩ = some (.int .i64 fy1) := cell_blk (i := 1) B_f.out rfl
          have f2 : wr.cell? ⟨N_f, 2, none⟩ = some (.int .u64 (fm1 : Nat)) := cell_blk (i := 2) B_f.out rfl
          have f3 : wr.cell? ⟨N_f, 3, none⟩ = some (.int .i64 fk1) := cell_blk (i := 3) B_f.out rfl
          have r0 : wr.cell? ⟨N_r, 0, none⟩ = some (.int .i64 fx1) := cell_blk (i := 0) B_r.out rfl
          have r1 : wr.cell? ⟨N_r, 1, none⟩ = some (.int .i64 fy1) := cell_blk (i := 1) B_r.out rfl
          have r2 : wr.cell? ⟨N_r, 2, none⟩ = some (.int .u64 (mj : Nat)) := cell_blk (i := 2) B_r.out rfl
          have r3 : wr.cell? ⟨N_r, 3, none⟩ = some (.int .i64 kj) := cell_blk (i := 3) B_r.out rfl
          go_wp2_with fail
          refine (hP.out _ HBel.out).mono ?_
          rintro e U41 ⟨rfl, hb9⟩
          clear s0 s1 s2 s3 f0 f1 f2 f3 r0 r1 r2 r3
          have hs9 := hb9.size
          replace HBel := Lib.hid (HBel.out.trans (hb9.mono hlow))
          replace B_s : Hid (U41.heap[N_s]? = some (.cells #[.int .i64 (g : Int), .int .i64 (c : Int), .int .i64 mn0, .int .i64 mx0] 23 (0, 0))) := Lib.hid ((hb9.block _ l_s).trans B_s.out)
          replace B_f : Hid (U41.heap[N_f]? = some (.cells #[.int .i64 fx1, .int .i64 fy1, .int .u64 (fm1 : Nat), .int .i64 fk1] 28 (0, 0))) := Lib.hid ((hb9.block _ l_f).trans B_f.out)
          replace B_r : Hid (U41.heap[N_r]? = some (.cells #[.int .i64 fx1, .int .i64 fy1, .int .u64 (mj : Nat), .int .i64 kj] 28 (0, 0))) := Lib.hid ((hb9.block _ l_r).trans B_r.out)
          replace l_s : N_s < U41.heap.size := by omega
          replace l_f : N_f < U41.heap.size := by omega
          replace l_r : N_r < U41.heap.size := by omega
          replace hlow : w.heap.size ≤ U41.heap.size := by omega
          clear hb9 hs9
          have f0 : U41.cell? ⟨N_f, 0, none⟩ = some (.int .i64 fx1) := cell_blk (i := 0) B_f.out rfl
          have f1 : U41.cell? ⟨N_f, 1, none⟩ = some (.int .i64 fy1) := cell_blk (i := 1) B_f.out rfl
          have f2 : U41.cell? ⟨N_f, 2, none⟩ = some (.int .u64 (fm1 : Nat)) := cell_blk (i := 2) B_f.out rfl
          have f3 : U41.cell? ⟨N_f, 3, none⟩ = some (.int .i64 fk1) := cell_blk (i := 3) B_f.out rfl
          have l_f_0 : N_f < U41.heap.size + 1 := by omega
          have l_f_1 : N_f < U41.heap.size + 1 + 1 := by omega
          have r0 : U41.cell? ⟨N_r, 0, none⟩ = some (.int .i64 fx1) := cell_blk (i := 0) B_r.out rfl
          have r1 : U41.cell? ⟨N_r, 1, none⟩ = some (.int .i64 fy1) := cell_blk (i := 1) B_r.out rfl
          have r2 : U41.cell? ⟨N_r, 2, none⟩ = some (.int .u64 (mj : Nat)) := cell_blk (i := 2) B_r.out rfl
          have r3 : U41.cell? ⟨N_r, 3, none⟩ = some (.int .i64 kj) := cell_blk (i := 3) B_r.out rfl
          have l_r_0 : N_r < U41.heap.size + 1 := by omega
          have l_r_1 : N_r < U41.heap.size + 1 + 1 := by omega
          go_wp2
          go_ret
          exact ⟨rfl, (HBel.out.alloc hlow _).alloc (by simp <;> omega) _⟩

set_option maxRecDepth 100000 in
set_option maxHeartbeats 1000000 in
theorem lifted (os : Os) (started : os.Started) (H : Type) (enc : TypeId × Value → H) :
    ReturnsInHanded {} Tryd.checked os 4 .any (fun w args => (Rows.shapeCutsSpec.pre enc Tryd.prog Tryd.f4 [] false w args ∧ laidMetH Tryd.prog laid1 w) ∧ sizedMet enc Tryd.prog Tryd.f4 (OpenSpec.ofChange Rows.shapeCutsSpec) false w args)
      (Rows.shapeCutsSpec.post enc Tryd.prog Tryd.f4 false true false false) := by
  refine returnsInHanded_of_change_and (C := Tryd.checked) (X := fun w _ => laidMetH Tryd.prog laid1 w) (fun _ _ _ hh h => h.of_heap hh) own started (by kernel_rfl) Tryd.func4
    (ChangeSpec.witness_shaped (enc := enc) (C := Tryd.checked) (os := os) (X := fun w _ => laidMetH Tryd.prog laid1 w) false (World.doorLaid Tryd.prog 400 os) #[.agg #[.int .i64 0, .int .i64 0, .int .i64 0, .int .i64 0], .agg #[.int .i64 0, .int .i64 0, .int .u64 0, .int .i64 0]] 8 rfl (World.shaped_of_RefB (by kernel_rfl) (by kernel_rfl)) (by kernel_rfl) (by kernel_rfl) (by kernel_rfl) (door_met os _)) ?_
  intro W base args ds gs before hval0 hW _ _ hL _
  have hval : ∀ (j : Nat) t v, Tryd.f4.params[j]? = some t → args[j]? = some v → Value.okWide Tryd.prog W .any base t v := hval0
  have hW' := hW
  obtain ⟨p, q, hA0, hV, rfl, hfz, hnd⟩ := hW
  have hA : DataW.TrodAll enc Tryd.prog W 0 (fun _ => true) true Tryd.f4.params.toList args.toList ds p := hA0
  rw [Tryd.params4] at hA hval
  obtain ⟨v0, vs0, d0, ds0, p0, q0, hargs, rfl, rfl, h0, r0⟩ := trodAll_cons hA
  obtain ⟨v1, vs1, d1, ds1, p1, q1, rfl, rfl, rfl, h1, r1⟩ := trodAll_cons r0
  obtain ⟨rfl, rfl, rfl⟩ := trodAll_nil r1
  obtain rfl : args = #[v0, v1] := by cases args; simp_all
  obtain ⟨rfl, rfl⟩ := trodVars_none hV
  have k0 := h0
  have lt0 : ∀ x ∈ p0, x.block < W.heap.size := by obtain ⟨m, hm⟩ := k0; exact DataW.trod_lt m _ _ _ hm
  obtain ⟨g0, c0, mn0, mx0, rfl, w0⟩ := shape_of (hval 0 23 v0 rfl rfl) h0
  have k1 := h1
  have lt1 : ∀ x ∈ p1, x.block < W.heap.size := by obtain ⟨m, hm⟩ := k1; exact DataW.trod_lt m _ _ _ hm
  obtain ⟨fx1, fy1, fm1, fk1, rfl, wm1, wk1⟩ := free_of (hval 1 28 v1 rfl rfl) h1
  have hT := of_laid hL
  clear hL
  clear hA0 hval0
  refine (walk g0 c0 mn0 mx0 fx1 fy1 fm1 fk1 W w0 wm1 wk1 hT).mono fun e W' ⟨he, bel⟩ => ?_
  subst he
  exact ⟨_, rfl, _, _, _, [], _, [], hW', trodAll_mk1 (shut_bool Tryd.underlying4 _), (trodAll_cons_mk (Below.trod laidOut (by kernel_rfl) (of_decide_eq_true (by kernel_rfl)) k0 bel lt0) (trodAll_cons_mk (Below.trod laidOut (by kernel_rfl) (of_decide_eq_true (by kernel_rfl)) k1 bel lt1) trodAll_mk0)), rfl, bel.frame _, fun h => by cases h⟩

/-- THE ROW. -/
theorem row_holds : Rows.ShapeCutsSaid :=
  OpenClaim.holds_of_wide 4 Tryd.f4 rfl rfl rfl rfl rfl rfl rfl ⟨rfl, rfl, rfl, rfl, rfl⟩ rfl rfl rfl rfl rfl (by kernel_rfl) Tryd.func4 (by kernel_rfl)
    (of_decide_eq_true (by kernel_rfl)) (by unfold Func.isWrapper; first | (rw [if_pos (by decide +kernel)]; kernel_rfl) | (rw [if_neg (by decide +kernel)]; exact ⟨rfl, rfl⟩))
    (fun os started H enc _ => lifted os started H enc)

/-- THE STATEMENT. -/
theorem card_holds : Rows.ShapeCutsCardSaid :=
  Claim7.holds_tied_plain_at .later [] [.data] true (true, Rows.shapeCutsCard.stood.harness.2) false
    row_holds (fun _ h => by cases h) (by kernel_rfl) (fun _ h => by cases h) shapeCuts_row_tie rfl ⟨rfl, rfl⟩ (by kernel_rfl) rfl
    (fun f fn hf hfn => by
      obtain rfl : f = 4 := Option.some.inj ((show Tryd.prog.funcNamed Rows.shapeCutsRow.func = some 4 by kernel_rfl).symm.trans hf) |>.symm
      obtain rfl : fn = Tryd.f4 := (Option.some.inj (Tryd.func4.symm.trans hfn)).symm
      exact ⟨by kernel_rfl, fun j t ht => by
        rw [Tryd.params4] at ht
        have hm : t ∈ [23, 28] := by simpa using Array.mem_of_getElem? ht
        have hall : ([23, 28].all fun u => !Tryd.prog.wantsStandIn u) = true := by kernel_rfl
        exact (show Tryd.prog.wantsStandIn t = false by simpa using List.all_eq_true.1 hall t hm)⟩)
    (by kernel_rfl)
end Go.Proofs.YtjenokegpbhciaaDoor.shapeCuts
