/- Into more no fewer members fit; of larger members no more do: the law ShapeGrows answers true, at every input. The library's table of lowest units is as the program's text lays it (tied). -/
import Derived.Test.YtjenokegpbhciaaDoorShapeMore
import Derived.SevenTiedAt
import Derived.Test.YtjenokegpbhciaaDoorTie
import Derived.Test.YtjenokegpbhciaaDoorCards
set_option linter.unusedVariables false
namespace Go.Proofs.YtjenokegpbhciaaDoor.shapeGrows
open Go Go.ChangeShapes Go.WideShapes Go.ChangeAt Go.RowKit
set_option maxRecDepth 100000 in
set_option maxHeartbeats 4000000 in
theorem walk (g0 c0 mn0 mx0 : Int) (fx1 fy1 : Int) (fm1 : Nat) (fk1 : Int) (a2 a3 a4 : Int) (w : World) (w0 : Shp.Wf ⟨g0, c0, mn0, mx0⟩) (wm1 : fm1 < 18446744073709551616) (wk1 : (Lit.int .i64 fk1).wf = true) (w2 : (Lit.int .u64 a2).wf = true) (w3 : (Lit.int .u8 a3).wf = true) (w4 : (Lit.int .u8 a4).wf = true) (hT : Tab w) :
    Calls Tryd.prog 5 #[.agg #[.int .i64 g0, .int .i64 c0, .int .i64 mn0, .int .i64 mx0], .agg #[.int .i64 fx1, .int .i64 fy1, .int .u64 (fm1 : Nat), .int .i64 fk1], .int .u64 a2, .int .u8 a3, .int .u8 a4] w fun e w' => e = .returned (.bool true) ∧ Below w.heap.size w w' := by
  have HT := Lib.hid hT
  have hAw := Lib.hid (fun W (hT : Tab W) => awake_any W hT)
  cases hok : Shp.ok ⟨g0, c0, mn0, mx0⟩
  · have hC := Lib.hid (fun W => check_no g0 c0 mn0 mx0 W w0 hok)
    clear hok w0 w2 w3 w4 wm1 wk1 hT
    have HBel := Lib.hid (Below.refl w.heap.size w)
    have hlow : w.heap.size ≤ w.heap.size := Nat.le_refl _
    go_enter Tryd.func5, Tryd.ntmps5
    go_wp2_with fail
    obtain ⟨V1, hV1⟩ : ∃ W, W = (w.alloc (.cells #[.int .i64 g0, .int .i64 c0, .int .i64 mn0, .int .i64 mx0] 23)).alloc (.cells #[.int .i64 fx1, .int .i64 fy1, .int .u64 (fm1 : Nat), .int .i64 fk1] 28) := ⟨_, rfl⟩
    rw [← hV1]
    have hzV1 : V1.heap.size = w.heap.size + 1 + 1 := by rw [hV1]; simp
    replace HBel : Hid (Below w.heap.size w V1) := Lib.hid (by rw [hV1]; exact ((HBel.out.alloc (hlow) _).alloc (by simp <;> omega) _))
    have B_s : Hid (V1.heap[w.heap.size]? = some (.cells #[.int .i64 g0, .int .i64 c0, .int .i64 mn0, .int .i64 mx0] 23 (0, 0))) := Lib.hid (by
      have h9 := heap_alloc_new (w) (.cells #[.int .i64 g0, .int .i64 c0, .int .i64 mn0, .int .i64 mx0] 23)
      rw [hV1]; exact ((Below.heap_alloc _ _ _ (by simp <;> omega)).trans h9))
    have B_f : Hid (V1.heap[w.heap.size + 1]? = some (.cells #[.int .i64 fx1, .int .i64 fy1, .int .u64 (fm1 : Nat), .int .i64 fk1] 28 (0, 0))) := Lib.hid (by
      have h9 := heap_alloc_new (w.alloc (.cells #[.int .i64 g0, .int .i64 c0, .int .i64 mn0, .int .i64 mx0] 23)) (.cells #[.int .i64 fx1, .int .i64 fy1, .int .u64 (fm1 : Nat), .int .i64 fk1] 28)
      rw [World.size_alloc] at h9
      rw [hV1]; exact h9)
    obtain ⟨N_s, hN_s⟩ : ∃ N, N = w.heap.size := ⟨_, rfl⟩
    obtain ⟨N_f, hN_f⟩ : ∃ N, N = w.heap.size + 1 := ⟨_, rfl⟩
    (try rw [← hN_f])
    rw [← hN_f] at B_f
    (try rw [← hN_s])
    rw [← hN_s] at B_s
    have l_s : N_s < V1.heap.size := by omega
    have l_f : N_f < V1.heap.size := by omega
    have g_s : w.heap.size ≤ N_s := by omega
    have g_f : w.heap.size ≤ N_f := by omega
    have d_s_f : N_s < N_f := by omega
    replace hlow : w.heap.size ≤ V1.heap.size := by omega
    clear hV1 hzV1 hN_s hN_f
    refine (hAw.out V1 (HT.out.below HBel.out HT.out.size)).mono ?_
    rintro e U2 ⟨rfl, hb9⟩
    have hs9 := hb9.size
    replace HBel := Lib.hid (HBel.out.trans (hb9.mono hlow))
    replace B_s : Hid (U2.heap[N_s]? = some (.cells #[.int .i64 g0, .int .i64 c0, .int .i64 mn0, .int .i64 mx0] 23 (0, 0))) := Lib.hid ((hb9.block _ l_s).trans B_s.out)
    replace B_f : Hid (U2.heap[N_f]? = some (.cells #[.int .i64 fx1, .int .i64 fy1, .int .u64 (fm1 : Nat), .int .i64 fk1] 28 (0, 0))) := Lib.hid ((hb9.block _ l_f).trans B_f.out)
    replace l_s : N_s < U2.heap.size := by omega
    replace l_f : N_f < U2.heap.size := by omega
    replace hlow : w.heap.size ≤ U2.heap.size := by omega
    clear hb9 hs9
    have s0 : U2.cell? ⟨N_s, 0, none⟩ = some (.int .i64 g0) := cell_blk (i := 0) B_s.out rfl
    have s1 : U2.cell? ⟨N_s, 1, none⟩ = some (.int .i64 c0) := cell_blk (i := 1) B_s.out rfl
    have s2 : U2.cell? ⟨N_s, 2, none⟩ = some (.int .i64 mn0) := cell_blk (i := 2) B_s.out rfl
    have s3 : U2.cell? ⟨N_s, 3, none⟩ = some (.int .i64 mx0) := cell_blk (i := 3) B_s.out rfl
    go_wp2_with fail
    refine (hC.out _).mono ?_
    rintro e U3 ⟨rfl, hb9⟩
    clear s0 s1 s2 s3
    have hs9 := hb9.size
    replace HBel := Lib.hid (HBel.out.trans (hb9.mono hlow))
    replace B_s : Hid (U3.heap[N_s]? = some (.cells #[.int .i64 g0, .int .i64 c0, .int .i64 mn0, .int .i64 mx0] 23 (0, 0))) := Lib.hid ((hb9.block _ l_s).trans B_s.out)
    replace B_f : Hid (U3.heap[N_f]? = some (.cells #[.int .i64 fx1, .int .i64 fy1, .int .u64 (fm1 : Nat), .int .i64 fk1] 28 (0, 0))) := Lib.hid ((hb9.block _ l_f).trans B_f.out)
    replace l_s : N_s < U3.heap.size := by omega
    replace l_f : N_f < U3.heap.size := by omega
    replace hlow : w.heap.size ≤ U3.heap.size := by omega
    clear hb9 hs9
    go_wp2
    go_ret
    exact ⟨rfl, HBel.out⟩
  obtain ⟨g, c, rfl, rfl, hg16, hc16, hgc⟩ := Shp.nat hok
  obtain ⟨d1, d2⟩ := bounds_i64 wk1
  have hC := Lib.hid (fun W => check_ok g c mn0 mx0 W w0 hok)
  by_cases hbig : 1099511627776 < fk1
  · have tb : decide (1099511627776 < fk1) = true := decide_eq_true hbig
    clear hok w0 w2 w3 w4 wm1 wk1 hT hbig
    have HBel := Lib.hid (Below.refl w.heap.size w)
    have hlow : w.heap.size ≤ w.heap.size := Nat.le_refl _
    go_enter Tryd.func5, Tryd.ntmps5
    go_wp2_with fail
    obtain ⟨V1, hV1⟩ : ∃ W, W = (w.alloc (.cells #[.int .i64 (g : Int), .int .i64 (c : Int), .int .i64 mn0, .int .i64 mx0] 23)).alloc (.cells #[.int .i64 fx1, .int .i64 fy1, .int .u64 (fm1 : Nat), .int .i64 fk1] 28) := ⟨_, rfl⟩
    rw [← hV1]
    have hzV1 : V1.heap.size = w.heap.size + 1 + 1 := by rw [hV1]; simp
    replace HBel : Hid (Below w.heap.size w V1) := Lib.hid (by rw [hV1]; exact ((HBel.out.alloc (hlow) _).alloc (by simp <;> omega) _))
    have B_s : Hid (V1.heap[w.heap.size]? = some (.cells #[.int .i64 (g : Int), .int .i64 (c : Int), .int .i64 mn0, .int .i64 mx0] 23 (0, 0))) := Lib.hid (by
      have h9 := heap_alloc_new (w) (.cells #[.int .i64 (g : Int), .int .i64 (c : Int), .int .i64 mn0, .int .i64 mx0] 23)
      rw [hV1]; exact ((Below.heap_alloc _ _ _ (by simp <;> omega)).trans h9))
    have B_f : Hid (V1.heap[w.heap.size + 1]? = some (.cells #[.int .i64 fx1, .int .i64 fy1, .int .u64 (fm1 : Nat), .int .i64 fk1] 28 (0, 0))) := Lib.hid (by
      have h9 := heap_alloc_new (w.alloc (.cells #[.int .i64 (g : Int), .int .i64 (c : Int), .int .i64 mn0, .int .i64 mx0] 23)) (.cells #[.int .i64 fx1, .int .i64 fy1, .int .u64 (fm1 : Nat), .int .i64 fk1] 28)
      rw [World.size_alloc] at h9
      rw [hV1]; exact h9)
    obtain ⟨N_s, hN_s⟩ : ∃ N, N = w.heap.size := ⟨_, rfl⟩
    obtain ⟨N_f, hN_f⟩ : ∃ N, N = w.heap.size + 1 := ⟨_, rfl⟩
    (try rw [← hN_f])
    rw [← hN_f] at B_f
    (try rw [← hN_s])
    rw [← hN_s] at B_s
    have l_s : N_s < V1.heap.size := by omega
    have l_f : N_f < V1.heap.size := by omega
    have g_s : w.heap.size ≤ N_s := by omega
    have g_f : w.heap.size ≤ N_f := by omega
    have d_s_f : N_s < N_f := by omega
    replace hlow : w.heap.size ≤ V1.heap.size := by omega
    clear hV1 hzV1 hN_s hN_f
    refine (hAw.out V1 (HT.out.below HBel.out HT.out.size)).mono ?_
    rintro e U2 ⟨rfl, hb9⟩
    have hs9 := hb9.size
    replace HBel := Lib.hid (HBel.out.trans (hb9.mono hlow))
    replace B_s : Hid (U2.heap[N_s]? = some (.cells #[.int .i64 (g : Int), .int .i64 (c : Int), .int .i64 mn0, .int .i64 mx0] 23 (0, 0))) := Lib.hid ((hb9.block _ l_s).trans B_s.out)
    replace B_f : Hid (U2.heap[N_f]? = some (.cells #[.int .i64 fx1, .int .i64 fy1, .int .u64 (fm1 : Nat), .int .i64 fk1] 28 (0, 0))) := Lib.hid ((hb9.block _ l_f).trans B_f.out)
    replace l_s : N_s < U2.heap.size := by omega
    replace l_f : N_f < U2.heap.size := by omega
    replace hlow : w.heap.size ≤ U2.heap.size := by omega
    clear hb9 hs9
    have s0 : U2.cell? ⟨N_s, 0, none⟩ = some (.int .i64 (g : Int)) := cell_blk (i := 0) B_s.out rfl
    have s1 : U2.cell? ⟨N_s, 1, none⟩ = some (.int .i64 (c : Int)) := cell_blk (i := 1) B_s.out rfl
    have s2 : U2.cell? ⟨N_s, 2, none⟩ = some (.int .i64 mn0) := cell_blk (i := 2) B_s.out rfl
    have s3 : U2.cell? ⟨N_s, 3, none⟩ = some (.int .i64 mx0) := cell_blk (i := 3) B_s.out rfl
    go_wp2_with fail
    refine (hC.out _).mono ?_
    rintro e U3 ⟨rfl, hb9⟩
    clear s0 s1 s2 s3
    have hs9 := hb9.size
    replace HBel := Lib.hid (HBel.out.trans (hb9.mono hlow))
    replace B_s : Hid (U3.heap[N_s]? = some (.cells #[.int .i64 (g : Int), .int .i64 (c : Int), .int .i64 mn0, .int .i64 mx0] 23 (0, 0))) := Lib.hid ((hb9.block _ l_s).trans B_s.out)
    replace B_f : Hid (U3.heap[N_f]? = some (.cells #[.int .i64 fx1, .int .i64 fy1, .int .u64 (fm1 : Nat), .int .i64 fk1] 28 (0, 0))) := Lib.hid ((hb9.block _ l_f).trans B_f.out)
    replace l_s : N_s < U3.heap.size := by omega
    replace l_f : N_f < U3.heap.size := by omega
    replace hlow : w.heap.size ≤ U3.heap.size := by omega
    clear hb9 hs9
    have f0 : U3.cell? ⟨N_f, 0, none⟩ = some (.int .i64 fx1) := cell_blk (i := 0) B_f.out rfl
    have f1 : U3.cell? ⟨N_f, 1, none⟩ = some (.int .i64 fy1) := cell_blk (i := 1) B_f.out rfl
    have f2 : U3.cell? ⟨N_f, 2, none⟩ = some (.int .u64 (fm1 : Nat)) := cell_blk (i := 2) B_f.out rfl
    have f3 : U3.cell? ⟨N_f, 3, none⟩ = some (.int .i64 fk1) := cell_blk (i := 3) B_f.out rfl
    go_wp2
    go_ret
    exact ⟨rfl, HBel.out⟩
  have tb : decide (1099511627776 < fk1) = false := decide_eq_false hbig
  have d3 : fk1 ≤ 1099511627776 := by omega
  obtain ⟨b1, b2⟩ := bounds_u64 w2
  obtain ⟨b3, b4⟩ := bounds_u8 w3
  obtain ⟨b5, b6⟩ := bounds_u8 w4
  obtain ⟨v, rfl⟩ : ∃ v : Nat, a2 = v := ⟨a2.toNat, by omega⟩
  obtain ⟨cu, rfl⟩ : ∃ v : Nat, a3 = v := ⟨a3.toNat, by omega⟩
  obtain ⟨by', rfl⟩ : ∃ v : Nat, a4 = v := ⟨a4.toNat, by omega⟩
  have hv : v < 18446744073709551616 := by omega
  obtain ⟨p, hp⟩ : ∃ p, by' % 4 = p := ⟨_, rfl⟩
  obtain ⟨q, hq⟩ : ∃ q, by' / 4 % 8 = q := ⟨_, rfl⟩
  have hp4 : p < 4 := by omega
  have hq8 : q < 8 := by omega
  have ep : (by' : Int) % 4 = (p : Int) := by omega
  have eq' : (by' : Int) / 4 % 8 = (q : Int) := by omega
  have hor := or_u64 fm1 v wm1 hv
  have hol := MM.or_lt wm1 hv
  have wgk : (Lit.int .i64 (fk1 + (cu : Int))).wf = true := Go.WalkArith.wf_i64 ⟨by omega, by omega⟩
  have hF1 := fits_tell g c mn0 mx0 fx1 fy1 fm1 fk1 w w0 hok wm1 wk1 hT
  have hF2 := fits_tell g c mn0 mx0 fx1 fy1 (fm1 ||| v) (fk1 + cu) w w0 hok hol wgk hT
  have hm1 : fitZ g c (MM.cnt fm1) fk1 ≤ fitZ g c (MM.cnt (fm1 ||| v)) (fk1 + cu) := fitZ_more (MM.cnt_or_le fm1 v) (by omega)
  have hm2 := fitZ_le g c (MM.cnt fm1) fk1
  have hm3 : fitZ (g + p) (c + q) (MM.cnt fm1) fk1 ≤ fitZ g c (MM.cnt fm1) fk1 := fitZ_larger (by omega) (by omega)
  obtain ⟨n1, hn1⟩ : ∃ n, n = fitZ g c (MM.cnt fm1) fk1 := ⟨_, rfl⟩
  obtain ⟨n2, hn2⟩ : ∃ n, n = fitZ g c (MM.cnt (fm1 ||| v)) (fk1 + cu) := ⟨_, rfl⟩
  obtain ⟨mo, hmo⟩ : ∃ n, n = fm1 ||| v := ⟨_, rfl⟩
  rw [← hn1] at hF1 hm1 hm2 hm3
  rw [← hn2] at hF2 hm1
  rw [← hmo] at hF2 hor
  have t1 : decide (n2 < n1) = false := decide_eq_false (by omega)
  have t2 : decide (16 < (n1 : Int)) = false := decide_eq_false (by omega)
  have HF1 := Lib.hid hF1
  have HF2 := Lib.hid hF2
  have wt : Shp.Wf ⟨((g + p : Nat) : Int), ((c + q : Nat) : Int), mn0, mx0⟩ := ⟨(Go.WalkArith.wf_i64 ⟨by omega, by omega⟩ : (Lit.int .i64 ((g + p : Nat) : Int)).wf = true), (Go.WalkArith.wf_i64 ⟨by omega, by omega⟩ : (Lit.int .i64 ((c + q : Nat) : Int)).wf = true), w0.mn, w0.mx⟩
  cases hokt : Shp.ok ⟨((g + p : Nat) : Int), ((c + q : Nat) : Int), mn0, mx0⟩
  · have hCt := fun W => check_no ((g + p : Nat) : Int) ((c + q : Nat) : Int) mn0 mx0 W wt hokt
    simp only [Int.natCast_add] at hCt
    replace hCt := Lib.hid hCt
    clear hok w0 w2 w3 w4 wm1 wk1 hT hbig hp hq hn1 hn2 hmo hF1 hF2 hm1 hm3 wgk hol hokt wt hgc
    have HBel := Lib.hid (Below.refl w.heap.size w)
    have hlow : w.heap.size ≤ w.heap.size := Nat.le_refl _
    go_enter Tryd.func5, Tryd.ntmps5
    go_wp2_with fail
    obtain ⟨V1, hV1⟩ : ∃ W, W = (w.alloc (.cells #[.int .i64 (g : Int), .int .i64 (c : Int), .int .i64 mn0, .int .i64 mx0] 23)).alloc (.cells #[.int .i64 fx1, .int .i64 fy1, .int .u64 (fm1 : Nat), .int .i64 fk1] 28) := ⟨_, rfl⟩
    rw [← hV1]
    have hzV1 : V1.heap.size = w.heap.size + 1 + 1 := by rw [hV1]; simp
    replace HBel : Hid (Below w.heap.size w V1) := Lib.hid (by rw [hV1]; exact ((HBel.out.alloc (hlow) _).alloc (by simp <;> omega) _))
    have B_s : Hid (V1.heap[w.heap.size]? = some (.cells #[.int .i64 (g : Int), .int .i64 (c : Int), .int .i64 mn0, .int .i64 mx0] 23 (0, 0))) := Lib.hid (by
      have h9 := heap_alloc_new (w) (.cells #[.int .i64 (g : Int), .int .i64 (c : Int), .int .i64 mn0, .int .i64 mx0] 23)
      rw [hV1]; exact ((Below.heap_alloc _ _ _ (by simp <;> omega)).trans h9))
    have B_f : Hid (V1.heap[w.heap.size + 1]? = some (.cells #[.int .i64 fx1, .int .i64 fy1, .int .u64 (fm1 : Nat), .int .i64 fk1] 28 (0, 0))) := Lib.hid (by
      have h9 := heap_alloc_new (w.alloc (.cells #[.int .i64 (g : Int), .int .i64 (c : Int), .int .i64 mn0, .int .i64 mx0] 23)) (.cells #[.int .i64 fx1, .int .i64 fy1, .int .u64 (fm1 : Nat), .int .i64 fk1] 28)
      rw [World.size_alloc] at h9
      rw [hV1]; exact h9)
    obtain ⟨N_s, hN_s⟩ : ∃ N, N = w.heap.size := ⟨_, rfl⟩
    obtain ⟨N_f, hN_f⟩ : ∃ N, N = w.heap.size + 1 := ⟨_, rfl⟩
    (try rw [← hN_f])
    rw [← hN_f] at B_f
    (try rw [← hN_s])
    rw [← hN_s] at B_s
    have l_s : N_s < V1.heap.size := by omega
    have l_f : N_f < V1.heap.size := by omega
    have g_s : w.heap.size ≤ N_s := by omega
    have g_f : w.heap.size ≤ N_f := by omega
    have d_s_f : N_s < N_f := by omega
    replace hlow : w.heap.size ≤ V1.heap.size := by omega
    clear hV1 hzV1 hN_s hN_f
    refine (hAw.out V1 (HT.out.below HBel.out HT.out.size)).mono ?_
    rintro e U2 ⟨rfl, hb9⟩
    have hs9 := hb9.size
    replace HBel := Lib.hid (HBel.out.trans (hb9.mono hlow))
    replace B_s : Hid (U2.heap[N_s]? = some (.cells #[.int .i64 (g : Int), .int .i64 (c : Int), .int .i64 mn0, .int .i64 mx0] 23 (0, 0))) := Lib.hid ((hb9.block _ l_s).trans B_s.out)
    replace B_f : Hid (U2.heap[N_f]? = some (.cells #[.int .i64 fx1, .int .i64 fy1, .int .u64 (fm1 : Nat), .int .i64 fk1] 28 (0, 0))) := Lib.hid ((hb9.block _ l_f).trans B_f.out)
    replace l_s : N_s < U2.heap.size := by omega
    replace l_f : N_f < U2.heap.size := by omega
    replace hlow : w.heap.size ≤ U2.heap.size := by omega
    clear hb9 hs9
    have s0 : U2.cell? ⟨N_s, 0, none⟩ = some (.int .i64 (g : Int)) := cell_blk (i := 0) B_s.out rfl
    have s1 : U2.cell? ⟨N_s, 1, none⟩ = some (.int .i64 (c : Int)) := cell_blk (i := 1) B_s.out rfl
    have s2 : U2.cell? ⟨N_s, 2, none⟩ = some (.int .i64 mn0) := cell_blk (i := 2) B_s.out rfl
    have s3 : U2.cell? ⟨N_s, 3, none⟩ = some (.int .i64 mx0) := cell_blk (i := 3) B_s.out rfl
    go_wp2_with fail
    refine (hC.out _).mono ?_
    rintro e U3 ⟨rfl, hb9⟩
    clear s0 s1 s2 s3
    have hs9 := hb9.size
    replace HBel := Lib.hid (HBel.out.trans (hb9.mono hlow))
    replace B_s : Hid (U3.heap[N_s]? = some (.cells #[.int .i64 (g : Int), .int .i64 (c : Int), .int .i64 mn0, .int .i64 mx0] 23 (0, 0))) := Lib.hid ((hb9.block _ l_s).trans B_s.out)
    replace B_f : Hid (U3.heap[N_f]? = some (.cells #[.int .i64 fx1, .int .i64 fy1, .int .u64 (fm1 : Nat), .int .i64 fk1] 28 (0, 0))) := Lib.hid ((hb9.block _ l_f).trans B_f.out)
    replace l_s : N_s < U3.heap.size := by omega
    replace l_f : N_f < U3.heap.size := by omega
    replace hlow : w.heap.size ≤ U3.heap.size := by omega
    clear hb9 hs9
    have s0 : U3.cell? ⟨N_s, 0, none⟩ = some (.int .i64 (g : Int)) := cell_blk (i := 0) B_s.out rfl
    have s1 : U3.cell? ⟨N_s, 1, none⟩ = some (.int .i64 (c : Int)) := cell_blk (i := 1) B_s.out rfl
    have s2 : U3.cell? ⟨N_s, 2, none⟩ = some (.int .i64 mn0) := cell_blk (i := 2) B_s.out rfl
    have s3 : U3.cell? ⟨N_s, 3, none⟩ = some (.int .i64 mx0) := cell_blk (i := 3) B_s.out rfl
    have l_s_0 : N_s < U3.heap.size + 1 := by omega
    have f0 : U3.cell? ⟨N_f, 0, none⟩ = some (.int .i64 fx1) := cell_blk (i := 0) B_f.out rfl
    have f1 : U3.cell? ⟨N_f, 1, none⟩ = some (.int .i64 fy1) := cell_blk (i := 1) B_f.out rfl
    have f2 : U3.cell? ⟨N_f, 2, none⟩ = some (.int .u64 (fm1 : Nat)) := cell_blk (i := 2) B_f.out rfl
    have f3 : U3.cell? ⟨N_f, 3, none⟩ = some (.int .i64 fk1) := cell_blk (i := 3) B_f.out rfl
    have l_f_0 : N_f < U3.heap.size + 1 := by omega
    go_wp2_with fail
    clear s0 s1 s2 s3 l_s_0 f0 f1 f2 f3 l_f_0
    obtain ⟨V4, hV4⟩ : ∃ W, W = U3.alloc (.cells #[.int .i64 fx1, .int .i64 fy1, .int .u64 (mo : Nat), .int .i64 (fk1 + (cu : Int))] 28) := ⟨_, rfl⟩
    rw [← hV4]
    have hzV4 : V4.heap.size = U3.heap.size + 1 := by rw [hV4]; simp
    replace HBel : Hid (Below w.heap.size w V4) := Lib.hid (by rw [hV4]; exact (HBel.out.alloc (hlow) _))
    replace B_s : Hid (V4.heap[N_s]? = some (.cells #[.int .i64 (g : Int), .int .i64 (c : Int), .int .i64 mn0, .int .i64 mx0] 23 (0, 0))) := Lib.hid (by rw [hV4]; exact ((Below.heap_alloc _ _ _ (by first | omega | (simp <;> omega))).trans B_s.out))
    replace B_f : Hid (V4.heap[N_f]? = some (.cells #[.int .i64 fx1, .int .i64 fy1, .int .u64 (fm1 : Nat), .int .i64 fk1] 28 (0, 0))) := Lib.hid (by rw [hV4]; exact ((Below.heap_alloc _ _ _ (by first | omega | (simp <;> omega))).trans B_f.out))
    have B_h : Hid (V4.heap[U3.heap.size]? = some (.cells #[.int .i64 fx1, .int .i64 fy1, .int .u64 (mo : Nat), .int .i64 (fk1 + (cu : Int))] 28 (0, 0))) := Lib.hid (by
      have h9 := heap_alloc_new (U3) (.cells #[.int .i64 fx1, .int .i64 fy1, .int .u64 (mo : Nat), .int .i64 (fk1 + (cu : Int))] 28)
      rw [hV4]; exact h9)
    obtain ⟨N_h, hN_h⟩ : ∃ N, N = U3.heap.size := ⟨_, rfl⟩
    (try rw [← hN_h])
    rw [← hN_h] at B_h
    have d_s_h : N_s < N_h := by omega
    have d_f_h : N_f < N_h := by omega
    replace l_s : N_s < V4.heap.size := by omega
    replace l_f : N_f < V4.heap.size := by omega
    have l_h : N_h < V4.heap.size := by omega
    have g_h : w.heap.size ≤ N_h := by omega
    replace hlow : w.heap.size ≤ V4.heap.size := by omega
    clear hV4 hzV4 hN_h
    have s0 : V4.cell? ⟨N_s, 0, none⟩ = some (.int .i64 (g : Int)) := cell_blk (i := 0) B_s.out rfl
    have s1 : V4.cell? ⟨N_s, 1, none⟩ = some (.int .i64 (c : Int)) := cell_blk (i := 1) B_s.out rfl
    have s2 : V4.cell? ⟨N_s, 2, none⟩ = some (.int .i64 mn0) := cell_blk (i := 2) B_s.out rfl
    have s3 : V4.cell? ⟨N_s, 3, none⟩ = some (.int .i64 mx0) := cell_blk (i := 3) B_s.out rfl
    have f0 : V4.cell? ⟨N_f, 0, none⟩ = some (.int .i64 fx1) := cell_blk (i := 0) B_f.out rfl
    have f1 : V4.cell? ⟨N_f, 1, none⟩ = some (.int .i64 fy1) := cell_blk (i := 1) B_f.out rfl
    have f2 : V4.cell? ⟨N_f, 2, none⟩ = some (.int .u64 (fm1 : Nat)) := cell_blk (i := 2) B_f.out rfl
    have f3 : V4.cell? ⟨N_f, 3, none⟩ = some (.int .i64 fk1) := cell_blk (i := 3) B_f.out rfl
    have h0 : V4.cell? ⟨N_h, 0, none⟩ = some (.int .i64 fx1) := cell_blk (i := 0) B_h.out rfl
    have h1 : V4.cell? ⟨N_h, 1, none⟩ = some (.int .i64 fy1) := cell_blk (i := 1) B_h.out rfl
    have h2 : V4.cell? ⟨N_h, 2, none⟩ = some (.int .u64 (mo : Nat)) := cell_blk (i := 2) B_h.out rfl
    have h3 : V4.cell? ⟨N_h, 3, none⟩ = some (.int .i64 (fk1 + (cu : Int))) := cell_blk (i := 3) B_h.out rfl
    refine (HF1.out _ HBel.out).mono ?_
    rintro e U5 ⟨rfl, hb9⟩
    clear s0 s1 s2 s3 f0 f1 f2 f3 h0 h1 h2 h3
    have hs9 := hb9.size
    replace HBel := Lib.hid (HBel.out.trans (hb9.mono hlow))
    replace B_s : Hid (U5.heap[N_s]? = some (.cells #[.int .i64 (g : Int), .int .i64 (c : Int), .int .i64 mn0, .int .i64 mx0] 23 (0, 0))) := Lib.hid ((hb9.block _ l_s).trans B_s.out)
    replace B_f : Hid (U5.heap[N_f]? = some (.cells #[.int .i64 fx1, .int .i64 fy1, .int .u64 (fm1 : Nat), .int .i64 fk1] 28 (0, 0))) := Lib.hid ((hb9.block _ l_f).trans B_f.out)
    replace B_h : Hid (U5.heap[N_h]? = some (.cells #[.int .i64 fx1, .int .i64 fy1, .int .u64 (mo : Nat), .int .i64 (fk1 + (cu : Int))] 28 (0, 0))) := Lib.hid ((hb9.block _ l_h).trans B_h.out)
    replace l_s : N_s < U5.heap.size := by omega
    replace l_f : N_f < U5.heap.size := by omega
    replace l_h : N_h < U5.heap.size := by omega
    replace hlow : w.heap.size ≤ U5.heap.size := by omega
    clear hb9 hs9
    have s0 : U5.cell? ⟨N_s, 0, none⟩ = some (.int .i64 (g : Int)) := cell_blk (i := 0) B_s.out rfl
    have s1 : U5.cell? ⟨N_s, 1, none⟩ = some (.int .i64 (c : Int)) := cell_blk (i := 1) B_s.out rfl
    have s2 : U5.cell? ⟨N_s, 2, none⟩ = some (.int .i64 mn0) := cell_blk (i := 2) B_s.out rfl
    have s3 : U5.cell? ⟨N_s, 3, none⟩ = some (.int .i64 mx0) := cell_blk (i := 3) B_s.out rfl
    have f0 : U5.cell? ⟨N_f, 0, none⟩ = some (.int .i64 fx1) := cell_blk (i := 0) B_f.out rfl
    have f1 : U5.cell? ⟨N_f, 1, none⟩ = some (.int .i64 fy1) := cell_blk (i := 1) B_f.out rfl
    have f2 : U5.cell? ⟨N_f, 2, none⟩ = some (.int .u64 (fm1 : Nat)) := cell_blk (i := 2) B_f.out rfl
    have f3 : U5.cell? ⟨N_f, 3, none⟩ = some (.int .i64 fk1) := cell_blk (i := 3) B_f.out rfl
    have h0 : U5.cell? ⟨N_h, 0, none⟩ = some (.int .i64 fx1) := cell_blk (i := 0) B_h.out rfl
    have h1 : U5.cell? ⟨N_h, 1, none⟩ = some (.int .i64 fy1) := cell_blk (i := 1) B_h.out rfl
    have h2 : U5.cell? ⟨N_h, 2, none⟩ = some (.int .u64 (mo : Nat)) := cell_blk (i := 2) B_h.out rfl
    have h3 : U5.cell? ⟨N_h, 3, none⟩ = some (.int .i64 (fk1 + (cu : Int))) := cell_blk (i := 3) B_h.out rfl
    go_wp2_with fail
    refine (HF2.out _ HBel.out).mono ?_
    rintro e U6 ⟨rfl, hb9⟩
    clear s0 s1 s2 s3 f0 f1 f2 f3 h0 h1 h2 h3
    have hs9 := hb9.size
    replace HBel := Lib.hid (HBel.out.trans (hb9.mono hlow))
    replace B_s : Hid (U6.heap[N_s]? = some (.cells #[.int .i64 (g : Int), .int .i64 (c : Int), .int .i64 mn0, .int .i64 mx0] 23 (0, 0))) := Lib.hid ((hb9.block _ l_s).trans B_s.out)
    replace B_f : Hid (U6.heap[N_f]? = some (.cells #[.int .i64 fx1, .int .i64 fy1, .int .u64 (fm1 : Nat), .int .i64 fk1] 28 (0, 0))) := Lib.hid ((hb9.block _ l_f).trans B_f.out)
    replace B_h : Hid (U6.heap[N_h]? = some (.cells #[.int .i64 fx1, .int .i64 fy1, .int .u64 (mo : Nat), .int .i64 (fk1 + (cu : Int))] 28 (0, 0))) := Lib.hid ((hb9.block _ l_h).trans B_h.out)
    replace l_s : N_s < U6.heap.size := by omega
    replace l_f : N_f < U6.heap.size := by omega
    replace l_h : N_h < U6.heap.size := by omega
    replace hlow : w.heap.size ≤ U6.heap.size := by omega
    clear hb9 hs9
    have s0 : U6.cell? ⟨N_s, 0, none⟩ = some (.int .i64 (g : Int)) := cell_blk (i := 0) B_s.out rfl
    have s1 : U6.cell? ⟨N_s, 1, none⟩ = some (.int .i64 (c : Int)) := cell_blk (i := 1) B_s.out rfl
    have s2 : U6.cell? ⟨N_s, 2, none⟩ = some (.int .i64 mn0) := cell_blk (i := 2) B_s.out rfl
    have s3 : U6.cell? ⟨N_s, 3, none⟩ = some (.int .i64 mx0) := cell_blk (i := 3) B_s.out rfl
    have l_s_0 : N_s < U6.heap.size + 1 := by omega
    have f0 : U6.cell? ⟨N_f, 0, none⟩ = some (.int .i64 fx1) := cell_blk (i := 0) B_f.out rfl
    have f1 : U6.cell? ⟨N_f, 1, none⟩ = some (.int .i64 fy1) := cell_blk (i := 1) B_f.out rfl
    have f2 : U6.cell? ⟨N_f, 2, none⟩ = some (.int .u64 (fm1 : Nat)) := cell_blk (i := 2) B_f.out rfl
    have f3 : U6.cell? ⟨N_f, 3, none⟩ = some (.int .i64 fk1) := cell_blk (i := 3) B_f.out rfl
    have l_f_0 : N_f < U6.heap.size + 1 := by omega
    go_wp2_with fail
    clear s0 s1 s2 s3 l_s_0 f0 f1 f2 f3 l_f_0
    obtain ⟨V7, hV7⟩ : ∃ W, W = U6.alloc (.cells #[.int .i64 ((g : Int) + (p : Int)), .int .i64 ((c : Int) + (q : Int)), .int .i64 mn0, .int .i64 mx0] 23) := ⟨_, rfl⟩
    rw [← hV7]
    have hzV7 : V7.heap.size = U6.heap.size + 1 := by rw [hV7]; simp
    replace HBel : Hid (Below w.heap.size w V7) := Lib.hid (by rw [hV7]; exact (HBel.out.alloc (hlow) _))
    replace B_s : Hid (V7.heap[N_s]? = some (.cells #[.int .i64 (g : Int), .int .i64 (c : Int), .int .i64 mn0, .int .i64 mx0] 23 (0, 0))) := Lib.hid (by rw [hV7]; exact ((Below.heap_alloc _ _ _ (by first | omega | (simp <;> omega))).trans B_s.out))
    replace B_f : Hid (V7.heap[N_f]? = some (.cells #[.int .i64 fx1, .int .i64 fy1, .int .u64 (fm1 : Nat), .int .i64 fk1] 28 (0, 0))) := Lib.hid (by rw [hV7]; exact ((Below.heap_alloc _ _ _ (by first | omega | (simp <;> omega))).trans B_f.out))
    replace B_h : Hid (V7.heap[N_h]? = some (.cells #[.int .i64 fx1, .int .i64 fy1, .int .u64 (mo : Nat), .int .i64 (fk1 + (cu : Int))] 28 (0, 0))) := Lib.hid (by rw [hV7]; exact ((Below.heap_alloc _ _ _ (by first | omega | (simp <;> omega))).trans B_h.out))
    have B_t : Hid (V7.heap[U6.heap.size]? = some (.cells #[.int .i64 ((g : Int) + (p : Int)), .int .i64 ((c : Int) + (q : Int)), .int .i64 mn0, .int .i64 mx0] 23 (0, 0))) := Lib.hid (by
      have h9 := heap_alloc_new (U6) (.cells #[.int .i64 ((g : Int) + (p : Int)), .int .i64 ((c : Int) + (q : Int)), .int .i64 mn0, .int .i64 mx0] 23)
      rw [hV7]; exact h9)
    obtain ⟨N_t, hN_t⟩ : ∃ N, N = U6.heap.size := ⟨_, rfl⟩
    (try rw [← hN_t])
    rw [← hN_t] at B_t
    have d_s_t : N_s < N_t := by omega
    have d_f_t : N_f < N_t := by omega
    have d_h_t : N_h < N_t := by omega
    replace l_s : N_s < V7.heap.size := by omega
    replace l_f : N_f < V7.heap.size := by omega
    replace l_h : N_h < V7.heap.size := by omega
    have l_t : N_t < V7.heap.size := by omega
    have g_t : w.heap.size ≤ N_t := by omega
    replace hlow : w.heap.size ≤ V7.heap.size := by omega
    clear hV7 hzV7 hN_t
    have s0 : V7.cell? ⟨N_s, 0, none⟩ = some (.int .i64 (g : Int)) := cell_blk (i := 0) B_s.out rfl
    have s1 : V7.cell? ⟨N_s, 1, none⟩ = some (.int .i64 (c : Int)) := cell_blk (i := 1) B_s.out rfl
    have s2 : V7.cell? ⟨N_s, 2, none⟩ = some (.int .i64 mn0) := cell_blk (i := 2) B_s.out rfl
    have s3 : V7.cell? ⟨N_s, 3, none⟩ = some (.int .i64 mx0) := cell_blk (i := 3) B_s.out rfl
    have f0 : V7.cell? ⟨N_f, 0, none⟩ = some (.int .i64 fx1) := cell_blk (i := 0) B_f.out rfl
    have f1 : V7.cell? ⟨N_f, 1, none⟩ = some (.int .i64 fy1) := cell_blk (i := 1) B_f.out rfl
    have f2 : V7.cell? ⟨N_f, 2, none⟩ = some (.int .u64 (fm1 : Nat)) := cell_blk (i := 2) B_f.out rfl
    have f3 : V7.cell? ⟨N_f, 3, none⟩ = some (.int .i64 fk1) := cell_blk (i := 3) B_f.out rfl
    have t0 : V7.cell? ⟨N_t, 0, none⟩ = some (.int .i64 ((g : Int) + (p : Int))) := cell_blk (i := 0) B_t.out rfl
    have t1 : V7.cell? ⟨N_t, 1, none⟩ = some (.int .i64 ((c : Int) + (q : Int))) := cell_blk (i := 1) B_t.out rfl
    have t2 : V7.cell? ⟨N_t, 2, none⟩ = some (.int .i64 mn0) := cell_blk (i := 2) B_t.out rfl
    have t3 : V7.cell? ⟨N_t, 3, none⟩ = some (.int .i64 mx0) := cell_blk (i := 3) B_t.out rfl
    refine (hCt.out _).mono ?_
    rintro e U8 ⟨rfl, hb9⟩
    clear s0 s1 s2 s3 f0 f1 f2 f3 t0 t1 t2 t3
    have hs9 := hb9.size
    replace HBel := Lib.hid (HBel.out.trans (hb9.mono hlow))
    replace B_s : Hid (U8.heap[N_s]? = some (.cells #[.int .i64 (g : Int), .int .i64 (c : Int), .int .i64 mn0, .int .i64 mx0] 23 (0, 0))) := Lib.hid ((hb9.block _ l_s).trans B_s.out)
    replace B_f : Hid (U8.heap[N_f]? = some (.cells #[.int .i64 fx1, .int .i64 fy1, .int .u64 (fm1 : Nat), .int .i64 fk1] 28 (0, 0))) := Lib.hid ((hb9.block _ l_f).trans B_f.out)
    replace B_h : Hid (U8.heap[N_h]? = some (.cells #[.int .i64 fx1, .int .i64 fy1, .int .u64 (mo : Nat), .int .i64 (fk1 + (cu : Int))] 28 (0, 0))) := Lib.hid ((hb9.block _ l_h).trans B_h.out)
    replace B_t : Hid (U8.heap[N_t]? = some (.cells #[.int .i64 ((g : Int) + (p : Int)), .int .i64 ((c : Int) + (q : Int)), .int .i64 mn0, .int .i64 mx0] 23 (0, 0))) := Lib.hid ((hb9.block _ l_t).trans B_t.out)
    replace l_s : N_s < U8.heap.size := by omega
    replace l_f : N_f < U8.heap.size := by omega
    replace l_h : N_h < U8.heap.size := by omega
    replace l_t : N_t < U8.heap.size := by omega
    replace hlow : w.heap.size ≤ U8.heap.size := by omega
    clear hb9 hs9
    go_wp2
    go_ret
    exact ⟨rfl, HBel.out⟩
  · have hCt := fun W => check_ok ((g + p : Nat) : Int) ((c + q : Nat) : Int) mn0 mx0 W wt hokt
    have hF3 := fits_tell (g + p) (c + q) mn0 mx0 fx1 fy1 fm1 fk1 w wt hokt wm1 wk1 hT
    obtain ⟨n3, hn3⟩ : ∃ n, n = fitZ (g + p) (c + q) (MM.cnt fm1) fk1 := ⟨_, rfl⟩
    rw [← hn3] at hF3 hm3
    simp only [TellsFits, Int.natCast_add] at hCt hF3
    replace hCt := Lib.hid hCt
    have HF3 := Lib.hid hF3
    have t3 : decide (n3 ≤ n1) = true := decide_eq_true hm3
    clear hF3 hn3
    clear hok w0 w2 w3 w4 wm1 wk1 hT hbig hp hq hn1 hn2 hmo hF1 hF2 hm1 hm3 wgk hol hokt wt hgc
    have HBel := Lib.hid (Below.refl w.heap.size w)
    have hlow : w.heap.size ≤ w.heap.size := Nat.le_refl _
    go_enter Tryd.func5, Tryd.ntmps5
    go_wp2_with fail
    obtain ⟨V1, hV1⟩ : ∃ W, W = (w.alloc (.cells #[.int .i64 (g : Int), .int .i64 (c : Int), .int .i64 mn0, .int .i64 mx0] 23)).alloc (.cells #[.int .i64 fx1, .int .i64 fy1, .int .u64 (fm1 : Nat), .int .i64 fk1] 28) := ⟨_, rfl⟩
    rw [← hV1]
    have hzV1 : V1.heap.size = w.heap.size + 1 + 1 := by rw [hV1]; simp
    replace HBel : Hid (Below w.heap.size w V1) := Lib.hid (by rw [hV1]; exact ((HBel.out.alloc (hlow) _).alloc (by simp <;> omega) _))
    have B_s : Hid (V1.heap[w.heap.size]? = some (.cells #[.int .i64 (g : Int), .int .i64 (c : Int), .int .i64 mn0, .int .i64 mx0] 23 (0, 0))) := Lib.hid (by
      have h9 := heap_alloc_new (w) (.cells #[.int .i64 (g : Int), .int .i64 (c : Int), .int .i64 mn0, .int .i64 mx0] 23)
      rw [hV1]; exact ((Below.heap_alloc _ _ _ (by simp <;> omega)).trans h9))
    have B_f : Hid (V1.heap[w.heap.size + 1]? = some (.cells #[.int .i64 fx1, .int .i64 fy1, .int .u64 (fm1 : Nat), .int .i64 fk1] 28 (0, 0))) := Lib.hid (by
      have h9 := heap_alloc_new (w.alloc (.cells #[.int .i64 (g : Int), .int .i64 (c : Int), .int .i64 mn0, .int .i64 mx0] 23)) (.cells #[.int .i64 fx1, .int .i64 fy1, .int .u64 (fm1 : Nat), .int .i64 fk1] 28)
      rw [World.size_alloc] at h9
      rw [hV1]; exact h9)
    obtain ⟨N_s, hN_s⟩ : ∃ N, N = w.heap.size := ⟨_, rfl⟩
    obtain ⟨N_f, hN_f⟩ : ∃ N, N = w.heap.size + 1 := ⟨_, rfl⟩
    (try rw [← hN_f])
    rw [← hN_f] at B_f
    (try rw [← hN_s])
    rw [← hN_s] at B_s
    have l_s : N_s < V1.heap.size := by omega
    have l_f : N_f < V1.heap.size := by omega
    have g_s : w.heap.size ≤ N_s := by omega
    have g_f : w.heap.size ≤ N_f := by omega
    have d_s_f : N_s < N_f := by omega
    replace hlow : w.heap.size ≤ V1.heap.size := by omega
    clear hV1 hzV1 hN_s hN_f
    refine (hAw.out V1 (HT.out.below HBel.out HT.out.size)).mono ?_
    rintro e U2 ⟨rfl, hb9⟩
    have hs9 := hb9.size
    replace HBel := Lib.hid (HBel.out.trans (hb9.mono hlow))
    replace B_s : Hid (U2.heap[N_s]? = some (.cells #[.int .i64 (g : Int), .int .i64 (c : Int), .int .i64 mn0, .int .i64 mx0] 23 (0, 0))) := Lib.hid ((hb9.block _ l_s).trans B_s.out)
    replace B_f : Hid (U2.heap[N_f]? = some (.cells #[.int .i64 fx1, .int .i64 fy1, .int .u64 (fm1 : Nat), .int .i64 fk1] 28 (0, 0))) := Lib.hid ((hb9.block _ l_f).trans B_f.out)
    replace l_s : N_s < U2.heap.size := by omega
    replace l_f : N_f < U2.heap.size := by omega
    replace hlow : w.heap.size ≤ U2.heap.size := by omega
    clear hb9 hs9
    have s0 : U2.cell? ⟨N_s, 0, none⟩ = some (.int .i64 (g : Int)) := cell_blk (i := 0) B_s.out rfl
    have s1 : U2.cell? ⟨N_s, 1, none⟩ = some (.int .i64 (c : Int)) := cell_blk (i := 1) B_s.out rfl
    have s2 : U2.cell? ⟨N_s, 2, none⟩ = some (.int .i64 mn0) := cell_blk (i := 2) B_s.out rfl
    have s3 : U2.cell? ⟨N_s, 3, none⟩ = some (.int .i64 mx0) := cell_blk (i := 3) B_s.out rfl
    go_wp2_with fail
    refine (hC.out _).mono ?_
    rintro e U3 ⟨rfl, hb9⟩
    clear s0 s1 s2 s3
    have hs9 := hb9.size
    replace HBel := Lib.hid (HBel.out.trans (hb9.mono hlow))
    replace B_s : Hid (U3.heap[N_s]? = some (.cells #[.int .i64 (g : Int), .int .i64 (c : Int), .int .i64 mn0, .int .i64 mx0] 23 (0, 0))) := Lib.hid ((hb9.block _ l_s).trans B_s.out)
    replace B_f : Hid (U3.heap[N_f]? = some (.cells #[.int .i64 fx1, .int .i64 fy1, .int .u64 (fm1 : Nat), .int .i64 fk1] 28 (0, 0))) := Lib.hid ((hb9.block _ l_f).trans B_f.out)
    replace l_s : N_s < U3.heap.size := by omega
    replace l_f : N_f < U3.heap.size := by omega
    replace hlow : w.heap.size ≤ U3.heap.size := by omega
    clear hb9 hs9
    have s0 : U3.cell? ⟨N_s, 0, none⟩ = some (.int .i64 (g : Int)) := cell_blk (i := 0) B_s.out rfl
    have s1 : U3.cell? ⟨N_s, 1, none⟩ = some (.int .i64 (c : Int)) := cell_blk (i := 1) B_s.out rfl
    have s2 : U3.cell? ⟨N_s, 2, none⟩ = some (.int .i64 mn0) := cell_blk (i := 2) B_s.out rfl
    have s3 : U3.cell? ⟨N_s, 3, none⟩ = some (.int .i64 mx0) := cell_blk (i := 3) B_s.out rfl
    have l_s_0 : N_s < U3.heap.size + 1 := by omega
    have f0 : U3.cell? ⟨N_f, 0, none⟩ = some (.int .i64 fx1) := cell_blk (i := 0) B_f.out rfl
    have f1 : U3.cell? ⟨N_f, 1, none⟩ = some (.int .i64 fy1) := cell_blk (i := 1) B_f.out rfl
    have f2 : U3.cell? ⟨N_f, 2, none⟩ = some (.int .u64 (fm1 : Nat)) := cell_blk (i := 2) B_f.out rfl
    have f3 : U3.cell? ⟨N_f, 3, none⟩ = some (.int .i64 fk1) := cell_blk (i := 3) B_f.out rfl
    have l_f_0 : N_f < U3.heap.size + 1 := by omega
    go_wp2_with fail
    clear s0 s1 s2 s3 l_s_0 f0 f1 f2 f3 l_f_0
    obtain ⟨V4, hV4⟩ : ∃ W, W = U3.alloc (.cells #[.int .i64 fx1, .int .i64 fy1, .int .u64 (mo : Nat), .int .i64 (fk1 + (cu : Int))] 28) := ⟨_, rfl⟩
    rw [← hV4]
    have hzV4 : V4.heap.size = U3.heap.size + 1 := by rw [hV4]; simp
    replace HBel : Hid (Below w.heap.size w V4) := Lib.hid (by rw [hV4]; exact (HBel.out.alloc (hlow) _))
    replace B_s : Hid (V4.heap[N_s]? = some (.cells #[.int .i64 (g : Int), .int .i64 (c : Int), .int .i64 mn0, .int .i64 mx0] 23 (0, 0))) := Lib.hid (by rw [hV4]; exact ((Below.heap_alloc _ _ _ (by first | omega | (simp <;> omega))).trans B_s.out))
    replace B_f : Hid (V4.heap[N_f]? = some (.cells #[.int .i64 fx1, .int .i64 fy1, .int .u64 (fm1 : Nat), .int .i64 fk1] 28 (0, 0))) := Lib.hid (by rw [hV4]; exact ((Below.heap_alloc _ _ _ (by first | omega | (simp <;> omega))).trans B_f.out))
    have B_h : Hid (V4.heap[U3.heap.size]? = some (.cells #[.int .i64 fx1, .int .i64 fy1, .int .u64 (mo : Nat), .int .i64 (fk1 + (cu : Int))] 28 (0, 0))) := Lib.hid (by
      have h9 := heap_alloc_new (U3) (.cells #[.int .i64 fx1, .int .i64 fy1, .int .u64 (mo : Nat), .int .i64 (fk1 + (cu : Int))] 28)
      rw [hV4]; exact h9)
    obtain ⟨N_h, hN_h⟩ : ∃ N, N = U3.heap.size := ⟨_, rfl⟩
    (try rw [← hN_h])
    rw [← hN_h] at B_h
    have d_s_h : N_s < N_h := by omega
    have d_f_h : N_f < N_h := by omega
    replace l_s : N_s < V4.heap.size := by omega
    replace l_f : N_f < V4.heap.size := by omega
    have l_h : N_h < V4.heap.size := by omega
    have g_h : w.heap.size ≤ N_h := by omega
    replace hlow : w.heap.size ≤ V4.heap.size := by omega
    clear hV4 hzV4 hN_h
    have s0 : V4.cell? ⟨N_s, 0, none⟩ = some (.int .i64 (g : Int)) := cell_blk (i := 0) B_s.out rfl
    have s1 : V4.cell? ⟨N_s, 1, none⟩ = some (.int .i64 (c : Int)) := cell_blk (i := 1) B_s.out rfl
    have s2 : V4.cell? ⟨N_s, 2, none⟩ = some (.int .i64 mn0) := cell_blk (i := 2) B_s.out rfl
    have s3 : V4.cell? ⟨N_s, 3, none⟩ = some (.int .i64 mx0) := cell_blk (i := 3) B_s.out rfl
    have f0 : V4.cell? ⟨N_f, 0, none⟩ = some (.int .i64 fx1) := cell_blk (i := 0) B_f.out rfl
    have f1 : V4.cell? ⟨N_f, 1, none⟩ = some (.int .i64 fy1) := cell_blk (i := 1) B_f.out rfl
    have f2 : V4.cell? ⟨N_f, 2, none⟩ = some (.int .u64 (fm1 : Nat)) := cell_blk (i := 2) B_f.out rfl
    have f3 : V4.cell? ⟨N_f, 3, none⟩ = some (.int .i64 fk1) := cell_blk (i := 3) B_f.out rfl
    have h0 : V4.cell? ⟨N_h, 0, none⟩ = some (.int .i64 fx1) := cell_blk (i := 0) B_h.out rfl
    have h1 : V4.cell? ⟨N_h, 1, none⟩ = some (.int .i64 fy1) := cell_blk (i := 1) B_h.out rfl
    have h2 : V4.cell? ⟨N_h, 2, none⟩ = some (.int .u64 (mo : Nat)) := cell_blk (i := 2) B_h.out rfl
    have h3 : V4.cell? ⟨N_h, 3, none⟩ = some (.int .i64 (fk1 + (cu : Int))) := cell_blk (i := 3) B_h.out rfl
    refine (HF1.out _ HBel.out).mono ?_
    rintro e U5 ⟨rfl, hb9⟩
    clear s0 s1 s2 s3 f0 f1 f2 f3 h0 h1 h2 h3
    have hs9 := hb9.size
    replace HBel := Lib.hid (HBel.out.trans (hb9.mono hlow))
    replace B_s : Hid (U5.heap[N_s]? = some (.cells #[.int .i64 (g : Int), .int .i64 (c : Int), .int .i64 mn0, .int .i64 mx0] 23 (0, 0))) := Lib.hid ((hb9.block _ l_s).trans B_s.out)
    replace B_f : Hid (U5.heap[N_f]? = some (.cells #[.int .i64 fx1, .int .i64 fy1, .int .u64 (fm1 : Nat), .int .i64 fk1] 28 (0, 0))) := Lib.hid ((hb9.block _ l_f).trans B_f.out)
    replace B_h : Hid (U5.heap[N_h]? = some (.cells #[.int .i64 fx1, .int .i64 fy1, .int .u64 (mo : Nat), .int .i64 (fk1 + (cu : Int))] 28 (0, 0))) := Lib.hid ((hb9.block _ l_h).trans B_h.out)
    replace l_s : N_s < U5.heap.size := by omega
    replace l_f : N_f < U5.heap.size := by omega
    replace l_h : N_h < U5.heap.size := by omega
    replace hlow : w.heap.size ≤ U5.heap.size := by omega
    clear hb9 hs9
    have s0 : U5.cell? ⟨N_s, 0, none⟩ = some (.int .i64 (g : Int)) := cell_blk (i := 0) B_s.out rfl
    have s1 : U5.cell? ⟨N_s, 1, none⟩ = some (.int .i64 (c : Int)) := cell_blk (i := 1) B_s.out rfl
    have s2 : U5.cell? ⟨N_s, 2, none⟩ = some (.int .i64 mn0) := cell_blk (i := 2) B_s.out rfl
    have s3 : U5.cell? ⟨N_s, 3, none⟩ = some (.int .i64 mx0) := cell_blk (i := 3) B_s.out rfl
    have f0 : U5.cell? ⟨N_f, 0, none⟩ = some (.int .i64 fx1) := cell_blk (i := 0) B_f.out rfl
    have f1 : U5.cell? ⟨N_f, 1, none⟩ = some (.int .i64 fy1) := cell_blk (i := 1) B_f.out rfl
    have f2 : U5.cell? ⟨N_f, 2, none⟩ = some (.int .u64 (fm1 : Nat)) := cell_blk (i := 2) B_f.out rfl
    have f3 : U5.cell? ⟨N_f, 3, none⟩ = some (.int .i64 fk1) := cell_blk (i := 3) B_f.out rfl
    have h0 : U5.cell? ⟨N_h, 0, none⟩ = some (.int .i64 fx1) := cell_blk (i := 0) B_h.out rfl
    have h1 : U5.cell? ⟨N_h, 1, none⟩ = some (.int .i64 fy1) := cell_blk (i := 1) B_h.out rfl
    have h2 : U5.cell? ⟨N_h, 2, none⟩ = some (.int .u64 (mo : Nat)) := cell_blk (i := 2) B_h.out rfl
    have h3 : U5.cell? ⟨N_h, 3, none⟩ = some (.int .i64 (fk1 + (cu : Int))) := cell_blk (i := 3) B_h.out rfl
    go_wp2_with fail
    refine (HF2.out _ HBel.out).mono ?_
    rintro e U6 ⟨rfl, hb9⟩
    clear s0 s1 s2 s3 f0 f1 f2 f3 h0 h1 h2 h3
    have hs9 := hb9.size
    replace HBel := Lib.hid (HBel.out.trans (hb9.mono hlow))
    replace B_s : Hid (U6.heap[N_s]? = some (.cells #[.int .i64 (g : Int), .int .i64 (c : Int), .int .i64 mn0, .int .i64 mx0] 23 (0, 0))) := Lib.hid ((hb9.block _ l_s).trans B_s.out)
    replace B_f : Hid (U6.heap[N_f]? = some (.cells #[.int .i64 fx1, .int .i64 fy1, .int .u64 (fm1 : Nat), .int .i64 fk1] 28 (0, 0))) := Lib.hid ((hb9.block _ l_f).trans B_f.out)
    replace B_h : Hid (U6.heap[N_h]? = some (.cells #[.int .i64 fx1, .int .i64 fy1, .int .u64 (mo : Nat), .int .i64 (fk1 + (cu : Int))] 28 (0, 0))) := Lib.hid ((hb9.block _ l_h).trans B_h.out)
    replace l_s : N_s < U6.heap.size := by omega
    replace l_f : N_f < U6.heap.size := by omega
    replace l_h : N_h < U6.heap.size := by omega
    replace hlow : w.heap.size ≤ U6.heap.size := by omega
    clear hb9 hs9
    have s0 : U6.cell? ⟨N_s, 0, none⟩ = some (.int .i64 (g : Int)) := cell_blk (i := 0) B_s.out rfl
    have s1 : U6.cell? ⟨N_s, 1, none⟩ = some (.int .i64 (c : Int)) := cell_blk (i := 1) B_s.out rfl
    have s2 : U6.cell? ⟨N_s, 2, none⟩ = some (.int .i64 mn0) := cell_blk (i := 2) B_s.out rfl
    have s3 : U6.cell? ⟨N_s, 3, none⟩ = some (.int .i64 mx0) := cell_blk (i := 3) B_s.out rfl
    have l_s_0 : N_s < U6.heap.size + 1 := by omega
    have f0 : U6.cell? ⟨N_f, 0, none⟩ = some (.int .i64 fx1) := cell_blk (i := 0) B_f.out rfl
    have f1 : U6.cell? ⟨N_f, 1, none⟩ = some (.int .i64 fy1) := cell_blk (i := 1) B_f.out rfl
    have f2 : U6.cell? ⟨N_f, 2, none⟩ = some (.int .u64 (fm1 : Nat)) := cell_blk (i := 2) B_f.out rfl
    have f3 : U6.cell? ⟨N_f, 3, none⟩ = some (.int .i64 fk1) := cell_blk (i := 3) B_f.out rfl
    have l_f_0 : N_f < U6.heap.size + 1 := by omega
    go_wp2_with fail
    clear s0 s1 s2 s3 l_s_0 f0 f1 f2 f3 l_f_0
    obtain ⟨V7, hV7⟩ : ∃ W, W = U6.alloc (.cells #[.int .i64 ((g : Int) + (p : Int)), .int .i64 ((c : Int) + (q : Int)), .int .i64 mn0, .int .i64 mx0] 23) := ⟨_, rfl⟩
    rw [← hV7]
    have hzV7 : V7.heap.size = U6.heap.size + 1 := by rw [hV7]; simp
    replace HBel : Hid (Below w.heap.size w V7) := Lib.hid (by rw [hV7]; exact (HBel.out.alloc (hlow) _))
    replace B_s : Hid (V7.heap[N_s]? = some (.cells #[.int .i64 (g : Int), .int .i64 (c : Int), .int .i64 mn0, .int .i64 mx0] 23 (0, 0))) := Lib.hid (by rw [hV7]; exact ((Below.heap_alloc _ _ _ (by first | omega | (simp <;> omega))).trans B_s.out))
    replace B_f : Hid (V7.heap[N_f]? = some (.cells #[.int .i64 fx1, .int .i64 fy1, .int .u64 (fm1 : Nat), .int .i64 fk1] 28 (0, 0))) := Lib.hid (by rw [hV7]; exact ((Below.heap_alloc _ _ _ (by first | omega | (simp <;> omega))).trans B_f.out))
    replace B_h : Hid (V7.heap[N_h]? = some (.cells #[.int .i64 fx1, .int .i64 fy1, .int .u64 (mo : Nat), .int .i64 (fk1 + (cu : Int))] 28 (0, 0))) := Lib.hid (by rw [hV7]; exact ((Below.heap_alloc _ _ _ (by first | omega | (simp <;> omega))).trans B_h.out))
    have B_t : Hid (V7.heap[U6.heap.size]? = some (.cells #[.int .i64 ((g : Int) + (p : Int)), .int .i64 ((c : Int) + (q : Int)), .int .i64 mn0, .int .i64 mx0] 23 (0, 0))) := Lib.hid (by
      have h9 := heap_alloc_new (U6) (.cells #[.int .i64 ((g : Int) + (p : Int)), .int .i64 ((c : Int) + (q : Int)), .int .i64 mn0, .int .i64 mx0] 23)
      rw [hV7]; exact h9)
    obtain ⟨N_t, hN_t⟩ : ∃ N, N = U6.heap.size := ⟨_, rfl⟩
    (try rw [← hN_t])
    rw [← hN_t] at B_t
    have d_s_t : N_s < N_t := by omega
    have d_f_t : N_f < N_t := by omega
    have d_h_t : N_h < N_t := by omega
    replace l_s : N_s < V7.heap.size := by omega
    replace l_f : N_f < V7.heap.size := by omega
    replace l_h : N_h < V7.heap.size := by omega
    have l_t : N_t < V7.heap.size := by omega
    have g_t : w.heap.size ≤ N_t := by omega
    replace hlow : w.heap.size ≤ V7.heap.size := by omega
    clear hV7 hzV7 hN_t
    have s0 : V7.cell? ⟨N_s, 0, none⟩ = some (.int .i64 (g : Int)) := cell_blk (i := 0) B_s.out rfl
    have s1 : V7.cell? ⟨N_s, 1, none⟩ = some (.int .i64 (c : Int)) := cell_blk (i := 1) B_s.out rfl
    have s2 : V7.cell? ⟨N_s, 2, none⟩ = some (.int .i64 mn0) := cell_blk (i := 2) B_s.out rfl
    have s3 : V7.cell? ⟨N_s, 3, none⟩ = some (.int .i64 mx0) := cell_blk (i := 3) B_s.out rfl
    have f0 : V7.cell? ⟨N_f, 0, none⟩ = some (.int .i64 fx1) := cell_blk (i := 0) B_f.out rfl
    have f1 : V7.cell? ⟨N_f, 1, none⟩ = some (.int .i64 fy1) := cell_blk (i := 1) B_f.out rfl
    have f2 : V7.cell? ⟨N_f, 2, none⟩ = some (.int .u64 (fm1 : Nat)) := cell_blk (i := 2) B_f.out rfl
    have f3 : V7.cell? ⟨N_f, 3, none⟩ = some (.int .i64 fk1) := cell_blk (i := 3) B_f.out rfl
    have t0 : V7.cell? ⟨N_t, 0, none⟩ = some (.int .i64 ((g : Int) + (p : Int))) := cell_blk (i := 0) B_t.out rfl
    have t1 : V7.cell? ⟨N_t, 1, none⟩ = some (.int .i64 ((c : Int) + (q : Int))) := cell_blk (i := 1) B_t.out rfl
    have t2 : V7.cell? ⟨N_t, 2, none⟩ = some (.int .i64 mn0) := cell_blk (i := 2) B_t.out rfl
    have t3 : V7.cell? ⟨N_t, 3, none⟩ = some (.int .i64 mx0) := cell_blk (i := 3) B_t.out rfl
    refine (hCt.out _).mono ?_
    rintro e U8 ⟨rfl, hb9⟩
    clear s0 s1 s2 s3 f0 f1 f2 f3 t0 t1 t2 t3
    have hs9 := hb9.size
    replace HBel := Lib.hid (HBel.out.trans (hb9.mono hlow))
    replace B_s : Hid (U8.heap[N_s]? = some (.cells #[.int .i64 (g : Int), .int .i64 (c : Int), .int .i64 mn0, .int .i64 mx0] 23 (0, 0))) := Lib.hid ((hb9.block _ l_s).trans B_s.out)
    replace B_f : Hid (U8.heap[N_f]? = some (.cells #[.int .i64 fx1, .int .i64 fy1, .int .u64 (fm1 : Nat), .int .i64 fk1] 28 (0, 0))) := Lib.hid ((hb9.block _ l_f).trans B_f.out)
    replace B_h : Hid (U8.heap[N_h]? = some (.cells #[.int .i64 fx1, .int .i64 fy1, .int .u64 (mo : Nat), .int .i64 (fk1 + (cu : Int))] 28 (0, 0))) := Lib.hid ((hb9.block _ l_h).trans B_h.out)
    replace B_t : Hid (U8.heap[N_t]? = some (.cells #[.int .i64 ((g : Int) + (p : Int)), .int .i64 ((c : Int) + (q : Int)), .int .i64 mn0, .int .i64 mx0] 23 (0, 0))) := Lib.hid ((hb9.block _ l_t).trans B_t.out)
    replace l_s : N_s < U8.heap.size := by omega
    replace l_f : N_f < U8.heap.size := by omega
    replace l_h : N_h < U8.heap.size := by omega
    replace l_t : N_t < U8.heap.size := by omega
    replace hlow : w.heap.size ≤ U8.heap.size := by omega
    clear hb9 hs9
    have t0 : U8.cell? ⟨N_t, 0, none⟩ = some (.int .i64 ((g : Int) + (p : Int))) := cell_blk (i := 0) B_t.out rfl
    have t1 : U8.cell? ⟨N_t, 1, none⟩ = some (.int .i64 ((c : Int) + (q : Int))) := cell_blk (i := 1) B_t.out rfl
    have t2 : U8.cell? ⟨N_t, 2, none⟩ = some (.int .i64 mn0) := cell_blk (i := 2) B_t.out rfl
    have t3 : U8.cell? ⟨N_t, 3, none⟩ = some (.int .i64 mx0) := cell_blk (i := 3) B_t.out rfl
    have f0 : U8.cell? ⟨N_f, 0, none⟩ = some (.int .i64 fx1) := cell_blk (i := 0) B_f.out rfl
    have f1 : U8.cell? ⟨N_f, 1, none⟩ = some (.int .i64 fy1) := cell_blk (i := 1) B_f.out rfl
    have f2 : U8.cell? ⟨N_f, 2, none⟩ = some (.int .u64 (fm1 : Nat)) := cell_blk (i := 2) B_f.out rfl
    have f3 : U8.cell? ⟨N_f, 3, none⟩ = some (.int .i64 fk1) := cell_blk (i := 3) B_f.out rfl
    go_wp2_with fail
    refine (HF3.out _ HBel.out).mono ?_
    rintro e U9 ⟨rfl, hb9⟩
    clear t0 t1 t2 t3 f0 f1 f2 f3
    have hs9 := hb9.size
    replace HBel := Lib.hid (HBel.out.trans (hb9.mono hlow))
    replace B_s : Hid (U9.heap[N_s]? = some (.cells #[.int .i64 (g : Int), .int .i64 (c : Int), .int .i64 mn0, .int .i64 mx0] 23 (0, 0))) := Lib.hid ((hb9.block _ l_s).trans B_s.out)
    replace B_f : Hid (U9.heap[N_f]? = some (.cells #[.int .i64 fx1, .int .i64 fy1, .int .u64 (fm1 : Nat), .int .i64 fk1] 28 (0, 0))) := Lib.hid ((hb9.block _ l_f).trans B_f.out)
    replace B_h : Hid (U9.heap[N_h]? = some (.cells #[.int .i64 fx1, .int .i64 fy1, .int .u64 (mo : Nat), .int .i64 (fk1 + (cu : Int))] 28 (0, 0))) := Lib.hid ((hb9.block _ l_h).trans B_h.out)
    replace B_t : Hid (U9.heap[N_t]? = some (.cells #[.int .i64 ((g : Int) + (p : Int)), .int .i64 ((c : Int) + (q : Int)), .int .i64 mn0, .int .i64 mx0] 23 (0, 0))) := Lib.hid ((hb9.block _ l_t).trans B_t.out)
    replace l_s : N_s < U9.heap.size := by omega
    replace l_f : N_f < U9.heap.size := by omega
    replace l_h : N_h < U9.heap.size := by omega
    replace l_t : N_t < U9.heap.size := by omega
    replace hlow : w.heap.size ≤ U9.heap.size := by omega
    clear hb9 hs9
    go_wp2
    go_ret
    exact ⟨rfl, HBel.out⟩

set_option maxRecDepth 100000 in
set_option maxHeartbeats 1000000 in
theorem lifted (os : Os) (started : os.Started) (H : Type) (enc : TypeId × Value → H) :
    ReturnsInHanded {} Tryd.checked os 5 .any (fun w args => (Rows.shapeGrowsSpec.pre enc Tryd.prog Tryd.f5 [] false w args ∧ laidMetH Tryd.prog laid1 w) ∧ sizedMet enc Tryd.prog Tryd.f5 (OpenSpec.ofChange Rows.shapeGrowsSpec) false w args)
      (Rows.shapeGrowsSpec.post enc Tryd.prog Tryd.f5 false true false false) := by
  refine returnsInHanded_of_change_and (C := Tryd.checked) (X := fun w _ => laidMetH Tryd.prog laid1 w) (fun _ _ _ hh h => h.of_heap hh) own started (by kernel_rfl) Tryd.func5
    (ChangeSpec.witness_shaped (enc := enc) (C := Tryd.checked) (os := os) (X := fun w _ => laidMetH Tryd.prog laid1 w) false (World.doorLaid Tryd.prog 400 os) #[.agg #[.int .i64 0, .int .i64 0, .int .i64 0, .int .i64 0], .agg #[.int .i64 0, .int .i64 0, .int .u64 0, .int .i64 0], .int .u64 0, .int .u8 0, .int .u8 0] 8 rfl (World.shaped_of_RefB (by kernel_rfl) (by kernel_rfl)) (by kernel_rfl) (by kernel_rfl) (by kernel_rfl) (door_met os _)) ?_
  intro W base args ds gs before hval0 hW _ _ hL _
  have hval : ∀ (j : Nat) t v, Tryd.f5.params[j]? = some t → args[j]? = some v → Value.okWide Tryd.prog W .any base t v := hval0
  have hW' := hW
  obtain ⟨p, q, hA0, hV, rfl, hfz, hnd⟩ := hW
  have hA : DataW.TrodAll enc Tryd.prog W 0 (fun _ => true) true Tryd.f5.params.toList args.toList ds p := hA0
  rw [Tryd.params5] at hA hval
  obtain ⟨v0, vs0, d0, ds0, p0, q0, hargs, rfl, rfl, h0, r0⟩ := trodAll_cons hA
  obtain ⟨v1, vs1, d1, ds1, p1, q1, rfl, rfl, rfl, h1, r1⟩ := trodAll_cons r0
  obtain ⟨v2, vs2, d2, ds2, p2, q2, rfl, rfl, rfl, h2, r2⟩ := trodAll_cons r1
  obtain ⟨v3, vs3, d3, ds3, p3, q3, rfl, rfl, rfl, h3, r3⟩ := trodAll_cons r2
  obtain ⟨v4, vs4, d4, ds4, p4, q4, rfl, rfl, rfl, h4, r4⟩ := trodAll_cons r3
  obtain ⟨rfl, rfl, rfl⟩ := trodAll_nil r4
  obtain rfl : args = #[v0, v1, v2, v3, v4] := by cases args; simp_all
  obtain ⟨rfl, rfl⟩ := trodVars_none hV
  have k0 := h0
  have lt0 : ∀ x ∈ p0, x.block < W.heap.size := by obtain ⟨m, hm⟩ := k0; exact DataW.trod_lt m _ _ _ hm
  obtain ⟨g0, c0, mn0, mx0, rfl, w0⟩ := shape_of (hval 0 23 v0 rfl rfl) h0
  have k1 := h1
  have lt1 : ∀ x ∈ p1, x.block < W.heap.size := by obtain ⟨m, hm⟩ := k1; exact DataW.trod_lt m _ _ _ hm
  obtain ⟨fx1, fy1, fm1, fk1, rfl, wm1, wk1⟩ := free_of (hval 1 28 v1 rfl rfl) h1
  have k2 := h2
  have lt2 : ∀ x ∈ p2, x.block < W.heap.size := by obtain ⟨m, hm⟩ := k2; exact DataW.trod_lt m _ _ _ hm
  obtain ⟨a2, rfl, _, _, w2⟩ := open_int Tryd.underlying26 (hval 2 26 v2 rfl rfl) h2
  have k3 := h3
  have lt3 : ∀ x ∈ p3, x.block < W.heap.size := by obtain ⟨m, hm⟩ := k3; exact DataW.trod_lt m _ _ _ hm
  obtain ⟨a3, rfl, _, _, w3⟩ := open_int Tryd.underlying5 (hval 3 5 v3 rfl rfl) h3
  have k4 := h4
  have lt4 : ∀ x ∈ p4, x.block < W.heap.size := by obtain ⟨m, hm⟩ := k4; exact DataW.trod_lt m _ _ _ hm
  obtain ⟨a4, rfl, _, _, w4⟩ := open_int Tryd.underlying5 (hval 4 5 v4 rfl rfl) h4
  have hT := of_laid hL
  clear hL
  clear hA0 hval0
  refine (walk g0 c0 mn0 mx0 fx1 fy1 fm1 fk1 a2 a3 a4 W w0 wm1 wk1 w2 w3 w4 hT).mono fun e W' ⟨he, bel⟩ => ?_
  subst he
  exact ⟨_, rfl, _, _, _, [], _, [], hW', trodAll_mk1 (shut_bool Tryd.underlying4 _), (trodAll_cons_mk (Below.trod laidOut (by kernel_rfl) (of_decide_eq_true (by kernel_rfl)) k0 bel lt0) (trodAll_cons_mk (Below.trod laidOut (by kernel_rfl) (of_decide_eq_true (by kernel_rfl)) k1 bel lt1) (trodAll_cons_mk (Below.trod laidOut (by kernel_rfl) (of_decide_eq_true (by kernel_rfl)) k2 bel lt2) (trodAll_cons_mk (Below.trod laidOut (by kernel_rfl) (of_decide_eq_true (by kernel_rfl)) k3 bel lt3) (trodAll_cons_mk (Below.trod laidOut (by kernel_rfl) (of_decide_eq_true (by kernel_rfl)) k4 bel lt4) trodAll_mk0))))), rfl, bel.frame _, fun h => by cases h⟩

/-- THE ROW. -/
theorem row_holds : Rows.ShapeGrowsSaid :=
  OpenClaim.holds_of_wide 5 Tryd.f5 rfl rfl rfl rfl rfl rfl rfl ⟨rfl, rfl, rfl, rfl, rfl⟩ rfl rfl rfl rfl rfl (by kernel_rfl) Tryd.func5 (by kernel_rfl)
    (of_decide_eq_true (by kernel_rfl)) (by unfold Func.isWrapper; first | (rw [if_pos (by decide +kernel)]; kernel_rfl) | (rw [if_neg (by decide +kernel)]; exact ⟨rfl, rfl⟩))
    (fun os started H enc _ => lifted os started H enc)

/-- THE STATEMENT. -/
theorem card_holds : Rows.ShapeGrowsCardSaid :=
  Claim7.holds_tied_plain_at .later [] [.data] true (true, Rows.shapeGrowsCard.stood.harness.2) false
    row_holds (fun _ h => by cases h) (by kernel_rfl) (fun _ h => by cases h) shapeGrows_row_tie rfl ⟨rfl, rfl⟩ (by kernel_rfl) rfl
    (fun f fn hf hfn => by
      obtain rfl : f = 5 := Option.some.inj ((show Tryd.prog.funcNamed Rows.shapeGrowsRow.func = some 5 by kernel_rfl).symm.trans hf) |>.symm
      obtain rfl : fn = Tryd.f5 := (Option.some.inj (Tryd.func5.symm.trans hfn)).symm
      exact ⟨by kernel_rfl, fun j t ht => by
        rw [Tryd.params5] at ht
        have hm : t ∈ [23, 28, 26, 5, 5] := by simpa using Array.mem_of_getElem? ht
        have hall : ([23, 28, 26, 5, 5].all fun u => !Tryd.prog.wantsStandIn u) = true := by kernel_rfl
        exact (show Tryd.prog.wantsStandIn t = false by simpa using List.all_eq_true.1 hall t hm)⟩)
    (by kernel_rfl)
end Go.Proofs.YtjenokegpbhciaaDoor.shapeGrows
