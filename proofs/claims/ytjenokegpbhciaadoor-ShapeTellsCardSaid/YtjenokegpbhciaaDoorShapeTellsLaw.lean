/- Any shape is taken or refused, and what members need, how many fit, and a member's piece are the document's: the law ShapeTells answers true, at every input. The library's table of lowest units is as the program's text lays it (tied). -/
import Derived.Test.YtjenokegpbhciaaDoorShapeBoth
import Derived.SevenTiedAt
import Derived.Test.YtjenokegpbhciaaDoorTie
import Derived.Test.YtjenokegpbhciaaDoorCards
set_option linter.unusedVariables false
namespace Go.Proofs.YtjenokegpbhciaaDoor.shapeTells
open Go Go.ChangeShapes Go.WideShapes Go.ChangeAt Go.RowKit
set_option maxRecDepth 100000 in
set_option maxHeartbeats 4000000 in
theorem walk_bad (g0 c0 mn0 mx0 : Int) (a1 : Int) (x2 y2 : Int) (m2 : Nat) (k2 : Int) (w : World) (w0 : Shp.Wf ⟨g0, c0, mn0, mx0⟩) (hT : Tab w) (hok : Shp.ok ⟨g0, c0, mn0, mx0⟩ = false) :
    Calls Tryd.prog 3 #[.agg #[.int .i64 g0, .int .i64 c0, .int .i64 mn0, .int .i64 mx0], .int .i64 a1, .agg #[.int .i64 x2, .int .i64 y2, .int .u64 (m2 : Nat), .int .i64 k2]] w fun e w' => e = .returned (.bool true) ∧ Below w.heap.size w w' := by
  have HT := Lib.hid hT
  have hAw := Lib.hid (fun W (hT : Tab W) => awake_any W hT)
  have hU := Lib.hid (fun W => units_bad g0 c0 mn0 mx0 a1 W w0 hok)
  have hP := Lib.hid (fun W => piece_bad g0 c0 mn0 mx0 x2 y2 m2 k2 W w0 hok)
  have hR := Lib.hid (fun W => refright_any g0 c0 mn0 mx0 W w0)
  rw [hok] at hR
  have hC := Lib.hid (fun W => check_no g0 c0 mn0 mx0 W w0 hok)
  have hF := Lib.hid (fun W => fits_bad g0 c0 mn0 mx0 x2 y2 m2 k2 W w0 hok)
  have e1 := units_eq 0 0
  have e2 := slot_eq 0 0 0 0
  have e3 := free_eq 0 0 0 0
  clear hok w0 hT
  have HBel := Lib.hid (Below.refl w.heap.size w)
  have hlow : w.heap.size ≤ w.heap.size := Nat.le_refl _
  go_enter Tryd.func3, Tryd.ntmps3
  go_wp2_with fail
  obtain ⟨V1, hV1⟩ : ∃ W, W = (w.alloc (.cells #[.int .i64 g0, .int .i64 c0, .int .i64 mn0, .int .i64 mx0] 23)).alloc (.cells #[.int .i64 x2, .int .i64 y2, .int .u64 (m2 : Nat), .int .i64 k2] 28) := ⟨_, rfl⟩
  rw [← hV1]
  have hzV1 : V1.heap.size = w.heap.size + 1 + 1 := by rw [hV1]; simp
  replace HBel : Hid (Below w.heap.size w V1) := Lib.hid (by rw [hV1]; exact ((HBel.out.alloc (hlow) _).alloc (by simp <;> omega) _))
  have B_s : Hid (V1.heap[w.heap.size]? = some (.cells #[.int .i64 g0, .int .i64 c0, .int .i64 mn0, .int .i64 mx0] 23 (0, 0))) := Lib.hid (by
    have h9 := heap_alloc_new (w) (.cells #[.int .i64 g0, .int .i64 c0, .int .i64 mn0, .int .i64 mx0] 23)
    rw [hV1]; exact ((Below.heap_alloc _ _ _ (by simp <;> omega)).trans h9))
  have B_f : Hid (V1.heap[w.heap.size + 1]? = some (.cells #[.int .i64 x2, .int .i64 y2, .int .u64 (m2 : Nat), .int .i64 k2] 28 (0, 0))) := Lib.hid (by
    have h9 := heap_alloc_new (w.alloc (.cells #[.int .i64 g0, .int .i64 c0, .int .i64 mn0, .int .i64 mx0] 23)) (.cells #[.int .i64 x2, .int .i64 y2, .int .u64 (m2 : Nat), .int .i64 k2] 28)
    rw [World.size_alloc] at h9
    rw [hV1]; exact h9)
  obtain ⟨N_s, hN_s⟩ : ∃ N, N = w.heap.size := ⟨_, rfl⟩
  obtain ⟨N_f, hN_f⟩ : ∃ N, N = w.heap.size + 1 := ⟨_, rfl⟩
  (try rw [← hN_f])
  rw [← hN_f] at B_f
  (try rw [← hN_s])
  rw [← hN_s] at B_s
  have l_s : N_s < V1.heap.size := by omega
  have l_f : N_f < V1.heap.size := by omega
  have g_s : w.heap.size ≤ N_s := by omega
  have g_f : w.heap.size ≤ N_f := by omega
  have d_s_f : N_s < N_f := by omega
  replace hlow : w.heap.size ≤ V1.heap.size := by omega
  clear hV1 hzV1 hN_s hN_f
  refine (hAw.out V1 (HT.out.below HBel.out HT.out.size)).mono ?_
  rintro e U2 ⟨rfl, hb9⟩
  have hs9 := hb9.size
  replace HBel := Lib.hid (HBel.out.trans (hb9.mono hlow))
  replace B_s : Hid (U2.heap[N_s]? = some (.cells #[.int .i64 g0, .int .i64 c0, .int .i64 mn0, .int .i64 mx0] 23 (0, 0))) := Lib.hid ((hb9.block _ l_s).trans B_s.out)
  replace B_f : Hid (U2.heap[N_f]? = some (.cells #[.int .i64 x2, .int .i64 y2, .int .u64 (m2 : Nat), .int .i64 k2] 28 (0, 0))) := Lib.hid ((hb9.block _ l_f).trans B_f.out)
  replace l_s : N_s < U2.heap.size := by omega
  replace l_f : N_f < U2.heap.size := by omega
  replace hlow : w.heap.size ≤ U2.heap.size := by omega
  clear hb9 hs9
  have s0 : U2.cell? ⟨N_s, 0, none⟩ = some (.int .i64 g0) := cell_blk (i := 0) B_s.out rfl
  have s1 : U2.cell? ⟨N_s, 1, none⟩ = some (.int .i64 c0) := cell_blk (i := 1) B_s.out rfl
  have s2 : U2.cell? ⟨N_s, 2, none⟩ = some (.int .i64 mn0) := cell_blk (i := 2) B_s.out rfl
  have s3 : U2.cell? ⟨N_s, 3, none⟩ = some (.int .i64 mx0) := cell_blk (i := 3) B_s.out rfl
  have f0 : U2.cell? ⟨N_f, 0, none⟩ = some (.int .i64 x2) := cell_blk (i := 0) B_f.out rfl
  have f1 : U2.cell? ⟨N_f, 1, none⟩ = some (.int .i64 y2) := cell_blk (i := 1) B_f.out rfl
  have f2 : U2.cell? ⟨N_f, 2, none⟩ = some (.int .u64 (m2 : Nat)) := cell_blk (i := 2) B_f.out rfl
  have f3 : U2.cell? ⟨N_f, 3, none⟩ = some (.int .i64 k2) := cell_blk (i := 3) B_f.out rfl
  go_wp2_with fail
  refine (hU.out _).mono ?_
  rintro e U3 ⟨rfl, hb9⟩
  clear s0 s1 s2 s3 f0 f1 f2 f3
  have hs9 := hb9.size
  replace HBel := Lib.hid (HBel.out.trans (hb9.mono hlow))
  replace B_s : Hid (U3.heap[N_s]? = some (.cells #[.int .i64 g0, .int .i64 c0, .int .i64 mn0, .int .i64 mx0] 23 (0, 0))) := Lib.hid ((hb9.block _ l_s).trans B_s.out)
  replace B_f : Hid (U3.heap[N_f]? = some (.cells #[.int .i64 x2, .int .i64 y2, .int .u64 (m2 : Nat), .int .i64 k2] 28 (0, 0))) := Lib.hid ((hb9.block _ l_f).trans B_f.out)
  replace l_s : N_s < U3.heap.size := by omega
  replace l_f : N_f < U3.heap.size := by omega
  replace hlow : w.heap.size ≤ U3.heap.size := by omega
  clear hb9 hs9
  have s0 : U3.cell? ⟨N_s, 0, none⟩ = some (.int .i64 g0) := cell_blk (i := 0) B_s.out rfl
  have s1 : U3.cell? ⟨N_s, 1, none⟩ = some (.int .i64 c0) := cell_blk (i := 1) B_s.out rfl
  have s2 : U3.cell? ⟨N_s, 2, none⟩ = some (.int .i64 mn0) := cell_blk (i := 2) B_s.out rfl
  have s3 : U3.cell? ⟨N_s, 3, none⟩ = some (.int .i64 mx0) := cell_blk (i := 3) B_s.out rfl
  have f0 : U3.cell? ⟨N_f, 0, none⟩ = some (.int .i64 x2) := cell_blk (i := 0) B_f.out rfl
  have f1 : U3.cell? ⟨N_f, 1, none⟩ = some (.int .i64 y2) := cell_blk (i := 1) B_f.out rfl
  have f2 : U3.cell? ⟨N_f, 2, none⟩ = some (.int .u64 (m2 : Nat)) := cell_blk (i := 2) B_f.out rfl
  have f3 : U3.cell? ⟨N_f, 3, none⟩ = some (.int .i64 k2) := cell_blk (i := 3) B_f.out rfl
  go_wp2_with fail
  clear s0 s1 s2 s3 f0 f1 f2 f3
  obtain ⟨V4, hV4⟩ : ∃ W, W = U3.alloc (.cells #[.int .i64 0, .int .i64 0] 31) := ⟨_, rfl⟩
  rw [← hV4]
  have hzV4 : V4.heap.size = U3.heap.size + 1 := by rw [hV4]; simp
  replace HBel : Hid (Below w.heap.size w V4) := Lib.hid (by rw [hV4]; exact (HBel.out.alloc (hlow) _))
  replace B_s : Hid (V4.heap[N_s]? = some (.cells #[.int .i64 g0, .int .i64 c0, .int .i64 mn0, .int .i64 mx0] 23 (0, 0))) := Lib.hid (by rw [hV4]; exact ((Below.heap_alloc _ _ _ (by first | omega | (simp <;> omega))).trans B_s.out))
  replace B_f : Hid (V4.heap[N_f]? = some (.cells #[.int .i64 x2, .int .i64 y2, .int .u64 (m2 : Nat), .int .i64 k2] 28 (0, 0))) := Lib.hid (by rw [hV4]; exact ((Below.heap_alloc _ _ _ (by first | omega | (simp <;> omega))).trans B_f.out))
  have B_u : Hid (V4.heap[U3.heap.size]? = some (.cells #[.int .i64 0, .int .i64 0] 31 (0, 0))) := Lib.hid (by
    have h9 := heap_alloc_new (U3) (.cells #[.int .i64 0, .int .i64 0] 31)
    rw [hV4]; exact h9)
  obtain ⟨N_u, hN_u⟩ : ∃ N, N = U3.heap.size := ⟨_, rfl⟩
  (try rw [← hN_u])
  rw [← hN_u] at B_u
  have d_s_u : N_s < N_u := by omega
  have d_f_u : N_f < N_u := by omega
  replace l_s : N_s < V4.heap.size := by omega
  replace l_f : N_f < V4.heap.size := by omega
  have l_u : N_u < V4.heap.size := by omega
  have g_u : w.heap.size ≤ N_u := by omega
  replace hlow : w.heap.size ≤ V4.heap.size := by omega
  clear hV4 hzV4 hN_u
  have s0 : V4.cell? ⟨N_s, 0, none⟩ = some (.int .i64 g0) := cell_blk (i := 0) B_s.out rfl
  have s1 : V4.cell? ⟨N_s, 1, none⟩ = some (.int .i64 c0) := cell_blk (i := 1) B_s.out rfl
  have s2 : V4.cell? ⟨N_s, 2, none⟩ = some (.int .i64 mn0) := cell_blk (i := 2) B_s.out rfl
  have s3 : V4.cell? ⟨N_s, 3, none⟩ = some (.int .i64 mx0) := cell_blk (i := 3) B_s.out rfl
  have f0 : V4.cell? ⟨N_f, 0, none⟩ = some (.int .i64 x2) := cell_blk (i := 0) B_f.out rfl
  have f1 : V4.cell? ⟨N_f, 1, none⟩ = some (.int .i64 y2) := cell_blk (i := 1) B_f.out rfl
  have f2 : V4.cell? ⟨N_f, 2, none⟩ = some (.int .u64 (m2 : Nat)) := cell_blk (i := 2) B_f.out rfl
  have f3 : V4.cell? ⟨N_f, 3, none⟩ = some (.int .i64 k2) := cell_blk (i := 3) B_f.out rfl
  refine (hP.out _).mono ?_
  rintro e U5 ⟨rfl, hb9⟩
  clear s0 s1 s2 s3 f0 f1 f2 f3
  have hs9 := hb9.size
  replace HBel := Lib.hid (HBel.out.trans (hb9.mono hlow))
  replace B_s : Hid (U5.heap[N_s]? = some (.cells #[.int .i64 g0, .int .i64 c0, .int .i64 mn0, .int .i64 mx0] 23 (0, 0))) := Lib.hid ((hb9.block _ l_s).trans B_s.out)
  replace B_f : Hid (U5.heap[N_f]? = some (.cells #[.int .i64 x2, .int .i64 y2, .int .u64 (m2 : Nat), .int .i64 k2] 28 (0, 0))) := Lib.hid ((hb9.block _ l_f).trans B_f.out)
  replace B_u : Hid (U5.heap[N_u]? = some (.cells #[.int .i64 0, .int .i64 0] 31 (0, 0))) := Lib.hid ((hb9.block _ l_u).trans B_u.out)
  replace l_s : N_s < U5.heap.size := by omega
  replace l_f : N_f < U5.heap.size := by omega
  replace l_u : N_u < U5.heap.size := by omega
  replace hlow : w.heap.size ≤ U5.heap.size := by omega
  clear hb9 hs9
  have s0 : U5.cell? ⟨N_s, 0, none⟩ = some (.int .i64 g0) := cell_blk (i := 0) B_s.out rfl
  have s1 : U5.cell? ⟨N_s, 1, none⟩ = some (.int .i64 c0) := cell_blk (i := 1) B_s.out rfl
  have s2 : U5.cell? ⟨N_s, 2, none⟩ = some (.int .i64 mn0) := cell_blk (i := 2) B_s.out rfl
  have s3 : U5.cell? ⟨N_s, 3, none⟩ = some (.int .i64 mx0) := cell_blk (i := 3) B_s.out rfl
  have l_s_0 : N_s < U5.heap.size + 1 := by omega
  have l_s_1 : N_s < U5.heap.size + 1 + 1 := by omega
  have f0 : U5.cell? ⟨N_f, 0, none⟩ = some (.int .i64 x2) := cell_blk (i := 0) B_f.out rfl
  have f1 : U5.cell? ⟨N_f, 1, none⟩ = some (.int .i64 y2) := cell_blk (i := 1) B_f.out rfl
  have f2 : U5.cell? ⟨N_f, 2, none⟩ = some (.int .u64 (m2 : Nat)) := cell_blk (i := 2) B_f.out rfl
  have f3 : U5.cell? ⟨N_f, 3, none⟩ = some (.int .i64 k2) := cell_blk (i := 3) B_f.out rfl
  have l_f_0 : N_f < U5.heap.size + 1 := by omega
  have l_f_1 : N_f < U5.heap.size + 1 + 1 := by omega
  go_wp2_with fail
  clear s0 s1 s2 s3 l_s_0 l_s_1 f0 f1 f2 f3 l_f_0 l_f_1
  obtain ⟨V6, hV6⟩ : ∃ W, W = (U5.alloc (.cells #[.int .i64 0, .int .i64 0, .int .u64 0, .int .i64 0] 35)).alloc (.cells #[.int .i64 0, .int .i64 0, .int .u64 0, .int .i64 0] 28) := ⟨_, rfl⟩
  rw [← hV6]
  have hzV6 : V6.heap.size = U5.heap.size + 1 + 1 := by rw [hV6]; simp
  replace HBel : Hid (Below w.heap.size w V6) := Lib.hid (by rw [hV6]; exact ((HBel.out.alloc (hlow) _).alloc (by simp <;> omega) _))
  replace B_s : Hid (V6.heap[N_s]? = some (.cells #[.int .i64 g0, .int .i64 c0, .int .i64 mn0, .int .i64 mx0] 23 (0, 0))) := Lib.hid (by rw [hV6]; exact ((Below.heap_alloc _ _ _ (by first | omega | (simp <;> omega))).trans ((Below.heap_alloc _ _ _ (by first | omega | (simp <;> omega))).trans B_s.out)))
  replace B_f : Hid (V6.heap[N_f]? = some (.cells #[.int .i64 x2, .int .i64 y2, .int .u64 (m2 : Nat), .int .i64 k2] 28 (0, 0))) := Lib.hid (by rw [hV6]; exact ((Below.heap_alloc _ _ _ (by first | omega | (simp <;> omega))).trans ((Below.heap_alloc _ _ _ (by first | omega | (simp <;> omega))).trans B_f.out)))
  replace B_u : Hid (V6.heap[N_u]? = some (.cells #[.int .i64 0, .int .i64 0] 31 (0, 0))) := Lib.hid (by rw [hV6]; exact ((Below.heap_alloc _ _ _ (by first | omega | (simp <;> omega))).trans ((Below.heap_alloc _ _ _ (by first | omega | (simp <;> omega))).trans B_u.out)))
  have B_p : Hid (V6.heap[U5.heap.size]? = some (.cells #[.int .i64 0, .int .i64 0, .int .u64 0, .int .i64 0] 35 (0, 0))) := Lib.hid (by
    have h9 := heap_alloc_new (U5) (.cells #[.int .i64 0, .int .i64 0, .int .u64 0, .int .i64 0] 35)
    rw [hV6]; exact ((Below.heap_alloc _ _ _ (by simp <;> omega)).trans h9))
  have B_r : Hid (V6.heap[U5.heap.size + 1]? = some (.cells #[.int .i64 0, .int .i64 0, .int .u64 0, .int .i64 0] 28 (0, 0))) := Lib.hid (by
    have h9 := heap_alloc_new (U5.alloc (.cells #[.int .i64 0, .int .i64 0, .int .u64 0, .int .i64 0] 35)) (.cells #[.int .i64 0, .int .i64 0, .int .u64 0, .int .i64 0] 28)
    rw [World.size_alloc] at h9
    rw [hV6]; exact h9)
  obtain ⟨N_p, hN_p⟩ : ∃ N, N = U5.heap.size := ⟨_, rfl⟩
  obtain ⟨N_r, hN_r⟩ : ∃ N, N = U5.heap.size + 1 := ⟨_, rfl⟩
  (try rw [← hN_r])
  rw [← hN_r] at B_r
  (try rw [← hN_p])
  rw [← hN_p] at B_p
  have d_s_p : N_s < N_p := by omega
  have d_f_p : N_f < N_p := by omega
  have d_u_p : N_u < N_p := by omega
  have d_s_r : N_s < N_r := by omega
  have d_f_r : N_f < N_r := by omega
  have d_u_r : N_u < N_r := by omega
  replace l_s : N_s < V6.heap.size := by omega
  replace l_f : N_f < V6.heap.size := by omega
  replace l_u : N_u < V6.heap.size := by omega
  have l_p : N_p < V6.heap.size := by omega
  have l_r : N_r < V6.heap.size := by omega
  have g_p : w.heap.size ≤ N_p := by omega
  have g_r : w.heap.size ≤ N_r := by omega
  have d_p_r : N_p < N_r := by omega
  replace hlow : w.heap.size ≤ V6.heap.size := by omega
  clear hV6 hzV6 hN_p hN_r
  refine (hR.out _).mono ?_
  rintro e U7 ⟨rfl, hb9⟩
  have hs9 := hb9.size
  replace HBel := Lib.hid (HBel.out.trans (hb9.mono hlow))
  replace B_s : Hid (U7.heap[N_s]? = some (.cells #[.int .i64 g0, .int .i64 c0, .int .i64 mn0, .int .i64 mx0] 23 (0, 0))) := Lib.hid ((hb9.block _ l_s).trans B_s.out)
  replace B_f : Hid (U7.heap[N_f]? = some (.cells #[.int .i64 x2, .int .i64 y2, .int .u64 (m2 : Nat), .int .i64 k2] 28 (0, 0))) := Lib.hid ((hb9.block _ l_f).trans B_f.out)
  replace B_u : Hid (U7.heap[N_u]? = some (.cells #[.int .i64 0, .int .i64 0] 31 (0, 0))) := Lib.hid ((hb9.block _ l_u).trans B_u.out)
  replace B_p : Hid (U7.heap[N_p]? = some (.cells #[.int .i64 0, .int .i64 0, .int .u64 0, .int .i64 0] 35 (0, 0))) := Lib.hid ((hb9.block _ l_p).trans B_p.out)
  replace B_r : Hid (U7.heap[N_r]? = some (.cells #[.int .i64 0, .int .i64 0, .int .u64 0, .int .i64 0] 28 (0, 0))) := Lib.hid ((hb9.block _ l_r).trans B_r.out)
  replace l_s : N_s < U7.heap.size := by omega
  replace l_f : N_f < U7.heap.size := by omega
  replace l_u : N_u < U7.heap.size := by omega
  replace l_p : N_p < U7.heap.size := by omega
  replace l_r : N_r < U7.heap.size := by omega
  replace hlow : w.heap.size ≤ U7.heap.size := by omega
  clear hb9 hs9
  have s0 : U7.cell? ⟨N_s, 0, none⟩ = some (.int .i64 g0) := cell_blk (i := 0) B_s.out rfl
  have s1 : U7.cell? ⟨N_s, 1, none⟩ = some (.int .i64 c0) := cell_blk (i := 1) B_s.out rfl
  have s2 : U7.cell? ⟨N_s, 2, none⟩ = some (.int .i64 mn0) := cell_blk (i := 2) B_s.out rfl
  have s3 : U7.cell? ⟨N_s, 3, none⟩ = some (.int .i64 mx0) := cell_blk (i := 3) B_s.out rfl
  have f0 : U7.cell? ⟨N_f, 0, none⟩ = some (.int .i64 x2) := cell_blk (i := 0) B_f.out rfl
  have f1 : U7.cell? ⟨N_f, 1, none⟩ = some (.int .i64 y2) := cell_blk (i := 1) B_f.out rfl
  have f2 : U7.cell? ⟨N_f, 2, none⟩ = some (.int .u64 (m2 : Nat)) := cell_blk (i := 2) B_f.out rfl
  have f3 : U7.cell? ⟨N_f, 3, none⟩ = some (.int .i64 k2) := cell_blk (i := 3) B_f.out rfl
  go_wp2_with fail
  refine (hC.out _).mono ?_
  rintro e U8 ⟨rfl, hb9⟩
  clear s0 s1 s2 s3 f0 f1 f2 f3
  have hs9 := hb9.size
  replace HBel := Lib.hid (HBel.out.trans (hb9.mono hlow))
  replace B_s : Hid (U8.heap[N_s]? = some (.cells #[.int .i64 g0, .int .i64 c0, .int .i64 mn0, .int .i64 mx0] 23 (0, 0))) := Lib.hid ((hb9.block _ l_s).trans B_s.out)
  replace B_f : Hid (U8.heap[N_f]? = some (.cells #[.int .i64 x2, .int .i64 y2, .int .u64 (m2 : Nat), .int .i64 k2] 28 (0, 0))) := Lib.hid ((hb9.block _ l_f).trans B_f.out)
  replace B_u : Hid (U8.heap[N_u]? = some (.cells #[.int .i64 0, .int .i64 0] 31 (0, 0))) := Lib.hid ((hb9.block _ l_u).trans B_u.out)
  replace B_p : Hid (U8.heap[N_p]? = some (.cells #[.int .i64 0, .int .i64 0, .int .u64 0, .int .i64 0] 35 (0, 0))) := Lib.hid ((hb9.block _ l_p).trans B_p.out)
  replace B_r : Hid (U8.heap[N_r]? = some (.cells #[.int .i64 0, .int .i64 0, .int .u64 0, .int .i64 0] 28 (0, 0))) := Lib.hid ((hb9.block _ l_r).trans B_r.out)
  replace l_s : N_s < U8.heap.size := by omega
  replace l_f : N_f < U8.heap.size := by omega
  replace l_u : N_u < U8.heap.size := by omega
  replace l_p : N_p < U8.heap.size := by omega
  replace l_r : N_r < U8.heap.size := by omega
  replace hlow : w.heap.size ≤ U8.heap.size := by omega
  clear hb9 hs9
  have s0 : U8.cell? ⟨N_s, 0, none⟩ = some (.int .i64 g0) := cell_blk (i := 0) B_s.out rfl
  have s1 : U8.cell? ⟨N_s, 1, none⟩ = some (.int .i64 c0) := cell_blk (i := 1) B_s.out rfl
  have s2 : U8.cell? ⟨N_s, 2, none⟩ = some (.int .i64 mn0) := cell_blk (i := 2) B_s.out rfl
  have s3 : U8.cell? ⟨N_s, 3, none⟩ = some (.int .i64 mx0) := cell_blk (i := 3) B_s.out rfl
  have f0 : U8.cell? ⟨N_f, 0, none⟩ = some (.int .i64 x2) := cell_blk (i := 0) B_f.out rfl
  have f1 : U8.cell? ⟨N_f, 1, none⟩ = some (.int .i64 y2) := cell_blk (i := 1) B_f.out rfl
  have f2 : U8.cell? ⟨N_f, 2, none⟩ = some (.int .u64 (m2 : Nat)) := cell_blk (i := 2) B_f.out rfl
  have f3 : U8.cell? ⟨N_f, 3, none⟩ = some (.int .i64 k2) := cell_blk (i := 3) B_f.out rfl
  have u0 : U8.cell? ⟨N_u, 0, none⟩ = some (.int .i64 0) := cell_blk (i := 0) B_u.out rfl
  have u1 : U8.cell? ⟨N_u, 1, none⟩ = some (.int .i64 0) := cell_blk (i := 1) B_u.out rfl
  have p0 : U8.cell? ⟨N_p, 0, none⟩ = some (.int .i64 0) := cell_blk (i := 0) B_p.out rfl
  have p1 : U8.cell? ⟨N_p, 1, none⟩ = some (.int .i64 0) := cell_blk (i := 1) B_p.out rfl
  have p2 : U8.cell? ⟨N_p, 2, none⟩ = some (.int .u64 0) := cell_blk (i := 2) B_p.out rfl
  have p3 : U8.cell? ⟨N_p, 3, none⟩ = some (.int .i64 0) := cell_blk (i := 3) B_p.out rfl
  have r0 : U8.cell? ⟨N_r, 0, none⟩ = some (.int .i64 0) := cell_blk (i := 0) B_r.out rfl
  have r1 : U8.cell? ⟨N_r, 1, none⟩ = some (.int .i64 0) := cell_blk (i := 1) B_r.out rfl
  have r2 : U8.cell? ⟨N_r, 2, none⟩ = some (.int .u64 0) := cell_blk (i := 2) B_r.out rfl
  have r3 : U8.cell? ⟨N_r, 3, none⟩ = some (.int .i64 0) := cell_blk (i := 3) B_r.out rfl
  go_wp2_with fail
  refine (hF.out _).mono ?_
  rintro e U9 ⟨rfl, hb9⟩
  clear s0 s1 s2 s3 f0 f1 f2 f3 u0 u1 p0 p1 p2 p3 r0 r1 r2 r3
  have hs9 := hb9.size
  replace HBel := Lib.hid (HBel.out.trans (hb9.mono hlow))
  replace B_s : Hid (U9.heap[N_s]? = some (.cells #[.int .i64 g0, .int .i64 c0, .int .i64 mn0, .int .i64 mx0] 23 (0, 0))) := Lib.hid ((hb9.block _ l_s).trans B_s.out)
  replace B_f : Hid (U9.heap[N_f]? = some (.cells #[.int .i64 x2, .int .i64 y2, .int .u64 (m2 : Nat), .int .i64 k2] 28 (0, 0))) := Lib.hid ((hb9.block _ l_f).trans B_f.out)
  replace B_u : Hid (U9.heap[N_u]? = some (.cells #[.int .i64 0, .int .i64 0] 31 (0, 0))) := Lib.hid ((hb9.block _ l_u).trans B_u.out)
  replace B_p : Hid (U9.heap[N_p]? = some (.cells #[.int .i64 0, .int .i64 0, .int .u64 0, .int .i64 0] 35 (0, 0))) := Lib.hid ((hb9.block _ l_p).trans B_p.out)
  replace B_r : Hid (U9.heap[N_r]? = some (.cells #[.int .i64 0, .int .i64 0, .int .u64 0, .int .i64 0] 28 (0, 0))) := Lib.hid ((hb9.block _ l_r).trans B_r.out)
  replace l_s : N_s < U9.heap.size := by omega
  replace l_f : N_f < U9.heap.size := by omega
  replace l_u : N_u < U9.heap.size := by omega
  replace l_p : N_p < U9.heap.size := by omega
  replace l_r : N_r < U9.heap.size := by omega
  replace hlow : w.heap.size ≤ U9.heap.size := by omega
  clear hb9 hs9
  have s0 : U9.cell? ⟨N_s, 0, none⟩ = some (.int .i64 g0) := cell_blk (i := 0) B_s.out rfl
  have s1 : U9.cell? ⟨N_s, 1, none⟩ = some (.int .i64 c0) := cell_blk (i := 1) B_s.out rfl
  have s2 : U9.cell? ⟨N_s, 2, none⟩ = some (.int .i64 mn0) := cell_blk (i := 2) B_s.out rfl
  have s3 : U9.cell? ⟨N_s, 3, none⟩ = some (.int .i64 mx0) := cell_blk (i := 3) B_s.out rfl
  have f0 : U9.cell? ⟨N_f, 0, none⟩ = some (.int .i64 x2) := cell_blk (i := 0) B_f.out rfl
  have f1 : U9.cell? ⟨N_f, 1, none⟩ = some (.int .i64 y2) := cell_blk (i := 1) B_f.out rfl
  have f2 : U9.cell? ⟨N_f, 2, none⟩ = some (.int .u64 (m2 : Nat)) := cell_blk (i := 2) B_f.out rfl
  have f3 : U9.cell? ⟨N_f, 3, none⟩ = some (.int .i64 k2) := cell_blk (i := 3) B_f.out rfl
  have u0 : U9.cell? ⟨N_u, 0, none⟩ = some (.int .i64 0) := cell_blk (i := 0) B_u.out rfl
  have u1 : U9.cell? ⟨N_u, 1, none⟩ = some (.int .i64 0) := cell_blk (i := 1) B_u.out rfl
  have p0 : U9.cell? ⟨N_p, 0, none⟩ = some (.int .i64 0) := cell_blk (i := 0) B_p.out rfl
  have p1 : U9.cell? ⟨N_p, 1, none⟩ = some (.int .i64 0) := cell_blk (i := 1) B_p.out rfl
  have p2 : U9.cell? ⟨N_p, 2, none⟩ = some (.int .u64 0) := cell_blk (i := 2) B_p.out rfl
  have p3 : U9.cell? ⟨N_p, 3, none⟩ = some (.int .i64 0) := cell_blk (i := 3) B_p.out rfl
  have r0 : U9.cell? ⟨N_r, 0, none⟩ = some (.int .i64 0) := cell_blk (i := 0) B_r.out rfl
  have r1 : U9.cell? ⟨N_r, 1, none⟩ = some (.int .i64 0) := cell_blk (i := 1) B_r.out rfl
  have r2 : U9.cell? ⟨N_r, 2, none⟩ = some (.int .u64 0) := cell_blk (i := 2) B_r.out rfl
  have r3 : U9.cell? ⟨N_r, 3, none⟩ = some (.int .i64 0) := cell_blk (i := 3) B_r.out rfl
  go_wp2
  go_ret
  exact ⟨rfl, HBel.out⟩
set_option maxRecDepth 100000 in
set_option maxHeartbeats 4000000 in
theorem walk_low (g c : Nat) (mn0 mx0 : Int) (a1 : Int) (x2 y2 : Int) (m2 : Nat) (k2 : Int) (w : World) (w0 : Shp.Wf ⟨g, c, mn0, mx0⟩) (hT : Tab w) (hok : Shp.ok ⟨g, c, mn0, mx0⟩ = true) (wm : m2 < 18446744073709551616) (wk : (Lit.int .i64 k2).wf = true) (ha : a1 < 0) :
    Calls Tryd.prog 3 #[.agg #[.int .i64 (g : Int), .int .i64 (c : Int), .int .i64 mn0, .int .i64 mx0], .int .i64 a1, .agg #[.int .i64 x2, .int .i64 y2, .int .u64 (m2 : Nat), .int .i64 k2]] w fun e w' => e = .returned (.bool true) ∧ Below w.heap.size w w' := by
  have HT := Lib.hid hT
  have hAw := Lib.hid (fun W (hT : Tab W) => awake_any W hT)
  obtain ⟨N, E, p0, p1, p2, p3, r0, r1, r2, r3, hF', hF2', hP', hP2', _, hN⟩ := shape_both g c mn0 mx0 x2 y2 m2 k2 w w0 hok wm wk hT
  have hF := Lib.hid hF'; have hF2 := Lib.hid hF2'; have hP := Lib.hid hP'; have hP2 := Lib.hid hP2'
  have hR := Lib.hid (fun W => refright_any g c mn0 mx0 W w0)
  rw [hok] at hR
  have hC := Lib.hid (fun W => check_ok g c mn0 mx0 W w0 hok)
  have t1 : decide (a1 < 0) = true := decide_eq_true ha
  have hU := Lib.hid (fun W => units_low g c mn0 mx0 a1 W w0 hok ha)
  have e1 := units_eq 0 0
  have e2 := slot_ne p0 p1 p2 p3
  have e3 := free_ne r0 r1 r2 r3
  clear hF' hF2' hP' hP2' wm wk hok w0 hT
  have HBel := Lib.hid (Below.refl w.heap.size w)
  have hlow : w.heap.size ≤ w.heap.size := Nat.le_refl _
  go_enter Tryd.func3, Tryd.ntmps3
  go_wp2_with fail
  obtain ⟨V1, hV1⟩ : ∃ W, W = (w.alloc (.cells #[.int .i64 (g : Int), .int .i64 (c : Int), .int .i64 mn0, .int .i64 mx0] 23)).alloc (.cells #[.int .i64 x2, .int .i64 y2, .int .u64 (m2 : Nat), .int .i64 k2] 28) := ⟨_, rfl⟩
  rw [← hV1]
  have hzV1 : V1.heap.size = w.heap.size + 1 + 1 := by rw [hV1]; simp
  replace HBel : Hid (Below w.heap.size w V1) := Lib.hid (by rw [hV1]; exact ((HBel.out.alloc (hlow) _).alloc (by simp <;> omega) _))
  have B_s : Hid (V1.heap[w.heap.size]? = some (.cells #[.int .i64 (g : Int), .int .i64 (c : Int), .int .i64 mn0, .int .i64 mx0] 23 (0, 0))) := Lib.hid (by
    have h9 := heap_alloc_new (w) (.cells #[.int .i64 (g : Int), .int .i64 (c : Int), .int .i64 mn0, .int .i64 mx0] 23)
    rw [hV1]; exact ((Below.heap_alloc _ _ _ (by simp <;> omega)).trans h9))
  have B_f : Hid (V1.heap[w.heap.size + 1]? = some (.cells #[.int .i64 x2, .int .i64 y2, .int .u64 (m2 : Nat), .int .i64 k2] 28 (0, 0))) := Lib.hid (by
    have h9 := heap_alloc_new (w.alloc (.cells #[.int .i64 (g : Int), .int .i64 (c : Int), .int .i64 mn0, .int .i64 mx0] 23)) (.cells #[.int .i64 x2, .int .i64 y2, .int .u64 (m2 : Nat), .int .i64 k2] 28)
    rw [World.size_alloc] at h9
    rw [hV1]; exact h9)
  obtain ⟨N_s, hN_s⟩ : ∃ N, N = w.heap.size := ⟨_, rfl⟩
  obtain ⟨N_f, hN_f⟩ : ∃ N, N = w.heap.size + 1 := ⟨_, rfl⟩
  (try rw [← hN_f])
  rw [← hN_f] at B_f
  (try rw [← hN_s])
  rw [← hN_s] at B_s
  have l_s : N_s < V1.heap.size := by omega
  have l_f : N_f < V1.heap.size := by omega
  have g_s : w.heap.size ≤ N_s := by omega
  have g_f : w.heap.size ≤ N_f := by omega
  have d_s_f : N_s < N_f := by omega
  replace hlow : w.heap.size ≤ V1.heap.size := by omega
  clear hV1 hzV1 hN_s hN_f
  refine (hAw.out V1 (HT.out.below HBel.out HT.out.size)).mono ?_
  rintro e U2 ⟨rfl, hb9⟩
  have hs9 := hb9.size
  replace HBel := Lib.hid (HBel.out.trans (hb9.mono hlow))
  replace B_s : Hid (U2.heap[N_s]? = some (.cells #[.int .i64 (g : Int), .int .i64 (c : Int), .int .i64 mn0, .int .i64 mx0] 23 (0, 0))) := Lib.hid ((hb9.block _ l_s).trans B_s.out)
  replace B_f : Hid (U2.heap[N_f]? = some (.cells #[.int .i64 x2, .int .i64 y2, .int .u64 (m2 : Nat), .int .i64 k2] 28 (0, 0))) := Lib.hid ((hb9.block _ l_f).trans B_f.out)
  replace l_s : N_s < U2.heap.size := by omega
  replace l_f : N_f < U2.heap.size := by omega
  replace hlow : w.heap.size ≤ U2.heap.size := by omega
  clear hb9 hs9
  have s0 : U2.cell? ⟨N_s, 0, none⟩ = some (.int .i64 (g : Int)) := cell_blk (i := 0) B_s.out rfl
  have s1 : U2.cell? ⟨N_s, 1, none⟩ = some (.int .i64 (c : Int)) := cell_blk (i := 1) B_s.out rfl
  have s2 : U2.cell? ⟨N_s, 2, none⟩ = some (.int .i64 mn0) := cell_blk (i := 2) B_s.out rfl
  have s3 : U2.cell? ⟨N_s, 3, none⟩ = some (.int .i64 mx0) := cell_blk (i := 3) B_s.out rfl
  have f0 : U2.cell? ⟨N_f, 0, none⟩ = some (.int .i64 x2) := cell_blk (i := 0) B_f.out rfl
  have f1 : U2.cell? ⟨N_f, 1, none⟩ = some (.int .i64 y2) := cell_blk (i := 1) B_f.out rfl
  have f2 : U2.cell? ⟨N_f, 2, none⟩ = some (.int .u64 (m2 : Nat)) := cell_blk (i := 2) B_f.out rfl
  have f3 : U2.cell? ⟨N_f, 3, none⟩ = some (.int .i64 k2) := cell_blk (i := 3) B_f.out rfl
  go_wp2_with fail
  refine (hU.out _).mono ?_
  rintro e U3 ⟨rfl, hb9⟩
  clear s0 s1 s2 s3 f0 f1 f2 f3
  have hs9 := hb9.size
  replace HBel := Lib.hid (HBel.out.trans (hb9.mono hlow))
  replace B_s : Hid (U3.heap[N_s]? = some (.cells #[.int .i64 (g : Int), .int .i64 (c : Int), .int .i64 mn0, .int .i64 mx0] 23 (0, 0))) := Lib.hid ((hb9.block _ l_s).trans B_s.out)
  replace B_f : Hid (U3.heap[N_f]? = some (.cells #[.int .i64 x2, .int .i64 y2, .int .u64 (m2 : Nat), .int .i64 k2] 28 (0, 0))) := Lib.hid ((hb9.block _ l_f).trans B_f.out)
  replace l_s : N_s < U3.heap.size := by omega
  replace l_f : N_f < U3.heap.size := by omega
  replace hlow : w.heap.size ≤ U3.heap.size := by omega
  clear hb9 hs9
  have s0 : U3.cell? ⟨N_s, 0, none⟩ = some (.int .i64 (g : Int)) := cell_blk (i := 0) B_s.out rfl
  have s1 : U3.cell? ⟨N_s, 1, none⟩ = some (.int .i64 (c : Int)) := cell_blk (i := 1) B_s.out rfl
  have s2 : U3.cell? ⟨N_s, 2, none⟩ = some (.int .i64 mn0) := cell_blk (i := 2) B_s.out rfl
  have s3 : U3.cell? ⟨N_s, 3, none⟩ = some (.int .i64 mx0) := cell_blk (i := 3) B_s.out rfl
  have f0 : U3.cell? ⟨N_f, 0, none⟩ = some (.int .i64 x2) := cell_blk (i := 0) B_f.out rfl
  have f1 : U3.cell? ⟨N_f, 1, none⟩ = some (.int .i64 y2) := cell_blk (i := 1) B_f.out rfl
  have f2 : U3.cell? ⟨N_f, 2, none⟩ = some (.int .u64 (m2 : Nat)) := cell_blk (i := 2) B_f.out rfl
  have f3 : U3.cell? ⟨N_f, 3, none⟩ = some (.int .i64 k2) := cell_blk (i := 3) B_f.out rfl
  go_wp2_with fail
  clear s0 s1 s2 s3 f0 f1 f2 f3
  obtain ⟨V4, hV4⟩ : ∃ W, W = U3.alloc (.cells #[.int .i64 0, .int .i64 0] 31) := ⟨_, rfl⟩
  rw [← hV4]
  have hzV4 : V4.heap.size = U3.heap.size + 1 := by rw [hV4]; simp
  replace HBel : Hid (Below w.heap.size w V4) := Lib.hid (by rw [hV4]; exact (HBel.out.alloc (hlow) _))
  replace B_s : Hid (V4.heap[N_s]? = some (.cells #[.int .i64 (g : Int), .int .i64 (c : Int), .int .i64 mn0, .int .i64 mx0] 23 (0, 0))) := Lib.hid (by rw [hV4]; exact ((Below.heap_alloc _ _ _ (by first | omega | (simp <;> omega))).trans B_s.out))
  replace B_f : Hid (V4.heap[N_f]? = some (.cells #[.int .i64 x2, .int .i64 y2, .int .u64 (m2 : Nat), .int .i64 k2] 28 (0, 0))) := Lib.hid (by rw [hV4]; exact ((Below.heap_alloc _ _ _ (by first | omega | (simp <;> omega))).trans B_f.out))
  have B_u : Hid (V4.heap[U3.heap.size]? = some (.cells #[.int .i64 0, .int .i64 0] 31 (0, 0))) := Lib.hid (by
    have h9 := heap_alloc_new (U3) (.cells #[.int .i64 0, .int .i64 0] 31)
    rw [hV4]; exact h9)
  obtain ⟨N_u, hN_u⟩ : ∃ N, N = U3.heap.size := ⟨_, rfl⟩
  (try rw [← hN_u])
  rw [← hN_u] at B_u
  have d_s_u : N_s < N_u := by omega
  have d_f_u : N_f < N_u := by omega
  replace l_s : N_s < V4.heap.size := by omega
  replace l_f : N_f < V4.heap.size := by omega
  have l_u : N_u < V4.heap.size := by omega
  have g_u : w.heap.size ≤ N_u := by omega
  replace hlow : w.heap.size ≤ V4.heap.size := by omega
  clear hV4 hzV4 hN_u
  have s0 : V4.cell? ⟨N_s, 0, none⟩ = some (.int .i64 (g : Int)) := cell_blk (i := 0) B_s.out rfl
  have s1 : V4.cell? ⟨N_s, 1, none⟩ = some (.int .i64 (c : Int)) := cell_blk (i := 1) B_s.out rfl
  have s2 : V4.cell? ⟨N_s, 2, none⟩ = some (.int .i64 mn0) := cell_blk (i := 2) B_s.out rfl
  have s3 : V4.cell? ⟨N_s, 3, none⟩ = some (.int .i64 mx0) := cell_blk (i := 3) B_s.out rfl
  have f0 : V4.cell? ⟨N_f, 0, none⟩ = some (.int .i64 x2) := cell_blk (i := 0) B_f.out rfl
  have f1 : V4.cell? ⟨N_f, 1, none⟩ = some (.int .i64 y2) := cell_blk (i := 1) B_f.out rfl
  have f2 : V4.cell? ⟨N_f, 2, none⟩ = some (.int .u64 (m2 : Nat)) := cell_blk (i := 2) B_f.out rfl
  have f3 : V4.cell? ⟨N_f, 3, none⟩ = some (.int .i64 k2) := cell_blk (i := 3) B_f.out rfl
  refine (hP.out _ HBel.out).mono ?_
  rintro e U5 ⟨rfl, hb9⟩
  clear s0 s1 s2 s3 f0 f1 f2 f3
  have hs9 := hb9.size
  replace HBel := Lib.hid (HBel.out.trans (hb9.mono hlow))
  replace B_s : Hid (U5.heap[N_s]? = some (.cells #[.int .i64 (g : Int), .int .i64 (c : Int), .int .i64 mn0, .int .i64 mx0] 23 (0, 0))) := Lib.hid ((hb9.block _ l_s).trans B_s.out)
  replace B_f : Hid (U5.heap[N_f]? = some (.cells #[.int .i64 x2, .int .i64 y2, .int .u64 (m2 : Nat), .int .i64 k2] 28 (0, 0))) := Lib.hid ((hb9.block _ l_f).trans B_f.out)
  replace B_u : Hid (U5.heap[N_u]? = some (.cells #[.int .i64 0, .int .i64 0] 31 (0, 0))) := Lib.hid ((hb9.block _ l_u).trans B_u.out)
  replace l_s : N_s < U5.heap.size := by omega
  replace l_f : N_f < U5.heap.size := by omega
  replace l_u : N_u < U5.heap.size := by omega
  replace hlow : w.heap.size ≤ U5.heap.size := by omega
  clear hb9 hs9
  have s0 : U5.cell? ⟨N_s, 0, none⟩ = some (.int .i64 (g : Int)) := cell_blk (i := 0) B_s.out rfl
  have s1 : U5.cell? ⟨N_s, 1, none⟩ = some (.int .i64 (c : Int)) := cell_blk (i := 1) B_s.out rfl
  have s2 : U5.cell? ⟨N_s, 2, none⟩ = some (.int .i64 mn0) := cell_blk (i := 2) B_s.out rfl
  have s3 : U5.cell? ⟨N_s, 3, none⟩ = some (.int .i64 mx0) := cell_blk (i := 3) B_s.out rfl
  have l_s_0 : N_s < U5.heap.size + 1 := by omega
  have l_s_1 : N_s < U5.heap.size + 1 + 1 := by omega
  have f0 : U5.cell? ⟨N_f, 0, none⟩ = some (.int .i64 x2) := cell_blk (i := 0) B_f.out rfl
  have f1 : U5.cell? ⟨N_f, 1, none⟩ = some (.int .i64 y2) := cell_blk (i := 1) B_f.out rfl
  have f2 : U5.cell? ⟨N_f, 2, none⟩ = some (.int .u64 (m2 : Nat)) := cell_blk (i := 2) B_f.out rfl
  have f3 : U5.cell? ⟨N_f, 3, none⟩ = some (.int .i64 k2) := cell_blk (i := 3) B_f.out rfl
  have l_f_0 : N_f < U5.heap.size + 1 := by omega
  have l_f_1 : N_f < U5.heap.size + 1 + 1 := by omega
  go_wp2_with fail
  clear s0 s1 s2 s3 l_s_0 l_s_1 f0 f1 f2 f3 l_f_0 l_f_1
  obtain ⟨V6, hV6⟩ : ∃ W, W = (U5.alloc (.cells #[.int .i64 p0, .int .i64 p1, .int .u64 p2, .int .i64 p3] 35)).alloc (.cells #[.int .i64 r0, .int .i64 r1, .int .u64 r2, .int .i64 r3] 28) := ⟨_, rfl⟩
  rw [← hV6]
  have hzV6 : V6.heap.size = U5.heap.size + 1 + 1 := by rw [hV6]; simp
  replace HBel : Hid (Below w.heap.size w V6) := Lib.hid (by rw [hV6]; exact ((HBel.out.alloc (hlow) _).alloc (by simp <;> omega) _))
  replace B_s : Hid (V6.heap[N_s]? = some (.cells #[.int .i64 (g : Int), .int .i64 (c : Int), .int .i64 mn0, .int .i64 mx0] 23 (0, 0))) := Lib.hid (by rw [hV6]; exact ((Below.heap_alloc _ _ _ (by first | omega | (simp <;> omega))).trans ((Below.heap_alloc _ _ _ (by first | omega | (simp <;> omega))).trans B_s.out)))
  replace B_f : Hid (V6.heap[N_f]? = some (.cells #[.int .i64 x2, .int .i64 y2, .int .u64 (m2 : Nat), .int .i64 k2] 28 (0, 0))) := Lib.hid (by rw [hV6]; exact ((Below.heap_alloc _ _ _ (by first | omega | (simp <;> omega))).trans ((Below.heap_alloc _ _ _ (by first | omega | (simp <;> omega))).trans B_f.out)))
  replace B_u : Hid (V6.heap[N_u]? = some (.cells #[.int .i64 0, .int .i64 0] 31 (0, 0))) := Lib.hid (by rw [hV6]; exact ((Below.heap_alloc _ _ _ (by first | omega | (simp <;> omega))).trans ((Below.heap_alloc _ _ _ (by first | omega | (simp <;> omega))).trans B_u.out)))
  have B_p : Hid (V6.heap[U5.heap.size]? = some (.cells #[.int .i64 p0, .int .i64 p1, .int .u64 p2, .int .i64 p3] 35 (0, 0))) := Lib.hid (by
    have h9 := heap_alloc_new (U5) (.cells #[.int .i64 p0, .int .i64 p1, .int .u64 p2, .int .i64 p3] 35)
    rw [hV6]; exact ((Below.heap_alloc _ _ _ (by simp <;> omega)).trans h9))
  have B_r : Hid (V6.heap[U5.heap.size + 1]? = some (.cells #[.int .i64 r0, .int .i64 r1, .int .u64 r2, .int .i64 r3] 28 (0, 0))) := Lib.hid (by
    have h9 := heap_alloc_new (U5.alloc (.cells #[.int .i64 p0, .int .i64 p1, .int .u64 p2, .int .i64 p3] 35)) (.cells #[.int .i64 r0, .int .i64 r1, .int .u64 r2, .int .i64 r3] 28)
    rw [World.size_alloc] at h9
    rw [hV6]; exact h9)
  obtain ⟨N_p, hN_p⟩ : ∃ N, N = U5.heap.size := ⟨_, rfl⟩
  obtain ⟨N_r, hN_r⟩ : ∃ N, N = U5.heap.size + 1 := ⟨_, rfl⟩
  (try rw [← hN_r])
  rw [← hN_r] at B_r
  (try rw [← hN_p])
  rw [← hN_p] at B_p
  have d_s_p : N_s < N_p := by omega
  have d_f_p : N_f < N_p := by omega
  have d_u_p : N_u < N_p := by omega
  have d_s_r : N_s < N_r := by omega
  have d_f_r : N_f < N_r := by omega
  have d_u_r : N_u < N_r := by omega
  replace l_s : N_s < V6.heap.size := by omega
  replace l_f : N_f < V6.heap.size := by omega
  replace l_u : N_u < V6.heap.size := by omega
  have l_p : N_p < V6.heap.size := by omega
  have l_r : N_r < V6.heap.size := by omega
  have g_p : w.heap.size ≤ N_p := by omega
  have g_r : w.heap.size ≤ N_r := by omega
  have d_p_r : N_p < N_r := by omega
  replace hlow : w.heap.size ≤ V6.heap.size := by omega
  clear hV6 hzV6 hN_p hN_r
  refine (hR.out _).mono ?_
  rintro e U7 ⟨rfl, hb9⟩
  have hs9 := hb9.size
  replace HBel := Lib.hid (HBel.out.trans (hb9.mono hlow))
  replace B_s : Hid (U7.heap[N_s]? = some (.cells #[.int .i64 (g : Int), .int .i64 (c : Int), .int .i64 mn0, .int .i64 mx0] 23 (0, 0))) := Lib.hid ((hb9.block _ l_s).trans B_s.out)
  replace B_f : Hid (U7.heap[N_f]? = some (.cells #[.int .i64 x2, .int .i64 y2, .int .u64 (m2 : Nat), .int .i64 k2] 28 (0, 0))) := Lib.hid ((hb9.block _ l_f).trans B_f.out)
  replace B_u : Hid (U7.heap[N_u]? = some (.cells #[.int .i64 0, .int .i64 0] 31 (0, 0))) := Lib.hid ((hb9.block _ l_u).trans B_u.out)
  replace B_p : Hid (U7.heap[N_p]? = some (.cells #[.int .i64 p0, .int .i64 p1, .int .u64 p2, .int .i64 p3] 35 (0, 0))) := Lib.hid ((hb9.block _ l_p).trans B_p.out)
  replace B_r : Hid (U7.heap[N_r]? = some (.cells #[.int .i64 r0, .int .i64 r1, .int .u64 r2, .int .i64 r3] 28 (0, 0))) := Lib.hid ((hb9.block _ l_r).trans B_r.out)
  replace l_s : N_s < U7.heap.size := by omega
  replace l_f : N_f < U7.heap.size := by omega
  replace l_u : N_u < U7.heap.size := by omega
  replace l_p : N_p < U7.heap.size := by omega
  replace l_r : N_r < U7.heap.size := by omega
  replace hlow : w.heap.size ≤ U7.heap.size := by omega
  clear hb9 hs9
  have s0 : U7.cell? ⟨N_s, 0, none⟩ = some (.int .i64 (g : Int)) := cell_blk (i := 0) B_s.out rfl
  have s1 : U7.cell? ⟨N_s, 1, none⟩ = some (.int .i64 (c : Int)) := cell_blk (i := 1) B_s.out rfl
  have s2 : U7.cell? ⟨N_s, 2, none⟩ = some (.int .i64 mn0) := cell_blk (i := 2) B_s.out rfl
  have s3 : U7.cell? ⟨N_s, 3, none⟩ = some (.int .i64 mx0) := cell_blk (i := 3) B_s.out rfl
  have f0 : U7.cell? ⟨N_f, 0, none⟩ = some (.int .i64 x2) := cell_blk (i := 0) B_f.out rfl
  have f1 : U7.cell? ⟨N_f, 1, none⟩ = some (.int .i64 y2) := cell_blk (i := 1) B_f.out rfl
  have f2 : U7.cell? ⟨N_f, 2, none⟩ = some (.int .u64 (m2 : Nat)) := cell_blk (i := 2) B_f.out rfl
  have f3 : U7.cell? ⟨N_f, 3, none⟩ = some (.int .i64 k2) := cell_blk (i := 3) B_f.out rfl
  go_wp2_with fail
  clear s0 s1 s2 s3 f0 f1 f2 f3
  have s0 : U7.cell? ⟨N_s, 0, none⟩ = some (.int .i64 (g : Int)) := cell_blk (i := 0) B_s.out rfl
  have s1 : U7.cell? ⟨N_s, 1, none⟩ = some (.int .i64 (c : Int)) := cell_blk (i := 1) B_s.out rfl
  have s2 : U7.cell? ⟨N_s, 2, none⟩ = some (.int .i64 mn0) := cell_blk (i := 2) B_s.out rfl
  have s3 : U7.cell? ⟨N_s, 3, none⟩ = some (.int .i64 mx0) := cell_blk (i := 3) B_s.out rfl
  have f0 : U7.cell? ⟨N_f, 0, none⟩ = some (.int .i64 x2) := cell_blk (i := 0) B_f.out rfl
  have f1 : U7.cell? ⟨N_f, 1, none⟩ = some (.int .i64 y2) := cell_blk (i := 1) B_f.out rfl
  have f2 : U7.cell? ⟨N_f, 2, none⟩ = some (.int .u64 (m2 : Nat)) := cell_blk (i := 2) B_f.out rfl
  have f3 : U7.cell? ⟨N_f, 3, none⟩ = some (.int .i64 k2) := cell_blk (i := 3) B_f.out rfl
  refine held_begin (fun w' : World => w'.cell? ⟨N_s, 0, none⟩ = some (.int .i64 (g : Int)) ∧ w'.cell? ⟨N_s, 1, none⟩ = some (.int .i64 (c : Int)) ∧ w'.cell? ⟨N_s, 2, none⟩ = some (.int .i64 mn0) ∧ w'.cell? ⟨N_s, 3, none⟩ = some (.int .i64 mx0) ∧ w'.cell? ⟨N_f, 0, none⟩ = some (.int .i64 x2) ∧ w'.cell? ⟨N_f, 1, none⟩ = some (.int .i64 y2) ∧ w'.cell? ⟨N_f, 2, none⟩ = some (.int .u64 (m2 : Nat)) ∧ w'.cell? ⟨N_f, 3, none⟩ = some (.int .i64 k2)) (by kernel_rfl) ?_
  have hBh0 : Below U7.heap.size U7 U7.drew := (Below.refl _ _).drew
  have hSh0 : (fun w' : World => w'.cell? ⟨N_s, 0, none⟩ = some (.int .i64 (g : Int)) ∧ w'.cell? ⟨N_s, 1, none⟩ = some (.int .i64 (c : Int)) ∧ w'.cell? ⟨N_s, 2, none⟩ = some (.int .i64 mn0) ∧ w'.cell? ⟨N_s, 3, none⟩ = some (.int .i64 mx0) ∧ w'.cell? ⟨N_f, 0, none⟩ = some (.int .i64 x2) ∧ w'.cell? ⟨N_f, 1, none⟩ = some (.int .i64 y2) ∧ w'.cell? ⟨N_f, 2, none⟩ = some (.int .u64 (m2 : Nat)) ∧ w'.cell? ⟨N_f, 3, none⟩ = some (.int .i64 k2)) U7.drew := ⟨s0, s1, s2, s3, f0, f1, f2, f3⟩
  refine held_take (v := ?_) 0 65 rfl rfl (by kernel_rfl) (by kernel_rfl) (by kernel_rfl) (fun _ _ _ h => h) ⟨by rfl, ?_⟩ hSh0 ?_
  rotate_left
  · intro w' hw'; obtain ⟨x0, x1, x2, x3, x4, x5, x6, x7⟩ := hw'; go_simp; (try with_reducible rfl)
  simp only [Act.put, List.setIfInBounds_toArray, List.set_cons_zero, List.set_cons_succ]
  refine held_one 1 rfl (by kernel_rfl) (by rfl) (fun K hK => ?_)
  go_simp
  go_at_call 12
  refine (hC.out _).mono ?_
  rintro e wh1 ⟨rfl, hbh1⟩
  have hBh1 : Below U7.heap.size U7 wh1 := below_step hBh0 hbh1
  have hSh1 : (fun w' : World => w'.cell? ⟨N_s, 0, none⟩ = some (.int .i64 (g : Int)) ∧ w'.cell? ⟨N_s, 1, none⟩ = some (.int .i64 (c : Int)) ∧ w'.cell? ⟨N_s, 2, none⟩ = some (.int .i64 mn0) ∧ w'.cell? ⟨N_s, 3, none⟩ = some (.int .i64 mx0) ∧ w'.cell? ⟨N_f, 0, none⟩ = some (.int .i64 x2) ∧ w'.cell? ⟨N_f, 1, none⟩ = some (.int .i64 y2) ∧ w'.cell? ⟨N_f, 2, none⟩ = some (.int .u64 (m2 : Nat)) ∧ w'.cell? ⟨N_f, 3, none⟩ = some (.int .i64 k2)) wh1 := ⟨(hBh1.cell (p := ⟨N_s, 0, none⟩) (show N_s < U7.heap.size by omega)).trans s0, (hBh1.cell (p := ⟨N_s, 1, none⟩) (show N_s < U7.heap.size by omega)).trans s1, (hBh1.cell (p := ⟨N_s, 2, none⟩) (show N_s < U7.heap.size by omega)).trans s2, (hBh1.cell (p := ⟨N_s, 3, none⟩) (show N_s < U7.heap.size by omega)).trans s3, (hBh1.cell (p := ⟨N_f, 0, none⟩) (show N_f < U7.heap.size by omega)).trans f0, (hBh1.cell (p := ⟨N_f, 1, none⟩) (show N_f < U7.heap.size by omega)).trans f1, (hBh1.cell (p := ⟨N_f, 2, none⟩) (show N_f < U7.heap.size by omega)).trans f2, (hBh1.cell (p := ⟨N_f, 3, none⟩) (show N_f < U7.heap.size by omega)).trans f3⟩
  refine hK.out _ _ hSh1 ?_
  clear hK K
  refine held_take (v := ?_) 2 67 rfl rfl (by kernel_rfl) (by kernel_rfl) (by kernel_rfl) (fun _ _ _ h => h) ⟨by rfl, ?_⟩ hSh1 ?_
  rotate_left
  · intro w' hw'; obtain ⟨x0, x1, x2, x3, x4, x5, x6, x7⟩ := hw'; go_simp; (try with_reducible rfl)
  simp only [Act.put, List.setIfInBounds_toArray, List.set_cons_zero, List.set_cons_succ]
  refine held_take (v := ?_) 3 68 rfl rfl (by kernel_rfl) (by kernel_rfl) (by kernel_rfl) (fun _ _ _ h => h) ⟨by rfl, ?_⟩ hSh1 ?_
  rotate_left
  · intro w' hw'; obtain ⟨x0, x1, x2, x3, x4, x5, x6, x7⟩ := hw'; go_simp; (try with_reducible rfl)
  simp only [Act.put, List.setIfInBounds_toArray, List.set_cons_zero, List.set_cons_succ]
  refine held_take (v := ?_) 4 69 rfl rfl (by kernel_rfl) (by kernel_rfl) (by kernel_rfl) (fun _ _ _ h => h) ⟨by rfl, ?_⟩ hSh1 ?_
  rotate_left
  · intro w' hw'; obtain ⟨x0, x1, x2, x3, x4, x5, x6, x7⟩ := hw'; go_simp; (try with_reducible rfl)
  simp only [Act.put, List.setIfInBounds_toArray, List.set_cons_zero, List.set_cons_succ]
  refine held_take (v := ?_) 5 70 rfl rfl (by kernel_rfl) (by kernel_rfl) (by kernel_rfl) (fun _ _ _ h => h) ⟨by rfl, ?_⟩ hSh1 ?_
  rotate_left
  · intro w' hw'; obtain ⟨x0, x1, x2, x3, x4, x5, x6, x7⟩ := hw'; go_simp; (try with_reducible rfl)
  simp only [Act.put, List.setIfInBounds_toArray, List.set_cons_zero, List.set_cons_succ]
  refine held_take (v := ?_) 7 72 rfl rfl (by kernel_rfl) (by kernel_rfl) (by kernel_rfl) (fun _ _ _ h => h) ⟨by rfl, ?_⟩ hSh1 ?_
  rotate_left
  · intro w' hw'; obtain ⟨x0, x1, x2, x3, x4, x5, x6, x7⟩ := hw'; go_simp; (try with_reducible rfl)
  simp only [Act.put, List.setIfInBounds_toArray, List.set_cons_zero, List.set_cons_succ]
  refine held_take (v := ?_) 8 73 rfl rfl (by kernel_rfl) (by kernel_rfl) (by kernel_rfl) (fun _ _ _ h => h) ⟨by rfl, ?_⟩ hSh1 ?_
  rotate_left
  · intro w' hw'; obtain ⟨x0, x1, x2, x3, x4, x5, x6, x7⟩ := hw'; go_simp; (try with_reducible rfl)
  simp only [Act.put, List.setIfInBounds_toArray, List.set_cons_zero, List.set_cons_succ]
  refine held_one 6 rfl (by kernel_rfl) (by rfl) (fun K hK => ?_)
  go_simp
  go_at_call 13
  refine (hF.out _ (HBel.out.trans (hBh1.mono hlow))).mono ?_
  rintro e wh2 ⟨rfl, hbh2⟩
  have hBh2 : Below U7.heap.size U7 wh2 := below_step hBh1 hbh2
  have hSh2 : (fun w' : World => w'.cell? ⟨N_s, 0, none⟩ = some (.int .i64 (g : Int)) ∧ w'.cell? ⟨N_s, 1, none⟩ = some (.int .i64 (c : Int)) ∧ w'.cell? ⟨N_s, 2, none⟩ = some (.int .i64 mn0) ∧ w'.cell? ⟨N_s, 3, none⟩ = some (.int .i64 mx0) ∧ w'.cell? ⟨N_f, 0, none⟩ = some (.int .i64 x2) ∧ w'.cell? ⟨N_f, 1, none⟩ = some (.int .i64 y2) ∧ w'.cell? ⟨N_f, 2, none⟩ = some (.int .u64 (m2 : Nat)) ∧ w'.cell? ⟨N_f, 3, none⟩ = some (.int .i64 k2)) wh2 := ⟨(hBh2.cell (p := ⟨N_s, 0, none⟩) (show N_s < U7.heap.size by omega)).trans s0, (hBh2.cell (p := ⟨N_s, 1, none⟩) (show N_s < U7.heap.size by omega)).trans s1, (hBh2.cell (p := ⟨N_s, 2, none⟩) (show N_s < U7.heap.size by omega)).trans s2, (hBh2.cell (p := ⟨N_s, 3, none⟩) (show N_s < U7.heap.size by omega)).trans s3, (hBh2.cell (p := ⟨N_f, 0, none⟩) (show N_f < U7.heap.size by omega)).trans f0, (hBh2.cell (p := ⟨N_f, 1, none⟩) (show N_f < U7.heap.size by omega)).trans f1, (hBh2.cell (p := ⟨N_f, 2, none⟩) (show N_f < U7.heap.size by omega)).trans f2, (hBh2.cell (p := ⟨N_f, 3, none⟩) (show N_f < U7.heap.size by omega)).trans f3⟩
  refine hK.out _ _ hSh2 ?_
  clear hK K
  refine held_one 9 rfl (by kernel_rfl) (by rfl) (fun K hK => ?_)
  go_simp
  go_at_call 14
  refine (hF2.out _ (HBel.out.trans (hBh2.mono hlow))).mono ?_
  rintro e wh3 ⟨rfl, hbh3⟩
  have hBh3 : Below U7.heap.size U7 wh3 := below_step hBh2 hbh3
  have hSh3 : (fun w' : World => w'.cell? ⟨N_s, 0, none⟩ = some (.int .i64 (g : Int)) ∧ w'.cell? ⟨N_s, 1, none⟩ = some (.int .i64 (c : Int)) ∧ w'.cell? ⟨N_s, 2, none⟩ = some (.int .i64 mn0) ∧ w'.cell? ⟨N_s, 3, none⟩ = some (.int .i64 mx0) ∧ w'.cell? ⟨N_f, 0, none⟩ = some (.int .i64 x2) ∧ w'.cell? ⟨N_f, 1, none⟩ = some (.int .i64 y2) ∧ w'.cell? ⟨N_f, 2, none⟩ = some (.int .u64 (m2 : Nat)) ∧ w'.cell? ⟨N_f, 3, none⟩ = some (.int .i64 k2)) wh3 := ⟨(hBh3.cell (p := ⟨N_s, 0, none⟩) (show N_s < U7.heap.size by omega)).trans s0, (hBh3.cell (p := ⟨N_s, 1, none⟩) (show N_s < U7.heap.size by omega)).trans s1, (hBh3.cell (p := ⟨N_s, 2, none⟩) (show N_s < U7.heap.size by omega)).trans s2, (hBh3.cell (p := ⟨N_s, 3, none⟩) (show N_s < U7.heap.size by omega)).trans s3, (hBh3.cell (p := ⟨N_f, 0, none⟩) (show N_f < U7.heap.size by omega)).trans f0, (hBh3.cell (p := ⟨N_f, 1, none⟩) (show N_f < U7.heap.size by omega)).trans f1, (hBh3.cell (p := ⟨N_f, 2, none⟩) (show N_f < U7.heap.size by omega)).trans f2, (hBh3.cell (p := ⟨N_f, 3, none⟩) (show N_f < U7.heap.size by omega)).trans f3⟩
  refine hK.out _ _ hSh3 ?_
  clear hK K
  refine held_take (v := ?_) 10 75 rfl rfl (by kernel_rfl) (by kernel_rfl) (by kernel_rfl) (fun _ _ _ h => h) ⟨by rfl, ?_⟩ hSh3 ?_
  rotate_left
  · intro w' hw'; obtain ⟨x0, x1, x2, x3, x4, x5, x6, x7⟩ := hw'; go_simp; (try with_reducible rfl)
  simp only [Act.put, List.setIfInBounds_toArray, List.set_cons_zero, List.set_cons_succ]
  refine held_take (v := ?_) 11 76 rfl rfl (by kernel_rfl) (by kernel_rfl) (by kernel_rfl) (fun _ _ _ h => h) ⟨by rfl, ?_⟩ hSh3 ?_
  rotate_left
  · intro w' hw'; obtain ⟨x0, x1, x2, x3, x4, x5, x6, x7⟩ := hw'; go_simp; (try with_reducible rfl)
  simp only [Act.put, List.setIfInBounds_toArray, List.set_cons_zero, List.set_cons_succ]
  refine wpAnyH_done (by kernel_rfl) ?_ _
  have hb9 := hBh3
  clear s0 s1 s2 s3 f0 f1 f2 f3
  have hs9 := hb9.size
  replace HBel := Lib.hid (HBel.out.trans (hb9.mono hlow))
  replace B_s : Hid (wh3.heap[N_s]? = some (.cells #[.int .i64 (g : Int), .int .i64 (c : Int), .int .i64 mn0, .int .i64 mx0] 23 (0, 0))) := Lib.hid ((hb9.block _ l_s).trans B_s.out)
  replace B_f : Hid (wh3.heap[N_f]? = some (.cells #[.int .i64 x2, .int .i64 y2, .int .u64 (m2 : Nat), .int .i64 k2] 28 (0, 0))) := Lib.hid ((hb9.block _ l_f).trans B_f.out)
  replace B_u : Hid (wh3.heap[N_u]? = some (.cells #[.int .i64 0, .int .i64 0] 31 (0, 0))) := Lib.hid ((hb9.block _ l_u).trans B_u.out)
  replace B_p : Hid (wh3.heap[N_p]? = some (.cells #[.int .i64 p0, .int .i64 p1, .int .u64 p2, .int .i64 p3] 35 (0, 0))) := Lib.hid ((hb9.block _ l_p).trans B_p.out)
  replace B_r : Hid (wh3.heap[N_r]? = some (.cells #[.int .i64 r0, .int .i64 r1, .int .u64 r2, .int .i64 r3] 28 (0, 0))) := Lib.hid ((hb9.block _ l_r).trans B_r.out)
  replace l_s : N_s < wh3.heap.size := by omega
  replace l_f : N_f < wh3.heap.size := by omega
  replace l_u : N_u < wh3.heap.size := by omega
  replace l_p : N_p < wh3.heap.size := by omega
  replace l_r : N_r < wh3.heap.size := by omega
  replace hlow : w.heap.size ≤ wh3.heap.size := by omega
  clear hb9 hs9 hSh0 hBh0 hSh1 hBh1 hSh2 hBh2 hSh3 hBh3
  have s0 : wh3.cell? ⟨N_s, 0, none⟩ = some (.int .i64 (g : Int)) := cell_blk (i := 0) B_s.out rfl
  have s1 : wh3.cell? ⟨N_s, 1, none⟩ = some (.int .i64 (c : Int)) := cell_blk (i := 1) B_s.out rfl
  have s2 : wh3.cell? ⟨N_s, 2, none⟩ = some (.int .i64 mn0) := cell_blk (i := 2) B_s.out rfl
  have s3 : wh3.cell? ⟨N_s, 3, none⟩ = some (.int .i64 mx0) := cell_blk (i := 3) B_s.out rfl
  have f0 : wh3.cell? ⟨N_f, 0, none⟩ = some (.int .i64 x2) := cell_blk (i := 0) B_f.out rfl
  have f1 : wh3.cell? ⟨N_f, 1, none⟩ = some (.int .i64 y2) := cell_blk (i := 1) B_f.out rfl
  have f2 : wh3.cell? ⟨N_f, 2, none⟩ = some (.int .u64 (m2 : Nat)) := cell_blk (i := 2) B_f.out rfl
  have f3 : wh3.cell? ⟨N_f, 3, none⟩ = some (.int .i64 k2) := cell_blk (i := 3) B_f.out rfl
  have u0 : wh3.cell? ⟨N_u, 0, none⟩ = some (.int .i64 0) := cell_blk (i := 0) B_u.out rfl
  have u1 : wh3.cell? ⟨N_u, 1, none⟩ = some (.int .i64 0) := cell_blk (i := 1) B_u.out rfl
  have p0 : wh3.cell? ⟨N_p, 0, none⟩ = some (.int .i64 p0) := cell_blk (i := 0) B_p.out rfl
  have p1 : wh3.cell? ⟨N_p, 1, none⟩ = some (.int .i64 p1) := cell_blk (i := 1) B_p.out rfl
  have p2 : wh3.cell? ⟨N_p, 2, none⟩ = some (.int .u64 p2) := cell_blk (i := 2) B_p.out rfl
  have p3 : wh3.cell? ⟨N_p, 3, none⟩ = some (.int .i64 p3) := cell_blk (i := 3) B_p.out rfl
  have r0 : wh3.cell? ⟨N_r, 0, none⟩ = some (.int .i64 r0) := cell_blk (i := 0) B_r.out rfl
  have r1 : wh3.cell? ⟨N_r, 1, none⟩ = some (.int .i64 r1) := cell_blk (i := 1) B_r.out rfl
  have r2 : wh3.cell? ⟨N_r, 2, none⟩ = some (.int .u64 r2) := cell_blk (i := 2) B_r.out rfl
  have r3 : wh3.cell? ⟨N_r, 3, none⟩ = some (.int .i64 r3) := cell_blk (i := 3) B_r.out rfl
  go_wp2_with fail
  refine (hP2.out _ HBel.out).mono ?_
  rintro e U9 ⟨rfl, hb9⟩
  clear s0 s1 s2 s3 f0 f1 f2 f3 u0 u1 p0 p1 p2 p3 r0 r1 r2 r3
  have hs9 := hb9.size
  replace HBel := Lib.hid (HBel.out.trans (hb9.mono hlow))
  replace B_s : Hid (U9.heap[N_s]? = some (.cells #[.int .i64 (g : Int), .int .i64 (c : Int), .int .i64 mn0, .int .i64 mx0] 23 (0, 0))) := Lib.hid ((hb9.block _ l_s).trans B_s.out)
  replace B_f : Hid (U9.heap[N_f]? = some (.cells #[.int .i64 x2, .int .i64 y2, .int .u64 (m2 : Nat), .int .i64 k2] 28 (0, 0))) := Lib.hid ((hb9.block _ l_f).trans B_f.out)
  replace B_u : Hid (U9.heap[N_u]? = some (.cells #[.int .i64 0, .int .i64 0] 31 (0, 0))) := Lib.hid ((hb9.block _ l_u).trans B_u.out)
  replace B_p : Hid (U9.heap[N_p]? = some (.cells #[.int .i64 p0, .int .i64 p1, .int .u64 p2, .int .i64 p3] 35 (0, 0))) := Lib.hid ((hb9.block _ l_p).trans B_p.out)
  replace B_r : Hid (U9.heap[N_r]? = some (.cells #[.int .i64 r0, .int .i64 r1, .int .u64 r2, .int .i64 r3] 28 (0, 0))) := Lib.hid ((hb9.block _ l_r).trans B_r.out)
  replace l_s : N_s < U9.heap.size := by omega
  replace l_f : N_f < U9.heap.size := by omega
  replace l_u : N_u < U9.heap.size := by omega
  replace l_p : N_p < U9.heap.size := by omega
  replace l_r : N_r < U9.heap.size := by omega
  replace hlow : w.heap.size ≤ U9.heap.size := by omega
  clear hb9 hs9
  have s0 : U9.cell? ⟨N_s, 0, none⟩ = some (.int .i64 (g : Int)) := cell_blk (i := 0) B_s.out rfl
  have s1 : U9.cell? ⟨N_s, 1, none⟩ = some (.int .i64 (c : Int)) := cell_blk (i := 1) B_s.out rfl
  have s2 : U9.cell? ⟨N_s, 2, none⟩ = some (.int .i64 mn0) := cell_blk (i := 2) B_s.out rfl
  have s3 : U9.cell? ⟨N_s, 3, none⟩ = some (.int .i64 mx0) := cell_blk (i := 3) B_s.out rfl
  have l_s_0 : N_s < U9.heap.size + 1 := by omega
  have l_s_1 : N_s < U9.heap.size + 1 + 1 := by omega
  have f0 : U9.cell? ⟨N_f, 0, none⟩ = some (.int .i64 x2) := cell_blk (i := 0) B_f.out rfl
  have f1 : U9.cell? ⟨N_f, 1, none⟩ = some (.int .i64 y2) := cell_blk (i := 1) B_f.out rfl
  have f2 : U9.cell? ⟨N_f, 2, none⟩ = some (.int .u64 (m2 : Nat)) := cell_blk (i := 2) B_f.out rfl
  have f3 : U9.cell? ⟨N_f, 3, none⟩ = some (.int .i64 k2) := cell_blk (i := 3) B_f.out rfl
  have l_f_0 : N_f < U9.heap.size + 1 := by omega
  have l_f_1 : N_f < U9.heap.size + 1 + 1 := by omega
  have u0 : U9.cell? ⟨N_u, 0, none⟩ = some (.int .i64 0) := cell_blk (i := 0) B_u.out rfl
  have u1 : U9.cell? ⟨N_u, 1, none⟩ = some (.int .i64 0) := cell_blk (i := 1) B_u.out rfl
  have l_u_0 : N_u < U9.heap.size + 1 := by omega
  have l_u_1 : N_u < U9.heap.size + 1 + 1 := by omega
  have p0 : U9.cell? ⟨N_p, 0, none⟩ = some (.int .i64 p0) := cell_blk (i := 0) B_p.out rfl
  have p1 : U9.cell? ⟨N_p, 1, none⟩ = some (.int .i64 p1) := cell_blk (i := 1) B_p.out rfl
  have p2 : U9.cell? ⟨N_p, 2, none⟩ = some (.int .u64 p2) := cell_blk (i := 2) B_p.out rfl
  have p3 : U9.cell? ⟨N_p, 3, none⟩ = some (.int .i64 p3) := cell_blk (i := 3) B_p.out rfl
  have l_p_0 : N_p < U9.heap.size + 1 := by omega
  have l_p_1 : N_p < U9.heap.size + 1 + 1 := by omega
  have r0 : U9.cell? ⟨N_r, 0, none⟩ = some (.int .i64 r0) := cell_blk (i := 0) B_r.out rfl
  have r1 : U9.cell? ⟨N_r, 1, none⟩ = some (.int .i64 r1) := cell_blk (i := 1) B_r.out rfl
  have r2 : U9.cell? ⟨N_r, 2, none⟩ = some (.int .u64 r2) := cell_blk (i := 2) B_r.out rfl
  have r3 : U9.cell? ⟨N_r, 3, none⟩ = some (.int .i64 r3) := cell_blk (i := 3) B_r.out rfl
  have l_r_0 : N_r < U9.heap.size + 1 := by omega
  have l_r_1 : N_r < U9.heap.size + 1 + 1 := by omega
  go_wp2_with fail
  go_ret
  exact ⟨rfl, (HBel.out.alloc hlow _).alloc (by simp <;> omega) _⟩
set_option maxRecDepth 100000 in
set_option maxHeartbeats 4000000 in
theorem walk_high (g c : Nat) (mn0 mx0 : Int) (a1 : Int) (x2 y2 : Int) (m2 : Nat) (k2 : Int) (w : World) (w0 : Shp.Wf ⟨g, c, mn0, mx0⟩) (hT : Tab w) (hok : Shp.ok ⟨g, c, mn0, mx0⟩ = true) (wm : m2 < 18446744073709551616) (wk : (Lit.int .i64 k2).wf = true) (ha : 16 < a1) :
    Calls Tryd.prog 3 #[.agg #[.int .i64 (g : Int), .int .i64 (c : Int), .int .i64 mn0, .int .i64 mx0], .int .i64 a1, .agg #[.int .i64 x2, .int .i64 y2, .int .u64 (m2 : Nat), .int .i64 k2]] w fun e w' => e = .returned (.bool true) ∧ Below w.heap.size w w' := by
  have HT := Lib.hid hT
  have hAw := Lib.hid (fun W (hT : Tab W) => awake_any W hT)
  obtain ⟨N, E, p0, p1, p2, p3, r0, r1, r2, r3, hF', hF2', hP', hP2', _, hN⟩ := shape_both g c mn0 mx0 x2 y2 m2 k2 w w0 hok wm wk hT
  have hF := Lib.hid hF'; have hF2 := Lib.hid hF2'; have hP := Lib.hid hP'; have hP2 := Lib.hid hP2'
  have hR := Lib.hid (fun W => refright_any g c mn0 mx0 W w0)
  rw [hok] at hR
  have hC := Lib.hid (fun W => check_ok g c mn0 mx0 W w0 hok)
  have t1 : decide (a1 < 0) = false := decide_eq_false (by omega)
  have t2 : decide (16 < a1) = true := decide_eq_true ha
  have hU := Lib.hid (fun W => units_high g c mn0 mx0 a1 W w0 hok ha)
  have e1 := units_eq 0 0
  have e2 := slot_ne p0 p1 p2 p3
  have e3 := free_ne r0 r1 r2 r3
  clear hF' hF2' hP' hP2' wm wk hok w0 hT
  have HBel := Lib.hid (Below.refl w.heap.size w)
  have hlow : w.heap.size ≤ w.heap.size := Nat.le_refl _
  go_enter Tryd.func3, Tryd.ntmps3
  go_wp2_with fail
  obtain ⟨V1, hV1⟩ : ∃ W, W = (w.alloc (.cells #[.int .i64 (g : Int), .int .i64 (c : Int), .int .i64 mn0, .int .i64 mx0] 23)).alloc (.cells #[.int .i64 x2, .int .i64 y2, .int .u64 (m2 : Nat), .int .i64 k2] 28) := ⟨_, rfl⟩
  rw [← hV1]
  have hzV1 : V1.heap.size = w.heap.size + 1 + 1 := by rw [hV1]; simp
  replace HBel : Hid (Below w.heap.size w V1) := Lib.hid (by rw [hV1]; exact ((HBel.out.alloc (hlow) _).alloc (by simp <;> omega) _))
  have B_s : Hid (V1.heap[w.heap.size]? = some (.cells #[.int .i64 (g : Int), .int .i64 (c : Int), .int .i64 mn0, .int .i64 mx0] 23 (0, 0))) := Lib.hid (by
    have h9 := heap_alloc_new (w) (.cells #[.int .i64 (g : Int), .int .i64 (c : Int), .int .i64 mn0, .int .i64 mx0] 23)
    rw [hV1]; exact ((Below.heap_alloc _ _ _ (by simp <;> omega)).trans h9))
  have B_f : Hid (V1.heap[w.heap.size + 1]? = some (.cells #[.int .i64 x2, .int .i64 y2, .int .u64 (m2 : Nat), .int .i64 k2] 28 (0, 0))) := Lib.hid (by
    have h9 := heap_alloc_new (w.alloc (.cells #[.int .i64 (g : Int), .int .i64 (c : Int), .int .i64 mn0, .int .i64 mx0] 23)) (.cells #[.int .i64 x2, .int .i64 y2, .int .u64 (m2 : Nat), .int .i64 k2] 28)
    rw [World.size_alloc] at h9
    rw [hV1]; exact h9)
  obtain ⟨N_s, hN_s⟩ : ∃ N, N = w.heap.size := ⟨_, rfl⟩
  obtain ⟨N_f, hN_f⟩ : ∃ N, N = w.heap.size + 1 := ⟨_, rfl⟩
  (try rw [← hN_f])
  rw [← hN_f] at B_f
  (try rw [← hN_s])
  rw [← hN_s] at B_s
  have l_s : N_s < V1.heap.size := by omega
  have l_f : N_f < V1.heap.size := by omega
  have g_s : w.heap.size ≤ N_s := by omega
  have g_f : w.heap.size ≤ N_f := by omega
  have d_s_f : N_s < N_f := by omega
  replace hlow : w.heap.size ≤ V1.heap.size := by omega
  clear hV1 hzV1 hN_s hN_f
  refine (hAw.out V1 (HT.out.below HBel.out HT.out.size)).mono ?_
  rintro e U2 ⟨rfl, hb9⟩
  have hs9 := hb9.size
  replace HBel := Lib.hid (HBel.out.trans (hb9.mono hlow))
  replace B_s : Hid (U2.heap[N_s]? = some (.cells #[.int .i64 (g : Int), .int .i64 (c : Int), .int .i64 mn0, .int .i64 mx0] 23 (0, 0))) := Lib.hid ((hb9.block _ l_s).trans B_s.out)
  replace B_f : Hid (U2.heap[N_f]? = some (.cells #[.int .i64 x2, .int .i64 y2, .int .u64 (m2 : Nat), .int .i64 k2] 28 (0, 0))) := Lib.hid ((hb9.block _ l_f).trans B_f.out)
  replace l_s : N_s < U2.heap.size := by omega
  replace l_f : N_f < U2.heap.size := by omega
  replace hlow : w.heap.size ≤ U2.heap.size := by omega
  clear hb9 hs9
  have s0 : U2.cell? ⟨N_s, 0, none⟩ = some (.int .i64 (g : Int)) := cell_blk (i := 0) B_s.out rfl
  have s1 : U2.cell? ⟨N_s, 1, none⟩ = some (.int .i64 (c : Int)) := cell_blk (i := 1) B_s.out rfl
  have s2 : U2.cell? ⟨N_s, 2, none⟩ = some (.int .i64 mn0) := cell_blk (i := 2) B_s.out rfl
  have s3 : U2.cell? ⟨N_s, 3, none⟩ = some (.int .i64 mx0) := cell_blk (i := 3) B_s.out rfl
  have f0 : U2.cell? ⟨N_f, 0, none⟩ = some (.int .i64 x2) := cell_blk (i := 0) B_f.out rfl
  have f1 : U2.cell? ⟨N_f, 1, none⟩ = some (.int .i64 y2) := cell_blk (i := 1) B_f.out rfl
  have f2 : U2.cell? ⟨N_f, 2, none⟩ = some (.int .u64 (m2 : Nat)) := cell_blk (i := 2) B_f.out rfl
  have f3 : U2.cell? ⟨N_f, 3, none⟩ = some (.int .i64 k2) := cell_blk (i := 3) B_f.out rfl
  go_wp2_with fail
  refine (hU.out _).mono ?_
  rintro e U3 ⟨rfl, hb9⟩
  clear s0 s1 s2 s3 f0 f1 f2 f3
  have hs9 := hb9.size
  replace HBel := Lib.hid (HBel.out.trans (hb9.mono hlow))
  replace B_s : Hid (U3.heap[N_s]? = some (.cells #[.int .i64 (g : Int), .int .i64 (c : Int), .int .i64 mn0, .int .i64 mx0] 23 (0, 0))) := Lib.hid ((hb9.block _ l_s).trans B_s.out)
  replace B_f : Hid (U3.heap[N_f]? = some (.cells #[.int .i64 x2, .int .i64 y2, .int .u64 (m2 : Nat), .int .i64 k2] 28 (0, 0))) := Lib.hid ((hb9.block _ l_f).trans B_f.out)
  replace l_s : N_s < U3.heap.size := by omega
  replace l_f : N_f < U3.heap.size := by omega
  replace hlow : w.heap.size ≤ U3.heap.size := by omega
  clear hb9 hs9
  have s0 : U3.cell? ⟨N_s, 0, none⟩ = some (.int .i64 (g : Int)) := cell_blk (i := 0) B_s.out rfl
  have s1 : U3.cell? ⟨N_s, 1, none⟩ = some (.int .i64 (c : Int)) := cell_blk (i := 1) B_s.out rfl
  have s2 : U3.cell? ⟨N_s, 2, none⟩ = some (.int .i64 mn0) := cell_blk (i := 2) B_s.out rfl
  have s3 : U3.cell? ⟨N_s, 3, none⟩ = some (.int .i64 mx0) := cell_blk (i := 3) B_s.out rfl
  have f0 : U3.cell? ⟨N_f, 0, none⟩ = some (.int .i64 x2) := cell_blk (i := 0) B_f.out rfl
  have f1 : U3.cell? ⟨N_f, 1, none⟩ = some (.int .i64 y2) := cell_blk (i := 1) B_f.out rfl
  have f2 : U3.cell? ⟨N_f, 2, none⟩ = some (.int .u64 (m2 : Nat)) := cell_blk (i := 2) B_f.out rfl
  have f3 : U3.cell? ⟨N_f, 3, none⟩ = some (.int .i64 k2) := cell_blk (i := 3) B_f.out rfl
  go_wp2_with fail
  clear s0 s1 s2 s3 f0 f1 f2 f3
  obtain ⟨V4, hV4⟩ : ∃ W, W = U3.alloc (.cells #[.int .i64 0, .int .i64 0] 31) := ⟨_, rfl⟩
  rw [← hV4]
  have hzV4 : V4.heap.size = U3.heap.size + 1 := by rw [hV4]; simp
  replace HBel : Hid (Below w.heap.size w V4) := Lib.hid (by rw [hV4]; exact (HBel.out.alloc (hlow) _))
  replace B_s : Hid (V4.heap[N_s]? = some (.cells #[.int .i64 (g : Int), .int .i64 (c : Int), .int .i64 mn0, .int .i64 mx0] 23 (0, 0))) := Lib.hid (by rw [hV4]; exact ((Below.heap_alloc _ _ _ (by first | omega | (simp <;> omega))).trans B_s.out))
  replace B_f : Hid (V4.heap[N_f]? = some (.cells #[.int .i64 x2, .int .i64 y2, .int .u64 (m2 : Nat), .int .i64 k2] 28 (0, 0))) := Lib.hid (by rw [hV4]; exact ((Below.heap_alloc _ _ _ (by first | omega | (simp <;> omega))).trans B_f.out))
  have B_u : Hid (V4.heap[U3.heap.size]? = some (.cells #[.int .i64 0, .int .i64 0] 31 (0, 0))) := Lib.hid (by
    have h9 := heap_alloc_new (U3) (.cells #[.int .i64 0, .int .i64 0] 31)
    rw [hV4]; exact h9)
  obtain ⟨N_u, hN_u⟩ : ∃ N, N = U3.heap.size := ⟨_, rfl⟩
  (try rw [← hN_u])
  rw [← hN_u] at B_u
  have d_s_u : N_s < N_u := by omega
  have d_f_u : N_f < N_u := by omega
  replace l_s : N_s < V4.heap.size := by omega
  replace l_f : N_f < V4.heap.size := by omega
  have l_u : N_u < V4.heap.size := by omega
  have g_u : w.heap.size ≤ N_u := by omega
  replace hlow : w.heap.size ≤ V4.heap.size := by omega
  clear hV4 hzV4 hN_u
  have s0 : V4.cell? ⟨N_s, 0, none⟩ = some (.int .i64 (g : Int)) := cell_blk (i := 0) B_s.out rfl
  have s1 : V4.cell? ⟨N_s, 1, none⟩ = some (.int .i64 (c : Int)) := cell_blk (i := 1) B_s.out rfl
  have s2 : V4.cell? ⟨N_s, 2, none⟩ = some (.int .i64 mn0) := cell_blk (i := 2) B_s.out rfl
  have s3 : V4.cell? ⟨N_s, 3, none⟩ = some (.int .i64 mx0) := cell_blk (i := 3) B_s.out rfl
  have f0 : V4.cell? ⟨N_f, 0, none⟩ = some (.int .i64 x2) := cell_blk (i := 0) B_f.out rfl
  have f1 : V4.cell? ⟨N_f, 1, none⟩ = some (.int .i64 y2) := cell_blk (i := 1) B_f.out rfl
  have f2 : V4.cell? ⟨N_f, 2, none⟩ = some (.int .u64 (m2 : Nat)) := cell_blk (i := 2) B_f.out rfl
  have f3 : V4.cell? ⟨N_f, 3, none⟩ = some (.int .i64 k2) := cell_blk (i := 3) B_f.out rfl
  refine (hP.out _ HBel.out).mono ?_
  rintro e U5 ⟨rfl, hb9⟩
  clear s0 s1 s2 s3 f0 f1 f2 f3
  have hs9 := hb9.size
  replace HBel := Lib.hid (HBel.out.trans (hb9.mono hlow))
  replace B_s : Hid (U5.heap[N_s]? = some (.cells #[.int .i64 (g : Int), .int .i64 (c : Int), .int .i64 mn0, .int .i64 mx0] 23 (0, 0))) := Lib.hid ((hb9.block _ l_s).trans B_s.out)
  replace B_f : Hid (U5.heap[N_f]? = some (.cells #[.int .i64 x2, .int .i64 y2, .int .u64 (m2 : Nat), .int .i64 k2] 28 (0, 0))) := Lib.hid ((hb9.block _ l_f).trans B_f.out)
  replace B_u : Hid (U5.heap[N_u]? = some (.cells #[.int .i64 0, .int .i64 0] 31 (0, 0))) := Lib.hid ((hb9.block _ l_u).trans B_u.out)
  replace l_s : N_s < U5.heap.size := by omega
  replace l_f : N_f < U5.heap.size := by omega
  replace l_u : N_u < U5.heap.size := by omega
  replace hlow : w.heap.size ≤ U5.heap.size := by omega
  clear hb9 hs9
  have s0 : U5.cell? ⟨N_s, 0, none⟩ = some (.int .i64 (g : Int)) := cell_blk (i := 0) B_s.out rfl
  have s1 : U5.cell? ⟨N_s, 1, none⟩ = some (.int .i64 (c : Int)) := cell_blk (i := 1) B_s.out rfl
  have s2 : U5.cell? ⟨N_s, 2, none⟩ = some (.int .i64 mn0) := cell_blk (i := 2) B_s.out rfl
  have s3 : U5.cell? ⟨N_s, 3, none⟩ = some (.int .i64 mx0) := cell_blk (i := 3) B_s.out rfl
  have l_s_0 : N_s < U5.heap.size + 1 := by omega
  have l_s_1 : N_s < U5.heap.size + 1 + 1 := by omega
  have f0 : U5.cell? ⟨N_f, 0, none⟩ = some (.int .i64 x2) := cell_blk (i := 0) B_f.out rfl
  have f1 : U5.cell? ⟨N_f, 1, none⟩ = some (.int .i64 y2) := cell_blk (i := 1) B_f.out rfl
  have f2 : U5.cell? ⟨N_f, 2, none⟩ = some (.int .u64 (m2 : Nat)) := cell_blk (i := 2) B_f.out rfl
  have f3 : U5.cell? ⟨N_f, 3, none⟩ = some (.int .i64 k2) := cell_blk (i := 3) B_f.out rfl
  have l_f_0 : N_f < U5.heap.size + 1 := by omega
  have l_f_1 : N_f < U5.heap.size + 1 + 1 := by omega
  go_wp2_with fail
  clear s0 s1 s2 s3 l_s_0 l_s_1 f0 f1 f2 f3 l_f_0 l_f_1
  obtain ⟨V6, hV6⟩ : ∃ W, W = (U5.alloc (.cells #[.int .i64 p0, .int .i64 p1, .int .u64 p2, .int .i64 p3] 35)).alloc (.cells #[.int .i64 r0, .int .i64 r1, .int .u64 r2, .int .i64 r3] 28) := ⟨_, rfl⟩
  rw [← hV6]
  have hzV6 : V6.heap.size = U5.heap.size + 1 + 1 := by rw [hV6]; simp
  replace HBel : Hid (Below w.heap.size w V6) := Lib.hid (by rw [hV6]; exact ((HBel.out.alloc (hlow) _).alloc (by simp <;> omega) _))
  replace B_s : Hid (V6.heap[N_s]? = some (.cells #[.int .i64 (g : Int), .int .i64 (c : Int), .int .i64 mn0, .int .i64 mx0] 23 (0, 0))) := Lib.hid (by rw [hV6]; exact ((Below.heap_alloc _ _ _ (by first | omega | (simp <;> omega))).trans ((Below.heap_alloc _ _ _ (by first | omega | (simp <;> omega))).trans B_s.out)))
  replace B_f : Hid (V6.heap[N_f]? = some (.cells #[.int .i64 x2, .int .i64 y2, .int .u64 (m2 : Nat), .int .i64 k2] 28 (0, 0))) := Lib.hid (by rw [hV6]; exact ((Below.heap_alloc _ _ _ (by first | omega | (simp <;> omega))).trans ((Below.heap_alloc _ _ _ (by first | omega | (simp <;> omega))).trans B_f.out)))
  replace B_u : Hid (V6.heap[N_u]? = some (.cells #[.int .i64 0, .int .i64 0] 31 (0, 0))) := Lib.hid (by rw [hV6]; exact ((Below.heap_alloc _ _ _ (by first | omega | (simp <;> omega))).trans ((Below.heap_alloc _ _ _ (by first | omega | (simp <;> omega))).trans B_u.out)))
  have B_p : Hid (V6.heap[U5.heap.size]? = some (.cells #[.int .i64 p0, .int .i64 p1, .int .u64 p2, .int .i64 p3] 35 (0, 0))) := Lib.hid (by
    have h9 := heap_alloc_new (U5) (.cells #[.int .i64 p0, .int .i64 p1, .int .u64 p2, .int .i64 p3] 35)
    rw [hV6]; exact ((Below.heap_alloc _ _ _ (by simp <;> omega)).trans h9))
  have B_r : Hid (V6.heap[U5.heap.size + 1]? = some (.cells #[.int .i64 r0, .int .i64 r1, .int .u64 r2, .int .i64 r3] 28 (0, 0))) := Lib.hid (by
    have h9 := heap_alloc_new (U5.alloc (.cells #[.int .i64 p0, .int .i64 p1, .int .u64 p2, .int .i64 p3] 35)) (.cells #[.int .i64 r0, .int .i64 r1, .int .u64 r2, .int .i64 r3] 28)
    rw [World.size_alloc] at h9
    rw [hV6]; exact h9)
  obtain ⟨N_p, hN_p⟩ : ∃ N, N = U5.heap.size := ⟨_, rfl⟩
  obtain ⟨N_r, hN_r⟩ : ∃ N, N = U5.heap.size + 1 := ⟨_, rfl⟩
  (try rw [← hN_r])
  rw [← hN_r] at B_r
  (try rw [← hN_p])
  rw [← hN_p] at B_p
  have d_s_p : N_s < N_p := by omega
  have d_f_p : N_f < N_p := by omega
  have d_u_p : N_u < N_p := by omega
  have d_s_r : N_s < N_r := by omega
  have d_f_r : N_f < N_r := by omega
  have d_u_r : N_u < N_r := by omega
  replace l_s : N_s < V6.heap.size := by omega
  replace l_f : N_f < V6.heap.size := by omega
  replace l_u : N_u < V6.heap.size := by omega
  have l_p : N_p < V6.heap.size := by omega
  have l_r : N_r < V6.heap.size := by omega
  have g_p : w.heap.size ≤ N_p := by omega
  have g_r : w.heap.size ≤ N_r := by omega
  have d_p_r : N_p < N_r := by omega
  replace hlow : w.heap.size ≤ V6.heap.size := by omega
  clear hV6 hzV6 hN_p hN_r
  refine (hR.out _).mono ?_
  rintro e U7 ⟨rfl, hb9⟩
  have hs9 := hb9.size
  replace HBel := Lib.hid (HBel.out.trans (hb9.mono hlow))
  replace B_s : Hid (U7.heap[N_s]? = some (.cells #[.int .i64 (g : Int), .int .i64 (c : Int), .int .i64 mn0, .int .i64 mx0] 23 (0, 0))) := Lib.hid ((hb9.block _ l_s).trans B_s.out)
  replace B_f : Hid (U7.heap[N_f]? = some (.cells #[.int .i64 x2, .int .i64 y2, .int .u64 (m2 : Nat), .int .i64 k2] 28 (0, 0))) := Lib.hid ((hb9.block _ l_f).trans B_f.out)
  replace B_u : Hid (U7.heap[N_u]? = some (.cells #[.int .i64 0, .int .i64 0] 31 (0, 0))) := Lib.hid ((hb9.block _ l_u).trans B_u.out)
  replace B_p : Hid (U7.heap[N_p]? = some (.cells #[.int .i64 p0, .int .i64 p1, .int .u64 p2, .int .i64 p3] 35 (0, 0))) := Lib.hid ((hb9.block _ l_p).trans B_p.out)
  replace B_r : Hid (U7.heap[N_r]? = some (.cells #[.int .i64 r0, .int .i64 r1, .int .u64 r2, .int .i64 r3] 28 (0, 0))) := Lib.hid ((hb9.block _ l_r).trans B_r.out)
  replace l_s : N_s < U7.heap.size := by omega
  replace l_f : N_f < U7.heap.size := by omega
  replace l_u : N_u < U7.heap.size := by omega
  replace l_p : N_p < U7.heap.size := by omega
  replace l_r : N_r < U7.heap.size := by omega
  replace hlow : w.heap.size ≤ U7.heap.size := by omega
  clear hb9 hs9
  have s0 : U7.cell? ⟨N_s, 0, none⟩ = some (.int .i64 (g : Int)) := cell_blk (i := 0) B_s.out rfl
  have s1 : U7.cell? ⟨N_s, 1, none⟩ = some (.int .i64 (c : Int)) := cell_blk (i := 1) B_s.out rfl
  have s2 : U7.cell? ⟨N_s, 2, none⟩ = some (.int .i64 mn0) := cell_blk (i := 2) B_s.out rfl
  have s3 : U7.cell? ⟨N_s, 3, none⟩ = some (.int .i64 mx0) := cell_blk (i := 3) B_s.out rfl
  have f0 : U7.cell? ⟨N_f, 0, none⟩ = some (.int .i64 x2) := cell_blk (i := 0) B_f.out rfl
  have f1 : U7.cell? ⟨N_f, 1, none⟩ = some (.int .i64 y2) := cell_blk (i := 1) B_f.out rfl
  have f2 : U7.cell? ⟨N_f, 2, none⟩ = some (.int .u64 (m2 : Nat)) := cell_blk (i := 2) B_f.out rfl
  have f3 : U7.cell? ⟨N_f, 3, none⟩ = some (.int .i64 k2) := cell_blk (i := 3) B_f.out rfl
  go_wp2_with fail
  clear s0 s1 s2 s3 f0 f1 f2 f3
  have s0 : U7.cell? ⟨N_s, 0, none⟩ = some (.int .i64 (g : Int)) := cell_blk (i := 0) B_s.out rfl
  have s1 : U7.cell? ⟨N_s, 1, none⟩ = some (.int .i64 (c : Int)) := cell_blk (i := 1) B_s.out rfl
  have s2 : U7.cell? ⟨N_s, 2, none⟩ = some (.int .i64 mn0) := cell_blk (i := 2) B_s.out rfl
  have s3 : U7.cell? ⟨N_s, 3, none⟩ = some (.int .i64 mx0) := cell_blk (i := 3) B_s.out rfl
  have f0 : U7.cell? ⟨N_f, 0, none⟩ = some (.int .i64 x2) := cell_blk (i := 0) B_f.out rfl
  have f1 : U7.cell? ⟨N_f, 1, none⟩ = some (.int .i64 y2) := cell_blk (i := 1) B_f.out rfl
  have f2 : U7.cell? ⟨N_f, 2, none⟩ = some (.int .u64 (m2 : Nat)) := cell_blk (i := 2) B_f.out rfl
  have f3 : U7.cell? ⟨N_f, 3, none⟩ = some (.int .i64 k2) := cell_blk (i := 3) B_f.out rfl
  refine held_begin (fun w' : World => w'.cell? ⟨N_s, 0, none⟩ = some (.int .i64 (g : Int)) ∧ w'.cell? ⟨N_s, 1, none⟩ = some (.int .i64 (c : Int)) ∧ w'.cell? ⟨N_s, 2, none⟩ = some (.int .i64 mn0) ∧ w'.cell? ⟨N_s, 3, none⟩ = some (.int .i64 mx0) ∧ w'.cell? ⟨N_f, 0, none⟩ = some (.int .i64 x2) ∧ w'.cell? ⟨N_f, 1, none⟩ = some (.int .i64 y2) ∧ w'.cell? ⟨N_f, 2, none⟩ = some (.int .u64 (m2 : Nat)) ∧ w'.cell? ⟨N_f, 3, none⟩ = some (.int .i64 k2)) (by kernel_rfl) ?_
  have hBh0 : Below U7.heap.size U7 U7.drew := (Below.refl _ _).drew
  have hSh0 : (fun w' : World => w'.cell? ⟨N_s, 0, none⟩ = some (.int .i64 (g : Int)) ∧ w'.cell? ⟨N_s, 1, none⟩ = some (.int .i64 (c : Int)) ∧ w'.cell? ⟨N_s, 2, none⟩ = some (.int .i64 mn0) ∧ w'.cell? ⟨N_s, 3, none⟩ = some (.int .i64 mx0) ∧ w'.cell? ⟨N_f, 0, none⟩ = some (.int .i64 x2) ∧ w'.cell? ⟨N_f, 1, none⟩ = some (.int .i64 y2) ∧ w'.cell? ⟨N_f, 2, none⟩ = some (.int .u64 (m2 : Nat)) ∧ w'.cell? ⟨N_f, 3, none⟩ = some (.int .i64 k2)) U7.drew := ⟨s0, s1, s2, s3, f0, f1, f2, f3⟩
  refine held_take (v := ?_) 0 65 rfl rfl (by kernel_rfl) (by kernel_rfl) (by kernel_rfl) (fun _ _ _ h => h) ⟨by rfl, ?_⟩ hSh0 ?_
  rotate_left
  · intro w' hw'; obtain ⟨x0, x1, x2, x3, x4, x5, x6, x7⟩ := hw'; go_simp; (try with_reducible rfl)
  simp only [Act.put, List.setIfInBounds_toArray, List.set_cons_zero, List.set_cons_succ]
  refine held_one 1 rfl (by kernel_rfl) (by rfl) (fun K hK => ?_)
  go_simp
  go_at_call 12
  refine (hC.out _).mono ?_
  rintro e wh1 ⟨rfl, hbh1⟩
  have hBh1 : Below U7.heap.size U7 wh1 := below_step hBh0 hbh1
  have hSh1 : (fun w' : World => w'.cell? ⟨N_s, 0, none⟩ = some (.int .i64 (g : Int)) ∧ w'.cell? ⟨N_s, 1, none⟩ = some (.int .i64 (c : Int)) ∧ w'.cell? ⟨N_s, 2, none⟩ = some (.int .i64 mn0) ∧ w'.cell? ⟨N_s, 3, none⟩ = some (.int .i64 mx0) ∧ w'.cell? ⟨N_f, 0, none⟩ = some (.int .i64 x2) ∧ w'.cell? ⟨N_f, 1, none⟩ = some (.int .i64 y2) ∧ w'.cell? ⟨N_f, 2, none⟩ = some (.int .u64 (m2 : Nat)) ∧ w'.cell? ⟨N_f, 3, none⟩ = some (.int .i64 k2)) wh1 := ⟨(hBh1.cell (p := ⟨N_s, 0, none⟩) (show N_s < U7.heap.size by omega)).trans s0, (hBh1.cell (p := ⟨N_s, 1, none⟩) (show N_s < U7.heap.size by omega)).trans s1, (hBh1.cell (p := ⟨N_s, 2, none⟩) (show N_s < U7.heap.size by omega)).trans s2, (hBh1.cell (p := ⟨N_s, 3, none⟩) (show N_s < U7.heap.size by omega)).trans s3, (hBh1.cell (p := ⟨N_f, 0, none⟩) (show N_f < U7.heap.size by omega)).trans f0, (hBh1.cell (p := ⟨N_f, 1, none⟩) (show N_f < U7.heap.size by omega)).trans f1, (hBh1.cell (p := ⟨N_f, 2, none⟩) (show N_f < U7.heap.size by omega)).trans f2, (hBh1.cell (p := ⟨N_f, 3, none⟩) (show N_f < U7.heap.size by omega)).trans f3⟩
  refine hK.out _ _ hSh1 ?_
  clear hK K
  refine held_take (v := ?_) 2 67 rfl rfl (by kernel_rfl) (by kernel_rfl) (by kernel_rfl) (fun _ _ _ h => h) ⟨by rfl, ?_⟩ hSh1 ?_
  rotate_left
  · intro w' hw'; obtain ⟨x0, x1, x2, x3, x4, x5, x6, x7⟩ := hw'; go_simp; (try with_reducible rfl)
  simp only [Act.put, List.setIfInBounds_toArray, List.set_cons_zero, List.set_cons_succ]
  refine held_take (v := ?_) 3 68 rfl rfl (by kernel_rfl) (by kernel_rfl) (by kernel_rfl) (fun _ _ _ h => h) ⟨by rfl, ?_⟩ hSh1 ?_
  rotate_left
  · intro w' hw'; obtain ⟨x0, x1, x2, x3, x4, x5, x6, x7⟩ := hw'; go_simp; (try with_reducible rfl)
  simp only [Act.put, List.setIfInBounds_toArray, List.set_cons_zero, List.set_cons_succ]
  refine held_take (v := ?_) 4 69 rfl rfl (by kernel_rfl) (by kernel_rfl) (by kernel_rfl) (fun _ _ _ h => h) ⟨by rfl, ?_⟩ hSh1 ?_
  rotate_left
  · intro w' hw'; obtain ⟨x0, x1, x2, x3, x4, x5, x6, x7⟩ := hw'; go_simp; (try with_reducible rfl)
  simp only [Act.put, List.setIfInBounds_toArray, List.set_cons_zero, List.set_cons_succ]
  refine held_take (v := ?_) 5 70 rfl rfl (by kernel_rfl) (by kernel_rfl) (by kernel_rfl) (fun _ _ _ h => h) ⟨by rfl, ?_⟩ hSh1 ?_
  rotate_left
  · intro w' hw'; obtain ⟨x0, x1, x2, x3, x4, x5, x6, x7⟩ := hw'; go_simp; (try with_reducible rfl)
  simp only [Act.put, List.setIfInBounds_toArray, List.set_cons_zero, List.set_cons_succ]
  refine held_take (v := ?_) 7 72 rfl rfl (by kernel_rfl) (by kernel_rfl) (by kernel_rfl) (fun _ _ _ h => h) ⟨by rfl, ?_⟩ hSh1 ?_
  rotate_left
  · intro w' hw'; obtain ⟨x0, x1, x2, x3, x4, x5, x6, x7⟩ := hw'; go_simp; (try with_reducible rfl)
  simp only [Act.put, List.setIfInBounds_toArray, List.set_cons_zero, List.set_cons_succ]
  refine held_take (v := ?_) 8 73 rfl rfl (by kernel_rfl) (by kernel_rfl) (by kernel_rfl) (fun _ _ _ h => h) ⟨by rfl, ?_⟩ hSh1 ?_
  rotate_left
  · intro w' hw'; obtain ⟨x0, x1, x2, x3, x4, x5, x6, x7⟩ := hw'; go_simp; (try with_reducible rfl)
  simp only [Act.put, List.setIfInBounds_toArray, List.set_cons_zero, List.set_cons_succ]
  refine held_one 6 rfl (by kernel_rfl) (by rfl) (fun K hK => ?_)
  go_simp
  go_at_call 13
  refine (hF.out _ (HBel.out.trans (hBh1.mono hlow))).mono ?_
  rintro e wh2 ⟨rfl, hbh2⟩
  have hBh2 : Below U7.heap.size U7 wh2 := below_step hBh1 hbh2
  have hSh2 : (fun w' : World => w'.cell? ⟨N_s, 0, none⟩ = some (.int .i64 (g : Int)) ∧ w'.cell? ⟨N_s, 1, none⟩ = some (.int .i64 (c : Int)) ∧ w'.cell? ⟨N_s, 2, none⟩ = some (.int .i64 mn0) ∧ w'.cell? ⟨N_s, 3, none⟩ = some (.int .i64 mx0) ∧ w'.cell? ⟨N_f, 0, none⟩ = some (.int .i64 x2) ∧ w'.cell? ⟨N_f, 1, none⟩ = some (.int .i64 y2) ∧ w'.cell? ⟨N_f, 2, none⟩ = some (.int .u64 (m2 : Nat)) ∧ w'.cell? ⟨N_f, 3, none⟩ = some (.int .i64 k2)) wh2 := ⟨(hBh2.cell (p := ⟨N_s, 0, none⟩) (show N_s < U7.heap.size by omega)).trans s0, (hBh2.cell (p := ⟨N_s, 1, none⟩) (show N_s < U7.heap.size by omega)).trans s1, (hBh2.cell (p := ⟨N_s, 2, none⟩) (show N_s < U7.heap.size by omega)).trans s2, (hBh2.cell (p := ⟨N_s, 3, none⟩) (show N_s < U7.heap.size by omega)).trans s3, (hBh2.cell (p := ⟨N_f, 0, none⟩) (show N_f < U7.heap.size by omega)).trans f0, (hBh2.cell (p := ⟨N_f, 1, none⟩) (show N_f < U7.heap.size by omega)).trans f1, (hBh2.cell (p := ⟨N_f, 2, none⟩) (show N_f < U7.heap.size by omega)).trans f2, (hBh2.cell (p := ⟨N_f, 3, none⟩) (show N_f < U7.heap.size by omega)).trans f3⟩
  refine hK.out _ _ hSh2 ?_
  clear hK K
  refine held_one 9 rfl (by kernel_rfl) (by rfl) (fun K hK => ?_)
  go_simp
  go_at_call 14
  refine (hF2.out _ (HBel.out.trans (hBh2.mono hlow))).mono ?_
  rintro e wh3 ⟨rfl, hbh3⟩
  have hBh3 : Below U7.heap.size U7 wh3 := below_step hBh2 hbh3
  have hSh3 : (fun w' : World => w'.cell? ⟨N_s, 0, none⟩ = some (.int .i64 (g : Int)) ∧ w'.cell? ⟨N_s, 1, none⟩ = some (.int .i64 (c : Int)) ∧ w'.cell? ⟨N_s, 2, none⟩ = some (.int .i64 mn0) ∧ w'.cell? ⟨N_s, 3, none⟩ = some (.int .i64 mx0) ∧ w'.cell? ⟨N_f, 0, none⟩ = some (.int .i64 x2) ∧ w'.cell? ⟨N_f, 1, none⟩ = some (.int .i64 y2) ∧ w'.cell? ⟨N_f, 2, none⟩ = some (.int .u64 (m2 : Nat)) ∧ w'.cell? ⟨N_f, 3, none⟩ = some (.int .i64 k2)) wh3 := ⟨(hBh3.cell (p := ⟨N_s, 0, none⟩) (show N_s < U7.heap.size by omega)).trans s0, (hBh3.cell (p := ⟨N_s, 1, none⟩) (show N_s < U7.heap.size by omega)).trans s1, (hBh3.cell (p := ⟨N_s, 2, none⟩) (show N_s < U7.heap.size by omega)).trans s2, (hBh3.cell (p := ⟨N_s, 3, none⟩) (show N_s < U7.heap.size by omega)).trans s3, (hBh3.cell (p := ⟨N_f, 0, none⟩) (show N_f < U7.heap.size by omega)).trans f0, (hBh3.cell (p := ⟨N_f, 1, none⟩) (show N_f < U7.heap.size by omega)).trans f1, (hBh3.cell (p := ⟨N_f, 2, none⟩) (show N_f < U7.heap.size by omega)).trans f2, (hBh3.cell (p := ⟨N_f, 3, none⟩) (show N_f < U7.heap.size by omega)).trans f3⟩
  refine hK.out _ _ hSh3 ?_
  clear hK K
  refine held_take (v := ?_) 10 75 rfl rfl (by kernel_rfl) (by kernel_rfl) (by kernel_rfl) (fun _ _ _ h => h) ⟨by rfl, ?_⟩ hSh3 ?_
  rotate_left
  · intro w' hw'; obtain ⟨x0, x1, x2, x3, x4, x5, x6, x7⟩ := hw'; go_simp; (try with_reducible rfl)
  simp only [Act.put, List.setIfInBounds_toArray, List.set_cons_zero, List.set_cons_succ]
  refine held_take (v := ?_) 11 76 rfl rfl (by kernel_rfl) (by kernel_rfl) (by kernel_rfl) (fun _ _ _ h => h) ⟨by rfl, ?_⟩ hSh3 ?_
  rotate_left
  · intro w' hw'; obtain ⟨x0, x1, x2, x3, x4, x5, x6, x7⟩ := hw'; go_simp; (try with_reducible rfl)
  simp only [Act.put, List.setIfInBounds_toArray, List.set_cons_zero, List.set_cons_succ]
  refine wpAnyH_done (by kernel_rfl) ?_ _
  have hb9 := hBh3
  clear s0 s1 s2 s3 f0 f1 f2 f3
  have hs9 := hb9.size
  replace HBel := Lib.hid (HBel.out.trans (hb9.mono hlow))
  replace B_s : Hid (wh3.heap[N_s]? = some (.cells #[.int .i64 (g : Int), .int .i64 (c : Int), .int .i64 mn0, .int .i64 mx0] 23 (0, 0))) := Lib.hid ((hb9.block _ l_s).trans B_s.out)
  replace B_f : Hid (wh3.heap[N_f]? = some (.cells #[.int .i64 x2, .int .i64 y2, .int .u64 (m2 : Nat), .int .i64 k2] 28 (0, 0))) := Lib.hid ((hb9.block _ l_f).trans B_f.out)
  replace B_u : Hid (wh3.heap[N_u]? = some (.cells #[.int .i64 0, .int .i64 0] 31 (0, 0))) := Lib.hid ((hb9.block _ l_u).trans B_u.out)
  replace B_p : Hid (wh3.heap[N_p]? = some (.cells #[.int .i64 p0, .int .i64 p1, .int .u64 p2, .int .i64 p3] 35 (0, 0))) := Lib.hid ((hb9.block _ l_p).trans B_p.out)
  replace B_r : Hid (wh3.heap[N_r]? = some (.cells #[.int .i64 r0, .int .i64 r1, .int .u64 r2, .int .i64 r3] 28 (0, 0))) := Lib.hid ((hb9.block _ l_r).trans B_r.out)
  replace l_s : N_s < wh3.heap.size := by omega
  replace l_f : N_f < wh3.heap.size := by omega
  replace l_u : N_u < wh3.heap.size := by omega
  replace l_p : N_p < wh3.heap.size := by omega
  replace l_r : N_r < wh3.heap.size := by omega
  replace hlow : w.heap.size ≤ wh3.heap.size := by omega
  clear hb9 hs9 hSh0 hBh0 hSh1 hBh1 hSh2 hBh2 hSh3 hBh3
  have s0 : wh3.cell? ⟨N_s, 0, none⟩ = some (.int .i64 (g : Int)) := cell_blk (i := 0) B_s.out rfl
  have s1 : wh3.cell? ⟨N_s, 1, none⟩ = some (.int .i64 (c : Int)) := cell_blk (i := 1) B_s.out rfl
  have s2 : wh3.cell? ⟨N_s, 2, none⟩ = some (.int .i64 mn0) := cell_blk (i := 2) B_s.out rfl
  have s3 : wh3.cell? ⟨N_s, 3, none⟩ = some (.int .i64 mx0) := cell_blk (i := 3) B_s.out rfl
  have f0 : wh3.cell? ⟨N_f, 0, none⟩ = some (.int .i64 x2) := cell_blk (i := 0) B_f.out rfl
  have f1 : wh3.cell? ⟨N_f, 1, none⟩ = some (.int .i64 y2) := cell_blk (i := 1) B_f.out rfl
  have f2 : wh3.cell? ⟨N_f, 2, none⟩ = some (.int .u64 (m2 : Nat)) := cell_blk (i := 2) B_f.out rfl
  have f3 : wh3.cell? ⟨N_f, 3, none⟩ = some (.int .i64 k2) := cell_blk (i := 3) B_f.out rfl
  have u0 : wh3.cell? ⟨N_u, 0, none⟩ = some (.int .i64 0) := cell_blk (i := 0) B_u.out rfl
  have u1 : wh3.cell? ⟨N_u, 1, none⟩ = some (.int .i64 0) := cell_blk (i := 1) B_u.out rfl
  have p0 : wh3.cell? ⟨N_p, 0, none⟩ = some (.int .i64 p0) := cell_blk (i := 0) B_p.out rfl
  have p1 : wh3.cell? ⟨N_p, 1, none⟩ = some (.int .i64 p1) := cell_blk (i := 1) B_p.out rfl
  have p2 : wh3.cell? ⟨N_p, 2, none⟩ = some (.int .u64 p2) := cell_blk (i := 2) B_p.out rfl
  have p3 : wh3.cell? ⟨N_p, 3, none⟩ = some (.int .i64 p3) := cell_blk (i := 3) B_p.out rfl
  have r0 : wh3.cell? ⟨N_r, 0, none⟩ = some (.int .i64 r0) := cell_blk (i := 0) B_r.out rfl
  have r1 : wh3.cell? ⟨N_r, 1, none⟩ = some (.int .i64 r1) := cell_blk (i := 1) B_r.out rfl
  have r2 : wh3.cell? ⟨N_r, 2, none⟩ = some (.int .u64 r2) := cell_blk (i := 2) B_r.out rfl
  have r3 : wh3.cell? ⟨N_r, 3, none⟩ = some (.int .i64 r3) := cell_blk (i := 3) B_r.out rfl
  go_wp2_with fail
  refine (hP2.out _ HBel.out).mono ?_
  rintro e U9 ⟨rfl, hb9⟩
  clear s0 s1 s2 s3 f0 f1 f2 f3 u0 u1 p0 p1 p2 p3 r0 r1 r2 r3
  have hs9 := hb9.size
  replace HBel := Lib.hid (HBel.out.trans (hb9.mono hlow))
  replace B_s : Hid (U9.heap[N_s]? = some (.cells #[.int .i64 (g : Int), .int .i64 (c : Int), .int .i64 mn0, .int .i64 mx0] 23 (0, 0))) := Lib.hid ((hb9.block _ l_s).trans B_s.out)
  replace B_f : Hid (U9.heap[N_f]? = some (.cells #[.int .i64 x2, .int .i64 y2, .int .u64 (m2 : Nat), .int .i64 k2] 28 (0, 0))) := Lib.hid ((hb9.block _ l_f).trans B_f.out)
  replace B_u : Hid (U9.heap[N_u]? = some (.cells #[.int .i64 0, .int .i64 0] 31 (0, 0))) := Lib.hid ((hb9.block _ l_u).trans B_u.out)
  replace B_p : Hid (U9.heap[N_p]? = some (.cells #[.int .i64 p0, .int .i64 p1, .int .u64 p2, .int .i64 p3] 35 (0, 0))) := Lib.hid ((hb9.block _ l_p).trans B_p.out)
  replace B_r : Hid (U9.heap[N_r]? = some (.cells #[.int .i64 r0, .int .i64 r1, .int .u64 r2, .int .i64 r3] 28 (0, 0))) := Lib.hid ((hb9.block _ l_r).trans B_r.out)
  replace l_s : N_s < U9.heap.size := by omega
  replace l_f : N_f < U9.heap.size := by omega
  replace l_u : N_u < U9.heap.size := by omega
  replace l_p : N_p < U9.heap.size := by omega
  replace l_r : N_r < U9.heap.size := by omega
  replace hlow : w.heap.size ≤ U9.heap.size := by omega
  clear hb9 hs9
  have s0 : U9.cell? ⟨N_s, 0, none⟩ = some (.int .i64 (g : Int)) := cell_blk (i := 0) B_s.out rfl
  have s1 : U9.cell? ⟨N_s, 1, none⟩ = some (.int .i64 (c : Int)) := cell_blk (i := 1) B_s.out rfl
  have s2 : U9.cell? ⟨N_s, 2, none⟩ = some (.int .i64 mn0) := cell_blk (i := 2) B_s.out rfl
  have s3 : U9.cell? ⟨N_s, 3, none⟩ = some (.int .i64 mx0) := cell_blk (i := 3) B_s.out rfl
  have l_s_0 : N_s < U9.heap.size + 1 := by omega
  have l_s_1 : N_s < U9.heap.size + 1 + 1 := by omega
  have f0 : U9.cell? ⟨N_f, 0, none⟩ = some (.int .i64 x2) := cell_blk (i := 0) B_f.out rfl
  have f1 : U9.cell? ⟨N_f, 1, none⟩ = some (.int .i64 y2) := cell_blk (i := 1) B_f.out rfl
  have f2 : U9.cell? ⟨N_f, 2, none⟩ = some (.int .u64 (m2 : Nat)) := cell_blk (i := 2) B_f.out rfl
  have f3 : U9.cell? ⟨N_f, 3, none⟩ = some (.int .i64 k2) := cell_blk (i := 3) B_f.out rfl
  have l_f_0 : N_f < U9.heap.size + 1 := by omega
  have l_f_1 : N_f < U9.heap.size + 1 + 1 := by omega
  have u0 : U9.cell? ⟨N_u, 0, none⟩ = some (.int .i64 0) := cell_blk (i := 0) B_u.out rfl
  have u1 : U9.cell? ⟨N_u, 1, none⟩ = some (.int .i64 0) := cell_blk (i := 1) B_u.out rfl
  have l_u_0 : N_u < U9.heap.size + 1 := by omega
  have l_u_1 : N_u < U9.heap.size + 1 + 1 := by omega
  have p0 : U9.cell? ⟨N_p, 0, none⟩ = some (.int .i64 p0) := cell_blk (i := 0) B_p.out rfl
  have p1 : U9.cell? ⟨N_p, 1, none⟩ = some (.int .i64 p1) := cell_blk (i := 1) B_p.out rfl
  have p2 : U9.cell? ⟨N_p, 2, none⟩ = some (.int .u64 p2) := cell_blk (i := 2) B_p.out rfl
  have p3 : U9.cell? ⟨N_p, 3, none⟩ = some (.int .i64 p3) := cell_blk (i := 3) B_p.out rfl
  have l_p_0 : N_p < U9.heap.size + 1 := by omega
  have l_p_1 : N_p < U9.heap.size + 1 + 1 := by omega
  have r0 : U9.cell? ⟨N_r, 0, none⟩ = some (.int .i64 r0) := cell_blk (i := 0) B_r.out rfl
  have r1 : U9.cell? ⟨N_r, 1, none⟩ = some (.int .i64 r1) := cell_blk (i := 1) B_r.out rfl
  have r2 : U9.cell? ⟨N_r, 2, none⟩ = some (.int .u64 r2) := cell_blk (i := 2) B_r.out rfl
  have r3 : U9.cell? ⟨N_r, 3, none⟩ = some (.int .i64 r3) := cell_blk (i := 3) B_r.out rfl
  have l_r_0 : N_r < U9.heap.size + 1 := by omega
  have l_r_1 : N_r < U9.heap.size + 1 + 1 := by omega
  go_wp2_with fail
  go_ret
  exact ⟨rfl, (HBel.out.alloc hlow _).alloc (by simp <;> omega) _⟩
set_option maxRecDepth 100000 in
set_option maxHeartbeats 4000000 in
theorem walk_ok (g c : Nat) (mn0 mx0 : Int) (a1 : Nat) (x2 y2 : Int) (m2 : Nat) (k2 : Int) (w : World) (w0 : Shp.Wf ⟨g, c, mn0, mx0⟩) (hT : Tab w) (hok : Shp.ok ⟨g, c, mn0, mx0⟩ = true) (wm : m2 < 18446744073709551616) (wk : (Lit.int .i64 k2).wf = true) (ha : a1 ≤ 16) :
    Calls Tryd.prog 3 #[.agg #[.int .i64 (g : Int), .int .i64 (c : Int), .int .i64 mn0, .int .i64 mx0], .int .i64 (a1 : Int), .agg #[.int .i64 x2, .int .i64 y2, .int .u64 (m2 : Nat), .int .i64 k2]] w fun e w' => e = .returned (.bool true) ∧ Below w.heap.size w w' := by
  have HT := Lib.hid hT
  have hAw := Lib.hid (fun W (hT : Tab W) => awake_any W hT)
  obtain ⟨N, E, p0, p1, p2, p3, r0, r1, r2, r3, hF', hF2', hP', hP2', _, hN⟩ := shape_both g c mn0 mx0 x2 y2 m2 k2 w w0 hok wm wk hT
  have hF := Lib.hid hF'; have hF2 := Lib.hid hF2'; have hP := Lib.hid hP'; have hP2 := Lib.hid hP2'
  have hR := Lib.hid (fun W => refright_any g c mn0 mx0 W w0)
  rw [hok] at hR
  have hC := Lib.hid (fun W => check_ok g c mn0 mx0 W w0 hok)
  obtain ⟨ga, ca, hga, hca, hg16, hc16, _⟩ := Shp.nat hok
  have t1 : decide ((a1 : Int) < 0) = false := decide_eq_false (by omega)
  have t2 : decide (16 < (a1 : Int)) = false := decide_eq_false (by omega)
  have hU := Lib.hid (fun W => units_ok g c mn0 mx0 a1 W w0 hok ha)
  have hU2 := Lib.hid (fun W => refunits_ok g c mn0 mx0 a1 W (by omega) (by omega) ha)
  obtain ⟨ux, hux⟩ : ∃ v, v = g * a1 := ⟨_, rfl⟩
  obtain ⟨uy, huy⟩ : ∃ v, v = c * a1 := ⟨_, rfl⟩
  rw [← hux, ← huy] at hU hU2
  have e1 := units_eq ux uy
  clear hux huy hga hca hg16 hc16
  have e2 := slot_ne p0 p1 p2 p3
  have e3 := free_ne r0 r1 r2 r3
  clear hF' hF2' hP' hP2' wm wk hok w0 hT
  have HBel := Lib.hid (Below.refl w.heap.size w)
  have hlow : w.heap.size ≤ w.heap.size := Nat.le_refl _
  go_enter Tryd.func3, Tryd.ntmps3
  go_wp2_with fail
  obtain ⟨V1, hV1⟩ : ∃ W, W = (w.alloc (.cells #[.int .i64 (g : Int), .int .i64 (c : Int), .int .i64 mn0, .int .i64 mx0] 23)).alloc (.cells #[.int .i64 x2, .int .i64 y2, .int .u64 (m2 : Nat), .int .i64 k2] 28) := ⟨_, rfl⟩
  rw [← hV1]
  have hzV1 : V1.heap.size = w.heap.size + 1 + 1 := by rw [hV1]; simp
  replace HBel : Hid (Below w.heap.size w V1) := Lib.hid (by rw [hV1]; exact ((HBel.out.alloc (hlow) _).alloc (by simp <;> omega) _))
  have B_s : Hid (V1.heap[w.heap.size]? = some (.cells #[.int .i64 (g : Int), .int .i64 (c : Int), .int .i64 mn0, .int .i64 mx0] 23 (0, 0))) := Lib.hid (by
    have h9 := heap_alloc_new (w) (.cells #[.int .i64 (g : Int), .int .i64 (c : Int), .int .i64 mn0, .int .i64 mx0] 23)
    rw [hV1]; exact ((Below.heap_alloc _ _ _ (by simp <;> omega)).trans h9))
  have B_f : Hid (V1.heap[w.heap.size + 1]? = some (.cells #[.int .i64 x2, .int .i64 y2, .int .u64 (m2 : Nat), .int .i64 k2] 28 (0, 0))) := Lib.hid (by
    have h9 := heap_alloc_new (w.alloc (.cells #[.int .i64 (g : Int), .int .i64 (c : Int), .int .i64 mn0, .int .i64 mx0] 23)) (.cells #[.int .i64 x2, .int .i64 y2, .int .u64 (m2 : Nat), .int .i64 k2] 28)
    rw [World.size_alloc] at h9
    rw [hV1]; exact h9)
  obtain ⟨N_s, hN_s⟩ : ∃ N, N = w.heap.size := ⟨_, rfl⟩
  obtain ⟨N_f, hN_f⟩ : ∃ N, N = w.heap.size + 1 := ⟨_, rfl⟩
  (try rw [← hN_f])
  rw [← hN_f] at B_f
  (try rw [← hN_s])
  rw [← hN_s] at B_s
  have l_s : N_s < V1.heap.size := by omega
  have l_f : N_f < V1.heap.size := by omega
  have g_s : w.heap.size ≤ N_s := by omega
  have g_f : w.heap.size ≤ N_f := by omega
  have d_s_f : N_s < N_f := by omega
  replace hlow : w.heap.size ≤ V1.heap.size := by omega
  clear hV1 hzV1 hN_s hN_f
  refine (hAw.out V1 (HT.out.below HBel.out HT.out.size)).mono ?_
  rintro e U2 ⟨rfl, hb9⟩
  have hs9 := hb9.size
  replace HBel := Lib.hid (HBel.out.trans (hb9.mono hlow))
  replace B_s : Hid (U2.heap[N_s]? = some (.cells #[.int .i64 (g : Int), .int .i64 (c : Int), .int .i64 mn0, .int .i64 mx0] 23 (0, 0))) := Lib.hid ((hb9.block _ l_s).trans B_s.out)
  replace B_f : Hid (U2.heap[N_f]? = some (.cells #[.int .i64 x2, .int .i64 y2, .int .u64 (m2 : Nat), .int .i64 k2] 28 (0, 0))) := Lib.hid ((hb9.block _ l_f).trans B_f.out)
  replace l_s : N_s < U2.heap.size := by omega
  replace l_f : N_f < U2.heap.size := by omega
  replace hlow : w.heap.size ≤ U2.heap.size := by omega
  clear hb9 hs9
  have s0 : U2.cell? ⟨N_s, 0, none⟩ = some (.int .i64 (g : Int)) := cell_blk (i := 0) B_s.out rfl
  have s1 : U2.cell? ⟨N_s, 1, none⟩ = some (.int .i64 (c : Int)) := cell_blk (i := 1) B_s.out rfl
  have s2 : U2.cell? ⟨N_s, 2, none⟩ = some (.int .i64 mn0) := cell_blk (i := 2) B_s.out rfl
  have s3 : U2.cell? ⟨N_s, 3, none⟩ = some (.int .i64 mx0) := cell_blk (i := 3) B_s.out rfl
  have f0 : U2.cell? ⟨N_f, 0, none⟩ = some (.int .i64 x2) := cell_blk (i := 0) B_f.out rfl
  have f1 : U2.cell? ⟨N_f, 1, none⟩ = some (.int .i64 y2) := cell_blk (i := 1) B_f.out rfl
  have f2 : U2.cell? ⟨N_f, 2, none⟩ = some (.int .u64 (m2 : Nat)) := cell_blk (i := 2) B_f.out rfl
  have f3 : U2.cell? ⟨N_f, 3, none⟩ = some (.int .i64 k2) := cell_blk (i := 3) B_f.out rfl
  go_wp2_with fail
  refine (hU.out _).mono ?_
  rintro e U3 ⟨rfl, hb9⟩
  clear s0 s1 s2 s3 f0 f1 f2 f3
  have hs9 := hb9.size
  replace HBel := Lib.hid (HBel.out.trans (hb9.mono hlow))
  replace B_s : Hid (U3.heap[N_s]? = some (.cells #[.int .i64 (g : Int), .int .i64 (c : Int), .int .i64 mn0, .int .i64 mx0] 23 (0, 0))) := Lib.hid ((hb9.block _ l_s).trans B_s.out)
  replace B_f : Hid (U3.heap[N_f]? = some (.cells #[.int .i64 x2, .int .i64 y2, .int .u64 (m2 : Nat), .int .i64 k2] 28 (0, 0))) := Lib.hid ((hb9.block _ l_f).trans B_f.out)
  replace l_s : N_s < U3.heap.size := by omega
  replace l_f : N_f < U3.heap.size := by omega
  replace hlow : w.heap.size ≤ U3.heap.size := by omega
  clear hb9 hs9
  have s0 : U3.cell? ⟨N_s, 0, none⟩ = some (.int .i64 (g : Int)) := cell_blk (i := 0) B_s.out rfl
  have s1 : U3.cell? ⟨N_s, 1, none⟩ = some (.int .i64 (c : Int)) := cell_blk (i := 1) B_s.out rfl
  have s2 : U3.cell? ⟨N_s, 2, none⟩ = some (.int .i64 mn0) := cell_blk (i := 2) B_s.out rfl
  have s3 : U3.cell? ⟨N_s, 3, none⟩ = some (.int .i64 mx0) := cell_blk (i := 3) B_s.out rfl
  have f0 : U3.cell? ⟨N_f, 0, none⟩ = some (.int .i64 x2) := cell_blk (i := 0) B_f.out rfl
  have f1 : U3.cell? ⟨N_f, 1, none⟩ = some (.int .i64 y2) := cell_blk (i := 1) B_f.out rfl
  have f2 : U3.cell? ⟨N_f, 2, none⟩ = some (.int .u64 (m2 : Nat)) := cell_blk (i := 2) B_f.out rfl
  have f3 : U3.cell? ⟨N_f, 3, none⟩ = some (.int .i64 k2) := cell_blk (i := 3) B_f.out rfl
  go_wp2_with fail
  clear s0 s1 s2 s3 f0 f1 f2 f3
  obtain ⟨V4, hV4⟩ : ∃ W, W = U3.alloc (.cells #[.int .i64 (ux : Int), .int .i64 (uy : Int)] 31) := ⟨_, rfl⟩
  rw [← hV4]
  have hzV4 : V4.heap.size = U3.heap.size + 1 := by rw [hV4]; simp
  replace HBel : Hid (Below w.heap.size w V4) := Lib.hid (by rw [hV4]; exact (HBel.out.alloc (hlow) _))
  replace B_s : Hid (V4.heap[N_s]? = some (.cells #[.int .i64 (g : Int), .int .i64 (c : Int), .int .i64 mn0, .int .i64 mx0] 23 (0, 0))) := Lib.hid (by rw [hV4]; exact ((Below.heap_alloc _ _ _ (by first | omega | (simp <;> omega))).trans B_s.out))
  replace B_f : Hid (V4.heap[N_f]? = some (.cells #[.int .i64 x2, .int .i64 y2, .int .u64 (m2 : Nat), .int .i64 k2] 28 (0, 0))) := Lib.hid (by rw [hV4]; exact ((Below.heap_alloc _ _ _ (by first | omega | (simp <;> omega))).trans B_f.out))
  have B_u : Hid (V4.heap[U3.heap.size]? = some (.cells #[.int .i64 (ux : Int), .int .i64 (uy : Int)] 31 (0, 0))) := Lib.hid (by
    have h9 := heap_alloc_new (U3) (.cells #[.int .i64 (ux : Int), .int .i64 (uy : Int)] 31)
    rw [hV4]; exact h9)
  obtain ⟨N_u, hN_u⟩ : ∃ N, N = U3.heap.size := ⟨_, rfl⟩
  (try rw [← hN_u])
  rw [← hN_u] at B_u
  have d_s_u : N_s < N_u := by omega
  have d_f_u : N_f < N_u := by omega
  replace l_s : N_s < V4.heap.size := by omega
  replace l_f : N_f < V4.heap.size := by omega
  have l_u : N_u < V4.heap.size := by omega
  have g_u : w.heap.size ≤ N_u := by omega
  replace hlow : w.heap.size ≤ V4.heap.size := by omega
  clear hV4 hzV4 hN_u
  have s0 : V4.cell? ⟨N_s, 0, none⟩ = some (.int .i64 (g : Int)) := cell_blk (i := 0) B_s.out rfl
  have s1 : V4.cell? ⟨N_s, 1, none⟩ = some (.int .i64 (c : Int)) := cell_blk (i := 1) B_s.out rfl
  have s2 : V4.cell? ⟨N_s, 2, none⟩ = some (.int .i64 mn0) := cell_blk (i := 2) B_s.out rfl
  have s3 : V4.cell? ⟨N_s, 3, none⟩ = some (.int .i64 mx0) := cell_blk (i := 3) B_s.out rfl
  have f0 : V4.cell? ⟨N_f, 0, none⟩ = some (.int .i64 x2) := cell_blk (i := 0) B_f.out rfl
  have f1 : V4.cell? ⟨N_f, 1, none⟩ = some (.int .i64 y2) := cell_blk (i := 1) B_f.out rfl
  have f2 : V4.cell? ⟨N_f, 2, none⟩ = some (.int .u64 (m2 : Nat)) := cell_blk (i := 2) B_f.out rfl
  have f3 : V4.cell? ⟨N_f, 3, none⟩ = some (.int .i64 k2) := cell_blk (i := 3) B_f.out rfl
  refine (hP.out _ HBel.out).mono ?_
  rintro e U5 ⟨rfl, hb9⟩
  clear s0 s1 s2 s3 f0 f1 f2 f3
  have hs9 := hb9.size
  replace HBel := Lib.hid (HBel.out.trans (hb9.mono hlow))
  replace B_s : Hid (U5.heap[N_s]? = some (.cells #[.int .i64 (g : Int), .int .i64 (c : Int), .int .i64 mn0, .int .i64 mx0] 23 (0, 0))) := Lib.hid ((hb9.block _ l_s).trans B_s.out)
  replace B_f : Hid (U5.heap[N_f]? = some (.cells #[.int .i64 x2, .int .i64 y2, .int .u64 (m2 : Nat), .int .i64 k2] 28 (0, 0))) := Lib.hid ((hb9.block _ l_f).trans B_f.out)
  replace B_u : Hid (U5.heap[N_u]? = some (.cells #[.int .i64 (ux : Int), .int .i64 (uy : Int)] 31 (0, 0))) := Lib.hid ((hb9.block _ l_u).trans B_u.out)
  replace l_s : N_s < U5.heap.size := by omega
  replace l_f : N_f < U5.heap.size := by omega
  replace l_u : N_u < U5.heap.size := by omega
  replace hlow : w.heap.size ≤ U5.heap.size := by omega
  clear hb9 hs9
  have s0 : U5.cell? ⟨N_s, 0, none⟩ = some (.int .i64 (g : Int)) := cell_blk (i := 0) B_s.out rfl
  have s1 : U5.cell? ⟨N_s, 1, none⟩ = some (.int .i64 (c : Int)) := cell_blk (i := 1) B_s.out rfl
  have s2 : U5.cell? ⟨N_s, 2, none⟩ = some (.int .i64 mn0) := cell_blk (i := 2) B_s.out rfl
  have s3 : U5.cell? ⟨N_s, 3, none⟩ = some (.int .i64 mx0) := cell_blk (i := 3) B_s.out rfl
  have l_s_0 : N_s < U5.heap.size + 1 := by omega
  have l_s_1 : N_s < U5.heap.size + 1 + 1 := by omega
  have f0 : U5.cell? ⟨N_f, 0, none⟩ = some (.int .i64 x2) := cell_blk (i := 0) B_f.out rfl
  have f1 : U5.cell? ⟨N_f, 1, none⟩ = some (.int .i64 y2) := cell_blk (i := 1) B_f.out rfl
  have f2 : U5.cell? ⟨N_f, 2, none⟩ = some (.int .u64 (m2 : Nat)) := cell_blk (i := 2) B_f.out rfl
  have f3 : U5.cell? ⟨N_f, 3, none⟩ = some (.int .i64 k2) := cell_blk (i := 3) B_f.out rfl
  have l_f_0 : N_f < U5.heap.size + 1 := by omega
  have l_f_1 : N_f < U5.heap.size + 1 + 1 := by omega
  go_wp2_with fail
  clear s0 s1 s2 s3 l_s_0 l_s_1 f0 f1 f2 f3 l_f_0 l_f_1
  obtain ⟨V6, hV6⟩ : ∃ W, W = (U5.alloc (.cells #[.int .i64 p0, .int .i64 p1, .int .u64 p2, .int .i64 p3] 35)).alloc (.cells #[.int .i64 r0, .int .i64 r1, .int .u64 r2, .int .i64 r3] 28) := ⟨_, rfl⟩
  rw [← hV6]
  have hzV6 : V6.heap.size = U5.heap.size + 1 + 1 := by rw [hV6]; simp
  replace HBel : Hid (Below w.heap.size w V6) := Lib.hid (by rw [hV6]; exact ((HBel.out.alloc (hlow) _).alloc (by simp <;> omega) _))
  replace B_s : Hid (V6.heap[N_s]? = some (.cells #[.int .i64 (g : Int), .int .i64 (c : Int), .int .i64 mn0, .int .i64 mx0] 23 (0, 0))) := Lib.hid (by rw [hV6]; exact ((Below.heap_alloc _ _ _ (by first | omega | (simp <;> omega))).trans ((Below.heap_alloc _ _ _ (by first | omega | (simp <;> omega))).trans B_s.out)))
  replace B_f : Hid (V6.heap[N_f]? = some (.cells #[.int .i64 x2, .int .i64 y2, .int .u64 (m2 : Nat), .int .i64 k2] 28 (0, 0))) := Lib.hid (by rw [hV6]; exact ((Below.heap_alloc _ _ _ (by first | omega | (simp <;> omega))).trans ((Below.heap_alloc _ _ _ (by first | omega | (simp <;> omega))).trans B_f.out)))
  replace B_u : Hid (V6.heap[N_u]? = some (.cells #[.int .i64 (ux : Int), .int .i64 (uy : Int)] 31 (0, 0))) := Lib.hid (by rw [hV6]; exact ((Below.heap_alloc _ _ _ (by first | omega | (simp <;> omega))).trans ((Below.heap_alloc _ _ _ (by first | omega | (simp <;> omega))).trans B_u.out)))
  have B_p : Hid (V6.heap[U5.heap.size]? = some (.cells #[.int .i64 p0, .int .i64 p1, .int .u64 p2, .int .i64 p3] 35 (0, 0))) := Lib.hid (by
    have h9 := heap_alloc_new (U5) (.cells #[.int .i64 p0, .int .i64 p1, .int .u64 p2, .int .i64 p3] 35)
    rw [hV6]; exact ((Below.heap_alloc _ _ _ (by simp <;> omega)).trans h9))
  have B_r : Hid (V6.heap[U5.heap.size + 1]? = some (.cells #[.int .i64 r0, .int .i64 r1, .int .u64 r2, .int .i64 r3] 28 (0, 0))) := Lib.hid (by
    have h9 := heap_alloc_new (U5.alloc (.cells #[.int .i64 p0, .int .i64 p1, .int .u64 p2, .int .i64 p3] 35)) (.cells #[.int .i64 r0, .int .i64 r1, .int .u64 r2, .int .i64 r3] 28)
    rw [World.size_alloc] at h9
    rw [hV6]; exact h9)
  obtain ⟨N_p, hN_p⟩ : ∃ N, N = U5.heap.size := ⟨_, rfl⟩
  obtain ⟨N_r, hN_r⟩ : ∃ N, N = U5.heap.size + 1 := ⟨_, rfl⟩
  (try rw [← hN_r])
  rw [← hN_r] at B_r
  (try rw [← hN_p])
  rw [← hN_p] at B_p
  have d_s_p : N_s < N_p := by omega
  have d_f_p : N_f < N_p := by omega
  have d_u_p : N_u < N_p := by omega
  have d_s_r : N_s < N_r := by omega
  have d_f_r : N_f < N_r := by omega
  have d_u_r : N_u < N_r := by omega
  replace l_s : N_s < V6.heap.size := by omega
  replace l_f : N_f < V6.heap.size := by omega
  replace l_u : N_u < V6.heap.size := by omega
  have l_p : N_p < V6.heap.size := by omega
  have l_r : N_r < V6.heap.size := by omega
  have g_p : w.heap.size ≤ N_p := by omega
  have g_r : w.heap.size ≤ N_r := by omega
  have d_p_r : N_p < N_r := by omega
  replace hlow : w.heap.size ≤ V6.heap.size := by omega
  clear hV6 hzV6 hN_p hN_r
  refine (hR.out _).mono ?_
  rintro e U7 ⟨rfl, hb9⟩
  have hs9 := hb9.size
  replace HBel := Lib.hid (HBel.out.trans (hb9.mono hlow))
  replace B_s : Hid (U7.heap[N_s]? = some (.cells #[.int .i64 (g : Int), .int .i64 (c : Int), .int .i64 mn0, .int .i64 mx0] 23 (0, 0))) := Lib.hid ((hb9.block _ l_s).trans B_s.out)
  replace B_f : Hid (U7.heap[N_f]? = some (.cells #[.int .i64 x2, .int .i64 y2, .int .u64 (m2 : Nat), .int .i64 k2] 28 (0, 0))) := Lib.hid ((hb9.block _ l_f).trans B_f.out)
  replace B_u : Hid (U7.heap[N_u]? = some (.cells #[.int .i64 (ux : Int), .int .i64 (uy : Int)] 31 (0, 0))) := Lib.hid ((hb9.block _ l_u).trans B_u.out)
  replace B_p : Hid (U7.heap[N_p]? = some (.cells #[.int .i64 p0, .int .i64 p1, .int .u64 p2, .int .i64 p3] 35 (0, 0))) := Lib.hid ((hb9.block _ l_p).trans B_p.out)
  replace B_r : Hid (U7.heap[N_r]? = some (.cells #[.int .i64 r0, .int .i64 r1, .int .u64 r2, .int .i64 r3] 28 (0, 0))) := Lib.hid ((hb9.block _ l_r).trans B_r.out)
  replace l_s : N_s < U7.heap.size := by omega
  replace l_f : N_f < U7.heap.size := by omega
  replace l_u : N_u < U7.heap.size := by omega
  replace l_p : N_p < U7.heap.size := by omega
  replace l_r : N_r < U7.heap.size := by omega
  replace hlow : w.heap.size ≤ U7.heap.size := by omega
  clear hb9 hs9
  have s0 : U7.cell? ⟨N_s, 0, none⟩ = some (.int .i64 (g : Int)) := cell_blk (i := 0) B_s.out rfl
  have s1 : U7.cell? ⟨N_s, 1, none⟩ = some (.int .i64 (c : Int)) := cell_blk (i := 1) B_s.out rfl
  have s2 : U7.cell? ⟨N_s, 2, none⟩ = some (.int .i64 mn0) := cell_blk (i := 2) B_s.out rfl
  have s3 : U7.cell? ⟨N_s, 3, none⟩ = some (.int .i64 mx0) := cell_blk (i := 3) B_s.out rfl
  have f0 : U7.cell? ⟨N_f, 0, none⟩ = some (.int .i64 x2) := cell_blk (i := 0) B_f.out rfl
  have f1 : U7.cell? ⟨N_f, 1, none⟩ = some (.int .i64 y2) := cell_blk (i := 1) B_f.out rfl
  have f2 : U7.cell? ⟨N_f, 2, none⟩ = some (.int .u64 (m2 : Nat)) := cell_blk (i := 2) B_f.out rfl
  have f3 : U7.cell? ⟨N_f, 3, none⟩ = some (.int .i64 k2) := cell_blk (i := 3) B_f.out rfl
  go_wp2_with fail
  clear s0 s1 s2 s3 f0 f1 f2 f3
  have s0 : U7.cell? ⟨N_s, 0, none⟩ = some (.int .i64 (g : Int)) := cell_blk (i := 0) B_s.out rfl
  have s1 : U7.cell? ⟨N_s, 1, none⟩ = some (.int .i64 (c : Int)) := cell_blk (i := 1) B_s.out rfl
  have s2 : U7.cell? ⟨N_s, 2, none⟩ = some (.int .i64 mn0) := cell_blk (i := 2) B_s.out rfl
  have s3 : U7.cell? ⟨N_s, 3, none⟩ = some (.int .i64 mx0) := cell_blk (i := 3) B_s.out rfl
  have f0 : U7.cell? ⟨N_f, 0, none⟩ = some (.int .i64 x2) := cell_blk (i := 0) B_f.out rfl
  have f1 : U7.cell? ⟨N_f, 1, none⟩ = some (.int .i64 y2) := cell_blk (i := 1) B_f.out rfl
  have f2 : U7.cell? ⟨N_f, 2, none⟩ = some (.int .u64 (m2 : Nat)) := cell_blk (i := 2) B_f.out rfl
  have f3 : U7.cell? ⟨N_f, 3, none⟩ = some (.int .i64 k2) := cell_blk (i := 3) B_f.out rfl
  refine held_begin (fun w' : World => w'.cell? ⟨N_s, 0, none⟩ = some (.int .i64 (g : Int)) ∧ w'.cell? ⟨N_s, 1, none⟩ = some (.int .i64 (c : Int)) ∧ w'.cell? ⟨N_s, 2, none⟩ = some (.int .i64 mn0) ∧ w'.cell? ⟨N_s, 3, none⟩ = some (.int .i64 mx0) ∧ w'.cell? ⟨N_f, 0, none⟩ = some (.int .i64 x2) ∧ w'.cell? ⟨N_f, 1, none⟩ = some (.int .i64 y2) ∧ w'.cell? ⟨N_f, 2, none⟩ = some (.int .u64 (m2 : Nat)) ∧ w'.cell? ⟨N_f, 3, none⟩ = some (.int .i64 k2)) (by kernel_rfl) ?_
  have hBh0 : Below U7.heap.size U7 U7.drew := (Below.refl _ _).drew
  have hSh0 : (fun w' : World => w'.cell? ⟨N_s, 0, none⟩ = some (.int .i64 (g : Int)) ∧ w'.cell? ⟨N_s, 1, none⟩ = some (.int .i64 (c : Int)) ∧ w'.cell? ⟨N_s, 2, none⟩ = some (.int .i64 mn0) ∧ w'.cell? ⟨N_s, 3, none⟩ = some (.int .i64 mx0) ∧ w'.cell? ⟨N_f, 0, none⟩ = some (.int .i64 x2) ∧ w'.cell? ⟨N_f, 1, none⟩ = some (.int .i64 y2) ∧ w'.cell? ⟨N_f, 2, none⟩ = some (.int .u64 (m2 : Nat)) ∧ w'.cell? ⟨N_f, 3, none⟩ = some (.int .i64 k2)) U7.drew := ⟨s0, s1, s2, s3, f0, f1, f2, f3⟩
  refine held_take (v := ?_) 0 65 rfl rfl (by kernel_rfl) (by kernel_rfl) (by kernel_rfl) (fun _ _ _ h => h) ⟨by rfl, ?_⟩ hSh0 ?_
  rotate_left
  · intro w' hw'; obtain ⟨x0, x1, x2, x3, x4, x5, x6, x7⟩ := hw'; go_simp; (try with_reducible rfl)
  simp only [Act.put, List.setIfInBounds_toArray, List.set_cons_zero, List.set_cons_succ]
  refine held_one 1 rfl (by kernel_rfl) (by rfl) (fun K hK => ?_)
  go_simp
  go_at_call 12
  refine (hC.out _).mono ?_
  rintro e wh1 ⟨rfl, hbh1⟩
  have hBh1 : Below U7.heap.size U7 wh1 := below_step hBh0 hbh1
  have hSh1 : (fun w' : World => w'.cell? ⟨N_s, 0, none⟩ = some (.int .i64 (g : Int)) ∧ w'.cell? ⟨N_s, 1, none⟩ = some (.int .i64 (c : Int)) ∧ w'.cell? ⟨N_s, 2, none⟩ = some (.int .i64 mn0) ∧ w'.cell? ⟨N_s, 3, none⟩ = some (.int .i64 mx0) ∧ w'.cell? ⟨N_f, 0, none⟩ = some (.int .i64 x2) ∧ w'.cell? ⟨N_f, 1, none⟩ = some (.int .i64 y2) ∧ w'.cell? ⟨N_f, 2, none⟩ = some (.int .u64 (m2 : Nat)) ∧ w'.cell? ⟨N_f, 3, none⟩ = some (.int .i64 k2)) wh1 := ⟨(hBh1.cell (p := ⟨N_s, 0, none⟩) (show N_s < U7.heap.size by omega)).trans s0, (hBh1.cell (p := ⟨N_s, 1, none⟩) (show N_s < U7.heap.size by omega)).trans s1, (hBh1.cell (p := ⟨N_s, 2, none⟩) (show N_s < U7.heap.size by omega)).trans s2, (hBh1.cell (p := ⟨N_s, 3, none⟩) (show N_s < U7.heap.size by omega)).trans s3, (hBh1.cell (p := ⟨N_f, 0, none⟩) (show N_f < U7.heap.size by omega)).trans f0, (hBh1.cell (p := ⟨N_f, 1, none⟩) (show N_f < U7.heap.size by omega)).trans f1, (hBh1.cell (p := ⟨N_f, 2, none⟩) (show N_f < U7.heap.size by omega)).trans f2, (hBh1.cell (p := ⟨N_f, 3, none⟩) (show N_f < U7.heap.size by omega)).trans f3⟩
  refine hK.out _ _ hSh1 ?_
  clear hK K
  refine held_take (v := ?_) 2 67 rfl rfl (by kernel_rfl) (by kernel_rfl) (by kernel_rfl) (fun _ _ _ h => h) ⟨by rfl, ?_⟩ hSh1 ?_
  rotate_left
  · intro w' hw'; obtain ⟨x0, x1, x2, x3, x4, x5, x6, x7⟩ := hw'; go_simp; (try with_reducible rfl)
  simp only [Act.put, List.setIfInBounds_toArray, List.set_cons_zero, List.set_cons_succ]
  refine held_take (v := ?_) 3 68 rfl rfl (by kernel_rfl) (by kernel_rfl) (by kernel_rfl) (fun _ _ _ h => h) ⟨by rfl, ?_⟩ hSh1 ?_
  rotate_left
  · intro w' hw'; obtain ⟨x0, x1, x2, x3, x4, x5, x6, x7⟩ := hw'; go_simp; (try with_reducible rfl)
  simp only [Act.put, List.setIfInBounds_toArray, List.set_cons_zero, List.set_cons_succ]
  refine held_take (v := ?_) 4 69 rfl rfl (by kernel_rfl) (by kernel_rfl) (by kernel_rfl) (fun _ _ _ h => h) ⟨by rfl, ?_⟩ hSh1 ?_
  rotate_left
  · intro w' hw'; obtain ⟨x0, x1, x2, x3, x4, x5, x6, x7⟩ := hw'; go_simp; (try with_reducible rfl)
  simp only [Act.put, List.setIfInBounds_toArray, List.set_cons_zero, List.set_cons_succ]
  refine held_take (v := ?_) 5 70 rfl rfl (by kernel_rfl) (by kernel_rfl) (by kernel_rfl) (fun _ _ _ h => h) ⟨by rfl, ?_⟩ hSh1 ?_
  rotate_left
  · intro w' hw'; obtain ⟨x0, x1, x2, x3, x4, x5, x6, x7⟩ := hw'; go_simp; (try with_reducible rfl)
  simp only [Act.put, List.setIfInBounds_toArray, List.set_cons_zero, List.set_cons_succ]
  refine held_take (v := ?_) 7 72 rfl rfl (by kernel_rfl) (by kernel_rfl) (by kernel_rfl) (fun _ _ _ h => h) ⟨by rfl, ?_⟩ hSh1 ?_
  rotate_left
  · intro w' hw'; obtain ⟨x0, x1, x2, x3, x4, x5, x6, x7⟩ := hw'; go_simp; (try with_reducible rfl)
  simp only [Act.put, List.setIfInBounds_toArray, List.set_cons_zero, List.set_cons_succ]
  refine held_take (v := ?_) 8 73 rfl rfl (by kernel_rfl) (by kernel_rfl) (by kernel_rfl) (fun _ _ _ h => h) ⟨by rfl, ?_⟩ hSh1 ?_
  rotate_left
  · intro w' hw'; obtain ⟨x0, x1, x2, x3, x4, x5, x6, x7⟩ := hw'; go_simp; (try with_reducible rfl)
  simp only [Act.put, List.setIfInBounds_toArray, List.set_cons_zero, List.set_cons_succ]
  refine held_one 6 rfl (by kernel_rfl) (by rfl) (fun K hK => ?_)
  go_simp
  go_at_call 13
  refine (hF.out _ (HBel.out.trans (hBh1.mono hlow))).mono ?_
  rintro e wh2 ⟨rfl, hbh2⟩
  have hBh2 : Below U7.heap.size U7 wh2 := below_step hBh1 hbh2
  have hSh2 : (fun w' : World => w'.cell? ⟨N_s, 0, none⟩ = some (.int .i64 (g : Int)) ∧ w'.cell? ⟨N_s, 1, none⟩ = some (.int .i64 (c : Int)) ∧ w'.cell? ⟨N_s, 2, none⟩ = some (.int .i64 mn0) ∧ w'.cell? ⟨N_s, 3, none⟩ = some (.int .i64 mx0) ∧ w'.cell? ⟨N_f, 0, none⟩ = some (.int .i64 x2) ∧ w'.cell? ⟨N_f, 1, none⟩ = some (.int .i64 y2) ∧ w'.cell? ⟨N_f, 2, none⟩ = some (.int .u64 (m2 : Nat)) ∧ w'.cell? ⟨N_f, 3, none⟩ = some (.int .i64 k2)) wh2 := ⟨(hBh2.cell (p := ⟨N_s, 0, none⟩) (show N_s < U7.heap.size by omega)).trans s0, (hBh2.cell (p := ⟨N_s, 1, none⟩) (show N_s < U7.heap.size by omega)).trans s1, (hBh2.cell (p := ⟨N_s, 2, none⟩) (show N_s < U7.heap.size by omega)).trans s2, (hBh2.cell (p := ⟨N_s, 3, none⟩) (show N_s < U7.heap.size by omega)).trans s3, (hBh2.cell (p := ⟨N_f, 0, none⟩) (show N_f < U7.heap.size by omega)).trans f0, (hBh2.cell (p := ⟨N_f, 1, none⟩) (show N_f < U7.heap.size by omega)).trans f1, (hBh2.cell (p := ⟨N_f, 2, none⟩) (show N_f < U7.heap.size by omega)).trans f2, (hBh2.cell (p := ⟨N_f, 3, none⟩) (show N_f < U7.heap.size by omega)).trans f3⟩
  refine hK.out _ _ hSh2 ?_
  clear hK K
  refine held_one 9 rfl (by kernel_rfl) (by rfl) (fun K hK => ?_)
  go_simp
  go_at_call 14
  refine (hF2.out _ (HBel.out.trans (hBh2.mono hlow))).mono ?_
  rintro e wh3 ⟨rfl, hbh3⟩
  have hBh3 : Below U7.heap.size U7 wh3 := below_step hBh2 hbh3
  have hSh3 : (fun w' : World => w'.cell? ⟨N_s, 0, none⟩ = some (.int .i64 (g : Int)) ∧ w'.cell? ⟨N_s, 1, none⟩ = some (.int .i64 (c : Int)) ∧ w'.cell? ⟨N_s, 2, none⟩ = some (.int .i64 mn0) ∧ w'.cell? ⟨N_s, 3, none⟩ = some (.int .i64 mx0) ∧ w'.cell? ⟨N_f, 0, none⟩ = some (.int .i64 x2) ∧ w'.cell? ⟨N_f, 1, none⟩ = some (.int .i64 y2) ∧ w'.cell? ⟨N_f, 2, none⟩ = some (.int .u64 (m2 : Nat)) ∧ w'.cell? ⟨N_f, 3, none⟩ = some (.int .i64 k2)) wh3 := ⟨(hBh3.cell (p := ⟨N_s, 0, none⟩) (show N_s < U7.heap.size by omega)).trans s0, (hBh3.cell (p := ⟨N_s, 1, none⟩) (show N_s < U7.heap.size by omega)).trans s1, (hBh3.cell (p := ⟨N_s, 2, none⟩) (show N_s < U7.heap.size by omega)).trans s2, (hBh3.cell (p := ⟨N_s, 3, none⟩) (show N_s < U7.heap.size by omega)).trans s3, (hBh3.cell (p := ⟨N_f, 0, none⟩) (show N_f < U7.heap.size by omega)).trans f0, (hBh3.cell (p := ⟨N_f, 1, none⟩) (show N_f < U7.heap.size by omega)).trans f1, (hBh3.cell (p := ⟨N_f, 2, none⟩) (show N_f < U7.heap.size by omega)).trans f2, (hBh3.cell (p := ⟨N_f, 3, none⟩) (show N_f < U7.heap.size by omega)).trans f3⟩
  refine hK.out _ _ hSh3 ?_
  clear hK K
  refine held_take (v := ?_) 10 75 rfl rfl (by kernel_rfl) (by kernel_rfl) (by kernel_rfl) (fun _ _ _ h => h) ⟨by rfl, ?_⟩ hSh3 ?_
  rotate_left
  · intro w' hw'; obtain ⟨x0, x1, x2, x3, x4, x5, x6, x7⟩ := hw'; go_simp; (try with_reducible rfl)
  simp only [Act.put, List.setIfInBounds_toArray, List.set_cons_zero, List.set_cons_succ]
  refine held_take (v := ?_) 11 76 rfl rfl (by kernel_rfl) (by kernel_rfl) (by kernel_rfl) (fun _ _ _ h => h) ⟨by rfl, ?_⟩ hSh3 ?_
  rotate_left
  · intro w' hw'; obtain ⟨x0, x1, x2, x3, x4, x5, x6, x7⟩ := hw'; go_simp; (try with_reducible rfl)
  simp only [Act.put, List.setIfInBounds_toArray, List.set_cons_zero, List.set_cons_succ]
  refine wpAnyH_done (by kernel_rfl) ?_ _
  have hb9 := hBh3
  clear s0 s1 s2 s3 f0 f1 f2 f3
  have hs9 := hb9.size
  replace HBel := Lib.hid (HBel.out.trans (hb9.mono hlow))
  replace B_s : Hid (wh3.heap[N_s]? = some (.cells #[.int .i64 (g : Int), .int .i64 (c : Int), .int .i64 mn0, .int .i64 mx0] 23 (0, 0))) := Lib.hid ((hb9.block _ l_s).trans B_s.out)
  replace B_f : Hid (wh3.heap[N_f]? = some (.cells #[.int .i64 x2, .int .i64 y2, .int .u64 (m2 : Nat), .int .i64 k2] 28 (0, 0))) := Lib.hid ((hb9.block _ l_f).trans B_f.out)
  replace B_u : Hid (wh3.heap[N_u]? = some (.cells #[.int .i64 (ux : Int), .int .i64 (uy : Int)] 31 (0, 0))) := Lib.hid ((hb9.block _ l_u).trans B_u.out)
  replace B_p : Hid (wh3.heap[N_p]? = some (.cells #[.int .i64 p0, .int .i64 p1, .int .u64 p2, .int .i64 p3] 35 (0, 0))) := Lib.hid ((hb9.block _ l_p).trans B_p.out)
  replace B_r : Hid (wh3.heap[N_r]? = some (.cells #[.int .i64 r0, .int .i64 r1, .int .u64 r2, .int .i64 r3] 28 (0, 0))) := Lib.hid ((hb9.block _ l_r).trans B_r.out)
  replace l_s : N_s < wh3.heap.size := by omega
  replace l_f : N_f < wh3.heap.size := by omega
  replace l_u : N_u < wh3.heap.size := by omega
  replace l_p : N_p < wh3.heap.size := by omega
  replace l_r : N_r < wh3.heap.size := by omega
  replace hlow : w.heap.size ≤ wh3.heap.size := by omega
  clear hb9 hs9 hSh0 hBh0 hSh1 hBh1 hSh2 hBh2 hSh3 hBh3
  have s0 : wh3.cell? ⟨N_s, 0, none⟩ = some (.int .i64 (g : Int)) := cell_blk (i := 0) B_s.out rfl
  have s1 : wh3.cell? ⟨N_s, 1, none⟩ = some (.int .i64 (c : Int)) := cell_blk (i := 1) B_s.out rfl
  have s2 : wh3.cell? ⟨N_s, 2, none⟩ = some (.int .i64 mn0) := cell_blk (i := 2) B_s.out rfl
  have s3 : wh3.cell? ⟨N_s, 3, none⟩ = some (.int .i64 mx0) := cell_blk (i := 3) B_s.out rfl
  have f0 : wh3.cell? ⟨N_f, 0, none⟩ = some (.int .i64 x2) := cell_blk (i := 0) B_f.out rfl
  have f1 : wh3.cell? ⟨N_f, 1, none⟩ = some (.int .i64 y2) := cell_blk (i := 1) B_f.out rfl
  have f2 : wh3.cell? ⟨N_f, 2, none⟩ = some (.int .u64 (m2 : Nat)) := cell_blk (i := 2) B_f.out rfl
  have f3 : wh3.cell? ⟨N_f, 3, none⟩ = some (.int .i64 k2) := cell_blk (i := 3) B_f.out rfl
  have u0 : wh3.cell? ⟨N_u, 0, none⟩ = some (.int .i64 (ux : Int)) := cell_blk (i := 0) B_u.out rfl
  have u1 : wh3.cell? ⟨N_u, 1, none⟩ = some (.int .i64 (uy : Int)) := cell_blk (i := 1) B_u.out rfl
  have p0 : wh3.cell? ⟨N_p, 0, none⟩ = some (.int .i64 p0) := cell_blk (i := 0) B_p.out rfl
  have p1 : wh3.cell? ⟨N_p, 1, none⟩ = some (.int .i64 p1) := cell_blk (i := 1) B_p.out rfl
  have p2 : wh3.cell? ⟨N_p, 2, none⟩ = some (.int .u64 p2) := cell_blk (i := 2) B_p.out rfl
  have p3 : wh3.cell? ⟨N_p, 3, none⟩ = some (.int .i64 p3) := cell_blk (i := 3) B_p.out rfl
  have r0 : wh3.cell? ⟨N_r, 0, none⟩ = some (.int .i64 r0) := cell_blk (i := 0) B_r.out rfl
  have r1 : wh3.cell? ⟨N_r, 1, none⟩ = some (.int .i64 r1) := cell_blk (i := 1) B_r.out rfl
  have r2 : wh3.cell? ⟨N_r, 2, none⟩ = some (.int .u64 r2) := cell_blk (i := 2) B_r.out rfl
  have r3 : wh3.cell? ⟨N_r, 3, none⟩ = some (.int .i64 r3) := cell_blk (i := 3) B_r.out rfl
  go_wp2_with fail
  refine (hP2.out _ HBel.out).mono ?_
  rintro e U9 ⟨rfl, hb9⟩
  clear s0 s1 s2 s3 f0 f1 f2 f3 u0 u1 p0 p1 p2 p3 r0 r1 r2 r3
  have hs9 := hb9.size
  replace HBel := Lib.hid (HBel.out.trans (hb9.mono hlow))
  replace B_s : Hid (U9.heap[N_s]? = some (.cells #[.int .i64 (g : Int), .int .i64 (c : Int), .int .i64 mn0, .int .i64 mx0] 23 (0, 0))) := Lib.hid ((hb9.block _ l_s).trans B_s.out)
  replace B_f : Hid (U9.heap[N_f]? = some (.cells #[.int .i64 x2, .int .i64 y2, .int .u64 (m2 : Nat), .int .i64 k2] 28 (0, 0))) := Lib.hid ((hb9.block _ l_f).trans B_f.out)
  replace B_u : Hid (U9.heap[N_u]? = some (.cells #[.int .i64 (ux : Int), .int .i64 (uy : Int)] 31 (0, 0))) := Lib.hid ((hb9.block _ l_u).trans B_u.out)
  replace B_p : Hid (U9.heap[N_p]? = some (.cells #[.int .i64 p0, .int .i64 p1, .int .u64 p2, .int .i64 p3] 35 (0, 0))) := Lib.hid ((hb9.block _ l_p).trans B_p.out)
  replace B_r : Hid (U9.heap[N_r]? = some (.cells #[.int .i64 r0, .int .i64 r1, .int .u64 r2, .int .i64 r3] 28 (0, 0))) := Lib.hid ((hb9.block _ l_r).trans B_r.out)
  replace l_s : N_s < U9.heap.size := by omega
  replace l_f : N_f < U9.heap.size := by omega
  replace l_u : N_u < U9.heap.size := by omega
  replace l_p : N_p < U9.heap.size := by omega
  replace l_r : N_r < U9.heap.size := by omega
  replace hlow : w.heap.size ≤ U9.heap.size := by omega
  clear hb9 hs9
  have s0 : U9.cell? ⟨N_s, 0, none⟩ = some (.int .i64 (g : Int)) := cell_blk (i := 0) B_s.out rfl
  have s1 : U9.cell? ⟨N_s, 1, none⟩ = some (.int .i64 (c : Int)) := cell_blk (i := 1) B_s.out rfl
  have s2 : U9.cell? ⟨N_s, 2, none⟩ = some (.int .i64 mn0) := cell_blk (i := 2) B_s.out rfl
  have s3 : U9.cell? ⟨N_s, 3, none⟩ = some (.int .i64 mx0) := cell_blk (i := 3) B_s.out rfl
  have l_s_0 : N_s < U9.heap.size + 1 := by omega
  have l_s_1 : N_s < U9.heap.size + 1 + 1 := by omega
  have f0 : U9.cell? ⟨N_f, 0, none⟩ = some (.int .i64 x2) := cell_blk (i := 0) B_f.out rfl
  have f1 : U9.cell? ⟨N_f, 1, none⟩ = some (.int .i64 y2) := cell_blk (i := 1) B_f.out rfl
  have f2 : U9.cell? ⟨N_f, 2, none⟩ = some (.int .u64 (m2 : Nat)) := cell_blk (i := 2) B_f.out rfl
  have f3 : U9.cell? ⟨N_f, 3, none⟩ = some (.int .i64 k2) := cell_blk (i := 3) B_f.out rfl
  have l_f_0 : N_f < U9.heap.size + 1 := by omega
  have l_f_1 : N_f < U9.heap.size + 1 + 1 := by omega
  have u0 : U9.cell? ⟨N_u, 0, none⟩ = some (.int .i64 (ux : Int)) := cell_blk (i := 0) B_u.out rfl
  have u1 : U9.cell? ⟨N_u, 1, none⟩ = some (.int .i64 (uy : Int)) := cell_blk (i := 1) B_u.out rfl
  have l_u_0 : N_u < U9.heap.size + 1 := by omega
  have l_u_1 : N_u < U9.heap.size + 1 + 1 := by omega
  have p0 : U9.cell? ⟨N_p, 0, none⟩ = some (.int .i64 p0) := cell_blk (i := 0) B_p.out rfl
  have p1 : U9.cell? ⟨N_p, 1, none⟩ = some (.int .i64 p1) := cell_blk (i := 1) B_p.out rfl
  have p2 : U9.cell? ⟨N_p, 2, none⟩ = some (.int .u64 p2) := cell_blk (i := 2) B_p.out rfl
  have p3 : U9.cell? ⟨N_p, 3, none⟩ = some (.int .i64 p3) := cell_blk (i := 3) B_p.out rfl
  have l_p_0 : N_p < U9.heap.size + 1 := by omega
  have l_p_1 : N_p < U9.heap.size + 1 + 1 := by omega
  have r0 : U9.cell? ⟨N_r, 0, none⟩ = some (.int .i64 r0) := cell_blk (i := 0) B_r.out rfl
  have r1 : U9.cell? ⟨N_r, 1, none⟩ = some (.int .i64 r1) := cell_blk (i := 1) B_r.out rfl
  have r2 : U9.cell? ⟨N_r, 2, none⟩ = some (.int .u64 r2) := cell_blk (i := 2) B_r.out rfl
  have r3 : U9.cell? ⟨N_r, 3, none⟩ = some (.int .i64 r3) := cell_blk (i := 3) B_r.out rfl
  have l_r_0 : N_r < U9.heap.size + 1 := by omega
  have l_r_1 : N_r < U9.heap.size + 1 + 1 := by omega
  go_wp2_with fail
  clear s0 s1 s2 s3 l_s_0 l_s_1 f0 f1 f2 f3 l_f_0 l_f_1 u0 u1 l_u_0 l_u_1 p0 p1 p2 p3 l_p_0 l_p_1 r0 r1 r2 r3 l_r_0 l_r_1
  obtain ⟨V10, hV10⟩ : ∃ W, W = (U9.alloc (.cells #[.int .i64 p0, .int .i64 p1, .int .u64 p2, .int .i64 p3] 35)).alloc (.cells #[.int .i64 r0, .int .i64 r1, .int .u64 r2, .int .i64 r3] 28) := ⟨_, rfl⟩
  rw [← hV10]
  have hzV10 : V10.heap.size = U9.heap.size + 1 + 1 := by rw [hV10]; simp
  replace HBel : Hid (Below w.heap.size w V10) := Lib.hid (by rw [hV10]; exact ((HBel.out.alloc (hlow) _).alloc (by simp <;> omega) _))
  replace B_s : Hid (V10.heap[N_s]? = some (.cells #[.int .i64 (g : Int), .int .i64 (c : Int), .int .i64 mn0, .int .i64 mx0] 23 (0, 0))) := Lib.hid (by rw [hV10]; exact ((Below.heap_alloc _ _ _ (by first | omega | (simp <;> omega))).trans ((Below.heap_alloc _ _ _ (by first | omega | (simp <;> omega))).trans B_s.out)))
  replace B_f : Hid (V10.heap[N_f]? = some (.cells #[.int .i64 x2, .int .i64 y2, .int .u64 (m2 : Nat), .int .i64 k2] 28 (0, 0))) := Lib.hid (by rw [hV10]; exact ((Below.heap_alloc _ _ _ (by first | omega | (simp <;> omega))).trans ((Below.heap_alloc _ _ _ (by first | omega | (simp <;> omega))).trans B_f.out)))
  replace B_u : Hid (V10.heap[N_u]? = some (.cells #[.int .i64 (ux : Int), .int .i64 (uy : Int)] 31 (0, 0))) := Lib.hid (by rw [hV10]; exact ((Below.heap_alloc _ _ _ (by first | omega | (simp <;> omega))).trans ((Below.heap_alloc _ _ _ (by first | omega | (simp <;> omega))).trans B_u.out)))
  replace B_p : Hid (V10.heap[N_p]? = some (.cells #[.int .i64 p0, .int .i64 p1, .int .u64 p2, .int .i64 p3] 35 (0, 0))) := Lib.hid (by rw [hV10]; exact ((Below.heap_alloc _ _ _ (by first | omega | (simp <;> omega))).trans ((Below.heap_alloc _ _ _ (by first | omega | (simp <;> omega))).trans B_p.out)))
  replace B_r : Hid (V10.heap[N_r]? = some (.cells #[.int .i64 r0, .int .i64 r1, .int .u64 r2, .int .i64 r3] 28 (0, 0))) := Lib.hid (by rw [hV10]; exact ((Below.heap_alloc _ _ _ (by first | omega | (simp <;> omega))).trans ((Below.heap_alloc _ _ _ (by first | omega | (simp <;> omega))).trans B_r.out)))
  have B_q : Hid (V10.heap[U9.heap.size]? = some (.cells #[.int .i64 p0, .int .i64 p1, .int .u64 p2, .int .i64 p3] 35 (0, 0))) := Lib.hid (by
    have h9 := heap_alloc_new (U9) (.cells #[.int .i64 p0, .int .i64 p1, .int .u64 p2, .int .i64 p3] 35)
    rw [hV10]; exact ((Below.heap_alloc _ _ _ (by simp <;> omega)).trans h9))
  have B_z : Hid (V10.heap[U9.heap.size + 1]? = some (.cells #[.int .i64 r0, .int .i64 r1, .int .u64 r2, .int .i64 r3] 28 (0, 0))) := Lib.hid (by
    have h9 := heap_alloc_new (U9.alloc (.cells #[.int .i64 p0, .int .i64 p1, .int .u64 p2, .int .i64 p3] 35)) (.cells #[.int .i64 r0, .int .i64 r1, .int .u64 r2, .int .i64 r3] 28)
    rw [World.size_alloc] at h9
    rw [hV10]; exact h9)
  obtain ⟨N_q, hN_q⟩ : ∃ N, N = U9.heap.size := ⟨_, rfl⟩
  obtain ⟨N_z, hN_z⟩ : ∃ N, N = U9.heap.size + 1 := ⟨_, rfl⟩
  (try rw [← hN_z])
  rw [← hN_z] at B_z
  (try rw [← hN_q])
  rw [← hN_q] at B_q
  have d_s_q : N_s < N_q := by omega
  have d_f_q : N_f < N_q := by omega
  have d_u_q : N_u < N_q := by omega
  have d_p_q : N_p < N_q := by omega
  have d_r_q : N_r < N_q := by omega
  have d_s_z : N_s < N_z := by omega
  have d_f_z : N_f < N_z := by omega
  have d_u_z : N_u < N_z := by omega
  have d_p_z : N_p < N_z := by omega
  have d_r_z : N_r < N_z := by omega
  replace l_s : N_s < V10.heap.size := by omega
  replace l_f : N_f < V10.heap.size := by omega
  replace l_u : N_u < V10.heap.size := by omega
  replace l_p : N_p < V10.heap.size := by omega
  replace l_r : N_r < V10.heap.size := by omega
  have l_q : N_q < V10.heap.size := by omega
  have l_z : N_z < V10.heap.size := by omega
  have g_q : w.heap.size ≤ N_q := by omega
  have g_z : w.heap.size ≤ N_z := by omega
  have d_q_z : N_q < N_z := by omega
  replace hlow : w.heap.size ≤ V10.heap.size := by omega
  clear hV10 hzV10 hN_q hN_z
  have s0 : V10.cell? ⟨N_s, 0, none⟩ = some (.int .i64 (g : Int)) := cell_blk (i := 0) B_s.out rfl
  have s1 : V10.cell? ⟨N_s, 1, none⟩ = some (.int .i64 (c : Int)) := cell_blk (i := 1) B_s.out rfl
  have s2 : V10.cell? ⟨N_s, 2, none⟩ = some (.int .i64 mn0) := cell_blk (i := 2) B_s.out rfl
  have s3 : V10.cell? ⟨N_s, 3, none⟩ = some (.int .i64 mx0) := cell_blk (i := 3) B_s.out rfl
  have u0 : V10.cell? ⟨N_u, 0, none⟩ = some (.int .i64 (ux : Int)) := cell_blk (i := 0) B_u.out rfl
  have u1 : V10.cell? ⟨N_u, 1, none⟩ = some (.int .i64 (uy : Int)) := cell_blk (i := 1) B_u.out rfl
  refine held_begin (fun w' : World => w'.cell? ⟨N_s, 0, none⟩ = some (.int .i64 (g : Int)) ∧ w'.cell? ⟨N_s, 1, none⟩ = some (.int .i64 (c : Int)) ∧ w'.cell? ⟨N_s, 2, none⟩ = some (.int .i64 mn0) ∧ w'.cell? ⟨N_s, 3, none⟩ = some (.int .i64 mx0) ∧ w'.cell? ⟨N_u, 0, none⟩ = some (.int .i64 (ux : Int)) ∧ w'.cell? ⟨N_u, 1, none⟩ = some (.int .i64 (uy : Int))) (by kernel_rfl) ?_
  have hBk0 : Below V10.heap.size V10 V10.drew := (Below.refl _ _).drew
  have hSk0 : (fun w' : World => w'.cell? ⟨N_s, 0, none⟩ = some (.int .i64 (g : Int)) ∧ w'.cell? ⟨N_s, 1, none⟩ = some (.int .i64 (c : Int)) ∧ w'.cell? ⟨N_s, 2, none⟩ = some (.int .i64 mn0) ∧ w'.cell? ⟨N_s, 3, none⟩ = some (.int .i64 mx0) ∧ w'.cell? ⟨N_u, 0, none⟩ = some (.int .i64 (ux : Int)) ∧ w'.cell? ⟨N_u, 1, none⟩ = some (.int .i64 (uy : Int))) V10.drew := ⟨s0, s1, s2, s3, u0, u1⟩
  refine held_take (v := ?_) 0 110 rfl rfl (by kernel_rfl) (by kernel_rfl) (by kernel_rfl) (fun _ _ _ h => h) ⟨by rfl, ?_⟩ hSk0 ?_
  rotate_left
  · intro w' hw'; obtain ⟨x0, x1, x2, x3, x4, x5⟩ := hw'; go_simp; (try with_reducible rfl)
  simp only [Act.put, List.setIfInBounds_toArray, List.set_cons_zero, List.set_cons_succ]
  refine held_take (v := ?_) 1 111 rfl rfl (by kernel_rfl) (by kernel_rfl) (by kernel_rfl) (fun _ _ _ h => h) ⟨by rfl, ?_⟩ hSk0 ?_
  rotate_left
  · intro w' hw'; obtain ⟨x0, x1, x2, x3, x4, x5⟩ := hw'; go_simp; (try with_reducible rfl)
  simp only [Act.put, List.setIfInBounds_toArray, List.set_cons_zero, List.set_cons_succ]
  refine held_take (v := ?_) 2 112 rfl rfl (by kernel_rfl) (by kernel_rfl) (by kernel_rfl) (fun _ _ _ h => h) ⟨by rfl, ?_⟩ hSk0 ?_
  rotate_left
  · intro w' hw'; obtain ⟨x0, x1, x2, x3, x4, x5⟩ := hw'; go_simp; (try with_reducible rfl)
  simp only [Act.put, List.setIfInBounds_toArray, List.set_cons_zero, List.set_cons_succ]
  refine held_take (v := ?_) 3 113 rfl rfl (by kernel_rfl) (by kernel_rfl) (by kernel_rfl) (fun _ _ _ h => h) ⟨by rfl, ?_⟩ hSk0 ?_
  rotate_left
  · intro w' hw'; obtain ⟨x0, x1, x2, x3, x4, x5⟩ := hw'; go_simp; (try with_reducible rfl)
  simp only [Act.put, List.setIfInBounds_toArray, List.set_cons_zero, List.set_cons_succ]
  refine held_take (v := ?_) 4 114 rfl rfl (by kernel_rfl) (by kernel_rfl) (by kernel_rfl) (fun _ _ _ h => h) ⟨by rfl, ?_⟩ hSk0 ?_
  rotate_left
  · intro w' hw'; obtain ⟨x0, x1, x2, x3, x4, x5⟩ := hw'; go_simp; (try with_reducible rfl)
  simp only [Act.put, List.setIfInBounds_toArray, List.set_cons_zero, List.set_cons_succ]
  refine held_take (v := ?_) 5 115 rfl rfl (by kernel_rfl) (by kernel_rfl) (by kernel_rfl) (fun _ _ _ h => h) ⟨by rfl, ?_⟩ hSk0 ?_
  rotate_left
  · intro w' hw'; obtain ⟨x0, x1, x2, x3, x4, x5⟩ := hw'; go_simp; (try with_reducible rfl)
  simp only [Act.put, List.setIfInBounds_toArray, List.set_cons_zero, List.set_cons_succ]
  refine held_one 6 rfl (by kernel_rfl) (by rfl) (fun K hK => ?_)
  go_simp
  go_at_call 16
  refine (hU2.out _).mono ?_
  rintro e wk1 ⟨rfl, hbk1⟩
  have hBk1 : Below V10.heap.size V10 wk1 := below_step hBk0 hbk1
  have hSk1 : (fun w' : World => w'.cell? ⟨N_s, 0, none⟩ = some (.int .i64 (g : Int)) ∧ w'.cell? ⟨N_s, 1, none⟩ = some (.int .i64 (c : Int)) ∧ w'.cell? ⟨N_s, 2, none⟩ = some (.int .i64 mn0) ∧ w'.cell? ⟨N_s, 3, none⟩ = some (.int .i64 mx0) ∧ w'.cell? ⟨N_u, 0, none⟩ = some (.int .i64 (ux : Int)) ∧ w'.cell? ⟨N_u, 1, none⟩ = some (.int .i64 (uy : Int))) wk1 := ⟨(hBk1.cell (p := ⟨N_s, 0, none⟩) (show N_s < V10.heap.size by omega)).trans s0, (hBk1.cell (p := ⟨N_s, 1, none⟩) (show N_s < V10.heap.size by omega)).trans s1, (hBk1.cell (p := ⟨N_s, 2, none⟩) (show N_s < V10.heap.size by omega)).trans s2, (hBk1.cell (p := ⟨N_s, 3, none⟩) (show N_s < V10.heap.size by omega)).trans s3, (hBk1.cell (p := ⟨N_u, 0, none⟩) (show N_u < V10.heap.size by omega)).trans u0, (hBk1.cell (p := ⟨N_u, 1, none⟩) (show N_u < V10.heap.size by omega)).trans u1⟩
  refine hK.out _ _ hSk1 ?_
  clear hK K
  refine held_take (v := ?_) 7 117 rfl rfl (by kernel_rfl) (by kernel_rfl) (by kernel_rfl) (fun _ _ _ h => h) ⟨by rfl, ?_⟩ hSk1 ?_
  rotate_left
  · intro w' hw'; obtain ⟨x0, x1, x2, x3, x4, x5⟩ := hw'; go_simp; (try with_reducible rfl)
  simp only [Act.put, List.setIfInBounds_toArray, List.set_cons_zero, List.set_cons_succ]
  refine held_take (v := ?_) 8 118 rfl rfl (by kernel_rfl) (by kernel_rfl) (by kernel_rfl) (fun _ _ _ h => h) ⟨by rfl, ?_⟩ hSk1 ?_
  rotate_left
  · intro w' hw'; obtain ⟨x0, x1, x2, x3, x4, x5⟩ := hw'; go_simp; (try with_reducible rfl)
  simp only [Act.put, List.setIfInBounds_toArray, List.set_cons_zero, List.set_cons_succ]
  refine held_take (v := ?_) 9 6 rfl rfl (by kernel_rfl) (by kernel_rfl) (by kernel_rfl) (fun _ _ _ h => h) ⟨by rfl, ?_⟩ hSk1 ?_
  rotate_left
  · intro w' hw'; obtain ⟨x0, x1, x2, x3, x4, x5⟩ := hw'; go_simp; (try with_reducible rfl)
  simp only [Act.put, List.setIfInBounds_toArray, List.set_cons_zero, List.set_cons_succ]
  refine wpAnyH_done (by kernel_rfl) ?_ _
  have hb9 := hBk1
  clear s0 s1 s2 s3 u0 u1
  have hs9 := hb9.size
  replace HBel := Lib.hid (HBel.out.trans (hb9.mono hlow))
  replace B_s : Hid (wk1.heap[N_s]? = some (.cells #[.int .i64 (g : Int), .int .i64 (c : Int), .int .i64 mn0, .int .i64 mx0] 23 (0, 0))) := Lib.hid ((hb9.block _ l_s).trans B_s.out)
  replace B_f : Hid (wk1.heap[N_f]? = some (.cells #[.int .i64 x2, .int .i64 y2, .int .u64 (m2 : Nat), .int .i64 k2] 28 (0, 0))) := Lib.hid ((hb9.block _ l_f).trans B_f.out)
  replace B_u : Hid (wk1.heap[N_u]? = some (.cells #[.int .i64 (ux : Int), .int .i64 (uy : Int)] 31 (0, 0))) := Lib.hid ((hb9.block _ l_u).trans B_u.out)
  replace B_p : Hid (wk1.heap[N_p]? = some (.cells #[.int .i64 p0, .int .i64 p1, .int .u64 p2, .int .i64 p3] 35 (0, 0))) := Lib.hid ((hb9.block _ l_p).trans B_p.out)
  replace B_r : Hid (wk1.heap[N_r]? = some (.cells #[.int .i64 r0, .int .i64 r1, .int .u64 r2, .int .i64 r3] 28 (0, 0))) := Lib.hid ((hb9.block _ l_r).trans B_r.out)
  replace B_q : Hid (wk1.heap[N_q]? = some (.cells #[.int .i64 p0, .int .i64 p1, .int .u64 p2, .int .i64 p3] 35 (0, 0))) := Lib.hid ((hb9.block _ l_q).trans B_q.out)
  replace B_z : Hid (wk1.heap[N_z]? = some (.cells #[.int .i64 r0, .int .i64 r1, .int .u64 r2, .int .i64 r3] 28 (0, 0))) := Lib.hid ((hb9.block _ l_z).trans B_z.out)
  replace l_s : N_s < wk1.heap.size := by omega
  replace l_f : N_f < wk1.heap.size := by omega
  replace l_u : N_u < wk1.heap.size := by omega
  replace l_p : N_p < wk1.heap.size := by omega
  replace l_r : N_r < wk1.heap.size := by omega
  replace l_q : N_q < wk1.heap.size := by omega
  replace l_z : N_z < wk1.heap.size := by omega
  replace hlow : w.heap.size ≤ wk1.heap.size := by omega
  clear hb9 hs9 hSk0 hBk0 hSk1 hBk1
  go_wp2
  go_ret
  exact ⟨rfl, HBel.out⟩
theorem walk (g0 c0 mn0 mx0 : Int) (a1 : Int) (fx2 fy2 : Int) (fm2 : Nat) (fk2 : Int) (w : World) (w0 : Shp.Wf ⟨g0, c0, mn0, mx0⟩) (w1 : (Lit.int .i64 a1).wf = true) (wm2 : fm2 < 18446744073709551616) (wk2 : (Lit.int .i64 fk2).wf = true) (hT : Tab w) :
    Calls Tryd.prog 3 #[.agg #[.int .i64 g0, .int .i64 c0, .int .i64 mn0, .int .i64 mx0], .int .i64 a1, .agg #[.int .i64 fx2, .int .i64 fy2, .int .u64 (fm2 : Nat), .int .i64 fk2]] w fun e w' => e = .returned (.bool true) ∧ Below w.heap.size w w' := by
  cases hok : Shp.ok ⟨g0, c0, mn0, mx0⟩
  · exact walk_bad g0 c0 mn0 mx0 a1 fx2 fy2 fm2 fk2 w w0 hT hok
  · obtain ⟨g, c, rfl, rfl, _⟩ := Shp.nat hok
    by_cases h1 : a1 < 0
    · exact walk_low g c mn0 mx0 a1 fx2 fy2 fm2 fk2 w w0 hT hok wm2 wk2 h1
    · by_cases h2 : 16 < a1
      · exact walk_high g c mn0 mx0 a1 fx2 fy2 fm2 fk2 w w0 hT hok wm2 wk2 h2
      · obtain ⟨x, rfl⟩ : ∃ x : Nat, a1 = x := ⟨a1.toNat, by omega⟩
        exact walk_ok g c mn0 mx0 x fx2 fy2 fm2 fk2 w w0 hT hok wm2 wk2 (by omega)

set_option maxRecDepth 100000 in
set_option maxHeartbeats 1000000 in
theorem lifted (os : Os) (started : os.Started) (H : Type) (enc : TypeId × Value → H) :
    ReturnsInHanded {} Tryd.checked os 3 .any (fun w args => (Rows.shapeTellsSpec.pre enc Tryd.prog Tryd.f3 [] false w args ∧ laidMetH Tryd.prog laid1 w) ∧ sizedMet enc Tryd.prog Tryd.f3 (OpenSpec.ofChange Rows.shapeTellsSpec) false w args)
      (Rows.shapeTellsSpec.post enc Tryd.prog Tryd.f3 false true false false) := by
  refine returnsInHanded_of_change_and (C := Tryd.checked) (X := fun w _ => laidMetH Tryd.prog laid1 w) (fun _ _ _ hh h => h.of_heap hh) own started (by kernel_rfl) Tryd.func3
    (ChangeSpec.witness_shaped (enc := enc) (C := Tryd.checked) (os := os) (X := fun w _ => laidMetH Tryd.prog laid1 w) false (World.doorLaid Tryd.prog 400 os) #[.agg #[.int .i64 0, .int .i64 0, .int .i64 0, .int .i64 0], .int .i64 0, .agg #[.int .i64 0, .int .i64 0, .int .u64 0, .int .i64 0]] 8 rfl (World.shaped_of_RefB (by kernel_rfl) (by kernel_rfl)) (by kernel_rfl) (by kernel_rfl) (by kernel_rfl) (door_met os _)) ?_
  intro W base args ds gs before hval0 hW _ _ hL _
  have hval : ∀ (j : Nat) t v, Tryd.f3.params[j]? = some t → args[j]? = some v → Value.okWide Tryd.prog W .any base t v := hval0
  have hW' := hW
  obtain ⟨p, q, hA0, hV, rfl, hfz, hnd⟩ := hW
  have hA : DataW.TrodAll enc Tryd.prog W 0 (fun _ => true) true Tryd.f3.params.toList args.toList ds p := hA0
  rw [Tryd.params3] at hA hval
  obtain ⟨v0, vs0, d0, ds0, p0, q0, hargs, rfl, rfl, h0, r0⟩ := trodAll_cons hA
  obtain ⟨v1, vs1, d1, ds1, p1, q1, rfl, rfl, rfl, h1, r1⟩ := trodAll_cons r0
  obtain ⟨v2, vs2, d2, ds2, p2, q2, rfl, rfl, rfl, h2, r2⟩ := trodAll_cons r1
  obtain ⟨rfl, rfl, rfl⟩ := trodAll_nil r2
  obtain rfl : args = #[v0, v1, v2] := by cases args; simp_all
  obtain ⟨rfl, rfl⟩ := trodVars_none hV
  have k0 := h0
  have lt0 : ∀ x ∈ p0, x.block < W.heap.size := by obtain ⟨m, hm⟩ := k0; exact DataW.trod_lt m _ _ _ hm
  obtain ⟨g0, c0, mn0, mx0, rfl, w0⟩ := shape_of (hval 0 23 v0 rfl rfl) h0
  have k1 := h1
  have lt1 : ∀ x ∈ p1, x.block < W.heap.size := by obtain ⟨m, hm⟩ := k1; exact DataW.trod_lt m _ _ _ hm
  obtain ⟨a1, rfl, _, _, w1⟩ := open_int Tryd.underlying3 (hval 1 3 v1 rfl rfl) h1
  have k2 := h2
  have lt2 : ∀ x ∈ p2, x.block < W.heap.size := by obtain ⟨m, hm⟩ := k2; exact DataW.trod_lt m _ _ _ hm
  obtain ⟨fx2, fy2, fm2, fk2, rfl, wm2, wk2⟩ := free_of (hval 2 28 v2 rfl rfl) h2
  have hT := of_laid hL
  clear hL
  clear hA0 hval0
  refine (walk g0 c0 mn0 mx0 a1 fx2 fy2 fm2 fk2 W w0 w1 wm2 wk2 hT).mono fun e W' ⟨he, bel⟩ => ?_
  subst he
  exact ⟨_, rfl, _, _, _, [], _, [], hW', trodAll_mk1 (shut_bool Tryd.underlying4 _), (trodAll_cons_mk (Below.trod laidOut (by kernel_rfl) (of_decide_eq_true (by kernel_rfl)) k0 bel lt0) (trodAll_cons_mk (Below.trod laidOut (by kernel_rfl) (of_decide_eq_true (by kernel_rfl)) k1 bel lt1) (trodAll_cons_mk (Below.trod laidOut (by kernel_rfl) (of_decide_eq_true (by kernel_rfl)) k2 bel lt2) trodAll_mk0))), rfl, bel.frame _, fun h => by cases h⟩

/-- THE ROW. -/
theorem row_holds : Rows.ShapeTellsSaid :=
  OpenClaim.holds_of_wide 3 Tryd.f3 rfl rfl rfl rfl rfl rfl rfl ⟨rfl, rfl, rfl, rfl, rfl⟩ rfl rfl rfl rfl rfl (by kernel_rfl) Tryd.func3 (by kernel_rfl)
    (of_decide_eq_true (by kernel_rfl)) (by unfold Func.isWrapper; first | (rw [if_pos (by decide +kernel)]; kernel_rfl) | (rw [if_neg (by decide +kernel)]; exact ⟨rfl, rfl⟩))
    (fun os started H enc _ => lifted os started H enc)

/-- THE STATEMENT. -/
theorem card_holds : Rows.ShapeTellsCardSaid :=
  Claim7.holds_tied_plain_at .later [] [.data] true (true, Rows.shapeTellsCard.stood.harness.2) false
    row_holds (fun _ h => by cases h) (by kernel_rfl) (fun _ h => by cases h) shapeTells_row_tie rfl ⟨rfl, rfl⟩ (by kernel_rfl) rfl
    (fun f fn hf hfn => by
      obtain rfl : f = 3 := Option.some.inj ((show Tryd.prog.funcNamed Rows.shapeTellsRow.func = some 3 by kernel_rfl).symm.trans hf) |>.symm
      obtain rfl : fn = Tryd.f3 := (Option.some.inj (Tryd.func3.symm.trans hfn)).symm
      exact ⟨by kernel_rfl, fun j t ht => by
        rw [Tryd.params3] at ht
        have hm : t ∈ [23, 3, 28] := by simpa using Array.mem_of_getElem? ht
        have hall : ([23, 3, 28].all fun u => !Tryd.prog.wantsStandIn u) = true := by kernel_rfl
        exact (show Tryd.prog.wantsStandIn t = false by simpa using List.all_eq_true.1 hall t hm)⟩)
    (by kernel_rfl)
end Go.Proofs.YtjenokegpbhciaaDoor.shapeTells
