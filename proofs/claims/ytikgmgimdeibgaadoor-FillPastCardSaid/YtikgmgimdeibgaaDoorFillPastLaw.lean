/- A hold that ends by now plays no part: the head fits when it would without it: the law FillPast answers true, at every input. The library's table of lowest units is as the program's text lays it (tied). -/
import Derived.Test.YtikgmgimdeibgaaDoorFilAwake
import Derived.SevenTiedAt
import Derived.Test.YtikgmgimdeibgaaDoorTie
import Derived.Test.YtikgmgimdeibgaaDoorCards
set_option linter.unusedVariables false
namespace Go.Proofs.YtikgmgimdeibgaaDoor.fillPast
open Go Go.ChangeShapes Go.WideShapes Go.ChangeAt Go.RowKit
open PR
set_option maxRecDepth 100000 in
set_option maxHeartbeats 16000000 in
theorem walk (now : Int) (a1 : Option Addr) (c1 : Nat) (l1 : List Fe) (g c : Int) (a3 : Option Addr) (c3 : Nat) (l3 : List Ho) (X : Wa) (H : Ho) (by9 : Int) (w : World) (w0 : (Lit.int .i64 now).wf = true) (v1 : Fes w w.heap.size a1 l1) (q1 : ∀ s ∈ l1, FeOk s) (lc1 : l1.length ≤ c1) (mc1 : c1 ≤ maxLen) (wg : (Lit.int .i64 g).wf = true) (wc : (Lit.int .i64 c).wf = true) (v3 : HosIn w w.heap.size a3 l3) (q3 : ∀ x ∈ l3, HoOk x) (lc3 : l3.length ≤ c3) (mc3 : c3 ≤ maxLen) (w4 : WaOk X) (v6 : Fes w w.heap.size H.A H.sl) (q6 : HoOk H) (w7 : (Lit.int .u8 by9).wf = true) (hT : Tab w) :
    Calls Tryd.prog 7 #[.int .i64 now, .slice a1 l1.length c1, .agg #[.int .i64 g, .int .i64 c], .slice a3 l3.length c3, waV X, hoV H, .int .u8 by9] w fun e w' => e = .returned (.bool true) ∧ Below w.heap.size w w' := by
  have HT := Lib.hid hT
  have hAw := Lib.hid (fun W (hT : Tab W) => awake13 W hT)
  obtain ⟨n, hn⟩ : ∃ n, n = l1.length := ⟨_, rfl⟩
  obtain ⟨m, hm⟩ : ∃ m, m = l3.length := ⟨_, rfl⟩
  obtain ⟨k, hk⟩ : ∃ k, k = H.sl.length := ⟨_, rfl⟩
  have hFw := Lib.hid (fun W (hW : Below w.heap.size w W) => show Calls Tryd.prog 9 #[.slice a1 n c1, .agg #[.int .i64 g, .int .i64 c], .slice a3 m c3, .agg #[.int .i64 H.id, .int .i64 H.q, .int .i64 H.u, .bool H.r, .slice H.A k H.c]] W (fun e w' => e = .returned (.bool (few13 l1 g c l3 H)) ∧ Below W.heap.size W w') from by
    rw [hn, hm, hk]
    exact few13_any a1 c1 l1 g c a3 c3 l3 H W (v1.keep hW hW.size) lc1 (v3.keep hW hW.size).at_ (fun x hx => Nat.le_trans (q3 x hx).l (q3 x hx).m))
  unfold waV waA hoV hoA
  rw [← hn, ← hm, ← hk]
  cases hfew : few13 l1 g c l3 H
  · rw [hfew] at hFw
    clear hfew w0 v1 q1 lc1 mc1 wg wc v3 q3 lc3 mc3 w4 v6 q6 hT hn hm hk w7
    obtain ⟨B0, hB0⟩ : ∃ B, B = w.heap.size := ⟨_, rfl⟩
    rw [← hB0]
    have HB0 := Lib.hid hB0
    clear hB0
    have HBel := Lib.hid (Below.refl w.heap.size w)
    have hlow : w.heap.size ≤ w.heap.size := Nat.le_refl _
    go_enter Tryd.func7, Tryd.ntmps7
    go_wp2_with fail
    obtain ⟨V1, hV1⟩ : ∃ W, W = ((w.alloc (.cells #[.int .i64 g, .int .i64 c] 24)).alloc (.cells #[.int .i64 X.q, .int .i64 X.n, .int .i64 X.S.g, .int .i64 X.S.c, .int .i64 X.S.mn, .int .i64 X.S.mx] 29)).alloc (.cells #[.int .i64 H.id, .int .i64 H.q, .int .i64 H.u, .bool H.r, .slice H.A k H.c] 32) := ⟨_, rfl⟩
    rw [← hV1]
    have hzV1 : V1.heap.size = w.heap.size + 1 + 1 + 1 := by rw [hV1]; simp
    replace HBel : Hid (Below w.heap.size w V1) := Lib.hid (by rw [hV1]; exact (((HBel.out.alloc (hlow) _).alloc (by simp <;> omega) _).alloc (by simp <;> omega) _))
    have B_f : Hid (V1.heap[w.heap.size]? = some (.cells #[.int .i64 g, .int .i64 c] 24 (0, 0))) := Lib.hid (by
      have h9 := heap_alloc_new (w) (.cells #[.int .i64 g, .int .i64 c] 24)
      rw [hV1]; exact ((Below.heap_alloc _ _ _ (by simp <;> omega)).trans ((Below.heap_alloc _ _ _ (by simp <;> omega)).trans h9)))
    have B_b : Hid (V1.heap[w.heap.size + 1]? = some (.cells #[.int .i64 X.q, .int .i64 X.n, .int .i64 X.S.g, .int .i64 X.S.c, .int .i64 X.S.mn, .int .i64 X.S.mx] 29 (0, 0))) := Lib.hid (by
      have h9 := heap_alloc_new (w.alloc (.cells #[.int .i64 g, .int .i64 c] 24)) (.cells #[.int .i64 X.q, .int .i64 X.n, .int .i64 X.S.g, .int .i64 X.S.c, .int .i64 X.S.mn, .int .i64 X.S.mx] 29)
      rw [World.size_alloc] at h9
      rw [hV1]; exact ((Below.heap_alloc _ _ _ (by simp <;> omega)).trans h9))
    have B_h : Hid (V1.heap[w.heap.size + 1 + 1]? = some (.cells #[.int .i64 H.id, .int .i64 H.q, .int .i64 H.u, .bool H.r, .slice H.A k H.c] 32 (0, 0))) := Lib.hid (by
      have h9 := heap_alloc_new ((w.alloc (.cells #[.int .i64 g, .int .i64 c] 24)).alloc (.cells #[.int .i64 X.q, .int .i64 X.n, .int .i64 X.S.g, .int .i64 X.S.c, .int .i64 X.S.mn, .int .i64 X.S.mx] 29)) (.cells #[.int .i64 H.id, .int .i64 H.q, .int .i64 H.u, .bool H.r, .slice H.A k H.c] 32)
      rw [World.size_alloc, World.size_alloc] at h9
      rw [hV1]; exact h9)
    obtain ⟨N_f, hN_f⟩ : ∃ N, N = w.heap.size := ⟨_, rfl⟩
    obtain ⟨N_b, hN_b⟩ : ∃ N, N = w.heap.size + 1 := ⟨_, rfl⟩
    obtain ⟨N_h, hN_h⟩ : ∃ N, N = w.heap.size + 1 + 1 := ⟨_, rfl⟩
    (try rw [← hN_h])
    rw [← hN_h] at B_h
    (try rw [← hN_b])
    rw [← hN_b] at B_b
    (try rw [← hN_f])
    rw [← hN_f] at B_f
    have l_f : N_f < V1.heap.size := by omega
    have l_b : N_b < V1.heap.size := by omega
    have l_h : N_h < V1.heap.size := by omega
    have g_f : w.heap.size ≤ N_f := by omega
    have g_b : w.heap.size ≤ N_b := by omega
    have g_h : w.heap.size ≤ N_h := by omega
    have d_f_b : N_f < N_b := by omega
    have d_b_h : N_b < N_h := by omega
    replace hlow : w.heap.size ≤ V1.heap.size := by omega
    clear hV1 hzV1 hN_f hN_b hN_h
    refine (hAw.out V1 (HT.out.below HBel.out HT.out.size)).mono ?_
    rintro e U2 ⟨rfl, hb9⟩
    have hs9 := hb9.size
    replace HBel := Lib.hid (HBel.out.trans (hb9.mono hlow))
    replace B_f : Hid (U2.heap[N_f]? = some (.cells #[.int .i64 g, .int .i64 c] 24 (0, 0))) := Lib.hid ((hb9.block _ l_f).trans B_f.out)
    replace B_b : Hid (U2.heap[N_b]? = some (.cells #[.int .i64 X.q, .int .i64 X.n, .int .i64 X.S.g, .int .i64 X.S.c, .int .i64 X.S.mn, .int .i64 X.S.mx] 29 (0, 0))) := Lib.hid ((hb9.block _ l_b).trans B_b.out)
    replace B_h : Hid (U2.heap[N_h]? = some (.cells #[.int .i64 H.id, .int .i64 H.q, .int .i64 H.u, .bool H.r, .slice H.A k H.c] 32 (0, 0))) := Lib.hid ((hb9.block _ l_h).trans B_h.out)
    replace l_f : N_f < U2.heap.size := by omega
    replace l_b : N_b < U2.heap.size := by omega
    replace l_h : N_h < U2.heap.size := by omega
    replace hlow : w.heap.size ≤ U2.heap.size := by omega
    clear hb9 hs9
    have f0 : U2.cell? ⟨N_f, 0, none⟩ = some (.int .i64 g) := cell_blk (i := 0) B_f.out rfl
    have f1 : U2.cell? ⟨N_f, 1, none⟩ = some (.int .i64 c) := cell_blk (i := 1) B_f.out rfl
    have h0 : U2.cell? ⟨N_h, 0, none⟩ = some (.int .i64 H.id) := cell_blk (i := 0) B_h.out rfl
    have h1 : U2.cell? ⟨N_h, 1, none⟩ = some (.int .i64 H.q) := cell_blk (i := 1) B_h.out rfl
    have h2 : U2.cell? ⟨N_h, 2, none⟩ = some (.int .i64 H.u) := cell_blk (i := 2) B_h.out rfl
    have h3 : U2.cell? ⟨N_h, 3, none⟩ = some (.bool H.r) := cell_blk (i := 3) B_h.out rfl
    have h4 : U2.cell? ⟨N_h, 4, none⟩ = some (.slice H.A k H.c) := cell_blk (i := 4) B_h.out rfl
    go_wp2_with fail
    refine (hFw.out U2 HBel.out).mono ?_
    rintro e U3 ⟨rfl, hb9⟩
    clear f0 f1 h0 h1 h2 h3 h4
    have hs9 := hb9.size
    replace HBel := Lib.hid (HBel.out.trans (hb9.mono hlow))
    replace B_f : Hid (U3.heap[N_f]? = some (.cells #[.int .i64 g, .int .i64 c] 24 (0, 0))) := Lib.hid ((hb9.block _ l_f).trans B_f.out)
    replace B_b : Hid (U3.heap[N_b]? = some (.cells #[.int .i64 X.q, .int .i64 X.n, .int .i64 X.S.g, .int .i64 X.S.c, .int .i64 X.S.mn, .int .i64 X.S.mx] 29 (0, 0))) := Lib.hid ((hb9.block _ l_b).trans B_b.out)
    replace B_h : Hid (U3.heap[N_h]? = some (.cells #[.int .i64 H.id, .int .i64 H.q, .int .i64 H.u, .bool H.r, .slice H.A k H.c] 32 (0, 0))) := Lib.hid ((hb9.block _ l_h).trans B_h.out)
    replace l_f : N_f < U3.heap.size := by omega
    replace l_b : N_b < U3.heap.size := by omega
    replace l_h : N_h < U3.heap.size := by omega
    replace hlow : w.heap.size ≤ U3.heap.size := by omega
    clear hb9 hs9
    go_wp2
    go_ret
    exact ⟨rfl, by rw [HB0.out]; exact HBel.out⟩
  rw [hfew] at hFw
  obtain ⟨hf12, hk20⟩ : fewH l1 g c l3 = true ∧ H.sl.length ≤ 20 := by unfold few13 at hfew; simpa using hfew
  obtain ⟨hview, hn70, hgc, hmany, hsl, hm20, hs20⟩ := few_true hf12 q1
  have hs9 : ∀ x ∈ l3, x.sl.length ≤ 1000 := fun x hx => by have := hs20 x hx; omega
  have hby := bounds_u8 w7
  by_cases y0 : now < 0
  · have ty0 : decide (now < 0) = true := decide_eq_true y0
    clear hfew w0 v1 q1 lc1 mc1 wg wc v3 q3 lc3 mc3 w4 v6 q6 hT hn hm hk hf12 hk20 hview hn70 hgc hmany hsl hm20 hs20 hs9 w7 y0
    obtain ⟨B0, hB0⟩ : ∃ B, B = w.heap.size := ⟨_, rfl⟩
    rw [← hB0]
    have HB0 := Lib.hid hB0
    clear hB0
    have HBel := Lib.hid (Below.refl w.heap.size w)
    have hlow : w.heap.size ≤ w.heap.size := Nat.le_refl _
    go_enter Tryd.func7, Tryd.ntmps7
    go_wp2_with fail
    obtain ⟨V1, hV1⟩ : ∃ W, W = ((w.alloc (.cells #[.int .i64 g, .int .i64 c] 24)).alloc (.cells #[.int .i64 X.q, .int .i64 X.n, .int .i64 X.S.g, .int .i64 X.S.c, .int .i64 X.S.mn, .int .i64 X.S.mx] 29)).alloc (.cells #[.int .i64 H.id, .int .i64 H.q, .int .i64 H.u, .bool H.r, .slice H.A k H.c] 32) := ⟨_, rfl⟩
    rw [← hV1]
    have hzV1 : V1.heap.size = w.heap.size + 1 + 1 + 1 := by rw [hV1]; simp
    replace HBel : Hid (Below w.heap.size w V1) := Lib.hid (by rw [hV1]; exact (((HBel.out.alloc (hlow) _).alloc (by simp <;> omega) _).alloc (by simp <;> omega) _))
    have B_f : Hid (V1.heap[w.heap.size]? = some (.cells #[.int .i64 g, .int .i64 c] 24 (0, 0))) := Lib.hid (by
      have h9 := heap_alloc_new (w) (.cells #[.int .i64 g, .int .i64 c] 24)
      rw [hV1]; exact ((Below.heap_alloc _ _ _ (by simp <;> omega)).trans ((Below.heap_alloc _ _ _ (by simp <;> omega)).trans h9)))
    have B_b : Hid (V1.heap[w.heap.size + 1]? = some (.cells #[.int .i64 X.q, .int .i64 X.n, .int .i64 X.S.g, .int .i64 X.S.c, .int .i64 X.S.mn, .int .i64 X.S.mx] 29 (0, 0))) := Lib.hid (by
      have h9 := heap_alloc_new (w.alloc (.cells #[.int .i64 g, .int .i64 c] 24)) (.cells #[.int .i64 X.q, .int .i64 X.n, .int .i64 X.S.g, .int .i64 X.S.c, .int .i64 X.S.mn, .int .i64 X.S.mx] 29)
      rw [World.size_alloc] at h9
      rw [hV1]; exact ((Below.heap_alloc _ _ _ (by simp <;> omega)).trans h9))
    have B_h : Hid (V1.heap[w.heap.size + 1 + 1]? = some (.cells #[.int .i64 H.id, .int .i64 H.q, .int .i64 H.u, .bool H.r, .slice H.A k H.c] 32 (0, 0))) := Lib.hid (by
      have h9 := heap_alloc_new ((w.alloc (.cells #[.int .i64 g, .int .i64 c] 24)).alloc (.cells #[.int .i64 X.q, .int .i64 X.n, .int .i64 X.S.g, .int .i64 X.S.c, .int .i64 X.S.mn, .int .i64 X.S.mx] 29)) (.cells #[.int .i64 H.id, .int .i64 H.q, .int .i64 H.u, .bool H.r, .slice H.A k H.c] 32)
      rw [World.size_alloc, World.size_alloc] at h9
      rw [hV1]; exact h9)
    obtain ⟨N_f, hN_f⟩ : ∃ N, N = w.heap.size := ⟨_, rfl⟩
    obtain ⟨N_b, hN_b⟩ : ∃ N, N = w.heap.size + 1 := ⟨_, rfl⟩
    obtain ⟨N_h, hN_h⟩ : ∃ N, N = w.heap.size + 1 + 1 := ⟨_, rfl⟩
    (try rw [← hN_h])
    rw [← hN_h] at B_h
    (try rw [← hN_b])
    rw [← hN_b] at B_b
    (try rw [← hN_f])
    rw [← hN_f] at B_f
    have l_f : N_f < V1.heap.size := by omega
    have l_b : N_b < V1.heap.size := by omega
    have l_h : N_h < V1.heap.size := by omega
    have g_f : w.heap.size ≤ N_f := by omega
    have g_b : w.heap.size ≤ N_b := by omega
    have g_h : w.heap.size ≤ N_h := by omega
    have d_f_b : N_f < N_b := by omega
    have d_b_h : N_b < N_h := by omega
    replace hlow : w.heap.size ≤ V1.heap.size := by omega
    clear hV1 hzV1 hN_f hN_b hN_h
    refine (hAw.out V1 (HT.out.below HBel.out HT.out.size)).mono ?_
    rintro e U2 ⟨rfl, hb9⟩
    have hs9 := hb9.size
    replace HBel := Lib.hid (HBel.out.trans (hb9.mono hlow))
    replace B_f : Hid (U2.heap[N_f]? = some (.cells #[.int .i64 g, .int .i64 c] 24 (0, 0))) := Lib.hid ((hb9.block _ l_f).trans B_f.out)
    replace B_b : Hid (U2.heap[N_b]? = some (.cells #[.int .i64 X.q, .int .i64 X.n, .int .i64 X.S.g, .int .i64 X.S.c, .int .i64 X.S.mn, .int .i64 X.S.mx] 29 (0, 0))) := Lib.hid ((hb9.block _ l_b).trans B_b.out)
    replace B_h : Hid (U2.heap[N_h]? = some (.cells #[.int .i64 H.id, .int .i64 H.q, .int .i64 H.u, .bool H.r, .slice H.A k H.c] 32 (0, 0))) := Lib.hid ((hb9.block _ l_h).trans B_h.out)
    replace l_f : N_f < U2.heap.size := by omega
    replace l_b : N_b < U2.heap.size := by omega
    replace l_h : N_h < U2.heap.size := by omega
    replace hlow : w.heap.size ≤ U2.heap.size := by omega
    clear hb9 hs9
    have f0 : U2.cell? ⟨N_f, 0, none⟩ = some (.int .i64 g) := cell_blk (i := 0) B_f.out rfl
    have f1 : U2.cell? ⟨N_f, 1, none⟩ = some (.int .i64 c) := cell_blk (i := 1) B_f.out rfl
    have h0 : U2.cell? ⟨N_h, 0, none⟩ = some (.int .i64 H.id) := cell_blk (i := 0) B_h.out rfl
    have h1 : U2.cell? ⟨N_h, 1, none⟩ = some (.int .i64 H.q) := cell_blk (i := 1) B_h.out rfl
    have h2 : U2.cell? ⟨N_h, 2, none⟩ = some (.int .i64 H.u) := cell_blk (i := 2) B_h.out rfl
    have h3 : U2.cell? ⟨N_h, 3, none⟩ = some (.bool H.r) := cell_blk (i := 3) B_h.out rfl
    have h4 : U2.cell? ⟨N_h, 4, none⟩ = some (.slice H.A k H.c) := cell_blk (i := 4) B_h.out rfl
    go_wp2_with fail
    refine (hFw.out U2 HBel.out).mono ?_
    rintro e U3 ⟨rfl, hb9⟩
    clear f0 f1 h0 h1 h2 h3 h4
    have hs9 := hb9.size
    replace HBel := Lib.hid (HBel.out.trans (hb9.mono hlow))
    replace B_f : Hid (U3.heap[N_f]? = some (.cells #[.int .i64 g, .int .i64 c] 24 (0, 0))) := Lib.hid ((hb9.block _ l_f).trans B_f.out)
    replace B_b : Hid (U3.heap[N_b]? = some (.cells #[.int .i64 X.q, .int .i64 X.n, .int .i64 X.S.g, .int .i64 X.S.c, .int .i64 X.S.mn, .int .i64 X.S.mx] 29 (0, 0))) := Lib.hid ((hb9.block _ l_b).trans B_b.out)
    replace B_h : Hid (U3.heap[N_h]? = some (.cells #[.int .i64 H.id, .int .i64 H.q, .int .i64 H.u, .bool H.r, .slice H.A k H.c] 32 (0, 0))) := Lib.hid ((hb9.block _ l_h).trans B_h.out)
    replace l_f : N_f < U3.heap.size := by omega
    replace l_b : N_b < U3.heap.size := by omega
    replace l_h : N_h < U3.heap.size := by omega
    replace hlow : w.heap.size ≤ U3.heap.size := by omega
    clear hb9 hs9
    go_wp2
    go_ret
    exact ⟨rfl, by rw [HB0.out]; exact HBel.out⟩
  have ty0 : decide (now < 0) = false := decide_eq_false y0
  by_cases y1 : 1000000 < now
  · have ty1 : decide (1000000 < now) = true := decide_eq_true y1
    clear hfew w0 v1 q1 lc1 mc1 wg wc v3 q3 lc3 mc3 w4 v6 q6 hT hn hm hk hf12 hk20 hview hn70 hgc hmany hsl hm20 hs20 hs9 w7 y0 y1
    obtain ⟨B0, hB0⟩ : ∃ B, B = w.heap.size := ⟨_, rfl⟩
    rw [← hB0]
    have HB0 := Lib.hid hB0
    clear hB0
    have HBel := Lib.hid (Below.refl w.heap.size w)
    have hlow : w.heap.size ≤ w.heap.size := Nat.le_refl _
    go_enter Tryd.func7, Tryd.ntmps7
    go_wp2_with fail
    obtain ⟨V1, hV1⟩ : ∃ W, W = ((w.alloc (.cells #[.int .i64 g, .int .i64 c] 24)).alloc (.cells #[.int .i64 X.q, .int .i64 X.n, .int .i64 X.S.g, .int .i64 X.S.c, .int .i64 X.S.mn, .int .i64 X.S.mx] 29)).alloc (.cells #[.int .i64 H.id, .int .i64 H.q, .int .i64 H.u, .bool H.r, .slice H.A k H.c] 32) := ⟨_, rfl⟩
    rw [← hV1]
    have hzV1 : V1.heap.size = w.heap.size + 1 + 1 + 1 := by rw [hV1]; simp
    replace HBel : Hid (Below w.heap.size w V1) := Lib.hid (by rw [hV1]; exact (((HBel.out.alloc (hlow) _).alloc (by simp <;> omega) _).alloc (by simp <;> omega) _))
    have B_f : Hid (V1.heap[w.heap.size]? = some (.cells #[.int .i64 g, .int .i64 c] 24 (0, 0))) := Lib.hid (by
      have h9 := heap_alloc_new (w) (.cells #[.int .i64 g, .int .i64 c] 24)
      rw [hV1]; exact ((Below.heap_alloc _ _ _ (by simp <;> omega)).trans ((Below.heap_alloc _ _ _ (by simp <;> omega)).trans h9)))
    have B_b : Hid (V1.heap[w.heap.size + 1]? = some (.cells #[.int .i64 X.q, .int .i64 X.n, .int .i64 X.S.g, .int .i64 X.S.c, .int .i64 X.S.mn, .int .i64 X.S.mx] 29 (0, 0))) := Lib.hid (by
      have h9 := heap_alloc_new (w.alloc (.cells #[.int .i64 g, .int .i64 c] 24)) (.cells #[.int .i64 X.q, .int .i64 X.n, .int .i64 X.S.g, .int .i64 X.S.c, .int .i64 X.S.mn, .int .i64 X.S.mx] 29)
      rw [World.size_alloc] at h9
      rw [hV1]; exact ((Below.heap_alloc _ _ _ (by simp <;> omega)).trans h9))
    have B_h : Hid (V1.heap[w.heap.size + 1 + 1]? = some (.cells #[.int .i64 H.id, .int .i64 H.q, .int .i64 H.u, .bool H.r, .slice H.A k H.c] 32 (0, 0))) := Lib.hid (by
      have h9 := heap_alloc_new ((w.alloc (.cells #[.int .i64 g, .int .i64 c] 24)).alloc (.cells #[.int .i64 X.q, .int .i64 X.n, .int .i64 X.S.g, .int .i64 X.S.c, .int .i64 X.S.mn, .int .i64 X.S.mx] 29)) (.cells #[.int .i64 H.id, .int .i64 H.q, .int .i64 H.u, .bool H.r, .slice H.A k H.c] 32)
      rw [World.size_alloc, World.size_alloc] at h9
      rw [hV1]; exact h9)
    obtain ⟨N_f, hN_f⟩ : ∃ N, N = w.heap.size := ⟨_, rfl⟩
    obtain ⟨N_b, hN_b⟩ : ∃ N, N = w.heap.size + 1 := ⟨_, rfl⟩
    obtain ⟨N_h, hN_h⟩ : ∃ N, N = w.heap.size + 1 + 1 := ⟨_, rfl⟩
    (try rw [← hN_h])
    rw [← hN_h] at B_h
    (try rw [← hN_b])
    rw [← hN_b] at B_b
    (try rw [← hN_f])
    rw [← hN_f] at B_f
    have l_f : N_f < V1.heap.size := by omega
    have l_b : N_b < V1.heap.size := by omega
    have l_h : N_h < V1.heap.size := by omega
    have g_f : w.heap.size ≤ N_f := by omega
    have g_b : w.heap.size ≤ N_b := by omega
    have g_h : w.heap.size ≤ N_h := by omega
    have d_f_b : N_f < N_b := by omega
    have d_b_h : N_b < N_h := by omega
    replace hlow : w.heap.size ≤ V1.heap.size := by omega
    clear hV1 hzV1 hN_f hN_b hN_h
    refine (hAw.out V1 (HT.out.below HBel.out HT.out.size)).mono ?_
    rintro e U2 ⟨rfl, hb9⟩
    have hs9 := hb9.size
    replace HBel := Lib.hid (HBel.out.trans (hb9.mono hlow))
    replace B_f : Hid (U2.heap[N_f]? = some (.cells #[.int .i64 g, .int .i64 c] 24 (0, 0))) := Lib.hid ((hb9.block _ l_f).trans B_f.out)
    replace B_b : Hid (U2.heap[N_b]? = some (.cells #[.int .i64 X.q, .int .i64 X.n, .int .i64 X.S.g, .int .i64 X.S.c, .int .i64 X.S.mn, .int .i64 X.S.mx] 29 (0, 0))) := Lib.hid ((hb9.block _ l_b).trans B_b.out)
    replace B_h : Hid (U2.heap[N_h]? = some (.cells #[.int .i64 H.id, .int .i64 H.q, .int .i64 H.u, .bool H.r, .slice H.A k H.c] 32 (0, 0))) := Lib.hid ((hb9.block _ l_h).trans B_h.out)
    replace l_f : N_f < U2.heap.size := by omega
    replace l_b : N_b < U2.heap.size := by omega
    replace l_h : N_h < U2.heap.size := by omega
    replace hlow : w.heap.size ≤ U2.heap.size := by omega
    clear hb9 hs9
    have f0 : U2.cell? ⟨N_f, 0, none⟩ = some (.int .i64 g) := cell_blk (i := 0) B_f.out rfl
    have f1 : U2.cell? ⟨N_f, 1, none⟩ = some (.int .i64 c) := cell_blk (i := 1) B_f.out rfl
    have h0 : U2.cell? ⟨N_h, 0, none⟩ = some (.int .i64 H.id) := cell_blk (i := 0) B_h.out rfl
    have h1 : U2.cell? ⟨N_h, 1, none⟩ = some (.int .i64 H.q) := cell_blk (i := 1) B_h.out rfl
    have h2 : U2.cell? ⟨N_h, 2, none⟩ = some (.int .i64 H.u) := cell_blk (i := 2) B_h.out rfl
    have h3 : U2.cell? ⟨N_h, 3, none⟩ = some (.bool H.r) := cell_blk (i := 3) B_h.out rfl
    have h4 : U2.cell? ⟨N_h, 4, none⟩ = some (.slice H.A k H.c) := cell_blk (i := 4) B_h.out rfl
    go_wp2_with fail
    refine (hFw.out U2 HBel.out).mono ?_
    rintro e U3 ⟨rfl, hb9⟩
    clear f0 f1 h0 h1 h2 h3 h4
    have hs9 := hb9.size
    replace HBel := Lib.hid (HBel.out.trans (hb9.mono hlow))
    replace B_f : Hid (U3.heap[N_f]? = some (.cells #[.int .i64 g, .int .i64 c] 24 (0, 0))) := Lib.hid ((hb9.block _ l_f).trans B_f.out)
    replace B_b : Hid (U3.heap[N_b]? = some (.cells #[.int .i64 X.q, .int .i64 X.n, .int .i64 X.S.g, .int .i64 X.S.c, .int .i64 X.S.mn, .int .i64 X.S.mx] 29 (0, 0))) := Lib.hid ((hb9.block _ l_b).trans B_b.out)
    replace B_h : Hid (U3.heap[N_h]? = some (.cells #[.int .i64 H.id, .int .i64 H.q, .int .i64 H.u, .bool H.r, .slice H.A k H.c] 32 (0, 0))) := Lib.hid ((hb9.block _ l_h).trans B_h.out)
    replace l_f : N_f < U3.heap.size := by omega
    replace l_b : N_b < U3.heap.size := by omega
    replace l_h : N_h < U3.heap.size := by omega
    replace hlow : w.heap.size ≤ U3.heap.size := by omega
    clear hb9 hs9
    go_wp2
    go_ret
    exact ⟨rfl, by rw [HB0.out]; exact HBel.out⟩
  have ty1 : decide (1000000 < now) = false := decide_eq_false y1
  have q7 : HoOk { H with u := now - by9 } := ⟨q6.q, show (Lit.int .i64 (now - by9)).wf = true from WalkArith.wf_i64 (by omega), q6.l, q6.m, q6.ok⟩
  have hA := Lib.hid (fun W (hW : Below w.heap.size w W) => show Calls Tryd.prog 12 #[.int .i64 now, .slice a1 n c1, .agg #[.int .i64 g, .int .i64 c], .slice a3 m c3, .agg #[.int .i64 X.q, .int .i64 X.n, .int .i64 X.S.g, .int .i64 X.S.c, .int .i64 X.S.mn, .int .i64 X.S.mx], .agg #[.int .i64 H.id, .int .i64 H.q, .int .i64 (now - by9), .bool H.r, .slice H.A k H.c]] W (fun e w' => ∃ T E, e = .returned (.tuple #[.int .i64 T, .int .i64 E]) ∧ Aft now l1 g c l3 X { H with u := now - by9 } T E ∧ Below W.heap.size W w') from by
    have h9 := pafter_any now a1 c1 l1 g c a3 c3 l3 X { H with u := now - by9 } W (v1.keep hW hW.size) hview (by omega) (v3.keep hW hW.size) q3 (by omega) hs9 w4 (Fes.keep v6 hW hW.size) q7 (show H.sl.length ≤ 1000 by omega) (by omega) (by omega) (hT.below hW hT.size)
    unfold hoV hoA at h9
    rw [← hn, ← hm, ← hk] at h9
    exact h9)
  have hE := Lib.hid (fun W (hW : Below w.heap.size w W) => show Calls Tryd.prog 14 #[.int .i64 now, .slice a1 n c1, .agg #[.int .i64 g, .int .i64 c], .slice a3 m c3, .agg #[.int .i64 X.q, .int .i64 X.n, .int .i64 X.S.g, .int .i64 X.S.c, .int .i64 X.S.mn, .int .i64 X.S.mx]] W (fun e w' => ∃ T E, e = .returned (.tuple #[.int .i64 T, .int .i64 E]) ∧ Earl now l1 g c l3 X T E ∧ Below W.heap.size W w') from by
    have h9 := pearliest_any now a1 c1 l1 g c a3 c3 l3 X W (v1.keep hW hW.size) hview (by omega) (v3.keep hW hW.size) q3 hmany (by omega) w4 (by omega) (by omega) (hT.below hW hT.size)
    rw [← hn, ← hm] at h9
    exact h9)
  have hcap := Lib.hid (fun f (hf : f ∈ l1) => (hview.ok f hf).2.2)
  have hb0 : 0 ≤ by9 := hby.1
  have hb1 : by9 ≤ 255 := hby.2
  have hn0 : 0 ≤ now := by omega
  have hn1 : now ≤ 1000000 := by omega
  clear hfew w0 v1 q1 lc1 mc1 wg wc v3 q3 lc3 mc3 w4 v6 q6 hT hn hm hk hf12 hk20 hview hn70 hgc hmany hsl hm20 hs20 hs9 q7 w7 hby y0 y1
  obtain ⟨B0, hB0⟩ : ∃ B, B = w.heap.size := ⟨_, rfl⟩
  rw [← hB0]
  have HB0 := Lib.hid hB0
  clear hB0
  have HBel := Lib.hid (Below.refl w.heap.size w)
  have hlow : w.heap.size ≤ w.heap.size := Nat.le_refl _
  go_enter Tryd.func7, Tryd.ntmps7
  go_wp2_with fail
  obtain ⟨V1, hV1⟩ : ∃ W, W = ((w.alloc (.cells #[.int .i64 g, .int .i64 c] 24)).alloc (.cells #[.int .i64 X.q, .int .i64 X.n, .int .i64 X.S.g, .int .i64 X.S.c, .int .i64 X.S.mn, .int .i64 X.S.mx] 29)).alloc (.cells #[.int .i64 H.id, .int .i64 H.q, .int .i64 H.u, .bool H.r, .slice H.A k H.c] 32) := ⟨_, rfl⟩
  rw [← hV1]
  have hzV1 : V1.heap.size = w.heap.size + 1 + 1 + 1 := by rw [hV1]; simp
  replace HBel : Hid (Below w.heap.size w V1) := Lib.hid (by rw [hV1]; exact (((HBel.out.alloc (hlow) _).alloc (by simp <;> omega) _).alloc (by simp <;> omega) _))
  have B_f : Hid (V1.heap[w.heap.size]? = some (.cells #[.int .i64 g, .int .i64 c] 24 (0, 0))) := Lib.hid (by
    have h9 := heap_alloc_new (w) (.cells #[.int .i64 g, .int .i64 c] 24)
    rw [hV1]; exact ((Below.heap_alloc _ _ _ (by simp <;> omega)).trans ((Below.heap_alloc _ _ _ (by simp <;> omega)).trans h9)))
  have B_b : Hid (V1.heap[w.heap.size + 1]? = some (.cells #[.int .i64 X.q, .int .i64 X.n, .int .i64 X.S.g, .int .i64 X.S.c, .int .i64 X.S.mn, .int .i64 X.S.mx] 29 (0, 0))) := Lib.hid (by
    have h9 := heap_alloc_new (w.alloc (.cells #[.int .i64 g, .int .i64 c] 24)) (.cells #[.int .i64 X.q, .int .i64 X.n, .int .i64 X.S.g, .int .i64 X.S.c, .int .i64 X.S.mn, .int .i64 X.S.mx] 29)
    rw [World.size_alloc] at h9
    rw [hV1]; exact ((Below.heap_alloc _ _ _ (by simp <;> omega)).trans h9))
  have B_h : Hid (V1.heap[w.heap.size + 1 + 1]? = some (.cells #[.int .i64 H.id, .int .i64 H.q, .int .i64 H.u, .bool H.r, .slice H.A k H.c] 32 (0, 0))) := Lib.hid (by
    have h9 := heap_alloc_new ((w.alloc (.cells #[.int .i64 g, .int .i64 c] 24)).alloc (.cells #[.int .i64 X.q, .int .i64 X.n, .int .i64 X.S.g, .int .i64 X.S.c, .int .i64 X.S.mn, .int .i64 X.S.mx] 29)) (.cells #[.int .i64 H.id, .int .i64 H.q, .int .i64 H.u, .bool H.r, .slice H.A k H.c] 32)
    rw [World.size_alloc, World.size_alloc] at h9
    rw [hV1]; exact h9)
  obtain ⟨N_f, hN_f⟩ : ∃ N, N = w.heap.size := ⟨_, rfl⟩
  obtain ⟨N_b, hN_b⟩ : ∃ N, N = w.heap.size + 1 := ⟨_, rfl⟩
  obtain ⟨N_h, hN_h⟩ : ∃ N, N = w.heap.size + 1 + 1 := ⟨_, rfl⟩
  (try rw [← hN_h])
  rw [← hN_h] at B_h
  (try rw [← hN_b])
  rw [← hN_b] at B_b
  (try rw [← hN_f])
  rw [← hN_f] at B_f
  have l_f : N_f < V1.heap.size := by omega
  have l_b : N_b < V1.heap.size := by omega
  have l_h : N_h < V1.heap.size := by omega
  have g_f : w.heap.size ≤ N_f := by omega
  have g_b : w.heap.size ≤ N_b := by omega
  have g_h : w.heap.size ≤ N_h := by omega
  have d_f_b : N_f < N_b := by omega
  have d_b_h : N_b < N_h := by omega
  replace hlow : w.heap.size ≤ V1.heap.size := by omega
  clear hV1 hzV1 hN_f hN_b hN_h
  refine (hAw.out V1 (HT.out.below HBel.out HT.out.size)).mono ?_
  rintro e U2 ⟨rfl, hb9⟩
  have hs9 := hb9.size
  replace HBel := Lib.hid (HBel.out.trans (hb9.mono hlow))
  replace B_f : Hid (U2.heap[N_f]? = some (.cells #[.int .i64 g, .int .i64 c] 24 (0, 0))) := Lib.hid ((hb9.block _ l_f).trans B_f.out)
  replace B_b : Hid (U2.heap[N_b]? = some (.cells #[.int .i64 X.q, .int .i64 X.n, .int .i64 X.S.g, .int .i64 X.S.c, .int .i64 X.S.mn, .int .i64 X.S.mx] 29 (0, 0))) := Lib.hid ((hb9.block _ l_b).trans B_b.out)
  replace B_h : Hid (U2.heap[N_h]? = some (.cells #[.int .i64 H.id, .int .i64 H.q, .int .i64 H.u, .bool H.r, .slice H.A k H.c] 32 (0, 0))) := Lib.hid ((hb9.block _ l_h).trans B_h.out)
  replace l_f : N_f < U2.heap.size := by omega
  replace l_b : N_b < U2.heap.size := by omega
  replace l_h : N_h < U2.heap.size := by omega
  replace hlow : w.heap.size ≤ U2.heap.size := by omega
  clear hb9 hs9
  have f0 : U2.cell? ⟨N_f, 0, none⟩ = some (.int .i64 g) := cell_blk (i := 0) B_f.out rfl
  have f1 : U2.cell? ⟨N_f, 1, none⟩ = some (.int .i64 c) := cell_blk (i := 1) B_f.out rfl
  have h0 : U2.cell? ⟨N_h, 0, none⟩ = some (.int .i64 H.id) := cell_blk (i := 0) B_h.out rfl
  have h1 : U2.cell? ⟨N_h, 1, none⟩ = some (.int .i64 H.q) := cell_blk (i := 1) B_h.out rfl
  have h2 : U2.cell? ⟨N_h, 2, none⟩ = some (.int .i64 H.u) := cell_blk (i := 2) B_h.out rfl
  have h3 : U2.cell? ⟨N_h, 3, none⟩ = some (.bool H.r) := cell_blk (i := 3) B_h.out rfl
  have h4 : U2.cell? ⟨N_h, 4, none⟩ = some (.slice H.A k H.c) := cell_blk (i := 4) B_h.out rfl
  go_wp2_with fail
  refine (hFw.out U2 HBel.out).mono ?_
  rintro e U3 ⟨rfl, hb9⟩
  clear f0 f1 h0 h1 h2 h3 h4
  have hs9 := hb9.size
  replace HBel := Lib.hid (HBel.out.trans (hb9.mono hlow))
  replace B_f : Hid (U3.heap[N_f]? = some (.cells #[.int .i64 g, .int .i64 c] 24 (0, 0))) := Lib.hid ((hb9.block _ l_f).trans B_f.out)
  replace B_b : Hid (U3.heap[N_b]? = some (.cells #[.int .i64 X.q, .int .i64 X.n, .int .i64 X.S.g, .int .i64 X.S.c, .int .i64 X.S.mn, .int .i64 X.S.mx] 29 (0, 0))) := Lib.hid ((hb9.block _ l_b).trans B_b.out)
  replace B_h : Hid (U3.heap[N_h]? = some (.cells #[.int .i64 H.id, .int .i64 H.q, .int .i64 H.u, .bool H.r, .slice H.A k H.c] 32 (0, 0))) := Lib.hid ((hb9.block _ l_h).trans B_h.out)
  replace l_f : N_f < U3.heap.size := by omega
  replace l_b : N_b < U3.heap.size := by omega
  replace l_h : N_h < U3.heap.size := by omega
  replace hlow : w.heap.size ≤ U3.heap.size := by omega
  clear hb9 hs9
  have f0 : U3.cell? ⟨N_f, 0, none⟩ = some (.int .i64 g) := cell_blk (i := 0) B_f.out rfl
  have f1 : U3.cell? ⟨N_f, 1, none⟩ = some (.int .i64 c) := cell_blk (i := 1) B_f.out rfl
  have b0 : U3.cell? ⟨N_b, 0, none⟩ = some (.int .i64 X.q) := cell_blk (i := 0) B_b.out rfl
  have b1 : U3.cell? ⟨N_b, 1, none⟩ = some (.int .i64 X.n) := cell_blk (i := 1) B_b.out rfl
  have b2 : U3.cell? ⟨N_b, 2, none⟩ = some (.int .i64 X.S.g) := cell_blk (i := 2) B_b.out rfl
  have b3 : U3.cell? ⟨N_b, 3, none⟩ = some (.int .i64 X.S.c) := cell_blk (i := 3) B_b.out rfl
  have b4 : U3.cell? ⟨N_b, 4, none⟩ = some (.int .i64 X.S.mn) := cell_blk (i := 4) B_b.out rfl
  have b5 : U3.cell? ⟨N_b, 5, none⟩ = some (.int .i64 X.S.mx) := cell_blk (i := 5) B_b.out rfl
  have h0 : U3.cell? ⟨N_h, 0, none⟩ = some (.int .i64 H.id) := cell_blk (i := 0) B_h.out rfl
  have h1 : U3.cell? ⟨N_h, 1, none⟩ = some (.int .i64 H.q) := cell_blk (i := 1) B_h.out rfl
  have h2 : U3.cell? ⟨N_h, 2, none⟩ = some (.int .i64 H.u) := cell_blk (i := 2) B_h.out rfl
  have h3 : U3.cell? ⟨N_h, 3, none⟩ = some (.bool H.r) := cell_blk (i := 3) B_h.out rfl
  have h4 : U3.cell? ⟨N_h, 4, none⟩ = some (.slice H.A k H.c) := cell_blk (i := 4) B_h.out rfl
  have hz0 : U3.frozen? ⟨N_h, 0, none⟩ = false := frozen_blk B_h.out
  have hz1 : U3.frozen? ⟨N_h, 1, none⟩ = false := frozen_blk B_h.out
  have hz2 : U3.frozen? ⟨N_h, 2, none⟩ = false := frozen_blk B_h.out
  have hz3 : U3.frozen? ⟨N_h, 3, none⟩ = false := frozen_blk B_h.out
  have hz4 : U3.frozen? ⟨N_h, 4, none⟩ = false := frozen_blk B_h.out
  go_wp2_with fail
  clear f0 f1 b0 b1 b2 b3 b4 b5 h0 h1 h2 h3 h4 hz0 hz1 hz2 hz3 hz4
  obtain ⟨S4, hS4⟩ : ∃ W, W = (U3).setCell ⟨N_h, 2, none⟩ (.int .i64 (now - by9)) := ⟨_, rfl⟩
  rw [← hS4]
  have hzS4 : S4.heap.size = U3.heap.size := by rw [hS4]; simp
  replace HBel : Hid (Below w.heap.size w S4) := Lib.hid (by rw [hS4]; exact (HBel.out.setCell (g_h) _))
  replace B_f : Hid (S4.heap[N_f]? = some (.cells #[.int .i64 g, .int .i64 c] 24 (0, 0))) := Lib.hid (by rw [hS4]; exact ((Below.heap_setCell _ _ _ _ (show N_f ≠ N_h by omega)).trans B_f.out))
  replace B_b : Hid (S4.heap[N_b]? = some (.cells #[.int .i64 X.q, .int .i64 X.n, .int .i64 X.S.g, .int .i64 X.S.c, .int .i64 X.S.mn, .int .i64 X.S.mx] 29 (0, 0))) := Lib.hid (by rw [hS4]; exact ((Below.heap_setCell _ _ _ _ (show N_b ≠ N_h by omega)).trans B_b.out))
  replace B_h : Hid (S4.heap[N_h]? = some (.cells #[.int .i64 H.id, .int .i64 H.q, .int .i64 (now - by9), .bool H.r, .slice H.A k H.c] 32 (0, 0))) := Lib.hid (by rw [hS4]; exact (blk_put (i := 2) _ B_h.out))
  replace l_f : N_f < S4.heap.size := by omega
  replace l_b : N_b < S4.heap.size := by omega
  replace l_h : N_h < S4.heap.size := by omega
  replace hlow : w.heap.size ≤ S4.heap.size := by omega
  clear hS4 hzS4
  refine (hA.out S4 HBel.out).mono ?_
  rintro e U5 ⟨T, E, rfl, hAf, hb9⟩
  have hs9 := hb9.size
  replace HBel := Lib.hid (HBel.out.trans (hb9.mono hlow))
  replace B_f : Hid (U5.heap[N_f]? = some (.cells #[.int .i64 g, .int .i64 c] 24 (0, 0))) := Lib.hid ((hb9.block _ l_f).trans B_f.out)
  replace B_b : Hid (U5.heap[N_b]? = some (.cells #[.int .i64 X.q, .int .i64 X.n, .int .i64 X.S.g, .int .i64 X.S.c, .int .i64 X.S.mn, .int .i64 X.S.mx] 29 (0, 0))) := Lib.hid ((hb9.block _ l_b).trans B_b.out)
  replace B_h : Hid (U5.heap[N_h]? = some (.cells #[.int .i64 H.id, .int .i64 H.q, .int .i64 (now - by9), .bool H.r, .slice H.A k H.c] 32 (0, 0))) := Lib.hid ((hb9.block _ l_h).trans B_h.out)
  replace l_f : N_f < U5.heap.size := by omega
  replace l_b : N_b < U5.heap.size := by omega
  replace l_h : N_h < U5.heap.size := by omega
  replace hlow : w.heap.size ≤ U5.heap.size := by omega
  clear hb9 hs9
  by_cases hE0 : E ≠ 0
  · have t1 : (E != 0) = true := by simp [hE0]
    have hT0 := hAf.bad hE0
    subst hT0
    clear hAf
    go_wp2
    go_ret
    exact ⟨by first | rfl | simp, by rw [HB0.out]; exact HBel.out⟩
  have hE1 : E = 0 := Classical.not_not.1 hE0
  subst hE1
  have HAf := Lib.hid hAf
  clear hAf hE0
  have f0 : U5.cell? ⟨N_f, 0, none⟩ = some (.int .i64 g) := cell_blk (i := 0) B_f.out rfl
  have f1 : U5.cell? ⟨N_f, 1, none⟩ = some (.int .i64 c) := cell_blk (i := 1) B_f.out rfl
  have b0 : U5.cell? ⟨N_b, 0, none⟩ = some (.int .i64 X.q) := cell_blk (i := 0) B_b.out rfl
  have b1 : U5.cell? ⟨N_b, 1, none⟩ = some (.int .i64 X.n) := cell_blk (i := 1) B_b.out rfl
  have b2 : U5.cell? ⟨N_b, 2, none⟩ = some (.int .i64 X.S.g) := cell_blk (i := 2) B_b.out rfl
  have b3 : U5.cell? ⟨N_b, 3, none⟩ = some (.int .i64 X.S.c) := cell_blk (i := 3) B_b.out rfl
  have b4 : U5.cell? ⟨N_b, 4, none⟩ = some (.int .i64 X.S.mn) := cell_blk (i := 4) B_b.out rfl
  have b5 : U5.cell? ⟨N_b, 5, none⟩ = some (.int .i64 X.S.mx) := cell_blk (i := 5) B_b.out rfl
  go_wp2_with fail
  refine (hE.out U5 HBel.out).mono ?_
  rintro e U6 ⟨T2, E2, rfl, hEr, hb9⟩
  clear f0 f1 b0 b1 b2 b3 b4 b5
  have hs9 := hb9.size
  obtain ⟨x1, x2⟩ := HAf.out.ok
  obtain ⟨rfl, rfl⟩ := Earl.past hcap.out x1 (show now - by9 ≤ now by omega) x2 hEr
  clear hEr x1 x2 HAf
  replace HBel := Lib.hid (HBel.out.trans (hb9.mono hlow))
  replace B_f : Hid (U6.heap[N_f]? = some (.cells #[.int .i64 g, .int .i64 c] 24 (0, 0))) := Lib.hid ((hb9.block _ l_f).trans B_f.out)
  replace B_b : Hid (U6.heap[N_b]? = some (.cells #[.int .i64 X.q, .int .i64 X.n, .int .i64 X.S.g, .int .i64 X.S.c, .int .i64 X.S.mn, .int .i64 X.S.mx] 29 (0, 0))) := Lib.hid ((hb9.block _ l_b).trans B_b.out)
  replace B_h : Hid (U6.heap[N_h]? = some (.cells #[.int .i64 H.id, .int .i64 H.q, .int .i64 (now - by9), .bool H.r, .slice H.A k H.c] 32 (0, 0))) := Lib.hid ((hb9.block _ l_h).trans B_h.out)
  replace l_f : N_f < U6.heap.size := by omega
  replace l_b : N_b < U6.heap.size := by omega
  replace l_h : N_h < U6.heap.size := by omega
  replace hlow : w.heap.size ≤ U6.heap.size := by omega
  clear hb9 hs9
  have v1 : (T == T) = true := by simp
  go_wp2
  go_ret
  exact ⟨by first | rfl | simp, by rw [HB0.out]; exact HBel.out⟩

set_option maxRecDepth 100000 in
set_option maxHeartbeats 1000000 in
theorem lifted (os : Os) (started : os.Started) (H : Type) (enc : TypeId × Value → H) :
    ReturnsInHanded {} Tryd.checked os 7 .any (fun w args => (Rows.fillPastSpec.pre enc Tryd.prog Tryd.f7 [] false w args ∧ laidMetH Tryd.prog laid1 w) ∧ sizedMet enc Tryd.prog Tryd.f7 (OpenSpec.ofChange Rows.fillPastSpec) false w args)
      (Rows.fillPastSpec.post enc Tryd.prog Tryd.f7 false true false false) := by
  refine returnsInHanded_of_change_and (C := Tryd.checked) (X := fun w _ => laidMetH Tryd.prog laid1 w) (fun _ _ _ hh h => h.of_heap hh) own started (by kernel_rfl) Tryd.func7
    (ChangeSpec.witness_shaped (enc := enc) (C := Tryd.checked) (os := os) (X := fun w _ => laidMetH Tryd.prog laid1 w) false (World.doorLaid Tryd.prog 400 os) #[.int .i64 0, .slice none 0 0, .agg #[.int .i64 0, .int .i64 0], .slice none 0 0, .agg #[.int .i64 0, .int .i64 0, .int .i64 0, .int .i64 0, .int .i64 0, .int .i64 0], .agg #[.int .i64 0, .int .i64 0, .int .i64 0, .bool false, .slice none 0 0], .int .u8 0] 8 rfl (World.shaped_of_RefB (by kernel_rfl) (by kernel_rfl)) (by kernel_rfl) (by kernel_rfl) (by kernel_rfl) (door_met os _)) ?_
  intro W base args ds gs before hval0 hW _ _ hL _
  have hval : ∀ (j : Nat) t v, Tryd.f7.params[j]? = some t → args[j]? = some v → Value.okWide Tryd.prog W .any base t v := hval0
  have hW' := hW
  obtain ⟨p, q, hA0, hV, rfl, hfz, hnd⟩ := hW
  have hA : DataW.TrodAll enc Tryd.prog W 0 (fun _ => true) true Tryd.f7.params.toList args.toList ds p := hA0
  rw [Tryd.params7] at hA hval
  obtain ⟨v0, vs0, d0, ds0, p0, q0, hargs, rfl, rfl, h0, r0⟩ := trodAll_cons hA
  obtain ⟨v1, vs1, d1, ds1, p1, q1, rfl, rfl, rfl, h1, r1⟩ := trodAll_cons r0
  obtain ⟨v2, vs2, d2, ds2, p2, q2, rfl, rfl, rfl, h2, r2⟩ := trodAll_cons r1
  obtain ⟨v3, vs3, d3, ds3, p3, q3, rfl, rfl, rfl, h3, r3⟩ := trodAll_cons r2
  obtain ⟨v4, vs4, d4, ds4, p4, q4, rfl, rfl, rfl, h4, r4⟩ := trodAll_cons r3
  obtain ⟨v5, vs5, d5, ds5, p5, q5, rfl, rfl, rfl, h5, r5⟩ := trodAll_cons r4
  obtain ⟨v6, vs6, d6, ds6, p6, q6, rfl, rfl, rfl, h6, r6⟩ := trodAll_cons r5
  obtain ⟨rfl, rfl, rfl⟩ := trodAll_nil r6
  obtain rfl : args = #[v0, v1, v2, v3, v4, v5, v6] := by cases args; simp_all
  obtain ⟨rfl, rfl⟩ := trodVars_none hV
  have k0 := h0
  have lt0 : ∀ x ∈ p0, x.block < W.heap.size := by obtain ⟨m, hm⟩ := k0; exact DataW.trod_lt m _ _ _ hm
  obtain ⟨a0, rfl, _, _, w0⟩ := open_int Tryd.underlying3 (hval 0 3 v0 rfl rfl) h0
  have k1 := h1
  have lt1 : ∀ x ∈ p1, x.block < W.heap.size := by obtain ⟨m, hm⟩ := k1; exact DataW.trod_lt m _ _ _ hm
  obtain ⟨a1, c1, l1, rfl, lc1, mc1, v1, q1⟩ := view_of (hval 1 22 v1 rfl rfl) h1
  have k2 := h2
  have lt2 : ∀ x ∈ p2, x.block < W.heap.size := by obtain ⟨m, hm⟩ := k2; exact DataW.trod_lt m _ _ _ hm
  obtain ⟨g2, c2, rfl, wg2, wc2⟩ := un2_of (hval 2 24 v2 rfl rfl) h2
  have k3 := h3
  have lt3 : ∀ x ∈ p3, x.block < W.heap.size := by obtain ⟨m, hm⟩ := k3; exact DataW.trod_lt m _ _ _ hm
  obtain ⟨a3, c3, l3, rfl, lc3, mc3, v3, q3⟩ := hos_of (hval 3 25 v3 rfl rfl) h3
  have k4 := h4
  have lt4 : ∀ x ∈ p4, x.block < W.heap.size := by obtain ⟨m, hm⟩ := k4; exact DataW.trod_lt m _ _ _ hm
  obtain ⟨x4, rfl, w4⟩ := wa_of (hval 4 29 v4 rfl rfl) h4
  have k5 := h5
  have lt5 : ∀ x ∈ p5, x.block < W.heap.size := by obtain ⟨m, hm⟩ := k5; exact DataW.trod_lt m _ _ _ hm
  obtain ⟨x5, rfl, v5, q5⟩ := ho_of (hval 5 32 v5 rfl rfl) h5
  have k6 := h6
  have lt6 : ∀ x ∈ p6, x.block < W.heap.size := by obtain ⟨m, hm⟩ := k6; exact DataW.trod_lt m _ _ _ hm
  obtain ⟨a6, rfl, _, _, w6⟩ := open_int Tryd.underlying5 (hval 6 5 v6 rfl rfl) h6
  have hT := of_laid hL
  clear hL
  clear hA0 hval0
  refine (walk a0 a1 c1 l1 g2 c2 a3 c3 l3 x4 x5 a6 W w0 v1 q1 lc1 mc1 wg2 wc2 v3 q3 lc3 mc3 w4 v5 q5 w6 hT).mono fun e W' ⟨he, bel⟩ => ?_
  subst he
  exact ⟨_, rfl, _, _, _, [], _, [], hW', trodAll_mk1 (shut_bool Tryd.underlying4 _), (trodAll_cons_mk (Below.trod laidOut (by kernel_rfl) (of_decide_eq_true (by kernel_rfl)) k0 bel lt0) (trodAll_cons_mk (Below.trod laidOut (by kernel_rfl) (of_decide_eq_true (by kernel_rfl)) k1 bel lt1) (trodAll_cons_mk (Below.trod laidOut (by kernel_rfl) (of_decide_eq_true (by kernel_rfl)) k2 bel lt2) (trodAll_cons_mk (Below.trod laidOut (by kernel_rfl) (of_decide_eq_true (by kernel_rfl)) k3 bel lt3) (trodAll_cons_mk (Below.trod laidOut (by kernel_rfl) (of_decide_eq_true (by kernel_rfl)) k4 bel lt4) (trodAll_cons_mk (Below.trod laidOut (by kernel_rfl) (of_decide_eq_true (by kernel_rfl)) k5 bel lt5) (trodAll_cons_mk (Below.trod laidOut (by kernel_rfl) (of_decide_eq_true (by kernel_rfl)) k6 bel lt6) trodAll_mk0))))))), rfl, bel.frame _, fun h => by cases h⟩

/-- THE ROW. -/
theorem row_holds : Rows.FillPastSaid :=
  OpenClaim.holds_of_wide 7 Tryd.f7 rfl rfl rfl rfl rfl rfl rfl ⟨rfl, rfl, rfl, rfl, rfl⟩ rfl rfl rfl rfl rfl (by kernel_rfl) Tryd.func7 (by kernel_rfl)
    (of_decide_eq_true (by kernel_rfl)) (by unfold Func.isWrapper; first | (rw [if_pos (by decide +kernel)]; kernel_rfl) | (rw [if_neg (by decide +kernel)]; exact ⟨rfl, rfl⟩))
    (fun os started H enc _ => lifted os started H enc)

/-- THE STATEMENT. -/
theorem card_holds : Rows.FillPastCardSaid :=
  Claim7.holds_tied_plain_at .later [] [.data] true (true, Rows.fillPastCard.stood.harness.2) false
    row_holds (fun _ h => by cases h) (by kernel_rfl) (fun _ h => by cases h) fillPast_row_tie rfl ⟨rfl, rfl⟩ (by kernel_rfl) rfl
    (fun f fn hf hfn => by
      obtain rfl : f = 7 := Option.some.inj ((show Tryd.prog.funcNamed Rows.fillPastRow.func = some 7 by kernel_rfl).symm.trans hf) |>.symm
      obtain rfl : fn = Tryd.f7 := (Option.some.inj (Tryd.func7.symm.trans hfn)).symm
      exact ⟨by kernel_rfl, fun j t ht => by
        rw [Tryd.params7] at ht
        have hm : t ∈ [3, 22, 24, 25, 29, 32, 5] := by simpa using Array.mem_of_getElem? ht
        have hall : ([3, 22, 24, 25, 29, 32, 5].all fun u => !Tryd.prog.wantsStandIn u) = true := by kernel_rfl
        exact (show Tryd.prog.wantsStandIn t = false by simpa using List.all_eq_true.1 hall t hm)⟩)
    (by kernel_rfl)
end Go.Proofs.YtikgmgimdeibgaaDoor.fillPast
