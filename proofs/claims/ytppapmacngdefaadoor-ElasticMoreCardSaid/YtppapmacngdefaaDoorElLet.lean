/- let of package elastic: whether a hold leaves the head its promise. -/
import Derived.Test.YtppapmacngdefaaDoorElHead
import Derived.Test.YtppapmacngdefaaDoorFilAft
set_option linter.unusedVariables false
set_option maxRecDepth 100000
namespace Go.Proofs.YtppapmacngdefaaDoor
open Go.RowKit
open PR
set_option maxHeartbeats 16000000 in
theorem let_any (L : Lk) (j : Jb) (un : Int) (A : Option Addr) (c : Nat) (l9 : List Fe) (w : World) (h : LkIn w w.heap.size L) (hW : LkW L) (hF : LkF L) (hj : JbW j) (hu : (Lit.int .i64 un).wf = true)
    (hs : Fes w w.heap.size A l9) (hso : ∀ s ∈ l9, FeOk s) (hl : l9.length ≤ c) (hc : c ≤ maxLen) (hn9 : l9.length ≤ 1000) (hT : Tab w) :
    Calls Tryd.prog 24 #[lkV L, jbV j, .int .i64 un, .slice A l9.length c] w fun e w' => ∃ r, e = .returned (.int .i64 r) ∧ LetR L j.id j.q un l9 r ∧ Below w.heap.size w w' := by
  obtain ⟨n1, hn1⟩ : ∃ n, n = L.lv.length := ⟨_, rfl⟩
  obtain ⟨n2, hn2⟩ : ∃ n, n = L.lf.length := ⟨_, rfl⟩
  obtain ⟨n3, hn3⟩ : ∃ n, n = L.le.length := ⟨_, rfl⟩
  obtain ⟨n4, hn4⟩ : ∃ n, n = L.lw.length := ⟨_, rfl⟩
  obtain ⟨n5, hn5⟩ : ∃ n, n = L.lr.length := ⟨_, rfl⟩
  obtain ⟨k, hk9⟩ : ∃ n, n = l9.length := ⟨_, rfl⟩
  have hH := Lib.hid (fun W (hk : Below w.heap.size w W) => show Calls Tryd.prog 37 #[.agg #[.int .i64 L.now, .int .i64 L.hd, .int .i64 L.pr, .int .i64 L.to, .slice L.A1 n1 L.c1, .slice L.A2 n2 L.c2, .slice L.A3 n3 L.c3, .slice L.A4 n4 L.c4, .slice L.A5 n5 L.c5]] W (fun e w' => HeadR (headL L) e ∧ Below W.heap.size W w') from by
    have h9 := head_any L W (h.keep hk hk.size) hW
    unfold lkV lkA at h9
    rw [← hn1, ← hn2, ← hn3, ← hn4, ← hn5] at h9
    exact h9)
  have hL := Lib.hid (fun X (hX : headL L = some X) W (hk : Below w.heap.size w W) => show Calls Tryd.prog 27 #[.agg #[.int .i64 L.now, .int .i64 L.hd, .int .i64 L.pr, .int .i64 L.to, .slice L.A1 n1 L.c1, .slice L.A2 n2 L.c2, .slice L.A3 n3 L.c3, .slice L.A4 n4 L.c4, .slice L.A5 n5 L.c5], .int .i64 X.q] W (fun e w' => LeftR (leftL L X.q) e ∧ Below W.heap.size W w') from by
    have h9 := leftof_any L X.q W (h.keep hk hk.size) (head_ok hW hX).q hW
    unfold lkV lkA at h9
    rw [← hn1, ← hn2, ← hn3, ← hn4, ← hn5] at h9
    exact h9)
  have hS := Lib.hid (fun X (hX : headL L = some X) (U : Lu) (hU : leftL L X.q = some U) W (hk : Below w.heap.size w W) => show Calls Tryd.prog 38 #[.int .i64 L.now, .slice L.A1 n1 L.c1, .agg #[.int .i64 U.g, .int .i64 U.c], .slice L.A3 n3 L.c3, .agg #[.int .i64 X.q, .int .i64 X.n, .int .i64 X.S.g, .int .i64 X.S.c, .int .i64 X.S.mn, .int .i64 X.S.mx], .int .i64 L.pr, .agg #[.int .i64 j.id, .int .i64 j.q, .int .i64 un, .bool false, .slice A k c]] W (fun e w' => ∃ T E, e = .returned (.tuple #[.bool (safeB L.now L.pr T E), .int .i64 E]) ∧ Aft L.now L.lv U.g U.c L.le X (hoOf j.q un l9) T E ∧ Below W.heap.size W w') from by
    have hb := hF.f U (left_in hU).1
    have h9 := psafe_any L.now L.A1 L.c1 L.lv U.g U.c L.A3 L.c3 L.le X L.pr ⟨j.id, j.q, un, false, A, c, l9⟩ W (h.v.keep hk hk.size) hF.v (by have := hF.n; omega) (h.e.keep hk hk.size) hW.e (by have := hF.e1; omega) (fun x hx => by have := hF.e2 x hx; omega) (head_ok hW hX) (Fes.keep hs hk hk.size) ⟨hj.q, hu, hl, hc, hso⟩ hn9 (by omega) (by omega) (hT.below hk hT.size)
    unfold hoV hoA waV waA at h9
    rw [← hn1, ← hn3, ← hk9] at h9
    refine h9.mono ?_
    rintro e w' ⟨T, E, he, ha, hb9⟩
    exact ⟨T, E, he, Aft.of_ (H := ⟨j.id, j.q, un, false, A, c, l9⟩) (H' := hoOf j.q un l9) rfl rfl rfl ha, hb9⟩)
  unfold lkV lkA jbV jbA
  rw [← hn1, ← hn2, ← hn3, ← hn4, ← hn5]
  rw [← hk9]
  clear hn1 hn2 hn3 hn4 hn5 h hW hF hj hu hs hso hl hc hn9 hT hk9
  by_cases hid : j.id = L.hd
  · have HI := Lib.hid hid
    have t1 : (j.id == L.hd) = true := by simp [hid]
    clear hid
    obtain ⟨B0, hB0⟩ : ∃ B, B = w.heap.size := ⟨_, rfl⟩
    rw [← hB0]
    have HB0 := Lib.hid hB0
    clear hB0
    have HBel := Lib.hid (Below.refl w.heap.size w)
    have hlow : w.heap.size ≤ w.heap.size := Nat.le_refl _
    go_enter Tryd.func24, Tryd.ntmps24
    go_wp2_with fail
    obtain ⟨V1, hV1⟩ : ∃ W, W = (w.alloc (.cells #[.int .i64 L.now, .int .i64 L.hd, .int .i64 L.pr, .int .i64 L.to, .slice L.A1 n1 L.c1, .slice L.A2 n2 L.c2, .slice L.A3 n3 L.c3, .slice L.A4 n4 L.c4, .slice L.A5 n5 L.c5] 28)).alloc (.cells #[.int .i64 j.id, .int .i64 j.q, .int .i64 j.p, .int .i64 j.r, .int .i64 j.g, .int .i64 j.c, .int .i64 j.mn, .int .i64 j.mx] 32) := ⟨_, rfl⟩
    rw [← hV1]
    have hzV1 : V1.heap.size = w.heap.size + 1 + 1 := by rw [hV1]; simp
    replace HBel : Hid (Below w.heap.size w V1) := Lib.hid (by rw [hV1]; exact ((HBel.out.alloc (hlow) _).alloc (by simp <;> omega) _))
    have B_l : Hid (V1.heap[w.heap.size]? = some (.cells #[.int .i64 L.now, .int .i64 L.hd, .int .i64 L.pr, .int .i64 L.to, .slice L.A1 n1 L.c1, .slice L.A2 n2 L.c2, .slice L.A3 n3 L.c3, .slice L.A4 n4 L.c4, .slice L.A5 n5 L.c5] 28 (0, 0))) := Lib.hid (by
      have h9 := heap_alloc_new (w) (.cells #[.int .i64 L.now, .int .i64 L.hd, .int .i64 L.pr, .int .i64 L.to, .slice L.A1 n1 L.c1, .slice L.A2 n2 L.c2, .slice L.A3 n3 L.c3, .slice L.A4 n4 L.c4, .slice L.A5 n5 L.c5] 28)
      rw [hV1]; exact ((Below.heap_alloc _ _ _ (by simp <;> omega)).trans h9))
    have B_j : Hid (V1.heap[w.heap.size + 1]? = some (.cells #[.int .i64 j.id, .int .i64 j.q, .int .i64 j.p, .int .i64 j.r, .int .i64 j.g, .int .i64 j.c, .int .i64 j.mn, .int .i64 j.mx] 32 (0, 0))) := Lib.hid (by
      have h9 := heap_alloc_new (w.alloc (.cells #[.int .i64 L.now, .int .i64 L.hd, .int .i64 L.pr, .int .i64 L.to, .slice L.A1 n1 L.c1, .slice L.A2 n2 L.c2, .slice L.A3 n3 L.c3, .slice L.A4 n4 L.c4, .slice L.A5 n5 L.c5] 28)) (.cells #[.int .i64 j.id, .int .i64 j.q, .int .i64 j.p, .int .i64 j.r, .int .i64 j.g, .int .i64 j.c, .int .i64 j.mn, .int .i64 j.mx] 32)
      rw [World.size_alloc] at h9
      rw [hV1]; exact h9)
    obtain ⟨N_l, hN_l⟩ : ∃ N, N = w.heap.size := ⟨_, rfl⟩
    obtain ⟨N_j, hN_j⟩ : ∃ N, N = w.heap.size + 1 := ⟨_, rfl⟩
    (try rw [← hN_j])
    rw [← hN_j] at B_j
    (try rw [← hN_l])
    rw [← hN_l] at B_l
    have l_l : N_l < V1.heap.size := by omega
    have l_j : N_j < V1.heap.size := by omega
    have g_l : w.heap.size ≤ N_l := by omega
    have g_j : w.heap.size ≤ N_j := by omega
    have d_l_j : N_l < N_j := by omega
    replace hlow : w.heap.size ≤ V1.heap.size := by omega
    clear hV1 hzV1 hN_l hN_j
    have l0 : V1.cell? ⟨N_l, 0, none⟩ = some (.int .i64 L.now) := cell_blk (i := 0) B_l.out rfl
    have l1 : V1.cell? ⟨N_l, 1, none⟩ = some (.int .i64 L.hd) := cell_blk (i := 1) B_l.out rfl
    have l2 : V1.cell? ⟨N_l, 2, none⟩ = some (.int .i64 L.pr) := cell_blk (i := 2) B_l.out rfl
    have l3 : V1.cell? ⟨N_l, 3, none⟩ = some (.int .i64 L.to) := cell_blk (i := 3) B_l.out rfl
    have l4 : V1.cell? ⟨N_l, 4, none⟩ = some (.slice L.A1 n1 L.c1) := cell_blk (i := 4) B_l.out rfl
    have l5 : V1.cell? ⟨N_l, 5, none⟩ = some (.slice L.A2 n2 L.c2) := cell_blk (i := 5) B_l.out rfl
    have l6 : V1.cell? ⟨N_l, 6, none⟩ = some (.slice L.A3 n3 L.c3) := cell_blk (i := 6) B_l.out rfl
    have l7 : V1.cell? ⟨N_l, 7, none⟩ = some (.slice L.A4 n4 L.c4) := cell_blk (i := 7) B_l.out rfl
    have l8 : V1.cell? ⟨N_l, 8, none⟩ = some (.slice L.A5 n5 L.c5) := cell_blk (i := 8) B_l.out rfl
    go_wp2_with fail
    refine (hH.out V1 HBel.out).mono ?_
    rintro e U2 ⟨hh, hb9⟩
    clear l0 l1 l2 l3 l4 l5 l6 l7 l8
    have hs9 := hb9.size
    replace HBel := Lib.hid (HBel.out.trans (hb9.mono hlow))
    replace B_l : Hid (U2.heap[N_l]? = some (.cells #[.int .i64 L.now, .int .i64 L.hd, .int .i64 L.pr, .int .i64 L.to, .slice L.A1 n1 L.c1, .slice L.A2 n2 L.c2, .slice L.A3 n3 L.c3, .slice L.A4 n4 L.c4, .slice L.A5 n5 L.c5] 28 (0, 0))) := Lib.hid ((hb9.block _ l_l).trans B_l.out)
    replace B_j : Hid (U2.heap[N_j]? = some (.cells #[.int .i64 j.id, .int .i64 j.q, .int .i64 j.p, .int .i64 j.r, .int .i64 j.g, .int .i64 j.c, .int .i64 j.mn, .int .i64 j.mx] 32 (0, 0))) := Lib.hid ((hb9.block _ l_j).trans B_j.out)
    replace l_l : N_l < U2.heap.size := by omega
    replace l_j : N_j < U2.heap.size := by omega
    replace hlow : w.heap.size ≤ U2.heap.size := by omega
    clear hb9 hs9
    rcases hh with ⟨hn, rfl⟩ | ⟨X, hX, rfl⟩
    · have HN := Lib.hid hn
      clear hn
      have l0 : U2.cell? ⟨N_l, 0, none⟩ = some (.int .i64 L.now) := cell_blk (i := 0) B_l.out rfl
      have l1 : U2.cell? ⟨N_l, 1, none⟩ = some (.int .i64 L.hd) := cell_blk (i := 1) B_l.out rfl
      have l2 : U2.cell? ⟨N_l, 2, none⟩ = some (.int .i64 L.pr) := cell_blk (i := 2) B_l.out rfl
      have l3 : U2.cell? ⟨N_l, 3, none⟩ = some (.int .i64 L.to) := cell_blk (i := 3) B_l.out rfl
      have l4 : U2.cell? ⟨N_l, 4, none⟩ = some (.slice L.A1 n1 L.c1) := cell_blk (i := 4) B_l.out rfl
      have l5 : U2.cell? ⟨N_l, 5, none⟩ = some (.slice L.A2 n2 L.c2) := cell_blk (i := 5) B_l.out rfl
      have l6 : U2.cell? ⟨N_l, 6, none⟩ = some (.slice L.A3 n3 L.c3) := cell_blk (i := 6) B_l.out rfl
      have l7 : U2.cell? ⟨N_l, 7, none⟩ = some (.slice L.A4 n4 L.c4) := cell_blk (i := 7) B_l.out rfl
      have l8 : U2.cell? ⟨N_l, 8, none⟩ = some (.slice L.A5 n5 L.c5) := cell_blk (i := 8) B_l.out rfl
      have l_l_0 : N_l < U2.heap.size + 1 := by omega
      have j0 : U2.cell? ⟨N_j, 0, none⟩ = some (.int .i64 j.id) := cell_blk (i := 0) B_j.out rfl
      have j1 : U2.cell? ⟨N_j, 1, none⟩ = some (.int .i64 j.q) := cell_blk (i := 1) B_j.out rfl
      have j2 : U2.cell? ⟨N_j, 2, none⟩ = some (.int .i64 j.p) := cell_blk (i := 2) B_j.out rfl
      have j3 : U2.cell? ⟨N_j, 3, none⟩ = some (.int .i64 j.r) := cell_blk (i := 3) B_j.out rfl
      have j4 : U2.cell? ⟨N_j, 4, none⟩ = some (.int .i64 j.g) := cell_blk (i := 4) B_j.out rfl
      have j5 : U2.cell? ⟨N_j, 5, none⟩ = some (.int .i64 j.c) := cell_blk (i := 5) B_j.out rfl
      have j6 : U2.cell? ⟨N_j, 6, none⟩ = some (.int .i64 j.mn) := cell_blk (i := 6) B_j.out rfl
      have j7 : U2.cell? ⟨N_j, 7, none⟩ = some (.int .i64 j.mx) := cell_blk (i := 7) B_j.out rfl
      have l_j_0 : N_j < U2.heap.size + 1 := by omega
      go_wp2
      clear l0 l1 l2 l3 l4 l5 l6 l7 l8 l_l_0 j0 j1 j2 j3 j4 j5 j6 j7 l_j_0
      go_ret
      exact ⟨0, rfl, .inl ⟨.inl HN.out, rfl⟩, by rw [HB0.out]; exact HBel.out.alloc hlow _⟩
    · have HX := Lib.hid hX
      clear hX
      have l0 : U2.cell? ⟨N_l, 0, none⟩ = some (.int .i64 L.now) := cell_blk (i := 0) B_l.out rfl
      have l1 : U2.cell? ⟨N_l, 1, none⟩ = some (.int .i64 L.hd) := cell_blk (i := 1) B_l.out rfl
      have l2 : U2.cell? ⟨N_l, 2, none⟩ = some (.int .i64 L.pr) := cell_blk (i := 2) B_l.out rfl
      have l3 : U2.cell? ⟨N_l, 3, none⟩ = some (.int .i64 L.to) := cell_blk (i := 3) B_l.out rfl
      have l4 : U2.cell? ⟨N_l, 4, none⟩ = some (.slice L.A1 n1 L.c1) := cell_blk (i := 4) B_l.out rfl
      have l5 : U2.cell? ⟨N_l, 5, none⟩ = some (.slice L.A2 n2 L.c2) := cell_blk (i := 5) B_l.out rfl
      have l6 : U2.cell? ⟨N_l, 6, none⟩ = some (.slice L.A3 n3 L.c3) := cell_blk (i := 6) B_l.out rfl
      have l7 : U2.cell? ⟨N_l, 7, none⟩ = some (.slice L.A4 n4 L.c4) := cell_blk (i := 7) B_l.out rfl
      have l8 : U2.cell? ⟨N_l, 8, none⟩ = some (.slice L.A5 n5 L.c5) := cell_blk (i := 8) B_l.out rfl
      have l_l_0 : N_l < U2.heap.size + 1 := by omega
      have j0 : U2.cell? ⟨N_j, 0, none⟩ = some (.int .i64 j.id) := cell_blk (i := 0) B_j.out rfl
      have j1 : U2.cell? ⟨N_j, 1, none⟩ = some (.int .i64 j.q) := cell_blk (i := 1) B_j.out rfl
      have j2 : U2.cell? ⟨N_j, 2, none⟩ = some (.int .i64 j.p) := cell_blk (i := 2) B_j.out rfl
      have j3 : U2.cell? ⟨N_j, 3, none⟩ = some (.int .i64 j.r) := cell_blk (i := 3) B_j.out rfl
      have j4 : U2.cell? ⟨N_j, 4, none⟩ = some (.int .i64 j.g) := cell_blk (i := 4) B_j.out rfl
      have j5 : U2.cell? ⟨N_j, 5, none⟩ = some (.int .i64 j.c) := cell_blk (i := 5) B_j.out rfl
      have j6 : U2.cell? ⟨N_j, 6, none⟩ = some (.int .i64 j.mn) := cell_blk (i := 6) B_j.out rfl
      have j7 : U2.cell? ⟨N_j, 7, none⟩ = some (.int .i64 j.mx) := cell_blk (i := 7) B_j.out rfl
      have l_j_0 : N_j < U2.heap.size + 1 := by omega
      go_wp2
      clear l0 l1 l2 l3 l4 l5 l6 l7 l8 l_l_0 j0 j1 j2 j3 j4 j5 j6 j7 l_j_0
      go_ret
      exact ⟨0, rfl, .inl ⟨.inr HI.out, rfl⟩, by rw [HB0.out]; exact HBel.out.alloc hlow _⟩
  · have HI := Lib.hid hid
    have t1 : (j.id == L.hd) = false := by simp [hid]
    clear hid
    obtain ⟨B0, hB0⟩ : ∃ B, B = w.heap.size := ⟨_, rfl⟩
    rw [← hB0]
    have HB0 := Lib.hid hB0
    clear hB0
    have HBel := Lib.hid (Below.refl w.heap.size w)
    have hlow : w.heap.size ≤ w.heap.size := Nat.le_refl _
    go_enter Tryd.func24, Tryd.ntmps24
    go_wp2_with fail
    obtain ⟨V1, hV1⟩ : ∃ W, W = (w.alloc (.cells #[.int .i64 L.now, .int .i64 L.hd, .int .i64 L.pr, .int .i64 L.to, .slice L.A1 n1 L.c1, .slice L.A2 n2 L.c2, .slice L.A3 n3 L.c3, .slice L.A4 n4 L.c4, .slice L.A5 n5 L.c5] 28)).alloc (.cells #[.int .i64 j.id, .int .i64 j.q, .int .i64 j.p, .int .i64 j.r, .int .i64 j.g, .int .i64 j.c, .int .i64 j.mn, .int .i64 j.mx] 32) := ⟨_, rfl⟩
    rw [← hV1]
    have hzV1 : V1.heap.size = w.heap.size + 1 + 1 := by rw [hV1]; simp
    replace HBel : Hid (Below w.heap.size w V1) := Lib.hid (by rw [hV1]; exact ((HBel.out.alloc (hlow) _).alloc (by simp <;> omega) _))
    have B_l : Hid (V1.heap[w.heap.size]? = some (.cells #[.int .i64 L.now, .int .i64 L.hd, .int .i64 L.pr, .int .i64 L.to, .slice L.A1 n1 L.c1, .slice L.A2 n2 L.c2, .slice L.A3 n3 L.c3, .slice L.A4 n4 L.c4, .slice L.A5 n5 L.c5] 28 (0, 0))) := Lib.hid (by
      have h9 := heap_alloc_new (w) (.cells #[.int .i64 L.now, .int .i64 L.hd, .int .i64 L.pr, .int .i64 L.to, .slice L.A1 n1 L.c1, .slice L.A2 n2 L.c2, .slice L.A3 n3 L.c3, .slice L.A4 n4 L.c4, .slice L.A5 n5 L.c5] 28)
      rw [hV1]; exact ((Below.heap_alloc _ _ _ (by simp <;> omega)).trans h9))
    have B_j : Hid (V1.heap[w.heap.size + 1]? = some (.cells #[.int .i64 j.id, .int .i64 j.q, .int .i64 j.p, .int .i64 j.r, .int .i64 j.g, .int .i64 j.c, .int .i64 j.mn, .int .i64 j.mx] 32 (0, 0))) := Lib.hid (by
      have h9 := heap_alloc_new (w.alloc (.cells #[.int .i64 L.now, .int .i64 L.hd, .int .i64 L.pr, .int .i64 L.to, .slice L.A1 n1 L.c1, .slice L.A2 n2 L.c2, .slice L.A3 n3 L.c3, .slice L.A4 n4 L.c4, .slice L.A5 n5 L.c5] 28)) (.cells #[.int .i64 j.id, .int .i64 j.q, .int .i64 j.p, .int .i64 j.r, .int .i64 j.g, .int .i64 j.c, .int .i64 j.mn, .int .i64 j.mx] 32)
      rw [World.size_alloc] at h9
      rw [hV1]; exact h9)
    obtain ⟨N_l, hN_l⟩ : ∃ N, N = w.heap.size := ⟨_, rfl⟩
    obtain ⟨N_j, hN_j⟩ : ∃ N, N = w.heap.size + 1 := ⟨_, rfl⟩
    (try rw [← hN_j])
    rw [← hN_j] at B_j
    (try rw [← hN_l])
    rw [← hN_l] at B_l
    have l_l : N_l < V1.heap.size := by omega
    have l_j : N_j < V1.heap.size := by omega
    have g_l : w.heap.size ≤ N_l := by omega
    have g_j : w.heap.size ≤ N_j := by omega
    have d_l_j : N_l < N_j := by omega
    replace hlow : w.heap.size ≤ V1.heap.size := by omega
    clear hV1 hzV1 hN_l hN_j
    have l0 : V1.cell? ⟨N_l, 0, none⟩ = some (.int .i64 L.now) := cell_blk (i := 0) B_l.out rfl
    have l1 : V1.cell? ⟨N_l, 1, none⟩ = some (.int .i64 L.hd) := cell_blk (i := 1) B_l.out rfl
    have l2 : V1.cell? ⟨N_l, 2, none⟩ = some (.int .i64 L.pr) := cell_blk (i := 2) B_l.out rfl
    have l3 : V1.cell? ⟨N_l, 3, none⟩ = some (.int .i64 L.to) := cell_blk (i := 3) B_l.out rfl
    have l4 : V1.cell? ⟨N_l, 4, none⟩ = some (.slice L.A1 n1 L.c1) := cell_blk (i := 4) B_l.out rfl
    have l5 : V1.cell? ⟨N_l, 5, none⟩ = some (.slice L.A2 n2 L.c2) := cell_blk (i := 5) B_l.out rfl
    have l6 : V1.cell? ⟨N_l, 6, none⟩ = some (.slice L.A3 n3 L.c3) := cell_blk (i := 6) B_l.out rfl
    have l7 : V1.cell? ⟨N_l, 7, none⟩ = some (.slice L.A4 n4 L.c4) := cell_blk (i := 7) B_l.out rfl
    have l8 : V1.cell? ⟨N_l, 8, none⟩ = some (.slice L.A5 n5 L.c5) := cell_blk (i := 8) B_l.out rfl
    go_wp2_with fail
    refine (hH.out V1 HBel.out).mono ?_
    rintro e U2 ⟨hh, hb9⟩
    clear l0 l1 l2 l3 l4 l5 l6 l7 l8
    have hs9 := hb9.size
    replace HBel := Lib.hid (HBel.out.trans (hb9.mono hlow))
    replace B_l : Hid (U2.heap[N_l]? = some (.cells #[.int .i64 L.now, .int .i64 L.hd, .int .i64 L.pr, .int .i64 L.to, .slice L.A1 n1 L.c1, .slice L.A2 n2 L.c2, .slice L.A3 n3 L.c3, .slice L.A4 n4 L.c4, .slice L.A5 n5 L.c5] 28 (0, 0))) := Lib.hid ((hb9.block _ l_l).trans B_l.out)
    replace B_j : Hid (U2.heap[N_j]? = some (.cells #[.int .i64 j.id, .int .i64 j.q, .int .i64 j.p, .int .i64 j.r, .int .i64 j.g, .int .i64 j.c, .int .i64 j.mn, .int .i64 j.mx] 32 (0, 0))) := Lib.hid ((hb9.block _ l_j).trans B_j.out)
    replace l_l : N_l < U2.heap.size := by omega
    replace l_j : N_j < U2.heap.size := by omega
    replace hlow : w.heap.size ≤ U2.heap.size := by omega
    clear hb9 hs9
    rcases hh with ⟨hn, rfl⟩ | ⟨X, hX, rfl⟩
    · have HN := Lib.hid hn
      clear hn
      have l0 : U2.cell? ⟨N_l, 0, none⟩ = some (.int .i64 L.now) := cell_blk (i := 0) B_l.out rfl
      have l1 : U2.cell? ⟨N_l, 1, none⟩ = some (.int .i64 L.hd) := cell_blk (i := 1) B_l.out rfl
      have l2 : U2.cell? ⟨N_l, 2, none⟩ = some (.int .i64 L.pr) := cell_blk (i := 2) B_l.out rfl
      have l3 : U2.cell? ⟨N_l, 3, none⟩ = some (.int .i64 L.to) := cell_blk (i := 3) B_l.out rfl
      have l4 : U2.cell? ⟨N_l, 4, none⟩ = some (.slice L.A1 n1 L.c1) := cell_blk (i := 4) B_l.out rfl
      have l5 : U2.cell? ⟨N_l, 5, none⟩ = some (.slice L.A2 n2 L.c2) := cell_blk (i := 5) B_l.out rfl
      have l6 : U2.cell? ⟨N_l, 6, none⟩ = some (.slice L.A3 n3 L.c3) := cell_blk (i := 6) B_l.out rfl
      have l7 : U2.cell? ⟨N_l, 7, none⟩ = some (.slice L.A4 n4 L.c4) := cell_blk (i := 7) B_l.out rfl
      have l8 : U2.cell? ⟨N_l, 8, none⟩ = some (.slice L.A5 n5 L.c5) := cell_blk (i := 8) B_l.out rfl
      have l_l_0 : N_l < U2.heap.size + 1 := by omega
      have j0 : U2.cell? ⟨N_j, 0, none⟩ = some (.int .i64 j.id) := cell_blk (i := 0) B_j.out rfl
      have j1 : U2.cell? ⟨N_j, 1, none⟩ = some (.int .i64 j.q) := cell_blk (i := 1) B_j.out rfl
      have j2 : U2.cell? ⟨N_j, 2, none⟩ = some (.int .i64 j.p) := cell_blk (i := 2) B_j.out rfl
      have j3 : U2.cell? ⟨N_j, 3, none⟩ = some (.int .i64 j.r) := cell_blk (i := 3) B_j.out rfl
      have j4 : U2.cell? ⟨N_j, 4, none⟩ = some (.int .i64 j.g) := cell_blk (i := 4) B_j.out rfl
      have j5 : U2.cell? ⟨N_j, 5, none⟩ = some (.int .i64 j.c) := cell_blk (i := 5) B_j.out rfl
      have j6 : U2.cell? ⟨N_j, 6, none⟩ = some (.int .i64 j.mn) := cell_blk (i := 6) B_j.out rfl
      have j7 : U2.cell? ⟨N_j, 7, none⟩ = some (.int .i64 j.mx) := cell_blk (i := 7) B_j.out rfl
      have l_j_0 : N_j < U2.heap.size + 1 := by omega
      go_wp2
      clear l0 l1 l2 l3 l4 l5 l6 l7 l8 l_l_0 j0 j1 j2 j3 j4 j5 j6 j7 l_j_0
      go_ret
      exact ⟨0, rfl, .inl ⟨.inl HN.out, rfl⟩, by rw [HB0.out]; exact HBel.out.alloc hlow _⟩
    · have HX := Lib.hid hX
      clear hX
      have l0 : U2.cell? ⟨N_l, 0, none⟩ = some (.int .i64 L.now) := cell_blk (i := 0) B_l.out rfl
      have l1 : U2.cell? ⟨N_l, 1, none⟩ = some (.int .i64 L.hd) := cell_blk (i := 1) B_l.out rfl
      have l2 : U2.cell? ⟨N_l, 2, none⟩ = some (.int .i64 L.pr) := cell_blk (i := 2) B_l.out rfl
      have l3 : U2.cell? ⟨N_l, 3, none⟩ = some (.int .i64 L.to) := cell_blk (i := 3) B_l.out rfl
      have l4 : U2.cell? ⟨N_l, 4, none⟩ = some (.slice L.A1 n1 L.c1) := cell_blk (i := 4) B_l.out rfl
      have l5 : U2.cell? ⟨N_l, 5, none⟩ = some (.slice L.A2 n2 L.c2) := cell_blk (i := 5) B_l.out rfl
      have l6 : U2.cell? ⟨N_l, 6, none⟩ = some (.slice L.A3 n3 L.c3) := cell_blk (i := 6) B_l.out rfl
      have l7 : U2.cell? ⟨N_l, 7, none⟩ = some (.slice L.A4 n4 L.c4) := cell_blk (i := 7) B_l.out rfl
      have l8 : U2.cell? ⟨N_l, 8, none⟩ = some (.slice L.A5 n5 L.c5) := cell_blk (i := 8) B_l.out rfl
      have l_l_0 : N_l < U2.heap.size + 1 := by omega
      have j0 : U2.cell? ⟨N_j, 0, none⟩ = some (.int .i64 j.id) := cell_blk (i := 0) B_j.out rfl
      have j1 : U2.cell? ⟨N_j, 1, none⟩ = some (.int .i64 j.q) := cell_blk (i := 1) B_j.out rfl
      have j2 : U2.cell? ⟨N_j, 2, none⟩ = some (.int .i64 j.p) := cell_blk (i := 2) B_j.out rfl
      have j3 : U2.cell? ⟨N_j, 3, none⟩ = some (.int .i64 j.r) := cell_blk (i := 3) B_j.out rfl
      have j4 : U2.cell? ⟨N_j, 4, none⟩ = some (.int .i64 j.g) := cell_blk (i := 4) B_j.out rfl
      have j5 : U2.cell? ⟨N_j, 5, none⟩ = some (.int .i64 j.c) := cell_blk (i := 5) B_j.out rfl
      have j6 : U2.cell? ⟨N_j, 6, none⟩ = some (.int .i64 j.mn) := cell_blk (i := 6) B_j.out rfl
      have j7 : U2.cell? ⟨N_j, 7, none⟩ = some (.int .i64 j.mx) := cell_blk (i := 7) B_j.out rfl
      have l_j_0 : N_j < U2.heap.size + 1 := by omega
      go_wp2_with fail
      clear l0 l1 l2 l3 l4 l5 l6 l7 l8 l_l_0 j0 j1 j2 j3 j4 j5 j6 j7 l_j_0
      obtain ⟨V3, hV3⟩ : ∃ W, W = U2.alloc (.cells #[.int .i64 X.q, .int .i64 X.n, .int .i64 X.S.g, .int .i64 X.S.c, .int .i64 X.S.mn, .int .i64 X.S.mx] 85) := ⟨_, rfl⟩
      rw [← hV3]
      have hzV3 : V3.heap.size = U2.heap.size + 1 := by rw [hV3]; simp
      replace HBel : Hid (Below w.heap.size w V3) := Lib.hid (by rw [hV3]; exact (HBel.out.alloc (hlow) _))
      replace B_l : Hid (V3.heap[N_l]? = some (.cells #[.int .i64 L.now, .int .i64 L.hd, .int .i64 L.pr, .int .i64 L.to, .slice L.A1 n1 L.c1, .slice L.A2 n2 L.c2, .slice L.A3 n3 L.c3, .slice L.A4 n4 L.c4, .slice L.A5 n5 L.c5] 28 (0, 0))) := Lib.hid (by rw [hV3]; exact ((Below.heap_alloc _ _ _ (by first | omega | (simp <;> omega))).trans B_l.out))
      replace B_j : Hid (V3.heap[N_j]? = some (.cells #[.int .i64 j.id, .int .i64 j.q, .int .i64 j.p, .int .i64 j.r, .int .i64 j.g, .int .i64 j.c, .int .i64 j.mn, .int .i64 j.mx] 32 (0, 0))) := Lib.hid (by rw [hV3]; exact ((Below.heap_alloc _ _ _ (by first | omega | (simp <;> omega))).trans B_j.out))
      have B_x : Hid (V3.heap[U2.heap.size]? = some (.cells #[.int .i64 X.q, .int .i64 X.n, .int .i64 X.S.g, .int .i64 X.S.c, .int .i64 X.S.mn, .int .i64 X.S.mx] 85 (0, 0))) := Lib.hid (by
        have h9 := heap_alloc_new (U2) (.cells #[.int .i64 X.q, .int .i64 X.n, .int .i64 X.S.g, .int .i64 X.S.c, .int .i64 X.S.mn, .int .i64 X.S.mx] 85)
        rw [hV3]; exact h9)
      obtain ⟨N_x, hN_x⟩ : ∃ N, N = U2.heap.size := ⟨_, rfl⟩
      (try rw [← hN_x])
      rw [← hN_x] at B_x
      have d_l_x : N_l < N_x := by omega
      have d_j_x : N_j < N_x := by omega
      replace l_l : N_l < V3.heap.size := by omega
      replace l_j : N_j < V3.heap.size := by omega
      have l_x : N_x < V3.heap.size := by omega
      have g_x : w.heap.size ≤ N_x := by omega
      replace hlow : w.heap.size ≤ V3.heap.size := by omega
      clear hV3 hzV3 hN_x
      refine (hL.out X HX.out V3 HBel.out).mono ?_
      rintro e U4 ⟨hq, hb9⟩
      have hs9 := hb9.size
      replace HBel := Lib.hid (HBel.out.trans (hb9.mono hlow))
      replace B_l : Hid (U4.heap[N_l]? = some (.cells #[.int .i64 L.now, .int .i64 L.hd, .int .i64 L.pr, .int .i64 L.to, .slice L.A1 n1 L.c1, .slice L.A2 n2 L.c2, .slice L.A3 n3 L.c3, .slice L.A4 n4 L.c4, .slice L.A5 n5 L.c5] 28 (0, 0))) := Lib.hid ((hb9.block _ l_l).trans B_l.out)
      replace B_j : Hid (U4.heap[N_j]? = some (.cells #[.int .i64 j.id, .int .i64 j.q, .int .i64 j.p, .int .i64 j.r, .int .i64 j.g, .int .i64 j.c, .int .i64 j.mn, .int .i64 j.mx] 32 (0, 0))) := Lib.hid ((hb9.block _ l_j).trans B_j.out)
      replace B_x : Hid (U4.heap[N_x]? = some (.cells #[.int .i64 X.q, .int .i64 X.n, .int .i64 X.S.g, .int .i64 X.S.c, .int .i64 X.S.mn, .int .i64 X.S.mx] 85 (0, 0))) := Lib.hid ((hb9.block _ l_x).trans B_x.out)
      replace l_l : N_l < U4.heap.size := by omega
      replace l_j : N_j < U4.heap.size := by omega
      replace l_x : N_x < U4.heap.size := by omega
      replace hlow : w.heap.size ≤ U4.heap.size := by omega
      clear hb9 hs9
      rcases hq with ⟨hq, rfl⟩ | ⟨U, hq, rfl⟩
      · have HQ := Lib.hid hq
        clear hq
        go_wp2
        go_ret
        exact ⟨5, rfl, .inr ⟨HI.out, X, HX.out, .inl ⟨HQ.out, rfl⟩⟩, by rw [HB0.out]; exact HBel.out.alloc hlow _⟩
      · have HQ := Lib.hid hq
        clear hq
        have l0 : U4.cell? ⟨N_l, 0, none⟩ = some (.int .i64 L.now) := cell_blk (i := 0) B_l.out rfl
        have l1 : U4.cell? ⟨N_l, 1, none⟩ = some (.int .i64 L.hd) := cell_blk (i := 1) B_l.out rfl
        have l2 : U4.cell? ⟨N_l, 2, none⟩ = some (.int .i64 L.pr) := cell_blk (i := 2) B_l.out rfl
        have l3 : U4.cell? ⟨N_l, 3, none⟩ = some (.int .i64 L.to) := cell_blk (i := 3) B_l.out rfl
        have l4 : U4.cell? ⟨N_l, 4, none⟩ = some (.slice L.A1 n1 L.c1) := cell_blk (i := 4) B_l.out rfl
        have l5 : U4.cell? ⟨N_l, 5, none⟩ = some (.slice L.A2 n2 L.c2) := cell_blk (i := 5) B_l.out rfl
        have l6 : U4.cell? ⟨N_l, 6, none⟩ = some (.slice L.A3 n3 L.c3) := cell_blk (i := 6) B_l.out rfl
        have l7 : U4.cell? ⟨N_l, 7, none⟩ = some (.slice L.A4 n4 L.c4) := cell_blk (i := 7) B_l.out rfl
        have l8 : U4.cell? ⟨N_l, 8, none⟩ = some (.slice L.A5 n5 L.c5) := cell_blk (i := 8) B_l.out rfl
        have l_l_0 : N_l < U4.heap.size + 1 := by omega
        have l_l_1 : N_l < U4.heap.size + 1 + 1 := by omega
        have j0 : U4.cell? ⟨N_j, 0, none⟩ = some (.int .i64 j.id) := cell_blk (i := 0) B_j.out rfl
        have j1 : U4.cell? ⟨N_j, 1, none⟩ = some (.int .i64 j.q) := cell_blk (i := 1) B_j.out rfl
        have j2 : U4.cell? ⟨N_j, 2, none⟩ = some (.int .i64 j.p) := cell_blk (i := 2) B_j.out rfl
        have j3 : U4.cell? ⟨N_j, 3, none⟩ = some (.int .i64 j.r) := cell_blk (i := 3) B_j.out rfl
        have j4 : U4.cell? ⟨N_j, 4, none⟩ = some (.int .i64 j.g) := cell_blk (i := 4) B_j.out rfl
        have j5 : U4.cell? ⟨N_j, 5, none⟩ = some (.int .i64 j.c) := cell_blk (i := 5) B_j.out rfl
        have j6 : U4.cell? ⟨N_j, 6, none⟩ = some (.int .i64 j.mn) := cell_blk (i := 6) B_j.out rfl
        have j7 : U4.cell? ⟨N_j, 7, none⟩ = some (.int .i64 j.mx) := cell_blk (i := 7) B_j.out rfl
        have l_j_0 : N_j < U4.heap.size + 1 := by omega
        have l_j_1 : N_j < U4.heap.size + 1 + 1 := by omega
        have x0 : U4.cell? ⟨N_x, 0, none⟩ = some (.int .i64 X.q) := cell_blk (i := 0) B_x.out rfl
        have x1 : U4.cell? ⟨N_x, 1, none⟩ = some (.int .i64 X.n) := cell_blk (i := 1) B_x.out rfl
        have x2 : U4.cell? ⟨N_x, 2, none⟩ = some (.int .i64 X.S.g) := cell_blk (i := 2) B_x.out rfl
        have x3 : U4.cell? ⟨N_x, 3, none⟩ = some (.int .i64 X.S.c) := cell_blk (i := 3) B_x.out rfl
        have x4 : U4.cell? ⟨N_x, 4, none⟩ = some (.int .i64 X.S.mn) := cell_blk (i := 4) B_x.out rfl
        have x5 : U4.cell? ⟨N_x, 5, none⟩ = some (.int .i64 X.S.mx) := cell_blk (i := 5) B_x.out rfl
        have l_x_0 : N_x < U4.heap.size + 1 := by omega
        have l_x_1 : N_x < U4.heap.size + 1 + 1 := by omega
        go_wp2_with fail
        clear l0 l1 l2 l3 l4 l5 l6 l7 l8 l_l_0 l_l_1 j0 j1 j2 j3 j4 j5 j6 j7 l_j_0 l_j_1 x0 x1 x2 x3 x4 x5 l_x_0 l_x_1
        obtain ⟨V5, hV5⟩ : ∃ W, W = (U4.alloc (.cells #[.int .i64 U.g, .int .i64 U.c] 40)).alloc (.cells #[.int .i64 j.id, .int .i64 j.q, .int .i64 un, .bool false, .slice A k c] 55) := ⟨_, rfl⟩
        rw [← hV5]
        have hzV5 : V5.heap.size = U4.heap.size + 1 + 1 := by rw [hV5]; simp
        replace HBel : Hid (Below w.heap.size w V5) := Lib.hid (by rw [hV5]; exact ((HBel.out.alloc (hlow) _).alloc (by simp <;> omega) _))
        replace B_l : Hid (V5.heap[N_l]? = some (.cells #[.int .i64 L.now, .int .i64 L.hd, .int .i64 L.pr, .int .i64 L.to, .slice L.A1 n1 L.c1, .slice L.A2 n2 L.c2, .slice L.A3 n3 L.c3, .slice L.A4 n4 L.c4, .slice L.A5 n5 L.c5] 28 (0, 0))) := Lib.hid (by rw [hV5]; exact ((Below.heap_alloc _ _ _ (by first | omega | (simp <;> omega))).trans ((Below.heap_alloc _ _ _ (by first | omega | (simp <;> omega))).trans B_l.out)))
        replace B_j : Hid (V5.heap[N_j]? = some (.cells #[.int .i64 j.id, .int .i64 j.q, .int .i64 j.p, .int .i64 j.r, .int .i64 j.g, .int .i64 j.c, .int .i64 j.mn, .int .i64 j.mx] 32 (0, 0))) := Lib.hid (by rw [hV5]; exact ((Below.heap_alloc _ _ _ (by first | omega | (simp <;> omega))).trans ((Below.heap_alloc _ _ _ (by first | omega | (simp <;> omega))).trans B_j.out)))
        replace B_x : Hid (V5.heap[N_x]? = some (.cells #[.int .i64 X.q, .int .i64 X.n, .int .i64 X.S.g, .int .i64 X.S.c, .int .i64 X.S.mn, .int .i64 X.S.mx] 85 (0, 0))) := Lib.hid (by rw [hV5]; exact ((Below.heap_alloc _ _ _ (by first | omega | (simp <;> omega))).trans ((Below.heap_alloc _ _ _ (by first | omega | (simp <;> omega))).trans B_x.out)))
        have B_u : Hid (V5.heap[U4.heap.size]? = some (.cells #[.int .i64 U.g, .int .i64 U.c] 40 (0, 0))) := Lib.hid (by
          have h9 := heap_alloc_new (U4) (.cells #[.int .i64 U.g, .int .i64 U.c] 40)
          rw [hV5]; exact ((Below.heap_alloc _ _ _ (by simp <;> omega)).trans h9))
        have B_h : Hid (V5.heap[U4.heap.size + 1]? = some (.cells #[.int .i64 j.id, .int .i64 j.q, .int .i64 un, .bool false, .slice A k c] 55 (0, 0))) := Lib.hid (by
          have h9 := heap_alloc_new (U4.alloc (.cells #[.int .i64 U.g, .int .i64 U.c] 40)) (.cells #[.int .i64 j.id, .int .i64 j.q, .int .i64 un, .bool false, .slice A k c] 55)
          rw [World.size_alloc] at h9
          rw [hV5]; exact h9)
        obtain ⟨N_u, hN_u⟩ : ∃ N, N = U4.heap.size := ⟨_, rfl⟩
        obtain ⟨N_h, hN_h⟩ : ∃ N, N = U4.heap.size + 1 := ⟨_, rfl⟩
        (try rw [← hN_h])
        rw [← hN_h] at B_h
        (try rw [← hN_u])
        rw [← hN_u] at B_u
        have d_l_u : N_l < N_u := by omega
        have d_j_u : N_j < N_u := by omega
        have d_x_u : N_x < N_u := by omega
        have d_l_h : N_l < N_h := by omega
        have d_j_h : N_j < N_h := by omega
        have d_x_h : N_x < N_h := by omega
        replace l_l : N_l < V5.heap.size := by omega
        replace l_j : N_j < V5.heap.size := by omega
        replace l_x : N_x < V5.heap.size := by omega
        have l_u : N_u < V5.heap.size := by omega
        have l_h : N_h < V5.heap.size := by omega
        have g_u : w.heap.size ≤ N_u := by omega
        have g_h : w.heap.size ≤ N_h := by omega
        have d_u_h : N_u < N_h := by omega
        replace hlow : w.heap.size ≤ V5.heap.size := by omega
        clear hV5 hzV5 hN_u hN_h
        refine (hS.out X HX.out U HQ.out V5 HBel.out).mono ?_
        rintro e U6 ⟨T, E, rfl, ha, hb9⟩
        have hs9 := hb9.size
        have HA := Lib.hid ha
        clear ha
        replace HBel := Lib.hid (HBel.out.trans (hb9.mono hlow))
        replace B_l : Hid (U6.heap[N_l]? = some (.cells #[.int .i64 L.now, .int .i64 L.hd, .int .i64 L.pr, .int .i64 L.to, .slice L.A1 n1 L.c1, .slice L.A2 n2 L.c2, .slice L.A3 n3 L.c3, .slice L.A4 n4 L.c4, .slice L.A5 n5 L.c5] 28 (0, 0))) := Lib.hid ((hb9.block _ l_l).trans B_l.out)
        replace B_j : Hid (U6.heap[N_j]? = some (.cells #[.int .i64 j.id, .int .i64 j.q, .int .i64 j.p, .int .i64 j.r, .int .i64 j.g, .int .i64 j.c, .int .i64 j.mn, .int .i64 j.mx] 32 (0, 0))) := Lib.hid ((hb9.block _ l_j).trans B_j.out)
        replace B_x : Hid (U6.heap[N_x]? = some (.cells #[.int .i64 X.q, .int .i64 X.n, .int .i64 X.S.g, .int .i64 X.S.c, .int .i64 X.S.mn, .int .i64 X.S.mx] 85 (0, 0))) := Lib.hid ((hb9.block _ l_x).trans B_x.out)
        replace B_u : Hid (U6.heap[N_u]? = some (.cells #[.int .i64 U.g, .int .i64 U.c] 40 (0, 0))) := Lib.hid ((hb9.block _ l_u).trans B_u.out)
        replace B_h : Hid (U6.heap[N_h]? = some (.cells #[.int .i64 j.id, .int .i64 j.q, .int .i64 un, .bool false, .slice A k c] 55 (0, 0))) := Lib.hid ((hb9.block _ l_h).trans B_h.out)
        replace l_l : N_l < U6.heap.size := by omega
        replace l_j : N_j < U6.heap.size := by omega
        replace l_x : N_x < U6.heap.size := by omega
        replace l_u : N_u < U6.heap.size := by omega
        replace l_h : N_h < U6.heap.size := by omega
        replace hlow : w.heap.size ≤ U6.heap.size := by omega
        clear hb9 hs9
        obtain ⟨q, hq⟩ : ∃ q, q = safeB L.now L.pr T E := ⟨_, rfl⟩
        rw [← hq]
        have HQ2 := Lib.hid hq.symm
        clear hq
        cases q
        · go_wp2
          go_ret
          exact ⟨5, rfl, .inr ⟨HI.out, X, HX.out, .inr ⟨U, HQ.out, T, E, HA.out, by rw [HQ2.out]; rfl⟩⟩, by rw [HB0.out]; exact HBel.out⟩
        · go_wp2
          go_ret
          exact ⟨0, rfl, .inr ⟨HI.out, X, HX.out, .inr ⟨U, HQ.out, T, E, HA.out, by rw [HQ2.out]; rfl⟩⟩, by rw [HB0.out]; exact HBel.out⟩
end Go.Proofs.YtppapmacngdefaaDoor
