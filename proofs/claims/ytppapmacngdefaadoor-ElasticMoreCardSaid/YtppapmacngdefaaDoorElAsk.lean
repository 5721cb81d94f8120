/- What a queue has left; so many members placed. -/
import Derived.Test.YtppapmacngdefaaDoorElM
import Derived.Test.YtppapmacngdefaaDoorPackQ
import Derived.Test.YtppapmacngdefaaDoorPackR
set_option linter.unusedVariables false
set_option maxRecDepth 100000
namespace Go.Proofs.YtppapmacngdefaaDoor
open Go.RowKit
open PR
/-- What is told of what is left. -/
def LeftR (o : Option Lu) (e : Ending) : Prop := (o = none ∧ e = .returned (.tuple #[.agg #[.int .i64 0, .int .i64 0], .int .i64 3])) ∨ ∃ U, o = some U ∧ e = .returned (.tuple #[.agg #[.int .i64 U.g, .int .i64 U.c], .int .i64 0])
set_option maxHeartbeats 8000000 in
theorem leftof_any (L : Lk) (q : Int) (w : World) (h : LkIn w w.heap.size L) (hq : (Lit.int .i64 q).wf = true) (hW : LkW L) :
    Calls Tryd.prog 27 #[lkV L, .int .i64 q] w fun e w' => LeftR (leftL L q) e ∧ Below w.heap.size w w' := by
  have hm2 : L.lf.length ≤ maxLen := Nat.le_trans hW.l2 hW.m2
  obtain ⟨n1, hn1⟩ : ∃ n, n = L.lv.length := ⟨_, rfl⟩
  obtain ⟨n2, hn2⟩ : ∃ n, n = L.lf.length := ⟨_, rfl⟩
  obtain ⟨n3, hn3⟩ : ∃ n, n = L.le.length := ⟨_, rfl⟩
  obtain ⟨n4, hn4⟩ : ∃ n, n = L.lw.length := ⟨_, rfl⟩
  obtain ⟨n5, hn5⟩ : ∃ n, n = L.lr.length := ⟨_, rfl⟩
  have hf : Lus w w.heap.size L.A2 L.lf := h.f
  obtain ⟨o, ho⟩ : ∃ o, o = leftL L q := ⟨_, rfl⟩
  rw [← ho]
  unfold leftL at ho
  unfold lkV lkA
  rw [← hn1, ← hn2, ← hn3, ← hn4, ← hn5]
  have HN := Lib.hid hn2
  clear hn1 hn2 hn3 hn4 hn5 h hW
  by_cases h0 : q < 0
  · have t0 : decide (q < 0) = true := decide_eq_true h0
    have E0 := Lib.hid (show LeftR o (.returned (.tuple #[.agg #[.int .i64 0, .int .i64 0], .int .i64 3])) from .inl ⟨by rw [ho, if_neg (by omega)], rfl⟩)
    clear h0 hf hq HN ho
    obtain ⟨B0, hB0⟩ : ∃ B, B = w.heap.size := ⟨_, rfl⟩
    rw [← hB0]
    have HB0 := Lib.hid hB0
    clear hB0
    have HBel := Lib.hid (Below.refl w.heap.size w)
    have hlow : w.heap.size ≤ w.heap.size := Nat.le_refl _
    go_enter Tryd.func27, Tryd.ntmps27
    go_wp2_with fail
    obtain ⟨V1, hV1⟩ : ∃ W, W = (w.alloc (.cells #[.int .i64 L.now, .int .i64 L.hd, .int .i64 L.pr, .int .i64 L.to, .slice L.A1 n1 L.c1, .slice L.A2 n2 L.c2, .slice L.A3 n3 L.c3, .slice L.A4 n4 L.c4, .slice L.A5 n5 L.c5] 28)).alloc (.cells #[.int .i64 0, .int .i64 0] 40) := ⟨_, rfl⟩
    rw [← hV1]
    have hzV1 : V1.heap.size = w.heap.size + 1 + 1 := by rw [hV1]; simp
    replace HBel : Hid (Below w.heap.size w V1) := Lib.hid (by rw [hV1]; exact ((HBel.out.alloc (hlow) _).alloc (by simp <;> omega) _))
    have B_l : Hid (V1.heap[w.heap.size]? = some (.cells #[.int .i64 L.now, .int .i64 L.hd, .int .i64 L.pr, .int .i64 L.to, .slice L.A1 n1 L.c1, .slice L.A2 n2 L.c2, .slice L.A3 n3 L.c3, .slice L.A4 n4 L.c4, .slice L.A5 n5 L.c5] 28 (0, 0))) := Lib.hid (by
      have h9 := heap_alloc_new (w) (.cells #[.int .i64 L.now, .int .i64 L.hd, .int .i64 L.pr, .int .i64 L.to, .slice L.A1 n1 L.c1, .slice L.A2 n2 L.c2, .slice L.A3 n3 L.c3, .slice L.A4 n4 L.c4, .slice L.A5 n5 L.c5] 28)
      rw [hV1]; exact ((Below.heap_alloc _ _ _ (by simp <;> omega)).trans h9))
    have B_u : Hid (V1.heap[w.heap.size + 1]? = some (.cells #[.int .i64 0, .int .i64 0] 40 (0, 0))) := Lib.hid (by
      have h9 := heap_alloc_new (w.alloc (.cells #[.int .i64 L.now, .int .i64 L.hd, .int .i64 L.pr, .int .i64 L.to, .slice L.A1 n1 L.c1, .slice L.A2 n2 L.c2, .slice L.A3 n3 L.c3, .slice L.A4 n4 L.c4, .slice L.A5 n5 L.c5] 28)) (.cells #[.int .i64 0, .int .i64 0] 40)
      rw [World.size_alloc] at h9
      rw [hV1]; exact h9)
    obtain ⟨N_l, hN_l⟩ : ∃ N, N = w.heap.size := ⟨_, rfl⟩
    obtain ⟨N_u, hN_u⟩ : ∃ N, N = w.heap.size + 1 := ⟨_, rfl⟩
    (try rw [← hN_u])
    rw [← hN_u] at B_u
    (try rw [← hN_l])
    rw [← hN_l] at B_l
    have l_l : N_l < V1.heap.size := by omega
    have l_u : N_u < V1.heap.size := by omega
    have g_l : w.heap.size ≤ N_l := by omega
    have g_u : w.heap.size ≤ N_u := by omega
    have d_l_u : N_l < N_u := by omega
    replace hlow : w.heap.size ≤ V1.heap.size := by omega
    clear hV1 hzV1 hN_l hN_u
    have u0 : V1.cell? ⟨N_u, 0, none⟩ = some (.int .i64 0) := cell_blk (i := 0) B_u.out rfl
    have u1 : V1.cell? ⟨N_u, 1, none⟩ = some (.int .i64 0) := cell_blk (i := 1) B_u.out rfl
    have uz0 : V1.frozen? ⟨N_u, 0, none⟩ = false := frozen_blk B_u.out
    have uz1 : V1.frozen? ⟨N_u, 1, none⟩ = false := frozen_blk B_u.out
    go_wp2_with fail
    have u0 : V1.cell? ⟨N_u, 0, none⟩ = some (.int .i64 0) := cell_blk (i := 0) B_u.out rfl
    have u1 : V1.cell? ⟨N_u, 1, none⟩ = some (.int .i64 0) := cell_blk (i := 1) B_u.out rfl
    refine bodyPost_ret (v := .tuple #[.agg #[.int .i64 0, .int .i64 0], .int .i64 3]) (by simp [results, Tryd.results27, go_sem, u0, u1]) rfl ?_
    exact ⟨E0.out, by rw [HB0.out]; exact HBel.out⟩
  · have t0 : decide (q < 0) = false := decide_eq_false h0
    obtain ⟨k, rfl⟩ : ∃ k : Nat, q = k := ⟨q.toNat, by omega⟩
    by_cases h1 : n2 ≤ k
    · have t1 : decide (n2 ≤ k) = true := decide_eq_true h1
      have E0 := Lib.hid (show LeftR o (.returned (.tuple #[.agg #[.int .i64 0, .int .i64 0], .int .i64 3])) from .inl ⟨by rw [ho, if_pos (by omega), List.getElem?_eq_none (by rw [← HN.out]; simpa using h1)], rfl⟩)
      clear h0 h1 hf hq HN ho
      obtain ⟨B0, hB0⟩ : ∃ B, B = w.heap.size := ⟨_, rfl⟩
      rw [← hB0]
      have HB0 := Lib.hid hB0
      clear hB0
      have HBel := Lib.hid (Below.refl w.heap.size w)
      have hlow : w.heap.size ≤ w.heap.size := Nat.le_refl _
      go_enter Tryd.func27, Tryd.ntmps27
      go_wp2_with fail
      obtain ⟨V1, hV1⟩ : ∃ W, W = (w.alloc (.cells #[.int .i64 L.now, .int .i64 L.hd, .int .i64 L.pr, .int .i64 L.to, .slice L.A1 n1 L.c1, .slice L.A2 n2 L.c2, .slice L.A3 n3 L.c3, .slice L.A4 n4 L.c4, .slice L.A5 n5 L.c5] 28)).alloc (.cells #[.int .i64 0, .int .i64 0] 40) := ⟨_, rfl⟩
      rw [← hV1]
      have hzV1 : V1.heap.size = w.heap.size + 1 + 1 := by rw [hV1]; simp
      replace HBel : Hid (Below w.heap.size w V1) := Lib.hid (by rw [hV1]; exact ((HBel.out.alloc (hlow) _).alloc (by simp <;> omega) _))
      have B_l : Hid (V1.heap[w.heap.size]? = some (.cells #[.int .i64 L.now, .int .i64 L.hd, .int .i64 L.pr, .int .i64 L.to, .slice L.A1 n1 L.c1, .slice L.A2 n2 L.c2, .slice L.A3 n3 L.c3, .slice L.A4 n4 L.c4, .slice L.A5 n5 L.c5] 28 (0, 0))) := Lib.hid (by
        have h9 := heap_alloc_new (w) (.cells #[.int .i64 L.now, .int .i64 L.hd, .int .i64 L.pr, .int .i64 L.to, .slice L.A1 n1 L.c1, .slice L.A2 n2 L.c2, .slice L.A3 n3 L.c3, .slice L.A4 n4 L.c4, .slice L.A5 n5 L.c5] 28)
        rw [hV1]; exact ((Below.heap_alloc _ _ _ (by simp <;> omega)).trans h9))
      have B_u : Hid (V1.heap[w.heap.size + 1]? = some (.cells #[.int .i64 0, .int .i64 0] 40 (0, 0))) := Lib.hid (by
        have h9 := heap_alloc_new (w.alloc (.cells #[.int .i64 L.now, .int .i64 L.hd, .int .i64 L.pr, .int .i64 L.to, .slice L.A1 n1 L.c1, .slice L.A2 n2 L.c2, .slice L.A3 n3 L.c3, .slice L.A4 n4 L.c4, .slice L.A5 n5 L.c5] 28)) (.cells #[.int .i64 0, .int .i64 0] 40)
        rw [World.size_alloc] at h9
        rw [hV1]; exact h9)
      obtain ⟨N_l, hN_l⟩ : ∃ N, N = w.heap.size := ⟨_, rfl⟩
      obtain ⟨N_u, hN_u⟩ : ∃ N, N = w.heap.size + 1 := ⟨_, rfl⟩
      (try rw [← hN_u])
      rw [← hN_u] at B_u
      (try rw [← hN_l])
      rw [← hN_l] at B_l
      have l_l : N_l < V1.heap.size := by omega
      have l_u : N_u < V1.heap.size := by omega
      have g_l : w.heap.size ≤ N_l := by omega
      have g_u : w.heap.size ≤ N_u := by omega
      have d_l_u : N_l < N_u := by omega
      replace hlow : w.heap.size ≤ V1.heap.size := by omega
      clear hV1 hzV1 hN_l hN_u
      have l0 : V1.cell? ⟨N_l, 0, none⟩ = some (.int .i64 L.now) := cell_blk (i := 0) B_l.out rfl
      have l1 : V1.cell? ⟨N_l, 1, none⟩ = some (.int .i64 L.hd) := cell_blk (i := 1) B_l.out rfl
      have l2 : V1.cell? ⟨N_l, 2, none⟩ = some (.int .i64 L.pr) := cell_blk (i := 2) B_l.out rfl
      have l3 : V1.cell? ⟨N_l, 3, none⟩ = some (.int .i64 L.to) := cell_blk (i := 3) B_l.out rfl
      have l4 : V1.cell? ⟨N_l, 4, none⟩ = some (.slice L.A1 n1 L.c1) := cell_blk (i := 4) B_l.out rfl
      have l5 : V1.cell? ⟨N_l, 5, none⟩ = some (.slice L.A2 n2 L.c2) := cell_blk (i := 5) B_l.out rfl
      have l6 : V1.cell? ⟨N_l, 6, none⟩ = some (.slice L.A3 n3 L.c3) := cell_blk (i := 6) B_l.out rfl
      have l7 : V1.cell? ⟨N_l, 7, none⟩ = some (.slice L.A4 n4 L.c4) := cell_blk (i := 7) B_l.out rfl
      have l8 : V1.cell? ⟨N_l, 8, none⟩ = some (.slice L.A5 n5 L.c5) := cell_blk (i := 8) B_l.out rfl
      have u0 : V1.cell? ⟨N_u, 0, none⟩ = some (.int .i64 0) := cell_blk (i := 0) B_u.out rfl
      have u1 : V1.cell? ⟨N_u, 1, none⟩ = some (.int .i64 0) := cell_blk (i := 1) B_u.out rfl
      have uz0 : V1.frozen? ⟨N_u, 0, none⟩ = false := frozen_blk B_u.out
      have uz1 : V1.frozen? ⟨N_u, 1, none⟩ = false := frozen_blk B_u.out
      go_wp2_with fail
      have u0 : V1.cell? ⟨N_u, 0, none⟩ = some (.int .i64 0) := cell_blk (i := 0) B_u.out rfl
      have u1 : V1.cell? ⟨N_u, 1, none⟩ = some (.int .i64 0) := cell_blk (i := 1) B_u.out rfl
      refine bodyPost_ret (v := .tuple #[.agg #[.int .i64 0, .int .i64 0], .int .i64 3]) (by simp [results, Tryd.results27, go_sem, u0, u1]) rfl ?_
      exact ⟨E0.out, by rw [HB0.out]; exact HBel.out⟩
    · have t1 : decide (n2 ≤ k) = false := decide_eq_false h1
      obtain ⟨U, hU⟩ : ∃ U, L.lf[k]? = some U := ⟨_, List.getElem?_eq_getElem (by rw [← HN.out]; omega)⟩
      have E0 := Lib.hid (show LeftR o (.returned (.tuple #[.agg #[.int .i64 U.g, .int .i64 U.c], .int .i64 0])) from .inr ⟨U, by rw [ho, if_pos (by omega)]; simpa using hU, rfl⟩)
      obtain ⟨b, off, hA, hb, hc⟩ := hf.at_ hU
      have HC := Lib.hid (hc k _ hU)
      have hkn : k < n2 := by omega
      rw [hA]
      clear h0 hf hq HN hc hA hU ho
      obtain ⟨B0, hB0⟩ : ∃ B, B = w.heap.size := ⟨_, rfl⟩
      rw [← hB0]
      have HB0 := Lib.hid hB0
      clear hB0
      have HBel := Lib.hid (Below.refl w.heap.size w)
      have hlow : w.heap.size ≤ w.heap.size := Nat.le_refl _
      go_enter Tryd.func27, Tryd.ntmps27
      go_wp2_with (refine wpList_load_lu rfl _ rfl b (off + k * 2) U rfl (HC.out.keep hb (((Below.refl w.heap.size w).alloc (Nat.le_refl _) _).alloc (by simp <;> omega) _)) ?_)
      obtain ⟨V1, hV1⟩ : ∃ W, W = (w.alloc (.cells #[.int .i64 L.now, .int .i64 L.hd, .int .i64 L.pr, .int .i64 L.to, .slice L.A1 n1 L.c1, .slice (some ⟨b, off, none⟩) n2 L.c2, .slice L.A3 n3 L.c3, .slice L.A4 n4 L.c4, .slice L.A5 n5 L.c5] 28)).alloc (.cells #[.int .i64 U.g, .int .i64 U.c] 40) := ⟨_, rfl⟩
      rw [← hV1]
      have hzV1 : V1.heap.size = w.heap.size + 1 + 1 := by rw [hV1]; simp
      replace HBel : Hid (Below w.heap.size w V1) := Lib.hid (by rw [hV1]; exact ((HBel.out.alloc (hlow) _).alloc (by simp <;> omega) _))
      have B_l : Hid (V1.heap[w.heap.size]? = some (.cells #[.int .i64 L.now, .int .i64 L.hd, .int .i64 L.pr, .int .i64 L.to, .slice L.A1 n1 L.c1, .slice (some ⟨b, off, none⟩) n2 L.c2, .slice L.A3 n3 L.c3, .slice L.A4 n4 L.c4, .slice L.A5 n5 L.c5] 28 (0, 0))) := Lib.hid (by
        have h9 := heap_alloc_new (w) (.cells #[.int .i64 L.now, .int .i64 L.hd, .int .i64 L.pr, .int .i64 L.to, .slice L.A1 n1 L.c1, .slice (some ⟨b, off, none⟩) n2 L.c2, .slice L.A3 n3 L.c3, .slice L.A4 n4 L.c4, .slice L.A5 n5 L.c5] 28)
        rw [hV1]; exact ((Below.heap_alloc _ _ _ (by simp <;> omega)).trans h9))
      have B_u : Hid (V1.heap[w.heap.size + 1]? = some (.cells #[.int .i64 U.g, .int .i64 U.c] 40 (0, 0))) := Lib.hid (by
        have h9 := heap_alloc_new (w.alloc (.cells #[.int .i64 L.now, .int .i64 L.hd, .int .i64 L.pr, .int .i64 L.to, .slice L.A1 n1 L.c1, .slice (some ⟨b, off, none⟩) n2 L.c2, .slice L.A3 n3 L.c3, .slice L.A4 n4 L.c4, .slice L.A5 n5 L.c5] 28)) (.cells #[.int .i64 U.g, .int .i64 U.c] 40)
        rw [World.size_alloc] at h9
        rw [hV1]; exact h9)
      obtain ⟨N_l, hN_l⟩ : ∃ N, N = w.heap.size := ⟨_, rfl⟩
      obtain ⟨N_u, hN_u⟩ : ∃ N, N = w.heap.size + 1 := ⟨_, rfl⟩
      (try rw [← hN_u])
      rw [← hN_u] at B_u
      (try rw [← hN_l])
      rw [← hN_l] at B_l
      have l_l : N_l < V1.heap.size := by omega
      have l_u : N_u < V1.heap.size := by omega
      have g_l : w.heap.size ≤ N_l := by omega
      have g_u : w.heap.size ≤ N_u := by omega
      have d_l_u : N_l < N_u := by omega
      replace hlow : w.heap.size ≤ V1.heap.size := by omega
      clear hV1 hzV1 hN_l hN_u
      have u0 : V1.cell? ⟨N_u, 0, none⟩ = some (.int .i64 U.g) := cell_blk (i := 0) B_u.out rfl
      have u1 : V1.cell? ⟨N_u, 1, none⟩ = some (.int .i64 U.c) := cell_blk (i := 1) B_u.out rfl
      refine bodyPost_ret (v := .tuple #[.agg #[.int .i64 U.g, .int .i64 U.c], .int .i64 0]) (by simp [results, Tryd.results27, go_sem, u0, u1]) rfl ?_
      exact ⟨E0.out, by rw [HB0.out]; exact HBel.out⟩
/-- A job's shape. -/
def Jb.S (j : Jb) : Shp := ⟨j.g, j.c, j.mn, j.mx⟩
theorem JbW.S {j : Jb} (h : JbW j) : j.S.Wf := ⟨h.g, h.c, h.mn, h.mx⟩
/-- What is told of what is left for a job. -/
def ForR (L : Lk) (j : Jb) (e : Ending) : Prop := (j.S.ok = false ∧ e = .returned (.tuple #[.agg #[.int .i64 0, .int .i64 0], .int .i64 1])) ∨ (j.S.ok = true ∧ LeftR (leftL L j.q) e)
set_option maxHeartbeats 8000000 in
theorem leftfor_any (L : Lk) (j : Jb) (w : World) (h : LkIn w w.heap.size L) (hj : JbW j) (hW : LkW L) :
    Calls Tryd.prog 14 #[lkV L, jbV j] w fun e w' => ForR L j e ∧ Below w.heap.size w w' := by
  obtain ⟨n1, hn1⟩ : ∃ n, n = L.lv.length := ⟨_, rfl⟩
  obtain ⟨n2, hn2⟩ : ∃ n, n = L.lf.length := ⟨_, rfl⟩
  obtain ⟨n3, hn3⟩ : ∃ n, n = L.le.length := ⟨_, rfl⟩
  obtain ⟨n4, hn4⟩ : ∃ n, n = L.lw.length := ⟨_, rfl⟩
  obtain ⟨n5, hn5⟩ : ∃ n, n = L.lr.length := ⟨_, rfl⟩
  have hC := Lib.hid (fun W => show Calls Tryd.prog 26 #[.agg #[.int .i64 j.g, .int .i64 j.c, .int .i64 j.mn, .int .i64 j.mx]] W (fun e w' => e = .returned (.int .i64 (if j.S.ok then 0 else 1)) ∧ Below W.heap.size W w') from chk_any j.S W hj.S)
  have hL := Lib.hid (fun W (hk : Below w.heap.size w W) => show Calls Tryd.prog 27 #[.agg #[.int .i64 L.now, .int .i64 L.hd, .int .i64 L.pr, .int .i64 L.to, .slice L.A1 n1 L.c1, .slice L.A2 n2 L.c2, .slice L.A3 n3 L.c3, .slice L.A4 n4 L.c4, .slice L.A5 n5 L.c5], .int .i64 j.q] W (fun e w' => LeftR (leftL L j.q) e ∧ Below W.heap.size W w') from by
    have h9 := leftof_any L j.q W (h.keep hk hk.size) hj.q hW
    unfold lkV lkA at h9
    rw [← hn1, ← hn2, ← hn3, ← hn4, ← hn5] at h9
    exact h9)
  unfold ForR lkV lkA jbV jbA
  rw [← hn1, ← hn2, ← hn3, ← hn4, ← hn5]
  clear hn1 hn2 hn3 hn4 hn5 h hW hj
  obtain ⟨B0, hB0⟩ : ∃ B, B = w.heap.size := ⟨_, rfl⟩
  rw [← hB0]
  have HB0 := Lib.hid hB0
  clear hB0
  have HBel := Lib.hid (Below.refl w.heap.size w)
  have hlow : w.heap.size ≤ w.heap.size := Nat.le_refl _
  go_enter Tryd.func14, Tryd.ntmps14
  go_wp2_with fail
  obtain ⟨V1, hV1⟩ : ∃ W, W = ((w.alloc (.cells #[.int .i64 L.now, .int .i64 L.hd, .int .i64 L.pr, .int .i64 L.to, .slice L.A1 n1 L.c1, .slice L.A2 n2 L.c2, .slice L.A3 n3 L.c3, .slice L.A4 n4 L.c4, .slice L.A5 n5 L.c5] 28)).alloc (.cells #[.int .i64 j.id, .int .i64 j.q, .int .i64 j.p, .int .i64 j.r, .int .i64 j.g, .int .i64 j.c, .int .i64 j.mn, .int .i64 j.mx] 32)).alloc (.cells #[.int .i64 0, .int .i64 0] 40) := ⟨_, rfl⟩
  rw [← hV1]
  have hzV1 : V1.heap.size = w.heap.size + 1 + 1 + 1 := by rw [hV1]; simp
  replace HBel : Hid (Below w.heap.size w V1) := Lib.hid (by rw [hV1]; exact (((HBel.out.alloc (hlow) _).alloc (by simp <;> omega) _).alloc (by simp <;> omega) _))
  have B_l : Hid (V1.heap[w.heap.size]? = some (.cells #[.int .i64 L.now, .int .i64 L.hd, .int .i64 L.pr, .int .i64 L.to, .slice L.A1 n1 L.c1, .slice L.A2 n2 L.c2, .slice L.A3 n3 L.c3, .slice L.A4 n4 L.c4, .slice L.A5 n5 L.c5] 28 (0, 0))) := Lib.hid (by
    have h9 := heap_alloc_new (w) (.cells #[.int .i64 L.now, .int .i64 L.hd, .int .i64 L.pr, .int .i64 L.to, .slice L.A1 n1 L.c1, .slice L.A2 n2 L.c2, .slice L.A3 n3 L.c3, .slice L.A4 n4 L.c4, .slice L.A5 n5 L.c5] 28)
    rw [hV1]; exact ((Below.heap_alloc _ _ _ (by simp <;> omega)).trans ((Below.heap_alloc _ _ _ (by simp <;> omega)).trans h9)))
  have B_j : Hid (V1.heap[w.heap.size + 1]? = some (.cells #[.int .i64 j.id, .int .i64 j.q, .int .i64 j.p, .int .i64 j.r, .int .i64 j.g, .int .i64 j.c, .int .i64 j.mn, .int .i64 j.mx] 32 (0, 0))) := Lib.hid (by
    have h9 := heap_alloc_new (w.alloc (.cells #[.int .i64 L.now, .int .i64 L.hd, .int .i64 L.pr, .int .i64 L.to, .slice L.A1 n1 L.c1, .slice L.A2 n2 L.c2, .slice L.A3 n3 L.c3, .slice L.A4 n4 L.c4, .slice L.A5 n5 L.c5] 28)) (.cells #[.int .i64 j.id, .int .i64 j.q, .int .i64 j.p, .int .i64 j.r, .int .i64 j.g, .int .i64 j.c, .int .i64 j.mn, .int .i64 j.mx] 32)
    rw [World.size_alloc] at h9
    rw [hV1]; exact ((Below.heap_alloc _ _ _ (by simp <;> omega)).trans h9))
  have B_u : Hid (V1.heap[w.heap.size + 1 + 1]? = some (.cells #[.int .i64 0, .int .i64 0] 40 (0, 0))) := Lib.hid (by
    have h9 := heap_alloc_new ((w.alloc (.cells #[.int .i64 L.now, .int .i64 L.hd, .int .i64 L.pr, .int .i64 L.to, .slice L.A1 n1 L.c1, .slice L.A2 n2 L.c2, .slice L.A3 n3 L.c3, .slice L.A4 n4 L.c4, .slice L.A5 n5 L.c5] 28)).alloc (.cells #[.int .i64 j.id, .int .i64 j.q, .int .i64 j.p, .int .i64 j.r, .int .i64 j.g, .int .i64 j.c, .int .i64 j.mn, .int .i64 j.mx] 32)) (.cells #[.int .i64 0, .int .i64 0] 40)
    rw [World.size_alloc, World.size_alloc] at h9
    rw [hV1]; exact h9)
  obtain ⟨N_l, hN_l⟩ : ∃ N, N = w.heap.size := ⟨_, rfl⟩
  obtain ⟨N_j, hN_j⟩ : ∃ N, N = w.heap.size + 1 := ⟨_, rfl⟩
  obtain ⟨N_u, hN_u⟩ : ∃ N, N = w.heap.size + 1 + 1 := ⟨_, rfl⟩
  (try rw [← hN_u])
  rw [← hN_u] at B_u
  (try rw [← hN_j])
  rw [← hN_j] at B_j
  (try rw [← hN_l])
  rw [← hN_l] at B_l
  have l_l : N_l < V1.heap.size := by omega
  have l_j : N_j < V1.heap.size := by omega
  have l_u : N_u < V1.heap.size := by omega
  have g_l : w.heap.size ≤ N_l := by omega
  have g_j : w.heap.size ≤ N_j := by omega
  have g_u : w.heap.size ≤ N_u := by omega
  have d_l_j : N_l < N_j := by omega
  have d_j_u : N_j < N_u := by omega
  replace hlow : w.heap.size ≤ V1.heap.size := by omega
  clear hV1 hzV1 hN_l hN_j hN_u
  have j0 : V1.cell? ⟨N_j, 0, none⟩ = some (.int .i64 j.id) := cell_blk (i := 0) B_j.out rfl
  have j1 : V1.cell? ⟨N_j, 1, none⟩ = some (.int .i64 j.q) := cell_blk (i := 1) B_j.out rfl
  have j2 : V1.cell? ⟨N_j, 2, none⟩ = some (.int .i64 j.p) := cell_blk (i := 2) B_j.out rfl
  have j3 : V1.cell? ⟨N_j, 3, none⟩ = some (.int .i64 j.r) := cell_blk (i := 3) B_j.out rfl
  have j4 : V1.cell? ⟨N_j, 4, none⟩ = some (.int .i64 j.g) := cell_blk (i := 4) B_j.out rfl
  have j5 : V1.cell? ⟨N_j, 5, none⟩ = some (.int .i64 j.c) := cell_blk (i := 5) B_j.out rfl
  have j6 : V1.cell? ⟨N_j, 6, none⟩ = some (.int .i64 j.mn) := cell_blk (i := 6) B_j.out rfl
  have j7 : V1.cell? ⟨N_j, 7, none⟩ = some (.int .i64 j.mx) := cell_blk (i := 7) B_j.out rfl
  go_wp2_with fail
  refine (hC.out V1).mono ?_
  rintro e U2 ⟨rfl, hb9⟩
  clear j0 j1 j2 j3 j4 j5 j6 j7
  have hs9 := hb9.size
  replace HBel := Lib.hid (HBel.out.trans (hb9.mono hlow))
  replace B_l : Hid (U2.heap[N_l]? = some (.cells #[.int .i64 L.now, .int .i64 L.hd, .int .i64 L.pr, .int .i64 L.to, .slice L.A1 n1 L.c1, .slice L.A2 n2 L.c2, .slice L.A3 n3 L.c3, .slice L.A4 n4 L.c4, .slice L.A5 n5 L.c5] 28 (0, 0))) := Lib.hid ((hb9.block _ l_l).trans B_l.out)
  replace B_j : Hid (U2.heap[N_j]? = some (.cells #[.int .i64 j.id, .int .i64 j.q, .int .i64 j.p, .int .i64 j.r, .int .i64 j.g, .int .i64 j.c, .int .i64 j.mn, .int .i64 j.mx] 32 (0, 0))) := Lib.hid ((hb9.block _ l_j).trans B_j.out)
  replace B_u : Hid (U2.heap[N_u]? = some (.cells #[.int .i64 0, .int .i64 0] 40 (0, 0))) := Lib.hid ((hb9.block _ l_u).trans B_u.out)
  replace l_l : N_l < U2.heap.size := by omega
  replace l_j : N_j < U2.heap.size := by omega
  replace l_u : N_u < U2.heap.size := by omega
  replace hlow : w.heap.size ≤ U2.heap.size := by omega
  clear hb9 hs9
  cases hok : j.S.ok
  · have HO := Lib.hid hok
    clear hok
    have u0 : U2.cell? ⟨N_u, 0, none⟩ = some (.int .i64 0) := cell_blk (i := 0) B_u.out rfl
    have u1 : U2.cell? ⟨N_u, 1, none⟩ = some (.int .i64 0) := cell_blk (i := 1) B_u.out rfl
    have uz0 : U2.frozen? ⟨N_u, 0, none⟩ = false := frozen_blk B_u.out
    have uz1 : U2.frozen? ⟨N_u, 1, none⟩ = false := frozen_blk B_u.out
    go_wp2_with fail
    clear u0 u1 uz0 uz1
    obtain ⟨S3, hS3⟩ : ∃ W, W = ((U2).setCell ⟨N_u, 0, none⟩ (.int .i64 0)).setCell ⟨N_u, 1, none⟩ (.int .i64 0) := ⟨_, rfl⟩
    rw [← hS3]
    have hzS3 : S3.heap.size = U2.heap.size := by rw [hS3]; simp
    replace HBel : Hid (Below w.heap.size w S3) := Lib.hid (by rw [hS3]; exact ((HBel.out.setCell (g_u) _).setCell (g_u) _))
    replace B_l : Hid (S3.heap[N_l]? = some (.cells #[.int .i64 L.now, .int .i64 L.hd, .int .i64 L.pr, .int .i64 L.to, .slice L.A1 n1 L.c1, .slice L.A2 n2 L.c2, .slice L.A3 n3 L.c3, .slice L.A4 n4 L.c4, .slice L.A5 n5 L.c5] 28 (0, 0))) := Lib.hid (by rw [hS3]; exact ((Below.heap_setCell _ _ _ _ (show N_l ≠ N_u by omega)).trans ((Below.heap_setCell _ _ _ _ (show N_l ≠ N_u by omega)).trans B_l.out)))
    replace B_j : Hid (S3.heap[N_j]? = some (.cells #[.int .i64 j.id, .int .i64 j.q, .int .i64 j.p, .int .i64 j.r, .int .i64 j.g, .int .i64 j.c, .int .i64 j.mn, .int .i64 j.mx] 32 (0, 0))) := Lib.hid (by rw [hS3]; exact ((Below.heap_setCell _ _ _ _ (show N_j ≠ N_u by omega)).trans ((Below.heap_setCell _ _ _ _ (show N_j ≠ N_u by omega)).trans B_j.out)))
    replace B_u : Hid (S3.heap[N_u]? = some (.cells #[.int .i64 0, .int .i64 0] 40 (0, 0))) := Lib.hid (by rw [hS3]; exact (blk_put (i := 1) _ (blk_put (i := 0) _ B_u.out)))
    replace l_l : N_l < S3.heap.size := by omega
    replace l_j : N_j < S3.heap.size := by omega
    replace l_u : N_u < S3.heap.size := by omega
    replace hlow : w.heap.size ≤ S3.heap.size := by omega
    clear hS3 hzS3
    have u0 : S3.cell? ⟨N_u, 0, none⟩ = some (.int .i64 0) := cell_blk (i := 0) B_u.out rfl
    have u1 : S3.cell? ⟨N_u, 1, none⟩ = some (.int .i64 0) := cell_blk (i := 1) B_u.out rfl
    refine bodyPost_ret (v := .tuple #[.agg #[.int .i64 0, .int .i64 0], .int .i64 1]) (by simp [results, Tryd.results14, go_sem, u0, u1]) rfl ?_
    exact ⟨.inl ⟨HO.out, rfl⟩, by rw [HB0.out]; exact HBel.out⟩
  · have HO := Lib.hid hok
    clear hok
    have l0 : U2.cell? ⟨N_l, 0, none⟩ = some (.int .i64 L.now) := cell_blk (i := 0) B_l.out rfl
    have l1 : U2.cell? ⟨N_l, 1, none⟩ = some (.int .i64 L.hd) := cell_blk (i := 1) B_l.out rfl
    have l2 : U2.cell? ⟨N_l, 2, none⟩ = some (.int .i64 L.pr) := cell_blk (i := 2) B_l.out rfl
    have l3 : U2.cell? ⟨N_l, 3, none⟩ = some (.int .i64 L.to) := cell_blk (i := 3) B_l.out rfl
    have l4 : U2.cell? ⟨N_l, 4, none⟩ = some (.slice L.A1 n1 L.c1) := cell_blk (i := 4) B_l.out rfl
    have l5 : U2.cell? ⟨N_l, 5, none⟩ = some (.slice L.A2 n2 L.c2) := cell_blk (i := 5) B_l.out rfl
    have l6 : U2.cell? ⟨N_l, 6, none⟩ = some (.slice L.A3 n3 L.c3) := cell_blk (i := 6) B_l.out rfl
    have l7 : U2.cell? ⟨N_l, 7, none⟩ = some (.slice L.A4 n4 L.c4) := cell_blk (i := 7) B_l.out rfl
    have l8 : U2.cell? ⟨N_l, 8, none⟩ = some (.slice L.A5 n5 L.c5) := cell_blk (i := 8) B_l.out rfl
    have j0 : U2.cell? ⟨N_j, 0, none⟩ = some (.int .i64 j.id) := cell_blk (i := 0) B_j.out rfl
    have j1 : U2.cell? ⟨N_j, 1, none⟩ = some (.int .i64 j.q) := cell_blk (i := 1) B_j.out rfl
    have j2 : U2.cell? ⟨N_j, 2, none⟩ = some (.int .i64 j.p) := cell_blk (i := 2) B_j.out rfl
    have j3 : U2.cell? ⟨N_j, 3, none⟩ = some (.int .i64 j.r) := cell_blk (i := 3) B_j.out rfl
    have j4 : U2.cell? ⟨N_j, 4, none⟩ = some (.int .i64 j.g) := cell_blk (i := 4) B_j.out rfl
    have j5 : U2.cell? ⟨N_j, 5, none⟩ = some (.int .i64 j.c) := cell_blk (i := 5) B_j.out rfl
    have j6 : U2.cell? ⟨N_j, 6, none⟩ = some (.int .i64 j.mn) := cell_blk (i := 6) B_j.out rfl
    have j7 : U2.cell? ⟨N_j, 7, none⟩ = some (.int .i64 j.mx) := cell_blk (i := 7) B_j.out rfl
    go_wp2_with fail
    refine (hL.out U2 HBel.out).mono ?_
    rintro e U3 ⟨hr, hb9⟩
    clear l0 l1 l2 l3 l4 l5 l6 l7 l8 j0 j1 j2 j3 j4 j5 j6 j7
    have hs9 := hb9.size
    have HR := Lib.hid hr
    replace HBel := Lib.hid (HBel.out.trans (hb9.mono hlow))
    replace B_l : Hid (U3.heap[N_l]? = some (.cells #[.int .i64 L.now, .int .i64 L.hd, .int .i64 L.pr, .int .i64 L.to, .slice L.A1 n1 L.c1, .slice L.A2 n2 L.c2, .slice L.A3 n3 L.c3, .slice L.A4 n4 L.c4, .slice L.A5 n5 L.c5] 28 (0, 0))) := Lib.hid ((hb9.block _ l_l).trans B_l.out)
    replace B_j : Hid (U3.heap[N_j]? = some (.cells #[.int .i64 j.id, .int .i64 j.q, .int .i64 j.p, .int .i64 j.r, .int .i64 j.g, .int .i64 j.c, .int .i64 j.mn, .int .i64 j.mx] 32 (0, 0))) := Lib.hid ((hb9.block _ l_j).trans B_j.out)
    replace B_u : Hid (U3.heap[N_u]? = some (.cells #[.int .i64 0, .int .i64 0] 40 (0, 0))) := Lib.hid ((hb9.block _ l_u).trans B_u.out)
    replace l_l : N_l < U3.heap.size := by omega
    replace l_j : N_j < U3.heap.size := by omega
    replace l_u : N_u < U3.heap.size := by omega
    replace hlow : w.heap.size ≤ U3.heap.size := by omega
    clear hb9 hs9
    rcases hr with ⟨_, rfl⟩ | ⟨U, _, rfl⟩
    · have u0 : U3.cell? ⟨N_u, 0, none⟩ = some (.int .i64 0) := cell_blk (i := 0) B_u.out rfl
      have u1 : U3.cell? ⟨N_u, 1, none⟩ = some (.int .i64 0) := cell_blk (i := 1) B_u.out rfl
      have uz0 : U3.frozen? ⟨N_u, 0, none⟩ = false := frozen_blk B_u.out
      have uz1 : U3.frozen? ⟨N_u, 1, none⟩ = false := frozen_blk B_u.out
      go_wp2_with fail
      clear u0 u1 uz0 uz1
      obtain ⟨S4, hS4⟩ : ∃ W, W = ((U3).setCell ⟨N_u, 0, none⟩ (.int .i64 0)).setCell ⟨N_u, 1, none⟩ (.int .i64 0) := ⟨_, rfl⟩
      rw [← hS4]
      have hzS4 : S4.heap.size = U3.heap.size := by rw [hS4]; simp
      replace HBel : Hid (Below w.heap.size w S4) := Lib.hid (by rw [hS4]; exact ((HBel.out.setCell (g_u) _).setCell (g_u) _))
      replace B_l : Hid (S4.heap[N_l]? = some (.cells #[.int .i64 L.now, .int .i64 L.hd, .int .i64 L.pr, .int .i64 L.to, .slice L.A1 n1 L.c1, .slice L.A2 n2 L.c2, .slice L.A3 n3 L.c3, .slice L.A4 n4 L.c4, .slice L.A5 n5 L.c5] 28 (0, 0))) := Lib.hid (by rw [hS4]; exact ((Below.heap_setCell _ _ _ _ (show N_l ≠ N_u by omega)).trans ((Below.heap_setCell _ _ _ _ (show N_l ≠ N_u by omega)).trans B_l.out)))
      replace B_j : Hid (S4.heap[N_j]? = some (.cells #[.int .i64 j.id, .int .i64 j.q, .int .i64 j.p, .int .i64 j.r, .int .i64 j.g, .int .i64 j.c, .int .i64 j.mn, .int .i64 j.mx] 32 (0, 0))) := Lib.hid (by rw [hS4]; exact ((Below.heap_setCell _ _ _ _ (show N_j ≠ N_u by omega)).trans ((Below.heap_setCell _ _ _ _ (show N_j ≠ N_u by omega)).trans B_j.out)))
      replace B_u : Hid (S4.heap[N_u]? = some (.cells #[.int .i64 0, .int .i64 0] 40 (0, 0))) := Lib.hid (by rw [hS4]; exact (blk_put (i := 1) _ (blk_put (i := 0) _ B_u.out)))
      replace l_l : N_l < S4.heap.size := by omega
      replace l_j : N_j < S4.heap.size := by omega
      replace l_u : N_u < S4.heap.size := by omega
      replace hlow : w.heap.size ≤ S4.heap.size := by omega
      clear hS4 hzS4
      have u0 : S4.cell? ⟨N_u, 0, none⟩ = some (.int .i64 0) := cell_blk (i := 0) B_u.out rfl
      have u1 : S4.cell? ⟨N_u, 1, none⟩ = some (.int .i64 0) := cell_blk (i := 1) B_u.out rfl
      refine bodyPost_ret (v := .tuple #[.agg #[.int .i64 0, .int .i64 0], .int .i64 3]) (by simp [results, Tryd.results14, go_sem, u0, u1]) rfl ?_
      exact ⟨.inr ⟨HO.out, HR.out⟩, by rw [HB0.out]; exact HBel.out⟩
    · have u0 : U3.cell? ⟨N_u, 0, none⟩ = some (.int .i64 0) := cell_blk (i := 0) B_u.out rfl
      have u1 : U3.cell? ⟨N_u, 1, none⟩ = some (.int .i64 0) := cell_blk (i := 1) B_u.out rfl
      have uz0 : U3.frozen? ⟨N_u, 0, none⟩ = false := frozen_blk B_u.out
      have uz1 : U3.frozen? ⟨N_u, 1, none⟩ = false := frozen_blk B_u.out
      go_wp2_with fail
      clear u0 u1 uz0 uz1
      obtain ⟨S4, hS4⟩ : ∃ W, W = ((U3).setCell ⟨N_u, 0, none⟩ (.int .i64 U.g)).setCell ⟨N_u, 1, none⟩ (.int .i64 U.c) := ⟨_, rfl⟩
      rw [← hS4]
      have hzS4 : S4.heap.size = U3.heap.size := by rw [hS4]; simp
      replace HBel : Hid (Below w.heap.size w S4) := Lib.hid (by rw [hS4]; exact ((HBel.out.setCell (g_u) _).setCell (g_u) _))
      replace B_l : Hid (S4.heap[N_l]? = some (.cells #[.int .i64 L.now, .int .i64 L.hd, .int .i64 L.pr, .int .i64 L.to, .slice L.A1 n1 L.c1, .slice L.A2 n2 L.c2, .slice L.A3 n3 L.c3, .slice L.A4 n4 L.c4, .slice L.A5 n5 L.c5] 28 (0, 0))) := Lib.hid (by rw [hS4]; exact ((Below.heap_setCell _ _ _ _ (show N_l ≠ N_u by omega)).trans ((Below.heap_setCell _ _ _ _ (show N_l ≠ N_u by omega)).trans B_l.out)))
      replace B_j : Hid (S4.heap[N_j]? = some (.cells #[.int .i64 j.id, .int .i64 j.q, .int .i64 j.p, .int .i64 j.r, .int .i64 j.g, .int .i64 j.c, .int .i64 j.mn, .int .i64 j.mx] 32 (0, 0))) := Lib.hid (by rw [hS4]; exact ((Below.heap_setCell _ _ _ _ (show N_j ≠ N_u by omega)).trans ((Below.heap_setCell _ _ _ _ (show N_j ≠ N_u by omega)).trans B_j.out)))
      replace B_u : Hid (S4.heap[N_u]? = some (.cells #[.int .i64 U.g, .int .i64 U.c] 40 (0, 0))) := Lib.hid (by rw [hS4]; exact (blk_put (i := 1) _ (blk_put (i := 0) _ B_u.out)))
      replace l_l : N_l < S4.heap.size := by omega
      replace l_j : N_j < S4.heap.size := by omega
      replace l_u : N_u < S4.heap.size := by omega
      replace hlow : w.heap.size ≤ S4.heap.size := by omega
      clear hS4 hzS4
      have u0 : S4.cell? ⟨N_u, 0, none⟩ = some (.int .i64 U.g) := cell_blk (i := 0) B_u.out rfl
      have u1 : S4.cell? ⟨N_u, 1, none⟩ = some (.int .i64 U.c) := cell_blk (i := 1) B_u.out rfl
      refine bodyPost_ret (v := .tuple #[.agg #[.int .i64 U.g, .int .i64 U.c], .int .i64 0]) (by simp [results, Tryd.results14, go_sem, u0, u1]) rfl ?_
      exact ⟨.inr ⟨HO.out, HR.out⟩, by rw [HB0.out]; exact HBel.out⟩
/-- What is told of slots: an error, and where there is none, slots that lie there. -/
def TryR (R : Nat → Int → Prop) (G : Nat → List Fe) (n : Nat) (w' : World) (e : Ending) : Prop :=
  ∃ A k c r, e = .returned (.tuple #[.slice A k c, .int .i64 r]) ∧ R n r ∧ (r = 0 → k = (G n).length ∧ k ≤ c ∧ c ≤ maxLen ∧ Fes w' w'.heap.size A (G n))
theorem TryR.keep {R : Nat → Int → Prop} {G : Nat → List Fe} {n : Nat} {w w' : World} {e : Ending} (h : TryR R G n w e) (hk : Below w.heap.size w w') : TryR R G n w' e := by
  obtain ⟨A, k, c, r, h1, h2, h3⟩ := h
  exact ⟨A, k, c, r, h1, h2, fun e => by obtain ⟨a, b, d, f⟩ := h3 e; exact ⟨a, b, d, f.keep hk hk.size⟩⟩
/-- Slots are placed, in a row of their own. -/
theorem place_own (A : Option Addr) (cap B : Nat) (l : List Fe) (S : Shp) (p : Nat) (w : World) (h : Fes w B A l) (hB : B ≤ w.heap.size) (hn : l.length ≤ 500000) (hw : S.Wf) (hf : ∀ f ∈ l, FeOk f) (hT : Tab w) (hok : S.ok = true) (h1 : 1 ≤ p) (h16 : p ≤ 16) (hr : p ≤ roomF S l) :
    Calls Tryd.prog 23 #[.slice A l.length cap, shV S, .int .i64 (p : Nat)] w fun e w' => ∃ b off cap', e = .returned (.tuple #[.slice (some ⟨b, off, none⟩) p cap', .int .i64 0]) ∧ p ≤ cap' ∧ cap' ≤ maxLen ∧ Below w.heap.size w w' ∧ Hid (Fes w' w'.heap.size (some ⟨b, off, none⟩) (placeF S l p)) :=
  (place_ok A cap B l S p w h hB hn hw hf hT hok h1 h16 hr).mono (by
    rintro e w' ⟨A', cap', he, hb, hz⟩
    obtain ⟨Z, zp, za, ho⟩ := hz.out
    rw [order_is (fitsL_len S l) zp za] at ho
    have hlen : (placeF S l p).length = p := placeF_len hr
    have hcp : p ≤ cap' ∧ cap' ≤ maxLen := by
      rcases ho.2 with ⟨e1, _⟩ | ⟨b, cap, cu, e1, h5, h6, h7, h8, h9⟩
      · injection e1 with e3 e4 e5; omega
      · injection e1 with e3 e4 e5; omega
    have hfe : Fes w' w'.heap.size A' (placeF S l p) := fe_own (c := cap') (by rw [hlen]; exact ho)
    rcases hfe with h0 | ⟨b, off, rfl, hbl, hx⟩
    · rw [h0] at hlen; simp at hlen; omega
    · exact ⟨b, off, cap', he, hcp.1, hcp.2, hb, Lib.hid (.inr ⟨b, off, rfl, hbl, hx⟩)⟩)
set_option maxHeartbeats 8000000 in
theorem placed_any (A : Option Addr) (cap B : Nat) (l : List Fe) (g c : Int) (S : Shp) (p : Nat) (w : World) (h : Fes w B A l) (hB : B ≤ w.heap.size) (hn : l.length ≤ 500000) (hw : S.Wf) (hf : ∀ f ∈ l, FeOk f) (hT : Tab w) (hok : S.ok = true) (h1 : 1 ≤ p) (h16 : p ≤ 16) :
    Calls Tryd.prog 17 #[.slice A l.length cap, .agg #[.int .i64 g, .int .i64 c], shV S, .int .i64 (p : Nat)] w fun e w' => TryR (fun m r => r = plE S l g c m) (placeF S l) p w' e ∧ Below w.heap.size w w' := by
  obtain ⟨n, hln⟩ : ∃ n, n = l.length := ⟨_, rfl⟩
  obtain ⟨x, hx⟩ : ∃ x : Nat, S.g = x := ⟨S.g.toNat, by unfold Shp.ok at hok; simp at hok; omega⟩
  obtain ⟨y, hy⟩ : ∃ y : Nat, S.c = y := ⟨S.c.toNat, by unfold Shp.ok at hok; simp at hok; omega⟩
  have hU := Lib.hid (fun W => show Calls Tryd.prog 29 #[.agg #[.int .i64 (x : Int), .int .i64 (y : Int), .int .i64 S.mn, .int .i64 S.mx], .int .i64 (p : Int)] W (fun e w' => e = .returned (.tuple #[.agg #[.int .i64 ((x * p : Nat) : Int), .int .i64 ((y * p : Nat) : Int)], .int .i64 0]) ∧ Below W.heap.size W w') from
    units_ok x y S.mn S.mx p W (by rw [← hx, ← hy]; exact hw) (by rw [← hx, ← hy]; exact hok) h16)
  by_cases hr : roomF S l < p
  · have hP := Lib.hid (fun W (hk : Below w.heap.size w W) => show Calls Tryd.prog 23 #[.slice A n cap, .agg #[.int .i64 (x : Int), .int .i64 (y : Int), .int .i64 S.mn, .int .i64 S.mx], .int .i64 (p : Int)] W (fun e w' => e = .returned (.tuple #[.slice none 0 0, .int .i64 7]) ∧ Below W.heap.size W w') from by
      have h9 := place_full A cap W.heap.size l S p W (Fes.keep (Rows.imp h hB fun _ _ _ _ h => h) hk hk.size) (Nat.le_refl _) hn hw hf (hT.below hk hT.size) hok h1 h16 hr
      unfold shV at h9
      rw [← hln, hx, hy] at h9
      exact h9)
    have HE := Lib.hid (show plE S l g c p = 7 from by unfold plE; rw [if_pos hr])
    unfold shV
    rw [← hln, hx, hy]
    clear h hB hn hw hf hT hok h1 h16 hr hx hy hln
    obtain ⟨B0, hB0⟩ : ∃ B, B = w.heap.size := ⟨_, rfl⟩
    rw [← hB0]
    have HB0 := Lib.hid hB0
    clear hB0
    have HBel := Lib.hid (Below.refl w.heap.size w)
    have hlow : w.heap.size ≤ w.heap.size := Nat.le_refl _
    go_enter Tryd.func17, Tryd.ntmps17
    go_wp2_with fail
    obtain ⟨V1, hV1⟩ : ∃ W, W = (w.alloc (.cells #[.int .i64 g, .int .i64 c] 40)).alloc (.cells #[.int .i64 (x : Int), .int .i64 (y : Int), .int .i64 S.mn, .int .i64 S.mx] 30) := ⟨_, rfl⟩
    rw [← hV1]
    have hzV1 : V1.heap.size = w.heap.size + 1 + 1 := by rw [hV1]; simp
    replace HBel : Hid (Below w.heap.size w V1) := Lib.hid (by rw [hV1]; exact ((HBel.out.alloc (hlow) _).alloc (by simp <;> omega) _))
    have B_f : Hid (V1.heap[w.heap.size]? = some (.cells #[.int .i64 g, .int .i64 c] 40 (0, 0))) := Lib.hid (by
      have h9 := heap_alloc_new (w) (.cells #[.int .i64 g, .int .i64 c] 40)
      rw [hV1]; exact ((Below.heap_alloc _ _ _ (by simp <;> omega)).trans h9))
    have B_s : Hid (V1.heap[w.heap.size + 1]? = some (.cells #[.int .i64 (x : Int), .int .i64 (y : Int), .int .i64 S.mn, .int .i64 S.mx] 30 (0, 0))) := Lib.hid (by
      have h9 := heap_alloc_new (w.alloc (.cells #[.int .i64 g, .int .i64 c] 40)) (.cells #[.int .i64 (x : Int), .int .i64 (y : Int), .int .i64 S.mn, .int .i64 S.mx] 30)
      rw [World.size_alloc] at h9
      rw [hV1]; exact h9)
    obtain ⟨N_f, hN_f⟩ : ∃ N, N = w.heap.size := ⟨_, rfl⟩
    obtain ⟨N_s, hN_s⟩ : ∃ N, N = w.heap.size + 1 := ⟨_, rfl⟩
    (try rw [← hN_s])
    rw [← hN_s] at B_s
    (try rw [← hN_f])
    rw [← hN_f] at B_f
    have l_f : N_f < V1.heap.size := by omega
    have l_s : N_s < V1.heap.size := by omega
    have g_f : w.heap.size ≤ N_f := by omega
    have g_s : w.heap.size ≤ N_s := by omega
    have d_f_s : N_f < N_s := by omega
    replace hlow : w.heap.size ≤ V1.heap.size := by omega
    clear hV1 hzV1 hN_f hN_s
    have s0 : V1.cell? ⟨N_s, 0, none⟩ = some (.int .i64 (x : Int)) := cell_blk (i := 0) B_s.out rfl
    have s1 : V1.cell? ⟨N_s, 1, none⟩ = some (.int .i64 (y : Int)) := cell_blk (i := 1) B_s.out rfl
    have s2 : V1.cell? ⟨N_s, 2, none⟩ = some (.int .i64 S.mn) := cell_blk (i := 2) B_s.out rfl
    have s3 : V1.cell? ⟨N_s, 3, none⟩ = some (.int .i64 S.mx) := cell_blk (i := 3) B_s.out rfl
    go_wp2_with fail
    refine (hP.out V1 HBel.out).mono ?_
    rintro e U2 ⟨rfl, hb9⟩
    clear s0 s1 s2 s3
    have hs9 := hb9.size
    replace HBel := Lib.hid (HBel.out.trans (hb9.mono hlow))
    replace B_f : Hid (U2.heap[N_f]? = some (.cells #[.int .i64 g, .int .i64 c] 40 (0, 0))) := Lib.hid ((hb9.block _ l_f).trans B_f.out)
    replace B_s : Hid (U2.heap[N_s]? = some (.cells #[.int .i64 (x : Int), .int .i64 (y : Int), .int .i64 S.mn, .int .i64 S.mx] 30 (0, 0))) := Lib.hid ((hb9.block _ l_s).trans B_s.out)
    replace l_f : N_f < U2.heap.size := by omega
    replace l_s : N_s < U2.heap.size := by omega
    replace hlow : w.heap.size ≤ U2.heap.size := by omega
    clear hb9 hs9
    go_wp2
    go_ret2
    exact ⟨⟨_, _, _, 7, rfl, HE.out.symm, fun e => by cases e⟩, by rw [HB0.out]; exact HBel.out⟩
  · have hP := Lib.hid (fun W (hk : Below w.heap.size w W) => show Calls Tryd.prog 23 #[.slice A n cap, .agg #[.int .i64 (x : Int), .int .i64 (y : Int), .int .i64 S.mn, .int .i64 S.mx], .int .i64 (p : Int)] W (fun e w' => ∃ b off cap', e = .returned (.tuple #[.slice (some ⟨b, off, none⟩) p cap', .int .i64 0]) ∧ p ≤ cap' ∧ cap' ≤ maxLen ∧ Below W.heap.size W w' ∧ Hid (Fes w' w'.heap.size (some ⟨b, off, none⟩) (placeF S l p))) from by
      have h9 := place_own A cap W.heap.size l S p W (Fes.keep (Rows.imp h hB fun _ _ _ _ h => h) hk hk.size) (Nat.le_refl _) hn hw hf (hT.below hk hT.size) hok h1 h16 (by omega)
      unfold shV at h9
      rw [← hln, hx, hy] at h9
      exact h9)
    have hlen : (placeF S l p).length = p := placeF_len (by omega)
    have HE := Lib.hid (show plE S l g c p = if ((x * p : Nat) : Int) ≤ g ∧ ((y * p : Nat) : Int) ≤ c then 0 else 6 from by unfold plE; rw [if_neg hr, hx, hy]; simp)
    have HL := Lib.hid hlen
    unfold shV
    rw [← hln, hx, hy]
    clear h hB hn hw hf hT hok h1 h16 hr hx hy hln hlen
    obtain ⟨X, hX⟩ : ∃ X : Int, X = ((x * p : Nat) : Int) := ⟨_, rfl⟩
    obtain ⟨Y, hY⟩ : ∃ Y : Int, Y = ((y * p : Nat) : Int) := ⟨_, rfl⟩
    rw [← hX, ← hY] at hU HE
    clear hX hY
    obtain ⟨B0, hB0⟩ : ∃ B, B = w.heap.size := ⟨_, rfl⟩
    rw [← hB0]
    have HB0 := Lib.hid hB0
    clear hB0
    have HBel := Lib.hid (Below.refl w.heap.size w)
    have hlow : w.heap.size ≤ w.heap.size := Nat.le_refl _
    go_enter Tryd.func17, Tryd.ntmps17
    go_wp2_with fail
    obtain ⟨V1, hV1⟩ : ∃ W, W = (w.alloc (.cells #[.int .i64 g, .int .i64 c] 40)).alloc (.cells #[.int .i64 (x : Int), .int .i64 (y : Int), .int .i64 S.mn, .int .i64 S.mx] 30) := ⟨_, rfl⟩
    rw [← hV1]
    have hzV1 : V1.heap.size = w.heap.size + 1 + 1 := by rw [hV1]; simp
    replace HBel : Hid (Below w.heap.size w V1) := Lib.hid (by rw [hV1]; exact ((HBel.out.alloc (hlow) _).alloc (by simp <;> omega) _))
    have B_f : Hid (V1.heap[w.heap.size]? = some (.cells #[.int .i64 g, .int .i64 c] 40 (0, 0))) := Lib.hid (by
      have h9 := heap_alloc_new (w) (.cells #[.int .i64 g, .int .i64 c] 40)
      rw [hV1]; exact ((Below.heap_alloc _ _ _ (by simp <;> omega)).trans h9))
    have B_s : Hid (V1.heap[w.heap.size + 1]? = some (.cells #[.int .i64 (x : Int), .int .i64 (y : Int), .int .i64 S.mn, .int .i64 S.mx] 30 (0, 0))) := Lib.hid (by
      have h9 := heap_alloc_new (w.alloc (.cells #[.int .i64 g, .int .i64 c] 40)) (.cells #[.int .i64 (x : Int), .int .i64 (y : Int), .int .i64 S.mn, .int .i64 S.mx] 30)
      rw [World.size_alloc] at h9
      rw [hV1]; exact h9)
    obtain ⟨N_f, hN_f⟩ : ∃ N, N = w.heap.size := ⟨_, rfl⟩
    obtain ⟨N_s, hN_s⟩ : ∃ N, N = w.heap.size + 1 := ⟨_, rfl⟩
    (try rw [← hN_s])
    rw [← hN_s] at B_s
    (try rw [← hN_f])
    rw [← hN_f] at B_f
    have l_f : N_f < V1.heap.size := by omega
    have l_s : N_s < V1.heap.size := by omega
    have g_f : w.heap.size ≤ N_f := by omega
    have g_s : w.heap.size ≤ N_s := by omega
    have d_f_s : N_f < N_s := by omega
    replace hlow : w.heap.size ≤ V1.heap.size := by omega
    clear hV1 hzV1 hN_f hN_s
    have s0 : V1.cell? ⟨N_s, 0, none⟩ = some (.int .i64 (x : Int)) := cell_blk (i := 0) B_s.out rfl
    have s1 : V1.cell? ⟨N_s, 1, none⟩ = some (.int .i64 (y : Int)) := cell_blk (i := 1) B_s.out rfl
    have s2 : V1.cell? ⟨N_s, 2, none⟩ = some (.int .i64 S.mn) := cell_blk (i := 2) B_s.out rfl
    have s3 : V1.cell? ⟨N_s, 3, none⟩ = some (.int .i64 S.mx) := cell_blk (i := 3) B_s.out rfl
    go_wp2_with fail
    refine (hP.out V1 HBel.out).mono ?_
    rintro e U2 ⟨b, off, cap2, rfl, hc1, hc2, hb9, hfe⟩
    clear s0 s1 s2 s3
    have hs9 := hb9.size
    have HF := Lib.hid (And.intro hc1 (And.intro hc2 (And.intro hfe.out (show U2.heap.size ≤ U2.heap.size from Nat.le_refl _))))
    clear hc1 hc2 hfe
    replace HBel := Lib.hid (HBel.out.trans (hb9.mono hlow))
    replace B_f : Hid (U2.heap[N_f]? = some (.cells #[.int .i64 g, .int .i64 c] 40 (0, 0))) := Lib.hid ((hb9.block _ l_f).trans B_f.out)
    replace B_s : Hid (U2.heap[N_s]? = some (.cells #[.int .i64 (x : Int), .int .i64 (y : Int), .int .i64 S.mn, .int .i64 S.mx] 30 (0, 0))) := Lib.hid ((hb9.block _ l_s).trans B_s.out)
    replace l_f : N_f < U2.heap.size := by omega
    replace l_s : N_s < U2.heap.size := by omega
    replace hlow : w.heap.size ≤ U2.heap.size := by omega
    clear hb9 hs9
    have s0 : U2.cell? ⟨N_s, 0, none⟩ = some (.int .i64 (x : Int)) := cell_blk (i := 0) B_s.out rfl
    have s1 : U2.cell? ⟨N_s, 1, none⟩ = some (.int .i64 (y : Int)) := cell_blk (i := 1) B_s.out rfl
    have s2 : U2.cell? ⟨N_s, 2, none⟩ = some (.int .i64 S.mn) := cell_blk (i := 2) B_s.out rfl
    have s3 : U2.cell? ⟨N_s, 3, none⟩ = some (.int .i64 S.mx) := cell_blk (i := 3) B_s.out rfl
    go_wp2_with fail
    refine (hU.out U2).mono ?_
    rintro e U3 ⟨rfl, hb9⟩
    clear s0 s1 s2 s3
    have hs9 := hb9.size
    have HF2 := Lib.hid (HF.out.2.2.1.keep hb9 hb9.size)
    replace HBel := Lib.hid (HBel.out.trans (hb9.mono hlow))
    replace B_f : Hid (U3.heap[N_f]? = some (.cells #[.int .i64 g, .int .i64 c] 40 (0, 0))) := Lib.hid ((hb9.block _ l_f).trans B_f.out)
    replace B_s : Hid (U3.heap[N_s]? = some (.cells #[.int .i64 (x : Int), .int .i64 (y : Int), .int .i64 S.mn, .int .i64 S.mx] 30 (0, 0))) := Lib.hid ((hb9.block _ l_s).trans B_s.out)
    replace l_f : N_f < U3.heap.size := by omega
    replace l_s : N_s < U3.heap.size := by omega
    replace hlow : w.heap.size ≤ U3.heap.size := by omega
    clear hb9 hs9
    by_cases h5 : g < X
    · have t1 : decide (g < X) = true := decide_eq_true h5
      have HR := Lib.hid (show plE S l g c p = 6 from by rw [HE.out, if_neg (by omega)])
      clear h5
      have f0 : U3.cell? ⟨N_f, 0, none⟩ = some (.int .i64 g) := cell_blk (i := 0) B_f.out rfl
      have f1 : U3.cell? ⟨N_f, 1, none⟩ = some (.int .i64 c) := cell_blk (i := 1) B_f.out rfl
      go_wp2
      clear f0 f1
      go_ret2
      exact ⟨⟨_, _, _, 6, rfl, HR.out.symm, fun e => by cases e⟩, by rw [HB0.out]; exact HBel.out.alloc hlow _⟩
    by_cases h6 : c < Y
    · have t1 : decide (g < X) = false := decide_eq_false h5
      have t2 : decide (c < Y) = true := decide_eq_true h6
      have HR := Lib.hid (show plE S l g c p = 6 from by rw [HE.out, if_neg (by omega)])
      clear h5 h6
      have f0 : U3.cell? ⟨N_f, 0, none⟩ = some (.int .i64 g) := cell_blk (i := 0) B_f.out rfl
      have f1 : U3.cell? ⟨N_f, 1, none⟩ = some (.int .i64 c) := cell_blk (i := 1) B_f.out rfl
      go_wp2
      clear f0 f1
      go_ret2
      exact ⟨⟨_, _, _, 6, rfl, HR.out.symm, fun e => by cases e⟩, by rw [HB0.out]; exact HBel.out.alloc hlow _⟩
    · have t1 : decide (g < X) = false := decide_eq_false h5
      have t2 : decide (c < Y) = false := decide_eq_false h6
      have HR := Lib.hid (show plE S l g c p = 0 from by rw [HE.out, if_pos (by omega)])
      clear h5 h6
      have f0 : U3.cell? ⟨N_f, 0, none⟩ = some (.int .i64 g) := cell_blk (i := 0) B_f.out rfl
      have f1 : U3.cell? ⟨N_f, 1, none⟩ = some (.int .i64 c) := cell_blk (i := 1) B_f.out rfl
      go_wp2
      clear f0 f1
      go_ret2
      have hb9 := (Below.refl U3.heap.size U3).alloc (Nat.le_refl _) (.cells #[.int .i64 X, .int .i64 Y] 40)
      exact ⟨⟨_, _, _, 0, rfl, HR.out.symm, fun _ => ⟨HL.out.symm, HF.out.1, HF.out.2.1, HF2.out.keep hb9 hb9.size⟩⟩, by rw [HB0.out]; exact HBel.out.alloc hlow _⟩
end Go.Proofs.YtppapmacngdefaaDoor
