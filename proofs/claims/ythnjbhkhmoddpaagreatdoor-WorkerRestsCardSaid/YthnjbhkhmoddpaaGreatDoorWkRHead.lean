/- Head of the document's layer 14. -/
import Derived.RegionTactic
import Derived.BigRegion
import Derived.Deep.QuietTactic
import Derived.BigQuiet
import Derived.Deep.RegionWith
import Derived.OwnWalk
import Derived.Test.YthnjbhkhmoddpaaGreatDoorWkM
set_option linter.unusedVariables false
set_option maxRecDepth 100000
namespace Go.Proofs.YthnjbhkhmoddpaaGreatDoor
open Go.RowKit
open PR
set_option maxHeartbeats 8000000 in
theorem rhead14_any (L : Lk) (w : World) (h : LkIn w w.heap.size L) (hW : LkW L) :
  Calls Tryz.prog 7 #[lkV L] w fun e w' => HeadR (headL L) e ∧ Below w.heap.size w w' := by
 obtain ⟨n1, hn1⟩ : ∃ n, n = L.lv.length := ⟨_, rfl⟩
 obtain ⟨n2, hn2⟩ : ∃ n, n = L.lf.length := ⟨_, rfl⟩
 obtain ⟨n3, hn3⟩ : ∃ n, n = L.le.length := ⟨_, rfl⟩
 obtain ⟨n4, hn4⟩ : ∃ n, n = L.lw.length := ⟨_, rfl⟩
 obtain ⟨n5, hn5⟩ : ∃ n, n = L.lr.length := ⟨_, rfl⟩
 have HT4 := Lib.hid (And.intro h.t hn4)
 have hl4 : n4 ≤ 9223372036854775807 := by rw [hn4]; exact Nat.le_trans hW.l4 hW.m4
 obtain ⟨o, ho⟩ : ∃ o, o = headL L := ⟨_, rfl⟩
 rw [← ho]
 unfold headL at ho
 have HO := Lib.hid ho
 clear ho
 unfold lkV lkA
 rw [← hn1, ← hn2, ← hn3, ← hn4, ← hn5]
 clear hn1 hn2 hn3 hn4 hn5 h hW
 by_cases h0 : L.hd = 0
 ·have t0 : ((0 : Int) == 0) = true := rfl
  have E0 := Lib.hid (show o = none from by rw [HO.out, if_pos h0])
  rw [h0]
  clear h0
  obtain ⟨B0, hB0⟩ : ∃ B, B = w.heap.size := ⟨_, rfl⟩
  rw [← hB0]
  have HB0 := Lib.hid hB0
  clear hB0
  have HBel := Lib.hid (Below.refl w.heap.size w)
  have hlow : w.heap.size ≤ w.heap.size := Nat.le_refl _
  go_enter Tryz.func7, Tryz.ntmps7
  go_wp2
  obtain ⟨V1, hV1⟩ : ∃ W, W = (w.alloc (.cells #[.int .i64 L.now, .int .i64 0, .int .i64 L.pr, .int .i64 L.to, .slice L.A1 n1 L.c1, .slice L.A2 n2 L.c2, .slice L.A3 n3 L.c3, .slice L.A4 n4 L.c4, .slice L.A5 n5 L.c5] 28)).alloc (.cells #[.int .i64 0, .int .i64 0, .int .i64 0, .int .i64 0, .int .i64 0, .int .i64 0] 34) := ⟨_, rfl⟩
  rw [← hV1]
  have hzV1 : V1.heap.size = w.heap.size + 1 + 1 := by rw [hV1]; simp
  replace HBel := Lib.hid (below_eq hV1 (((HBel.out.alloc (hlow) _).alloc (by simp <;> omega) _)))
  have B_l := Lib.hid (new20 hV1)
  have B_r := Lib.hid (new21 hV1)
  obtain ⟨N_l, hN_l⟩ : ∃ N, N = w.heap.size := ⟨_, rfl⟩
  obtain ⟨N_r, hN_r⟩ : ∃ N, N = w.heap.size + 1 := ⟨_, rfl⟩
  (try rw [← hN_r])
  rw [← hN_r] at B_r
  (try rw [← hN_l])
  rw [← hN_l] at B_l
  have l_l : N_l < V1.heap.size := by omega
  have l_r : N_r < V1.heap.size := by omega
  have g_l : w.heap.size ≤ N_l := by omega
  have g_r : w.heap.size ≤ N_r := by omega
  have d_l_r : N_l < N_r := by omega
  replace hlow : w.heap.size ≤ V1.heap.size := by omega
  clear hV1 hzV1 hN_l hN_r
  obtain ⟨r0, r1, r2, r3, r4, r5⟩ := cells6 B_r.out
  refine bodyPost_ret (v := .tuple #[.agg #[.int .i64 0, .int .i64 0, .int .i64 0, .int .i64 0, .int .i64 0, .int .i64 0], .bool false]) (by simp [results, Tryz.results7, go_sem, r0, r1, r2, r3, r4, r5]) rfl ?_
  exact ⟨.inl ⟨E0.out, rfl⟩, by rw [HB0.out]; exact HBel.out⟩
 ·have t0 : (L.hd == 0) = false := by simp [h0]
  have E0 := Lib.hid h0
  clear h0
  obtain ⟨B0, hB0⟩ : ∃ B, B = w.heap.size := ⟨_, rfl⟩
  rw [← hB0]
  have HB0 := Lib.hid hB0
  clear hB0
  have HBel := Lib.hid (Below.refl w.heap.size w)
  have hlow : w.heap.size ≤ w.heap.size := Nat.le_refl _
  go_enter Tryz.func7, Tryz.ntmps7
  go_wp2_with fail
  obtain ⟨V1, hV1⟩ : ∃ W, W = (w.alloc (.cells #[.int .i64 L.now, .int .i64 L.hd, .int .i64 L.pr, .int .i64 L.to, .slice L.A1 n1 L.c1, .slice L.A2 n2 L.c2, .slice L.A3 n3 L.c3, .slice L.A4 n4 L.c4, .slice L.A5 n5 L.c5] 28)).alloc (.cells #[.int .i64 0, .int .i64 0, .int .i64 0, .int .i64 0, .int .i64 0, .int .i64 0] 34) := ⟨_, rfl⟩
  rw [← hV1]
  have hzV1 : V1.heap.size = w.heap.size + 1 + 1 := by rw [hV1]; simp
  replace HBel := Lib.hid (below_eq hV1 (((HBel.out.alloc (hlow) _).alloc (by simp <;> omega) _)))
  have B_l := Lib.hid (new20 hV1)
  have B_r := Lib.hid (new21 hV1)
  obtain ⟨N_l, hN_l⟩ : ∃ N, N = w.heap.size := ⟨_, rfl⟩
  obtain ⟨N_r, hN_r⟩ : ∃ N, N = w.heap.size + 1 := ⟨_, rfl⟩
  (try rw [← hN_r])
  rw [← hN_r] at B_r
  (try rw [← hN_l])
  rw [← hN_l] at B_l
  have l_l : N_l < V1.heap.size := by omega
  have l_r : N_r < V1.heap.size := by omega
  have g_l : w.heap.size ≤ N_l := by omega
  have g_r : w.heap.size ≤ N_r := by omega
  have d_l_r : N_l < N_r := by omega
  replace hlow : w.heap.size ≤ V1.heap.size := by omega
  clear hV1 hzV1 hN_l hN_r
  have HI0 : Hid ((L.lw.take 0).find? (fun x => x.id == L.hd) = none) := Lib.hid rfl
  obtain ⟨l0, l1, l2, l3, l4, l5, l6, l7, l8⟩ := cells9 B_l.out
  go_wp2
  go_loopw [4] (fun vi wr => ∃ k : Nat, vi = .int .i64 k ∧ k ≤ n4 ∧ N_l < wr.heap.size ∧ N_r < wr.heap.size ∧ Hid (Below w.heap.size w wr) ∧ Hid (wr.heap[N_l]? = some (.cells #[.int .i64 L.now, .int .i64 L.hd, .int .i64 L.pr, .int .i64 L.to, .slice L.A1 n1 L.c1, .slice L.A2 n2 L.c2, .slice L.A3 n3 L.c3, .slice L.A4 n4 L.c4, .slice L.A5 n5 L.c5] 28 (0, 0))) ∧ Hid (wr.heap[N_r]? = some (.cells #[.int .i64 0, .int .i64 0, .int .i64 0, .int .i64 0, .int .i64 0, .int .i64 0] 34 (0, 0))) ∧ Hid ((L.lw.take k).find? (fun x => x.id == L.hd) = none)) (fun vi _ => n4 - (intOf vi).toNat)
  case atStart => exact ⟨0, rfl, by omega, l_l, l_r, HBel, B_l, B_r, HI0⟩
  case round =>
   clear HBel B_l B_r l_l l_r hlow HI0 l0 l1 l2 l3 l4 l5 l6 l7 l8
   obtain ⟨k, rfl, hk, l_l, l_r, HBel, B_l, B_r, hI⟩ := hrel
   have hlow := HBel.out.size
   have g_r : w.heap.size ≤ N_r := g_r
   by_cases hlt : k < n4
   ·have u1 : decide (k < n4) = true := decide_eq_true hlt
    obtain ⟨x, hx⟩ := get_lt (l := L.lw) (k := k) (by rw [← HT4.out.2]; exact hlt)
    obtain ⟨b, off, hA, hb, hall⟩ := HT4.out.1.at_ hx
    have hcx := (hall k x hx).keep hb HBel.out
    have HX := Lib.hid (show CellsAt wr b (off + k * 10) (jbC x.J) from fun r v hr => hcx r v (by rcases r with _ | _ | _ | _ | _ | _ | _ | _ | r <;> first | exact hr | (simp [jbC] at hr)))
    have l7 : wr.cell? ⟨N_l, 7, none⟩ = some (.slice (some ⟨b, off, none⟩) n4 L.c4) := by rw [← hA]; exact cell_blk (i := 7) B_l.out rfl
    have ll1 : N_l < wr.heap.size + 1 := by omega
    have HQ := Lib.hid (And.intro hx hI.out)
    clear hall hx hb hA hI hcx
    have l1 : wr.cell? ⟨N_l, 1, none⟩ = some (.int .i64 L.hd) := cell_blk (i := 1) B_l.out rfl
    by_cases e : x.id = L.hd
    ·have t3 : (x.J.id == L.hd) = true := (by have e9 : x.J.id = L.hd := e; simpa using e9)
     have E1 := Lib.hid (show o = some ⟨x.q, x.mn, ⟨x.g, x.c, x.mn, x.mx⟩⟩ from by rw [HO.out, if_neg E0.out, find_at HQ.out.2 HQ.out.1 (by simpa using e)])
     clear e
     obtain ⟨r0, r1, r2, r3, r4, r5⟩ := cells6 B_r.out
     have l_r_0 : N_r < wr.heap.size + 1 := by omega
     have rz0 : wr.frozen? ⟨N_r, 0, none⟩ = false := frozen_blk B_r.out
     have rz1 : wr.frozen? ⟨N_r, 1, none⟩ = false := frozen_blk B_r.out
     have rz2 : wr.frozen? ⟨N_r, 2, none⟩ = false := frozen_blk B_r.out
     have rz3 : wr.frozen? ⟨N_r, 3, none⟩ = false := frozen_blk B_r.out
     have rz4 : wr.frozen? ⟨N_r, 4, none⟩ = false := frozen_blk B_r.out
     have rz5 : wr.frozen? ⟨N_r, 5, none⟩ = false := frozen_blk B_r.out
     go_wp2_with (refine wpList_load_jb rfl _ rfl b (off + k * 10) x.J rfl HX.out ?_)
     clear l7 ll1 l1
     clear r0 r1 r2 r3 r4 r5 l_r_0 rz0 rz1 rz2 rz3 rz4 rz5
     obtain ⟨S1, hS1⟩ : ∃ W, W = ((((((wr).setCell ⟨N_r, 0, none⟩ (.int .i64 x.J.q)).setCell ⟨N_r, 1, none⟩ (.int .i64 x.J.mn)).setCell ⟨N_r, 2, none⟩ (.int .i64 x.J.g)).setCell ⟨N_r, 3, none⟩ (.int .i64 x.J.c)).setCell ⟨N_r, 4, none⟩ (.int .i64 x.J.mn)).setCell ⟨N_r, 5, none⟩ (.int .i64 x.J.mx) := ⟨_, rfl⟩
     rw [← hS1]
     have hzS1 : S1.heap.size = wr.heap.size := by rw [hS1]; simp
     replace HBel : Hid (Below w.heap.size w S1) := Lib.hid (by rw [hS1]; exact ((((((HBel.out.setCell (g_r) _).setCell (g_r) _).setCell (g_r) _).setCell (g_r) _).setCell (g_r) _).setCell (g_r) _))
     replace B_l := Lib.hid (blk_eq hS1 (((Below.heap_setCell _ _ _ _ (show N_l ≠ N_r by omega)).trans ((Below.heap_setCell _ _ _ _ (show N_l ≠ N_r by omega)).trans ((Below.heap_setCell _ _ _ _ (show N_l ≠ N_r by omega)).trans ((Below.heap_setCell _ _ _ _ (show N_l ≠ N_r by omega)).trans ((Below.heap_setCell _ _ _ _ (show N_l ≠ N_r by omega)).trans ((Below.heap_setCell _ _ _ _ (show N_l ≠ N_r by omega)).trans B_l.out))))))))
     replace B_r : Hid (S1.heap[N_r]? = some (.cells #[.int .i64 x.J.q, .int .i64 x.J.mn, .int .i64 x.J.g, .int .i64 x.J.c, .int .i64 x.J.mn, .int .i64 x.J.mx] 34 (0, 0))) := Lib.hid (by rw [hS1]; exact (blk_put (i := 5) _ (blk_put (i := 4) _ (blk_put (i := 3) _ (blk_put (i := 2) _ (blk_put (i := 1) _ (blk_put (i := 0) _ B_r.out)))))))
     replace l_l : N_l < S1.heap.size := by omega
     replace l_r : N_r < S1.heap.size := by omega
     replace hlow : w.heap.size ≤ S1.heap.size := by omega
     clear hS1 hzS1
     obtain ⟨V2, hV2⟩ : ∃ W, W = S1.alloc (.cells #[.int .i64 x.J.id, .int .i64 x.J.q, .int .i64 x.J.p, .int .i64 x.J.r, .int .i64 x.J.g, .int .i64 x.J.c, .int .i64 x.J.mn, .int .i64 x.J.mx] 47) := ⟨_, rfl⟩
     rw [← hV2]
     have hzV2 : V2.heap.size = S1.heap.size + 1 := by rw [hV2]; simp
     replace HBel := Lib.hid (below_eq hV2 ((HBel.out.alloc (hlow) _)))
     replace B_l := Lib.hid (blk_eq hV2 (((Below.heap_alloc _ _ _ (by first | omega | (simp <;> omega))).trans B_l.out)))
     replace B_r := Lib.hid (blk_eq hV2 (((Below.heap_alloc _ _ _ (by first | omega | (simp <;> omega))).trans B_r.out)))
     have B_j := Lib.hid (new10 hV2)
     obtain ⟨N_j, hN_j⟩ : ∃ N, N = S1.heap.size := ⟨_, rfl⟩
     (try rw [← hN_j])
     rw [← hN_j] at B_j
     have d_l_j : N_l < N_j := by omega
     have d_r_j : N_r < N_j := by omega
     replace l_l : N_l < V2.heap.size := by omega
     replace l_r : N_r < V2.heap.size := by omega
     have l_j : N_j < V2.heap.size := by omega
     have g_j : w.heap.size ≤ N_j := by omega
     replace hlow : w.heap.size ≤ V2.heap.size := by omega
     clear hV2 hzV2 hN_j
     obtain ⟨r0, r1, r2, r3, r4, r5⟩ := cells6 B_r.out
     refine bodyPost_ret (v := .tuple #[.agg #[.int .i64 x.J.q, .int .i64 x.J.mn, .int .i64 x.J.g, .int .i64 x.J.c, .int .i64 x.J.mn, .int .i64 x.J.mx], .bool true]) (by simp [results, Tryz.results7, go_sem, r0, r1, r2, r3, r4, r5]) rfl ?_
     exact ⟨.inr ⟨⟨x.q, x.mn, ⟨x.g, x.c, x.mn, x.mx⟩⟩, E1.out, rfl⟩, by rw [HB0.out]; exact HBel.out⟩
    ·have t3 : (x.J.id == L.hd) = false := (by have e9 : ¬ x.J.id = L.hd := e; simpa using e9)
     have HN : Hid ((L.lw.take (k + 1)).find? (fun x => x.id == L.hd) = none) := Lib.hid (find_on HQ.out.2 HQ.out.1 t3)
     clear e
     go_wp2_with (refine wpList_load_jb rfl _ rfl b (off + k * 10) x.J rfl HX.out ?_)
     clear l7 ll1 l1
     obtain ⟨V1, hV1⟩ : ∃ W, W = wr.alloc (.cells #[.int .i64 x.J.id, .int .i64 x.J.q, .int .i64 x.J.p, .int .i64 x.J.r, .int .i64 x.J.g, .int .i64 x.J.c, .int .i64 x.J.mn, .int .i64 x.J.mx] 47) := ⟨_, rfl⟩
     rw [← hV1]
     have hzV1 : V1.heap.size = wr.heap.size + 1 := by rw [hV1]; simp
     replace HBel := Lib.hid (below_eq hV1 ((HBel.out.alloc (hlow) _)))
     replace B_l := Lib.hid (blk_eq hV1 (((Below.heap_alloc _ _ _ (by first | omega | (simp <;> omega))).trans B_l.out)))
     replace B_r := Lib.hid (blk_eq hV1 (((Below.heap_alloc _ _ _ (by first | omega | (simp <;> omega))).trans B_r.out)))
     have B_j := Lib.hid (new10 hV1)
     obtain ⟨N_j, hN_j⟩ : ∃ N, N = wr.heap.size := ⟨_, rfl⟩
     (try rw [← hN_j])
     rw [← hN_j] at B_j
     have d_l_j : N_l < N_j := by omega
     have d_r_j : N_r < N_j := by omega
     replace l_l : N_l < V1.heap.size := by omega
     replace l_r : N_r < V1.heap.size := by omega
     have l_j : N_j < V1.heap.size := by omega
     have g_j : w.heap.size ≤ N_j := by omega
     replace hlow : w.heap.size ≤ V1.heap.size := by omega
     clear hV1 hzV1 hN_j
     go_roundw
     case rel => exact ⟨k + 1, by go_num, by omega, l_l, l_r, HBel, B_l, B_r, HN⟩
     case measure => simp [intOf]; omega
   ·obtain rfl : n4 = k := by omega
    have u1 : decide (n4 < n4) = false := decide_eq_false hlt
    have HN := Lib.hid (show o = none from by have h9 := hI.out; rw [HT4.out.2, List.take_length] at h9; rw [HO.out, if_neg E0.out, h9])
    clear hI
    obtain ⟨l0, l1, l2, l3, l4, l5, l6, l7, l8⟩ := cells9 B_l.out
    obtain ⟨r0, r1, r2, r3, r4, r5⟩ := cells6 B_r.out
    have rz0 : wr.frozen? ⟨N_r, 0, none⟩ = false := frozen_blk B_r.out
    have rz1 : wr.frozen? ⟨N_r, 1, none⟩ = false := frozen_blk B_r.out
    have rz2 : wr.frozen? ⟨N_r, 2, none⟩ = false := frozen_blk B_r.out
    have rz3 : wr.frozen? ⟨N_r, 3, none⟩ = false := frozen_blk B_r.out
    have rz4 : wr.frozen? ⟨N_r, 4, none⟩ = false := frozen_blk B_r.out
    have rz5 : wr.frozen? ⟨N_r, 5, none⟩ = false := frozen_blk B_r.out
    go_wp2_with fail
    clear l0 l1 l2 l3 l4 l5 l6 l7 l8 r0 r1 r2 r3 r4 r5 rz0 rz1 rz2 rz3 rz4 rz5
    obtain ⟨S1, hS1⟩ : ∃ W, W = ((((((wr).setCell ⟨N_r, 0, none⟩ (.int .i64 0)).setCell ⟨N_r, 1, none⟩ (.int .i64 0)).setCell ⟨N_r, 2, none⟩ (.int .i64 0)).setCell ⟨N_r, 3, none⟩ (.int .i64 0)).setCell ⟨N_r, 4, none⟩ (.int .i64 0)).setCell ⟨N_r, 5, none⟩ (.int .i64 0) := ⟨_, rfl⟩
    rw [← hS1]
    have hzS1 : S1.heap.size = wr.heap.size := by rw [hS1]; simp
    replace HBel : Hid (Below w.heap.size w S1) := Lib.hid (by rw [hS1]; exact ((((((HBel.out.setCell (g_r) _).setCell (g_r) _).setCell (g_r) _).setCell (g_r) _).setCell (g_r) _).setCell (g_r) _))
    replace B_l := Lib.hid (blk_eq hS1 (((Below.heap_setCell _ _ _ _ (show N_l ≠ N_r by omega)).trans ((Below.heap_setCell _ _ _ _ (show N_l ≠ N_r by omega)).trans ((Below.heap_setCell _ _ _ _ (show N_l ≠ N_r by omega)).trans ((Below.heap_setCell _ _ _ _ (show N_l ≠ N_r by omega)).trans ((Below.heap_setCell _ _ _ _ (show N_l ≠ N_r by omega)).trans ((Below.heap_setCell _ _ _ _ (show N_l ≠ N_r by omega)).trans B_l.out))))))))
    replace B_r : Hid (S1.heap[N_r]? = some (.cells #[.int .i64 0, .int .i64 0, .int .i64 0, .int .i64 0, .int .i64 0, .int .i64 0] 34 (0, 0))) := Lib.hid (by rw [hS1]; exact (blk_put (i := 5) _ (blk_put (i := 4) _ (blk_put (i := 3) _ (blk_put (i := 2) _ (blk_put (i := 1) _ (blk_put (i := 0) _ B_r.out)))))))
    replace l_l : N_l < S1.heap.size := by omega
    replace l_r : N_r < S1.heap.size := by omega
    replace hlow : w.heap.size ≤ S1.heap.size := by omega
    clear hS1 hzS1
    obtain ⟨r0, r1, r2, r3, r4, r5⟩ := cells6 B_r.out
    refine bodyPost_ret (v := .tuple #[.agg #[.int .i64 0, .int .i64 0, .int .i64 0, .int .i64 0, .int .i64 0, .int .i64 0], .bool false]) (by simp [results, Tryz.results7, go_sem, r0, r1, r2, r3, r4, r5]) rfl ?_
    exact ⟨.inl ⟨HN.out, rfl⟩, by rw [HB0.out]; exact HBel.out⟩
end Go.Proofs.YthnjbhkhmoddpaaGreatDoor
