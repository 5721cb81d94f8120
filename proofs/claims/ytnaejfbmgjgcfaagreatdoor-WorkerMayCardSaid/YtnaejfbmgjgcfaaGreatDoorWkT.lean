/- Whose a choice is: the law's own search. -/
/- Is an Id there twice: the law's own look. -/
import Derived.RegionTactic
import Derived.BigRegion
import Derived.Deep.QuietTactic
import Derived.BigQuiet
import Derived.Deep.RegionWith
import Derived.OwnWalk
import Derived.Test.YtnaejfbmgjgcfaaGreatDoorWkM
import Derived.Test.YtnaejfbmgjgcfaaGreatDoorElFew
set_option maxRecDepth 100000
set_option linter.unusedVariables false
set_option maxRecDepth 100000
namespace Go.Proofs.YtnaejfbmgjgcfaaGreatDoor
open Go.RowKit
open PR
def JobR (o : Option Jb) (e : Ending) : Prop := (o = none ∧ e = .returned (.tuple #[.agg #[.int .i64 0, .int .i64 0, .int .i64 0, .int .i64 0, .int .i64 0, .int .i64 0, .int .i64 0, .int .i64 0], .bool false])) ∨ ∃ j, o = some j ∧ e = .returned (.tuple #[.agg #[.int .i64 j.id, .int .i64 j.q, .int .i64 j.p, .int .i64 j.r, .int .i64 j.g, .int .i64 j.c, .int .i64 j.mn, .int .i64 j.mx], .bool true])
set_option maxHeartbeats 8000000 in
theorem job_any (L : Lk) (d id : Int) (A : Option Addr) (kc c : Nat) (w : World) (h : LkIn w w.heap.size L) (hW : LkW L) :
  Calls Tryz.prog 7 #[lkV L, .agg #[.int .i64 d, .int .i64 id, .slice A kc c]] w fun e w' => JobR (jobL L d id) e ∧ Below w.heap.size w w' := by
 obtain ⟨n1, hn1⟩ : ∃ n, n = L.lv.length := ⟨_, rfl⟩
 obtain ⟨n2, hn2⟩ : ∃ n, n = L.lf.length := ⟨_, rfl⟩
 obtain ⟨n3, hn3⟩ : ∃ n, n = L.le.length := ⟨_, rfl⟩
 obtain ⟨n4, hn4⟩ : ∃ n, n = L.lw.length := ⟨_, rfl⟩
 obtain ⟨n5, hn5⟩ : ∃ n, n = L.lr.length := ⟨_, rfl⟩
 have HT4 := Lib.hid (And.intro h.t hn4)
 have HT5 := Lib.hid (And.intro h.r hn5)
 have hl4 : n4 ≤ 9223372036854775807 := by rw [hn4]; exact Nat.le_trans hW.l4 hW.m4
 have hl5 : n5 ≤ 9223372036854775807 := by rw [hn5]; exact Nat.le_trans hW.l5 hW.m5
 obtain ⟨o, ho⟩ : ∃ o, o = jobL L d id := ⟨_, rfl⟩
 rw [← ho]
 unfold jobL at ho
 have HO := Lib.hid ho
 clear ho
 unfold lkV lkA
 rw [← hn1, ← hn2, ← hn3, ← hn4, ← hn5]
 clear hn1 hn2 hn3 hn4 hn5 h hW
 by_cases hd : d = 3
 ·subst hd
  have t0 : ((3 : Int) == 3) = true := rfl
  have HD3 := Lib.hid (HO.out.trans (if_pos rfl))
  clear HO
  obtain ⟨B0, hB0⟩ : ∃ B, B = w.heap.size := ⟨_, rfl⟩
  rw [← hB0]
  have HB0 := Lib.hid hB0
  clear hB0
  have HBel := Lib.hid (Below.refl w.heap.size w)
  have hlow : w.heap.size ≤ w.heap.size := Nat.le_refl _
  go_enter Tryz.func7, Tryz.ntmps7
  go_wp2_with fail
  obtain ⟨V1, hV1⟩ : ∃ W, W = ((w.alloc (.cells #[.int .i64 L.now, .int .i64 L.hd, .int .i64 L.pr, .int .i64 L.to, .slice L.A1 n1 L.c1, .slice L.A2 n2 L.c2, .slice L.A3 n3 L.c3, .slice L.A4 n4 L.c4, .slice L.A5 n5 L.c5] 28)).alloc (.cells #[.int .i64 3, .int .i64 id, .slice A kc c] 33)).alloc (.cells #[.int .i64 0, .int .i64 0, .int .i64 0, .int .i64 0, .int .i64 0, .int .i64 0, .int .i64 0, .int .i64 0] 38) := ⟨_, rfl⟩
  rw [← hV1]
  have hzV1 : V1.heap.size = w.heap.size + 1 + 1 + 1 := by rw [hV1]; simp
  replace HBel := Lib.hid (below_eq hV1 ((((HBel.out.alloc (hlow) _).alloc (by simp <;> omega) _).alloc (by simp <;> omega) _)))
  have B_l := Lib.hid (new30 hV1)
  have B_c := Lib.hid (new31 hV1)
  have B_j := Lib.hid (new32 hV1)
  obtain ⟨N_l, hN_l⟩ : ∃ N, N = w.heap.size := ⟨_, rfl⟩
  obtain ⟨N_c, hN_c⟩ : ∃ N, N = w.heap.size + 1 := ⟨_, rfl⟩
  obtain ⟨N_j, hN_j⟩ : ∃ N, N = w.heap.size + 1 + 1 := ⟨_, rfl⟩
  (try rw [← hN_j])
  rw [← hN_j] at B_j
  (try rw [← hN_c])
  rw [← hN_c] at B_c
  (try rw [← hN_l])
  rw [← hN_l] at B_l
  have l_l : N_l < V1.heap.size := by omega
  have l_c : N_c < V1.heap.size := by omega
  have l_j : N_j < V1.heap.size := by omega
  have g_l : w.heap.size ≤ N_l := by omega
  have g_c : w.heap.size ≤ N_c := by omega
  have g_j : w.heap.size ≤ N_j := by omega
  have d_l_c : N_l < N_c := by omega
  have d_c_j : N_c < N_j := by omega
  replace hlow : w.heap.size ≤ V1.heap.size := by omega
  clear hV1 hzV1 hN_l hN_c hN_j
  have HI0 : Hid ((L.lr.take 0).find? (fun x => x.id == id) = none) := Lib.hid rfl
  obtain ⟨l0, l1, l2, l3, l4, l5, l6, l7, l8⟩ := cells9 B_l.out
  obtain ⟨c0, c1, c2⟩ := cells3 B_c.out
  go_wp2
  go_loopw [6] (fun vi wr => ∃ k : Nat, vi = .int .i64 k ∧ k ≤ n5 ∧ N_l < wr.heap.size ∧ N_c < wr.heap.size ∧ N_j < wr.heap.size ∧ Hid (Below w.heap.size w wr) ∧ Hid (wr.heap[N_l]? = some (.cells #[.int .i64 L.now, .int .i64 L.hd, .int .i64 L.pr, .int .i64 L.to, .slice L.A1 n1 L.c1, .slice L.A2 n2 L.c2, .slice L.A3 n3 L.c3, .slice L.A4 n4 L.c4, .slice L.A5 n5 L.c5] 28 (0, 0))) ∧ Hid (wr.heap[N_c]? = some (.cells #[.int .i64 3, .int .i64 id, .slice A kc c] 33 (0, 0))) ∧ Hid (wr.heap[N_j]? = some (.cells #[.int .i64 0, .int .i64 0, .int .i64 0, .int .i64 0, .int .i64 0, .int .i64 0, .int .i64 0, .int .i64 0] 38 (0, 0))) ∧ Hid ((L.lr.take k).find? (fun x => x.id == id) = none)) (fun vi _ => n5 - (intOf vi).toNat)
  case atStart => exact ⟨0, rfl, by omega, l_l, l_c, l_j, HBel, B_l, B_c, B_j, HI0⟩
  case round =>
   clear HBel B_l B_c B_j l_l l_c l_j hlow HI0 l0 l1 l2 l3 l4 l5 l6 l7 l8 c0 c1 c2
   obtain ⟨k, rfl, hk, l_l, l_c, l_j, HBel, B_l, B_c, B_j, hI⟩ := hrel
   have hlow := HBel.out.size
   by_cases hlt : k < n5
   ·have u1 : decide (k < n5) = true := decide_eq_true hlt
    obtain ⟨x, hx⟩ := get_lt (l := L.lr) (k := k) (by rw [← HT5.out.2]; exact hlt)
    obtain ⟨b, off, hA, hb, hall⟩ := HT5.out.1.at_ hx
    have hbW : b < wr.heap.size := by omega
    have hcx := (hall k x hx).keep hb HBel.out
    have HX := Lib.hid (show CellsAt wr b (off + k * 16) (jbC x.J) from fun r v hr => hcx r v (by rcases r with _ | _ | _ | _ | _ | _ | _ | _ | r <;> first | exact hr | (simp [jbC] at hr)))
    have q0 : wr.cell? ⟨b, off + k * 16, none⟩ = some (.int .i64 x.id) := hcx 0 _ rfl
    have l8 : wr.cell? ⟨N_l, 8, none⟩ = some (.slice (some ⟨b, off, none⟩) n5 L.c5) := by rw [← hA]; exact cell_blk (i := 8) B_l.out rfl
    have c1 : wr.cell? ⟨N_c, 1, none⟩ = some (.int .i64 id) := cell_blk (i := 1) B_c.out rfl
    have t2 : decide (k < n5) = true := decide_eq_true hlt
    have HQ := Lib.hid (And.intro hx hI.out)
    have HA0 := Lib.hid hA
    clear hall hx hb hA hI hcx
    go_wp2_with fail
    by_cases e : x.id = id
    ·have t3 : (x.id == id) = true := by simpa using e
     have HE := Lib.hid e
     clear e
     refine held_begin (fun w' : World => w'.cell? ⟨N_l, 8, none⟩ = some (.slice (some ⟨b, off, none⟩) n5 L.c5) ∧ w'.cell? ⟨b, off + k * 16, none⟩ = some (.int .i64 x.id) ∧ w'.cell? ⟨N_c, 1, none⟩ = some (.int .i64 id)) (by kernel_rfl) ?_
     have hBh0 : Below wr.heap.size wr wr.drew := (Below.refl _ _).drew
     have hSh0 := And.intro l8 (And.intro q0 c1)
     refine tkH ?_ 0 18 rfl rfl ⟨by rfl, ?_⟩ hSh0 ?_;rotate_left
     ·rintro w' ⟨x0, x1, x2⟩;go_simp;(try with_reducible rfl)
     simp only [Act.put, pzA, pzB, pzC]
     refine tkH ?_ 1 19 rfl rfl ⟨by rfl, ?_⟩ hSh0 ?_;rotate_left
     ·rintro w' ⟨x0, x1, x2⟩;go_simp;(try with_reducible rfl)
     simp only [Act.put, pzA, pzB, pzC]
     refine tkH ?_ 2 20 rfl rfl ⟨by rfl, ?_⟩ hSh0 ?_;rotate_left
     ·rintro w' ⟨x0, x1, x2⟩;go_simp;(try with_reducible rfl)
     simp only [Act.put, pzA, pzB, pzC]
     refine tkH ?_ 3 21 rfl rfl ⟨by rfl, ?_⟩ hSh0 ?_;rotate_left
     ·rintro w' ⟨x0, x1, x2⟩;go_simp;(try with_reducible rfl)
     simp only [Act.put, pzA, pzB, pzC]
     refine tkH ?_ 4 22 rfl rfl ⟨by rfl, ?_⟩ hSh0 ?_;rotate_left
     ·rintro w' ⟨x0, x1, x2⟩;go_simp;(try with_reducible rfl)
     simp only [Act.put, pzA, pzB, pzC]
     refine tkH ?_ 5 23 rfl rfl ⟨by rfl, ?_⟩ hSh0 ?_;rotate_left
     ·rintro w' ⟨x0, x1, x2⟩;go_simp;(try with_reducible rfl)
     simp only [Act.put, pzA, pzB, pzC]
     refine tkH ?_ 6 24 rfl rfl ⟨by rfl, ?_⟩ hSh0 ?_;rotate_left
     ·rintro w' ⟨x0, x1, x2⟩;go_simp;(try with_reducible rfl)
     simp only [Act.put, pzA, pzB, pzC]
     refine tkH ?_ 7 25 rfl rfl ⟨by rfl, ?_⟩ hSh0 ?_;rotate_left
     ·rintro w' ⟨x0, x1, x2⟩;go_simp;(try with_reducible rfl)
     simp only [Act.put, pzA, pzB, pzC]
     refine tkH ?_ 8 26 rfl rfl ⟨by rfl, ?_⟩ hSh0 ?_;rotate_left
     ·rintro w' ⟨x0, x1, x2⟩;go_simp;(try with_reducible rfl)
     simp only [Act.put, pzA, pzB, pzC]
     refine tkH ?_ 9 27 rfl rfl ⟨by rfl, ?_⟩ hSh0 ?_;rotate_left
     ·rintro w' ⟨x0, x1, x2⟩;go_simp;(try with_reducible rfl)
     simp only [Act.put, pzA, pzB, pzC]
     refine wpAnyH_done (by kernel_rfl) ?_ _
     obtain ⟨D1, hD9⟩ : ∃ D, D = wr.drew := ⟨_, rfl⟩
     have hb9 : Below wr.heap.size wr D1 := by rw [hD9]; exact hBh0
     rw [← hD9]
     clear hD9
     have HB9 := Lib.hid hb9
     have hs9 := hb9.size
     replace HBel := Lib.hid (HBel.out.trans (hb9.mono hlow))
     replace B_l := Lib.hid ((hb9.block _ l_l).trans B_l.out)
     replace B_c := Lib.hid ((hb9.block _ l_c).trans B_c.out)
     replace B_j := Lib.hid ((hb9.block _ l_j).trans B_j.out)
     replace l_l : N_l < D1.heap.size := by omega
     replace l_c : N_c < D1.heap.size := by omega
     replace l_j : N_j < D1.heap.size := by omega
     replace hlow : w.heap.size ≤ D1.heap.size := by omega
     clear hb9 hs9 hSh0 hBh0 q0 l8 c1 t2
     have l8 : D1.cell? ⟨N_l, 8, none⟩ = some (.slice (some ⟨b, off, none⟩) n5 L.c5) := by rw [← HA0.out]; exact cell_blk (i := 8) B_l.out rfl
     have HX9 := Lib.hid (HX.out.keep hbW HB9.out)
     obtain ⟨j0, j1, j2, j3, j4, j5, j6, j7⟩ := cells8 B_j.out
     have jz0 : D1.frozen? ⟨N_j, 0, none⟩ = false := frozen_blk B_j.out
     have jz1 : D1.frozen? ⟨N_j, 1, none⟩ = false := frozen_blk B_j.out
     have jz2 : D1.frozen? ⟨N_j, 2, none⟩ = false := frozen_blk B_j.out
     have jz3 : D1.frozen? ⟨N_j, 3, none⟩ = false := frozen_blk B_j.out
     have jz4 : D1.frozen? ⟨N_j, 4, none⟩ = false := frozen_blk B_j.out
     have jz5 : D1.frozen? ⟨N_j, 5, none⟩ = false := frozen_blk B_j.out
     have jz6 : D1.frozen? ⟨N_j, 6, none⟩ = false := frozen_blk B_j.out
     have jz7 : D1.frozen? ⟨N_j, 7, none⟩ = false := frozen_blk B_j.out
     go_wp2_with (refine wpList_load_jb rfl _ rfl b (off + k * 16) x.J rfl HX9.out ?_)
     clear j0 j1 j2 j3 j4 j5 j6 j7 jz0 jz1 jz2 jz3 jz4 jz5 jz6 jz7
     obtain ⟨S2, hS2⟩ : ∃ W, W = ((((((((D1).setCell ⟨N_j, 0, none⟩ (.int .i64 x.J.id)).setCell ⟨N_j, 1, none⟩ (.int .i64 x.J.q)).setCell ⟨N_j, 2, none⟩ (.int .i64 x.J.p)).setCell ⟨N_j, 3, none⟩ (.int .i64 x.J.r)).setCell ⟨N_j, 4, none⟩ (.int .i64 x.J.g)).setCell ⟨N_j, 5, none⟩ (.int .i64 x.J.c)).setCell ⟨N_j, 6, none⟩ (.int .i64 x.J.mn)).setCell ⟨N_j, 7, none⟩ (.int .i64 x.J.mx) := ⟨_, rfl⟩
     rw [← hS2]
     have hzS2 : S2.heap.size = D1.heap.size := by rw [hS2]; simp
     replace HBel : Hid (Below w.heap.size w S2) := Lib.hid (by rw [hS2]; exact ((((((((HBel.out.setCell (g_j) _).setCell (g_j) _).setCell (g_j) _).setCell (g_j) _).setCell (g_j) _).setCell (g_j) _).setCell (g_j) _).setCell (g_j) _))
     replace B_l := Lib.hid (blk_eq hS2 (((Below.heap_setCell _ _ _ _ (show N_l ≠ N_j by omega)).trans ((Below.heap_setCell _ _ _ _ (show N_l ≠ N_j by omega)).trans ((Below.heap_setCell _ _ _ _ (show N_l ≠ N_j by omega)).trans ((Below.heap_setCell _ _ _ _ (show N_l ≠ N_j by omega)).trans ((Below.heap_setCell _ _ _ _ (show N_l ≠ N_j by omega)).trans ((Below.heap_setCell _ _ _ _ (show N_l ≠ N_j by omega)).trans ((Below.heap_setCell _ _ _ _ (show N_l ≠ N_j by omega)).trans ((Below.heap_setCell _ _ _ _ (show N_l ≠ N_j by omega)).trans B_l.out))))))))))
     replace B_c := Lib.hid (blk_eq hS2 (((Below.heap_setCell _ _ _ _ (show N_c ≠ N_j by omega)).trans ((Below.heap_setCell _ _ _ _ (show N_c ≠ N_j by omega)).trans ((Below.heap_setCell _ _ _ _ (show N_c ≠ N_j by omega)).trans ((Below.heap_setCell _ _ _ _ (show N_c ≠ N_j by omega)).trans ((Below.heap_setCell _ _ _ _ (show N_c ≠ N_j by omega)).trans ((Below.heap_setCell _ _ _ _ (show N_c ≠ N_j by omega)).trans ((Below.heap_setCell _ _ _ _ (show N_c ≠ N_j by omega)).trans ((Below.heap_setCell _ _ _ _ (show N_c ≠ N_j by omega)).trans B_c.out))))))))))
     replace B_j : Hid (S2.heap[N_j]? = some (.cells #[.int .i64 x.J.id, .int .i64 x.J.q, .int .i64 x.J.p, .int .i64 x.J.r, .int .i64 x.J.g, .int .i64 x.J.c, .int .i64 x.J.mn, .int .i64 x.J.mx] 38 (0, 0))) := Lib.hid (by rw [hS2]; exact (blk_put (i := 7) _ (blk_put (i := 6) _ (blk_put (i := 5) _ (blk_put (i := 4) _ (blk_put (i := 3) _ (blk_put (i := 2) _ (blk_put (i := 1) _ (blk_put (i := 0) _ B_j.out)))))))))
     replace l_l : N_l < S2.heap.size := by omega
     replace l_c : N_c < S2.heap.size := by omega
     replace l_j : N_j < S2.heap.size := by omega
     replace hlow : w.heap.size ≤ S2.heap.size := by omega
     clear hS2 hzS2
     obtain ⟨j0, j1, j2, j3, j4, j5, j6, j7⟩ := cells8 B_j.out
     refine bodyPost_ret (v := .tuple #[.agg #[.int .i64 x.J.id, .int .i64 x.J.q, .int .i64 x.J.p, .int .i64 x.J.r, .int .i64 x.J.g, .int .i64 x.J.c, .int .i64 x.J.mn, .int .i64 x.J.mx], .bool true]) (by simp [results, Tryz.results7, go_sem, j0, j1, j2, j3, j4, j5, j6, j7]) rfl ?_
     exact ⟨.inr ⟨x.J, by rw [HD3.out, find_at HQ.out.2 HQ.out.1 (by simp [HE.out])]; rfl, rfl⟩, by rw [HB0.out]; exact HBel.out⟩
    ·have t3 : (x.id == id) = false := by simpa using e
     have HN : Hid ((L.lr.take (k + 1)).find? (fun x => x.id == id) = none) := Lib.hid (find_on HQ.out.2 HQ.out.1 t3)
     clear e
     refine held_begin (fun w' : World => w'.cell? ⟨N_l, 8, none⟩ = some (.slice (some ⟨b, off, none⟩) n5 L.c5) ∧ w'.cell? ⟨b, off + k * 16, none⟩ = some (.int .i64 x.id) ∧ w'.cell? ⟨N_c, 1, none⟩ = some (.int .i64 id)) (by kernel_rfl) ?_
     have hBh0 : Below wr.heap.size wr wr.drew := (Below.refl _ _).drew
     have hSh0 := And.intro l8 (And.intro q0 c1)
     refine tkH ?_ 0 18 rfl rfl ⟨by rfl, ?_⟩ hSh0 ?_;rotate_left
     ·rintro w' ⟨x0, x1, x2⟩;go_simp;(try with_reducible rfl)
     simp only [Act.put, pzA, pzB, pzC]
     refine tkH ?_ 1 19 rfl rfl ⟨by rfl, ?_⟩ hSh0 ?_;rotate_left
     ·rintro w' ⟨x0, x1, x2⟩;go_simp;(try with_reducible rfl)
     simp only [Act.put, pzA, pzB, pzC]
     refine tkH ?_ 2 20 rfl rfl ⟨by rfl, ?_⟩ hSh0 ?_;rotate_left
     ·rintro w' ⟨x0, x1, x2⟩;go_simp;(try with_reducible rfl)
     simp only [Act.put, pzA, pzB, pzC]
     refine tkH ?_ 3 21 rfl rfl ⟨by rfl, ?_⟩ hSh0 ?_;rotate_left
     ·rintro w' ⟨x0, x1, x2⟩;go_simp;(try with_reducible rfl)
     simp only [Act.put, pzA, pzB, pzC]
     refine tkH ?_ 4 22 rfl rfl ⟨by rfl, ?_⟩ hSh0 ?_;rotate_left
     ·rintro w' ⟨x0, x1, x2⟩;go_simp;(try with_reducible rfl)
     simp only [Act.put, pzA, pzB, pzC]
     refine tkH ?_ 5 23 rfl rfl ⟨by rfl, ?_⟩ hSh0 ?_;rotate_left
     ·rintro w' ⟨x0, x1, x2⟩;go_simp;(try with_reducible rfl)
     simp only [Act.put, pzA, pzB, pzC]
     refine tkH ?_ 6 24 rfl rfl ⟨by rfl, ?_⟩ hSh0 ?_;rotate_left
     ·rintro w' ⟨x0, x1, x2⟩;go_simp;(try with_reducible rfl)
     simp only [Act.put, pzA, pzB, pzC]
     refine tkH ?_ 7 25 rfl rfl ⟨by rfl, ?_⟩ hSh0 ?_;rotate_left
     ·rintro w' ⟨x0, x1, x2⟩;go_simp;(try with_reducible rfl)
     simp only [Act.put, pzA, pzB, pzC]
     refine tkH ?_ 8 26 rfl rfl ⟨by rfl, ?_⟩ hSh0 ?_;rotate_left
     ·rintro w' ⟨x0, x1, x2⟩;go_simp;(try with_reducible rfl)
     simp only [Act.put, pzA, pzB, pzC]
     refine tkH ?_ 9 27 rfl rfl ⟨by rfl, ?_⟩ hSh0 ?_;rotate_left
     ·rintro w' ⟨x0, x1, x2⟩;go_simp;(try with_reducible rfl)
     simp only [Act.put, pzA, pzB, pzC]
     refine wpAnyH_done (by kernel_rfl) ?_ _
     obtain ⟨D1, hD9⟩ : ∃ D, D = wr.drew := ⟨_, rfl⟩
     have hb9 : Below wr.heap.size wr D1 := by rw [hD9]; exact hBh0
     rw [← hD9]
     clear hD9
     have hs9 := hb9.size
     replace HBel := Lib.hid (HBel.out.trans (hb9.mono hlow))
     replace B_l := Lib.hid ((hb9.block _ l_l).trans B_l.out)
     replace B_c := Lib.hid ((hb9.block _ l_c).trans B_c.out)
     replace B_j := Lib.hid ((hb9.block _ l_j).trans B_j.out)
     replace l_l : N_l < D1.heap.size := by omega
     replace l_c : N_c < D1.heap.size := by omega
     replace l_j : N_j < D1.heap.size := by omega
     replace hlow : w.heap.size ≤ D1.heap.size := by omega
     clear hb9 hs9 hSh0 hBh0 q0 l8 c1 t2
     go_wp2
     go_roundw
     case rel => exact ⟨k + 1, by go_num, by omega, l_l, l_c, l_j, HBel, B_l, B_c, B_j, HN⟩
     case measure => simp [intOf]; omega
   ·obtain rfl : n5 = k := by omega
    have u1 : decide (n5 < n5) = false := decide_eq_false hlt
    have HN := Lib.hid (show o = none from by have h9 := hI.out; rw [HT5.out.2, List.take_length] at h9; rw [HD3.out, h9]; rfl)
    clear hI
    obtain ⟨l0, l1, l2, l3, l4, l5, l6, l7, l8⟩ := cells9 B_l.out
    obtain ⟨j0, j1, j2, j3, j4, j5, j6, j7⟩ := cells8 B_j.out
    have jz0 : wr.frozen? ⟨N_j, 0, none⟩ = false := frozen_blk B_j.out
    have jz1 : wr.frozen? ⟨N_j, 1, none⟩ = false := frozen_blk B_j.out
    have jz2 : wr.frozen? ⟨N_j, 2, none⟩ = false := frozen_blk B_j.out
    have jz3 : wr.frozen? ⟨N_j, 3, none⟩ = false := frozen_blk B_j.out
    have jz4 : wr.frozen? ⟨N_j, 4, none⟩ = false := frozen_blk B_j.out
    have jz5 : wr.frozen? ⟨N_j, 5, none⟩ = false := frozen_blk B_j.out
    have jz6 : wr.frozen? ⟨N_j, 6, none⟩ = false := frozen_blk B_j.out
    have jz7 : wr.frozen? ⟨N_j, 7, none⟩ = false := frozen_blk B_j.out
    go_wp2_with fail
    clear l0 l1 l2 l3 l4 l5 l6 l7 l8 j0 j1 j2 j3 j4 j5 j6 j7 jz0 jz1 jz2 jz3 jz4 jz5 jz6 jz7
    obtain ⟨S1, hS1⟩ : ∃ W, W = ((((((((wr).setCell ⟨N_j, 0, none⟩ (.int .i64 0)).setCell ⟨N_j, 1, none⟩ (.int .i64 0)).setCell ⟨N_j, 2, none⟩ (.int .i64 0)).setCell ⟨N_j, 3, none⟩ (.int .i64 0)).setCell ⟨N_j, 4, none⟩ (.int .i64 0)).setCell ⟨N_j, 5, none⟩ (.int .i64 0)).setCell ⟨N_j, 6, none⟩ (.int .i64 0)).setCell ⟨N_j, 7, none⟩ (.int .i64 0) := ⟨_, rfl⟩
    rw [← hS1]
    have hzS1 : S1.heap.size = wr.heap.size := by rw [hS1]; simp
    replace HBel : Hid (Below w.heap.size w S1) := Lib.hid (by rw [hS1]; exact ((((((((HBel.out.setCell (g_j) _).setCell (g_j) _).setCell (g_j) _).setCell (g_j) _).setCell (g_j) _).setCell (g_j) _).setCell (g_j) _).setCell (g_j) _))
    replace B_l := Lib.hid (blk_eq hS1 (((Below.heap_setCell _ _ _ _ (show N_l ≠ N_j by omega)).trans ((Below.heap_setCell _ _ _ _ (show N_l ≠ N_j by omega)).trans ((Below.heap_setCell _ _ _ _ (show N_l ≠ N_j by omega)).trans ((Below.heap_setCell _ _ _ _ (show N_l ≠ N_j by omega)).trans ((Below.heap_setCell _ _ _ _ (show N_l ≠ N_j by omega)).trans ((Below.heap_setCell _ _ _ _ (show N_l ≠ N_j by omega)).trans ((Below.heap_setCell _ _ _ _ (show N_l ≠ N_j by omega)).trans ((Below.heap_setCell _ _ _ _ (show N_l ≠ N_j by omega)).trans B_l.out))))))))))
    replace B_c := Lib.hid (blk_eq hS1 (((Below.heap_setCell _ _ _ _ (show N_c ≠ N_j by omega)).trans ((Below.heap_setCell _ _ _ _ (show N_c ≠ N_j by omega)).trans ((Below.heap_setCell _ _ _ _ (show N_c ≠ N_j by omega)).trans ((Below.heap_setCell _ _ _ _ (show N_c ≠ N_j by omega)).trans ((Below.heap_setCell _ _ _ _ (show N_c ≠ N_j by omega)).trans ((Below.heap_setCell _ _ _ _ (show N_c ≠ N_j by omega)).trans ((Below.heap_setCell _ _ _ _ (show N_c ≠ N_j by omega)).trans ((Below.heap_setCell _ _ _ _ (show N_c ≠ N_j by omega)).trans B_c.out))))))))))
    replace B_j : Hid (S1.heap[N_j]? = some (.cells #[.int .i64 0, .int .i64 0, .int .i64 0, .int .i64 0, .int .i64 0, .int .i64 0, .int .i64 0, .int .i64 0] 38 (0, 0))) := Lib.hid (by rw [hS1]; exact (blk_put (i := 7) _ (blk_put (i := 6) _ (blk_put (i := 5) _ (blk_put (i := 4) _ (blk_put (i := 3) _ (blk_put (i := 2) _ (blk_put (i := 1) _ (blk_put (i := 0) _ B_j.out)))))))))
    replace l_l : N_l < S1.heap.size := by omega
    replace l_c : N_c < S1.heap.size := by omega
    replace l_j : N_j < S1.heap.size := by omega
    replace hlow : w.heap.size ≤ S1.heap.size := by omega
    clear hS1 hzS1
    obtain ⟨j0, j1, j2, j3, j4, j5, j6, j7⟩ := cells8 B_j.out
    refine bodyPost_ret (v := .tuple #[.agg #[.int .i64 0, .int .i64 0, .int .i64 0, .int .i64 0, .int .i64 0, .int .i64 0, .int .i64 0, .int .i64 0], .bool false]) (by simp [results, Tryz.results7, go_sem, j0, j1, j2, j3, j4, j5, j6, j7]) rfl ?_
    exact ⟨.inl ⟨HN.out, rfl⟩, by rw [HB0.out]; exact HBel.out⟩
 ·have HD := Lib.hid hd
  have t0 : (d == 3) = false := by simp [hd]
  have HD3 := Lib.hid (HO.out.trans (if_neg hd))
  clear HO
  clear hd
  obtain ⟨B0, hB0⟩ : ∃ B, B = w.heap.size := ⟨_, rfl⟩
  rw [← hB0]
  have HB0 := Lib.hid hB0
  clear hB0
  have HBel := Lib.hid (Below.refl w.heap.size w)
  have hlow : w.heap.size ≤ w.heap.size := Nat.le_refl _
  go_enter Tryz.func7, Tryz.ntmps7
  go_wp2_with fail
  obtain ⟨V1, hV1⟩ : ∃ W, W = ((w.alloc (.cells #[.int .i64 L.now, .int .i64 L.hd, .int .i64 L.pr, .int .i64 L.to, .slice L.A1 n1 L.c1, .slice L.A2 n2 L.c2, .slice L.A3 n3 L.c3, .slice L.A4 n4 L.c4, .slice L.A5 n5 L.c5] 28)).alloc (.cells #[.int .i64 d, .int .i64 id, .slice A kc c] 33)).alloc (.cells #[.int .i64 0, .int .i64 0, .int .i64 0, .int .i64 0, .int .i64 0, .int .i64 0, .int .i64 0, .int .i64 0] 38) := ⟨_, rfl⟩
  rw [← hV1]
  have hzV1 : V1.heap.size = w.heap.size + 1 + 1 + 1 := by rw [hV1]; simp
  replace HBel := Lib.hid (below_eq hV1 ((((HBel.out.alloc (hlow) _).alloc (by simp <;> omega) _).alloc (by simp <;> omega) _)))
  have B_l := Lib.hid (new30 hV1)
  have B_c := Lib.hid (new31 hV1)
  have B_j := Lib.hid (new32 hV1)
  obtain ⟨N_l, hN_l⟩ : ∃ N, N = w.heap.size := ⟨_, rfl⟩
  obtain ⟨N_c, hN_c⟩ : ∃ N, N = w.heap.size + 1 := ⟨_, rfl⟩
  obtain ⟨N_j, hN_j⟩ : ∃ N, N = w.heap.size + 1 + 1 := ⟨_, rfl⟩
  (try rw [← hN_j])
  rw [← hN_j] at B_j
  (try rw [← hN_c])
  rw [← hN_c] at B_c
  (try rw [← hN_l])
  rw [← hN_l] at B_l
  have l_l : N_l < V1.heap.size := by omega
  have l_c : N_c < V1.heap.size := by omega
  have l_j : N_j < V1.heap.size := by omega
  have g_l : w.heap.size ≤ N_l := by omega
  have g_c : w.heap.size ≤ N_c := by omega
  have g_j : w.heap.size ≤ N_j := by omega
  have d_l_c : N_l < N_c := by omega
  have d_c_j : N_c < N_j := by omega
  replace hlow : w.heap.size ≤ V1.heap.size := by omega
  clear hV1 hzV1 hN_l hN_c hN_j
  have HI0 : Hid ((L.lw.take 0).find? (fun x => x.id == id) = none) := Lib.hid rfl
  obtain ⟨l0, l1, l2, l3, l4, l5, l6, l7, l8⟩ := cells9 B_l.out
  obtain ⟨c0, c1, c2⟩ := cells3 B_c.out
  go_wp2
  go_loopw [7] (fun vi wr => ∃ k : Nat, vi = .int .i64 k ∧ k ≤ n4 ∧ N_l < wr.heap.size ∧ N_c < wr.heap.size ∧ N_j < wr.heap.size ∧ Hid (Below w.heap.size w wr) ∧ Hid (wr.heap[N_l]? = some (.cells #[.int .i64 L.now, .int .i64 L.hd, .int .i64 L.pr, .int .i64 L.to, .slice L.A1 n1 L.c1, .slice L.A2 n2 L.c2, .slice L.A3 n3 L.c3, .slice L.A4 n4 L.c4, .slice L.A5 n5 L.c5] 28 (0, 0))) ∧ Hid (wr.heap[N_c]? = some (.cells #[.int .i64 d, .int .i64 id, .slice A kc c] 33 (0, 0))) ∧ Hid (wr.heap[N_j]? = some (.cells #[.int .i64 0, .int .i64 0, .int .i64 0, .int .i64 0, .int .i64 0, .int .i64 0, .int .i64 0, .int .i64 0] 38 (0, 0))) ∧ Hid ((L.lw.take k).find? (fun x => x.id == id) = none)) (fun vi _ => n4 - (intOf vi).toNat)
  case atStart => exact ⟨0, rfl, by omega, l_l, l_c, l_j, HBel, B_l, B_c, B_j, HI0⟩
  case round =>
   clear HBel B_l B_c B_j l_l l_c l_j hlow HI0 l0 l1 l2 l3 l4 l5 l6 l7 l8 c0 c1 c2
   obtain ⟨k, rfl, hk, l_l, l_c, l_j, HBel, B_l, B_c, B_j, hI⟩ := hrel
   have hlow := HBel.out.size
   by_cases hlt : k < n4
   ·have u1 : decide (k < n4) = true := decide_eq_true hlt
    obtain ⟨x, hx⟩ := get_lt (l := L.lw) (k := k) (by rw [← HT4.out.2]; exact hlt)
    obtain ⟨b, off, hA, hb, hall⟩ := HT4.out.1.at_ hx
    have hbW : b < wr.heap.size := by omega
    have hcx := (hall k x hx).keep hb HBel.out
    have HX := Lib.hid (show CellsAt wr b (off + k * 10) (jbC x.J) from fun r v hr => hcx r v (by rcases r with _ | _ | _ | _ | _ | _ | _ | _ | r <;> first | exact hr | (simp [jbC] at hr)))
    have q0 : wr.cell? ⟨b, off + k * 10, none⟩ = some (.int .i64 x.id) := hcx 0 _ rfl
    have l7 : wr.cell? ⟨N_l, 7, none⟩ = some (.slice (some ⟨b, off, none⟩) n4 L.c4) := by rw [← hA]; exact cell_blk (i := 7) B_l.out rfl
    have c1 : wr.cell? ⟨N_c, 1, none⟩ = some (.int .i64 id) := cell_blk (i := 1) B_c.out rfl
    have t2 : decide (k < n4) = true := decide_eq_true hlt
    have HQ := Lib.hid (And.intro hx hI.out)
    have HA0 := Lib.hid hA
    clear hall hx hb hA hI hcx
    go_wp2_with fail
    by_cases e : x.id = id
    ·have t3 : (x.id == id) = true := by simpa using e
     have HE := Lib.hid e
     clear e
     refine held_begin (fun w' : World => w'.cell? ⟨N_l, 7, none⟩ = some (.slice (some ⟨b, off, none⟩) n4 L.c4) ∧ w'.cell? ⟨b, off + k * 10, none⟩ = some (.int .i64 x.id) ∧ w'.cell? ⟨N_c, 1, none⟩ = some (.int .i64 id)) (by kernel_rfl) ?_
     have hBh0 : Below wr.heap.size wr wr.drew := (Below.refl _ _).drew
     have hSh0 := And.intro l7 (And.intro q0 c1)
     refine tkH ?_ 0 42 rfl rfl ⟨by rfl, ?_⟩ hSh0 ?_;rotate_left
     ·rintro w' ⟨x0, x1, x2⟩;go_simp;(try with_reducible rfl)
     simp only [Act.put, pzA, pzB, pzC]
     refine tkH ?_ 1 43 rfl rfl ⟨by rfl, ?_⟩ hSh0 ?_;rotate_left
     ·rintro w' ⟨x0, x1, x2⟩;go_simp;(try with_reducible rfl)
     simp only [Act.put, pzA, pzB, pzC]
     refine tkH ?_ 2 44 rfl rfl ⟨by rfl, ?_⟩ hSh0 ?_;rotate_left
     ·rintro w' ⟨x0, x1, x2⟩;go_simp;(try with_reducible rfl)
     simp only [Act.put, pzA, pzB, pzC]
     refine tkH ?_ 3 45 rfl rfl ⟨by rfl, ?_⟩ hSh0 ?_;rotate_left
     ·rintro w' ⟨x0, x1, x2⟩;go_simp;(try with_reducible rfl)
     simp only [Act.put, pzA, pzB, pzC]
     refine tkH ?_ 4 46 rfl rfl ⟨by rfl, ?_⟩ hSh0 ?_;rotate_left
     ·rintro w' ⟨x0, x1, x2⟩;go_simp;(try with_reducible rfl)
     simp only [Act.put, pzA, pzB, pzC]
     refine tkH ?_ 5 47 rfl rfl ⟨by rfl, ?_⟩ hSh0 ?_;rotate_left
     ·rintro w' ⟨x0, x1, x2⟩;go_simp;(try with_reducible rfl)
     simp only [Act.put, pzA, pzB, pzC]
     refine tkH ?_ 6 48 rfl rfl ⟨by rfl, ?_⟩ hSh0 ?_;rotate_left
     ·rintro w' ⟨x0, x1, x2⟩;go_simp;(try with_reducible rfl)
     simp only [Act.put, pzA, pzB, pzC]
     refine tkH ?_ 7 49 rfl rfl ⟨by rfl, ?_⟩ hSh0 ?_;rotate_left
     ·rintro w' ⟨x0, x1, x2⟩;go_simp;(try with_reducible rfl)
     simp only [Act.put, pzA, pzB, pzC]
     refine tkH ?_ 8 50 rfl rfl ⟨by rfl, ?_⟩ hSh0 ?_;rotate_left
     ·rintro w' ⟨x0, x1, x2⟩;go_simp;(try with_reducible rfl)
     simp only [Act.put, pzA, pzB, pzC]
     refine tkH ?_ 9 51 rfl rfl ⟨by rfl, ?_⟩ hSh0 ?_;rotate_left
     ·rintro w' ⟨x0, x1, x2⟩;go_simp;(try with_reducible rfl)
     simp only [Act.put, pzA, pzB, pzC]
     refine wpAnyH_done (by kernel_rfl) ?_ _
     obtain ⟨D1, hD9⟩ : ∃ D, D = wr.drew := ⟨_, rfl⟩
     have hb9 : Below wr.heap.size wr D1 := by rw [hD9]; exact hBh0
     rw [← hD9]
     clear hD9
     have HB9 := Lib.hid hb9
     have hs9 := hb9.size
     replace HBel := Lib.hid (HBel.out.trans (hb9.mono hlow))
     replace B_l := Lib.hid ((hb9.block _ l_l).trans B_l.out)
     replace B_c := Lib.hid ((hb9.block _ l_c).trans B_c.out)
     replace B_j := Lib.hid ((hb9.block _ l_j).trans B_j.out)
     replace l_l : N_l < D1.heap.size := by omega
     replace l_c : N_c < D1.heap.size := by omega
     replace l_j : N_j < D1.heap.size := by omega
     replace hlow : w.heap.size ≤ D1.heap.size := by omega
     clear hb9 hs9 hSh0 hBh0 q0 l7 c1 t2
     have l7 : D1.cell? ⟨N_l, 7, none⟩ = some (.slice (some ⟨b, off, none⟩) n4 L.c4) := by rw [← HA0.out]; exact cell_blk (i := 7) B_l.out rfl
     have HX9 := Lib.hid (HX.out.keep hbW HB9.out)
     obtain ⟨j0, j1, j2, j3, j4, j5, j6, j7⟩ := cells8 B_j.out
     have jz0 : D1.frozen? ⟨N_j, 0, none⟩ = false := frozen_blk B_j.out
     have jz1 : D1.frozen? ⟨N_j, 1, none⟩ = false := frozen_blk B_j.out
     have jz2 : D1.frozen? ⟨N_j, 2, none⟩ = false := frozen_blk B_j.out
     have jz3 : D1.frozen? ⟨N_j, 3, none⟩ = false := frozen_blk B_j.out
     have jz4 : D1.frozen? ⟨N_j, 4, none⟩ = false := frozen_blk B_j.out
     have jz5 : D1.frozen? ⟨N_j, 5, none⟩ = false := frozen_blk B_j.out
     have jz6 : D1.frozen? ⟨N_j, 6, none⟩ = false := frozen_blk B_j.out
     have jz7 : D1.frozen? ⟨N_j, 7, none⟩ = false := frozen_blk B_j.out
     go_wp2_with (refine wpList_load_jb rfl _ rfl b (off + k * 10) x.J rfl HX9.out ?_)
     clear j0 j1 j2 j3 j4 j5 j6 j7 jz0 jz1 jz2 jz3 jz4 jz5 jz6 jz7
     obtain ⟨S2, hS2⟩ : ∃ W, W = ((((((((D1).setCell ⟨N_j, 0, none⟩ (.int .i64 x.J.id)).setCell ⟨N_j, 1, none⟩ (.int .i64 x.J.q)).setCell ⟨N_j, 2, none⟩ (.int .i64 x.J.p)).setCell ⟨N_j, 3, none⟩ (.int .i64 x.J.r)).setCell ⟨N_j, 4, none⟩ (.int .i64 x.J.g)).setCell ⟨N_j, 5, none⟩ (.int .i64 x.J.c)).setCell ⟨N_j, 6, none⟩ (.int .i64 x.J.mn)).setCell ⟨N_j, 7, none⟩ (.int .i64 x.J.mx) := ⟨_, rfl⟩
     rw [← hS2]
     have hzS2 : S2.heap.size = D1.heap.size := by rw [hS2]; simp
     replace HBel : Hid (Below w.heap.size w S2) := Lib.hid (by rw [hS2]; exact ((((((((HBel.out.setCell (g_j) _).setCell (g_j) _).setCell (g_j) _).setCell (g_j) _).setCell (g_j) _).setCell (g_j) _).setCell (g_j) _).setCell (g_j) _))
     replace B_l := Lib.hid (blk_eq hS2 (((Below.heap_setCell _ _ _ _ (show N_l ≠ N_j by omega)).trans ((Below.heap_setCell _ _ _ _ (show N_l ≠ N_j by omega)).trans ((Below.heap_setCell _ _ _ _ (show N_l ≠ N_j by omega)).trans ((Below.heap_setCell _ _ _ _ (show N_l ≠ N_j by omega)).trans ((Below.heap_setCell _ _ _ _ (show N_l ≠ N_j by omega)).trans ((Below.heap_setCell _ _ _ _ (show N_l ≠ N_j by omega)).trans ((Below.heap_setCell _ _ _ _ (show N_l ≠ N_j by omega)).trans ((Below.heap_setCell _ _ _ _ (show N_l ≠ N_j by omega)).trans B_l.out))))))))))
     replace B_c := Lib.hid (blk_eq hS2 (((Below.heap_setCell _ _ _ _ (show N_c ≠ N_j by omega)).trans ((Below.heap_setCell _ _ _ _ (show N_c ≠ N_j by omega)).trans ((Below.heap_setCell _ _ _ _ (show N_c ≠ N_j by omega)).trans ((Below.heap_setCell _ _ _ _ (show N_c ≠ N_j by omega)).trans ((Below.heap_setCell _ _ _ _ (show N_c ≠ N_j by omega)).trans ((Below.heap_setCell _ _ _ _ (show N_c ≠ N_j by omega)).trans ((Below.heap_setCell _ _ _ _ (show N_c ≠ N_j by omega)).trans ((Below.heap_setCell _ _ _ _ (show N_c ≠ N_j by omega)).trans B_c.out))))))))))
     replace B_j : Hid (S2.heap[N_j]? = some (.cells #[.int .i64 x.J.id, .int .i64 x.J.q, .int .i64 x.J.p, .int .i64 x.J.r, .int .i64 x.J.g, .int .i64 x.J.c, .int .i64 x.J.mn, .int .i64 x.J.mx] 38 (0, 0))) := Lib.hid (by rw [hS2]; exact (blk_put (i := 7) _ (blk_put (i := 6) _ (blk_put (i := 5) _ (blk_put (i := 4) _ (blk_put (i := 3) _ (blk_put (i := 2) _ (blk_put (i := 1) _ (blk_put (i := 0) _ B_j.out)))))))))
     replace l_l : N_l < S2.heap.size := by omega
     replace l_c : N_c < S2.heap.size := by omega
     replace l_j : N_j < S2.heap.size := by omega
     replace hlow : w.heap.size ≤ S2.heap.size := by omega
     clear hS2 hzS2
     obtain ⟨j0, j1, j2, j3, j4, j5, j6, j7⟩ := cells8 B_j.out
     refine bodyPost_ret (v := .tuple #[.agg #[.int .i64 x.J.id, .int .i64 x.J.q, .int .i64 x.J.p, .int .i64 x.J.r, .int .i64 x.J.g, .int .i64 x.J.c, .int .i64 x.J.mn, .int .i64 x.J.mx], .bool true]) (by simp [results, Tryz.results7, go_sem, j0, j1, j2, j3, j4, j5, j6, j7]) rfl ?_
     exact ⟨.inr ⟨x.J, by rw [HD3.out, find_at HQ.out.2 HQ.out.1 (by simp [HE.out])]; rfl, rfl⟩, by rw [HB0.out]; exact HBel.out⟩
    ·have t3 : (x.id == id) = false := by simpa using e
     have HN : Hid ((L.lw.take (k + 1)).find? (fun x => x.id == id) = none) := Lib.hid (find_on HQ.out.2 HQ.out.1 t3)
     clear e
     refine held_begin (fun w' : World => w'.cell? ⟨N_l, 7, none⟩ = some (.slice (some ⟨b, off, none⟩) n4 L.c4) ∧ w'.cell? ⟨b, off + k * 10, none⟩ = some (.int .i64 x.id) ∧ w'.cell? ⟨N_c, 1, none⟩ = some (.int .i64 id)) (by kernel_rfl) ?_
     have hBh0 : Below wr.heap.size wr wr.drew := (Below.refl _ _).drew
     have hSh0 := And.intro l7 (And.intro q0 c1)
     refine tkH ?_ 0 42 rfl rfl ⟨by rfl, ?_⟩ hSh0 ?_;rotate_left
     ·rintro w' ⟨x0, x1, x2⟩;go_simp;(try with_reducible rfl)
     simp only [Act.put, pzA, pzB, pzC]
     refine tkH ?_ 1 43 rfl rfl ⟨by rfl, ?_⟩ hSh0 ?_;rotate_left
     ·rintro w' ⟨x0, x1, x2⟩;go_simp;(try with_reducible rfl)
     simp only [Act.put, pzA, pzB, pzC]
     refine tkH ?_ 2 44 rfl rfl ⟨by rfl, ?_⟩ hSh0 ?_;rotate_left
     ·rintro w' ⟨x0, x1, x2⟩;go_simp;(try with_reducible rfl)
     simp only [Act.put, pzA, pzB, pzC]
     refine tkH ?_ 3 45 rfl rfl ⟨by rfl, ?_⟩ hSh0 ?_;rotate_left
     ·rintro w' ⟨x0, x1, x2⟩;go_simp;(try with_reducible rfl)
     simp only [Act.put, pzA, pzB, pzC]
     refine tkH ?_ 4 46 rfl rfl ⟨by rfl, ?_⟩ hSh0 ?_;rotate_left
     ·rintro w' ⟨x0, x1, x2⟩;go_simp;(try with_reducible rfl)
     simp only [Act.put, pzA, pzB, pzC]
     refine tkH ?_ 5 47 rfl rfl ⟨by rfl, ?_⟩ hSh0 ?_;rotate_left
     ·rintro w' ⟨x0, x1, x2⟩;go_simp;(try with_reducible rfl)
     simp only [Act.put, pzA, pzB, pzC]
     refine tkH ?_ 6 48 rfl rfl ⟨by rfl, ?_⟩ hSh0 ?_;rotate_left
     ·rintro w' ⟨x0, x1, x2⟩;go_simp;(try with_reducible rfl)
     simp only [Act.put, pzA, pzB, pzC]
     refine tkH ?_ 7 49 rfl rfl ⟨by rfl, ?_⟩ hSh0 ?_;rotate_left
     ·rintro w' ⟨x0, x1, x2⟩;go_simp;(try with_reducible rfl)
     simp only [Act.put, pzA, pzB, pzC]
     refine tkH ?_ 8 50 rfl rfl ⟨by rfl, ?_⟩ hSh0 ?_;rotate_left
     ·rintro w' ⟨x0, x1, x2⟩;go_simp;(try with_reducible rfl)
     simp only [Act.put, pzA, pzB, pzC]
     refine tkH ?_ 9 51 rfl rfl ⟨by rfl, ?_⟩ hSh0 ?_;rotate_left
     ·rintro w' ⟨x0, x1, x2⟩;go_simp;(try with_reducible rfl)
     simp only [Act.put, pzA, pzB, pzC]
     refine wpAnyH_done (by kernel_rfl) ?_ _
     obtain ⟨D1, hD9⟩ : ∃ D, D = wr.drew := ⟨_, rfl⟩
     have hb9 : Below wr.heap.size wr D1 := by rw [hD9]; exact hBh0
     rw [← hD9]
     clear hD9
     have hs9 := hb9.size
     replace HBel := Lib.hid (HBel.out.trans (hb9.mono hlow))
     replace B_l := Lib.hid ((hb9.block _ l_l).trans B_l.out)
     replace B_c := Lib.hid ((hb9.block _ l_c).trans B_c.out)
     replace B_j := Lib.hid ((hb9.block _ l_j).trans B_j.out)
     replace l_l : N_l < D1.heap.size := by omega
     replace l_c : N_c < D1.heap.size := by omega
     replace l_j : N_j < D1.heap.size := by omega
     replace hlow : w.heap.size ≤ D1.heap.size := by omega
     clear hb9 hs9 hSh0 hBh0 q0 l7 c1 t2
     go_wp2
     go_roundw
     case rel => exact ⟨k + 1, by go_num, by omega, l_l, l_c, l_j, HBel, B_l, B_c, B_j, HN⟩
     case measure => simp [intOf]; omega
   ·obtain rfl : n4 = k := by omega
    have u1 : decide (n4 < n4) = false := decide_eq_false hlt
    have HN := Lib.hid (show o = none from by have h9 := hI.out; rw [HT4.out.2, List.take_length] at h9; rw [HD3.out, h9]; rfl)
    clear hI
    obtain ⟨l0, l1, l2, l3, l4, l5, l6, l7, l8⟩ := cells9 B_l.out
    obtain ⟨j0, j1, j2, j3, j4, j5, j6, j7⟩ := cells8 B_j.out
    have jz0 : wr.frozen? ⟨N_j, 0, none⟩ = false := frozen_blk B_j.out
    have jz1 : wr.frozen? ⟨N_j, 1, none⟩ = false := frozen_blk B_j.out
    have jz2 : wr.frozen? ⟨N_j, 2, none⟩ = false := frozen_blk B_j.out
    have jz3 : wr.frozen? ⟨N_j, 3, none⟩ = false := frozen_blk B_j.out
    have jz4 : wr.frozen? ⟨N_j, 4, none⟩ = false := frozen_blk B_j.out
    have jz5 : wr.frozen? ⟨N_j, 5, none⟩ = false := frozen_blk B_j.out
    have jz6 : wr.frozen? ⟨N_j, 6, none⟩ = false := frozen_blk B_j.out
    have jz7 : wr.frozen? ⟨N_j, 7, none⟩ = false := frozen_blk B_j.out
    go_wp2_with fail
    clear l0 l1 l2 l3 l4 l5 l6 l7 l8 j0 j1 j2 j3 j4 j5 j6 j7 jz0 jz1 jz2 jz3 jz4 jz5 jz6 jz7
    obtain ⟨S1, hS1⟩ : ∃ W, W = ((((((((wr).setCell ⟨N_j, 0, none⟩ (.int .i64 0)).setCell ⟨N_j, 1, none⟩ (.int .i64 0)).setCell ⟨N_j, 2, none⟩ (.int .i64 0)).setCell ⟨N_j, 3, none⟩ (.int .i64 0)).setCell ⟨N_j, 4, none⟩ (.int .i64 0)).setCell ⟨N_j, 5, none⟩ (.int .i64 0)).setCell ⟨N_j, 6, none⟩ (.int .i64 0)).setCell ⟨N_j, 7, none⟩ (.int .i64 0) := ⟨_, rfl⟩
    rw [← hS1]
    have hzS1 : S1.heap.size = wr.heap.size := by rw [hS1]; simp
    replace HBel : Hid (Below w.heap.size w S1) := Lib.hid (by rw [hS1]; exact ((((((((HBel.out.setCell (g_j) _).setCell (g_j) _).setCell (g_j) _).setCell (g_j) _).setCell (g_j) _).setCell (g_j) _).setCell (g_j) _).setCell (g_j) _))
    replace B_l := Lib.hid (blk_eq hS1 (((Below.heap_setCell _ _ _ _ (show N_l ≠ N_j by omega)).trans ((Below.heap_setCell _ _ _ _ (show N_l ≠ N_j by omega)).trans ((Below.heap_setCell _ _ _ _ (show N_l ≠ N_j by omega)).trans ((Below.heap_setCell _ _ _ _ (show N_l ≠ N_j by omega)).trans ((Below.heap_setCell _ _ _ _ (show N_l ≠ N_j by omega)).trans ((Below.heap_setCell _ _ _ _ (show N_l ≠ N_j by omega)).trans ((Below.heap_setCell _ _ _ _ (show N_l ≠ N_j by omega)).trans ((Below.heap_setCell _ _ _ _ (show N_l ≠ N_j by omega)).trans B_l.out))))))))))
    replace B_c := Lib.hid (blk_eq hS1 (((Below.heap_setCell _ _ _ _ (show N_c ≠ N_j by omega)).trans ((Below.heap_setCell _ _ _ _ (show N_c ≠ N_j by omega)).trans ((Below.heap_setCell _ _ _ _ (show N_c ≠ N_j by omega)).trans ((Below.heap_setCell _ _ _ _ (show N_c ≠ N_j by omega)).trans ((Below.heap_setCell _ _ _ _ (show N_c ≠ N_j by omega)).trans ((Below.heap_setCell _ _ _ _ (show N_c ≠ N_j by omega)).trans ((Below.heap_setCell _ _ _ _ (show N_c ≠ N_j by omega)).trans ((Below.heap_setCell _ _ _ _ (show N_c ≠ N_j by omega)).trans B_c.out))))))))))
    replace B_j : Hid (S1.heap[N_j]? = some (.cells #[.int .i64 0, .int .i64 0, .int .i64 0, .int .i64 0, .int .i64 0, .int .i64 0, .int .i64 0, .int .i64 0] 38 (0, 0))) := Lib.hid (by rw [hS1]; exact (blk_put (i := 7) _ (blk_put (i := 6) _ (blk_put (i := 5) _ (blk_put (i := 4) _ (blk_put (i := 3) _ (blk_put (i := 2) _ (blk_put (i := 1) _ (blk_put (i := 0) _ B_j.out)))))))))
    replace l_l : N_l < S1.heap.size := by omega
    replace l_c : N_c < S1.heap.size := by omega
    replace l_j : N_j < S1.heap.size := by omega
    replace hlow : w.heap.size ≤ S1.heap.size := by omega
    clear hS1 hzS1
    obtain ⟨j0, j1, j2, j3, j4, j5, j6, j7⟩ := cells8 B_j.out
    refine bodyPost_ret (v := .tuple #[.agg #[.int .i64 0, .int .i64 0, .int .i64 0, .int .i64 0, .int .i64 0, .int .i64 0, .int .i64 0, .int .i64 0], .bool false]) (by simp [results, Tryz.results7, go_sem, j0, j1, j2, j3, j4, j5, j6, j7]) rfl ?_
    exact ⟨.inl ⟨HN.out, rfl⟩, by rw [HB0.out]; exact HBel.out⟩
end Go.Proofs.YtnaejfbmgjgcfaaGreatDoor

set_option linter.unusedVariables false
set_option maxRecDepth 100000
namespace Go.Proofs.YtnaejfbmgjgcfaaGreatDoor
open Go.RowKit
open PR
def Apart {α : Type} (f : α → Int) (l : List α) (m : Nat) : Prop := ∀ i j x y, i < m → j < i → l[i]? = some x → l[j]? = some y → f x ≠ f y
theorem Apart.once {α : Type} {f : α → Int} {l : List α} (h : Apart f l l.length) : ∀ x ∈ l, ∀ y ∈ l, f x = f y → x = y := fun x hx y hy e => by
 obtain ⟨i, hi⟩ := List.getElem?_of_mem hx
 obtain ⟨j, hj⟩ := List.getElem?_of_mem hy
 have li := (List.getElem?_eq_some_iff.1 hi).1
 have lj := (List.getElem?_eq_some_iff.1 hj).1
 rcases Nat.lt_trichotomy i j with hij | hij | hij
 ·exact absurd e.symm (h j i y x lj hij hj hi)
 ·subst hij; rw [hi] at hj; injection hj
 ·exact absurd e (h i j x y li hij hi hj)
theorem Apart.next {α : Type} {f : α → Int} {l : List α} {m : Nat} {x : α} (h : Apart f l m) (hx : l[m]? = some x) (hn : ∀ j y, j < m → l[j]? = some y → f x ≠ f y) : Apart f l (m + 1) := fun i j a b hi hj ha hb => by
 by_cases e : i = m
 ·subst e; rw [hx] at ha; injection ha with ha; subst ha; exact hn j b hj hb
 ·exact h i j a b (by omega) hj ha hb
set_option maxHeartbeats 8000000 in
theorem twice_any (L : Lk) (w : World) (h : LkIn w w.heap.size L) (hW : LkW L) :
  Calls Tryz.prog 8 #[lkV L] w fun e w' => ∃ b, e = .returned (.bool b) ∧ (b = false → Once L) ∧ Below w.heap.size w w' := by
 obtain ⟨n1, hn1⟩ : ∃ n, n = L.lv.length := ⟨_, rfl⟩
 obtain ⟨n2, hn2⟩ : ∃ n, n = L.lf.length := ⟨_, rfl⟩
 obtain ⟨n3, hn3⟩ : ∃ n, n = L.le.length := ⟨_, rfl⟩
 obtain ⟨n4, hn4⟩ : ∃ n, n = L.lw.length := ⟨_, rfl⟩
 obtain ⟨n5, hn5⟩ : ∃ n, n = L.lr.length := ⟨_, rfl⟩
 have HT4 := Lib.hid (And.intro h.t hn4)
 have HT5 := Lib.hid (And.intro h.r hn5)
 have hl4 : n4 ≤ 9223372036854775807 := by rw [hn4]; exact Nat.le_trans hW.l4 hW.m4
 have hl5 : n5 ≤ 9223372036854775807 := by rw [hn5]; exact Nat.le_trans hW.l5 hW.m5
 unfold lkV lkA
 rw [← hn1, ← hn2, ← hn3, ← hn4, ← hn5]
 clear hn1 hn2 hn3 hn4 hn5 h hW
 obtain ⟨B0, hB0⟩ : ∃ B, B = w.heap.size := ⟨_, rfl⟩
 rw [← hB0]
 have HB0 := Lib.hid hB0
 clear hB0
 have HBel := Lib.hid (Below.refl w.heap.size w)
 have hlow : w.heap.size ≤ w.heap.size := Nat.le_refl _
 go_enter Tryz.func8, Tryz.ntmps8
 go_wp2_with fail
 obtain ⟨V1, hV1⟩ : ∃ W, W = w.alloc (.cells #[.int .i64 L.now, .int .i64 L.hd, .int .i64 L.pr, .int .i64 L.to, .slice L.A1 n1 L.c1, .slice L.A2 n2 L.c2, .slice L.A3 n3 L.c3, .slice L.A4 n4 L.c4, .slice L.A5 n5 L.c5] 28) := ⟨_, rfl⟩
 rw [← hV1]
 have hzV1 : V1.heap.size = w.heap.size + 1 := by rw [hV1]; simp
 replace HBel := Lib.hid (below_eq hV1 ((HBel.out.alloc (hlow) _)))
 have B_l := Lib.hid (new10 hV1)
 obtain ⟨N_l, hN_l⟩ : ∃ N, N = w.heap.size := ⟨_, rfl⟩
 (try rw [← hN_l])
 rw [← hN_l] at B_l
 have l_l : N_l < V1.heap.size := by omega
 have g_l : w.heap.size ≤ N_l := by omega
 replace hlow : w.heap.size ≤ V1.heap.size := by omega
 clear hV1 hzV1 hN_l
 have HI0 : Hid (Apart Wt.id L.lw 0) := Lib.hid (fun i j x y hi => by omega)
 obtain ⟨l0, l1, l2, l3, l4, l5, l6, l7, l8⟩ := cells9 B_l.out
 go_wp2
 clear l0 l1 l2 l3 l4 l5 l6 l7 l8
 go_loopw [3] (fun vi wr => ∃ i : Nat, vi = .int .i64 i ∧ i ≤ n4 ∧ N_l < wr.heap.size ∧ Hid (Below w.heap.size w wr) ∧ Hid (wr.heap[N_l]? = some (.cells #[.int .i64 L.now, .int .i64 L.hd, .int .i64 L.pr, .int .i64 L.to, .slice L.A1 n1 L.c1, .slice L.A2 n2 L.c2, .slice L.A3 n3 L.c3, .slice L.A4 n4 L.c4, .slice L.A5 n5 L.c5] 28 (0, 0))) ∧ Hid (Apart Wt.id L.lw i)) (fun vi _ => n4 - (intOf vi).toNat)
 case atStart => exact ⟨0, rfl, by omega, l_l, HBel, B_l, HI0⟩
 case round =>
  clear HBel B_l l_l hlow HI0
  obtain ⟨i, rfl, hi, l_l, HBel, B_l, hI⟩ := hrel
  have hlow := HBel.out.size
  by_cases hlt : i < n4
  ·have u1 : decide (i < n4) = true := decide_eq_true hlt
   obtain ⟨x, hx⟩ := get_lt (l := L.lw) (k := i) (by rw [← HT4.out.2]; exact hlt)
   have HX := Lib.hid (And.intro hx hI.out)
   clear hx hI
   have l7 : wr.cell? ⟨N_l, 7, none⟩ = some (.slice L.A4 n4 L.c4) := cell_blk (i := 7) B_l.out rfl
   have HJ0 : Hid (∀ j y, j < 0 → L.lw[j]? = some y → Wt.id x ≠ Wt.id y) := Lib.hid (fun j y hj => by omega)
   go_wp2
   clear l7
   obtain ⟨wo, hwo⟩ : ∃ x, x = wr := ⟨_, rfl⟩
   subst hwo
   go_loopw [4] (fun vi wr => ∃ j : Nat, vi = .int .i64 j ∧ j ≤ i ∧ N_l < wr.heap.size ∧ Hid (Below w.heap.size w wr) ∧ Hid (wr.heap[N_l]? = some (.cells #[.int .i64 L.now, .int .i64 L.hd, .int .i64 L.pr, .int .i64 L.to, .slice L.A1 n1 L.c1, .slice L.A2 n2 L.c2, .slice L.A3 n3 L.c3, .slice L.A4 n4 L.c4, .slice L.A5 n5 L.c5] 28 (0, 0))) ∧ Hid (∀ j2 y, j2 < j → L.lw[j2]? = some y → Wt.id x ≠ Wt.id y)) (fun vi _ => i - (intOf vi).toNat)
   case atStart => exact ⟨0, rfl, by omega, l_l, HBel, B_l, HJ0⟩
   case round =>
    clear HBel B_l l_l hlow HJ0
    obtain ⟨j, rfl, hj, l_l, HBel, B_l, hJ⟩ := hrel
    have hlow := HBel.out.size
    by_cases hlj : j < i
    ·have u2 : decide (j < i) = true := decide_eq_true hlj
     obtain ⟨y, hy⟩ := get_lt (l := L.lw) (k := j) (by rw [← HT4.out.2]; omega)
     obtain ⟨b, off, hA, hb, hall⟩ := HT4.out.1.at_ hy
     have hbW : b < wr.heap.size := by omega
     have q0 : wr.cell? ⟨b, off + i * 10, none⟩ = some (.int .i64 x.id) := ((hall i x HX.out.1).keep hb HBel.out) 0 _ rfl
     have q1 : wr.cell? ⟨b, off + j * 10, none⟩ = some (.int .i64 y.id) := ((hall j y hy).keep hb HBel.out) 0 _ rfl
     have l7 : wr.cell? ⟨N_l, 7, none⟩ = some (.slice (some ⟨b, off, none⟩) n4 L.c4) := by rw [← hA]; exact cell_blk (i := 7) B_l.out rfl
     have t2 : decide (i < n4) = true := decide_eq_true hlt
     have t3 : decide (j < n4) = true := decide_eq_true (by omega)
     have hjn : j < n4 := by omega
     have HY := Lib.hid (And.intro hy hJ.out)
     clear hall hb hA hy hJ
     go_wp2_with fail
     by_cases e : x.id = y.id
     ·have t4 : (x.id == y.id) = true := by simpa using e
      clear e
      refine held_begin (fun w' : World => w'.cell? ⟨N_l, 7, none⟩ = some (.slice (some ⟨b, off, none⟩) n4 L.c4) ∧ w'.cell? ⟨b, off + i * 10, none⟩ = some (.int .i64 x.id) ∧ w'.cell? ⟨b, off + j * 10, none⟩ = some (.int .i64 y.id)) (by kernel_rfl) ?_
      have hBh0 : Below wr.heap.size wr wr.drew := (Below.refl _ _).drew
      have hSh0 := And.intro l7 (And.intro q0 q1)
      refine tkH ?_ 0 19 rfl rfl ⟨by rfl, ?_⟩ hSh0 ?_;rotate_left
      ·rintro w' ⟨x0, x1, x2⟩;go_simp;(try with_reducible rfl)
      simp only [Act.put, pzA, pzB, pzC]
      refine tkH ?_ 1 20 rfl rfl ⟨by rfl, ?_⟩ hSh0 ?_;rotate_left
      ·rintro w' ⟨x0, x1, x2⟩;go_simp;(try with_reducible rfl)
      simp only [Act.put, pzA, pzB, pzC]
      refine tkH ?_ 2 21 rfl rfl ⟨by rfl, ?_⟩ hSh0 ?_;rotate_left
      ·rintro w' ⟨x0, x1, x2⟩;go_simp;(try with_reducible rfl)
      simp only [Act.put, pzA, pzB, pzC]
      refine tkH ?_ 3 22 rfl rfl ⟨by rfl, ?_⟩ hSh0 ?_;rotate_left
      ·rintro w' ⟨x0, x1, x2⟩;go_simp;(try with_reducible rfl)
      simp only [Act.put, pzA, pzB, pzC]
      refine tkH ?_ 4 23 rfl rfl ⟨by rfl, ?_⟩ hSh0 ?_;rotate_left
      ·rintro w' ⟨x0, x1, x2⟩;go_simp;(try with_reducible rfl)
      simp only [Act.put, pzA, pzB, pzC]
      refine tkH ?_ 5 24 rfl rfl ⟨by rfl, ?_⟩ hSh0 ?_;rotate_left
      ·rintro w' ⟨x0, x1, x2⟩;go_simp;(try with_reducible rfl)
      simp only [Act.put, pzA, pzB, pzC]
      refine tkH ?_ 6 25 rfl rfl ⟨by rfl, ?_⟩ hSh0 ?_;rotate_left
      ·rintro w' ⟨x0, x1, x2⟩;go_simp;(try with_reducible rfl)
      simp only [Act.put, pzA, pzB, pzC]
      refine tkH ?_ 7 26 rfl rfl ⟨by rfl, ?_⟩ hSh0 ?_;rotate_left
      ·rintro w' ⟨x0, x1, x2⟩;go_simp;(try with_reducible rfl)
      simp only [Act.put, pzA, pzB, pzC]
      refine tkH ?_ 8 27 rfl rfl ⟨by rfl, ?_⟩ hSh0 ?_;rotate_left
      ·rintro w' ⟨x0, x1, x2⟩;go_simp;(try with_reducible rfl)
      simp only [Act.put, pzA, pzB, pzC]
      refine tkH ?_ 9 28 rfl rfl ⟨by rfl, ?_⟩ hSh0 ?_;rotate_left
      ·rintro w' ⟨x0, x1, x2⟩;go_simp;(try with_reducible rfl)
      simp only [Act.put, pzA, pzB, pzC]
      refine tkH ?_ 10 29 rfl rfl ⟨by rfl, ?_⟩ hSh0 ?_;rotate_left
      ·rintro w' ⟨x0, x1, x2⟩;go_simp;(try with_reducible rfl)
      simp only [Act.put, pzA, pzB, pzC]
      refine tkH ?_ 11 30 rfl rfl ⟨by rfl, ?_⟩ hSh0 ?_;rotate_left
      ·rintro w' ⟨x0, x1, x2⟩;go_simp;(try with_reducible rfl)
      simp only [Act.put, pzA, pzB, pzC]
      refine tkH ?_ 12 31 rfl rfl ⟨by rfl, ?_⟩ hSh0 ?_;rotate_left
      ·rintro w' ⟨x0, x1, x2⟩;go_simp;(try with_reducible rfl)
      simp only [Act.put, pzA, pzB, pzC]
      refine tkH ?_ 13 32 rfl rfl ⟨by rfl, ?_⟩ hSh0 ?_;rotate_left
      ·rintro w' ⟨x0, x1, x2⟩;go_simp;(try with_reducible rfl)
      simp only [Act.put, pzA, pzB, pzC]
      refine tkH ?_ 14 33 rfl rfl ⟨by rfl, ?_⟩ hSh0 ?_;rotate_left
      ·rintro w' ⟨x0, x1, x2⟩;go_simp;(try with_reducible rfl)
      simp only [Act.put, pzA, pzB, pzC]
      refine wpAnyH_done (by kernel_rfl) ?_ _
      obtain ⟨D1, hD9⟩ : ∃ D, D = wr.drew := ⟨_, rfl⟩
      have hb9 : Below wr.heap.size wr D1 := by rw [hD9]; exact hBh0
      rw [← hD9]
      clear hD9
      have hs9 := hb9.size
      replace HBel := Lib.hid (HBel.out.trans (hb9.mono hlow))
      replace B_l := Lib.hid ((hb9.block _ l_l).trans B_l.out)
      replace l_l : N_l < D1.heap.size := by omega
      replace hlow : w.heap.size ≤ D1.heap.size := by omega
      clear hb9 hs9 hSh0 hBh0 q0 q1 l7 t2 t3
      go_wp2
      go_ret
      exact ⟨true, rfl, (fun e => by cases e), by rw [HB0.out]; exact HBel.out⟩
     ·have t4 : (x.id == y.id) = false := by simpa using e
      have HN : Hid (∀ j2 z, j2 < j + 1 → L.lw[j2]? = some z → Wt.id x ≠ Wt.id z) := Lib.hid (fun j2 z h1 h2 => by
       by_cases e2 : j2 = j
       ·subst e2; rw [HY.out.1] at h2; injection h2 with h2; subst h2; exact e
       ·exact HY.out.2 j2 z (by omega) h2)
      clear e
      refine held_begin (fun w' : World => w'.cell? ⟨N_l, 7, none⟩ = some (.slice (some ⟨b, off, none⟩) n4 L.c4) ∧ w'.cell? ⟨b, off + i * 10, none⟩ = some (.int .i64 x.id) ∧ w'.cell? ⟨b, off + j * 10, none⟩ = some (.int .i64 y.id)) (by kernel_rfl) ?_
      have hBh0 : Below wr.heap.size wr wr.drew := (Below.refl _ _).drew
      have hSh0 := And.intro l7 (And.intro q0 q1)
      refine tkH ?_ 0 19 rfl rfl ⟨by rfl, ?_⟩ hSh0 ?_;rotate_left
      ·rintro w' ⟨x0, x1, x2⟩;go_simp;(try with_reducible rfl)
      simp only [Act.put, pzA, pzB, pzC]
      refine tkH ?_ 1 20 rfl rfl ⟨by rfl, ?_⟩ hSh0 ?_;rotate_left
      ·rintro w' ⟨x0, x1, x2⟩;go_simp;(try with_reducible rfl)
      simp only [Act.put, pzA, pzB, pzC]
      refine tkH ?_ 2 21 rfl rfl ⟨by rfl, ?_⟩ hSh0 ?_;rotate_left
      ·rintro w' ⟨x0, x1, x2⟩;go_simp;(try with_reducible rfl)
      simp only [Act.put, pzA, pzB, pzC]
      refine tkH ?_ 3 22 rfl rfl ⟨by rfl, ?_⟩ hSh0 ?_;rotate_left
      ·rintro w' ⟨x0, x1, x2⟩;go_simp;(try with_reducible rfl)
      simp only [Act.put, pzA, pzB, pzC]
      refine tkH ?_ 4 23 rfl rfl ⟨by rfl, ?_⟩ hSh0 ?_;rotate_left
      ·rintro w' ⟨x0, x1, x2⟩;go_simp;(try with_reducible rfl)
      simp only [Act.put, pzA, pzB, pzC]
      refine tkH ?_ 5 24 rfl rfl ⟨by rfl, ?_⟩ hSh0 ?_;rotate_left
      ·rintro w' ⟨x0, x1, x2⟩;go_simp;(try with_reducible rfl)
      simp only [Act.put, pzA, pzB, pzC]
      refine tkH ?_ 6 25 rfl rfl ⟨by rfl, ?_⟩ hSh0 ?_;rotate_left
      ·rintro w' ⟨x0, x1, x2⟩;go_simp;(try with_reducible rfl)
      simp only [Act.put, pzA, pzB, pzC]
      refine tkH ?_ 7 26 rfl rfl ⟨by rfl, ?_⟩ hSh0 ?_;rotate_left
      ·rintro w' ⟨x0, x1, x2⟩;go_simp;(try with_reducible rfl)
      simp only [Act.put, pzA, pzB, pzC]
      refine tkH ?_ 8 27 rfl rfl ⟨by rfl, ?_⟩ hSh0 ?_;rotate_left
      ·rintro w' ⟨x0, x1, x2⟩;go_simp;(try with_reducible rfl)
      simp only [Act.put, pzA, pzB, pzC]
      refine tkH ?_ 9 28 rfl rfl ⟨by rfl, ?_⟩ hSh0 ?_;rotate_left
      ·rintro w' ⟨x0, x1, x2⟩;go_simp;(try with_reducible rfl)
      simp only [Act.put, pzA, pzB, pzC]
      refine tkH ?_ 10 29 rfl rfl ⟨by rfl, ?_⟩ hSh0 ?_;rotate_left
      ·rintro w' ⟨x0, x1, x2⟩;go_simp;(try with_reducible rfl)
      simp only [Act.put, pzA, pzB, pzC]
      refine tkH ?_ 11 30 rfl rfl ⟨by rfl, ?_⟩ hSh0 ?_;rotate_left
      ·rintro w' ⟨x0, x1, x2⟩;go_simp;(try with_reducible rfl)
      simp only [Act.put, pzA, pzB, pzC]
      refine tkH ?_ 12 31 rfl rfl ⟨by rfl, ?_⟩ hSh0 ?_;rotate_left
      ·rintro w' ⟨x0, x1, x2⟩;go_simp;(try with_reducible rfl)
      simp only [Act.put, pzA, pzB, pzC]
      refine tkH ?_ 13 32 rfl rfl ⟨by rfl, ?_⟩ hSh0 ?_;rotate_left
      ·rintro w' ⟨x0, x1, x2⟩;go_simp;(try with_reducible rfl)
      simp only [Act.put, pzA, pzB, pzC]
      refine tkH ?_ 14 33 rfl rfl ⟨by rfl, ?_⟩ hSh0 ?_;rotate_left
      ·rintro w' ⟨x0, x1, x2⟩;go_simp;(try with_reducible rfl)
      simp only [Act.put, pzA, pzB, pzC]
      refine wpAnyH_done (by kernel_rfl) ?_ _
      obtain ⟨D1, hD9⟩ : ∃ D, D = wr.drew := ⟨_, rfl⟩
      have hb9 : Below wr.heap.size wr D1 := by rw [hD9]; exact hBh0
      rw [← hD9]
      clear hD9
      have hs9 := hb9.size
      replace HBel := Lib.hid (HBel.out.trans (hb9.mono hlow))
      replace B_l := Lib.hid ((hb9.block _ l_l).trans B_l.out)
      replace l_l : N_l < D1.heap.size := by omega
      replace hlow : w.heap.size ≤ D1.heap.size := by omega
      clear hb9 hs9 hSh0 hBh0 q0 q1 l7 t2 t3
      go_wp2
      go_roundw
      case rel => exact ⟨j + 1, by go_num, by omega, l_l, HBel, B_l, HN⟩
      case measure => simp [intOf]; omega
    ·have u2 : decide (j < i) = false := decide_eq_false hlj
     have HN : Hid (Apart Wt.id L.lw (i + 1)) := Lib.hid (HX.out.2.next HX.out.1 fun j2 y h1 h2 => hJ.out j2 y (by omega) h2)
     clear hJ
     go_wp2
     go_roundw
     case rel => exact ⟨i + 1, by go_num, by omega, l_l, HBel, B_l, HN⟩
     case measure => simp [intOf]; omega
  ·obtain rfl : n4 = i := by omega
   have u1 : decide (n4 < n4) = false := decide_eq_false hlt
   have l7 : wr.cell? ⟨N_l, 7, none⟩ = some (.slice L.A4 n4 L.c4) := cell_blk (i := 7) B_l.out rfl
   have HW4 := Lib.hid (show ∀ x ∈ L.lw, ∀ y ∈ L.lw, x.id = y.id → x = y from by have h9 := hI.out; rw [HT4.out.2] at h9; exact h9.once)
   have HI0 : Hid (Apart Rc.id L.lr 0) := Lib.hid (fun i j x y hi => by omega)
   clear hI hlt hi
   go_wp2
   clear l7 u1
   obtain ⟨wo, hwo⟩ : ∃ x, x = wr := ⟨_, rfl⟩
   subst hwo
   go_loopw [5] (fun vi wr => ∃ i : Nat, vi = .int .i64 i ∧ i ≤ n5 ∧ N_l < wr.heap.size ∧ Hid (Below w.heap.size w wr) ∧ Hid (wr.heap[N_l]? = some (.cells #[.int .i64 L.now, .int .i64 L.hd, .int .i64 L.pr, .int .i64 L.to, .slice L.A1 n1 L.c1, .slice L.A2 n2 L.c2, .slice L.A3 n3 L.c3, .slice L.A4 n4 L.c4, .slice L.A5 n5 L.c5] 28 (0, 0))) ∧ Hid (Apart Rc.id L.lr i)) (fun vi _ => n5 - (intOf vi).toNat)
   case atStart => exact ⟨0, rfl, by omega, l_l, HBel, B_l, HI0⟩
   case round =>
    clear HBel B_l l_l hlow HI0
    obtain ⟨i, rfl, hi, l_l, HBel, B_l, hI⟩ := hrel
    have hlow := HBel.out.size
    by_cases hlt : i < n5
    ·have u1 : decide (i < n5) = true := decide_eq_true hlt
     obtain ⟨x, hx⟩ := get_lt (l := L.lr) (k := i) (by rw [← HT5.out.2]; exact hlt)
     have HX := Lib.hid (And.intro hx hI.out)
     clear hx hI
     have l8 : wr.cell? ⟨N_l, 8, none⟩ = some (.slice L.A5 n5 L.c5) := cell_blk (i := 8) B_l.out rfl
     have HJ0 : Hid (∀ j y, j < 0 → L.lr[j]? = some y → Rc.id x ≠ Rc.id y) := Lib.hid (fun j y hj => by omega)
     go_wp2
     clear l8
     obtain ⟨wo, hwo⟩ : ∃ x, x = wr := ⟨_, rfl⟩
     subst hwo
     go_loopw [6] (fun vi wr => ∃ j : Nat, vi = .int .i64 j ∧ j ≤ i ∧ N_l < wr.heap.size ∧ Hid (Below w.heap.size w wr) ∧ Hid (wr.heap[N_l]? = some (.cells #[.int .i64 L.now, .int .i64 L.hd, .int .i64 L.pr, .int .i64 L.to, .slice L.A1 n1 L.c1, .slice L.A2 n2 L.c2, .slice L.A3 n3 L.c3, .slice L.A4 n4 L.c4, .slice L.A5 n5 L.c5] 28 (0, 0))) ∧ Hid (∀ j2 y, j2 < j → L.lr[j2]? = some y → Rc.id x ≠ Rc.id y)) (fun vi _ => i - (intOf vi).toNat)
     case atStart => exact ⟨0, rfl, by omega, l_l, HBel, B_l, HJ0⟩
     case round =>
      clear HBel B_l l_l hlow HJ0
      obtain ⟨j, rfl, hj, l_l, HBel, B_l, hJ⟩ := hrel
      have hlow := HBel.out.size
      by_cases hlj : j < i
      ·have u2 : decide (j < i) = true := decide_eq_true hlj
       obtain ⟨y, hy⟩ := get_lt (l := L.lr) (k := j) (by rw [← HT5.out.2]; omega)
       obtain ⟨b, off, hA, hb, hall⟩ := HT5.out.1.at_ hy
       have hbW : b < wr.heap.size := by omega
       have q0 : wr.cell? ⟨b, off + i * 16, none⟩ = some (.int .i64 x.id) := ((hall i x HX.out.1).keep hb HBel.out) 0 _ rfl
       have q1 : wr.cell? ⟨b, off + j * 16, none⟩ = some (.int .i64 y.id) := ((hall j y hy).keep hb HBel.out) 0 _ rfl
       have l8 : wr.cell? ⟨N_l, 8, none⟩ = some (.slice (some ⟨b, off, none⟩) n5 L.c5) := by rw [← hA]; exact cell_blk (i := 8) B_l.out rfl
       have t2 : decide (i < n5) = true := decide_eq_true hlt
       have t3 : decide (j < n5) = true := decide_eq_true (by omega)
       have hjn : j < n5 := by omega
       have HY := Lib.hid (And.intro hy hJ.out)
       clear hall hb hA hy hJ
       go_wp2_with fail
       by_cases e : x.id = y.id
       ·have t4 : (x.id == y.id) = true := by simpa using e
        clear e
        refine held_begin (fun w' : World => w'.cell? ⟨N_l, 8, none⟩ = some (.slice (some ⟨b, off, none⟩) n5 L.c5) ∧ w'.cell? ⟨b, off + i * 16, none⟩ = some (.int .i64 x.id) ∧ w'.cell? ⟨b, off + j * 16, none⟩ = some (.int .i64 y.id)) (by kernel_rfl) ?_
        have hBh0 : Below wr.heap.size wr wr.drew := (Below.refl _ _).drew
        have hSh0 := And.intro l8 (And.intro q0 q1)
        refine tkH ?_ 0 46 rfl rfl ⟨by rfl, ?_⟩ hSh0 ?_;rotate_left
        ·rintro w' ⟨x0, x1, x2⟩;go_simp;(try with_reducible rfl)
        simp only [Act.put, pzA, pzB, pzC]
        refine tkH ?_ 1 47 rfl rfl ⟨by rfl, ?_⟩ hSh0 ?_;rotate_left
        ·rintro w' ⟨x0, x1, x2⟩;go_simp;(try with_reducible rfl)
        simp only [Act.put, pzA, pzB, pzC]
        refine tkH ?_ 2 48 rfl rfl ⟨by rfl, ?_⟩ hSh0 ?_;rotate_left
        ·rintro w' ⟨x0, x1, x2⟩;go_simp;(try with_reducible rfl)
        simp only [Act.put, pzA, pzB, pzC]
        refine tkH ?_ 3 49 rfl rfl ⟨by rfl, ?_⟩ hSh0 ?_;rotate_left
        ·rintro w' ⟨x0, x1, x2⟩;go_simp;(try with_reducible rfl)
        simp only [Act.put, pzA, pzB, pzC]
        refine tkH ?_ 4 50 rfl rfl ⟨by rfl, ?_⟩ hSh0 ?_;rotate_left
        ·rintro w' ⟨x0, x1, x2⟩;go_simp;(try with_reducible rfl)
        simp only [Act.put, pzA, pzB, pzC]
        refine tkH ?_ 5 51 rfl rfl ⟨by rfl, ?_⟩ hSh0 ?_;rotate_left
        ·rintro w' ⟨x0, x1, x2⟩;go_simp;(try with_reducible rfl)
        simp only [Act.put, pzA, pzB, pzC]
        refine tkH ?_ 6 52 rfl rfl ⟨by rfl, ?_⟩ hSh0 ?_;rotate_left
        ·rintro w' ⟨x0, x1, x2⟩;go_simp;(try with_reducible rfl)
        simp only [Act.put, pzA, pzB, pzC]
        refine tkH ?_ 7 53 rfl rfl ⟨by rfl, ?_⟩ hSh0 ?_;rotate_left
        ·rintro w' ⟨x0, x1, x2⟩;go_simp;(try with_reducible rfl)
        simp only [Act.put, pzA, pzB, pzC]
        refine tkH ?_ 8 54 rfl rfl ⟨by rfl, ?_⟩ hSh0 ?_;rotate_left
        ·rintro w' ⟨x0, x1, x2⟩;go_simp;(try with_reducible rfl)
        simp only [Act.put, pzA, pzB, pzC]
        refine tkH ?_ 9 55 rfl rfl ⟨by rfl, ?_⟩ hSh0 ?_;rotate_left
        ·rintro w' ⟨x0, x1, x2⟩;go_simp;(try with_reducible rfl)
        simp only [Act.put, pzA, pzB, pzC]
        refine tkH ?_ 10 56 rfl rfl ⟨by rfl, ?_⟩ hSh0 ?_;rotate_left
        ·rintro w' ⟨x0, x1, x2⟩;go_simp;(try with_reducible rfl)
        simp only [Act.put, pzA, pzB, pzC]
        refine tkH ?_ 11 57 rfl rfl ⟨by rfl, ?_⟩ hSh0 ?_;rotate_left
        ·rintro w' ⟨x0, x1, x2⟩;go_simp;(try with_reducible rfl)
        simp only [Act.put, pzA, pzB, pzC]
        refine tkH ?_ 12 58 rfl rfl ⟨by rfl, ?_⟩ hSh0 ?_;rotate_left
        ·rintro w' ⟨x0, x1, x2⟩;go_simp;(try with_reducible rfl)
        simp only [Act.put, pzA, pzB, pzC]
        refine tkH ?_ 13 59 rfl rfl ⟨by rfl, ?_⟩ hSh0 ?_;rotate_left
        ·rintro w' ⟨x0, x1, x2⟩;go_simp;(try with_reducible rfl)
        simp only [Act.put, pzA, pzB, pzC]
        refine tkH ?_ 14 60 rfl rfl ⟨by rfl, ?_⟩ hSh0 ?_;rotate_left
        ·rintro w' ⟨x0, x1, x2⟩;go_simp;(try with_reducible rfl)
        simp only [Act.put, pzA, pzB, pzC]
        refine wpAnyH_done (by kernel_rfl) ?_ _
        obtain ⟨D1, hD9⟩ : ∃ D, D = wr.drew := ⟨_, rfl⟩
        have hb9 : Below wr.heap.size wr D1 := by rw [hD9]; exact hBh0
        rw [← hD9]
        clear hD9
        have hs9 := hb9.size
        replace HBel := Lib.hid (HBel.out.trans (hb9.mono hlow))
        replace B_l := Lib.hid ((hb9.block _ l_l).trans B_l.out)
        replace l_l : N_l < D1.heap.size := by omega
        replace hlow : w.heap.size ≤ D1.heap.size := by omega
        clear hb9 hs9 hSh0 hBh0 q0 q1 l8 t2 t3
        go_wp2
        go_ret
        exact ⟨true, rfl, (fun e => by cases e), by rw [HB0.out]; exact HBel.out⟩
       ·have t4 : (x.id == y.id) = false := by simpa using e
        have HN : Hid (∀ j2 z, j2 < j + 1 → L.lr[j2]? = some z → Rc.id x ≠ Rc.id z) := Lib.hid (fun j2 z h1 h2 => by
         by_cases e2 : j2 = j
         ·subst e2; rw [HY.out.1] at h2; injection h2 with h2; subst h2; exact e
         ·exact HY.out.2 j2 z (by omega) h2)
        clear e
        refine held_begin (fun w' : World => w'.cell? ⟨N_l, 8, none⟩ = some (.slice (some ⟨b, off, none⟩) n5 L.c5) ∧ w'.cell? ⟨b, off + i * 16, none⟩ = some (.int .i64 x.id) ∧ w'.cell? ⟨b, off + j * 16, none⟩ = some (.int .i64 y.id)) (by kernel_rfl) ?_
        have hBh0 : Below wr.heap.size wr wr.drew := (Below.refl _ _).drew
        have hSh0 := And.intro l8 (And.intro q0 q1)
        refine tkH ?_ 0 46 rfl rfl ⟨by rfl, ?_⟩ hSh0 ?_;rotate_left
        ·rintro w' ⟨x0, x1, x2⟩;go_simp;(try with_reducible rfl)
        simp only [Act.put, pzA, pzB, pzC]
        refine tkH ?_ 1 47 rfl rfl ⟨by rfl, ?_⟩ hSh0 ?_;rotate_left
        ·rintro w' ⟨x0, x1, x2⟩;go_simp;(try with_reducible rfl)
        simp only [Act.put, pzA, pzB, pzC]
        refine tkH ?_ 2 48 rfl rfl ⟨by rfl, ?_⟩ hSh0 ?_;rotate_left
        ·rintro w' ⟨x0, x1, x2⟩;go_simp;(try with_reducible rfl)
        simp only [Act.put, pzA, pzB, pzC]
        refine tkH ?_ 3 49 rfl rfl ⟨by rfl, ?_⟩ hSh0 ?_;rotate_left
        ·rintro w' ⟨x0, x1, x2⟩;go_simp;(try with_reducible rfl)
        simp only [Act.put, pzA, pzB, pzC]
        refine tkH ?_ 4 50 rfl rfl ⟨by rfl, ?_⟩ hSh0 ?_;rotate_left
        ·rintro w' ⟨x0, x1, x2⟩;go_simp;(try with_reducible rfl)
        simp only [Act.put, pzA, pzB, pzC]
        refine tkH ?_ 5 51 rfl rfl ⟨by rfl, ?_⟩ hSh0 ?_;rotate_left
        ·rintro w' ⟨x0, x1, x2⟩;go_simp;(try with_reducible rfl)
        simp only [Act.put, pzA, pzB, pzC]
        refine tkH ?_ 6 52 rfl rfl ⟨by rfl, ?_⟩ hSh0 ?_;rotate_left
        ·rintro w' ⟨x0, x1, x2⟩;go_simp;(try with_reducible rfl)
        simp only [Act.put, pzA, pzB, pzC]
        refine tkH ?_ 7 53 rfl rfl ⟨by rfl, ?_⟩ hSh0 ?_;rotate_left
        ·rintro w' ⟨x0, x1, x2⟩;go_simp;(try with_reducible rfl)
        simp only [Act.put, pzA, pzB, pzC]
        refine tkH ?_ 8 54 rfl rfl ⟨by rfl, ?_⟩ hSh0 ?_;rotate_left
        ·rintro w' ⟨x0, x1, x2⟩;go_simp;(try with_reducible rfl)
        simp only [Act.put, pzA, pzB, pzC]
        refine tkH ?_ 9 55 rfl rfl ⟨by rfl, ?_⟩ hSh0 ?_;rotate_left
        ·rintro w' ⟨x0, x1, x2⟩;go_simp;(try with_reducible rfl)
        simp only [Act.put, pzA, pzB, pzC]
        refine tkH ?_ 10 56 rfl rfl ⟨by rfl, ?_⟩ hSh0 ?_;rotate_left
        ·rintro w' ⟨x0, x1, x2⟩;go_simp;(try with_reducible rfl)
        simp only [Act.put, pzA, pzB, pzC]
        refine tkH ?_ 11 57 rfl rfl ⟨by rfl, ?_⟩ hSh0 ?_;rotate_left
        ·rintro w' ⟨x0, x1, x2⟩;go_simp;(try with_reducible rfl)
        simp only [Act.put, pzA, pzB, pzC]
        refine tkH ?_ 12 58 rfl rfl ⟨by rfl, ?_⟩ hSh0 ?_;rotate_left
        ·rintro w' ⟨x0, x1, x2⟩;go_simp;(try with_reducible rfl)
        simp only [Act.put, pzA, pzB, pzC]
        refine tkH ?_ 13 59 rfl rfl ⟨by rfl, ?_⟩ hSh0 ?_;rotate_left
        ·rintro w' ⟨x0, x1, x2⟩;go_simp;(try with_reducible rfl)
        simp only [Act.put, pzA, pzB, pzC]
        refine tkH ?_ 14 60 rfl rfl ⟨by rfl, ?_⟩ hSh0 ?_;rotate_left
        ·rintro w' ⟨x0, x1, x2⟩;go_simp;(try with_reducible rfl)
        simp only [Act.put, pzA, pzB, pzC]
        refine wpAnyH_done (by kernel_rfl) ?_ _
        obtain ⟨D1, hD9⟩ : ∃ D, D = wr.drew := ⟨_, rfl⟩
        have hb9 : Below wr.heap.size wr D1 := by rw [hD9]; exact hBh0
        rw [← hD9]
        clear hD9
        have hs9 := hb9.size
        replace HBel := Lib.hid (HBel.out.trans (hb9.mono hlow))
        replace B_l := Lib.hid ((hb9.block _ l_l).trans B_l.out)
        replace l_l : N_l < D1.heap.size := by omega
        replace hlow : w.heap.size ≤ D1.heap.size := by omega
        clear hb9 hs9 hSh0 hBh0 q0 q1 l8 t2 t3
        go_wp2
        go_roundw
        case rel => exact ⟨j + 1, by go_num, by omega, l_l, HBel, B_l, HN⟩
        case measure => simp [intOf]; omega
      ·have u2 : decide (j < i) = false := decide_eq_false hlj
       have HN : Hid (Apart Rc.id L.lr (i + 1)) := Lib.hid (HX.out.2.next HX.out.1 fun j2 y h1 h2 => hJ.out j2 y (by omega) h2)
       clear hJ
       go_wp2
       go_roundw
       case rel => exact ⟨i + 1, by go_num, by omega, l_l, HBel, B_l, HN⟩
       case measure => simp [intOf]; omega
    ·obtain rfl : n5 = i := by omega
     have u1 : decide (n5 < n5) = false := decide_eq_false hlt
     have l8 : wr.cell? ⟨N_l, 8, none⟩ = some (.slice L.A5 n5 L.c5) := cell_blk (i := 8) B_l.out rfl
     have HE := Lib.hid (show Once L from ⟨HW4.out, by have h9 := hI.out; rw [HT5.out.2] at h9; exact h9.once⟩)
     clear hI
     go_wp2
     go_ret
     exact ⟨false, rfl, fun _ => HE.out, by rw [HB0.out]; exact HBel.out⟩
end Go.Proofs.YtnaejfbmgjgcfaaGreatDoor
