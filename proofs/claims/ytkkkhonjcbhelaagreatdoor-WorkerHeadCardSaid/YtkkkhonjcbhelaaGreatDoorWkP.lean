import Derived.Test.YtkkkhonjcbhelaaGreatDoorWkM
set_option maxRecDepth 100000
set_option linter.unusedVariables false
namespace Go.Proofs.YtkkkhonjcbhelaaGreatDoor
section
open Go.RowKit
open PR
theorem run_load_lk {oi : Oper} {ρ : Operand → Value} {W : World} {y : Operand} {g o : Nat} {L : Lk} {n1 n2 n3 n4 n5 : Nat} (ho : oi.op = .load 28 y) (hy : ρ y = .pointer (some ⟨g, o, none⟩)) (h : CellsAt W g o [.int .i64 L.now, .int .i64 L.hd, .int .i64 L.pr, .int .i64 L.to, .slice L.A1 n1 L.c1, .slice L.A2 n2 L.c2, .slice L.A3 n3 L.c3, .slice L.A4 n4 L.c4, .slice L.A5 n5 L.c5]) :
  (execOp ρ oi).run Tryz.prog W = .ok (.value (.agg #[.int .i64 L.now, .int .i64 L.hd, .int .i64 L.pr, .int .i64 L.to, .slice L.A1 n1 L.c1, .slice L.A2 n2 L.c2, .slice L.A3 n3 L.c3, .slice L.A4 n4 L.c4, .slice L.A5 n5 L.c5])) W := by
 have hl : (loadCells ⟨g, o, none⟩ 9).run Tryz.prog W = .ok #[.int .i64 L.now, .int .i64 L.hd, .int .i64 L.pr, .int .i64 L.to, .slice L.A1 n1 L.c1, .slice L.A2 n2 L.c2, .slice L.A3 n3 L.c3, .slice L.A4 n4 L.c4, .slice L.A5 n5 L.c5] W := run_loadCells_list (P := Tryz.prog) W ⟨g, o, none⟩ [.int .i64 L.now, .int .i64 L.hd, .int .i64 L.pr, .int .i64 L.to, .slice L.A1 n1 L.c1, .slice L.A2 n2 L.c2, .slice L.A3 n3 L.c3, .slice L.A4 n4 L.c4, .slice L.A5 n5 L.c5] fun j v hv => by rw [Addr.add_lit]; exact h j v hv
 have ha : (isAgg 28).run Tryz.prog W = .ok true W := by
  unfold isAgg;rw [Sem.run_bind, run_underlying Tryz.underlying28 W]
  simp
 unfold execOp;simp only [ho, hy, Instr.loadAt, Instr.sureAddr, Sem.run_bind, Sem.run_pure, Result.andThen_ok, loadVar, ha, if_true, Tryz.sizeOf28, hl]
theorem lk_blk {w : World} {b : Nat} {L : Lk} {n1 n2 n3 n4 n5 : Nat} (h : w.heap[b]? = some (.cells #[.int .i64 L.now, .int .i64 L.hd, .int .i64 L.pr, .int .i64 L.to, .slice L.A1 n1 L.c1, .slice L.A2 n2 L.c2, .slice L.A3 n3 L.c3, .slice L.A4 n4 L.c4, .slice L.A5 n5 L.c5] 28 (0, 0))) : CellsAt w b 0 [.int .i64 L.now, .int .i64 L.hd, .int .i64 L.pr, .int .i64 L.to, .slice L.A1 n1 L.c1, .slice L.A2 n2 L.c2, .slice L.A3 n3 L.c3, .slice L.A4 n4 L.c4, .slice L.A5 n5 L.c5] := fun r v hr => by
 rw [Nat.zero_add];exact cell_blk h (by simpa using hr)
set_option maxHeartbeats 4000000 in
theorem ishead_any (L : Lk) (j : Jb) (w : World) :
  Calls Tryz.prog 38 #[lkV L, jbV j] w fun e w' => e = .returned (.bool (hdB L j.id)) ∧ Below w.heap.size w w' := by
 obtain ⟨n1, hn1⟩ := nx (L.lv.length);obtain ⟨n2, hn2⟩ := nx (L.lf.length);obtain ⟨n3, hn3⟩ := nx (L.le.length);obtain ⟨n4, hn4⟩ := nx (L.lw.length);obtain ⟨n5, hn5⟩ := nx (L.lr.length);unfold hdB;unfold lkV lkA jbV jbA;rw [← hn1, ← hn2, ← hn3, ← hn4, ← hn5];clear hn1 hn2 hn3 hn4 hn5;by_cases h0 : L.hd = 0
 ·have t0 : (L.hd != 0) = false := by simp [h0]
  rw [t0];clear h0;obtain ⟨B0, hB0⟩ := nx (w.heap.size);rw [← hB0];have HB0 := Hq hB0;clear hB0;have HBel := Hq (Below.refl w.heap.size w);have hlow : w.heap.size ≤ w.heap.size := Nat.le_refl _;go_enter Tryz.func38, Tryz.ntmps38;go_wp2_with fail;obtain ⟨V1, hV1⟩ := nx ((w.alloc (.cells #[.int .i64 L.now, .int .i64 L.hd, .int .i64 L.pr, .int .i64 L.to, .slice L.A1 n1 L.c1, .slice L.A2 n2 L.c2, .slice L.A3 n3 L.c3, .slice L.A4 n4 L.c4, .slice L.A5 n5 L.c5] 28)).alloc (.cells #[.int .i64 j.id, .int .i64 j.q, .int .i64 j.p, .int .i64 j.r, .int .i64 j.g, .int .i64 j.c, .int .i64 j.mn, .int .i64 j.mx] 47));rw [← hV1];have hzV1 := sz2 hV1;replace HBel := be2 hV1 HBel hlow;have B_l := Hq (new20 hV1);have B_j := Hq (new21 hV1);obtain ⟨N_l, hN_l⟩ := nx (w.heap.size);obtain ⟨N_j, hN_j⟩ := nx (w.heap.size + 1);(try rw [← hN_j]);rw [← hN_j] at B_j;(try rw [← hN_l]);rw [← hN_l] at B_l;have l_l : N_l < V1.heap.size := by omega
  have l_j : N_j < V1.heap.size := by omega
  have g_l : w.heap.size ≤ N_l := by omega
  have g_j : w.heap.size ≤ N_j := by omega
  have d_l_j : N_l < N_j := by omega
  replace hlow : w.heap.size ≤ V1.heap.size := by omega
  clear hV1 hzV1 hN_l hN_j;obtain ⟨l0, l1, l2, l3, l4, l5, l6, l7, l8⟩ := cells9 B_l.out;obtain ⟨j0, j1, j2, j3, j4, j5, j6, j7⟩ := cells8 B_j.out;go_wp2;clear l0 l1 l2 l3 l4 l5 l6 l7 l8 j0 j1 j2 j3 j4 j5 j6 j7
  go_ret
  exact ⟨by first | rfl | (simp; done), by rw [HB0.out]; exact HBel.out⟩
 ·have t0 : (L.hd != 0) = true := by simp [h0]
  rw [t0];clear h0;obtain ⟨B0, hB0⟩ := nx (w.heap.size);rw [← hB0];have HB0 := Hq hB0;clear hB0;have HBel := Hq (Below.refl w.heap.size w);have hlow : w.heap.size ≤ w.heap.size := Nat.le_refl _;go_enter Tryz.func38, Tryz.ntmps38;go_wp2_with fail;obtain ⟨V1, hV1⟩ := nx ((w.alloc (.cells #[.int .i64 L.now, .int .i64 L.hd, .int .i64 L.pr, .int .i64 L.to, .slice L.A1 n1 L.c1, .slice L.A2 n2 L.c2, .slice L.A3 n3 L.c3, .slice L.A4 n4 L.c4, .slice L.A5 n5 L.c5] 28)).alloc (.cells #[.int .i64 j.id, .int .i64 j.q, .int .i64 j.p, .int .i64 j.r, .int .i64 j.g, .int .i64 j.c, .int .i64 j.mn, .int .i64 j.mx] 47));rw [← hV1];have hzV1 := sz2 hV1;replace HBel := be2 hV1 HBel hlow;have B_l := Hq (new20 hV1);have B_j := Hq (new21 hV1);obtain ⟨N_l, hN_l⟩ := nx (w.heap.size);obtain ⟨N_j, hN_j⟩ := nx (w.heap.size + 1);(try rw [← hN_j]);rw [← hN_j] at B_j;(try rw [← hN_l]);rw [← hN_l] at B_l;have l_l : N_l < V1.heap.size := by omega
  have l_j : N_j < V1.heap.size := by omega
  have g_l : w.heap.size ≤ N_l := by omega
  have g_j : w.heap.size ≤ N_j := by omega
  have d_l_j : N_l < N_j := by omega
  replace hlow : w.heap.size ≤ V1.heap.size := by omega
  clear hV1 hzV1 hN_l hN_j;obtain ⟨l0, l1, l2, l3, l4, l5, l6, l7, l8⟩ := cells9 B_l.out;obtain ⟨j0, j1, j2, j3, j4, j5, j6, j7⟩ := cells8 B_j.out;go_wp2;clear l0 l1 l2 l3 l4 l5 l6 l7 l8 j0 j1 j2 j3 j4 j5 j6 j7
  go_ret
  exact ⟨by first | rfl | (simp; done), by rw [HB0.out]; exact HBel.out⟩
set_option maxHeartbeats 4000000 in
theorem latest_any (L : Lk) (j : Jb) (w : World) (h : (0 ≤ L.now ∧ L.now ≤ 1073741824) ∧ (0 ≤ L.to ∧ L.to ≤ 1073741824) ∧ 0 ≤ j.r ∧ j.r ≤ 1073741824) :
  Calls Tryz.prog 14 #[lkV L, jbV j] w fun e w' => e = .returned (.int .i64 (lat L j.r)) ∧ Below w.heap.size w w' := by
 have HW := Hq (show wrap64 (wrap64 (L.now + L.to) + j.r) = lat L j.r from by
  rw [IntWalk.wrap64_in (L.now + L.to) (by omega), IntWalk.wrap64_in _ (by omega)]; rfl)
 obtain ⟨n1, hn1⟩ := nx (L.lv.length);obtain ⟨n2, hn2⟩ := nx (L.lf.length);obtain ⟨n3, hn3⟩ := nx (L.le.length);obtain ⟨n4, hn4⟩ := nx (L.lw.length);obtain ⟨n5, hn5⟩ := nx (L.lr.length);unfold lkV lkA jbV jbA;rw [← hn1, ← hn2, ← hn3, ← hn4, ← hn5];clear hn1 hn2 hn3 hn4 hn5 h;obtain ⟨B0, hB0⟩ := nx (w.heap.size);rw [← hB0];have HB0 := Hq hB0;clear hB0;have HBel := Hq (Below.refl w.heap.size w);have hlow : w.heap.size ≤ w.heap.size := Nat.le_refl _;go_enter Tryz.func14, Tryz.ntmps14;go_wp2_with fail;obtain ⟨V1, hV1⟩ := nx ((w.alloc (.cells #[.int .i64 L.now, .int .i64 L.hd, .int .i64 L.pr, .int .i64 L.to, .slice L.A1 n1 L.c1, .slice L.A2 n2 L.c2, .slice L.A3 n3 L.c3, .slice L.A4 n4 L.c4, .slice L.A5 n5 L.c5] 28)).alloc (.cells #[.int .i64 j.id, .int .i64 j.q, .int .i64 j.p, .int .i64 j.r, .int .i64 j.g, .int .i64 j.c, .int .i64 j.mn, .int .i64 j.mx] 47));rw [← hV1];have hzV1 := sz2 hV1;replace HBel := be2 hV1 HBel hlow;have B_l := Hq (new20 hV1);have B_j := Hq (new21 hV1);obtain ⟨N_l, hN_l⟩ := nx (w.heap.size);obtain ⟨N_j, hN_j⟩ := nx (w.heap.size + 1);(try rw [← hN_j]);rw [← hN_j] at B_j;(try rw [← hN_l]);rw [← hN_l] at B_l;have l_l : N_l < V1.heap.size := by omega
 have l_j : N_j < V1.heap.size := by omega
 have g_l : w.heap.size ≤ N_l := by omega
 have g_j : w.heap.size ≤ N_j := by omega
 have d_l_j : N_l < N_j := by omega
 replace hlow : w.heap.size ≤ V1.heap.size := by omega
 clear hV1 hzV1 hN_l hN_j;obtain ⟨l0, l1, l2, l3, l4, l5, l6, l7, l8⟩ := cells9 B_l.out;obtain ⟨j0, j1, j2, j3, j4, j5, j6, j7⟩ := cells8 B_j.out;go_wp2;clear l0 l1 l2 l3 l4 l5 l6 l7 l8 j0 j1 j2 j3 j4 j5 j6 j7
 go_ret
 exact ⟨congrArg (fun z => Ending.returned (.int .i64 z)) HW.out, by rw [HB0.out]; exact HBel.out⟩
set_option maxHeartbeats 4000000 in
theorem wheadcl_any (p : Nat) (L : Lk) (n1 n2 n3 n4 n5 : Nat) (x : Wt) (w : World) (hn : n1 = L.lv.length ∧ n2 = L.lf.length ∧ n3 = L.le.length ∧ n4 = L.lw.length ∧ n5 = L.lr.length) (bl : w.heap[p]? = some (.cells #[.int .i64 L.now, .int .i64 L.hd, .int .i64 L.pr, .int .i64 L.to, .slice L.A1 n1 L.c1, .slice L.A2 n2 L.c2, .slice L.A3 n3 L.c3, .slice L.A4 n4 L.c4, .slice L.A5 n5 L.c5] 28 (0, 0))) : Calls Tryz.prog 37 #[wtV x, .pointer (some ⟨p, 0, none⟩)] w fun e w' => e = .returned (.bool (hdB L x.id)) ∧ Below w.heap.size w w' := by
 obtain ⟨hn1, hn2, hn3, hn4, hn5⟩ := hn;have hI := Hq (fun W => show Calls Tryz.prog 38 #[.agg #[.int .i64 L.now, .int .i64 L.hd, .int .i64 L.pr, .int .i64 L.to, .slice L.A1 n1 L.c1, .slice L.A2 n2 L.c2, .slice L.A3 n3 L.c3, .slice L.A4 n4 L.c4, .slice L.A5 n5 L.c5], .agg #[.int .i64 x.id, .int .i64 x.q, .int .i64 x.p, .int .i64 x.r, .int .i64 x.g, .int .i64 x.c, .int .i64 x.mn, .int .i64 x.mx]] W (fun e w' => e = .returned (.bool (hdB L x.id)) ∧ Below W.heap.size W w') from by
  have h9 := ishead_any L x.J W;unfold lkV lkA jbV jbA at h9;rw [← hn1, ← hn2, ← hn3, ← hn4, ← hn5] at h9;exact h9)
 have B_l := Hq bl;have l_l : p < w.heap.size := blk_lt bl;unfold wtV wtA;clear hn1 hn2 hn3 hn4 hn5 bl;obtain ⟨B0, hB0⟩ := nx (w.heap.size);rw [← hB0];have HB0 := Hq hB0;clear hB0;have HBel := Hq (Below.refl w.heap.size w);have hlow : w.heap.size ≤ w.heap.size := Nat.le_refl _;go_enter Tryz.func37, Tryz.ntmps37;obtain ⟨l0, l1, l2, l3, l4, l5, l6, l7, l8⟩ := cells9 B_l.out;have l_l_0 : p < w.heap.size + 1 := by omega
 go_wp2_with fail;clear l0 l1 l2 l3 l4 l5 l6 l7 l8 l_l_0;obtain ⟨V1, hV1⟩ := nx (w.alloc (.cells #[.int .i64 x.id, .int .i64 x.q, .int .i64 x.p, .int .i64 x.r, .int .i64 x.g, .int .i64 x.c, .int .i64 x.mn, .int .i64 x.mx, .int .i64 x.s, .int .i64 x.n] 57));rw [← hV1];have hzV1 := sz1 hV1;replace HBel := be1 hV1 HBel hlow;replace B_l := bk1 hV1 B_l l_l;have B_x := Hq (new10 hV1);obtain ⟨N_x, hN_x⟩ := nx (w.heap.size);(try rw [← hN_x]);rw [← hN_x] at B_x;have d_l_x : p < N_x := by omega
 replace l_l : p < V1.heap.size := by omega
 have l_x : N_x < V1.heap.size := by omega
 have g_x : w.heap.size ≤ N_x := by omega
 replace hlow : w.heap.size ≤ V1.heap.size := by omega
 clear hV1 hzV1 hN_x;refine (hI.out V1).mono ?_;rintro e U2 ⟨rfl, hb9⟩;have hs9 := hb9.size;replace HBel := bt9 HBel hb9 hlow;replace B_l := bb9 hb9 B_l l_l;replace B_x := bb9 hb9 B_x l_x;replace l_l : p < U2.heap.size := by omega
 replace l_x : N_x < U2.heap.size := by omega
 replace hlow : w.heap.size ≤ U2.heap.size := by omega
 clear hb9 hs9;go_wp2
 go_ret
 exact ⟨rfl, by rw [HB0.out]; exact HBel.out⟩
def WIdx (L : Lk) (l : List Wt) (n : Int) : Prop := (n = -1 ∧ l.find? (fun x => hdB L x.id) = none) ∨ ∃ (k : Nat) (x : Wt), n = k ∧ l[k]? = some x ∧ l.find? (fun x => hdB L x.id) = some x
set_option maxHeartbeats 4000000 in
theorem windex_any (p : Nat) (L : Lk) (n1 n2 n3 n4 n5 : Nat) (A : Option Addr) (c : Nat) (l : List Wt) (w : World) (h : Wts w w.heap.size A l) (hl : l.length ≤ maxLen) (hns : n1 = L.lv.length ∧ n2 = L.lf.length ∧ n3 = L.le.length ∧ n4 = L.lw.length ∧ n5 = L.lr.length) (bl : w.heap[p]? = some (.cells #[.int .i64 L.now, .int .i64 L.hd, .int .i64 L.pr, .int .i64 L.to, .slice L.A1 n1 L.c1, .slice L.A2 n2 L.c2, .slice L.A3 n3 L.c3, .slice L.A4 n4 L.c4, .slice L.A5 n5 L.c5] 28 (0, 0))) :
  Calls Tryz.prog 36 #[.slice A l.length c, .func (.func 37) #[] #[.pointer (some ⟨p, 0, none⟩)]] w fun e w' => ∃ n : Int, e = .returned (.int .i64 n) ∧ WIdx L l n ∧ Below w.heap.size w w' := by
 have hp : p < w.heap.size := blk_lt bl;obtain ⟨n, hn⟩ := nx (l.length);rw [← hn] at hl ⊢;have hl2 : n ≤ 9223372036854775807 := hl;have H := Hq (Ai h hn);have HC := Hq (fun x W (hk : Below w.heap.size w W) => wheadcl_any p L n1 n2 n3 n4 n5 x W hns ((hk.block p hp).trans bl));clear h hn bl hns hl;have HB0 := Hq (Below.refl w.heap.size w);have HI0 : Hid ((l.take 0).find? (fun x => hdB L x.id) = none) := Hq rfl;go_enter Tryz.func36, Tryz.ntmps36;go_wp2;go_loopw [8] (fun i wr => ∃ k : Nat, i = .int .i64 k ∧ k ≤ n ∧ Hid (Below w.heap.size w wr) ∧ Hid ((l.take k).find? (fun x => hdB L x.id) = none)) (fun i _ => n - (intOf i).toNat)
 case atStart => exact ⟨0, rfl, by omega, HB0, HI0⟩
 case round =>
  clear HB0 HI0;obtain ⟨k, rfl, hk, hB, hI⟩ := hrel;by_cases hlt : k < n
  ·obtain ⟨x, hx⟩ := get_lt (l := l) (k := k) (by rw [← H.out.2]; exact hlt);obtain ⟨b, off, rfl, hb, hc⟩ := H.out.1.at_ hx;have hcx := (hc k _ hx).keep hb hB.out;have a0 : wr.cell? ⟨b, off + k * 10, none⟩ = some (.int .i64 x.id) := hcx 0 _ rfl;have a1 : wr.cell? ⟨b, off + k * 10 + 1, none⟩ = some (.int .i64 x.q) := hcx 1 _ rfl;have a2 : wr.cell? ⟨b, off + k * 10 + 2, none⟩ = some (.int .i64 x.p) := hcx 2 _ rfl;have a3 : wr.cell? ⟨b, off + k * 10 + 3, none⟩ = some (.int .i64 x.r) := hcx 3 _ rfl;have a4 : wr.cell? ⟨b, off + k * 10 + 4, none⟩ = some (.int .i64 x.g) := hcx 4 _ rfl;have a5 : wr.cell? ⟨b, off + k * 10 + 5, none⟩ = some (.int .i64 x.c) := hcx 5 _ rfl;have a6 : wr.cell? ⟨b, off + k * 10 + 6, none⟩ = some (.int .i64 x.mn) := hcx 6 _ rfl;have a7 : wr.cell? ⟨b, off + k * 10 + 7, none⟩ = some (.int .i64 x.mx) := hcx 7 _ rfl;have a8 : wr.cell? ⟨b, off + k * 10 + 8, none⟩ = some (.int .i64 x.s) := hcx 8 _ rfl;have a9 : wr.cell? ⟨b, off + k * 10 + 9, none⟩ = some (.int .i64 x.n) := hcx 9 _ rfl;have t2 : decide (k < n) = true := decide_eq_true hlt;have hC := Hq (HC.out x wr hB.out);obtain ⟨m, hm⟩ := nx ((hdB L x.id));rw [← hm] at hC;simp only [wtV, wtA] at hC
   cases m
   ·have HN : Hid ((l.take (k + 1)).find? (fun x => hdB L x.id) = none) := Hq (find_on hI.out hx hm.symm);have HB1 := hB;clear hcx hc hb hx hI hB hm HC;go_wp2_with fail;refine hC.out.mono ?_;rintro e w1 ⟨rfl, hb1⟩;have HB2 := Hq (below_step HB1.out hb1);clear HB1 hb1 hC;go_wp2
    go_roundw
    case rel => exact ⟨k + 1, by go_num, by omega, HB2, HN⟩
    case measure => simp [intOf]; omega
   ·have HR : Hid (WIdx L l k) := Hq (.inr ⟨k, x, rfl, hx, find_at hI.out hx hm.symm⟩);have HB1 := hB;clear hcx hc hb hx hI hB hm HC;go_wp2_with fail;refine hC.out.mono ?_;rintro e w1 ⟨rfl, hb1⟩;have HB2 := Hq (below_step HB1.out hb1);clear HB1 hb1;go_wp2
    go_ret
    exact ⟨_, rfl, HR.out, HB2.out⟩
  ·obtain rfl : k = n := by omega
   have HR : Hid (WIdx L l (-1)) := Hq (.inl ⟨rfl, by have := hI.out; rw [H.out.2, List.take_length] at this; exact this⟩);have HB1 := hB;clear hI hB hlt;go_wp2
   go_ret
   exact ⟨_, rfl, HR.out, HB1.out⟩
end
set_option linter.unusedVariables false
set_option maxRecDepth 100000
section
open Go.RowKit
open PR
def WayR (Y : Int → List Fe → Prop) (N : Prop) (w' : World) (e : Ending) : Prop :=
 (∃ id s A k c, e = .returned (.tuple #[.int .i64 id, .slice A k c, .bool true]) ∧ Y id s ∧ k = s.length ∧ k ≤ c ∧ c ≤ maxLen ∧ Fes w' w'.heap.size A s) ∨ (N ∧ e = .returned (.tuple #[.int .i64 0, .slice none 0 0, .bool false]))
set_option maxHeartbeats 8000000 in
theorem whead_any (L : Lk) (w : World) (h : LkIn w w.heap.size L) (hW : LkW L) (hF : LkF L) (hT : Tab w) :
  Calls Tryz.prog 24 #[lkV L] w fun e w' => WayR (HeadY L) (HeadN L) w' e ∧ Below w.heap.size w w' := by
 obtain ⟨n1, hn1⟩ := nx (L.lv.length);obtain ⟨n2, hn2⟩ := nx (L.lf.length);obtain ⟨n3, hn3⟩ := nx (L.le.length);obtain ⟨n4, hn4⟩ := nx (L.lw.length);obtain ⟨n5, hn5⟩ := nx (L.lr.length);have hIx := Hq (fun p W (hk : Below w.heap.size w W) (bl : W.heap[p]? = some (.cells #[.int .i64 L.now, .int .i64 L.hd, .int .i64 L.pr, .int .i64 L.to, .slice L.A1 n1 L.c1, .slice L.A2 n2 L.c2, .slice L.A3 n3 L.c3, .slice L.A4 n4 L.c4, .slice L.A5 n5 L.c5] 28 (0, 0))) => show Calls Tryz.prog 36 #[.slice L.A4 n4 L.c4, .func (.func 37) #[] #[.pointer (some ⟨p, 0, none⟩)]] W (fun e w' => ∃ n : Int, e = .returned (.int .i64 n) ∧ WIdx L L.lw n ∧ Below W.heap.size W w') from by
  have h9 := windex_any p L n1 n2 n3 n4 n5 L.A4 L.c4 L.lw W (Els.keep h.t hk hk.size) (Nat.le_trans hW.l4 hW.m4) ⟨hn1, hn2, hn3, hn4, hn5⟩ bl;rw [← hn4] at h9;exact h9)
 have hM := Hq (fun (x : Wt) (hx : x ∈ L.lw) W (hk : Below w.heap.size w W) => show Calls Tryz.prog 39 #[.agg #[.int .i64 L.now, .int .i64 L.hd, .int .i64 L.pr, .int .i64 L.to, .slice L.A1 n1 L.c1, .slice L.A2 n2 L.c2, .slice L.A3 n3 L.c3, .slice L.A4 n4 L.c4, .slice L.A5 n5 L.c5], .agg #[.int .i64 x.id, .int .i64 x.q, .int .i64 x.p, .int .i64 x.r, .int .i64 x.g, .int .i64 x.c, .int .i64 x.mn, .int .i64 x.mx]] W (fun e w' => MostJ L x.J w' e ∧ Below W.heap.size W w') from by
  have h9 := most_any L x.J W (h.keep hk hk.size) hW (hW.t x hx).J (by have := hF.n; omega) (hT.below hk hT.size);unfold lkV lkA jbV jbA at h9;rw [← hn1, ← hn2, ← hn3, ← hn4, ← hn5] at h9;exact h9)
 have HT4 := Hq (Ai h.t hn4);unfold lkV lkA;rw [← hn1, ← hn2, ← hn3, ← hn4, ← hn5];clear hn1 hn2 hn3 hn4 hn5 h hW hF hT;obtain ⟨B0, hB0⟩ := nx (w.heap.size);rw [← hB0];have HB0 := Hq hB0;clear hB0;have HBel := Hq (Below.refl w.heap.size w);have hlow : w.heap.size ≤ w.heap.size := Nat.le_refl _;go_enter Tryz.func24, Tryz.ntmps24;go_wp2_with fail;obtain ⟨V1, hV1⟩ := nx (w.alloc (.cells #[.int .i64 L.now, .int .i64 L.hd, .int .i64 L.pr, .int .i64 L.to, .slice L.A1 n1 L.c1, .slice L.A2 n2 L.c2, .slice L.A3 n3 L.c3, .slice L.A4 n4 L.c4, .slice L.A5 n5 L.c5] 28));rw [← hV1];have hzV1 := sz1 hV1;replace HBel := be1 hV1 HBel hlow;have B_l := Hq (new10 hV1);obtain ⟨N_l, hN_l⟩ := nx (w.heap.size);(try rw [← hN_l]);rw [← hN_l] at B_l;have l_l : N_l < V1.heap.size := by omega
 have g_l : w.heap.size ≤ N_l := by omega
 replace hlow : w.heap.size ≤ V1.heap.size := by omega
 clear hV1 hzV1 hN_l;obtain ⟨l0, l1, l2, l3, l4, l5, l6, l7, l8⟩ := cells9 B_l.out;go_wp2_with fail;refine (hIx.out N_l V1 HBel.out B_l.out).mono ?_;rintro e U2 ⟨n, rfl, hi, hb9⟩;clear l0 l1 l2 l3 l4 l5 l6 l7 l8;have hs9 := hb9.size;replace HBel := bt9 HBel hb9 hlow;replace B_l := bb9 hb9 B_l l_l;replace l_l : N_l < U2.heap.size := by omega
 replace hlow : w.heap.size ≤ U2.heap.size := by omega
 clear hb9 hs9;rcases hi with ⟨rfl, hnone⟩ | ⟨k, x, rfl, hx, hfind⟩
 ·have HN := Hq (show HeadN L from .inl hnone);clear hnone;go_wp2
  go_ret3
  exact ⟨.inr ⟨HN.out, rfl⟩, by rw [HB0.out]; exact HBel.out⟩
 ·have hkn : k < n4 := by rw [HT4.out.2]; exact (List.getElem?_eq_some_iff.1 hx).1
  have hM1 := Hq (hM.out x (List.mem_of_getElem? hx));have hyes : hdB L x.id = true := (by have h9 := List.find?_some hfind; simpa using h9)
  have HY := Hq (Ai hfind hyes);obtain ⟨b, off, hA, hb, hc⟩ := HT4.out.1.at_ hx;have hbW : b < U2.heap.size := by omega
  have hcx := (hc k _ hx).keep hb HBel.out;have HX : CellsAt U2 b (off + k * 10) (jbC x.J) := fun r v hr => hcx r v (by rcases r with _ | _ | _ | _ | _ | _ | _ | _ | r <;> first | exact hr | (simp [jbC] at hr))
  have l7 : U2.cell? ⟨N_l, 7, none⟩ = some (.slice (some ⟨b, off, none⟩) n4 L.c4) := by rw [← hA]; exact cell_blk (i := 7) B_l.out rfl
  have hlk := lk_blk B_l.out;have t2 : decide (k < n4) = true := decide_eq_true hkn;clear hcx hc hb hA hx hfind hyes;go_wp2_with fail;refine held_begin (fun w' : World => CellsAt w' N_l 0 [.int .i64 L.now, .int .i64 L.hd, .int .i64 L.pr, .int .i64 L.to, .slice L.A1 n1 L.c1, .slice L.A2 n2 L.c2, .slice L.A3 n3 L.c3, .slice L.A4 n4 L.c4, .slice L.A5 n5 L.c5] ∧ w'.cell? ⟨N_l, 7, none⟩ = some (.slice (some ⟨b, off, none⟩) n4 L.c4) ∧ CellsAt w' b (off + k * 10) (jbC x.J)) (by kernel_rfl) ?_;have hBh0 : Below U2.heap.size U2 U2.drew := (Below.refl _ _).drew;have hSh0 := Ai hlk (Ai l7 HX);refine tkH ?_ 0 15 ?_ hSh0 ?_;rotate_left
  ·rintro w' ⟨x0, x1, x2⟩;refine Eq.trans (run_load_lk (by rfl) (by rfl) x0) ?_;(with_reducible rfl)
  simp only [Act.put, pzA, pzB, pzC];refine tkA 1 16 hSh0 ?_;refine tkA 2 17 hSh0 ?_;refine tkA 3 18 hSh0 ?_;refine tkA 4 19 hSh0 ?_;refine tkA 5 20 hSh0 ?_;refine tkH ?_ 6 21 ?_ hSh0 ?_;rotate_left
  ·rintro w' ⟨x0, x1, x2⟩;refine Eq.trans (run_load_jb (by rfl) (by rfl) x2) ?_;(with_reducible rfl)
  simp only [Act.put, pzA, pzB, pzC];refine held_one 7 rfl (by kernel_rfl) (by rfl) (fun K hK => ?_);go_simp
  go_at_call 39
  refine (hM1.out U2.drew (HBel.out.trans (hBh0.mono hlow))).mono ?_;rintro e wh1 ⟨⟨A, k2, c2, r, n, rfl, hE, hS, hN⟩, hbh1⟩;have hBh1 : Below U2.heap.size U2 wh1 := below_step hBh0 hbh1;have hSh1 := Ai (hlk.keep (show N_l < U2.heap.size by omega) hBh1) (Ai (ck hBh1 l7) (HX.keep hbW hBh1));have HE := Hq (Ai hE (Ai hS hN));clear hE hS hN;refine hK.out _ _ hSh1 ?_;clear hK K;refine tkA 8 14 hSh1 ?_;refine tkA 9 23 hSh1 ?_;refine tkA 10 24 hSh1 ?_;refine tkA 11 6 hSh1 ?_;refine tkA 12 7 hSh1 ?_;refine wpAnyH_done (by kernel_rfl) ?_ _;have hb9 := hBh1;have hs9 := hb9.size;replace HBel := bt9 HBel hb9 hlow;replace B_l := bb9 hb9 B_l l_l;replace l_l : N_l < wh1.heap.size := by omega
  replace hlow : w.heap.size ≤ wh1.heap.size := by omega
  clear hb9 hs9 hSh0 hBh0 hSh1 hBh1 HX l7 hlk t2 hbW hkn;by_cases hr : r = 0
  ·subst hr;obtain ⟨a1, a2, a3, a4, a5⟩ := HE.out.2.1 rfl;have HS := Hq (show HeadY L L.hd (placeF x.J.S L.lv n) from ⟨(hdB_true.1 HY.out.2).1, rfl, x, n, HY.out.1, HE.out.1, rfl⟩);have HA := Hq (Ai a2 (Ai a3 (Ai a4 a5)));clear a1 a2 a3 a4 a5;obtain ⟨l0, l1, l2, l3, l4, l5, l6, l7, l8⟩ := cells9 B_l.out;go_wp2
   go_ret3
   exact ⟨.inl ⟨_, _, A, k2, c2, rfl, HS.out, HA.out.1, HA.out.2.1, HA.out.2.2.1, HA.out.2.2.2⟩, by rw [HB0.out]; exact HBel.out⟩
  ·have t1 : (r == 0) = false := by simp [hr]
   have HN := Hq (show HeadN L from .inr ⟨x, n, r, HY.out.1, HE.out.1, hr⟩);clear hr;go_wp2
   go_ret3
   exact ⟨.inr ⟨HN.out, rfl⟩, by rw [HB0.out]; exact HBel.out⟩
end
set_option linter.unusedVariables false
set_option maxRecDepth 100000
section
open Go.RowKit
open PR
theorem i64_wf {n : Int} (h : -4611686018427387904 ≤ n ∧ n ≤ 4611686018427387904) : (Lit.int .i64 n).wf = true := by
 have e1 : IntKind.min .i64 = -9223372036854775808 := by decide
 have e2 : IntKind.max .i64 = 9223372036854775807 := by decide
 simp only [Lit.wf, e1, e2, Bool.and_eq_true, decide_eq_true_eq];omega
theorem wpList_load_wt {ops : Array Oper} {rest : List Oper} {o : Oper} {a : Act} {w : World} {Q : Exit → Act → World → Prop} (hgd : o.guard = none) (y : Operand) (ho : o.op = .load 57 y)
  (g off : Nat) (x : Wt) (hy : a.eval y = .pointer (some ⟨g, off, none⟩)) (hx : WtAt w g off x) (h : wpList Tryz.prog ops Q rest (a.put o.dst (.agg #[.int .i64 x.id, .int .i64 x.q, .int .i64 x.p, .int .i64 x.r, .int .i64 x.g, .int .i64 x.c, .int .i64 x.mn, .int .i64 x.mx, .int .i64 x.s, .int .i64 x.n])) w) : wpList Tryz.prog ops Q (o :: rest) a w := by
 refine wpList_plain hgd fun K hK => ?_
 unfold Oper.wp;rw [run_load_wt ho hy hx];exact hK _ _ h
set_option maxHeartbeats 8000000 in
theorem wfill_any (L : Lk) (w : World) (h : LkIn w w.heap.size L) (hW : LkW L) (hF : WkF L) (hT : Tab w) :
  Calls Tryz.prog 25 #[lkV L] w fun e w' => WayR (FillY L) (FillN L) w' e ∧ Below w.heap.size w w' := by
 obtain ⟨n1, hn1⟩ := nx (L.lv.length);obtain ⟨n2, hn2⟩ := nx (L.lf.length);obtain ⟨n3, hn3⟩ := nx (L.le.length);obtain ⟨n4, hn4⟩ := nx (L.lw.length);obtain ⟨n5, hn5⟩ := nx (L.lr.length);have hIs := Hq (fun (x : Wt) W => show Calls Tryz.prog 38 #[.agg #[.int .i64 L.now, .int .i64 L.hd, .int .i64 L.pr, .int .i64 L.to, .slice L.A1 n1 L.c1, .slice L.A2 n2 L.c2, .slice L.A3 n3 L.c3, .slice L.A4 n4 L.c4, .slice L.A5 n5 L.c5], .agg #[.int .i64 x.id, .int .i64 x.q, .int .i64 x.p, .int .i64 x.r, .int .i64 x.g, .int .i64 x.c, .int .i64 x.mn, .int .i64 x.mx]] W (fun e w' => e = .returned (.bool (hdB L x.id)) ∧ Below W.heap.size W w') from by
  have h9 := ishead_any L x.J W;unfold lkV lkA jbV jbA at h9;rw [← hn1, ← hn2, ← hn3, ← hn4, ← hn5] at h9;exact h9)
 have hLa := Hq (fun (x : Wt) (hx : x ∈ L.lw) W => show Calls Tryz.prog 14 #[.agg #[.int .i64 L.now, .int .i64 L.hd, .int .i64 L.pr, .int .i64 L.to, .slice L.A1 n1 L.c1, .slice L.A2 n2 L.c2, .slice L.A3 n3 L.c3, .slice L.A4 n4 L.c4, .slice L.A5 n5 L.c5], .agg #[.int .i64 x.id, .int .i64 x.q, .int .i64 x.p, .int .i64 x.r, .int .i64 x.g, .int .i64 x.c, .int .i64 x.mn, .int .i64 x.mx]] W (fun e w' => e = .returned (.int .i64 (lat L x.r)) ∧ Below W.heap.size W w') from by
  have h9 := latest_any L x.J W ⟨⟨hF.n0, hF.n1⟩, ⟨hF.t0, hF.t1⟩, hF.r x hx⟩;unfold lkV lkA jbV jbA at h9;rw [← hn1, ← hn2, ← hn3, ← hn4, ← hn5] at h9;exact h9)
 have hFi := Hq (fun (x : Wt) (hx : x ∈ L.lw) W (hk : Below w.heap.size w W) => show Calls Tryz.prog 40 #[.agg #[.int .i64 L.now, .int .i64 L.hd, .int .i64 L.pr, .int .i64 L.to, .slice L.A1 n1 L.c1, .slice L.A2 n2 L.c2, .slice L.A3 n3 L.c3, .slice L.A4 n4 L.c4, .slice L.A5 n5 L.c5], .agg #[.int .i64 x.id, .int .i64 x.q, .int .i64 x.p, .int .i64 x.r, .int .i64 x.g, .int .i64 x.c, .int .i64 x.mn, .int .i64 x.mx], .int .i64 (lat L x.r)] W (fun e w' => FillJ L x.J (lat L x.r) w' e ∧ Below W.heap.size W w') from by
  have h8 := hF.lat hx;have h9 := fill_any L x.J (lat L x.r) W (h.keep hk hk.size) hW hF.f (hW.t x hx).J (i64_wf (by omega)) (hT.below hk hT.size);unfold lkV lkA jbV jbA at h9;rw [← hn1, ← hn2, ← hn3, ← hn4, ← hn5] at h9;exact h9)
 have HT4 := Hq (Ai h.t hn4);have hl4 : n4 ≤ 9223372036854775807 := by rw [hn4]; exact Nat.le_trans hW.l4 hW.m4
 unfold lkV lkA;rw [← hn1, ← hn2, ← hn3, ← hn4, ← hn5];clear hn1 hn2 hn3 hn4 hn5 h hW hF hT;obtain ⟨B0, hB0⟩ := nx (w.heap.size);rw [← hB0];have HB0 := Hq hB0;clear hB0;have HBel := Hq (Below.refl w.heap.size w);have hlow : w.heap.size ≤ w.heap.size := Nat.le_refl _;go_enter Tryz.func25, Tryz.ntmps25;go_wp2_with fail;obtain ⟨V1, hV1⟩ := nx (w.alloc (.cells #[.int .i64 L.now, .int .i64 L.hd, .int .i64 L.pr, .int .i64 L.to, .slice L.A1 n1 L.c1, .slice L.A2 n2 L.c2, .slice L.A3 n3 L.c3, .slice L.A4 n4 L.c4, .slice L.A5 n5 L.c5] 28));rw [← hV1];have hzV1 := sz1 hV1;replace HBel := be1 hV1 HBel hlow;have B_l := Hq (new10 hV1);obtain ⟨N_l, hN_l⟩ := nx (w.heap.size);(try rw [← hN_l]);rw [← hN_l] at B_l;have l_l : N_l < V1.heap.size := by omega
 have g_l : w.heap.size ≤ N_l := by omega
 replace hlow : w.heap.size ≤ V1.heap.size := by omega
 clear hV1 hzV1 hN_l;have HI0 : Hid (∀ y ∈ L.lw.take 0, FillN1 L y) := Hq (by simp);obtain ⟨l0, l1, l2, l3, l4, l5, l6, l7, l8⟩ := cells9 B_l.out;go_wp2;go_loopw [12] (fun vi wr => ∃ k : Nat, vi = .int .i64 k ∧ k ≤ n4 ∧ N_l < wr.heap.size ∧ Hid (Below w.heap.size w wr) ∧ Hid (wr.heap[N_l]? = some (.cells #[.int .i64 L.now, .int .i64 L.hd, .int .i64 L.pr, .int .i64 L.to, .slice L.A1 n1 L.c1, .slice L.A2 n2 L.c2, .slice L.A3 n3 L.c3, .slice L.A4 n4 L.c4, .slice L.A5 n5 L.c5] 28 (0, 0))) ∧ Hid (∀ y ∈ L.lw.take k, FillN1 L y)) (fun vi _ => n4 - (intOf vi).toNat)
 case atStart => exact ⟨0, rfl, by omega, l_l, HBel, B_l, HI0⟩
 case round =>
  clear HBel B_l l_l hlow HI0 l0 l1 l2 l3 l4 l5 l6 l7 l8;obtain ⟨k, rfl, hk, l_l, HBel, B_l, hI⟩ := hrel;have hlow := HBel.out.size;by_cases hlt : k < n4
  ·have u1 : decide (k < n4) = true := decide_eq_true hlt;obtain ⟨x, hx⟩ := get_lt (l := L.lw) (k := k) (by rw [← HT4.out.2]; exact hlt);have hxm := List.mem_of_getElem? hx;have hIx := Hq (hIs.out x);have hLx := Hq (hLa.out x hxm);have hFx := Hq (hFi.out x hxm);obtain ⟨q, hq⟩ := nx (hdB L x.id);rw [← hq] at hIx;obtain ⟨b, off, hA, hb, hall⟩ := HT4.out.1.at_ hx;have HX := Hq ((hall k x hx).keep hb HBel.out);have HA0 := Hq hA;have HQ := Hq (Ai hq (Ai hx hI.out));rw [hA];clear hall hx hb hA hq hxm hI;obtain ⟨l0, l1, l2, l3, l4, l5, l6, l7, l8⟩ := cells9 B_l.out;have l_l_0 : N_l < wr.heap.size + 1 := (by omega);go_wp2_with (refine wpList_load_wt rfl _ rfl b (off + k * 10) x rfl HX.out ?_);clear l0 l1 l2 l3 l4 l5 l6 l7 l8 l_l_0;obtain ⟨V1, hV1⟩ := nx (wr.alloc (.cells #[.int .i64 x.id, .int .i64 x.q, .int .i64 x.p, .int .i64 x.r, .int .i64 x.g, .int .i64 x.c, .int .i64 x.mn, .int .i64 x.mx, .int .i64 x.s, .int .i64 x.n] 57));rw [← hV1];have hzV1 := sz1 hV1;replace HBel := be1 hV1 HBel hlow;replace B_l := bk1 hV1 B_l l_l;have B_x := Hq (new10 hV1);obtain ⟨N_x, hN_x⟩ := nx (wr.heap.size);(try rw [← hN_x]);rw [← hN_x] at B_x;have d_l_x : N_l < N_x := (by omega);replace l_l : N_l < V1.heap.size := (by omega);have l_x : N_x < V1.heap.size := (by omega);have g_x : w.heap.size ≤ N_x := (by omega);replace hlow : w.heap.size ≤ V1.heap.size := (by omega);clear hV1 hzV1 hN_x;refine (hIx.out V1).mono ?_;rintro e U2 ⟨rfl, hb9⟩;have hs9 := hb9.size;replace HBel := bt9 HBel hb9 hlow;replace B_l := bb9 hb9 B_l l_l;replace B_x := bb9 hb9 B_x l_x;replace l_l : N_l < U2.heap.size := (by omega);replace l_x : N_x < U2.heap.size := (by omega);replace hlow : w.heap.size ≤ U2.heap.size := (by omega);clear hb9 hs9
   cases q
   ·have hlk := lk_blk B_l.out;have HJ : CellsAt U2 N_x 0 (jbC x.J) := fun r v hr => by
     rw [Nat.zero_add];exact cell_blk B_x.out (by rcases r with _ | _ | _ | _ | _ | _ | _ | _ | r <;> first | exact hr | (simp [jbC] at hr))
    go_wp2_with fail;refine held_begin (fun w' : World => CellsAt w' N_l 0 [.int .i64 L.now, .int .i64 L.hd, .int .i64 L.pr, .int .i64 L.to, .slice L.A1 n1 L.c1, .slice L.A2 n2 L.c2, .slice L.A3 n3 L.c3, .slice L.A4 n4 L.c4, .slice L.A5 n5 L.c5] ∧ CellsAt w' N_x 0 (jbC x.J)) (by kernel_rfl) ?_;have hBh0 : Below U2.heap.size U2 U2.drew := (Below.refl _ _).drew;have hSh0 := Ai hlk HJ;refine tkH ?_ 0 21 ?_ hSh0 ?_;rotate_left
    ·rintro w' ⟨x0, x1⟩;refine Eq.trans (run_load_lk (by rfl) (by rfl) x0) ?_;(with_reducible rfl)
    simp only [Act.put, pzA, pzB, pzC];refine tkA 1 22 hSh0 ?_;refine tkH ?_ 2 23 ?_ hSh0 ?_;rotate_left
    ·rintro w' ⟨x0, x1⟩;refine Eq.trans (run_load_jb (by rfl) (by rfl) x1) ?_;(with_reducible rfl)
    simp only [Act.put, pzA, pzB, pzC];refine tkH ?_ 3 24 ?_ hSh0 ?_;rotate_left
    ·rintro w' ⟨x0, x1⟩;refine Eq.trans (run_load_lk (by rfl) (by rfl) x0) ?_;(with_reducible rfl)
    simp only [Act.put, pzA, pzB, pzC];refine tkA 4 25 hSh0 ?_;refine tkH ?_ 5 26 ?_ hSh0 ?_;rotate_left
    ·rintro w' ⟨x0, x1⟩;refine Eq.trans (run_load_jb (by rfl) (by rfl) x1) ?_;(with_reducible rfl)
    simp only [Act.put, pzA, pzB, pzC];refine held_one 6 rfl (by kernel_rfl) (by rfl) (fun K hK => ?_);go_simp
    go_at_call 14
    refine (hLx.out U2.drew).mono ?_;rintro e wh1 ⟨rfl, hbh1⟩;have hBh1 : Below U2.heap.size U2 wh1 := below_step hBh0 hbh1;have hSh1 := Ai (hlk.keep (show N_l < U2.heap.size by omega) hBh1) (HJ.keep (show N_x < U2.heap.size by omega) hBh1);refine hK.out _ _ hSh1 ?_;clear hK K;refine held_one 7 rfl (by kernel_rfl) (by rfl) (fun K hK => ?_);go_simp
    go_at_call 40
    refine (hFx.out wh1 (HBel.out.trans (hBh1.mono hlow))).mono ?_;rintro e wh2 ⟨⟨A, k2, c2, r, n, n', rfl, hE, hS, hN⟩, hbh2⟩;have hBh2 : Below U2.heap.size U2 wh2 := below_step hBh1 hbh2;have hSh2 := Ai (hlk.keep (show N_l < U2.heap.size by omega) hBh2) (HJ.keep (show N_x < U2.heap.size by omega) hBh2);have HE := Hq (Ai hE (Ai hS hN));clear hE hS hN;refine hK.out _ _ hSh2 ?_;clear hK K;refine tkA 8 20 hSh2 ?_;refine tkA 9 29 hSh2 ?_;refine tkA 10 30 hSh2 ?_;refine tkA 11 7 hSh2 ?_;refine tkA 12 8 hSh2 ?_;refine wpAnyH_done (by kernel_rfl) ?_ _;have hb9 := hBh2;have hs9 := hb9.size;replace HBel := bt9 HBel hb9 hlow;replace B_l := bb9 hb9 B_l l_l;replace B_x := bb9 hb9 B_x l_x;replace l_l : N_l < wh2.heap.size := (by omega);replace l_x : N_x < wh2.heap.size := (by omega);replace hlow : w.heap.size ≤ wh2.heap.size := (by omega);clear hb9 hs9 hSh0 hBh0 hSh1 hBh1 hSh2 hBh2 HJ hlk;by_cases hr : r = 0
    ·subst hr;obtain ⟨a0, a1, a2, a3, a4, a5, a6, a7⟩ := HE.out.2.1 rfl;have HS := Hq (show FillY L x.id (placeF x.J.S L.lv n') from ⟨k, x, n, n', HQ.out.2.1, HQ.out.2.2, HQ.out.1.symm, rfl, HE.out.1, rfl⟩);have HA := Hq (Ai a4 (Ai a5 (Ai a6 a7)));clear a0 a1 a2 a3 a4 a5 a6 a7;obtain ⟨x0, x1, x2, x3, x4, x5, x6, x7, x8, x9⟩ := cells10 B_x.out;go_wp2
     go_ret3
     exact ⟨.inl ⟨_, _, A, k2, c2, rfl, HS.out, HA.out.1, HA.out.2.1, HA.out.2.2.1, HA.out.2.2.2⟩, by rw [HB0.out]; exact HBel.out⟩
    ·have t1 : (r == 0) = false := by simp [hr]
     have HR := Hq hr;clear hr;have HN : Hid (∀ y ∈ L.lw.take (k + 1), FillN1 L y) := Hq (by
      rw [take_next HQ.out.2.1];intro y hy;rcases List.mem_append.1 hy with hy | hy
      ·exact HQ.out.2.2 y hy
      ·rw [List.mem_singleton.1 hy]; exact .inr ⟨n, n', r, HE.out.1, HR.out⟩)
     go_wp2
     go_roundw
     case rel => exact ⟨k + 1, by go_num, by omega, l_l, HBel, (by rw [← HA0.out]; exact B_l), HN⟩
     case measure => simp [intOf]; omega
   ·have HN : Hid (∀ y ∈ L.lw.take (k + 1), FillN1 L y) := Hq (by
     rw [take_next HQ.out.2.1];intro y hy;rcases List.mem_append.1 hy with hy | hy
     ·exact HQ.out.2.2 y hy
     ·rw [List.mem_singleton.1 hy]; exact .inl HQ.out.1.symm)
    go_wp2
    go_roundw
    case rel => exact ⟨k + 1, by go_num, by omega, l_l, HBel, (by rw [← HA0.out]; exact B_l), HN⟩
    case measure => simp [intOf]; omega
  ·obtain rfl : n4 = k := by omega
   have u1 : decide (n4 < n4) = false := decide_eq_false hlt;have HN : Hid (FillN L) := Hq (by have := hI.out; rw [HT4.out.2, List.take_length] at this; exact this);clear hI;go_wp2
   go_ret3
   exact ⟨.inr ⟨HN.out, rfl⟩, by rw [HB0.out]; exact HBel.out⟩
end
end Go.Proofs.YtkkkhonjcbhelaaGreatDoor
