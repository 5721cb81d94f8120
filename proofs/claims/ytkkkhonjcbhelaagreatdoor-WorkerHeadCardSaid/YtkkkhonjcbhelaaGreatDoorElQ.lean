import Derived.Test.YtkkkhonjcbhelaaGreatDoorElP
set_option maxRecDepth 100000
set_option linter.unusedVariables false
namespace Go.Proofs.YtkkkhonjcbhelaaGreatDoor
section
open Go.RowKit
open PR
set_option maxHeartbeats 2000000 in
theorem headcl_any (p : Nat) (hd : Int) (x : Wt) (w : World) (hc : w.cell? ⟨p, 1, none⟩ = some (.int .i64 hd)) : Calls Tryz.prog 72 #[wtV x, .pointer (some ⟨p, 0, none⟩)] w fun e w' => e = .returned (.bool (x.id == hd)) ∧ Below w.heap.size w w' := by
 have hb := wt_new w x;have hB := Hq ((Below.refl w.heap.size w).alloc (Nat.le_refl _) (wtO x));have hp : p < w.heap.size := lt_of_cell hc;have a0 : (w.alloc (wtO x)).cell? ⟨w.heap.size, 0, none⟩ = some (.int .i64 x.id) := cell_blk (i := 0) hb rfl;have c1 : (w.alloc (wtO x)).cell? ⟨p, 1, none⟩ = some (.int .i64 hd) := (hB.out.cell (p := ⟨p, 1, none⟩) hp).trans hc;simp only [wtV];clear hb hc;go_enter Tryz.func72, Tryz.ntmps72;go_wp2_with fail
 go_ret
 exact ⟨rfl, hB.out⟩
theorem find_at {α : Type} {l : List α} {P : α → Bool} {k : Nat} {x : α} (h : (l.take k).find? P = none) (hx : l[k]? = some x) (hp : P x = true) : l.find? P = some x := by
 conv => lhs; rw [← List.take_append_drop (k + 1) l, take_next hx, List.append_assoc, List.find?_append, h]
 simp [hp]
theorem find_on {α : Type} {l : List α} {P : α → Bool} {k : Nat} {x : α} (h : (l.take k).find? P = none) (hx : l[k]? = some x) (hp : P x = false) : (l.take (k + 1)).find? P = none := by
 rw [take_next hx, List.find?_append, h];simp [hp]
def IdxR (l : List Wt) (hd n : Int) : Prop := (n = -1 ∧ l.find? (fun x => x.id == hd) = none) ∨ ∃ (k : Nat) (x : Wt), n = k ∧ l[k]? = some x ∧ l.find? (fun x => x.id == hd) = some x
set_option maxHeartbeats 4000000 in
theorem hindex_any (p : Nat) (hd : Int) (A : Option Addr) (c : Nat) (l : List Wt) (w : World) (h : Wts w w.heap.size A l) (hl : l.length ≤ maxLen) (hc1 : w.cell? ⟨p, 1, none⟩ = some (.int .i64 hd)) :
  Calls Tryz.prog 36 #[.slice A l.length c, .func (.func 72) #[] #[.pointer (some ⟨p, 0, none⟩)]] w fun e w' => ∃ n : Int, e = .returned (.int .i64 n) ∧ IdxR l hd n ∧ Below w.heap.size w w' := by
 have hp : p < w.heap.size := lt_of_cell hc1;obtain ⟨n, hn⟩ := nx (l.length);rw [← hn] at hl ⊢;have hl2 : n ≤ 9223372036854775807 := hl;have H := Hq (Ai h hn);have HC := Hq (fun x W (hk : Below w.heap.size w W) => headcl_any p hd x W ((hk.cell (p := ⟨p, 1, none⟩) hp).trans hc1));clear h hn hc1 hl;have HB0 := Hq (Below.refl w.heap.size w);have HI0 : Hid ((l.take 0).find? (fun x => x.id == hd) = none) := Hq rfl;go_enter Tryz.func36, Tryz.ntmps36;go_wp2;go_loopw [8] (fun i wr => ∃ k : Nat, i = .int .i64 k ∧ k ≤ n ∧ Hid (Below w.heap.size w wr) ∧ Hid ((l.take k).find? (fun x => x.id == hd) = none)) (fun i _ => n - (intOf i).toNat)
 case atStart => exact ⟨0, rfl, by omega, HB0, HI0⟩
 case round =>
  clear HB0 HI0;obtain ⟨k, rfl, hk, hB, hI⟩ := hrel;by_cases hlt : k < n
  ·obtain ⟨x, hx⟩ := get_lt (l := l) (k := k) (by rw [← H.out.2]; exact hlt);obtain ⟨b, off, rfl, hb, hc⟩ := H.out.1.at_ hx;have hcx := (hc k _ hx).keep hb hB.out;have a0 : wr.cell? ⟨b, off + k * 10, none⟩ = some (.int .i64 x.id) := hcx 0 _ rfl;have a1 : wr.cell? ⟨b, off + k * 10 + 1, none⟩ = some (.int .i64 x.q) := hcx 1 _ rfl;have a2 : wr.cell? ⟨b, off + k * 10 + 2, none⟩ = some (.int .i64 x.p) := hcx 2 _ rfl;have a3 : wr.cell? ⟨b, off + k * 10 + 3, none⟩ = some (.int .i64 x.r) := hcx 3 _ rfl;have a4 : wr.cell? ⟨b, off + k * 10 + 4, none⟩ = some (.int .i64 x.g) := hcx 4 _ rfl;have a5 : wr.cell? ⟨b, off + k * 10 + 5, none⟩ = some (.int .i64 x.c) := hcx 5 _ rfl;have a6 : wr.cell? ⟨b, off + k * 10 + 6, none⟩ = some (.int .i64 x.mn) := hcx 6 _ rfl;have a7 : wr.cell? ⟨b, off + k * 10 + 7, none⟩ = some (.int .i64 x.mx) := hcx 7 _ rfl;have a8 : wr.cell? ⟨b, off + k * 10 + 8, none⟩ = some (.int .i64 x.s) := hcx 8 _ rfl;have a9 : wr.cell? ⟨b, off + k * 10 + 9, none⟩ = some (.int .i64 x.n) := hcx 9 _ rfl;have t2 : decide (k < n) = true := decide_eq_true hlt;have hC := Hq (HC.out x wr hB.out);obtain ⟨m, hm⟩ := nx ((x.id == hd));rw [← hm] at hC;simp only [wtV, wtA] at hC
   cases m
   ·have HN : Hid ((l.take (k + 1)).find? (fun x => x.id == hd) = none) := Hq (find_on hI.out hx hm.symm);have HB1 := hB;clear hcx hc hb hx hI hB hm HC;go_wp2_with fail;refine hC.out.mono ?_;rintro e w1 ⟨rfl, hb1⟩;have HB2 := Hq (below_step HB1.out hb1);clear HB1 hb1 hC;go_wp2
    go_roundw
    case rel => exact ⟨k + 1, by go_num, by omega, HB2, HN⟩
    case measure => simp [intOf]; omega
   ·have HR : Hid (IdxR l hd k) := Hq (.inr ⟨k, x, rfl, hx, find_at hI.out hx hm.symm⟩);have HB1 := hB;clear hcx hc hb hx hI hB hm HC;go_wp2_with fail;refine hC.out.mono ?_;rintro e w1 ⟨rfl, hb1⟩;have HB2 := Hq (below_step HB1.out hb1);clear HB1 hb1;go_wp2
    go_ret
    exact ⟨_, rfl, HR.out, HB2.out⟩
  ·obtain rfl : k = n := by omega
   have HR : Hid (IdxR l hd (-1)) := Hq (.inl ⟨rfl, by have := hI.out; rw [H.out.2, List.take_length] at this; exact this⟩);have HB1 := hB;clear hI hB hlt;go_wp2
   go_ret
   exact ⟨_, rfl, HR.out, HB1.out⟩
def HeadR (o : Option Wa) (e : Ending) : Prop := (o = none ∧ e = .returned (.tuple #[.agg #[.int .i64 0, .int .i64 0, .int .i64 0, .int .i64 0, .int .i64 0, .int .i64 0], .bool false])) ∨ ∃ X, o = some X ∧ e = .returned (.tuple #[.agg #[.int .i64 X.q, .int .i64 X.n, .int .i64 X.S.g, .int .i64 X.S.c, .int .i64 X.S.mn, .int .i64 X.S.mx], .bool true])
set_option maxHeartbeats 8000000 in
theorem head_any (L : Lk) (w : World) (h : LkIn w w.heap.size L) (hW : LkW L) :
  Calls Tryz.prog 63 #[lkV L] w fun e w' => HeadR (headL L) e ∧ Below w.heap.size w w' := by
 obtain ⟨n1, hn1⟩ := nx (L.lv.length);obtain ⟨n2, hn2⟩ := nx (L.lf.length);obtain ⟨n3, hn3⟩ := nx (L.le.length);obtain ⟨n4, hn4⟩ := nx (L.lw.length);obtain ⟨n5, hn5⟩ := nx (L.lr.length);have hI := Hq (fun p W (hk : Below w.heap.size w W) (hc : W.cell? ⟨p, 1, none⟩ = some (.int .i64 L.hd)) => show Calls Tryz.prog 36 #[.slice L.A4 n4 L.c4, .func (.func 72) #[] #[.pointer (some ⟨p, 0, none⟩)]] W (fun e w' => ∃ n : Int, e = .returned (.int .i64 n) ∧ IdxR L.lw L.hd n ∧ Below W.heap.size W w') from by
  rw [hn4];exact hindex_any p L.hd L.A4 L.c4 L.lw W (Els.keep h.t hk hk.size) (Nat.le_trans hW.l4 hW.m4) hc)
 have HT4 := Hq h.t;have HN := Hq hn4;obtain ⟨o, ho⟩ := nx (headL L);rw [← ho];unfold headL at ho;have HO := Hq ho;clear ho;unfold lkV lkA;rw [← hn1, ← hn2, ← hn3, ← hn4, ← hn5];clear hn1 hn2 hn3 hn4 hn5 h hW;by_cases h0 : L.hd = 0
 ·have t0 : ((0 : Int) == 0) = true := rfl;have E0 := Hq (show o = none from by rw [HO.out, if_pos h0]);rw [h0];clear h0;obtain ⟨B0, hB0⟩ := nx (w.heap.size);rw [← hB0];have HB0 := Hq hB0;clear hB0;have HBel := Hq (Below.refl w.heap.size w);have hlow : w.heap.size ≤ w.heap.size := Nat.le_refl _;go_enter Tryz.func63, Tryz.ntmps63;go_wp2_with fail;obtain ⟨V1, hV1⟩ := nx ((w.alloc (.cells #[.int .i64 L.now, .int .i64 0, .int .i64 L.pr, .int .i64 L.to, .slice L.A1 n1 L.c1, .slice L.A2 n2 L.c2, .slice L.A3 n3 L.c3, .slice L.A4 n4 L.c4, .slice L.A5 n5 L.c5] 28)).alloc (.cells #[.int .i64 0, .int .i64 0, .int .i64 0, .int .i64 0, .int .i64 0, .int .i64 0] 34));rw [← hV1];have hzV1 := sz2 hV1;replace HBel := be2 hV1 HBel hlow;have B_l := Hq (new20 hV1);have B_r := Hq (new21 hV1);obtain ⟨N_l, hN_l⟩ := nx (w.heap.size);obtain ⟨N_r, hN_r⟩ := nx (w.heap.size + 1);(try rw [← hN_r]);rw [← hN_r] at B_r;(try rw [← hN_l]);rw [← hN_l] at B_l;have l_l : N_l < V1.heap.size := by omega
  have l_r : N_r < V1.heap.size := by omega
  have g_l : w.heap.size ≤ N_l := by omega
  have g_r : w.heap.size ≤ N_r := by omega
  have d_l_r : N_l < N_r := by omega
  replace hlow : w.heap.size ≤ V1.heap.size := by omega
  clear hV1 hzV1 hN_l hN_r;obtain ⟨r0, r1, r2, r3, r4, r5⟩ := cells6 B_r.out;refine bodyPost_ret (v := .tuple #[.agg #[.int .i64 0, .int .i64 0, .int .i64 0, .int .i64 0, .int .i64 0, .int .i64 0], .bool false]) (by simp [results, Tryz.results63, go_sem, r0, r1, r2, r3, r4, r5]) rfl ?_;exact ⟨.inl ⟨E0.out, rfl⟩, by rw [HB0.out]; exact HBel.out⟩
 ·have t0 : (L.hd == 0) = false := by simp [h0]
  have E0 := Hq h0;clear h0;obtain ⟨B0, hB0⟩ := nx (w.heap.size);rw [← hB0];have HB0 := Hq hB0;clear hB0;have HBel := Hq (Below.refl w.heap.size w);have hlow : w.heap.size ≤ w.heap.size := Nat.le_refl _;go_enter Tryz.func63, Tryz.ntmps63;go_wp2_with fail;obtain ⟨V1, hV1⟩ := nx ((w.alloc (.cells #[.int .i64 L.now, .int .i64 L.hd, .int .i64 L.pr, .int .i64 L.to, .slice L.A1 n1 L.c1, .slice L.A2 n2 L.c2, .slice L.A3 n3 L.c3, .slice L.A4 n4 L.c4, .slice L.A5 n5 L.c5] 28)).alloc (.cells #[.int .i64 0, .int .i64 0, .int .i64 0, .int .i64 0, .int .i64 0, .int .i64 0] 34));rw [← hV1];have hzV1 := sz2 hV1;replace HBel := be2 hV1 HBel hlow;have B_l := Hq (new20 hV1);have B_r := Hq (new21 hV1);obtain ⟨N_l, hN_l⟩ := nx (w.heap.size);obtain ⟨N_r, hN_r⟩ := nx (w.heap.size + 1);(try rw [← hN_r]);rw [← hN_r] at B_r;(try rw [← hN_l]);rw [← hN_l] at B_l;have l_l : N_l < V1.heap.size := by omega
  have l_r : N_r < V1.heap.size := by omega
  have g_l : w.heap.size ≤ N_l := by omega
  have g_r : w.heap.size ≤ N_r := by omega
  have d_l_r : N_l < N_r := by omega
  replace hlow : w.heap.size ≤ V1.heap.size := by omega
  clear hV1 hzV1 hN_l hN_r;obtain ⟨l0, l1, l2, l3, l4, l5, l6, l7, l8⟩ := cells9 B_l.out;go_wp2_with fail;refine (hI.out N_l V1 HBel.out l1).mono ?_;rintro e U2 ⟨n, rfl, hi, hb9⟩;clear l0 l1 l2 l3 l4 l5 l6 l7 l8;have hs9 := hb9.size;replace HBel := bt9 HBel hb9 hlow;replace B_l := bb9 hb9 B_l l_l;replace B_r := bb9 hb9 B_r l_r;replace l_l : N_l < U2.heap.size := by omega
  replace l_r : N_r < U2.heap.size := by omega
  replace hlow : w.heap.size ≤ U2.heap.size := by omega
  clear hb9 hs9;rcases hi with ⟨rfl, hnone⟩ | ⟨k, x, rfl, hx, hfind⟩
  ·have E1 := Hq (show o = none from by rw [HO.out, if_neg E0.out, hnone]);clear hnone;obtain ⟨l0, l1, l2, l3, l4, l5, l6, l7, l8⟩ := cells9 B_l.out;obtain ⟨r0, r1, r2, r3, r4, r5⟩ := cells6 B_r.out;have rz0 : U2.frozen? ⟨N_r, 0, none⟩ = false := frozen_blk B_r.out;have rz1 : U2.frozen? ⟨N_r, 1, none⟩ = false := frozen_blk B_r.out;have rz2 : U2.frozen? ⟨N_r, 2, none⟩ = false := frozen_blk B_r.out;have rz3 : U2.frozen? ⟨N_r, 3, none⟩ = false := frozen_blk B_r.out;have rz4 : U2.frozen? ⟨N_r, 4, none⟩ = false := frozen_blk B_r.out;have rz5 : U2.frozen? ⟨N_r, 5, none⟩ = false := frozen_blk B_r.out;go_wp2_with fail;clear l0 l1 l2 l3 l4 l5 l6 l7 l8 r0 r1 r2 r3 r4 r5 rz0 rz1 rz2 rz3 rz4 rz5;obtain ⟨S3, hS3⟩ := nx (((((((U2).setCell ⟨N_r, 0, none⟩ (.int .i64 0)).setCell ⟨N_r, 1, none⟩ (.int .i64 0)).setCell ⟨N_r, 2, none⟩ (.int .i64 0)).setCell ⟨N_r, 3, none⟩ (.int .i64 0)).setCell ⟨N_r, 4, none⟩ (.int .i64 0)).setCell ⟨N_r, 5, none⟩ (.int .i64 0));rw [← hS3];have hzS3 : S3.heap.size = U2.heap.size := by rw [hS3]; simp
   replace HBel : Hid (Below w.heap.size w S3) := Hq (by rw [hS3]; exact ((((((HBel.out.setCell (g_r) _).setCell (g_r) _).setCell (g_r) _).setCell (g_r) _).setCell (g_r) _).setCell (g_r) _));replace B_l := Hq (blk_eq hS3 (((Sn N_l N_r).trans ((Sn N_l N_r).trans ((Sn N_l N_r).trans ((Sn N_l N_r).trans ((Sn N_l N_r).trans ((Sn N_l N_r).trans B_l.out))))))));replace B_r : Hid (S3.heap[N_r]? = some (.cells #[.int .i64 0, .int .i64 0, .int .i64 0, .int .i64 0, .int .i64 0, .int .i64 0] 34 (0, 0))) := Hq (by rw [hS3]; exact (blk_put (i := 5) _ (blk_put (i := 4) _ (blk_put (i := 3) _ (blk_put (i := 2) _ (blk_put (i := 1) _ (blk_put (i := 0) _ B_r.out)))))));replace l_l : N_l < S3.heap.size := (by omega);replace l_r : N_r < S3.heap.size := (by omega);replace hlow : w.heap.size ≤ S3.heap.size := (by omega);clear hS3 hzS3;obtain ⟨r0, r1, r2, r3, r4, r5⟩ := cells6 B_r.out;refine bodyPost_ret (v := .tuple #[.agg #[.int .i64 0, .int .i64 0, .int .i64 0, .int .i64 0, .int .i64 0, .int .i64 0], .bool false]) (by simp [results, Tryz.results63, go_sem, r0, r1, r2, r3, r4, r5]) rfl ?_;exact ⟨.inl ⟨E1.out, rfl⟩, by rw [HB0.out]; exact HBel.out⟩
  ·have E1 := Hq (show o = some ⟨x.q, x.mn, ⟨x.g, x.c, x.mn, x.mx⟩⟩ from by rw [HO.out, if_neg E0.out, hfind]);have hkn : k < n4 := by rw [HN.out]; exact (List.getElem?_eq_some_iff.1 hx).1
   obtain ⟨b, off, hA, hb, hc⟩ := HT4.out.at_ hx;have hcx := (hc k _ hx).keep hb HBel.out;rw [hA] at B_l ⊢;have HX := Hq (show CellsAt U2 b (off + k * 10) (jbC ⟨x.id, x.q, x.p, x.r, x.g, x.c, x.mn, x.mx⟩) from fun r v hr => hcx r v (by rcases r with _ | _ | _ | _ | _ | _ | _ | _ | r <;> first | exact hr | (simp [jbC] at hr)));clear hcx hc hb hA hx hfind;obtain ⟨l0, l1, l2, l3, l4, l5, l6, l7, l8⟩ := cells9 B_l.out;obtain ⟨r0, r1, r2, r3, r4, r5⟩ := cells6 B_r.out;have l_r_0 : N_r < U2.heap.size + 1 := (by omega);have rz0 : U2.frozen? ⟨N_r, 0, none⟩ = false := frozen_blk B_r.out;have rz1 : U2.frozen? ⟨N_r, 1, none⟩ = false := frozen_blk B_r.out;have rz2 : U2.frozen? ⟨N_r, 2, none⟩ = false := frozen_blk B_r.out;have rz3 : U2.frozen? ⟨N_r, 3, none⟩ = false := frozen_blk B_r.out;have rz4 : U2.frozen? ⟨N_r, 4, none⟩ = false := frozen_blk B_r.out;have rz5 : U2.frozen? ⟨N_r, 5, none⟩ = false := frozen_blk B_r.out;go_wp2_with (refine wpList_load_jb rfl _ rfl b (off + k * 10) ⟨x.id, x.q, x.p, x.r, x.g, x.c, x.mn, x.mx⟩ rfl HX.out ?_);clear l0 l1 l2 l3 l4 l5 l6 l7 l8 r0 r1 r2 r3 r4 r5 l_r_0 rz0 rz1 rz2 rz3 rz4 rz5;obtain ⟨S3, hS3⟩ := nx (((((((U2).setCell ⟨N_r, 0, none⟩ (.int .i64 x.q)).setCell ⟨N_r, 1, none⟩ (.int .i64 x.mn)).setCell ⟨N_r, 2, none⟩ (.int .i64 x.g)).setCell ⟨N_r, 3, none⟩ (.int .i64 x.c)).setCell ⟨N_r, 4, none⟩ (.int .i64 x.mn)).setCell ⟨N_r, 5, none⟩ (.int .i64 x.mx));rw [← hS3];have hzS3 : S3.heap.size = U2.heap.size := by rw [hS3]; simp
   replace HBel : Hid (Below w.heap.size w S3) := Hq (by rw [hS3]; exact ((((((HBel.out.setCell (g_r) _).setCell (g_r) _).setCell (g_r) _).setCell (g_r) _).setCell (g_r) _).setCell (g_r) _));replace B_l := Hq (blk_eq hS3 (((Sn N_l N_r).trans ((Sn N_l N_r).trans ((Sn N_l N_r).trans ((Sn N_l N_r).trans ((Sn N_l N_r).trans ((Sn N_l N_r).trans B_l.out))))))));replace B_r : Hid (S3.heap[N_r]? = some (.cells #[.int .i64 x.q, .int .i64 x.mn, .int .i64 x.g, .int .i64 x.c, .int .i64 x.mn, .int .i64 x.mx] 34 (0, 0))) := Hq (by rw [hS3]; exact (blk_put (i := 5) _ (blk_put (i := 4) _ (blk_put (i := 3) _ (blk_put (i := 2) _ (blk_put (i := 1) _ (blk_put (i := 0) _ B_r.out)))))));replace l_l : N_l < S3.heap.size := (by omega);replace l_r : N_r < S3.heap.size := (by omega);replace hlow : w.heap.size ≤ S3.heap.size := (by omega);clear hS3 hzS3;obtain ⟨V4, hV4⟩ := nx (S3.alloc (.cells #[.int .i64 x.id, .int .i64 x.q, .int .i64 x.p, .int .i64 x.r, .int .i64 x.g, .int .i64 x.c, .int .i64 x.mn, .int .i64 x.mx] 47));rw [← hV4];have hzV4 := sz1 hV4;replace HBel := be1 hV4 HBel hlow;replace B_l := bk1 hV4 B_l l_l;replace B_r := bk1 hV4 B_r l_r;have B_y := Hq (new10 hV4);obtain ⟨N_y, hN_y⟩ := nx (S3.heap.size);(try rw [← hN_y]);rw [← hN_y] at B_y;have d_l_y : N_l < N_y := (by omega);have d_r_y : N_r < N_y := (by omega);replace l_l : N_l < V4.heap.size := (by omega);replace l_r : N_r < V4.heap.size := (by omega);have l_y : N_y < V4.heap.size := (by omega);have g_y : w.heap.size ≤ N_y := (by omega);replace hlow : w.heap.size ≤ V4.heap.size := (by omega);clear hV4 hzV4 hN_y;obtain ⟨r0, r1, r2, r3, r4, r5⟩ := cells6 B_r.out;refine bodyPost_ret (v := .tuple #[.agg #[.int .i64 x.q, .int .i64 x.mn, .int .i64 x.g, .int .i64 x.c, .int .i64 x.mn, .int .i64 x.mx], .bool true]) (by simp [results, Tryz.results63, go_sem, r0, r1, r2, r3, r4, r5]) rfl ?_;exact ⟨.inr ⟨⟨x.q, x.mn, ⟨x.g, x.c, x.mn, x.mx⟩⟩, E1.out, rfl⟩, by rw [HB0.out]; exact HBel.out⟩
structure LkF (L : Lk) : Prop where
 v : View L.lv
 n : L.lv.length ≤ 70
 e1 : L.le.length ≤ 20
 e2 : ∀ x ∈ L.le, x.sl.length ≤ 20
 f : ∀ u ∈ L.lf, -1048576 ≤ u.g ∧ u.g ≤ 1048576 ∧ -1048576 ≤ u.c ∧ u.c ≤ 1048576
 m : (turnL moreC L.lv (sl L.le)).1 = 0
 fl : L.lf.length ≤ 20
theorem head_ok {L : Lk} {X : Wa} (hW : LkW L) (h : headL L = some X) : WaOk X := by
 unfold headL at h
 split at h
 ·cases h
 ·split at h
  ·cases h
  ·rename_i x hx
   have hm := List.mem_of_find?_eq_some hx;have hw := hW.t x hm;injection h with h;subst h;exact ⟨hw.q, hw.mn, ⟨hw.g, hw.c, hw.mn, hw.mx⟩⟩
theorem left_in {L : Lk} {q : Int} {U : Lu} (h : leftL L q = some U) : U ∈ L.lf ∧ 0 ≤ q ∧ q < L.lf.length := by
 unfold leftL at h
 split at h
 ·have h9 := (List.getElem?_eq_some_iff.1 h).1;exact ⟨List.mem_of_getElem? h, by omega, by omega⟩
 ·cases h
theorem left_no {L : Lk} {q : Int} (h : leftL L q = none) : q < 0 ∨ (L.lf.length : Int) ≤ q := by
 unfold leftL at h
 split at h
 ·have := List.getElem?_eq_none_iff.1 h;omega
 ·omega
end
set_option linter.unusedVariables false
section
open Go.RowKit Go.Shelf
attribute [local go_sem] Oper.semAt_some
abbrev Yd (lo hi : Nat) : Type := { k : Nat // lo ≤ k ∧ k ≤ hi }
def ydL {lo hi : Nat} (l : List (Yd lo hi)) : List Nat := l.map (·.1)
theorem ydL_snoc {lo hi : Nat} (l : List (Yd lo hi)) (k : Yd lo hi) : ydL (l ++ [k]) = ydL l ++ [k.1] := by simp [ydL]
theorem ydL_len {lo hi : Nat} (l : List (Yd lo hi)) : (ydL l).length = l.length := by simp [ydL]
def downs (lo hi : Nat) : List Nat := (List.range (hi + 1 - lo)).map (fun i => hi - i)
theorem downs_len (lo hi : Nat) : (downs lo hi).length = hi + 1 - lo := by simp [downs]
theorem downs_at {lo hi k : Nat} (h1 : lo ≤ k) (h2 : k ≤ hi) : (downs lo hi)[hi - k]? = some k := by
 unfold downs;rw [List.getElem?_map, List.getElem?_range (by omega)]
 simp; omega
theorem downs_mem {lo hi k : Nat} : k ∈ downs lo hi ↔ lo ≤ k ∧ k ≤ hi := by
 unfold downs;rw [List.mem_map];constructor
 ·rintro ⟨i, hi1, rfl⟩;rw [List.mem_range] at hi1;omega
 ·rintro ⟨h1, h2⟩;exact ⟨hi - k, by rw [List.mem_range]; omega, by omega⟩
theorem downs_ahead {lo hi k : Nat} {p : List Nat} (h : p ++ [k] <+: downs lo hi) : ∀ m, k < m → m ≤ hi → m ∈ p := by
 intro m h1 h2;have hl : p.length < hi + 1 - lo := by
  have := h.length_le;rw [downs_len, List.length_append] at this;simp at this; omega
 have hpk : (downs lo hi)[p.length]? = some k := by
  obtain ⟨t, ht⟩ := h;rw [← ht]; simp
 have hk : hi - p.length = k := by
  unfold downs at hpk;rw [List.getElem?_map, List.getElem?_range hl] at hpk;simpa using hpk
 have hm : (downs lo hi)[hi - m]? = some m := downs_at (by omega) h2;have hlt : hi - m < p.length := by omega
 obtain ⟨t, ht⟩ := h;rw [← ht, List.append_assoc, List.getElem?_append_left hlt] at hm;exact List.mem_of_getElem? hm
def intN : Value → Nat
 | .int _ n => n.toNat
 | _ => 0
def Stays1 (b : Nat) (A B : World) : Prop := B.heap[b]? = A.heap[b]?
set_option maxRecDepth 100000 in
set_option maxHeartbeats 2000000 in
theorem downs_in (n : Nat) (hn : 1 ≤ n) (l Bn lo hi : Nat) (hlo : 1 ≤ lo) (hlh : lo ≤ hi) (hhi : hi ≤ 1000) (J Jx : List (Yd lo hi) → World → Prop)
  (hY : ∀ pre (y : Yd lo hi) W, J pre W → pre.length < hi + 1 - lo → YieldAt Fence.wide (n - 1) Tryz.prog l #[.int .i64 (y.1 : Nat)] W fun e W' =>
   (e = .returned (.bool true) ∧ J (pre ++ [y]) W' ∧ Stays1 (Bn + 1) W W') ∨ (e = .returned (.bool false) ∧ Jx (pre ++ [y]) W'))
  (W : World) (c0 : W.cell? ⟨Bn, 0, none⟩ = some (.int .i64 (hi : Nat))) (c1 : W.cell? ⟨Bn + 1, 0, none⟩ = some (.int .i64 (lo : Nat))) (h0 : J [] W) :
  CallsIn Fence.wide n Tryz.prog 66 #[.func (.yield l) #[] #[], .pointer (some ⟨Bn, 0, none⟩), .pointer (some ⟨Bn + 1, 0, none⟩)] W fun e W' => (∃ v, e = .returned v) ∧
   ((∃ ys, ydL ys = downs lo hi ∧ J ys W') ∨ (∃ pre, ydL pre <+: downs lo hi ∧ Jx pre W')) := by
 have HB0 : Hid (Stays1 (Bn + 1) W W) := Hq rfl;have HC1 := Hq c1;have HJ0 := Hq h0;have HL0 := Hq (show ydL ([] : List (Yd lo hi)) = (downs lo hi).take (hi - hi) by simp [ydL]);clear h0;refine callsIn_of_wp Tryz.func66 rfl trivial ?_ rfl;simp only [Tryz.ntmps66, List.size_toArray, List.length_cons, List.length_nil, Nat.reduceAdd, Nat.reduceSub, Array.replicate_succ, Array.replicate_zero, List.push_toArray, List.append_toArray, List.nil_append, List.cons_append]
 gi_wp2
 gi_loopw [4] (fun p wr => ∃ (k : Nat) (pre : List (Yd lo hi)), p = .int .i64 (k : Nat) ∧ lo ≤ k + 1 ∧ k ≤ hi ∧ Hid (ydL pre = (downs lo hi).take (hi - k)) ∧ Hid (Stays1 (Bn + 1) W wr) ∧ Hid (J pre wr)) (fun p _ => intN p)
 case atStart =>
  exact ⟨hi, [], rfl, by omega, Nat.le_refl _, HL0, HB0, HJ0⟩
 case round =>
  clear HB0 HJ0 HL0 c0 c1;obtain ⟨k, pre, rfl, hk1, hk2, hL, hB, hJs⟩ := hrel;have c1 := (World.cell?_of_block (a := ⟨Bn + 1, 0, none⟩) hB.out).trans HC1.out;by_cases hk : lo ≤ k
  ·have t1 : decide (lo ≤ k) = true := decide_eq_true hk;have hlen : pre.length < hi + 1 - lo := by rw [← ydL_len, hL.out, List.length_take, downs_len]; omega
   obtain ⟨y, hyk⟩ : ∃ y : Yd lo hi, y.1 = k := ⟨⟨k, hk, hk2⟩, rfl⟩
   obtain ⟨fn, tmps, assign, body, hy, hR⟩ := hY pre y wr hJs.out hlen;rw [hyk] at hy;have hsub : (k : Int) - 1 = ((k - 1 : Nat) : Int) := (by omega);have HS := Hq hsub;have HN := Hq (show ydL (pre ++ [y]) = (downs lo hi).take (hi - (k - 1)) by
    rw [ydL_snoc, hL.out, hyk, show hi - (k - 1) = (hi - k) + 1 by omega, List.take_add_one, downs_at hk hk2]; rfl)
   have HK := Hq (Ai hk (Ai hk1 hk2));clear hlen hsub hk hk1 hk2 hyk
   gi_wp2
   refine hR.mono ?_;rintro e W3 (⟨rfl, hJ3, hk3⟩ | ⟨rfl, hJx3⟩)
   ·have HJ3 := Hq hJ3;have HB3 := Hq (show Stays1 (Bn + 1) W W3 from Eq.trans hk3 hB.out);clear hJ3 hk3
    gi_wp2
    rw [HS.out, show wrap64 ((k - 1 : Nat) : Int) = ((k - 1 : Nat) : Int) from IntWalk.wrap64_in _ (by have := HK.out; omega)];refine ⟨⟨k - 1, pre ++ [y], rfl, by have := HK.out; omega, by have := HK.out; omega, HN, HB3, HJ3⟩, ?_⟩;have := HK.out;simp only [intN, Int.toNat_natCast];omega
   ·have HJ3 := Hq hJx3;clear hJx3
    gi_wp2
    refine bodyPost_ret (results_none rfl _ _ _) rfl ?_;exact ⟨⟨_, rfl⟩, .inr ⟨_, by rw [HN.out]; exact List.take_prefix _ _, HJ3.out⟩⟩
  ·have t1 : decide (lo ≤ k) = false := decide_eq_false hk;have HE := Hq (show ydL pre = downs lo hi by rw [hL.out, List.take_of_length_le (by rw [downs_len]; omega)]);clear hk hk1 hk2
   gi_wp2
   go_end0
   exact ⟨⟨_, rfl⟩, .inl ⟨pre, HE.out, hJs.out⟩⟩
set_option maxHeartbeats 2000000 in
theorem downw_any (hi lo : Int) (w : World) : Calls Tryz.prog 57 #[.int .i64 hi, .int .i64 lo] w fun e w' =>
  e = .returned (.func (.func 66) #[] #[.pointer (some ⟨w.heap.size, 0, none⟩), .pointer (some ⟨w.heap.size + 1, 0, none⟩)]) ∧
   w'.heap.size = w.heap.size + 2 ∧ w'.cell? ⟨w.heap.size, 0, none⟩ = some (.int .i64 hi) ∧ w'.cell? ⟨w.heap.size + 1, 0, none⟩ = some (.int .i64 lo) ∧ Below w.heap.size w w' := by
 go_enter Tryz.func57, Tryz.ntmps57;go_wp2
 go_ret
 have e0 : ∀ (W : World) (o : Obj), (W.alloc o).heap.size = W.heap.size + 1 := fun W o => by simp
 have b0 := heap_alloc_new w (.cells #[.int .i64 hi] 3);have b1 := heap_alloc_new (w.alloc (.cells #[.int .i64 hi] 3)) (.cells #[.int .i64 lo] 3);rw [e0] at b1;have f0 := (Below.heap_alloc (w.alloc (.cells #[.int .i64 hi] 3)) (.cells #[.int .i64 lo] 3) w.heap.size (by rw [e0]; omega)).trans b0;exact ⟨rfl, by rw [e0, e0], cell_blk (i := 0) f0 rfl, cell_blk (i := 0) b1 rfl, ((Below.refl w.heap.size w).alloc (Nat.le_refl _) _).alloc (by simp) _⟩
end
set_option linter.unusedVariables false
section
open Go.RowKit Go.Shelf
open PR
attribute [local go_sem] Oper.semAt_some
theorem below_grownE {w w' : World} (h : Below w.heap.size w w') : w.grownBy w' none := ⟨h.os, h.tape, h.output, h.size, fun k hk _ => h.block k hk⟩
theorem keeps_below {w w' : World} (h : Below w.heap.size w w') : KeepsOthers w w' := KeepsOthers.of_grownBy (below_grownE h) (fun j o e => by cases e)
theorem fes_grown {w w' : World} {row : Option Nat} {A : Option Addr} {l : List Fe} (h : Fes w w.heap.size A l) (hg : w.grownBy w' row) (hr : ∀ r, row = some r → ∃ o : Obj, w.heap[r]? = some o ∧ o.isCells = false) : Fes w' w'.heap.size A l := by
 rcases h with h | ⟨b, off, rfl, hb, hc⟩
 ·exact .inl h
 ·by_cases h0 : l = []
  ·exact .inl h0
  have hne : some b ≠ row := by
   intro e;obtain ⟨o, ho, hoc⟩ := hr b e.symm;obtain ⟨x, hx⟩ : ∃ x, l[0]? = some x := ⟨_, List.getElem?_eq_getElem (List.length_pos_iff.2 h0)⟩
   have h1 := (hc 0 x hx).1;obtain ⟨cs, t, z, hcs⟩ : ∃ cs t z, w.heap[b]? = some (.cells cs t z) := by
    unfold World.cell? at h1;simp only at h1;rw [ho] at h1
    cases o <;> simp [Obj.isCells] at h1 hoc
   rw [ho] at hcs
   cases hcs
   cases hoc
  exact .inr ⟨b, off, rfl, Nat.lt_of_lt_of_le hb hg.size, fun i x hx => by
   obtain ⟨a0, a1, a2, a3⟩ := hc i x hx;have hbk := hg.block b hb hne;exact ⟨(World.cell?_of_block (a := ⟨b, off + i * 4, none⟩) hbk).trans a0, (World.cell?_of_block (a := ⟨b, off + i * 4 + 1, none⟩) hbk).trans a1, (World.cell?_of_block (a := ⟨b, off + i * 4 + 2, none⟩) hbk).trans a2, (World.cell?_of_block (a := ⟨b, off + i * 4 + 3, none⟩) hbk).trans a3⟩⟩
theorem fes_set {w : World} {A : Option Addr} {l : List Fe} {X : Nat} {t : TypeId} {v : Value} (h : Fes w w.heap.size A l) (hb : Boxed w X t v) (v' : Value) : Fes (w.setCell ⟨X, 0, none⟩ v') (w.setCell ⟨X, 0, none⟩ v').heap.size A l := by
 rcases h with h | ⟨b, off, rfl, hbl, hc⟩
 ·exact .inl h
 ·refine .inr ⟨b, off, rfl, by simpa using hbl, fun i x hx => ?_⟩;obtain ⟨a0, a1, a2, a3⟩ := hc i x hx;have hne : b ≠ X := by
   rintro rfl;have hb' : w.heap[b]? = some (.cells #[v] t (0, 0)) := hb;unfold World.cell? at a3;simp [hb'] at a3
  have hbk : (w.setCell ⟨X, 0, none⟩ v').heap[b]? = w.heap[b]? := Below.heap_setCell _ _ _ _ hne;exact ⟨(World.cell?_of_block (a := ⟨b, off + i * 4, none⟩) hbk).trans a0, (World.cell?_of_block (a := ⟨b, off + i * 4 + 1, none⟩) hbk).trans a1, (World.cell?_of_block (a := ⟨b, off + i * 4 + 2, none⟩) hbk).trans a2, (World.cell?_of_block (a := ⟨b, off + i * 4 + 3, none⟩) hbk).trans a3⟩
theorem boxed_off {w : World} {X Y : Nat} {t : TypeId} {v u : Value} (h : Boxed w X t v) (hne : X ≠ Y) : Boxed (w.setCell ⟨Y, 0, none⟩ u) X t v := (Below.heap_setCell _ _ _ _ hne).trans h
def MostOfR (R : Nat → Int → Prop) (G : Nat → List Fe) (lo hi : Nat) (w' : World) (e : Ending) : Prop :=
 ∃ A k c r n, e = .returned (.tuple #[.slice A k c, .int .i64 r]) ∧ Top R lo hi n r ∧ (r = 0 → k = (G n).length ∧ k ≤ c ∧ c ≤ maxLen ∧ Fes w' w'.heap.size A (G n)) ∧ (r ≠ 0 → A = none ∧ k = 0 ∧ c = 0)
theorem MostOfR.keep {R : Nat → Int → Prop} {G : Nat → List Fe} {lo hi : Nat} {w w' : World} {e : Ending} (h : MostOfR R G lo hi w e) (hk : Below w.heap.size w w') : MostOfR R G lo hi w' e := by
 obtain ⟨A, k, c, r, n, h1, h2, h3, h4⟩ := h;exact ⟨A, k, c, r, n, h1, h2, fun e => by obtain ⟨a, b, d, f⟩ := h3 e; exact ⟨a, b, d, f.keep hk hk.size⟩, h4⟩
theorem results_se {fn : Func} {p q : Tmp} (h : fn.results = #[.cell p 37, .cell q 93]) (tmps : Array Value) (w : World) (g g' : Nat) (u v : Value)
  (hp : tmps.getD p undef = .pointer (some ⟨g, 0, none⟩)) (hg : w.cell? ⟨g, 0, none⟩ = some u) (hq : tmps.getD q undef = .pointer (some ⟨g', 0, none⟩)) (hg' : w.cell? ⟨g', 0, none⟩ = some v) : (results fn tmps).run Tryz.prog w = .ok (.tuple #[u, v]) w := by
 have hp' : tmps[p]?.getD undef = .pointer (some ⟨g, 0, none⟩) := by simpa using hp
 have hq' : tmps[q]?.getD undef = .pointer (some ⟨g', 0, none⟩) := by simpa using hq
 have ha : (isAgg 37).run Tryz.prog w = .ok false w := by
  unfold isAgg;rw [Sem.run_bind, run_underlying Tryz.underlying37 w]
  simp
 simp [results, h, hp', hq', asAddr, loadVar, ha, hg, hg', go_sem]
set_option maxRecDepth 100000 in
set_option maxHeartbeats 4000000 in
theorem mostof_any (f : Nat) (cs : Array Value) (R : Nat → Int → Prop) (G : Nat → List Fe) (lo hi : Nat) (hlo : 1 ≤ lo) (hlh : lo ≤ hi) (hhi : hi ≤ 1000) (w : World) (hEn : ∀ args W, (callFunc f args).run Tryz.prog W = .ok (.enter f args) W)
  (hF : ∀ n W, lo ≤ n → n ≤ hi → Below w.heap.size w W → Calls Tryz.prog f (#[.int .i64 (n : Nat)] ++ cs) W fun e w' => TryR R G n w' e ∧ Below W.heap.size W w') :
  Calls Tryz.prog 48 #[.int .i64 (hi : Nat), .int .i64 (lo : Nat), .func (.func f) #[] cs] w fun e w' => MostOfR R G lo hi w' e ∧ Below w.heap.size w w' := by
 have h1 : (1 : Nat) ≤ 8 := by omega
 have h1' : (1 : Nat) ≤ 8 - 1 := by omega
 have hfn : ∀ f, Fence.wide.fn f := fun _ => trivial
 have HF := Hq hF;clear hF;refine (callsIn_wide (n := 8)).1 ?_;refine callsIn_of_wp_marks Tryz.func48 rfl trivial ?_ rfl;simp only [Tryz.ntmps48, List.size_toArray, List.length_cons, List.length_nil, Nat.reduceAdd, Nat.reduceSub, Array.replicate_succ, Array.replicate_zero, List.push_toArray, List.append_toArray, List.nil_append, List.cons_append]
 gi_wp2_with fail
 obtain ⟨w2, hw2⟩ := nx (((((w.alloc (.cells #[.func (.func f) #[] cs] 110)).alloc (.cells #[.slice none 0 0] 37)).alloc (.cells #[.int .i64 0] 93)).alloc (.cells #[.int .i64 0] 93)));rw [← hw2];obtain ⟨M, hM⟩ := nx (w.heap.size);have e0 : ∀ (W : World) (o : Obj), (W.alloc o).heap.size = W.heap.size + 1 := fun W o => by simp
 have z2 : w2.heap.size = M + 4 := by rw [hw2, hM, e0, e0, e0, e0]
 have hB2 : Below M w w2 := by rw [hw2, hM]; exact ((((Below.refl w.heap.size w).alloc (Nat.le_refl _) _).alloc (by simp) _).alloc (by simp; omega) _).alloc (by simp; omega) _
 have bF : Boxed w2 M 110 (.func (.func f) #[] cs) := by
  rw [hw2, hM];exact (((Boxed.new w _ _).alloc _).alloc _).alloc _
 have bS : Boxed w2 (M + 1) 37 (.slice none 0 0) := by
  have := Boxed.new (w.alloc (.cells #[.func (.func f) #[] cs] 110)) 37 (.slice none 0 0);rw [e0, ← hM] at this;rw [hw2];exact (this.alloc _).alloc _
 have bE : Boxed w2 (M + 2) 93 (.int .i64 0) := by
  have := Boxed.new ((w.alloc (.cells #[.func (.func f) #[] cs] 110)).alloc (.cells #[.slice none 0 0] 37)) 93 (.int .i64 0);rw [e0, e0, ← hM] at this;rw [hw2];exact this.alloc _
 have bR : Boxed w2 (M + 3) 93 (.int .i64 0) := by
  have := Boxed.new (((w.alloc (.cells #[.func (.func f) #[] cs] 110)).alloc (.cells #[.slice none 0 0] 37)).alloc (.cells #[.int .i64 0] 93)) 93 (.int .i64 0);rw [e0, e0, e0, ← hM] at this;rw [hw2];exact this
 rw [← hM];refine (callsIn_wide.2 (downw_any _ _ w2)).mono ?_;rintro e w3 ⟨rfl, z3, d0, d1, hb3⟩;rw [z2] at z3 d0 d1 hb3 ⊢;have bF3 : Boxed w3 M _ _ := (hb3.block M (by omega)).trans bF;have bS3 : Boxed w3 (M + 1) _ _ := (hb3.block (M + 1) (by omega)).trans bS;have bE3 : Boxed w3 (M + 2) _ _ := (hb3.block (M + 2) (by omega)).trans bE;have bR3 : Boxed w3 (M + 3) _ _ := (hb3.block (M + 3) (by omega)).trans bR;have hB3 : Below M w w3 := hB2.trans (hb3.mono (by omega));have HM := Hq hM;have hMw : M ≤ w.heap.size := by omega
 clear hw2 e0 bF bS bE bR hb3 hB2 z2 hM
 gi_wp2
 have z3' : w3.heap.size = M + 6 := by omega
 clear z3;refine wpIn_rangeFunc_ownF rfl h1 (gf := 66) (lb := #[.pointer (some ⟨M + 4, 0, none⟩), .pointer (some ⟨M + 4 + 1, 0, none⟩)]) rfl trivial (enters_of Tryz.func66 (by kernel_rfl) rfl)
  (encs := fun k : Yd lo hi => #[Value.int .i64 (k.1 : Nat)]) (S := fun ys => ydL ys = downs lo hi) (Sp := fun pre => ydL pre <+: downs lo hi) (N := hi + 1 - lo) (Kp := Stays1 (M + 4 + 1)) (w0 := w3)
  (fun l J Jx W hW hJ hJx hY h0 => ?iter) (fun h k => Eq.trans k h) (fun W l o o' hl ho h3 h4 => (belowK_b (n₀ := M + 6) (w := w3) (by omega) W l o o' hl ho h3 h4).block (M + 4 + 1) (by omega)) (Below.refl _ w3) (fun _ => rfl)
  (fun (pre : List (Yd lo hi)) W => (∃ r, M + 6 ≤ W.heap.size ∧ (pre = [] → r = 0) ∧ (∀ y ∈ pre, ∃ r, r ≠ 0 ∧ R y.1 r) ∧ (∀ p y, pre = p ++ [y] → R y.1 r ∧ r ≠ 0) ∧ Boxed W M 110 (.func (.func f) #[] cs) ∧ Boxed W (M + 1) 37 (.slice none 0 0) ∧ Boxed W (M + 2) 93 (.int .i64 0) ∧ Boxed W (M + 3) 93 (.int .i64 r)) ∧ Below M w W)
  (fun cd pre W => (cd = .ret ∧ ∃ p y A k c, pre = p ++ [y] ∧ (∀ z ∈ p, ∃ r, r ≠ 0 ∧ R z.1 r) ∧ R y.1 0 ∧ (k = (G y.1).length ∧ k ≤ c ∧ c ≤ maxLen ∧ Fes W W.heap.size A (G y.1)) ∧ Boxed W (M + 1) 37 (.slice A k c) ∧ Boxed W (M + 2) 93 (.int .i64 0)) ∧ Below M w W)
  (OwnFrom.and (Own.from (fun s A B row hs hg hr => by
   obtain ⟨r, a0, a1, a2, a3, a4, a5, a6, a7⟩ := hs;exact ⟨r, Nat.le_trans a0 hg.size, a1, a2, a3, boxed_own _ _ _ _ _ _ _ a4 hg hr, boxed_own _ _ _ _ _ _ _ a5 hg hr, boxed_own _ _ _ _ _ _ _ a6 hg hr, boxed_own _ _ _ _ _ _ _ a7 hg hr⟩) _) (ownFrom_below (w₀ := w) (by omega) (by omega)))
  (fun cd => OwnFrom.and (Own.from (fun s A B row hs hg hr => by
   obtain ⟨hc, p, y, X, k, c, a1, a2, a3, ⟨b1, b2, b3, b4⟩, a5, a6⟩ := hs;exact ⟨hc, p, y, X, k, c, a1, a2, a3, ⟨b1, b2, b3, fes_grown b4 hg hr⟩, boxed_own _ _ _ _ _ _ _ a5 hg hr, boxed_own _ _ _ _ _ _ _ a6 hg hr⟩) _) (ownFrom_below (w₀ := w) (by omega) (by omega)))
  ⟨⟨0, by omega, fun _ => rfl, by simp, fun p y e => by simp at e, bF3, bS3, bE3, bR3⟩, hB3⟩
  (fun (y : Yd lo hi) => { tmps := #[.int .i64 (hi : Nat), .int .i64 (lo : Nat), .func (.func f) #[] cs, undef, undef, .pointer (some ⟨M, 0, none⟩), .pointer (some ⟨M + 1, 0, none⟩), .pointer (some ⟨M + 2, 0, none⟩), .pointer (some ⟨M + 3, 0, none⟩), .int .i64 (y.1 : Nat), undef, .int .i64 (hi : Nat), .int .i64 (lo : Nat),
   .func (.func 66) #[] #[.pointer (some ⟨M + 4, 0, none⟩), .pointer (some ⟨M + 4 + 1, 0, none⟩)], .int .i64 (y.1 : Nat), undef, undef, undef, undef, undef, undef, undef, undef, undef, undef], defers := [] }) ?assign ?body ?done ?stop
 case iter =>
  exact downs_in (8 - 1) h1' l (M + 4) lo hi hlo hlh hhi J Jx hY W ((hW.cell (p := ⟨M + 4, 0, none⟩) (by show M + 4 < _; omega)).trans d0) ((hW.cell (p := ⟨M + 4 + 1, 0, none⟩) (by show M + 4 + 1 < _; omega)).trans d1) h0
 case assign =>
  intro l y W K hK
  gi_wp2
  exact hK
 case body =>
  rintro l pre y W ⟨⟨r0, a0, a1, a2, a3, a4, a5, a6, a7⟩, hB⟩ _;have hc0 := a4.cell;have HA := Hq (Ai a2 (Ai a4 (Ai a5 (Ai a6 (Ai a7 hB)))));have HZ := Hq a0;clear a0 a1 a2 a3 a4 a5 a6 a7 hB bF3 bS3 bE3 bR3 d0 d1 hB3;obtain ⟨k0, hk0⟩ : ∃ k0 : Nat, k0 = y.1 := ⟨_, rfl⟩
  rw [← hk0];have hcall := HF.out k0 W (by rw [hk0]; exact y.2.1) (by rw [hk0]; exact y.2.2) (by rw [← HM.out]; exact HA.out.2.2.2.2.2);have HCall := Hq hcall;have HK0 := Hq hk0;clear hcall hk0
  gi_wp2_with fail
  refine (CallsIn.inRound l (callsIn_wide.2 HCall.out)).mono ?_;rintro e W1 ⟨⟨A, k, c, r, rfl, hR, hS⟩, hb1⟩;have hz1 := hb1.size;have b5 : Boxed W1 (M + 1) _ _ := (hb1.block (M + 1) HA.out.2.2.1.lt).trans HA.out.2.2.1;have b6 : Boxed W1 (M + 2) _ _ := (hb1.block (M + 2) HA.out.2.2.2.1.lt).trans HA.out.2.2.2.1;have b7 : Boxed W1 (M + 3) _ _ := (hb1.block (M + 3) HA.out.2.2.2.2.1.lt).trans HA.out.2.2.2.2.1;have b4 : Boxed W1 M _ _ := (hb1.block M HA.out.2.1.lt).trans HA.out.2.1;have l5 := HA.out.2.2.1.lt;have c7 := b7.cell;have f7 := b7.frozen;have c5 := b5.cell;have f5 := b5.frozen;have c6 := b6.cell;have f6 := b6.frozen;have HB := Hq (Ai b4 (Ai b5 (Ai b6 (Ai b7 (Ai hb1 (Ai hR hS))))));clear b4 b5 b6 b7 hb1 hR hS hz1 HCall;by_cases hr : r = 0
  ·subst hr;have t1 : ((0 : Int) == 0) = true := rfl
   gi_wp2
   obtain ⟨b4, b5, b6, b7, hb1, hR, hS⟩ := HB.out;have hB1 : Below M w W1 := HA.out.2.2.2.2.2.trans (hb1.mono (by have := HZ.out; omega));have hk1 := keeps_below hb1;rw [HK0.out] at hR hS;obtain ⟨s1, s2, s3, s4⟩ := hS trivial;refine ⟨((hk1.trans (KeepsOthers.setCell _ _ _)).trans (KeepsOthers.setCell _ _ _)).trans (KeepsOthers.setCell _ _ _), ⟨rfl, pre, y, A, k, c, rfl, HA.out.1, hR, ⟨s1, s2, s3, ?_⟩, ?_, ?_⟩, ?_⟩
   ·exact fes_set (t := 93) (v := .int .i64 0) (fes_set (t := 37) (v := .slice none 0 0) (fes_set s4 b7 _) (boxed_off b5 (by omega)) _) (boxed_off (boxed_off b6 (by omega)) (by omega)) _
   ·exact boxed_off ((boxed_off b5 (by omega)).set _) (by omega)
   ·exact (boxed_off (boxed_off b6 (by omega)) (by omega)).set _
   ·exact ((hB1.setCell (p := ⟨M + 3, 0, none⟩) (by show M ≤ M + 3; omega) _).setCell (p := ⟨M + 1, 0, none⟩) (by show M ≤ M + 1; omega) _).setCell (p := ⟨M + 2, 0, none⟩) (by show M ≤ M + 2; omega) _
  ·have t1 : (r == 0) = false := by simp [hr]
   have HR := Hq hr;clear hr
   gi_wp2
   obtain ⟨b4, b5, b6, b7, hb1, hR, hS⟩ := HB.out;have hB1 : Below M w W1 := HA.out.2.2.2.2.2.trans (hb1.mono (by have := HZ.out; omega));have hk1 := keeps_below hb1;rw [HK0.out] at hR;have hz := HZ.out;refine ⟨hk1.trans (KeepsOthers.setCell _ _ _), ?_, ⟨r, ?_, fun e => by simp at e, fun z hz => ?_, fun p z e => ?_, boxed_off b4 (by omega), boxed_off b5 (by omega), boxed_off b6 (by omega), b7.set _⟩, hB1.setCell (p := ⟨M + 3, 0, none⟩) (by show M ≤ M + 3; omega) _⟩
   ·exact (Below.heap_setCell _ _ _ _ (show M + 4 + 1 ≠ M + 3 by omega)).trans (hb1.block (M + 4 + 1) (by omega))
   ·have := hb1.size; simp; omega
   ·rcases List.mem_append.1 hz with hz | hz
    ·exact HA.out.1 z hz
    ·rw [List.mem_singleton.1 hz]; exact ⟨r, HR.out, hR⟩
   ·obtain ⟨_, e2⟩ := List.append_inj' e rfl;injection e2 with e2 _;rw [← e2]; exact ⟨hR, HR.out⟩
 case done =>
  rintro D ys W hD hys ⟨⟨r, a0, a1, a2, a3, a4, a5, a6, a7⟩, hB⟩ hK;have hc5 := a5.cell;have hf5 := a5.frozen;have hc6 := a6.cell;have hf6 := a6.frozen;have hc7 := a7.cell;have hne : ys ≠ [] := by
   rintro rfl;have h9 := downs_len lo hi;rw [← hys] at h9;simp [ydL] at h9;omega
  have hlast : R lo r ∧ r ≠ 0 := by
   obtain ⟨p, y, rfl⟩ : ∃ p y, ys = p ++ [y] := ⟨_, _, (List.dropLast_concat_getLast hne).symm⟩
   have h9 := a3 p y rfl;have hy : y.1 = lo := by
    have h8 := downs_len lo hi;rw [← hys, ydL_len, List.length_append] at h8;have h7 := downs_at (Nat.le_refl lo) hlh;rw [← hys, ydL_snoc] at h7;have h6 : (ydL p).length = hi - lo := by rw [ydL_len]; simp at h8; omega
    rw [← h6] at h7;simpa using h7
   rw [hy] at h9; exact h9
  have hall : ∀ m, lo ≤ m → m ≤ hi → ∃ r, r ≠ 0 ∧ R m r := fun m m1 m2 => by
   have h9 : m ∈ ydL ys := by rw [hys]; exact downs_mem.2 ⟨m1, m2⟩
   obtain ⟨y, hy, rfl⟩ := List.mem_map.1 h9;exact a2 y hy
  have H := Hq (Ai hlast (Ai hall (Ai a5 (Ai a6 (Ai a7 (Ai hB a0))))));clear a0 a1 a2 a3 a4 a5 a6 a7 hB hne hlast hall hys bF3 bS3 bE3 bR3 d0 d1 hB3;have hmx : Tryz.prog.follows .mixedOrders = true := by kernel_rfl
  gi_wp2
  gi_region
  gi_wp2
  obtain ⟨⟨hR, hr0⟩, hall, a5, a6, a7, hB, a0⟩ := H.out;obtain ⟨Wf, hWf⟩ := nx (((W.setCell ⟨M + 1, 0, none⟩ (.slice none 0 0)).setCell ⟨M + 1 + 1, 0, none⟩ (.int .i64 r)).drew);rw [← hWf];have hK2 : Wf.heap[D]? = some (.deferred (some [])) := by rw [hWf]; exact (((KeepsOthers.setCell _ _ _).trans (KeepsOthers.setCell _ _ _)).trans (KeepsOthers.drew _)).same D _ hK rfl
  have b5 : Boxed Wf (M + 1) 37 (.slice none 0 0) := by rw [hWf]; exact boxed_off (a5.set _) (by omega)
  have b6 : Boxed Wf (M + 2) 93 (.int .i64 r) := by rw [hWf]; exact (boxed_off a6 (by omega)).set _
  have hBf : Below M w Wf := by rw [hWf]; exact ((hB.setCell (p := ⟨M + 1, 0, none⟩) (by show M ≤ M + 1; omega) _).setCell (p := ⟨M + 1 + 1, 0, none⟩) (by show M ≤ M + 1 + 1; omega) _).drew
  refine ⟨by simp, .inl ⟨_, _, rfl, run_takeDeferred hK2, ?_⟩⟩;have hg := grownBy_putObj' Wf D (.deferred none);have hrow : ∀ r, some D = some r → ∃ o : Obj, Wf.heap[r]? = some o ∧ o.isCells = false := fun r e => by cases e; exact ⟨_, hK2, rfl⟩
  have c5 := cell_kept b5.cell hg hrow;have c6 := cell_kept b6.cell hg hrow;refine ⟨.tuple #[.slice none 0 0, .int .i64 r], results_se Tryz.results48 _ _ (M + 1) (M + 2) _ _ rfl c5 rfl c6, ⟨none, 0, 0, r, 0, rfl, .inr ⟨hr0, hR, hall⟩, fun e => absurd e hr0, fun _ => ⟨rfl, rfl, rfl⟩⟩, ?_⟩;have e := HM.out;rw [← e];exact hBf.trans (belowK_b (n₀ := M) (w := w) (by omega) _ D _ _ (by omega) hK2 rfl rfl)
 case stop =>
  rintro D cd pre W hD hpre ⟨⟨rfl, p, y, A, k, c, rfl, a1, a2, ⟨s1, s2, s3, s4⟩, b5, b6⟩, hB⟩ hK;have H := Hq (Ai hpre (Ai a1 (Ai a2 (Ai s1 (Ai s2 (Ai s3 (Ai s4 (Ai b5 (Ai b6 hB)))))))));clear hpre a1 a2 s1 s2 s3 s4 b5 b6 hB bF3 bS3 bE3 bR3 d0 d1 hB3
  gi_wp2
  refine ⟨by simp, .inl ⟨_, _, rfl, run_takeDeferred hK, ?_⟩⟩;obtain ⟨hpre, a1, a2, s1, s2, s3, s4, b5, b6, hB⟩ := H.out;have hg := grownBy_putObj' W D (.deferred none);have hrow : ∀ r, some D = some r → ∃ o : Obj, W.heap[r]? = some o ∧ o.isCells = false := fun r e => by cases e; exact ⟨_, hK, rfl⟩
  have c5 := cell_kept b5.cell hg hrow;have c6 := cell_kept b6.cell hg hrow;have hpre2 : ydL p ++ [y.1] <+: downs lo hi := by rw [← ydL_snoc]; exact hpre
  refine ⟨.tuple #[.slice A k c, .int .i64 0], results_se Tryz.results48 _ _ (M + 1) (M + 2) _ _ rfl c5 rfl c6, ⟨A, k, c, 0, y.1, rfl, .inl ⟨rfl, y.2.1, y.2.2, a2, fun m m1 m2 => ?_⟩, fun _ => ⟨s1, s2, s3, fes_grown s4 hg hrow⟩, fun e => absurd rfl e⟩, ?_⟩
  ·have h9 := downs_ahead hpre2 m m1 m2;obtain ⟨z, hz, rfl⟩ := List.mem_map.1 h9;exact a1 z hz
  ·have e := HM.out;rw [← e];exact hB.trans (belowK_b (n₀ := M) (w := w) (by omega) _ D _ _ (by omega) hK rfl rfl)
end
set_option linter.unusedVariables false
set_option maxRecDepth 100000
section
open Go.RowKit
open PR
abbrev PlR (S : Shp) (lv : List Fe) (g c : Int) : Nat → Int → Prop := fun m r => r = plE S lv g c m
set_option maxHeartbeats 8000000 in
theorem mostcl_any (a b d n1 : Nat) (A1 : Option Addr) (c1 : Nat) (lv : List Fe) (g c : Int) (S : Shp) (p : Nat) (w : World) (h : Fes w w.heap.size A1 lv) (hn1 : n1 = lv.length) (hn : lv.length ≤ 500000) (hw : S.Wf) (hf : ∀ f ∈ lv, FeOk f) (hT : Tab w) (hok : S.ok = true) (h1 : 1 ≤ p) (h16 : p ≤ 16)
  (l4 : w.cell? ⟨a, 4, none⟩ = some (.slice A1 n1 c1)) (u0 : w.cell? ⟨b, 0, none⟩ = some (.int .i64 g)) (u1 : w.cell? ⟨b, 1, none⟩ = some (.int .i64 c))
  (j4 : w.cell? ⟨d, 4, none⟩ = some (.int .i64 S.g)) (j5 : w.cell? ⟨d, 5, none⟩ = some (.int .i64 S.c)) (j6 : w.cell? ⟨d, 6, none⟩ = some (.int .i64 S.mn)) (j7 : w.cell? ⟨d, 7, none⟩ = some (.int .i64 S.mx)) :
  Calls Tryz.prog 49 #[.int .i64 (p : Nat), .pointer (some ⟨a, 0, none⟩), .pointer (some ⟨b, 0, none⟩), .pointer (some ⟨d, 0, none⟩)] w fun e w' => TryR (PlR S lv g c) (placeF S lv) p w' e ∧ Below w.heap.size w w' := by
 have hP := Hq (show Calls Tryz.prog 50 #[.slice A1 n1 c1, .agg #[.int .i64 g, .int .i64 c], .agg #[.int .i64 S.g, .int .i64 S.c, .int .i64 S.mn, .int .i64 S.mx], .int .i64 (p : Nat)] w (fun e w' => TryR (PlR S lv g c) (placeF S lv) p w' e ∧ Below w.heap.size w w') from by
  rw [hn1];exact placed_any A1 c1 w.heap.size lv g c S p w h (Nat.le_refl _) hn hw hf hT hok h1 h16)
 clear h hn1 hn hw hf hT hok h1 h16;go_enter Tryz.func49, Tryz.ntmps49;go_wp2_with fail;refine hP.out.mono ?_;rintro e w1 ⟨⟨A, k, c9, r, rfl, hR, hS⟩, hb⟩;have HR := Hq (Ai hR (Ai hS hb));clear hR hS hb hP l4 u0 u1 j4 j5 j6 j7;go_wp2
 go_ret2
 exact ⟨⟨A, k, c9, r, rfl, HR.out.1, HR.out.2.1⟩, HR.out.2.2⟩
def MostE (L : Lk) (j : Jb) (n : Nat) (r : Int) : Prop := (j.S.ok = false ∧ r = 1) ∨ (j.S.ok = true ∧ ((leftL L j.q = none ∧ r = 3) ∨ ∃ U, leftL L j.q = some U ∧ MostR j.S L.lv U.g U.c n r))
def MostJ (L : Lk) (j : Jb) (w' : World) (e : Ending) : Prop :=
 ∃ A k c r n, e = .returned (.tuple #[.slice A k c, .int .i64 r]) ∧ MostE L j n r ∧ (r = 0 → k = n ∧ k = (placeF j.S L.lv n).length ∧ k ≤ c ∧ c ≤ maxLen ∧ Fes w' w'.heap.size A (placeF j.S L.lv n)) ∧ (r ≠ 0 → A = none ∧ k = 0 ∧ c = 0)
set_option maxHeartbeats 8000000 in
theorem most_any (L : Lk) (j : Jb) (w : World) (h : LkIn w w.heap.size L) (hW : LkW L) (hj : JbW j) (hn : L.lv.length ≤ 500000) (hT : Tab w) :
  Calls Tryz.prog 39 #[lkV L, jbV j] w fun e w' => MostJ L j w' e ∧ Below w.heap.size w w' := by
 obtain ⟨n1, hn1⟩ := nx (L.lv.length);obtain ⟨n2, hn2⟩ := nx (L.lf.length);obtain ⟨n3, hn3⟩ := nx (L.le.length);obtain ⟨n4, hn4⟩ := nx (L.lw.length);obtain ⟨n5, hn5⟩ := nx (L.lr.length);have HT := Hq hT;have HL1 := Hq (Ai h.v (Ai hn1 (Ai hn (Ai hW.v hj.S))));have hL := Hq (fun W (hk : Below w.heap.size w W) => show Calls Tryz.prog 47 #[.agg #[.int .i64 L.now, .int .i64 L.hd, .int .i64 L.pr, .int .i64 L.to, .slice L.A1 n1 L.c1, .slice L.A2 n2 L.c2, .slice L.A3 n3 L.c3, .slice L.A4 n4 L.c4, .slice L.A5 n5 L.c5], .agg #[.int .i64 j.id, .int .i64 j.q, .int .i64 j.p, .int .i64 j.r, .int .i64 j.g, .int .i64 j.c, .int .i64 j.mn, .int .i64 j.mx]] W (fun e w' => ForR L j e ∧ Below W.heap.size W w') from by
  have h9 := leftfor_any L j W (h.keep hk hk.size) hj hW;unfold lkV lkA jbV jbA at h9;rw [← hn1, ← hn2, ← hn3, ← hn4, ← hn5] at h9;exact h9)
 unfold lkV lkA jbV jbA;rw [← hn1, ← hn2, ← hn3, ← hn4, ← hn5]
 cases hok : j.S.ok
 ·have HO := Hq hok;clear hok hn1 hn2 hn3 hn4 hn5 h hW hj hn;obtain ⟨B0, hB0⟩ := nx (w.heap.size);rw [← hB0];have HB0 := Hq hB0;clear hB0;have HBel := Hq (Below.refl w.heap.size w);have hlow : w.heap.size ≤ w.heap.size := Nat.le_refl _;go_enter Tryz.func39, Tryz.ntmps39;go_wp2_with fail;obtain ⟨V1, hV1⟩ := nx ((w.alloc (.cells #[.int .i64 L.now, .int .i64 L.hd, .int .i64 L.pr, .int .i64 L.to, .slice L.A1 n1 L.c1, .slice L.A2 n2 L.c2, .slice L.A3 n3 L.c3, .slice L.A4 n4 L.c4, .slice L.A5 n5 L.c5] 28)).alloc (.cells #[.int .i64 j.id, .int .i64 j.q, .int .i64 j.p, .int .i64 j.r, .int .i64 j.g, .int .i64 j.c, .int .i64 j.mn, .int .i64 j.mx] 47));rw [← hV1];have hzV1 := sz2 hV1;replace HBel := be2 hV1 HBel hlow;have B_l := Hq (new20 hV1);have B_j := Hq (new21 hV1);obtain ⟨N_l, hN_l⟩ := nx (w.heap.size);obtain ⟨N_j, hN_j⟩ := nx (w.heap.size + 1);(try rw [← hN_j]);rw [← hN_j] at B_j;(try rw [← hN_l]);rw [← hN_l] at B_l;have l_l : N_l < V1.heap.size := by omega
  have l_j : N_j < V1.heap.size := by omega
  have g_l : w.heap.size ≤ N_l := by omega
  have g_j : w.heap.size ≤ N_j := by omega
  have d_l_j : N_l < N_j := by omega
  replace hlow : w.heap.size ≤ V1.heap.size := by omega
  clear hV1 hzV1 hN_l hN_j;obtain ⟨l0, l1, l2, l3, l4, l5, l6, l7, l8⟩ := cells9 B_l.out;obtain ⟨j0, j1, j2, j3, j4, j5, j6, j7⟩ := cells8 B_j.out;go_wp2_with fail;refine (hL.out V1 HBel.out).mono ?_;rintro e U2 ⟨hf, hb9⟩;clear l0 l1 l2 l3 l4 l5 l6 l7 l8 j0 j1 j2 j3 j4 j5 j6 j7;have hs9 := hb9.size;replace HBel := bt9 HBel hb9 hlow;replace B_l := bb9 hb9 B_l l_l;replace B_j := bb9 hb9 B_j l_j;replace l_l : N_l < U2.heap.size := by omega
  replace l_j : N_j < U2.heap.size := by omega
  replace hlow : w.heap.size ≤ U2.heap.size := by omega
  clear hb9 hs9;rcases hf with ⟨_, rfl⟩ | ⟨h0, _⟩
  ·go_wp2
   go_ret2
   exact ⟨⟨_, _, _, 1, 0, rfl, .inl ⟨HO.out, rfl⟩, (fun e => by cases e), fun _ => ⟨rfl, rfl, rfl⟩⟩, by rw [HB0.out]; exact HBel.out.alloc hlow _⟩
  ·rw [HO.out] at h0; cases h0
 ·have HO := Hq hok;have hok2 := hok;unfold Shp.ok Jb.S at hok2;simp at hok2;obtain ⟨x, hx⟩ : ∃ x : Nat, j.mx = x := ⟨j.mx.toNat, by omega⟩
  obtain ⟨y, hy⟩ : ∃ y : Nat, j.mn = y := ⟨j.mn.toNat, by omega⟩
  have hlo : 1 ≤ y := by omega
  have hlh : y ≤ x := by omega
  have hhi : x ≤ 16 := by omega
  have HXY := Hq (Ai hx hy);rw [hx, hy] at hL ⊢;clear hok hok2 hx hy hn1 hn2 hn3 hn4 hn5 h hW hj hn;obtain ⟨B0, hB0⟩ := nx (w.heap.size);rw [← hB0];have HB0 := Hq hB0;clear hB0;have HBel := Hq (Below.refl w.heap.size w);have hlow : w.heap.size ≤ w.heap.size := Nat.le_refl _;go_enter Tryz.func39, Tryz.ntmps39;go_wp2_with fail;obtain ⟨V1, hV1⟩ := nx ((w.alloc (.cells #[.int .i64 L.now, .int .i64 L.hd, .int .i64 L.pr, .int .i64 L.to, .slice L.A1 n1 L.c1, .slice L.A2 n2 L.c2, .slice L.A3 n3 L.c3, .slice L.A4 n4 L.c4, .slice L.A5 n5 L.c5] 28)).alloc (.cells #[.int .i64 j.id, .int .i64 j.q, .int .i64 j.p, .int .i64 j.r, .int .i64 j.g, .int .i64 j.c, .int .i64 (y : Nat), .int .i64 (x : Nat)] 47));rw [← hV1];have hzV1 := sz2 hV1;replace HBel := be2 hV1 HBel hlow;have B_l := Hq (new20 hV1);have B_j := Hq (new21 hV1);obtain ⟨N_l, hN_l⟩ := nx (w.heap.size);obtain ⟨N_j, hN_j⟩ := nx (w.heap.size + 1);(try rw [← hN_j]);rw [← hN_j] at B_j;(try rw [← hN_l]);rw [← hN_l] at B_l;have l_l : N_l < V1.heap.size := by omega
  have l_j : N_j < V1.heap.size := by omega
  have g_l : w.heap.size ≤ N_l := by omega
  have g_j : w.heap.size ≤ N_j := by omega
  have d_l_j : N_l < N_j := by omega
  replace hlow : w.heap.size ≤ V1.heap.size := by omega
  clear hV1 hzV1 hN_l hN_j;obtain ⟨l0, l1, l2, l3, l4, l5, l6, l7, l8⟩ := cells9 B_l.out;obtain ⟨j0, j1, j2, j3, j4, j5, j6, j7⟩ := cells8 B_j.out;go_wp2_with fail;refine (hL.out V1 HBel.out).mono ?_;rintro e U2 ⟨hf, hb9⟩;clear l0 l1 l2 l3 l4 l5 l6 l7 l8 j0 j1 j2 j3 j4 j5 j6 j7;have hs9 := hb9.size;replace HBel := bt9 HBel hb9 hlow;replace B_l := bb9 hb9 B_l l_l;replace B_j := bb9 hb9 B_j l_j;replace l_l : N_l < U2.heap.size := by omega
  replace l_j : N_j < U2.heap.size := by omega
  replace hlow : w.heap.size ≤ U2.heap.size := by omega
  clear hb9 hs9;rcases hf with ⟨h0, _⟩ | ⟨_, ⟨hq, rfl⟩ | ⟨U, hq, rfl⟩⟩
  ·rw [HO.out] at h0; cases h0
  ·have HQ := Hq hq;clear hq;go_wp2
   go_ret2
   exact ⟨⟨_, _, _, 3, 0, rfl, .inr ⟨HO.out, .inl ⟨HQ.out, rfl⟩⟩, (fun e => by cases e), fun _ => ⟨rfl, rfl, rfl⟩⟩, by rw [HB0.out]; exact HBel.out.alloc hlow _⟩
  ·have HQ := Hq hq;clear hq;obtain ⟨l0, l1, l2, l3, l4, l5, l6, l7, l8⟩ := cells9 B_l.out;have l_l_0 : N_l < U2.heap.size + 1 := (by omega);obtain ⟨j0, j1, j2, j3, j4, j5, j6, j7⟩ := cells8 B_j.out;have l_j_0 : N_j < U2.heap.size + 1 := (by omega);go_wp2_with fail;clear l0 l1 l2 l3 l4 l5 l6 l7 l8 l_l_0 j0 j1 j2 j3 j4 j5 j6 j7 l_j_0;obtain ⟨V3, hV3⟩ := nx (U2.alloc (.cells #[.int .i64 U.g, .int .i64 U.c] 42));rw [← hV3];have hzV3 := sz1 hV3;replace HBel := be1 hV3 HBel hlow;replace B_l := bk1 hV3 B_l l_l;replace B_j := bk1 hV3 B_j l_j;have B_u := Hq (new10 hV3);obtain ⟨N_u, hN_u⟩ := nx (U2.heap.size);(try rw [← hN_u]);rw [← hN_u] at B_u;have d_l_u : N_l < N_u := (by omega);have d_j_u : N_j < N_u := (by omega);replace l_l : N_l < V3.heap.size := (by omega);replace l_j : N_j < V3.heap.size := (by omega);have l_u : N_u < V3.heap.size := (by omega);have g_u : w.heap.size ≤ N_u := (by omega);replace hlow : w.heap.size ≤ V3.heap.size := (by omega);clear hV3 hzV3 hN_u;have HB9 := Hq (show Below V3.heap.size V3 V3 from Below.refl _ _);refine (mostof_any 49 #[.pointer (some ⟨N_l, 0, none⟩), .pointer (some ⟨N_u, 0, none⟩), .pointer (some ⟨N_j, 0, none⟩)] (PlR j.S L.lv U.g U.c) (placeF j.S L.lv) y x hlo hlh (by omega) V3 (enters_of Tryz.func49 (by kernel_rfl) rfl) (fun n W h1 h2 hk => mostcl_any N_l N_u N_j n1 L.A1 L.c1 L.lv U.g U.c j.S n W (HL1.out.1.keep (HBel.out.trans (hk.mono hlow)) (HBel.out.trans (hk.mono hlow)).size) HL1.out.2.1 HL1.out.2.2.1 HL1.out.2.2.2.2 HL1.out.2.2.2.1 (HT.out.below (HBel.out.trans (hk.mono hlow)) HT.out.size) HO.out (by omega) (by omega) ((hk.cell (p := ⟨N_l, 4, none⟩) l_l).trans (cell_blk (i := 4) B_l.out rfl)) ((hk.cell (p := ⟨N_u, 0, none⟩) l_u).trans (cell_blk (i := 0) B_u.out rfl)) ((hk.cell (p := ⟨N_u, 1, none⟩) l_u).trans (cell_blk (i := 1) B_u.out rfl)) ((hk.cell (p := ⟨N_j, 4, none⟩) l_j).trans (cell_blk (i := 4) B_j.out rfl)) ((hk.cell (p := ⟨N_j, 5, none⟩) l_j).trans (cell_blk (i := 5) B_j.out rfl)) ((hk.cell (p := ⟨N_j, 6, none⟩) l_j).trans ((cell_blk (i := 6) B_j.out rfl).trans (by simp only [Jb.S]; rw [HXY.out.2]; rfl))) ((hk.cell (p := ⟨N_j, 7, none⟩) l_j).trans ((cell_blk (i := 7) B_j.out rfl).trans (by simp only [Jb.S]; rw [HXY.out.1]; rfl))))).mono ?_;rintro e U4 ⟨⟨A, k, c, r, n, rfl, hT9, hS9, hN9⟩, hb9⟩;have hs9 := hb9.size;have HS := Hq (Ai hT9 (Ai hS9 hN9));clear hT9 hS9 hN9;replace HBel := bt9 HBel hb9 hlow;replace B_l := bb9 hb9 B_l l_l;replace B_j := bb9 hb9 B_j l_j;replace B_u := bb9 hb9 B_u l_u;replace l_l : N_l < U4.heap.size := (by omega);replace l_j : N_j < U4.heap.size := (by omega);replace l_u : N_u < U4.heap.size := (by omega);replace hlow : w.heap.size ≤ U4.heap.size := (by omega);clear hb9 hs9;go_wp2
   go_ret2
   refine ⟨⟨A, k, c, r, n, rfl, .inr ⟨HO.out, .inr ⟨U, HQ.out, ?_⟩⟩, fun e => ?_, HS.out.2.2⟩, by rw [HB0.out]; exact HBel.out⟩
   ·have e1 : j.S.mn.toNat = y := by show j.mn.toNat = y; rw [HXY.out.2]; rfl
    have e2 : j.S.mx.toNat = x := by show j.mx.toNat = x; rw [HXY.out.1]; rfl
    unfold MostR;rw [e1, e2];exact HS.out.1
   ·obtain ⟨a1, a2, a3, a4⟩ := HS.out.2.1 e;have hn9 : n ≤ roomF j.S L.lv := by
     rcases HS.out.1 with ⟨_, _, _, h9, _⟩ | ⟨h9, _⟩
     ·exact (plE_zero.1 h9.symm).1
     ·exact absurd e h9
    exact ⟨by rw [a1, placeF_len hn9], a1, a2, a3, a4⟩
end
end Go.Proofs.YtkkkhonjcbhelaaGreatDoor
