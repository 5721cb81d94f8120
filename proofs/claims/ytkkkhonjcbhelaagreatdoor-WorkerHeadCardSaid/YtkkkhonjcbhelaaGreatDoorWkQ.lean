import Derived.Test.YtkkkhonjcbhelaaGreatDoorWkP
import Derived.Test.YtkkkhonjcbhelaaGreatDoorHeldTwo
set_option maxRecDepth 100000
set_option linter.unusedVariables false
namespace Go.Proofs.YtkkkhonjcbhelaaGreatDoor
section
open Go.RowKit
open PR
theorem run_load_hm {oi : Oper} {ρ : Operand → Value} {W : World} {y : Operand} {g o m : Nat} {H : Ho} (ho : oi.op = .load 53 y) (hy : ρ y = .pointer (some ⟨g, o, none⟩)) (h : CellsAt W g o [.int .i64 H.id, .int .i64 H.q, .int .i64 H.u, .bool H.r, .slice H.A m H.c]) :
  (execOp ρ oi).run Tryz.prog W = .ok (.value (.agg #[.int .i64 H.id, .int .i64 H.q, .int .i64 H.u, .bool H.r, .slice H.A m H.c])) W := by
 have hl : (loadCells ⟨g, o, none⟩ 5).run Tryz.prog W = .ok #[.int .i64 H.id, .int .i64 H.q, .int .i64 H.u, .bool H.r, .slice H.A m H.c] W := run_loadCells_list (P := Tryz.prog) W ⟨g, o, none⟩ [.int .i64 H.id, .int .i64 H.q, .int .i64 H.u, .bool H.r, .slice H.A m H.c] fun j v hv => by rw [Addr.add_lit]; exact h j v hv
 have ha : (isAgg 53).run Tryz.prog W = .ok true W := by
  unfold isAgg;rw [Sem.run_bind, run_underlying Tryz.underlying53 W]
  simp
 unfold execOp;simp only [ho, hy, Instr.loadAt, Instr.sureAddr, Sem.run_bind, Sem.run_pure, Result.andThen_ok, loadVar, ha, if_true, Tryz.sizeOf53, hl]
theorem wpList_load_hm {ops : Array Oper} {rest : List Oper} {o : Oper} {a : Act} {w : World} {Q : Exit → Act → World → Prop} (hgd : o.guard = none) (y : Operand) (ho : o.op = .load 53 y)
  (g off m : Nat) (H : Ho) (hy : a.eval y = .pointer (some ⟨g, off, none⟩)) (hx : CellsAt w g off [.int .i64 H.id, .int .i64 H.q, .int .i64 H.u, .bool H.r, .slice H.A m H.c]) (h : wpList Tryz.prog ops Q rest (a.put o.dst (.agg #[.int .i64 H.id, .int .i64 H.q, .int .i64 H.u, .bool H.r, .slice H.A m H.c])) w) : wpList Tryz.prog ops Q (o :: rest) a w := by
 refine wpList_plain hgd fun K hK => ?_
 unfold Oper.wp;rw [run_load_hm ho hy hx];exact hK _ _ h
theorem wpList_load_rx {ops : Array Oper} {rest : List Oper} {o : Oper} {a : Act} {w : World} {Q : Exit → Act → World → Prop} (hgd : o.guard = none) (y : Operand) (ho : o.op = .load 51 y)
  (g off : Nat) (x : Rc) (hy : a.eval y = .pointer (some ⟨g, off, none⟩)) (hx : RcAt w g off x) (h : wpList Tryz.prog ops Q rest (a.put o.dst (.agg #[.int .i64 x.id, .int .i64 x.q, .int .i64 x.p, .int .i64 x.r, .int .i64 x.g, .int .i64 x.c, .int .i64 x.mn, .int .i64 x.mx, .int .i64 x.st, .int .i64 x.si, .int .i64 x.nu, .int .i64 x.me, .int .i64 x.bg, .int .i64 x.en, .int .i64 x.li, .int .i64 x.wo])) w) : wpList Tryz.prog ops Q (o :: rest) a w := by
 refine wpList_plain hgd fun K hK => ?_
 unfold Oper.wp;rw [run_load_rc ho hy hx];exact hK _ _ h
set_option maxHeartbeats 4000000 in
theorem wgrowcl_any (p m : Nat) (x : Rc) (H : Ho) (w : World) (br : w.heap[p]? = some (.cells #[.int .i64 x.id, .int .i64 x.q, .int .i64 x.p, .int .i64 x.r, .int .i64 x.g, .int .i64 x.c, .int .i64 x.mn, .int .i64 x.mx, .int .i64 x.st, .int .i64 x.si, .int .i64 x.nu, .int .i64 x.me, .int .i64 x.bg, .int .i64 x.en, .int .i64 x.li, .int .i64 x.wo] 51 (0, 0))) : Calls Tryz.prog 42 #[.agg #[.int .i64 H.id, .int .i64 H.q, .int .i64 H.u, .bool H.r, .slice H.A m H.c], .pointer (some ⟨p, 0, none⟩)] w fun e w' => e = .returned (.bool (H.id == x.id)) ∧ Below w.heap.size w w' := by
 have B_r := Hq br;have l_r : p < w.heap.size := blk_lt br;clear br;obtain ⟨B0, hB0⟩ := nx (w.heap.size);rw [← hB0];have HB0 := Hq hB0;clear hB0;have HBel := Hq (Below.refl w.heap.size w);have hlow : w.heap.size ≤ w.heap.size := Nat.le_refl _;go_enter Tryz.func42, Tryz.ntmps42;obtain ⟨r0, r1, r2, r3, r4, r5, r6, r7, r8, r9, r10, r11, r12, r13, r14, r15⟩ := cells16 B_r.out;have l_r_0 : p < w.heap.size + 1 := by omega
 go_wp2_with fail;clear r0 r1 r2 r3 r4 r5 r6 r7 r8 r9 r10 r11 r12 r13 r14 r15 l_r_0;obtain ⟨V1, hV1⟩ := nx (w.alloc (.cells #[.int .i64 H.id, .int .i64 H.q, .int .i64 H.u, .bool H.r, .slice H.A m H.c] 53));rw [← hV1];have hzV1 := sz1 hV1;replace HBel := be1 hV1 HBel hlow;replace B_r := bk1 hV1 B_r l_r;have B_h := Hq (new10 hV1);obtain ⟨N_h, hN_h⟩ := nx (w.heap.size);(try rw [← hN_h]);rw [← hN_h] at B_h;have d_r_h : p < N_h := by omega
 replace l_r : p < V1.heap.size := by omega
 have l_h : N_h < V1.heap.size := by omega
 have g_h : w.heap.size ≤ N_h := by omega
 replace hlow : w.heap.size ≤ V1.heap.size := by omega
 clear hV1 hzV1 hN_h
 go_ret
 exact ⟨rfl, by rw [HB0.out]; exact HBel.out⟩
def GIdx (l : List Ho) (id n : Int) : Prop := (n = -1 ∧ l.find? (fun h => h.id == id) = none) ∨ ∃ (k : Nat) (H : Ho), n = k ∧ l[k]? = some H ∧ l.find? (fun h => h.id == id) = some H
set_option maxHeartbeats 4000000 in
theorem gindex_any (p : Nat) (x : Rc) (A : Option Addr) (c : Nat) (l : List Ho) (w : World) (h : Hos w w.heap.size A l) (hl : l.length ≤ maxLen) (br : w.heap[p]? = some (.cells #[.int .i64 x.id, .int .i64 x.q, .int .i64 x.p, .int .i64 x.r, .int .i64 x.g, .int .i64 x.c, .int .i64 x.mn, .int .i64 x.mx, .int .i64 x.st, .int .i64 x.si, .int .i64 x.nu, .int .i64 x.me, .int .i64 x.bg, .int .i64 x.en, .int .i64 x.li, .int .i64 x.wo] 51 (0, 0))) :
  Calls Tryz.prog 41 #[.slice A l.length c, .func (.func 42) #[] #[.pointer (some ⟨p, 0, none⟩)]] w fun e w' => ∃ n : Int, e = .returned (.int .i64 n) ∧ GIdx l x.id n ∧ Below w.heap.size w w' := by
 have hp : p < w.heap.size := blk_lt br;obtain ⟨n, hn⟩ := nx (l.length);rw [← hn] at hl ⊢;have hl2 : n ≤ 9223372036854775807 := hl;have H := Hq (Ai h hn);have HC := Hq (fun m H W (hk : Below w.heap.size w W) => wgrowcl_any p m x H W ((hk.block p hp).trans br));clear h hn br hl;have HB0 := Hq (Below.refl w.heap.size w);have HI0 : Hid ((l.take 0).find? (fun h => h.id == x.id) = none) := Hq rfl;go_enter Tryz.func41, Tryz.ntmps41;go_wp2;go_loopw [8] (fun i wr => ∃ k : Nat, i = .int .i64 k ∧ k ≤ n ∧ Hid (Below w.heap.size w wr) ∧ Hid ((l.take k).find? (fun h => h.id == x.id) = none)) (fun i _ => n - (intOf i).toNat)
 case atStart => exact ⟨0, rfl, by omega, HB0, HI0⟩
 case round =>
  clear HB0 HI0;obtain ⟨k, rfl, hk, hB, hI⟩ := hrel;by_cases hlt : k < n
  ·obtain ⟨y, hx⟩ := get_lt (l := l) (k := k) (by rw [← H.out.2]; exact hlt);obtain ⟨b, off, rfl, hb, hc⟩ := H.out.1.at_ hx;obtain ⟨m, hm9⟩ : ∃ m, m = y.sl.length := ⟨_, rfl⟩
   have hcx := (hc k _ hx).keep hb hB.out;unfold hoC at hcx;rw [← hm9] at hcx;have HCX := Hq hcx;have t2 : decide (k < n) = true := decide_eq_true hlt;have hC := Hq (HC.out m y wr hB.out);obtain ⟨q, hq⟩ := nx ((y.id == x.id));rw [← hq] at hC
   cases q
   ·have HN : Hid ((l.take (k + 1)).find? (fun h => h.id == x.id) = none) := Hq (find_on hI.out hx hq.symm);have HB1 := hB;clear hcx hc hb hx hI hB hq HC hm9;go_wp2_with (refine wpList_load_hm rfl _ rfl b (off + k * 5) m y rfl HCX.out ?_);refine hC.out.mono ?_;rintro e w1 ⟨rfl, hb1⟩;have HB2 := Hq (below_step HB1.out hb1);clear HB1 hb1 hC HCX;go_wp2
    go_roundw
    case rel => exact ⟨k + 1, by go_num, by omega, HB2, HN⟩
    case measure => simp [intOf]; omega
   ·have HR : Hid (GIdx l x.id k) := Hq (.inr ⟨k, y, rfl, hx, find_at hI.out hx hq.symm⟩);have HB1 := hB;clear hcx hc hb hx hI hB hq HC hm9;go_wp2_with (refine wpList_load_hm rfl _ rfl b (off + k * 5) m y rfl HCX.out ?_);refine hC.out.mono ?_;rintro e w1 ⟨rfl, hb1⟩;have HB2 := Hq (below_step HB1.out hb1);clear HB1 hb1 HCX;go_wp2
    go_ret
    exact ⟨_, rfl, HR.out, HB2.out⟩
  ·obtain rfl : k = n := by omega
   have HR : Hid (GIdx l x.id (-1)) := Hq (.inl ⟨rfl, by have := hI.out; rw [H.out.2, List.take_length] at this; exact this⟩);have HB1 := hB;clear hI hB hlt;go_wp2
   go_ret
   exact ⟨_, rfl, HR.out, HB1.out⟩
end
set_option linter.unusedVariables false
set_option maxRecDepth 100000
section
open Go.RowKit
open PR
set_option maxHeartbeats 16000000 in
theorem wgrow_any (L : Lk) (w : World) (h : LkIn w w.heap.size L) (hW : LkW L) (hF : LkF L) (hT : Tab w) :
  Calls Tryz.prog 26 #[lkV L] w fun e w' => WayR (GrowY L) True w' e ∧ Below w.heap.size w w' := by
 obtain ⟨n1, hn1⟩ := nx (L.lv.length);obtain ⟨n2, hn2⟩ := nx (L.lf.length);obtain ⟨n3, hn3⟩ := nx (L.le.length);obtain ⟨n4, hn4⟩ := nx (L.lw.length);obtain ⟨n5, hn5⟩ := nx (L.lr.length);have hIx := Hq (fun p (x : Rc) W (hk : Below w.heap.size w W) (br : W.heap[p]? = some (.cells #[.int .i64 x.id, .int .i64 x.q, .int .i64 x.p, .int .i64 x.r, .int .i64 x.g, .int .i64 x.c, .int .i64 x.mn, .int .i64 x.mx, .int .i64 x.st, .int .i64 x.si, .int .i64 x.nu, .int .i64 x.me, .int .i64 x.bg, .int .i64 x.en, .int .i64 x.li, .int .i64 x.wo] 51 (0, 0))) => show Calls Tryz.prog 41 #[.slice L.A3 n3 L.c3, .func (.func 42) #[] #[.pointer (some ⟨p, 0, none⟩)]] W (fun e w' => ∃ n : Int, e = .returned (.int .i64 n) ∧ GIdx L.le x.id n ∧ Below W.heap.size W w') from by
  have h9 := gindex_any p x L.A3 L.c3 L.le W (h.e.keep hk hk.size).at_ (Nat.le_trans hW.l3 hW.m3) br;rw [← hn3] at h9;exact h9)
 have hGr := Hq (fun (x : Rc) (hx : x ∈ L.lr) (H : Ho) (hH : H ∈ L.le) (m : Nat) (hm : m = H.sl.length) W (hk : Below w.heap.size w W) => show Calls Tryz.prog 43 #[.agg #[.int .i64 L.now, .int .i64 L.hd, .int .i64 L.pr, .int .i64 L.to, .slice L.A1 n1 L.c1, .slice L.A2 n2 L.c2, .slice L.A3 n3 L.c3, .slice L.A4 n4 L.c4, .slice L.A5 n5 L.c5], .agg #[.int .i64 H.id, .int .i64 H.q, .int .i64 H.u, .bool H.r, .slice H.A m H.c], .agg #[.int .i64 x.id, .int .i64 x.q, .int .i64 x.p, .int .i64 x.r, .int .i64 x.g, .int .i64 x.c, .int .i64 x.mn, .int .i64 x.mx]] W (fun e w' => GrowJ L x.J H.u e ∧ Below W.heap.size W w') from by
  have h9 := grow_any L H x.J W (h.keep hk hk.size) hW hF (hW.e H hH) (hW.r x hx) (hT.below hk hT.size);unfold lkV lkA jbV jbA hoV hoA at h9;rw [← hn1, ← hn2, ← hn3, ← hn4, ← hn5, ← hm] at h9;exact h9)
 have HT5 := Hq (Ai h.r (Ai hn5 (Ai h.e.at_ hn3)));have hl5 : n5 ≤ 9223372036854775807 := by rw [hn5]; exact Nat.le_trans hW.l5 hW.m5
 unfold lkV lkA;rw [← hn1, ← hn2, ← hn3, ← hn4, ← hn5];clear hn1 hn2 hn3 hn4 hn5 h hW hF hT;obtain ⟨B0, hB0⟩ := nx (w.heap.size);rw [← hB0];have HB0 := Hq hB0;clear hB0;have HBel := Hq (Below.refl w.heap.size w);have hlow : w.heap.size ≤ w.heap.size := Nat.le_refl _;go_enter Tryz.func26, Tryz.ntmps26;go_wp2_with fail;obtain ⟨V1, hV1⟩ := nx (w.alloc (.cells #[.int .i64 L.now, .int .i64 L.hd, .int .i64 L.pr, .int .i64 L.to, .slice L.A1 n1 L.c1, .slice L.A2 n2 L.c2, .slice L.A3 n3 L.c3, .slice L.A4 n4 L.c4, .slice L.A5 n5 L.c5] 28));rw [← hV1];have hzV1 := sz1 hV1;replace HBel := be1 hV1 HBel hlow;have B_l := Hq (new10 hV1);obtain ⟨N_l, hN_l⟩ := nx (w.heap.size);(try rw [← hN_l]);rw [← hN_l] at B_l;have l_l : N_l < V1.heap.size := by omega
 have g_l : w.heap.size ≤ N_l := by omega
 replace hlow : w.heap.size ≤ V1.heap.size := by omega
 clear hV1 hzV1 hN_l;obtain ⟨l0, l1, l2, l3, l4, l5, l6, l7, l8⟩ := cells9 B_l.out;go_wp2;go_loopw [13] (fun vi wr => ∃ k : Nat, vi = .int .i64 k ∧ k ≤ n5 ∧ N_l < wr.heap.size ∧ Hid (Below w.heap.size w wr) ∧ Hid (wr.heap[N_l]? = some (.cells #[.int .i64 L.now, .int .i64 L.hd, .int .i64 L.pr, .int .i64 L.to, .slice L.A1 n1 L.c1, .slice L.A2 n2 L.c2, .slice L.A3 n3 L.c3, .slice L.A4 n4 L.c4, .slice L.A5 n5 L.c5] 28 (0, 0)))) (fun vi _ => n5 - (intOf vi).toNat)
 case atStart => exact ⟨0, rfl, by omega, l_l, HBel, B_l⟩
 case round =>
  clear HBel B_l l_l hlow l0 l1 l2 l3 l4 l5 l6 l7 l8;obtain ⟨k, rfl, hk, l_l, HBel, B_l⟩ := hrel;have hlow := HBel.out.size;by_cases hlt : k < n5
  ·have u1 : decide (k < n5) = true := decide_eq_true hlt;obtain ⟨x, hx⟩ := get_lt (l := L.lr) (k := k) (by rw [← HT5.out.2.1]; exact hlt);have hIy := Hq (fun p => hIx.out p x);have hGx := Hq (hGr.out x (List.mem_of_getElem? hx));obtain ⟨b, off, hA, hb, hall⟩ := HT5.out.1.at_ hx;have HX := Hq ((hall k x hx).keep hb HBel.out);have HA0 := Hq hA;have HXM := Hq (List.mem_of_getElem? hx);rw [hA];clear hall hx hb hA;obtain ⟨l0, l1, l2, l3, l4, l5, l6, l7, l8⟩ := cells9 B_l.out;have l_l_0 : N_l < wr.heap.size + 1 := (by omega);go_wp2_with (refine wpList_load_rx rfl _ rfl b (off + k * 16) x rfl HX.out ?_);clear l0 l1 l2 l3 l4 l5 l6 l7 l8 l_l_0;obtain ⟨V1, hV1⟩ := nx (wr.alloc (.cells #[.int .i64 x.id, .int .i64 x.q, .int .i64 x.p, .int .i64 x.r, .int .i64 x.g, .int .i64 x.c, .int .i64 x.mn, .int .i64 x.mx, .int .i64 x.st, .int .i64 x.si, .int .i64 x.nu, .int .i64 x.me, .int .i64 x.bg, .int .i64 x.en, .int .i64 x.li, .int .i64 x.wo] 51));rw [← hV1];have hzV1 := sz1 hV1;replace HBel := be1 hV1 HBel hlow;replace B_l := bk1 hV1 B_l l_l;have B_x := Hq (new10 hV1);obtain ⟨N_x, hN_x⟩ := nx (wr.heap.size);(try rw [← hN_x]);rw [← hN_x] at B_x;have d_l_x : N_l < N_x := (by omega);replace l_l : N_l < V1.heap.size := (by omega);have l_x : N_x < V1.heap.size := (by omega);have g_x : w.heap.size ≤ N_x := (by omega);replace hlow : w.heap.size ≤ V1.heap.size := (by omega);clear hV1 hzV1 hN_x;refine (hIy.out N_x V1 HBel.out B_x.out).mono ?_;rintro e U2 ⟨n, rfl, hi, hb9⟩;have hs9 := hb9.size;replace HBel := bt9 HBel hb9 hlow;replace B_l := bb9 hb9 B_l l_l;replace B_x := bb9 hb9 B_x l_x;replace l_l : N_l < U2.heap.size := (by omega);replace l_x : N_x < U2.heap.size := (by omega);replace hlow : w.heap.size ≤ U2.heap.size := (by omega);clear hb9 hs9;rcases hi with ⟨rfl, hnone⟩ | ⟨kk, H, rfl, hH, hfind⟩
   ·clear hnone;go_wp2
    go_roundw
    case rel => exact ⟨k + 1, by go_num, by omega, l_l, HBel, (by rw [← HA0.out]; exact B_l)⟩
    case measure => simp [intOf]; omega
   ·have hkn : kk < n3 := by rw [HT5.out.2.2.2]; exact (List.getElem?_eq_some_iff.1 hH).1
    obtain ⟨m, hm9⟩ : ∃ m, m = H.sl.length := ⟨_, rfl⟩
    have hGy := Hq (hGx.out H (List.mem_of_getElem? hH) m hm9);have HY := Hq hfind;obtain ⟨b3, off3, hA3, hb3, hc3⟩ := HT5.out.2.2.1.at_ hH;have hb3W : b3 < U2.heap.size := (by omega);have hcx := (hc3 kk _ hH).keep hb3 HBel.out;unfold hoC at hcx;rw [← hm9] at hcx;have HJ : CellsAt U2 N_x 0 (jbC x.J) := fun r v hr => by
     rw [Nat.zero_add];exact cell_blk B_x.out (by rcases r with _ | _ | _ | _ | _ | _ | _ | _ | r <;> first | exact hr | (simp [jbC] at hr))
    have l6 : U2.cell? ⟨N_l, 6, none⟩ = some (.slice (some ⟨b3, off3, none⟩) n3 L.c3) := by rw [← hA3]; exact cell_blk (i := 6) B_l.out rfl
    have hlk := lk_blk B_l.out;have t2 : decide (kk < n3) = true := decide_eq_true hkn;clear hc3 hb3 hA3 hH hfind hm9 hGx;go_wp2_with fail;refine held_begin (fun w' : World => CellsAt w' N_l 0 [.int .i64 L.now, .int .i64 L.hd, .int .i64 L.pr, .int .i64 L.to, .slice L.A1 n1 L.c1, .slice L.A2 n2 L.c2, .slice L.A3 n3 L.c3, .slice L.A4 n4 L.c4, .slice L.A5 n5 L.c5] ∧ w'.cell? ⟨N_l, 6, none⟩ = some (.slice (some ⟨b3, off3, none⟩) n3 L.c3) ∧ CellsAt w' b3 (off3 + kk * 5) [.int .i64 H.id, .int .i64 H.q, .int .i64 H.u, .bool H.r, .slice H.A m H.c] ∧ CellsAt w' N_x 0 (jbC x.J)) (by kernel_rfl) ?_;have hBh0 : Below U2.heap.size U2 U2.drew := (Below.refl _ _).drew;have hSh0 := Ai hlk (Ai l6 (Ai hcx HJ));refine tkH ?_ 0 24 ?_ hSh0 ?_;rotate_left
    ·rintro w' ⟨x0, x1, x2, x3⟩;refine Eq.trans (run_load_lk (by rfl) (by rfl) x0) ?_;(with_reducible rfl)
    simp only [Act.put, pzA, pzB, pzC];refine tkA 1 25 hSh0 ?_;refine tkA 2 26 hSh0 ?_;refine tkA 3 27 hSh0 ?_;refine tkA 4 28 hSh0 ?_;refine tkH ?_ 5 29 ?_ hSh0 ?_;rotate_left
    ·rintro w' ⟨x0, x1, x2, x3⟩;refine Eq.trans (run_load_hm (by rfl) (by rfl) x2) ?_;(with_reducible rfl)
    simp only [Act.put, pzA, pzB, pzC];refine tkA 6 30 hSh0 ?_;refine tkH ?_ 7 31 ?_ hSh0 ?_;rotate_left
    ·rintro w' ⟨x0, x1, x2, x3⟩;refine Eq.trans (run_load_jb (by rfl) (by rfl) x3) ?_;(with_reducible rfl)
    simp only [Act.put, pzA, pzB, pzC];refine held_two 8 12 rfl rfl (by kernel_rfl) (by rfl) (by rfl) (fun K hK => ?_) (fun K hK => ?_)
    ·go_simp
     go_at_call 43
     refine (hGy.out U2.drew (HBel.out.trans (hBh0.mono hlow))).mono ?_;rintro e wa ⟨⟨s, r, rfl, hG⟩, hb1⟩;have hBa : Below U2.heap.size U2 wa := below_step hBh0 hb1;have hSa := Ai (hlk.keep (show N_l < U2.heap.size by omega) hBa) (Ai (ck hBa l6) (Ai (hcx.keep hb3W hBa) (HJ.keep (show N_x < U2.heap.size by omega) hBa)));have HG := Hq hG;clear hG;refine hK.out _ _ hSa ?_;clear hK K;try simp only [Act.put, pzA, pzB, pzC]
     refine tkA 9 23 hSa ?_;refine tkA 10 33 hSa ?_;refine tkA 11 34 hSa ?_;refine held_one 12 rfl (by kernel_rfl) (by rfl) (fun K hK => ?_);go_simp;obtain ⟨wb, hwb⟩ := nx (wa.alloc (.cells #[.int .i64 0, .int .i64 0, .int .u64 0, .int .i64 0] 64));have hBb : Below U2.heap.size U2 wb := by rw [hwb]; exact hBa.alloc hBa.size _
     have bz : wb.heap[wa.heap.size]? = some (.cells #[.int .i64 0, .int .i64 0, .int .u64 0, .int .i64 0] 64 (0, 0)) := by rw [hwb]; exact heap_alloc_new _ _
     have hSb := Ai (hlk.keep (show N_l < U2.heap.size by omega) hBb) (Ai (ck hBb l6) (Ai (hcx.keep hb3W hBb) (HJ.keep (show N_x < U2.heap.size by omega) hBb)));rw [← hwb];refine hK.out _ _ hSb ?_;clear hK K;try simp only [Act.put, pzA, pzB, pzC]
     generalize hZ : wa.heap.size = Z at bz ⊢;have gz : U2.heap.size ≤ Z := (by rw [← hZ]; exact hBa.size)
     clear hZ;clear hwb;have z0 : wb.cell? ⟨Z, 0, none⟩ = some (.int .i64 0) := cell_blk (i := 0) bz rfl;have zz0 : wb.frozen? ⟨Z, 0, none⟩ = false := frozen_blk bz;have z1 : wb.cell? ⟨Z, 1, none⟩ = some (.int .i64 0) := cell_blk (i := 1) bz rfl;have zz1 : wb.frozen? ⟨Z, 1, none⟩ = false := frozen_blk bz;have z2 : wb.cell? ⟨Z, 2, none⟩ = some (.int .u64 0) := cell_blk (i := 2) bz rfl;have zz2 : wb.frozen? ⟨Z, 2, none⟩ = false := frozen_blk bz;have z3 : wb.cell? ⟨Z, 3, none⟩ = some (.int .i64 0) := cell_blk (i := 3) bz rfl;have zz3 : wb.frozen? ⟨Z, 3, none⟩ = false := frozen_blk bz;refine held_one 13 rfl (by kernel_rfl) (by rfl) (fun K hK => ?_);go_simp;obtain ⟨wf, hwf⟩ := nx (((((wb).setCell ⟨Z, 0, none⟩ (.int .i64 s.n)).setCell ⟨Z, 1, none⟩ (.int .i64 s.d)).setCell ⟨Z, 2, none⟩ (.int .u64 (s.m : Nat))).setCell ⟨Z, 3, none⟩ (.int .i64 s.c));rw [← hwf];have hBf : Below U2.heap.size U2 wf := by rw [hwf]; exact (((hBb.setCell gz _).setCell gz _).setCell gz _).setCell gz _
     have bzf : wf.heap[Z]? = some (.cells #[.int .i64 s.n, .int .i64 s.d, .int .u64 (s.m : Nat), .int .i64 s.c] 64 (0, 0)) := by rw [hwf]; exact blk_put (i := 3) _ (blk_put (i := 2) _ (blk_put (i := 1) _ (blk_put (i := 0) _ bz)))
     have hSf := Ai (hlk.keep (show N_l < U2.heap.size by omega) hBf) (Ai (ck hBf l6) (Ai (hcx.keep hb3W hBf) (HJ.keep (show N_x < U2.heap.size by omega) hBf)));refine hK.out _ _ hSf ?_;clear hK K;clear z0 z1 z2 z3 zz0 zz1 zz2 zz3 hwf;try simp only [Act.put, pzA, pzB, pzC]
     refine tkA 14 9 hSf ?_;refine wpAnyH_done (by kernel_rfl) ?_ _;have hs9 := hBf.size;replace HBel := Hq (HBel.out.trans (hBf.mono hlow));replace B_l : Hid (wf.heap[N_l]? = some (.cells #[.int .i64 L.now, .int .i64 L.hd, .int .i64 L.pr, .int .i64 L.to, .slice L.A1 n1 L.c1, .slice L.A2 n2 L.c2, .slice L.A3 n3 L.c3, .slice L.A4 n4 L.c4, .slice L.A5 n5 L.c5] 28 (0, 0))) := Hq ((hBf.block _ l_l).trans B_l.out);replace B_x : Hid (wf.heap[N_x]? = some (.cells #[.int .i64 x.id, .int .i64 x.q, .int .i64 x.p, .int .i64 x.r, .int .i64 x.g, .int .i64 x.c, .int .i64 x.mn, .int .i64 x.mx, .int .i64 x.st, .int .i64 x.si, .int .i64 x.nu, .int .i64 x.me, .int .i64 x.bg, .int .i64 x.en, .int .i64 x.li, .int .i64 x.wo] 51 (0, 0))) := Hq ((hBf.block _ l_x).trans B_x.out);replace l_l : N_l < wf.heap.size := (by omega);replace l_x : N_x < wf.heap.size := (by omega);have l_z := blk_lt bzf;have g_z : w.heap.size ≤ Z := Nat.le_trans hlow gz;have B_z := Hq bzf;replace hlow : w.heap.size ≤ wf.heap.size := (by omega);clear hSf hBf bzf bz gz hs9 hb3W hcx HJ l6 hlk t2 hkn;(try clear hSa);(try clear hSb);(try clear hBa);(try clear hBb);(try clear hb1);(try clear hSh0);(try clear hBh0);(try clear hZ);by_cases hr : r = 0
     ·subst hr;have HS := Hq (show GrowY L x.id [s] from ⟨x, H, s, HXM.out, rfl, HY.out, rfl, HG.out rfl⟩);have t3 : ((0 : Int) == 0) = true := rfl;obtain ⟨x0, x1, x2, x3, x4, x5, x6, x7, x8, x9, x10, x11, x12, x13, x14, x15⟩ := cells16 B_x.out;obtain ⟨z0, z1, z2, z3⟩ := cells4 B_z.out;go_wp2_with fail;refine held_begin (fun w' : World => w'.cell? ⟨N_x, 0, none⟩ = some (.int .i64 x.id) ∧ w'.cell? ⟨Z, 0, none⟩ = some (.int .i64 s.n) ∧ w'.cell? ⟨Z, 1, none⟩ = some (.int .i64 s.d) ∧ w'.cell? ⟨Z, 2, none⟩ = some (.int .u64 (s.m : Nat)) ∧ w'.cell? ⟨Z, 3, none⟩ = some (.int .i64 s.c)) (by kernel_rfl) ?_;have hBe0 : Below wf.heap.size wf wf.drew := (Below.refl _ _).drew;have hSe0 := Ai x0 (Ai z0 (Ai z1 (Ai z2 z3)));refine tkA 0 37 hSe0 ?_;refine tkA 1 38 hSe0 ?_;refine tkA 2 39 hSe0 ?_;refine tkA 3 40 hSe0 ?_;refine tkA 5 2 hSe0 ?_;refine held_one 4 rfl (by kernel_rfl) (by rfl) (fun K hK => ?_);go_simp;obtain ⟨we1, hwe1⟩ := nx ((wf.alloc (.cells #[.int .i64 s.n, .int .i64 s.d, .int .u64 (s.m : Nat), .int .i64 s.c] 64)).drew);have hBe1 : Below wf.heap.size wf we1 := by rw [hwe1]; exact hBe0.alloc hBe0.size _
      have hSe1 := Ai (ck hBe1 x0) (Ai (ck hBe1 z0) (Ai (ck hBe1 z1) (Ai (ck hBe1 z2) (ck hBe1 z3))));have hbn : we1.heap[wf.drew.heap.size]? = some (.cells #[.int .i64 s.n, .int .i64 s.d, .int .u64 (s.m : Nat), .int .i64 s.c] 64 (0, 0)) := by rw [hwe1]; exact heap_alloc_new _ _
      refine hK.out _ _ (show _ from by rw [← hwe1]; exact hSe1) ?_;clear hK K;try simp only [Act.put, pzA, pzB, pzC]
      rw [← hwe1];have Hwe1 := Hq hwe1;clear hwe1;refine tkA 6 3 hSe1 ?_;refine tkA 7 4 hSe1 ?_;refine wpAnyH_done (by kernel_rfl) ?_ _;have HE := Hq (Ai hbn hBe1);clear hbn hBe1 hSe1 hSe0 hBe0;go_wp2
      go_ret3
      refine ⟨.inl ⟨_, _, _, 1, 1, rfl, HS.out, rfl, Nat.le_refl _, (by unfold maxLen; omega), fe_blk (cs := [s].flatMap feC) HE.out.1 (fun _ _ h => h) (blk_lt HE.out.1)⟩, ?_⟩;rw [HB0.out]; exact HBel.out.trans (HE.out.2.mono hlow)
     ·have t3 : (r == 0) = false := by simp [hr]
      clear hr;go_wp2
      go_roundw
      case rel => exact ⟨k + 1, by go_num, by omega, l_l, HBel, (by rw [← HA0.out]; exact B_l)⟩
      case measure => simp [intOf]; omega
    ·go_simp;obtain ⟨wa, hwa⟩ := nx ((U2.alloc (.cells #[.int .i64 0, .int .i64 0, .int .u64 0, .int .i64 0] 64)).drew);have hBa : Below U2.heap.size U2 wa := by rw [hwa]; exact ((Below.refl _ _).alloc (Nat.le_refl _) _).drew
     have bz : wa.heap[U2.heap.size]? = some (.cells #[.int .i64 0, .int .i64 0, .int .u64 0, .int .i64 0] 64 (0, 0)) := by rw [hwa]; exact heap_alloc_new _ _
     have hSa := Ai (hlk.keep (show N_l < U2.heap.size by omega) hBa) (Ai (ck hBa l6) (Ai (hcx.keep hb3W hBa) (HJ.keep (show N_x < U2.heap.size by omega) hBa)));rw [← hwa];refine hK.out _ _ hSa ?_;clear hK K;try simp only [Act.put, pzA, pzB, pzC]
     generalize hZ : U2.heap.size = Z at bz ⊢;have gz : U2.heap.size ≤ Z := Nat.le_of_eq hZ;clear hZ;clear hwa;refine held_one 8 rfl (by kernel_rfl) (by rfl) (fun K hK => ?_);go_simp
     go_at_call 43
     refine (hGy.out wa (HBel.out.trans (hBa.mono hlow))).mono ?_;rintro e wb ⟨⟨s, r, rfl, hG⟩, hb1⟩;have hBb : Below U2.heap.size U2 wb := below_step hBa hb1;have hSb := Ai (hlk.keep (show N_l < U2.heap.size by omega) hBb) (Ai (ck hBb l6) (Ai (hcx.keep hb3W hBb) (HJ.keep (show N_x < U2.heap.size by omega) hBb)));have HG := Hq hG;clear hG;have bz2 : wb.heap[Z]? = some (.cells #[.int .i64 0, .int .i64 0, .int .u64 0, .int .i64 0] 64 (0, 0)) := (hb1.block Z (blk_lt bz)).trans bz;replace bz := bz2;clear bz2;refine hK.out _ _ hSb ?_;clear hK K;try simp only [Act.put, pzA, pzB, pzC]
     refine tkA 9 23 hSb ?_;refine tkA 10 33 hSb ?_;refine tkA 11 34 hSb ?_;have z0 : wb.cell? ⟨Z, 0, none⟩ = some (.int .i64 0) := cell_blk (i := 0) bz rfl;have zz0 : wb.frozen? ⟨Z, 0, none⟩ = false := frozen_blk bz;have z1 : wb.cell? ⟨Z, 1, none⟩ = some (.int .i64 0) := cell_blk (i := 1) bz rfl;have zz1 : wb.frozen? ⟨Z, 1, none⟩ = false := frozen_blk bz;have z2 : wb.cell? ⟨Z, 2, none⟩ = some (.int .u64 0) := cell_blk (i := 2) bz rfl;have zz2 : wb.frozen? ⟨Z, 2, none⟩ = false := frozen_blk bz;have z3 : wb.cell? ⟨Z, 3, none⟩ = some (.int .i64 0) := cell_blk (i := 3) bz rfl;have zz3 : wb.frozen? ⟨Z, 3, none⟩ = false := frozen_blk bz;refine held_one 13 rfl (by kernel_rfl) (by rfl) (fun K hK => ?_);go_simp;obtain ⟨wf, hwf⟩ := nx (((((wb).setCell ⟨Z, 0, none⟩ (.int .i64 s.n)).setCell ⟨Z, 1, none⟩ (.int .i64 s.d)).setCell ⟨Z, 2, none⟩ (.int .u64 (s.m : Nat))).setCell ⟨Z, 3, none⟩ (.int .i64 s.c));rw [← hwf];have hBf : Below U2.heap.size U2 wf := by rw [hwf]; exact (((hBb.setCell gz _).setCell gz _).setCell gz _).setCell gz _
     have bzf : wf.heap[Z]? = some (.cells #[.int .i64 s.n, .int .i64 s.d, .int .u64 (s.m : Nat), .int .i64 s.c] 64 (0, 0)) := by rw [hwf]; exact blk_put (i := 3) _ (blk_put (i := 2) _ (blk_put (i := 1) _ (blk_put (i := 0) _ bz)))
     have hSf := Ai (hlk.keep (show N_l < U2.heap.size by omega) hBf) (Ai (ck hBf l6) (Ai (hcx.keep hb3W hBf) (HJ.keep (show N_x < U2.heap.size by omega) hBf)));refine hK.out _ _ hSf ?_;clear hK K;clear z0 z1 z2 z3 zz0 zz1 zz2 zz3 hwf;try simp only [Act.put, pzA, pzB, pzC]
     refine tkA 14 9 hSf ?_;refine wpAnyH_done (by kernel_rfl) ?_ _;have hs9 := hBf.size;replace HBel := Hq (HBel.out.trans (hBf.mono hlow));replace B_l : Hid (wf.heap[N_l]? = some (.cells #[.int .i64 L.now, .int .i64 L.hd, .int .i64 L.pr, .int .i64 L.to, .slice L.A1 n1 L.c1, .slice L.A2 n2 L.c2, .slice L.A3 n3 L.c3, .slice L.A4 n4 L.c4, .slice L.A5 n5 L.c5] 28 (0, 0))) := Hq ((hBf.block _ l_l).trans B_l.out);replace B_x : Hid (wf.heap[N_x]? = some (.cells #[.int .i64 x.id, .int .i64 x.q, .int .i64 x.p, .int .i64 x.r, .int .i64 x.g, .int .i64 x.c, .int .i64 x.mn, .int .i64 x.mx, .int .i64 x.st, .int .i64 x.si, .int .i64 x.nu, .int .i64 x.me, .int .i64 x.bg, .int .i64 x.en, .int .i64 x.li, .int .i64 x.wo] 51 (0, 0))) := Hq ((hBf.block _ l_x).trans B_x.out);replace l_l : N_l < wf.heap.size := (by omega);replace l_x : N_x < wf.heap.size := (by omega);have l_z := blk_lt bzf;have g_z : w.heap.size ≤ Z := Nat.le_trans hlow gz;have B_z := Hq bzf;replace hlow : w.heap.size ≤ wf.heap.size := (by omega);clear hSf hBf bzf bz gz hs9 hb3W hcx HJ l6 hlk t2 hkn;(try clear hSa);(try clear hSb);(try clear hBa);(try clear hBb);(try clear hb1);(try clear hSh0);(try clear hBh0);(try clear hZ);by_cases hr : r = 0
     ·subst hr;have HS := Hq (show GrowY L x.id [s] from ⟨x, H, s, HXM.out, rfl, HY.out, rfl, HG.out rfl⟩);have t3 : ((0 : Int) == 0) = true := rfl;obtain ⟨x0, x1, x2, x3, x4, x5, x6, x7, x8, x9, x10, x11, x12, x13, x14, x15⟩ := cells16 B_x.out;obtain ⟨z0, z1, z2, z3⟩ := cells4 B_z.out;go_wp2_with fail;refine held_begin (fun w' : World => w'.cell? ⟨N_x, 0, none⟩ = some (.int .i64 x.id) ∧ w'.cell? ⟨Z, 0, none⟩ = some (.int .i64 s.n) ∧ w'.cell? ⟨Z, 1, none⟩ = some (.int .i64 s.d) ∧ w'.cell? ⟨Z, 2, none⟩ = some (.int .u64 (s.m : Nat)) ∧ w'.cell? ⟨Z, 3, none⟩ = some (.int .i64 s.c)) (by kernel_rfl) ?_;have hBe0 : Below wf.heap.size wf wf.drew := (Below.refl _ _).drew;have hSe0 := Ai x0 (Ai z0 (Ai z1 (Ai z2 z3)));refine tkA 0 37 hSe0 ?_;refine tkA 1 38 hSe0 ?_;refine tkA 2 39 hSe0 ?_;refine tkA 3 40 hSe0 ?_;refine tkA 5 2 hSe0 ?_;refine held_one 4 rfl (by kernel_rfl) (by rfl) (fun K hK => ?_);go_simp;obtain ⟨we1, hwe1⟩ := nx ((wf.alloc (.cells #[.int .i64 s.n, .int .i64 s.d, .int .u64 (s.m : Nat), .int .i64 s.c] 64)).drew);have hBe1 : Below wf.heap.size wf we1 := by rw [hwe1]; exact hBe0.alloc hBe0.size _
      have hSe1 := Ai (ck hBe1 x0) (Ai (ck hBe1 z0) (Ai (ck hBe1 z1) (Ai (ck hBe1 z2) (ck hBe1 z3))));have hbn : we1.heap[wf.drew.heap.size]? = some (.cells #[.int .i64 s.n, .int .i64 s.d, .int .u64 (s.m : Nat), .int .i64 s.c] 64 (0, 0)) := by rw [hwe1]; exact heap_alloc_new _ _
      refine hK.out _ _ (show _ from by rw [← hwe1]; exact hSe1) ?_;clear hK K;try simp only [Act.put, pzA, pzB, pzC]
      rw [← hwe1];have Hwe1 := Hq hwe1;clear hwe1;refine tkA 6 3 hSe1 ?_;refine tkA 7 4 hSe1 ?_;refine wpAnyH_done (by kernel_rfl) ?_ _;have HE := Hq (Ai hbn hBe1);clear hbn hBe1 hSe1 hSe0 hBe0;go_wp2
      go_ret3
      refine ⟨.inl ⟨_, _, _, 1, 1, rfl, HS.out, rfl, Nat.le_refl _, (by unfold maxLen; omega), fe_blk (cs := [s].flatMap feC) HE.out.1 (fun _ _ h => h) (blk_lt HE.out.1)⟩, ?_⟩;rw [HB0.out]; exact HBel.out.trans (HE.out.2.mono hlow)
     ·have t3 : (r == 0) = false := by simp [hr]
      clear hr;go_wp2
      go_roundw
      case rel => exact ⟨k + 1, by go_num, by omega, l_l, HBel, (by rw [← HA0.out]; exact B_l)⟩
      case measure => simp [intOf]; omega
  ·obtain rfl : n5 = k := by omega
   have u1 : decide (n5 < n5) = false := decide_eq_false hlt;go_wp2
   go_ret3
   exact ⟨.inr ⟨trivial, rfl⟩, by rw [HB0.out]; exact HBel.out⟩
end
set_option linter.unusedVariables false
set_option maxRecDepth 100000
section
open Go.RowKit
open PR
set_option maxHeartbeats 4000000 in
theorem choices_any (L : Lk) (n1 n2 n3 n4 n5 : Nat) (w : World) :
  Calls Tryz.prog 16 #[.agg #[.int .i64 L.now, .int .i64 L.hd, .int .i64 L.pr, .int .i64 L.to, .slice L.A1 n1 L.c1, .slice L.A2 n2 L.c2, .slice L.A3 n3 L.c3, .slice L.A4 n4 L.c4, .slice L.A5 n5 L.c5]] w fun e w' => e = .returned (.func (.func 27) #[] #[.pointer (some ⟨w.heap.size + 1, 0, none⟩), .pointer (some ⟨w.heap.size, 0, none⟩)]) ∧ w'.heap.size = w.heap.size + 2 ∧
   w'.heap[w.heap.size]? = some (.cells #[.int .i64 L.now, .int .i64 L.hd, .int .i64 L.pr, .int .i64 L.to, .slice L.A1 n1 L.c1, .slice L.A2 n2 L.c2, .slice L.A3 n3 L.c3, .slice L.A4 n4 L.c4, .slice L.A5 n5 L.c5] 28 (0, 0)) ∧ w'.heap[w.heap.size + 1]? = some (.cells #[.int .i64 1, .func (.func 24) #[] #[], .int .i64 2, .func (.func 25) #[] #[], .int .i64 3, .func (.func 26) #[] #[]] 80 (0, 0)) ∧ Below w.heap.size w w' := by
 go_enter Tryz.func16, Tryz.ntmps16;go_wp2
 go_ret
 have e0 : ∀ (W : World) (o : Obj), (W.alloc o).heap.size = W.heap.size + 1 := fun W o => by simp
 have b0 := heap_alloc_new w (.cells #[.int .i64 L.now, .int .i64 L.hd, .int .i64 L.pr, .int .i64 L.to, .slice L.A1 n1 L.c1, .slice L.A2 n2 L.c2, .slice L.A3 n3 L.c3, .slice L.A4 n4 L.c4, .slice L.A5 n5 L.c5] 28);have b1 := heap_alloc_new (w.alloc (.cells #[.int .i64 L.now, .int .i64 L.hd, .int .i64 L.pr, .int .i64 L.to, .slice L.A1 n1 L.c1, .slice L.A2 n2 L.c2, .slice L.A3 n3 L.c3, .slice L.A4 n4 L.c4, .slice L.A5 n5 L.c5] 28)) (.cells #[.int .i64 1, .func (.func 24) #[] #[], .int .i64 2, .func (.func 25) #[] #[], .int .i64 3, .func (.func 26) #[] #[]] 80);rw [e0] at b1;have f0 := (Below.heap_alloc (w.alloc (.cells #[.int .i64 L.now, .int .i64 L.hd, .int .i64 L.pr, .int .i64 L.to, .slice L.A1 n1 L.c1, .slice L.A2 n2 L.c2, .slice L.A3 n3 L.c3, .slice L.A4 n4 L.c4, .slice L.A5 n5 L.c5] 28)) (.cells #[.int .i64 1, .func (.func 24) #[] #[], .int .i64 2, .func (.func 25) #[] #[], .int .i64 3, .func (.func 26) #[] #[]] 80) w.heap.size (by rw [e0]; omega)).trans b0;exact ⟨rfl, by rw [e0, e0], f0, b1, ((Below.refl w.heap.size w).alloc (Nat.le_refl _) _).alloc (by simp) _⟩
end
end Go.Proofs.YtkkkhonjcbhelaaGreatDoor
