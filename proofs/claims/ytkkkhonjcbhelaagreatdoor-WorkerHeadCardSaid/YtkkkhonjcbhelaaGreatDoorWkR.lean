import Derived.Test.YtkkkhonjcbhelaaGreatDoorWkQ
set_option maxRecDepth 100000
namespace Go.Proofs.YtkkkhonjcbhelaaGreatDoor
section
open Go.RowKit
section
variable {α : Type} {F : Fence} {n : Nat} {P : Program}
def SeqFirst (F : Fence) (n : Nat) (P : Program) (g : Nat) (lb : Array Value) (encs : α → Array Value) (R : α → World → Prop) (E : World → Prop) (w : World) : Prop :=
 ∀ (l : Nat) (J : World → Prop) (W : World), Below w.heap.size w W →
  (∀ x W1, Below W.heap.size W W1 → R x W1 → YieldAt F (n - 1) P l (encs x) W1 fun e W' => e = .returned (.bool false) ∧ J W') →
  CallsIn F n P g (#[.func (.yield l) #[] #[]] ++ lb) W fun e W' => (∃ v, e = .returned v) ∧ ((Below W.heap.size W W' ∧ E W') ∨ J W')
def Unmoved (B : Nat) (I : World → Prop) : Prop := ∀ W l o o', B ≤ l → W.heap[l]? = some o → o.isCells = false → I W → I (W.putObj l o')
theorem below_put {B : Nat} {w W : World} {l : Nat} {o' : Obj} (hb : Below B w W) (hB : B ≤ l) : Below B w (W.putObj l o') := by
 refine ⟨hb.os, hb.tape, hb.output, ?_, fun k hk => ?_⟩
 ·have := hb.size;simpa [World.putObj] using this
 ·exact (World.putObj_heap_other (by omega)).trans (hb.block k hk)
theorem wpIn_rangeFunc_first {g : Operand} {ps : Array Tmp} {assign body : Code} {Q : Exit → Act → World → Prop} {a : Act} {w : World}
  (hro : F.round = none) (h1 : 1 ≤ n) {gf : Nat} {lb : Array Value} (hg : a.eval g = .func (.func gf) #[] lb) (hFg : F.fn gf) (eg : ∀ args w, (callFunc gf args).run P w = .ok (.enter gf args) w)
  {encs : α → Array Value} {R : α → World → Prop} {E : World → Prop} (hseq : SeqFirst F (n - 1) P gf lb encs R E w) (hps : ∀ x, (encs x).size = ps.size)
  (Mid : α → Act → World → Prop) (Jx : World → Prop) (hE : Unmoved w.heap.size E) (hM : ∀ x b, Unmoved w.heap.size (Mid x b)) (hJ : Unmoved w.heap.size Jx)
  (hassign : ∀ (l : Nat) (x : α) (W : World) (K : Act → World → Prop), Below w.heap.size w W → R x W → (∀ b W1, Mid x b W1 → KeepsOthers W W1 → K b W1) →
   assign.wpIn (F.inRound l) (n - 1 - 1) P (Exit.then K (fun _ _ _ => False)) { tmps := (ps.zip (encs x)).foldl (fun t (p, v) => t.setIfInBounds p v) a.tmps, defers := [] } W)
  (hbody : ∀ (l : Nat) (x : α) (b : Act) (W : World), Mid x b W → body.wpIn (F.inRound l) (n - 1 - 1) P (fun e _ W' => e = .ret ∧ KeepsOthers W W' ∧ Jx W') b W)
  (hdone : ∀ (D : Nat) (W : World), w.heap.size ≤ D → Below w.heap.size w W → E W → W.heap[D]? = some (.deferred (some [])) → Q .normal { a with defers := { target := .collected D, args := #[] } :: a.defers } W)
  (hstop : ∀ (D : Nat) (W : World), w.heap.size ≤ D → Jx W → W.heap[D]? = some (.deferred (some [])) → Code.ret.wpIn F n P Q { a with defers := { target := .collected D, args := #[] } :: a.defers } W) :
  (Code.rangeFunc g ps assign body).wpIn F n P Q a w := by
 refine wpIn_rangeFunc fun fn hfn => ?_
 rw [hro]
 -- the record, as it stands ahead, within and behind a round; the two blocks
 let rc : LoopState → Option Code → Loop := fun s j => { state := s, pending := j, fn, tmps := a.tmps, params := ps, assign, body, defers := w.heap.size }
 let V : World := (w.alloc (.deferred (some []))).alloc (.loop (rc .ready none))
 have zV : V.heap.size = w.heap.size + 2 := by show ((w.alloc _).alloc _).heap.size = _; simp
 have bV : Below w.heap.size w V := ((Below.refl _ w).alloc (Nat.le_refl _) _).alloc (by simp) _;have lV : V.heap[w.heap.size + 1]? = some (.loop (rc .ready none)) := by
  have h9 := World.alloc_heap_new (w.alloc (.deferred (some []))) (.loop (rc .ready none))
  rwa [World.size_alloc] at h9
 have dV : V.heap[w.heap.size]? = some (.deferred (some [])) := (Below.heap_alloc _ _ _ (by simp)).trans (World.alloc_heap_new w _);refine ⟨w.heap.size + 1, _, V, { target := .fn (.func gf) lb, args := #[.func (.yield (w.heap.size + 1)) #[] #[]] }, V, gf, #[.func (.yield (w.heap.size + 1)) #[] #[]] ++ lb, V, run_enterLoop_outer _ _ _ _ _, ?_, ?_, ?_, fun _ => h1, ?_⟩
 ·simp only [resolve, hg];simp [go_sem]
 ·intro f' hf';simp [Target.leads] at hf';subst hf';exact hFg
 ·simp [invoke, go_sem, eg]
 refine (hseq (w.heap.size + 1) (fun W => ∃ s, Jx W ∧ W.heap[w.heap.size + 1]? = some (.loop (rc s (some .ret))) ∧ s = .done ∧ W.heap[w.heap.size]? = some (.deferred (some []))) V bV fun x W1 hb hx => ?_).mono ?_
 ·-- the round
  have hl : W1.heap[w.heap.size + 1]? = some (.loop (rc .ready none)) := (hb.block _ (by omega)).trans lV;have hd : W1.heap[w.heap.size]? = some (.deferred (some [])) := (hb.block _ (by omega)).trans dV;have hbw : Below w.heap.size w W1 := bV.trans (hb.mono (by omega));refine ⟨fn, _, assign, body, run_yield (r := rc .ready none) hl (hps x), roundIn_of_wpIn hfn (hassign _ x W1 _ hbw hx fun b W2 hm hk1 => ?_)⟩;have hl1 := hk1.same _ _ hl rfl;have hd1 := hk1.same _ _ hd rfl;have hlt1 : w.heap.size + 1 < W2.heap.size := (Array.getElem?_eq_some_iff.1 hl1).1;refine ⟨_, run_beginRound hl1 rfl, wpIn_mono (hbody _ x b _ (hM x b W2 (w.heap.size + 1) _ (.loop { rc .ready none with state := .busy }) (by omega) hl1 rfl hm)) ?_⟩;rintro e a3 W3 ⟨rfl, hk, hj⟩;have hl3 := hk.same _ _ (World.putObj_heap_same hlt1) rfl;have hd3 := hk.same _ _ ((World.putObj_heap_other (by omega)).trans hd1) rfl;exact ⟨_, _, run_endRound (some .ret) hl3, rfl, .done, hJ W3 _ _ _ (by omega) hl3 rfl hj, World.putObj_heap_same (Array.getElem?_eq_some_iff.1 hl3).1, rfl, (World.putObj_heap_other (by omega)).trans hd3⟩
 ·rintro e W2 ⟨⟨v, rfl⟩, ⟨hb, he⟩ | ⟨s, hj, hl, rfl, hd⟩⟩
  ·have hl2 : W2.heap[w.heap.size + 1]? = some (.loop (rc .ready none)) := (hb.block _ (by omega)).trans lV;have hd2 : W2.heap[w.heap.size]? = some (.deferred (some [])) := (hb.block _ (by omega)).trans dV;exact ⟨none, _, run_endLoop hl2 (by simp [rc]), hdone _ _ (Nat.le_refl _) (below_put (bV.trans (hb.mono (by omega))) (by omega)) (hE W2 _ _ _ (by omega) hl2 rfl he) ((World.putObj_heap_other (by omega)).trans hd2)⟩
  ·exact ⟨some .ret, _, run_endLoop hl (by simp [rc]), hstop _ _ (Nat.le_refl _) (hJ W2 _ _ _ (by omega) hl rfl hj) ((World.putObj_heap_other (by omega)).trans hd)⟩
end
end
set_option linter.unusedVariables false
set_option maxRecDepth 100000
section
open Go.RowKit Go.Shelf
open PR
attribute [local go_sem] Oper.semAt_some
structure Cz where
 d : Int
 id : Int
 s : List Fe
 A : Option Addr
 k : Nat
 c : Nat
def czE (y : Cz) : Array Value := #[.agg #[.int .i64 y.d, .int .i64 y.id, .slice y.A y.k y.c]]
def CzR (L : Lk) (y : Cz) (W : World) : Prop := ChoiceR L y.d y.id y.s ∧ y.k = y.s.length ∧ y.k ≤ y.c ∧ y.c ≤ maxLen ∧ Fes W W.heap.size y.A y.s
theorem way_at0 (x0 x1 x2 x3 x4 x5 : Value) (W : World) : (Instr.index 80 (.agg #[x0, x1, x2, x3, x4, x5]) (.int .i64 0)).run Tryz.prog W = .ok (.agg #[x0, x1]) W := by kernel_rfl
theorem way_at1 (x0 x1 x2 x3 x4 x5 : Value) (W : World) : (Instr.index 80 (.agg #[x0, x1, x2, x3, x4, x5]) (.int .i64 1)).run Tryz.prog W = .ok (.agg #[x2, x3]) W := by kernel_rfl
theorem way_at2 (x0 x1 x2 x3 x4 x5 : Value) (W : World) : (Instr.index 80 (.agg #[x0, x1, x2, x3, x4, x5]) (.int .i64 2)).run Tryz.prog W = .ok (.agg #[x4, x5]) W := by kernel_rfl
set_option maxHeartbeats 8000000 in
theorem chs_in (n : Nat) (hn : 1 ≤ n) (L : Lk) (n1 n2 n3 n4 n5 a b : Nat) (w0 : World) (hns : n1 = L.lv.length ∧ n2 = L.lf.length ∧ n3 = L.le.length ∧ n4 = L.lw.length ∧ n5 = L.lr.length) (h : LkIn w0 w0.heap.size L) (hW : LkW L) (hF : WkF L) (hT : Tab w0)
  (ba : w0.heap[a]? = some (.cells #[.int .i64 1, .func (.func 24) #[] #[], .int .i64 2, .func (.func 25) #[] #[], .int .i64 3, .func (.func 26) #[] #[]] 80 (0, 0))) (bb : w0.heap[b]? = some (.cells #[.int .i64 L.now, .int .i64 L.hd, .int .i64 L.pr, .int .i64 L.to, .slice L.A1 n1 L.c1, .slice L.A2 n2 L.c2, .slice L.A3 n3 L.c3, .slice L.A4 n4 L.c4, .slice L.A5 n5 L.c5] 28 (0, 0))) :
  SeqFirst Fence.wide n Tryz.prog 27 #[.pointer (some ⟨a, 0, none⟩), .pointer (some ⟨b, 0, none⟩)] czE (CzR L) (fun _ => HeadN L ∧ FillN L) w0 := by
 intro l J W hbW hY;obtain ⟨hn1, hn2, hn3, hn4, hn5⟩ := hns;have hHd := Hq (fun W (hk : Below w0.heap.size w0 W) => show Calls Tryz.prog 24 #[.agg #[.int .i64 L.now, .int .i64 L.hd, .int .i64 L.pr, .int .i64 L.to, .slice L.A1 n1 L.c1, .slice L.A2 n2 L.c2, .slice L.A3 n3 L.c3, .slice L.A4 n4 L.c4, .slice L.A5 n5 L.c5]] W (fun e w' => WayR (HeadY L) (HeadN L) w' e ∧ Below W.heap.size W w') from by
  have h9 := whead_any L W (h.keep hk hk.size) hW hF.f (hT.below hk hT.size);unfold lkV lkA at h9;rw [← hn1, ← hn2, ← hn3, ← hn4, ← hn5] at h9;exact h9)
 have hFd := Hq (fun W (hk : Below w0.heap.size w0 W) => show Calls Tryz.prog 25 #[.agg #[.int .i64 L.now, .int .i64 L.hd, .int .i64 L.pr, .int .i64 L.to, .slice L.A1 n1 L.c1, .slice L.A2 n2 L.c2, .slice L.A3 n3 L.c3, .slice L.A4 n4 L.c4, .slice L.A5 n5 L.c5]] W (fun e w' => WayR (FillY L) (FillN L) w' e ∧ Below W.heap.size W w') from by
  have h9 := wfill_any L W (h.keep hk hk.size) hW hF (hT.below hk hT.size);unfold lkV lkA at h9;rw [← hn1, ← hn2, ← hn3, ← hn4, ← hn5] at h9;exact h9)
 have hGd := Hq (fun W (hk : Below w0.heap.size w0 W) => show Calls Tryz.prog 26 #[.agg #[.int .i64 L.now, .int .i64 L.hd, .int .i64 L.pr, .int .i64 L.to, .slice L.A1 n1 L.c1, .slice L.A2 n2 L.c2, .slice L.A3 n3 L.c3, .slice L.A4 n4 L.c4, .slice L.A5 n5 L.c5]] W (fun e w' => WayR (GrowY L) True w' e ∧ Below W.heap.size W w') from by
  have h9 := wgrow_any L W (h.keep hk hk.size) hW hF.f (hT.below hk hT.size);unfold lkV lkA at h9;rw [← hn1, ← hn2, ← hn3, ← hn4, ← hn5] at h9;exact h9)
 have HB0 := Hq hbW;have HY := Hq hY;have hW0 := hbW.size;have la : a < W.heap.size := Nat.lt_of_lt_of_le (blk_lt ba) hW0;have lb : b < W.heap.size := Nat.lt_of_lt_of_le (blk_lt bb) hW0;have BA := Hq ((hbW.block _ (blk_lt ba)).trans ba);have BB := Hq ((hbW.block _ (blk_lt bb)).trans bb);have HBW := Hq (Below.refl W.heap.size W);have HI0 : Hid (((0 : Int) < 0 → HeadN L) ∧ ((1 : Int) < 0 → FillN L)) := Hq ⟨fun h => by omega, fun h => by omega⟩;clear hn1 hn2 hn3 hn4 hn5 h hW hF hT ba bb hbW hY;refine callsIn_of_wp Tryz.func27 rfl trivial ?_ rfl;simp only [Tryz.ntmps27, List.size_toArray, List.length_cons, List.length_nil, Nat.reduceAdd, Nat.reduceSub, Array.replicate_succ, Array.replicate_zero, List.push_toArray, List.append_toArray, List.nil_append, List.cons_append];obtain ⟨a0, a1, a2, a3, a4, a5⟩ := cells6 BA.out
 gi_wp2
 gi_loopw [10] (fun p wr => ∃ k : Int, p = .int .i64 k ∧ 0 ≤ k ∧ k ≤ 3 ∧ Hid (Below W.heap.size W wr) ∧ Hid ((0 < k → HeadN L) ∧ (1 < k → FillN L))) (fun p _ => 3 - intN p)
 case atStart =>
  exact ⟨0, rfl, by omega, by omega, HBW, HI0⟩
 case round =>
  clear HBW HI0 a0 a1 a2 a3 a4 a5;obtain ⟨k, rfl, hk0, hk3, hB, hI⟩ := hrel;have hzw := hB.out.size;have la2 : a < wr.heap.size := by omega
  have lb2 : b < wr.heap.size := by omega
  have B_l : Hid (wr.heap[b]? = some (.cells #[.int .i64 L.now, .int .i64 L.hd, .int .i64 L.pr, .int .i64 L.to, .slice L.A1 n1 L.c1, .slice L.A2 n2 L.c2, .slice L.A3 n3 L.c3, .slice L.A4 n4 L.c4, .slice L.A5 n5 L.c5] 28 (0, 0))) := Hq ((hB.out.block _ lb).trans BB.out);have HBel := Hq (Below.refl wr.heap.size wr);have hlow : wr.heap.size ≤ wr.heap.size := Nat.le_refl _;obtain rfl | rfl | rfl | rfl : k = 0 ∨ k = 1 ∨ k = 2 ∨ k = 3 := by omega
  ·have hix := way_at0 (.int .i64 1) (.func (.func 24) #[] #[]) (.int .i64 2) (.func (.func 25) #[] #[]) (.int .i64 3) (.func (.func 26) #[] #[]);have l_l := lb2;obtain ⟨l0, l1, l2, l3, l4, l5, l6, l7, l8⟩ := cells9 B_l.out;have l_l_0 : b < wr.heap.size + 1 := by omega
   gi_wp2_with fail
   clear l0 l1 l2 l3 l4 l5 l6 l7 l8 l_l_0;obtain ⟨V1, hV1⟩ := nx (wr.alloc (.cells #[.int .i64 1, .func (.func 24) #[] #[]] 79));rw [← hV1];have hzV1 := sz1 hV1;replace HBel := be1 hV1 HBel hlow;replace B_l := bk1 hV1 B_l l_l;have B_y := Hq (new10 hV1);obtain ⟨N_y, hN_y⟩ := nx (wr.heap.size);(try rw [← hN_y]);rw [← hN_y] at B_y;have d_l_y : b < N_y := (by omega);replace l_l : b < V1.heap.size := (by omega);have l_y : N_y < V1.heap.size := (by omega);have g_y : wr.heap.size ≤ N_y := (by omega);replace hlow : wr.heap.size ≤ V1.heap.size := (by omega);clear hV1 hzV1 hN_y;clear hix;refine ⟨trivial, ?_⟩;refine (callsIn_wide.2 (hHd.out V1 ((HB0.out.trans (hB.out.mono hW0)).trans (HBel.out.mono (by omega))))).mono ?_;rintro e U2 ⟨hw, hb9⟩;have hs9 := hb9.size;replace HBel := bt9 HBel hb9 hlow;replace B_l := bb9 hb9 B_l l_l;replace B_y := bb9 hb9 B_y l_y;replace l_l : b < U2.heap.size := (by omega);replace l_y : N_y < U2.heap.size := (by omega);replace hlow : wr.heap.size ≤ U2.heap.size := (by omega);clear hb9 hs9;have HWB := Hq (show Below W.heap.size W U2 from hB.out.trans (HBel.out.mono hzw));rcases hw with ⟨id, sl, A, kk, c, rfl, hY9, hk1, hk2, hk3b, hfe⟩ | ⟨hN9, rfl⟩
   ·obtain ⟨fn, tmps, assign, body, hy, hR⟩ := HY.out ⟨1, id, sl, A, kk, c⟩ U2 HWB.out ⟨.inl ⟨rfl, hY9⟩, hk1, hk2, hk3b, hfe⟩;simp only [czE] at hy;clear hY9 hk1 hk2 hk3b hfe;obtain ⟨y0, y1⟩ := cells2 B_y.out
    gi_wp2
    refine hR.mono ?_;rintro e W3 ⟨rfl, hJ3⟩;have HJ3 := Hq hJ3;clear hJ3
    gi_wp2
    refine bodyPost_ret (results_none rfl _ _ _) rfl ?_;exact ⟨⟨_, rfl⟩, .inr HJ3.out⟩
   ·have HN : Hid (((0 : Int) < 1 → HeadN L) ∧ ((1 : Int) < 1 → FillN L)) := Hq ⟨fun _ => hN9, fun h => by omega⟩;clear hN9
    gi_wp2
    refine ⟨fun _ h => (by cases h), ?_⟩
    gi_wp2
    refine ⟨⟨1, rfl, by omega, by omega, HWB, HN⟩, ?_⟩;simp [intN]
  ·have hix := way_at1 (.int .i64 1) (.func (.func 24) #[] #[]) (.int .i64 2) (.func (.func 25) #[] #[]) (.int .i64 3) (.func (.func 26) #[] #[]);have l_l := lb2;obtain ⟨l0, l1, l2, l3, l4, l5, l6, l7, l8⟩ := cells9 B_l.out;have l_l_0 : b < wr.heap.size + 1 := by omega
   gi_wp2_with fail
   clear l0 l1 l2 l3 l4 l5 l6 l7 l8 l_l_0;obtain ⟨V1, hV1⟩ := nx (wr.alloc (.cells #[.int .i64 2, .func (.func 25) #[] #[]] 79));rw [← hV1];have hzV1 := sz1 hV1;replace HBel := be1 hV1 HBel hlow;replace B_l := bk1 hV1 B_l l_l;have B_y := Hq (new10 hV1);obtain ⟨N_y, hN_y⟩ := nx (wr.heap.size);(try rw [← hN_y]);rw [← hN_y] at B_y;have d_l_y : b < N_y := (by omega);replace l_l : b < V1.heap.size := (by omega);have l_y : N_y < V1.heap.size := (by omega);have g_y : wr.heap.size ≤ N_y := (by omega);replace hlow : wr.heap.size ≤ V1.heap.size := (by omega);clear hV1 hzV1 hN_y;clear hix;refine ⟨trivial, ?_⟩;refine (callsIn_wide.2 (hFd.out V1 ((HB0.out.trans (hB.out.mono hW0)).trans (HBel.out.mono (by omega))))).mono ?_;rintro e U2 ⟨hw, hb9⟩;have hs9 := hb9.size;replace HBel := bt9 HBel hb9 hlow;replace B_l := bb9 hb9 B_l l_l;replace B_y := bb9 hb9 B_y l_y;replace l_l : b < U2.heap.size := (by omega);replace l_y : N_y < U2.heap.size := (by omega);replace hlow : wr.heap.size ≤ U2.heap.size := (by omega);clear hb9 hs9;have HWB := Hq (show Below W.heap.size W U2 from hB.out.trans (HBel.out.mono hzw));rcases hw with ⟨id, sl, A, kk, c, rfl, hY9, hk1, hk2, hk3b, hfe⟩ | ⟨hN9, rfl⟩
   ·obtain ⟨fn, tmps, assign, body, hy, hR⟩ := HY.out ⟨2, id, sl, A, kk, c⟩ U2 HWB.out ⟨.inr ⟨hI.out.1 (by omega), .inl ⟨rfl, hY9⟩⟩, hk1, hk2, hk3b, hfe⟩;simp only [czE] at hy;clear hY9 hk1 hk2 hk3b hfe;obtain ⟨y0, y1⟩ := cells2 B_y.out
    gi_wp2
    refine hR.mono ?_;rintro e W3 ⟨rfl, hJ3⟩;have HJ3 := Hq hJ3;clear hJ3
    gi_wp2
    refine bodyPost_ret (results_none rfl _ _ _) rfl ?_;exact ⟨⟨_, rfl⟩, .inr HJ3.out⟩
   ·have HN : Hid (((0 : Int) < 2 → HeadN L) ∧ ((1 : Int) < 2 → FillN L)) := Hq ⟨fun _ => hI.out.1 (by omega), fun _ => hN9⟩;clear hN9
    gi_wp2
    refine ⟨fun _ h => (by cases h), ?_⟩
    gi_wp2
    refine ⟨⟨2, rfl, by omega, by omega, HWB, HN⟩, ?_⟩;simp [intN]
  ·have hix := way_at2 (.int .i64 1) (.func (.func 24) #[] #[]) (.int .i64 2) (.func (.func 25) #[] #[]) (.int .i64 3) (.func (.func 26) #[] #[]);have l_l := lb2;obtain ⟨l0, l1, l2, l3, l4, l5, l6, l7, l8⟩ := cells9 B_l.out;have l_l_0 : b < wr.heap.size + 1 := by omega
   gi_wp2_with fail
   clear l0 l1 l2 l3 l4 l5 l6 l7 l8 l_l_0;obtain ⟨V1, hV1⟩ := nx (wr.alloc (.cells #[.int .i64 3, .func (.func 26) #[] #[]] 79));rw [← hV1];have hzV1 := sz1 hV1;replace HBel := be1 hV1 HBel hlow;replace B_l := bk1 hV1 B_l l_l;have B_y := Hq (new10 hV1);obtain ⟨N_y, hN_y⟩ := nx (wr.heap.size);(try rw [← hN_y]);rw [← hN_y] at B_y;have d_l_y : b < N_y := (by omega);replace l_l : b < V1.heap.size := (by omega);have l_y : N_y < V1.heap.size := (by omega);have g_y : wr.heap.size ≤ N_y := (by omega);replace hlow : wr.heap.size ≤ V1.heap.size := (by omega);clear hV1 hzV1 hN_y;clear hix;refine ⟨trivial, ?_⟩;refine (callsIn_wide.2 (hGd.out V1 ((HB0.out.trans (hB.out.mono hW0)).trans (HBel.out.mono (by omega))))).mono ?_;rintro e U2 ⟨hw, hb9⟩;have hs9 := hb9.size;replace HBel := bt9 HBel hb9 hlow;replace B_l := bb9 hb9 B_l l_l;replace B_y := bb9 hb9 B_y l_y;replace l_l : b < U2.heap.size := (by omega);replace l_y : N_y < U2.heap.size := (by omega);replace hlow : wr.heap.size ≤ U2.heap.size := (by omega);clear hb9 hs9;have HWB := Hq (show Below W.heap.size W U2 from hB.out.trans (HBel.out.mono hzw));rcases hw with ⟨id, sl, A, kk, c, rfl, hY9, hk1, hk2, hk3b, hfe⟩ | ⟨hN9, rfl⟩
   ·obtain ⟨fn, tmps, assign, body, hy, hR⟩ := HY.out ⟨3, id, sl, A, kk, c⟩ U2 HWB.out ⟨.inr ⟨hI.out.1 (by omega), .inr ⟨hI.out.2 (by omega), .inl ⟨rfl, hY9⟩⟩⟩, hk1, hk2, hk3b, hfe⟩;simp only [czE] at hy;clear hY9 hk1 hk2 hk3b hfe;obtain ⟨y0, y1⟩ := cells2 B_y.out
    gi_wp2
    refine hR.mono ?_;rintro e W3 ⟨rfl, hJ3⟩;have HJ3 := Hq hJ3;clear hJ3
    gi_wp2
    refine bodyPost_ret (results_none rfl _ _ _) rfl ?_;exact ⟨⟨_, rfl⟩, .inr HJ3.out⟩
   ·have HN : Hid (((0 : Int) < 3 → HeadN L) ∧ ((1 : Int) < 3 → FillN L)) := Hq ⟨fun _ => hI.out.1 (by omega), fun _ => hI.out.2 (by omega)⟩;clear hN9
    gi_wp2
    refine ⟨fun _ h => (by cases h), ?_⟩
    gi_wp2
    refine ⟨⟨3, rfl, by omega, by omega, HWB, HN⟩, ?_⟩;simp [intN]
  ·have HE := Hq (show HeadN L ∧ FillN L from ⟨hI.out.1 (by omega), hI.out.2 (by omega)⟩)
   gi_wp2
   go_end0
   exact ⟨⟨_, rfl⟩, .inl ⟨hB.out, HE.out⟩⟩
end
set_option linter.unusedVariables false
set_option maxRecDepth 100000
section
open Go.RowKit Go.Shelf
open PR
attribute [local go_sem] Oper.semAt_some
def ChooseJ (L : Lk) (w' : World) (e : Ending) : Prop :=
 ∃ d id s A k c, e = .returned (.agg #[.int .i64 d, .int .i64 id, .slice A k c]) ∧ ChoiceR L d id s ∧ k = s.length ∧ k ≤ c ∧ c ≤ maxLen ∧ Fes w' w'.heap.size A s
theorem results_ch {fn : Func} {p : Tmp} (h : fn.results = #[.cell p 39]) (tmps : Array Value) (w : World) (g : Nat) (x y z : Value) (hp : tmps.getD p undef = .pointer (some ⟨g, 0, none⟩)) (h0 : w.cell? ⟨g, 0, none⟩ = some x) (h1 : w.cell? ⟨g, 1, none⟩ = some y) (h2 : w.cell? ⟨g, 2, none⟩ = some z) :
  (results fn tmps).run Tryz.prog w = .ok (.agg #[x, y, z]) w := by
 have hp' : tmps[p]?.getD undef = .pointer (some ⟨g, 0, none⟩) := by simpa using hp
 have ha : (isAgg 39).run Tryz.prog w = .ok true w := by
  unfold isAgg;rw [Sem.run_bind, run_underlying Tryz.underlying39 w]
  simp
 simp [results, h, hp', asAddr, loadVar, ha, Tryz.sizeOf39, h0, h1, h2, go_sem]
theorem put_other {W : World} {l b : Nat} {o o' : Obj} {cs : Array Value} {t : TypeId} {z : Nat × Nat} (hl : W.heap[l]? = some o) (ho : o.isCells = false) (h : W.heap[b]? = some (.cells cs t z)) : (W.putObj l o').heap[b]? = some (.cells cs t z) := by
 rw [World.putObj_heap_other (fun e => by rw [e, hl] at h; injection h with h; rw [h] at ho; cases ho)];exact h
theorem CzR.put {L : Lk} {y : Cz} {W : World} {l : Nat} {o o' : Obj} (hl : W.heap[l]? = some o) (ho : o.isCells = false) (h : CzR L y W) : CzR L y (W.putObj l o') :=
 ⟨h.1, h.2.1, h.2.2.1, h.2.2.2.1, fes_grown h.2.2.2.2 (grownBy_putObj' W l o') (fun r e => by cases e; exact ⟨o, hl, ho⟩)⟩
theorem CzR.keep {L : Lk} {y : Cz} {W W' : World} (hk : Below W.heap.size W W') (h : CzR L y W) : CzR L y W' := ⟨h.1, h.2.1, h.2.2.1, h.2.2.2.1, h.2.2.2.2.keep hk hk.size⟩
theorem not_fe_ch {w : World} {p o : Nat} {a b : Int} {A : Option Addr} {k c : Nat} {ty : TypeId} {z : Nat × Nat} (h : w.heap[p]? = some (.cells #[.int .i64 a, .int .i64 b, .slice A k c] ty z)) (f : Fe) : ¬ FeAt w p o f := fun hf => by
 obtain ⟨_, _, h2, h3⟩ := hf;have hz : ∀ i : Nat, 3 ≤ i → w.cell? ⟨p, i, none⟩ = none := fun i hi => by
  unfold World.cell?;simp only;rw [h]
  simp
  omega
 rw [hz (o + 3) (by omega)] at h3
 cases h3
end
set_option linter.unusedVariables false
set_option maxRecDepth 100000
section
open Go.RowKit Go.Shelf
open PR
attribute [local go_sem] Oper.semAt_some
def ChMid (L : Lk) (M : Nat) (w : World) (T : Nat → Cz → Act) (y : Cz) (b : Act) (W : World) : Prop :=
 ∃ C, b = T C y ∧ M + 4 ≤ C ∧ W.heap[C]? = some (.cells #[.int .i64 y.d, .int .i64 y.id, .slice y.A y.k y.c] 39 (0, 0)) ∧ CzR L y W ∧ W.heap[M + 1]? = some (.cells #[.int .i64 0, .int .i64 0, .slice none 0 0] 39 (0, 0)) ∧ Below M w W
def ChEnd (L : Lk) (M : Nat) (w : World) (W : World) : Prop :=
 ∃ y, CzR L y W ∧ W.heap[M + 1]? = some (.cells #[.int .i64 y.d, .int .i64 y.id, .slice y.A y.k y.c] 39 (0, 0)) ∧ Below M w W
set_option maxRecDepth 100000 in
set_option maxHeartbeats 4000000 in
theorem choose_any (L : Lk) (w : World) (h : LkIn w w.heap.size L) (hW : LkW L) (hF : WkF L) (hT : Tab w) :
  Calls Tryz.prog 8 #[lkV L] w fun e w' => ChooseJ L w' e ∧ Below w.heap.size w w' := by
 obtain ⟨n1, hn1⟩ := nx (L.lv.length);obtain ⟨n2, hn2⟩ := nx (L.lf.length);obtain ⟨n3, hn3⟩ := nx (L.le.length);obtain ⟨n4, hn4⟩ := nx (L.lw.length);obtain ⟨n5, hn5⟩ := nx (L.lr.length);have hns : n1 = L.lv.length ∧ n2 = L.lf.length ∧ n3 = L.le.length ∧ n4 = L.lw.length ∧ n5 = L.lr.length := ⟨hn1, hn2, hn3, hn4, hn5⟩
 have HIN := Hq (Ai h (Ai hW (Ai hF (Ai hT hns))));unfold lkV lkA;rw [← hn1, ← hn2, ← hn3, ← hn4, ← hn5];clear hn1 hn2 hn3 hn4 hn5 h hW hF hT hns;have h1 : (1 : Nat) ≤ 8 := by omega
 have h1' : (1 : Nat) ≤ 8 - 1 := by omega
 have hfn : ∀ f, Fence.wide.fn f := fun _ => trivial
 refine (callsIn_wide (n := 8)).1 ?_;refine callsIn_of_wp_marks Tryz.func8 rfl trivial ?_ rfl;simp only [Tryz.ntmps8, List.size_toArray, List.length_cons, List.length_nil, Nat.reduceAdd, Nat.reduceSub, Array.replicate_succ, Array.replicate_zero, List.push_toArray, List.append_toArray, List.nil_append, List.cons_append]
 gi_wp2_with fail
 obtain ⟨w2, hw2⟩ := nx (((w.alloc (.cells #[.int .i64 L.now, .int .i64 L.hd, .int .i64 L.pr, .int .i64 L.to, .slice L.A1 n1 L.c1, .slice L.A2 n2 L.c2, .slice L.A3 n3 L.c3, .slice L.A4 n4 L.c4, .slice L.A5 n5 L.c5] 28)).alloc (.cells #[.int .i64 0, .int .i64 0, .slice none 0 0] 39)));rw [← hw2];obtain ⟨M, hM⟩ := nx (w.heap.size);have e0 : ∀ (W : World) (o : Obj), (W.alloc o).heap.size = W.heap.size + 1 := fun W o => by simp
 have z2 : w2.heap.size = M + 2 := by rw [hw2, hM, e0, e0]
 have hB2 : Below M w w2 := by rw [hw2, hM]; exact ((Below.refl w.heap.size w).alloc (Nat.le_refl _) _).alloc (by simp) _
 have bR : w2.heap[M + 1]? = some (.cells #[.int .i64 0, .int .i64 0, .slice none 0 0] 39 (0, 0)) := by
  have h9 := heap_alloc_new (w.alloc (.cells #[.int .i64 L.now, .int .i64 L.hd, .int .i64 L.pr, .int .i64 L.to, .slice L.A1 n1 L.c1, .slice L.A2 n2 L.c2, .slice L.A3 n3 L.c3, .slice L.A4 n4 L.c4, .slice L.A5 n5 L.c5] 28)) (.cells #[.int .i64 0, .int .i64 0, .slice none 0 0] 39);rw [e0, ← hM] at h9;rw [hw2]; exact h9
 rw [← hM];refine (callsIn_wide.2 (choices_any L n1 n2 n3 n4 n5 w2)).mono ?_;rintro e w3 ⟨rfl, z3, d0, d1, hb3⟩;rw [z2] at z3 d0 d1 hb3 ⊢;have bR3 : w3.heap[M + 1]? = _ := (hb3.block (M + 1) (by omega)).trans bR;have hB3 : Below M w w3 := hB2.trans (hb3.mono (by omega));have HM := Hq hM;have hMw : M ≤ w.heap.size := by omega
 have hk3 : Below w.heap.size w w3 := by rw [← hM]; exact hB3
 have hSeq : SeqFirst Fence.wide (8 - 1) Tryz.prog 27 #[.pointer (some ⟨M + 2 + 1, 0, none⟩), .pointer (some ⟨M + 2, 0, none⟩)] czE (CzR L) (fun _ => HeadN L ∧ FillN L) w3 :=
  chs_in (8 - 1) h1' L n1 n2 n3 n4 n5 (M + 2 + 1) (M + 2) w3 HIN.out.2.2.2.2 (HIN.out.1.keep hk3 hk3.size) HIN.out.2.1 HIN.out.2.2.1 (HIN.out.2.2.2.1.below hk3 HIN.out.2.2.2.1.size) d1 d0
 have z3' : w3.heap.size = M + 4 := by omega
 clear hw2 e0 bR hb3 hB2 z2 hM z3 d0 d1 hk3
 gi_wp2
 refine wpIn_rangeFunc_first rfl h1 (gf := 27) (lb := #[.pointer (some ⟨M + 2 + 1, 0, none⟩), .pointer (some ⟨M + 2, 0, none⟩)]) rfl trivial (enters_of Tryz.func27 (by kernel_rfl) rfl) (encs := czE) hSeq (fun _ => rfl)
  (ChMid L M w fun C y => { tmps := #[.agg #[.int .i64 L.now, .int .i64 L.hd, .int .i64 L.pr, .int .i64 L.to, .slice L.A1 n1 L.c1, .slice L.A2 n2 L.c2, .slice L.A3 n3 L.c3, .slice L.A4 n4 L.c4, .slice L.A5 n5 L.c5], .pointer (some ⟨M, 0, none⟩), .pointer (some ⟨M + 1, 0, none⟩), .pointer (some ⟨C, 0, none⟩), .agg #[.int .i64 L.now, .int .i64 L.hd, .int .i64 L.pr, .int .i64 L.to, .slice L.A1 n1 L.c1, .slice L.A2 n2 L.c2, .slice L.A3 n3 L.c3, .slice L.A4 n4 L.c4, .slice L.A5 n5 L.c5], .func (.func 27) #[] #[.pointer (some ⟨M + 2 + 1, 0, none⟩), .pointer (some ⟨M + 2, 0, none⟩)], .agg #[.int .i64 y.d, .int .i64 y.id, .slice y.A y.k y.c], undef, undef], defers := [] }) (ChEnd L M w) (fun _ _ _ _ _ _ _ h => h) ?midu ?endu ?assign ?body ?done ?stop
 case midu =>
  rintro y b W l o o' hl h1 h2 ⟨C, rfl, c1, c2, c3, c4, c5⟩;exact ⟨C, rfl, c1, put_other h1 h2 c2, c3.put h1 h2, put_other h1 h2 c4, below_put c5 (by omega)⟩
 case endu =>
  rintro W l o o' hl h1 h2 ⟨y, c3, c4, c5⟩;exact ⟨y, c3.put h1 h2, put_other h1 h2 c4, below_put c5 (by omega)⟩
 case assign =>
  intro l y W K hb hy hK;have hsz := hb.size;have hbR : W.heap[M + 1]? = _ := (hb.block (M + 1) (by omega)).trans bR3;have HK := Hq hK;have hB4 := hB3.trans (hb.mono (by omega));have HH := Hq (Ai hb (Ai hy (Ai hbR hB4)));clear hb hy hbR hB4 hK hSeq bR3 hB3;simp only [czE]
  gi_wp2
  refine HK.out _ _ ⟨W.heap.size, rfl, by omega, heap_alloc_new _ _, HH.out.2.1.keep ((Below.refl _ _).alloc (Nat.le_refl _) _), (Below.heap_alloc _ _ _ (by omega)).trans HH.out.2.2.1, HH.out.2.2.2.alloc (by omega) _⟩ (keeps_below ((Below.refl _ _).alloc (Nat.le_refl _) _))
 case body =>
  rintro l y b W ⟨C, rfl, c1, c2, c3, c4, c5⟩;have HH := Hq (Ai c1 (Ai c3 (Ai c4 c5)));obtain ⟨x0, x1, x2⟩ := cells3 c2;have r0 : W.cell? ⟨M + 1, 0, none⟩ = some (.int .i64 0) := cell_blk (i := 0) c4 rfl;have r1 : W.cell? ⟨M + 1, 1, none⟩ = some (.int .i64 0) := cell_blk (i := 1) c4 rfl;have r2 : W.cell? ⟨M + 1, 2, none⟩ = some (.slice none 0 0) := cell_blk (i := 2) c4 rfl;have f0 : W.frozen? ⟨M + 1, 0, none⟩ = false := frozen_blk c4;have f1 : W.frozen? ⟨M + 1, 1, none⟩ = false := frozen_blk c4;have f2 : W.frozen? ⟨M + 1, 2, none⟩ = false := frozen_blk c4;have lR : M + 1 < W.heap.size := blk_lt c4;clear c1 c2 c3 c4 c5 hSeq bR3 hB3
  gi_wp2
  obtain ⟨c1, c3, c4, c5⟩ := HH.out;obtain ⟨W', hW'⟩ : ∃ W', W' = ((W.setCell ⟨M + 1, 0, none⟩ (.int .i64 y.d)).setCell ⟨M + 1, 1, none⟩ (.int .i64 y.id)).setCell ⟨M + 1, 2, none⟩ (.slice y.A y.k y.c) := ⟨_, rfl⟩
  rw [← hW'];have hb9 : W'.heap[M + 1]? = some (.cells #[.int .i64 y.d, .int .i64 y.id, .slice y.A y.k y.c] 39 (0, 0)) := by rw [hW']; exact blk_put (i := 2) _ (blk_put (i := 1) _ (blk_put (i := 0) _ c4))
  have hz9 : W'.heap.size = W.heap.size := by rw [hW']; simp
  have ho : ∀ i, i ≠ M + 1 → W'.heap[i]? = W.heap[i]? := fun i hi => by rw [hW']; exact (Below.heap_setCell _ _ _ _ hi).trans ((Below.heap_setCell _ _ _ _ hi).trans (Below.heap_setCell _ _ _ _ hi))
  refine ⟨?_, y, ⟨c3.1, c3.2.1, c3.2.2.1, c3.2.2.2.1, ?_⟩, hb9, ?_⟩
  ·rw [hW']; exact ((KeepsOthers.setCell _ _ _).trans (KeepsOthers.setCell _ _ _)).trans (KeepsOthers.setCell _ _ _)
  ·obtain ⟨b5, hb5, hne, hall⟩ := fes_off c3.2.2.2.2 (fun b => b = M + 1) (fun b e o x hf => by subst e; exact not_fe_ch c4 x hf) M (by omega) (by omega);exact hall W' (ho b5 hne) (by omega)
  ·rw [hW']; exact ((c5.setCell (p := ⟨M + 1, 0, none⟩) (by show M ≤ M + 1; omega) _).setCell (p := ⟨M + 1, 1, none⟩) (by show M ≤ M + 1; omega) _).setCell (p := ⟨M + 1, 2, none⟩) (by show M ≤ M + 1; omega) _
 case done =>
  rintro D W hD hb ⟨hHN, hFN⟩ hK;have hsz := hb.size;have hbR : W.heap[M + 1]? = _ := (hb.block (M + 1) (by omega)).trans bR3;have hB4 := hB3.trans (hb.mono (by omega));have r0 : W.cell? ⟨M + 1, 0, none⟩ = some (.int .i64 0) := cell_blk (i := 0) hbR rfl;have r1 : W.cell? ⟨M + 1, 1, none⟩ = some (.int .i64 0) := cell_blk (i := 1) hbR rfl;have r2 : W.cell? ⟨M + 1, 2, none⟩ = some (.slice none 0 0) := cell_blk (i := 2) hbR rfl;have f0 : W.frozen? ⟨M + 1, 0, none⟩ = false := frozen_blk hbR;have f1 : W.frozen? ⟨M + 1, 1, none⟩ = false := frozen_blk hbR;have f2 : W.frozen? ⟨M + 1, 2, none⟩ = false := frozen_blk hbR;have H := Hq (Ai hHN (Ai hFN (Ai hbR hB4)));clear hHN hFN hb hbR hB4 hSeq bR3 hB3
  gi_wp2
  obtain ⟨hHN, hFN, hbR, hB⟩ := H.out;obtain ⟨Wf, hWf⟩ := nx (((W.setCell ⟨M + 1, 0, none⟩ (.int .i64 0)).setCell ⟨M + 1, 1, none⟩ (.int .i64 0)).setCell ⟨M + 1, 2, none⟩ (.slice none 0 0));rw [← hWf];have hK2 : Wf.heap[D]? = some (.deferred (some [])) := by rw [hWf]; exact (((KeepsOthers.setCell _ _ _).trans (KeepsOthers.setCell _ _ _)).trans (KeepsOthers.setCell _ _ _)).same D _ hK rfl
  have hb9 : Wf.heap[M + 1]? = some (.cells #[.int .i64 0, .int .i64 0, .slice none 0 0] 39 (0, 0)) := by rw [hWf]; exact blk_put (i := 2) _ (blk_put (i := 1) _ (blk_put (i := 0) _ hbR))
  have hBf : Below M w Wf := by rw [hWf]; exact ((hB.setCell (p := ⟨M + 1, 0, none⟩) (by show M ≤ M + 1; omega) _).setCell (p := ⟨M + 1, 1, none⟩) (by show M ≤ M + 1; omega) _).setCell (p := ⟨M + 1, 2, none⟩) (by show M ≤ M + 1; omega) _
  refine ⟨by simp, .inl ⟨_, _, rfl, run_takeDeferred hK2, ?_⟩⟩;have hg := grownBy_putObj' Wf D (.deferred none);have hrow : ∀ r, some D = some r → ∃ o : Obj, Wf.heap[r]? = some o ∧ o.isCells = false := fun r e => by cases e; exact ⟨_, hK2, rfl⟩
  have c0 := cell_kept (cell_blk (i := 0) hb9 rfl) hg hrow;have c1 := cell_kept (cell_blk (i := 1) hb9 rfl) hg hrow;have c2 := cell_kept (cell_blk (i := 2) hb9 rfl) hg hrow;refine ⟨.agg #[.int .i64 0, .int .i64 0, .slice none 0 0], results_ch Tryz.results8 _ _ (M + 1) _ _ _ rfl c0 c1 c2, ⟨0, 0, [], none, 0, 0, rfl, .inr ⟨hHN, .inr ⟨hFN, .inr ⟨rfl, rfl, rfl⟩⟩⟩, rfl, Nat.le_refl _, Nat.zero_le _, .inl rfl⟩, ?_⟩;have e := HM.out;rw [← e];exact hBf.trans (belowK_b (n₀ := M) (w := w) (by omega) _ D _ _ (by omega) hK2 rfl rfl)
 case stop =>
  rintro D W hD ⟨y, c3, hb9, hB⟩ hK;have H := Hq (Ai c3 (Ai hb9 hB));clear c3 hb9 hB hSeq bR3 hB3
  gi_wp2
  refine ⟨by simp, .inl ⟨_, _, rfl, run_takeDeferred hK, ?_⟩⟩;obtain ⟨c3, hb9, hB⟩ := H.out;have hg := grownBy_putObj' W D (.deferred none);have hrow : ∀ r, some D = some r → ∃ o : Obj, W.heap[r]? = some o ∧ o.isCells = false := fun r e => by cases e; exact ⟨_, hK, rfl⟩
  have c0 := cell_kept (cell_blk (i := 0) hb9 rfl) hg hrow;have c1 := cell_kept (cell_blk (i := 1) hb9 rfl) hg hrow;have c2 := cell_kept (cell_blk (i := 2) hb9 rfl) hg hrow;refine ⟨.agg #[.int .i64 y.d, .int .i64 y.id, .slice y.A y.k y.c], results_ch Tryz.results8 _ _ (M + 1) _ _ _ rfl c0 c1 c2, ⟨y.d, y.id, y.s, y.A, y.k, y.c, rfl, c3.1, c3.2.1, c3.2.2.1, c3.2.2.2.1, fes_grown c3.2.2.2.2 hg hrow⟩, ?_⟩;have e := HM.out;rw [← e];exact hB.trans (belowK_b (n₀ := M) (w := w) (by omega) _ D _ _ (by omega) hK rfl rfl)
end
end Go.Proofs.YtkkkhonjcbhelaaGreatDoor
