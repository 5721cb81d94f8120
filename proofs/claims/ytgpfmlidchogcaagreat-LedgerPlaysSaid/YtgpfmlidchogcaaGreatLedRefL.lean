/- The document's ledger: Release. -/
import Derived.Deep.RegionHeld3
import Derived.Laws.Tables
import Derived.Laws.Rows
import Derived.Test.YtgpfmlidchogcaaGreatLedRefK
set_option maxRecDepth 100000
set_option linter.unusedVariables false
namespace Go.Proofs.YtgpfmlidchogcaaGreat
open Go.RowKit

theorem run_load_hv {oi : Oper} {ρ : Operand → Value} {W : World} {y : Operand} {g o : Nat} {vs : List Value} (ho : oi.op = .load 44 y) (hy : ρ y = .pointer (some ⟨g, o, none⟩)) (hl5 : vs.length = 5) (h : CellsAt W g o vs) :
  (execOp ρ oi).run Tryz.prog W = .ok (.value (.agg vs.toArray)) W := by
 have hl : (loadCells ⟨g, o, none⟩ 5).run Tryz.prog W = .ok vs.toArray W := by
  rw [← hl5]
  exact run_loadCells_list (P := Tryz.prog) W ⟨g, o, none⟩ vs fun j v hv => by rw [Addr.add_lit]; exact h j v hv
 have ha : (isAgg 44).run Tryz.prog W = .ok true W := by
  unfold isAgg
  rw [Sem.run_bind, run_underlying Tryz.underlying44 W]
  simp
 unfold execOp
 simp only [ho, hy, Instr.loadAt, Instr.sureAddr, Sem.run_bind, Sem.run_pure, Result.andThen_ok, loadVar, ha, if_true, Tryz.sizeOf44, hl]
theorem wpList_load_hv {ops : Array Oper} {rest : List Oper} {o : Oper} {a : Act} {w : World} {Q : Exit → Act → World → Prop} (hgd : o.guard = none) (y : Operand) (ho : o.op = .load 44 y)
  (g off : Nat) (vs : List Value) (hl5 : vs.length = 5) (hy : a.eval y = .pointer (some ⟨g, off, none⟩)) (hx : CellsAt w g off vs) (h : wpList Tryz.prog ops Q rest (a.put o.dst (.agg vs.toArray)) w) : wpList Tryz.prog ops Q (o :: rest) a w := by
 refine wpList_plain hgd fun K hK => ?_
 unfold Oper.wp
 rw [run_load_hv ho hy hl5 hx]
 exact hK _ _ h
theorem foot_rowR {F : Nat → Prop} {w w' : World} {g : Nat} (h : Foot F w w') (hg : F g ∨ w.heap.size ≤ g) (cs : Array Value) : Foot F w (w'.setRow g cs) :=
 ⟨h.os, h.tape, h.output, by simp; exact h.size, fun i hi hn => (setRow_other w' g i cs (by rintro rfl; rcases hg with e | e; exact hn e; omega)).trans (h.block i hi hn)⟩
section
variable {w w' : World} {r : Nat} {D E : Nat → Prop} {fs : List Fr} {st st' : LS}
theorem RNext.mono (h : RNext w w' r E fs st') (hE : ∀ i, E i → D i) : RNext w w' r D fs st' := by
 obtain ⟨D1, h1, h2, h3⟩ := h
 exact ⟨D1, h1, h2.mono hE, fun i hi => (h3 i hi).imp (hE i) id⟩
theorem RNext.ahead {w1 : World} (hb : Below w.heap.size w w1) (h : RNext w1 w' r D fs st') : RNext w w' r D fs st' := by
 obtain ⟨D1, h1, h2, h3⟩ := h
 exact ⟨D1, h1, (Foot.of_below hb).trans h2 fun i hi => .inl hi, fun i hi => (h3 i hi).imp id fun x => ⟨Nat.le_trans hb.size x.1, x.2⟩⟩
set_option maxHeartbeats 4000000 in
theorem rrelease_l (id : Int) (h : RL w r D fs st) (hv : st.ver ≤ 90000) :
  Calls Tryz.prog 36 #[.pointer (some ⟨r, 0, none⟩), .int .i64 id] w fun e w' => (∃ A c, e = .returned (.tuple #[hdV (LM.release fs st id).1.1 (.slice A (LM.release fs st id).1.1.sl.length c), .int .i64 (LM.release fs st id).1.2]) ∧ Slots w' w'.heap.size A (LM.release fs st id).1.1.sl ∧ Off A (fun i => ¬ D i)) ∧ RNext w w' r D fs (LM.release fs st id).2 := by
 obtain ⟨E, hE, hED, hElt⟩ := h.tight
 obtain ⟨S, hSS⟩ : ∃ S, S = w.heap.size := ⟨_, rfl⟩
 obtain ⟨W0, hW0⟩ : ∃ W0, W0 = w.alloc (.cells #[.int .i64 0, .int .i64 0, .int .i64 0, .bool false, .slice none 0 0] 44) := ⟨_, rfl⟩
 have hB0 : Below w.heap.size w W0 := by rw [hW0]; exact (Below.refl w.heap.size w).alloc (Nat.le_refl _) _
 have hbk0 : W0.heap[S]? = some (.cells #[.int .i64 0, .int .i64 0, .int .i64 0, .bool false, .slice none 0 0] 44 (0, 0)) := by rw [hW0, hSS]; exact heap_alloc_new w _
 have hz0 : W0.heap.size = S + 1 := by rw [hW0, hSS]; simp
 have h0 := hE.keep hB0
 obtain ⟨q, al, tk, db, ra, a, b, A, c, L, h1, hD⟩ := h0
 have hL : L.length ≤ 100000 := by have := h1.ok.few; rw [← h1.hs, List.length_map] at this; omega
 have hFi := rfind_l id h1 hL
 have hc := LM.find_cases id st.hs
 obtain ⟨_, _, c2, _⟩ := h1.own
 have HW0 := Lib.hid hW0
 have HB0 := Lib.hid hB0
 unfold LM.release
 rcases hc with ⟨e1, e2⟩ | ⟨k, g, e1, e2, e3, e4⟩
 ·rw [e1] at hFi
  rw [e2]
  simp only
  have HFi := Lib.hid hFi
  obtain ⟨x0, x1, x2, x3, x4, xz0, xz1, xz2, xz3, xz4, lx⟩ := blk5 hbk0
  have HBK := Lib.hid hbk0
  have HE := Lib.hid (And.intro hE (And.intro hED (And.intro hElt hSS)))
  clear hFi e1 e2 h1 hD hL c2 hv hbk0 hW0 hB0 h hE hED hElt
  rw [hSS] at x0 x1 x2 x3 x4 xz0 xz1 xz2 xz3 xz4 lx
  go_enter Tryz.func36, Tryz.ntmps36
  go_wp2_with (first | (go_at_call 74; rw [← HW0.out]; refine HFi.out.mono ?_; rintro e w' ⟨rfl, rfl⟩))
  have hbk9 := set5_blk HBK.out (.int .i64 0) (.int .i64 0) (.int .i64 0) (.bool false) (.slice none 0 0)
  rw [hSS] at hbk9
  change bodyPost _ _ _ _ _ (set5 W0 w.heap.size (.int .i64 0) (.int .i64 0) (.int .i64 0) (.bool false) (.slice none 0 0))
  obtain ⟨W9, hW9⟩ : ∃ W9, W9 = set5 W0 w.heap.size (.int .i64 0) (.int .i64 0) (.int .i64 0) (.bool false) (.slice none 0 0) := ⟨_, rfl⟩
  rw [← hW9] at hbk9 ⊢
  obtain ⟨q0, q1, q2, q3, q4, _⟩ := blk5 hbk9
  have hB9 : Below w.heap.size w W9 := by rw [hW9]; exact below_set5 HB0.out (Nat.le_refl _) _ _ _ _ _
  clear x0 x1 x2 x3 x4 xz0 xz1 xz2 xz3 xz4 hW9
  refine bodyPost_ret (v := .tuple #[.agg #[.int .i64 0, .int .i64 0, .int .i64 0, .bool false, .slice none 0 0], .int .i64 3]) (by simp [results, Tryz.results36, go_sem, q0, q1, q2, q3, q4]) rfl ?_
  refine ⟨⟨none, 0, rfl, .inl rfl, fun _ _ e => by cases e⟩, ((RNext.same (HE.out.1.keep hB9)).ahead hB9).mono HE.out.2.1⟩
 ·rw [e1] at hFi
  rw [e4]
  simp only
  obtain ⟨x, G, hx, hxg, rfl, hG, hxc, hfz, hGr, hkL⟩ := h1.hold e2
  have hxm := List.mem_of_getElem? hx
  obtain ⟨N, hN⟩ : ∃ N, N = L.length := ⟨_, rfl⟩
  rw [← hN] at c2 hkL
  obtain ⟨xi, hxi⟩ : ∃ v, v = g.id := ⟨_, rfl⟩
  obtain ⟨xq, hxq⟩ : ∃ v, v = g.q := ⟨_, rfl⟩
  obtain ⟨xu, hxu⟩ : ∃ v, v = g.un := ⟨_, rfl⟩
  obtain ⟨xr, hxr⟩ : ∃ v, v = g.run := ⟨_, rfl⟩
  obtain ⟨xn, hxn⟩ : ∃ v, v = g.sl.length := ⟨_, rfl⟩
  obtain ⟨xA, hxA⟩ : ∃ v, v = x.A := ⟨_, rfl⟩
  obtain ⟨xc, hxcc⟩ : ∃ v, v = x.c := ⟨_, rfl⟩
  have hvs : hsC x = [.int .i64 xi, .int .i64 xq, .int .i64 xu, .bool xr, .slice xA xn xc] := by
   unfold hsC hsV; rw [hxg, hxi, hxq, hxu, hxr, hxn, hxA, hxcc]
  have hxc' : CellsAt W0 G (k * 5) (hsC x) := hxc
  rw [hvs] at hxc'
  have HC := Lib.hid hxc'
  have HFi := Lib.hid hFi
  have t0 : decide ((k : Int) < 0) = false := decide_eq_false (by omega)
  have j1 : (k : Int) < (N : Int) := by omega
  -- the box of the hold
  obtain ⟨W1, hW1⟩ : ∃ W1, W1 = W0.alloc (.cells #[.int .i64 xi, .int .i64 xq, .int .i64 xu, .bool xr, .slice xA xn xc] 44) := ⟨_, rfl⟩
  have hB1 : Below w.heap.size w W1 := by rw [hW1]; exact hB0.alloc (by omega) _
  have hbk1 : W1.heap[S]? = some (.cells #[.int .i64 0, .int .i64 0, .int .i64 0, .bool false, .slice none 0 0] 44 (0, 0)) := by rw [hW1]; exact (Below.heap_alloc _ _ _ (by omega)).trans hbk0
  have hbx1 : W1.heap[S + 1]? = some (.cells #[.int .i64 xi, .int .i64 xq, .int .i64 xu, .bool xr, .slice xA xn xc] 44 (0, 0)) := by rw [hW1, ← hz0]; exact heap_alloc_new W0 _
  have hz1 : W1.heap.size = S + 2 := by rw [hW1, World.size_alloc, hz0]
  have hb01 : Below W0.heap.size W0 W1 := by rw [hW1]; exact (Below.refl _ _).alloc (Nat.le_refl _) _
  have h11 := h1.keep hb01
  have hlt := rlet_at k g h11 e2 (by omega)
  have hsl := h11.sl x hxm
  rw [hxg, ← hxA] at hsl
  have hof : g.sl ≠ [] → Off xA (fun i => i = r ∨ i = q ∨ i = tk ∨ i = db ∨ i = b) := fun _ b' o e hb => (h11.off x hxm b' o (by rw [← hxA]; exact e)).1 (by rcases hb with rfl | rfl | rfl | rfl | rfl <;> simp)
  have hof2 : g.sl ≠ [] → Off xA (fun i => i = r ∨ i = S) := fun _ b' o e hb => by
   rcases hb with rfl | rfl
   ·exact (h11.off x hxm _ o (by rw [← hxA]; exact e)).1 (by simp)
   ·have := hElt b' (hD b' (.inr (.inr ⟨x, hxm, o, by rw [← hxA]; exact e⟩)))
    omega
  have HOf := Lib.hid (And.intro hof (And.intro hD hof2))
  have HLt := Lib.hid hlt
  have HW1 := Lib.hid hW1
  have HK := Lib.hid (And.intro hbk1 (And.intro hbx1 (And.intro hz1 hB1)))
  have HE := Lib.hid (And.intro hE (And.intro hED (And.intro hElt (And.intro hSS hv))))
  have HDx := Lib.hid (show Off xA (fun i => ¬ D i) from fun g o e hn => hn (hED g (hD g (.inr (.inr ⟨x, hxm, o, by rw [← hxA]; exact e⟩)))))
  have HV := Lib.hid (And.intro hxi (And.intro hxq (And.intro hxu (And.intro hxr (And.intro hxn (And.intro hxA hxcc))))))
  have HSl := Lib.hid hsl
  have hrS : r < S := by rw [hSS]; exact hElt r (hD r (.inl (by simp)))
  clear hFi e1 e2 e3 e4 h1 hD hL hv hbk0 hW0 hB0 h hE hED hElt hx hxg hxc hfz hkL hxm hN hxi hxq hxu hxr hxn hxA hxcc hvs hxc' hW1 hB1 hbk1 hbx1 hlt hsl hz1 hb01 h11 hof hof2
  go_enter Tryz.func36, Tryz.ntmps36
  go_wp2_with (first | (refine wpList_load_hv rfl _ rfl G (k * 5) _ rfl rfl HC.out ?_) | (go_at_call 74; rw [← HW0.out]; refine HFi.out.mono ?_; rintro e w' ⟨rfl, rfl⟩) | (go_at_call 78; rw [← HW1.out]; refine HLt.out.mono ?_; rintro e w2 ⟨rfl, q', tk', db', A', c', h2, hf2, y1, y2, y3, hA2⟩))
  obtain ⟨hbk1, hbx1, hz1, hB1⟩ := HK.out
  have hD8 : ∀ i, i ∈ [r, q, al, tk, db, ra, a, b] → i < S := fun i hi => by rw [hSS]; exact HE.out.2.2.1 i (HOf.out.2.1 i (.inl hi))
  have hFS : ∀ i, (i = r ∨ i = q ∨ i = tk ∨ i = db ∨ i = b) → i < S := fun i hi => hD8 i (by rcases hi with rfl | rfl | rfl | rfl | rfl <;> simp)
  have hs2 := hf2.size
  have HB2 := Lib.hid ((hf2.block S (by omega) fun e => by have := hFS S e; omega).trans hbk1)
  have hbx2 := (hf2.block (S + 1) (by omega) fun e => by have := hFS (S + 1) e; omega).trans hbx1
  have HS2 := Lib.hid (show CellsAt w2 (S + 1) 0 [.int .i64 xi, .int .i64 xq, .int .i64 xu, .bool xr, .slice xA xn xc] from fun i v hv => by
   obtain ⟨d0, d1, d2, d3, d4, _⟩ := blk5 hbx2
   rw [Nat.zero_add]
   match i, hv with
   | 0, hv => cases hv; exact d0
   | 1, hv => cases hv; exact d1
   | 2, hv => cases hv; exact d2
   | 3, hv => cases hv; exact d3
   | 4, hv => cases hv; exact d4
   | n + 5, hv => simp at hv)
  have HSl2 := Lib.hid (Slots.foot HSl.out hf2 HOf.out.1)
  have HF2 := Lib.hid (And.intro hf2 (And.intro y1 (And.intro y2 y3)))
  have HL2 := Lib.hid (show ¬ S = r ∧ ¬ S + 1 = r ∧ S + 1 < w2.heap.size from ⟨by omega, by omega, by omega⟩)
  have HDn := Lib.hid (rdone_l (w := w2.drew) 0 (h2.keep (Below.refl _ _).drew) (by show st.ver ≤ 1000000; have := HE.out.2.2.2.2; omega))
  have HHA := Lib.hid hA2
  clear h2 hf2 y1 y2 y3 hA2 hbk1 hbx1 hbx2 hz1 hB1
  clear hSS
  go_wp2_with fail
  rw [← HE.out.2.2.2.1]
  refine held_begin (fun w' : World => CellsAt w' (S + 1) 0 [.int .i64 xi, .int .i64 xq, .int .i64 xu, .bool xr, .slice xA xn xc]) (by kernel_rfl) ?_
  have hS0 : (fun w' : World => CellsAt w' (S + 1) 0 [.int .i64 xi, .int .i64 xq, .int .i64 xu, .bool xr, .slice xA xn xc]) w2.drew := HS2.out
  refine held_takeK (v := .agg #[.int .i64 xi, .int .i64 xq, .int .i64 xu, .bool xr, .slice xA xn xc]) 0 24 rfl rfl ⟨by rfl, ?_⟩ hS0 ?_
  ·intro w' x0; exact run_load_hv (by rfl) (by rfl) rfl x0
  try simp only [Act.put, pzA, pzB, pzC]
  refine held_takeK (v := ?_) 1 25 rfl rfl ⟨by rfl, ?_⟩ hS0 ?_
  rotate_left
  ·intro w' x0; go_simp; (try with_reducible rfl)
  try simp only [Act.put, pzA, pzB, pzC]
  refine held_one 2 rfl (by kernel_rfl) (by rfl) (fun K hK => ?_)
  go_simp
  go_at_call 76
  refine (HDn.out).mono ?_
  rintro e w3 ⟨rfl, h3, hf3⟩
  have hS3 : (fun w' : World => CellsAt w' (S + 1) 0 [.int .i64 xi, .int .i64 xq, .int .i64 xu, .bool xr, .slice xA xn xc]) w3 := HS2.out.of (hf3.block (S + 1) HL2.out.2.2 HL2.out.2.1)
  have hb3 : w3.heap[S]? = some (.cells #[.int .i64 0, .int .i64 0, .int .i64 0, .bool false, .slice none 0 0] 44 (0, 0)) := (hf3.block S (by have := HL2.out.2.2; show S < w2.heap.size; omega) HL2.out.1).trans HB2.out
  have H3 := Lib.hid h3
  have HF3 := Lib.hid hf3
  clear h3 hf3
  refine hK.out _ _ hS3 ?_
  clear hK K
  try simp only [Act.put, pzA, pzB, pzC]
  refine held_one 3 rfl (by kernel_rfl) (by rfl) (fun K hK => ?_)
  simp only [Go.wp_at_zero, Go.wp_at_succ]
  refine wp_store_row 44 _ _ rfl S #[.int .i64 xi, .int .i64 xq, .int .i64 xu, .bool xr, .slice xA xn xc] rfl rfl 44 #[.int .i64 0, .int .i64 0, .int .i64 0, .bool false, .slice none 0 0] hb3 (by kernel_rfl) rfl (by simp [Value.oneCell']) ?_
  obtain ⟨w4, hw4⟩ : ∃ W, W = w3.setRow S #[.int .i64 xi, .int .i64 xq, .int .i64 xu, .bool xr, .slice xA xn xc] := ⟨_, rfl⟩
  rw [← hw4]
  have hS4 : (fun w' : World => CellsAt w' (S + 1) 0 [.int .i64 xi, .int .i64 xq, .int .i64 xu, .bool xr, .slice xA xn xc]) w4 := hS3.of (by rw [hw4]; exact setRow_other _ _ _ _ (by omega))
  have hb4 : w4.heap[S]? = some (.cells #[.int .i64 xi, .int .i64 xq, .int .i64 xu, .bool xr, .slice xA xn xc] 44 (0, 0)) := by rw [hw4]; exact setRow_heap _ _ _ _ _ _ hb3
  have HW4 := Lib.hid hw4
  have HB4 := Lib.hid hb4
  refine hK.out _ _ hS4 ?_
  clear hK K hw4 hb3 hb4 hS3
  (try simp only [Act.put])
  try simp only [Act.put, pzA, pzB, pzC]
  refine held_takeK (v := ?_) 4 5 rfl rfl ⟨by rfl, ?_⟩ hS4 ?_
  rotate_left
  ·intro w' x0; go_simp; (try with_reducible rfl)
  try simp only [Act.put, pzA, pzB, pzC]
  refine wpAnyH_done (by kernel_rfl) ?_ _
  go_wp2
  obtain ⟨q0, q1, q2, q3, q4, _⟩ := blk5 HB4.out
  refine bodyPost_ret (v := .tuple #[.agg #[.int .i64 xi, .int .i64 xq, .int .i64 xu, .bool xr, .slice xA xn xc], .int .i64 0]) (by simp [results, Tryz.results36, go_sem, q0, q1, q2, q3, q4]) rfl ?_
  obtain ⟨v1, v2, v3, v4, v5, v6, v7⟩ := HV.out
  have hs3 := HF3.out.size
  have hs3 : w2.heap.size ≤ w3.heap.size := hs3
  have hF3 : Foot (· = r) w2 w3 := (Foot.refl _ w2).drew.trans HF3.out fun i hi => .inl hi
  have hs4 : w4.heap.size = w3.heap.size := by rw [HW4.out]; simp
  have hF4 : Foot (fun i => i = r ∨ i = S) w2 w4 := by
   rw [HW4.out]
   exact foot_rowR (hF3.mono fun i hi => .inl hi) (.inl (.inr rfl)) _
  have h3' : RLAt w3 r q' al tk' db' ra a b A' c' (L.take k ++ L.drop (k + 1)) fs (LM.up (LM.letGo fs st g)) := by
   have h9 := H3.out
   unfold LM.doneS at h9
   rw [if_pos rfl] at h9
   exact h9
  have hN3 : RNext W1 w3 r E fs (LM.up (LM.letGo fs st g)) := let_next HOf.out.2.1 h3' (HF2.out.1.trans hF3 fun i hi => .inl (.inl hi)) HF2.out.2.1 HF2.out.2.2.1 HF2.out.2.2.2 HHA.out
  obtain ⟨D1, k1, k2, k3⟩ := hN3
  obtain ⟨_, _, hz1, hB1⟩ := HK.out
  have hDS : ∀ i, D1 i → i ≠ S := fun i hi e => by
   rcases k3 i hi with e2 | e2
   ·have := HE.out.2.2.1 i e2; have := HE.out.2.2.2.1; omega
   ·omega
  refine ⟨⟨xA, ⟨xc, by unfold hdV; rw [v1, v2, v3, v4, v5]⟩, Slots.foot HSl2.out hF4 HOf.out.2.2, HDx.out⟩, ?_⟩
  have hfE : Foot E w w4 := by
   have h9 := (Foot.of_below (F := E) hB1).trans k2 fun i hi => .inl hi
   rw [HW4.out]
   exact foot_rowR h9 (.inr (by rw [HE.out.2.2.2.1]; exact Nat.le_refl _)) _
  refine RNext.mono ⟨D1, k1.stay (by omega) fun i hi hd => by rw [HW4.out]; exact setRow_other _ _ _ _ (hDS i hd), hfE, fun i hi => ?_⟩ HE.out.2.1
  rcases k3 i hi with e | e
  ·exact .inl e
  ·have := HE.out.2.2.2.1; exact .inr (by omega)
end
end Go.Proofs.YtgpfmlidchogcaaGreat
