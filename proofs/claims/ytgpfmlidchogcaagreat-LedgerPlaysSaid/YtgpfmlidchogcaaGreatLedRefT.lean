/- The document's Do: one call of its ledger. -/
import Derived.Test.YtgpfmlidchogcaaGreatLedDo
import Derived.Test.YtgpfmlidchogcaaGreatLedRefF
import Derived.Test.YtgpfmlidchogcaaGreatLedRefJ
import Derived.Test.YtgpfmlidchogcaaGreatLedRefK
import Derived.Test.YtgpfmlidchogcaaGreatLedRefO
import Derived.Test.YtgpfmlidchogcaaGreatLedRefP
import Derived.Test.YtgpfmlidchogcaaGreatLedRefS
import Derived.Test.YtgpfmlidchogcaaGreatKitZ
import Derived.Test.YtgpfmlidchogcaaGreatHeldPure
set_option maxRecDepth 100000
set_option linter.unusedVariables false
namespace Go.Proofs.YtgpfmlidchogcaaGreat
open Go.RowKit
def TlR (w : World) (v : Value) (t : Tl) : Prop := ∃ A1 c1 A2 c2, v = .agg (tlV t A1 c1 A2 c2) ∧ Els numC 1 w w.heap.size A1 t.ids ∧ Slots w w.heap.size A2 t.hold.sl
theorem rdo_close {w W0 w1 W9 : World} {p T R : Nat} {F F' : Nat → Prop} {fs : List Fr} {st : LS} (hB0 : Below w.heap.size w W0) (hT : w.heap.size ≤ T ∧ T < W0.heap.size) (hR : w.heap.size ≤ R ∧ R < W0.heap.size) (hF : ∀ i, F i → i < w.heap.size) (r1 : RL w1 p F' fs st)
  (r2 : Foot F W0 w1) (r3 : ∀ i, F' i → F i ∨ (W0.heap.size ≤ i ∧ i < w1.heap.size)) (f9 : Foot (fun i => i = T ∨ i = R) w1 W9) : RNext w W9 p F fs st := by
 have hs := hB0.size
 have hs2 := r2.size
 have hs9 := f9.size
 refine ⟨F', r1.stay f9.size (fun i hi hd => f9.block i hi fun e => ?_), ((Foot.of_below (F := F) hB0).trans r2 fun i hi => .inl hi).trans f9 fun i hi => .inr ?_, fun i hi => ?_⟩
 ·rcases r3 i hd with e1 | e1
  ·have := hF i e1; rcases e with e | e <;> omega
  ·rcases e with e | e <;> omega
 ·rcases hi with e | e <;> omega
 ·rcases r3 i hi with e1 | e1
  ·exact .inl e1
  ·exact .inr (by omega)
set_option maxHeartbeats 2000000 in
theorem rdo_commit {w : World} {p : Nat} {F : Nat → Prop} {fs : List Fr} {st : LS} (A : Option Addr) (c : Nat) (a : La) (h : RL w p F fs st) (hlt : ∀ i, F i → i < w.heap.size) (hver : st.ver ≤ 90000) (ha : LaOk a) (hl : Slots w w.heap.size A a.sl) (hA : a.sl ≠ [] → Off A F) (hk : a.k = 1) :
  Calls Tryz.prog 10 #[.pointer (some ⟨p, 0, none⟩), .agg (laC a A c).toArray] w fun e w' => ∃ v, e = .returned v ∧ TlR w' v (LM.act fs st a).1 ∧ RNext w w' p F fs (LM.act fs st a).2 := by
 obtain ⟨W0, hD⟩ := do0 w a A c
 have HF := Lib.hid hlt
 have h0 := h.keep hD.bel
 have hsz := hD.sz
 have HB0 := Lib.hid hD.bel
 have hl0 := Slots.keep hl hD.bel hD.bel.size
 have hM := rcommit_l a.id a.now a.un h0 (by omega) ha.un
 obtain ⟨R, hR⟩ : ∃ R, R = LM.commit st a.id a.now a.un := ⟨_, rfl⟩
 have hact : LM.act fs st a = (⟨R.1, [], LM.noSl, LM.noHd⟩, R.2) := by unfold LM.act; rw [hR]; rw [if_neg (by omega), if_pos hk]
 rw [← hR] at hM
 rw [hact]
 obtain ⟨r, hr⟩ : ∃ r, r = R.1 := ⟨_, rfl⟩
 rw [← hr] at hM ⊢
 have HM0 := Lib.hid hM
 clear hM hact hR hr
 have HD := Lib.hid hD
 have e0 := hD.eq
 obtain ⟨k, id, q, un, now, old, sl⟩ := a
 simp only [boxC, toldB, toldZ, laC] at e0
 simp only [laC]
 have HE := Lib.hid e0
 simp only at hk
 subst hk

 clear h hlt h0 hver ha hl hl0 hA hD e0
 go_enter Tryz.func10, Tryz.ntmps10
 go_wp2_with (go_at_call 32; rw [← HE.out]; refine HM0.out.mono ?_; rintro e w1 ⟨rfl, F1, m1, m2, m3⟩; have HM := Lib.hid (And.intro m1 (And.intro m2 m3)); have hR1 := (m2.block (w.heap.size + 1) (by omega) (fun e => by have := HF.out _ e; omega)).trans HD.out.b1; have hT1 := (m2.block (w.heap.size + 1 + 1) (by omega) (fun e => by have := HF.out _ e; omega)).trans HD.out.b2; obtain ⟨x0, x1, x2, x3, x4, x5, x6, x7, x8, x9, x10⟩ := blk11 hT1; obtain ⟨y0, y1, y2, y3, y4, y5, y6, y7, y8, y9, y10⟩ := blk11 hR1; have zt := frozen_blk (i := 0) hT1; have z0 := frozen_blk (i := 0) hR1; have z1 := frozen_blk (i := 1) hR1; have z2 := frozen_blk (i := 2) hR1; have z3 := frozen_blk (i := 3) hR1; have z4 := frozen_blk (i := 4) hR1; have z5 := frozen_blk (i := 5) hR1; have z6 := frozen_blk (i := 6) hR1; have z7 := frozen_blk (i := 7) hR1; have z8 := frozen_blk (i := 8) hR1; have z9 := frozen_blk (i := 9) hR1; have z10 := frozen_blk (i := 10) hR1; have HR1 := Lib.hid hR1; clear m1 m2 m3 hR1 hT1)
 obtain ⟨W9, hW9⟩ : ∃ W9, W9 = set11 (w1.setCell ⟨w.heap.size + 1 + 1, 0, none⟩ (.int .i64 r)) (w.heap.size + 1) (.int .i64 r) (.slice none 0 0) (.int .i64 0) (.int .i64 0) (.int .u64 0) (.int .i64 0) (.int .i64 0) (.int .i64 0) (.int .i64 0) (.bool false) (.slice none 0 0) := ⟨_, rfl⟩
 have f9 : Foot (fun i => i = w.heap.size + 1 + 1 ∨ i = w.heap.size + 1) w1 W9 := by
  rw [hW9]
  exact ((Foot.setCell (F := fun i => i = w.heap.size + 1 + 1 ∨ i = w.heap.size + 1) (p := ⟨w.heap.size + 1 + 1, 0, none⟩) (Foot.refl _ w1) (.inl (.inl rfl)) _)).trans ((set11_foot _ _ _ _ _ _ _ _ _ _ _ _ _).mono fun i (hi : i = w.heap.size + 1) => .inr hi) fun i hi => .inl hi
 have hbk9 : W9.heap[w.heap.size + 1]? = some (.cells #[.int .i64 r, .slice none 0 0, .int .i64 0, .int .i64 0, .int .u64 0, .int .i64 0, .int .i64 0, .int .i64 0, .int .i64 0, .bool false, .slice none 0 0] 46 (0, 0)) := by
  rw [hW9]
  exact set11_blk ((Below.heap_setCell _ _ _ _ (fun e => by simp at e)).trans HR1.out) _ _ _ _ _ _ _ _ _ _ _
 unfold set11 at hW9
 rw [← hW9]
 refine bodyPost_ret (results_cell_row rfl _ W9 (w.heap.size + 1) _ _ _ _ rfl hbk9 Tryz.underlying46 rfl told_size) rfl ?_
 have s9 := rdo_close HB0.out (T := w.heap.size + 1 + 1) (R := w.heap.size + 1) (by omega) (by omega) HF.out HM.out.1 HM.out.2.1 HM.out.2.2 f9
 exact ⟨_, rfl, ⟨none, 0, none, 0, rfl, .inl rfl, .inl rfl⟩, s9⟩
set_option maxHeartbeats 2000000 in
theorem rdo_undrain {w : World} {p : Nat} {F : Nat → Prop} {fs : List Fr} {st : LS} (A : Option Addr) (c : Nat) (a : La) (h : RL w p F fs st) (hlt : ∀ i, F i → i < w.heap.size) (hver : st.ver ≤ 90000) (ha : LaOk a) (hl : Slots w w.heap.size A a.sl) (hA : a.sl ≠ [] → Off A F) (hk : a.k ≠ 0 ∧ a.k ≠ 1 ∧ a.k ≠ 2 ∧ a.k ≠ 3 ∧ a.k ≠ 4 ∧ a.k ≠ 5 ∧ a.k ≠ 6) :
  Calls Tryz.prog 10 #[.pointer (some ⟨p, 0, none⟩), .agg (laC a A c).toArray] w fun e w' => ∃ v, e = .returned v ∧ TlR w' v (LM.act fs st a).1 ∧ RNext w w' p F fs (LM.act fs st a).2 := by
 obtain ⟨W0, hD⟩ := do0 w a A c
 have HF := Lib.hid hlt
 have h0 := h.keep hD.bel
 have hsz := hD.sz
 have HB0 := Lib.hid hD.bel
 have hl0 := Slots.keep hl hD.bel hD.bel.size
 have hM := rundrain_l a.id h0 (by omega)
 obtain ⟨R, hR⟩ : ∃ R, R = LM.undrain st a.id := ⟨_, rfl⟩
 have hact : LM.act fs st a = (⟨R.1, [], LM.noSl, LM.noHd⟩, R.2) := by unfold LM.act; rw [hR]; rw [if_neg hk.1, if_neg hk.2.1, if_neg hk.2.2.1, if_neg hk.2.2.2.1, if_neg hk.2.2.2.2.1, if_neg hk.2.2.2.2.2.1, if_neg hk.2.2.2.2.2.2]
 rw [← hR] at hM
 rw [hact]
 obtain ⟨r, hr⟩ : ∃ r, r = R.1 := ⟨_, rfl⟩
 rw [← hr] at hM ⊢
 have HM0 := Lib.hid hM
 clear hM hact hR hr
 have HD := Lib.hid hD
 have e0 := hD.eq
 obtain ⟨k, id, q, un, now, old, sl⟩ := a
 simp only [boxC, toldB, toldZ, laC] at e0
 simp only [laC]
 have HE := Lib.hid e0
 simp only at hk
 have t0 : (k == 0) = false := beq_eq_false_iff_ne.2 hk.1
 have t1 : (k == 1) = false := beq_eq_false_iff_ne.2 hk.2.1
 have t2 : (k == 2) = false := beq_eq_false_iff_ne.2 hk.2.2.1
 have t3 : (k == 3) = false := beq_eq_false_iff_ne.2 hk.2.2.2.1
 have t4 : (k == 4) = false := beq_eq_false_iff_ne.2 hk.2.2.2.2.1
 have t5 : (k == 5) = false := beq_eq_false_iff_ne.2 hk.2.2.2.2.2.1
 have t6 : (k == 6) = false := beq_eq_false_iff_ne.2 hk.2.2.2.2.2.2

 clear h hlt h0 hver ha hl hl0 hA hD e0
 go_enter Tryz.func10, Tryz.ntmps10
 go_wp2_with (go_at_call 39; rw [← HE.out]; refine HM0.out.mono ?_; rintro e w1 ⟨rfl, F1, m1, m2, m3⟩; have HM := Lib.hid (And.intro m1 (And.intro m2 m3)); have hR1 := (m2.block (w.heap.size + 1) (by omega) (fun e => by have := HF.out _ e; omega)).trans HD.out.b1; have hT1 := (m2.block (w.heap.size + 1 + 1) (by omega) (fun e => by have := HF.out _ e; omega)).trans HD.out.b2; obtain ⟨x0, x1, x2, x3, x4, x5, x6, x7, x8, x9, x10⟩ := blk11 hT1; obtain ⟨y0, y1, y2, y3, y4, y5, y6, y7, y8, y9, y10⟩ := blk11 hR1; have zt := frozen_blk (i := 0) hT1; have z0 := frozen_blk (i := 0) hR1; have z1 := frozen_blk (i := 1) hR1; have z2 := frozen_blk (i := 2) hR1; have z3 := frozen_blk (i := 3) hR1; have z4 := frozen_blk (i := 4) hR1; have z5 := frozen_blk (i := 5) hR1; have z6 := frozen_blk (i := 6) hR1; have z7 := frozen_blk (i := 7) hR1; have z8 := frozen_blk (i := 8) hR1; have z9 := frozen_blk (i := 9) hR1; have z10 := frozen_blk (i := 10) hR1; have HR1 := Lib.hid hR1; clear m1 m2 m3 hR1 hT1)
 obtain ⟨W9, hW9⟩ : ∃ W9, W9 = set11 (w1.setCell ⟨w.heap.size + 1 + 1, 0, none⟩ (.int .i64 r)) (w.heap.size + 1) (.int .i64 r) (.slice none 0 0) (.int .i64 0) (.int .i64 0) (.int .u64 0) (.int .i64 0) (.int .i64 0) (.int .i64 0) (.int .i64 0) (.bool false) (.slice none 0 0) := ⟨_, rfl⟩
 have f9 : Foot (fun i => i = w.heap.size + 1 + 1 ∨ i = w.heap.size + 1) w1 W9 := by
  rw [hW9]
  exact ((Foot.setCell (F := fun i => i = w.heap.size + 1 + 1 ∨ i = w.heap.size + 1) (p := ⟨w.heap.size + 1 + 1, 0, none⟩) (Foot.refl _ w1) (.inl (.inl rfl)) _)).trans ((set11_foot _ _ _ _ _ _ _ _ _ _ _ _ _).mono fun i (hi : i = w.heap.size + 1) => .inr hi) fun i hi => .inl hi
 have hbk9 : W9.heap[w.heap.size + 1]? = some (.cells #[.int .i64 r, .slice none 0 0, .int .i64 0, .int .i64 0, .int .u64 0, .int .i64 0, .int .i64 0, .int .i64 0, .int .i64 0, .bool false, .slice none 0 0] 46 (0, 0)) := by
  rw [hW9]
  exact set11_blk ((Below.heap_setCell _ _ _ _ (fun e => by simp at e)).trans HR1.out) _ _ _ _ _ _ _ _ _ _ _
 unfold set11 at hW9
 rw [← hW9]
 refine bodyPost_ret (results_cell_row rfl _ W9 (w.heap.size + 1) _ _ _ _ rfl hbk9 Tryz.underlying46 rfl told_size) rfl ?_
 have s9 := rdo_close HB0.out (T := w.heap.size + 1 + 1) (R := w.heap.size + 1) (by omega) (by omega) HF.out HM.out.1 HM.out.2.1 HM.out.2.2 f9
 exact ⟨_, rfl, ⟨none, 0, none, 0, rfl, .inl rfl, .inl rfl⟩, s9⟩
set_option maxHeartbeats 2000000 in
theorem rdo_shrink {w : World} {p : Nat} {F : Nat → Prop} {fs : List Fr} {st : LS} (A : Option Addr) (c : Nat) (a : La) (h : RL w p F fs st) (hlt : ∀ i, F i → i < w.heap.size) (hver : st.ver ≤ 90000) (ha : LaOk a) (hl : Slots w w.heap.size A a.sl) (hA : a.sl ≠ [] → Off A F) (hk : a.k = 3) :
  Calls Tryz.prog 10 #[.pointer (some ⟨p, 0, none⟩), .agg (laC a A c).toArray] w fun e w' => ∃ v, e = .returned v ∧ TlR w' v (LM.act fs st a).1 ∧ RNext w w' p F fs (LM.act fs st a).2 := by
 obtain ⟨W0, hD⟩ := do0 w a A c
 have HF := Lib.hid hlt
 have h0 := h.keep hD.bel
 have hsz := hD.sz
 have HB0 := Lib.hid hD.bel
 have hl0 := Slots.keep hl hD.bel hD.bel.size
 have hM := rshrink_l a.id h0 hver
 obtain ⟨⟨⟨⟨sn, sd, sm, sc⟩, r⟩, st2⟩, hR⟩ : ∃ R, R = LM.shrink fs st a.id := ⟨_, rfl⟩
 have hact : LM.act fs st a = (⟨r, [], ⟨sn, sd, sm, sc⟩, LM.noHd⟩, st2) := by unfold LM.act; rw [← hR]; rw [if_neg (by omega), if_neg (by omega), if_neg (by omega), if_pos hk]
 rw [← hR] at hM
 rw [hact]
 simp only [slV] at hM
 have HM0 := Lib.hid hM
 clear hM hact hR
 have HD := Lib.hid hD
 have e0 := hD.eq
 obtain ⟨k, id, q, un, now, old, sl⟩ := a
 simp only [boxC, toldB, toldZ, laC] at e0
 simp only [laC]
 have HE := Lib.hid e0
 simp only at hk
 subst hk

 clear h hlt h0 hver ha hl hl0 hA hD e0
 go_enter Tryz.func10, Tryz.ntmps10
 go_wp2_with (go_at_call 35; rw [← HE.out]; refine HM0.out.mono ?_; rintro e w1 ⟨rfl, F1, m1, m2, m3⟩; have HM := Lib.hid (And.intro m1 (And.intro m2 m3)); have hR1 := (m2.block (w.heap.size + 1) (by omega) (fun e => by have := HF.out _ e; omega)).trans HD.out.b1; have hT1 := (m2.block (w.heap.size + 1 + 1) (by omega) (fun e => by have := HF.out _ e; omega)).trans HD.out.b2; obtain ⟨x0, x1, x2, x3, x4, x5, x6, x7, x8, x9, x10⟩ := blk11 hT1; obtain ⟨y0, y1, y2, y3, y4, y5, y6, y7, y8, y9, y10⟩ := blk11 hR1; have zt0 := frozen_blk (i := 0) hT1; have zt2 := frozen_blk (i := 2) hT1; have zt3 := frozen_blk (i := 3) hT1; have zt4 := frozen_blk (i := 4) hT1; have zt5 := frozen_blk (i := 5) hT1; have z0 := frozen_blk (i := 0) hR1; have z1 := frozen_blk (i := 1) hR1; have z2 := frozen_blk (i := 2) hR1; have z3 := frozen_blk (i := 3) hR1; have z4 := frozen_blk (i := 4) hR1; have z5 := frozen_blk (i := 5) hR1; have z6 := frozen_blk (i := 6) hR1; have z7 := frozen_blk (i := 7) hR1; have z8 := frozen_blk (i := 8) hR1; have z9 := frozen_blk (i := 9) hR1; have z10 := frozen_blk (i := 10) hR1; have HR1 := Lib.hid hR1; clear m1 m2 m3 hR1 hT1)
 obtain ⟨W9, hW9⟩ : ∃ W9, W9 = set11 ((((((w1.setCell ⟨w.heap.size + 1 + 1, 2, none⟩ (.int .i64 sn)).setCell ⟨w.heap.size + 1 + 1, 3, none⟩ (.int .i64 sd)).setCell ⟨w.heap.size + 1 + 1, 4, none⟩ (.int .u64 (sm : Nat))).setCell ⟨w.heap.size + 1 + 1, 5, none⟩ (.int .i64 sc)).setCell ⟨w.heap.size + 1 + 1, 0, none⟩ (.int .i64 r))) (w.heap.size + 1) (.int .i64 r) (.slice none 0 0) (.int .i64 sn) (.int .i64 sd) (.int .u64 (sm : Nat)) (.int .i64 sc) (.int .i64 0) (.int .i64 0) (.int .i64 0) (.bool false) (.slice none 0 0) := ⟨_, rfl⟩
 have f9 : Foot (fun i => i = w.heap.size + 1 + 1 ∨ i = w.heap.size + 1) w1 W9 := by
  rw [hW9]
  exact ((Foot.setCell (F := fun i => i = w.heap.size + 1 + 1 ∨ i = w.heap.size + 1) (p := ⟨w.heap.size + 1 + 1, 0, none⟩) ((Foot.setCell (F := fun i => i = w.heap.size + 1 + 1 ∨ i = w.heap.size + 1) (p := ⟨w.heap.size + 1 + 1, 5, none⟩) ((Foot.setCell (F := fun i => i = w.heap.size + 1 + 1 ∨ i = w.heap.size + 1) (p := ⟨w.heap.size + 1 + 1, 4, none⟩) ((Foot.setCell (F := fun i => i = w.heap.size + 1 + 1 ∨ i = w.heap.size + 1) (p := ⟨w.heap.size + 1 + 1, 3, none⟩) ((Foot.setCell (F := fun i => i = w.heap.size + 1 + 1 ∨ i = w.heap.size + 1) (p := ⟨w.heap.size + 1 + 1, 2, none⟩) (Foot.refl _ w1) (.inl (.inl rfl)) _)) (.inl (.inl rfl)) _)) (.inl (.inl rfl)) _)) (.inl (.inl rfl)) _)) (.inl (.inl rfl)) _)).trans ((set11_foot _ _ _ _ _ _ _ _ _ _ _ _ _).mono fun i (hi : i = w.heap.size + 1) => .inr hi) fun i hi => .inl hi
 have hbk9 : W9.heap[w.heap.size + 1]? = some (.cells #[.int .i64 r, .slice none 0 0, .int .i64 sn, .int .i64 sd, .int .u64 (sm : Nat), .int .i64 sc, .int .i64 0, .int .i64 0, .int .i64 0, .bool false, .slice none 0 0] 46 (0, 0)) := by
  rw [hW9]
  exact set11_blk ((Below.heap_setCell _ _ _ _ (fun e => by simp at e)).trans ((Below.heap_setCell _ _ _ _ (fun e => by simp at e)).trans ((Below.heap_setCell _ _ _ _ (fun e => by simp at e)).trans ((Below.heap_setCell _ _ _ _ (fun e => by simp at e)).trans ((Below.heap_setCell _ _ _ _ (fun e => by simp at e)).trans (HR1.out)))))) _ _ _ _ _ _ _ _ _ _ _
 unfold set11 at hW9
 rw [← hW9]
 refine bodyPost_ret (results_cell_row rfl _ W9 (w.heap.size + 1) _ _ _ _ rfl hbk9 Tryz.underlying46 rfl told_size) rfl ?_
 have s9 := rdo_close HB0.out (T := w.heap.size + 1 + 1) (R := w.heap.size + 1) (by omega) (by omega) HF.out HM.out.1 HM.out.2.1 HM.out.2.2 f9
 exact ⟨_, rfl, ⟨none, 0, none, 0, rfl, .inl rfl, .inl rfl⟩, s9⟩
set_option maxHeartbeats 2000000 in
theorem rdo_release {w : World} {p : Nat} {F : Nat → Prop} {fs : List Fr} {st : LS} (A : Option Addr) (c : Nat) (a : La) (h : RL w p F fs st) (hlt : ∀ i, F i → i < w.heap.size) (hver : st.ver ≤ 90000) (ha : LaOk a) (hl : Slots w w.heap.size A a.sl) (hA : a.sl ≠ [] → Off A F) (hk : a.k = 4) :
  Calls Tryz.prog 10 #[.pointer (some ⟨p, 0, none⟩), .agg (laC a A c).toArray] w fun e w' => ∃ v, e = .returned v ∧ TlR w' v (LM.act fs st a).1 ∧ RNext w w' p F fs (LM.act fs st a).2 := by
 obtain ⟨W0, hD⟩ := do0 w a A c
 have HF := Lib.hid hlt
 have h0 := h.keep hD.bel
 have hsz := hD.sz
 have HB0 := Lib.hid hD.bel
 have hl0 := Slots.keep hl hD.bel hD.bel.size
 have hM := rrelease_l a.id h0 hver
 obtain ⟨⟨⟨⟨hi, hq, hu, hr, hsl⟩, r⟩, st2⟩, hR⟩ : ∃ R, R = LM.release fs st a.id := ⟨_, rfl⟩
 have hact : LM.act fs st a = (⟨r, [], LM.noSl, ⟨hi, hq, hu, hr, hsl⟩⟩, st2) := by unfold LM.act; rw [← hR]; rw [if_neg (by omega), if_neg (by omega), if_neg (by omega), if_neg (by omega), if_pos hk]
 rw [← hR] at hM
 rw [hact]
 simp only at hM
 have HM0 := Lib.hid hM
 clear hM hact hR
 have HD := Lib.hid hD
 have e0 := hD.eq
 obtain ⟨k, id, q, un, now, old, sl⟩ := a
 simp only [boxC, toldB, toldZ, laC] at e0
 simp only [laC]
 have HE := Lib.hid e0
 simp only at hk
 subst hk

 clear h hlt h0 hver ha hl hl0 hA hD e0
 go_enter Tryz.func10, Tryz.ntmps10
 go_wp2_with (go_at_call 36; rw [← HE.out]; refine HM0.out.mono ?_; rintro e w1 ⟨⟨A2, c2, rfl, m4, m5⟩, F1, m1, m2, m3⟩; have HM := Lib.hid (And.intro m1 (And.intro m2 m3)); have hR1 := (m2.block (w.heap.size + 1) (by omega) (fun e => by have := HF.out _ e; omega)).trans HD.out.b1; have hT1 := (m2.block (w.heap.size + 1 + 1) (by omega) (fun e => by have := HF.out _ e; omega)).trans HD.out.b2; obtain ⟨x0, x1, x2, x3, x4, x5, x6, x7, x8, x9, x10⟩ := blk11 hT1; obtain ⟨y0, y1, y2, y3, y4, y5, y6, y7, y8, y9, y10⟩ := blk11 hR1; have zt0 := frozen_blk (i := 0) hT1; have zt6 := frozen_blk (i := 6) hT1; have zt7 := frozen_blk (i := 7) hT1; have zt8 := frozen_blk (i := 8) hT1; have zt9 := frozen_blk (i := 9) hT1; have zt10 := frozen_blk (i := 10) hT1; have z0 := frozen_blk (i := 0) hR1; have z1 := frozen_blk (i := 1) hR1; have z2 := frozen_blk (i := 2) hR1; have z3 := frozen_blk (i := 3) hR1; have z4 := frozen_blk (i := 4) hR1; have z5 := frozen_blk (i := 5) hR1; have z6 := frozen_blk (i := 6) hR1; have z7 := frozen_blk (i := 7) hR1; have z8 := frozen_blk (i := 8) hR1; have z9 := frozen_blk (i := 9) hR1; have z10 := frozen_blk (i := 10) hR1; have HR1 := Lib.hid hR1; have HS := Lib.hid (And.intro m4 m5); clear m4 m5; simp only [hdV]; clear m1 m2 m3 hR1 hT1)
 obtain ⟨W9, hW9⟩ : ∃ W9, W9 = set11 (((((((w1.setCell ⟨w.heap.size + 1 + 1, 6, none⟩ (.int .i64 hi)).setCell ⟨w.heap.size + 1 + 1, 7, none⟩ (.int .i64 hq)).setCell ⟨w.heap.size + 1 + 1, 8, none⟩ (.int .i64 hu)).setCell ⟨w.heap.size + 1 + 1, 9, none⟩ (.bool hr)).setCell ⟨w.heap.size + 1 + 1, 10, none⟩ (.slice A2 hsl.length c2)).setCell ⟨w.heap.size + 1 + 1, 0, none⟩ (.int .i64 r))) (w.heap.size + 1) (.int .i64 r) (.slice none 0 0) (.int .i64 0) (.int .i64 0) (.int .u64 0) (.int .i64 0) (.int .i64 hi) (.int .i64 hq) (.int .i64 hu) (.bool hr) (.slice A2 hsl.length c2) := ⟨_, rfl⟩
 have f9 : Foot (fun i => i = w.heap.size + 1 + 1 ∨ i = w.heap.size + 1) w1 W9 := by
  rw [hW9]
  exact ((Foot.setCell (F := fun i => i = w.heap.size + 1 + 1 ∨ i = w.heap.size + 1) (p := ⟨w.heap.size + 1 + 1, 0, none⟩) ((Foot.setCell (F := fun i => i = w.heap.size + 1 + 1 ∨ i = w.heap.size + 1) (p := ⟨w.heap.size + 1 + 1, 10, none⟩) ((Foot.setCell (F := fun i => i = w.heap.size + 1 + 1 ∨ i = w.heap.size + 1) (p := ⟨w.heap.size + 1 + 1, 9, none⟩) ((Foot.setCell (F := fun i => i = w.heap.size + 1 + 1 ∨ i = w.heap.size + 1) (p := ⟨w.heap.size + 1 + 1, 8, none⟩) ((Foot.setCell (F := fun i => i = w.heap.size + 1 + 1 ∨ i = w.heap.size + 1) (p := ⟨w.heap.size + 1 + 1, 7, none⟩) ((Foot.setCell (F := fun i => i = w.heap.size + 1 + 1 ∨ i = w.heap.size + 1) (p := ⟨w.heap.size + 1 + 1, 6, none⟩) (Foot.refl _ w1) (.inl (.inl rfl)) _)) (.inl (.inl rfl)) _)) (.inl (.inl rfl)) _)) (.inl (.inl rfl)) _)) (.inl (.inl rfl)) _)) (.inl (.inl rfl)) _)).trans ((set11_foot _ _ _ _ _ _ _ _ _ _ _ _ _).mono fun i (hi : i = w.heap.size + 1) => .inr hi) fun i hi => .inl hi
 have hbk9 : W9.heap[w.heap.size + 1]? = some (.cells #[.int .i64 r, .slice none 0 0, .int .i64 0, .int .i64 0, .int .u64 0, .int .i64 0, .int .i64 hi, .int .i64 hq, .int .i64 hu, .bool hr, .slice A2 hsl.length c2] 46 (0, 0)) := by
  rw [hW9]
  exact set11_blk ((Below.heap_setCell _ _ _ _ (fun e => by simp at e)).trans ((Below.heap_setCell _ _ _ _ (fun e => by simp at e)).trans ((Below.heap_setCell _ _ _ _ (fun e => by simp at e)).trans ((Below.heap_setCell _ _ _ _ (fun e => by simp at e)).trans ((Below.heap_setCell _ _ _ _ (fun e => by simp at e)).trans ((Below.heap_setCell _ _ _ _ (fun e => by simp at e)).trans (HR1.out))))))) _ _ _ _ _ _ _ _ _ _ _
 unfold set11 at hW9
 rw [← hW9]
 refine bodyPost_ret (results_cell_row rfl _ W9 (w.heap.size + 1) _ _ _ _ rfl hbk9 Tryz.underlying46 rfl told_size) rfl ?_
 have s9 := rdo_close HB0.out (T := w.heap.size + 1 + 1) (R := w.heap.size + 1) (by omega) (by omega) HF.out HM.out.1 HM.out.2.1 HM.out.2.2 f9
 exact ⟨_, rfl, ⟨none, 0, A2, c2, rfl, .inl rfl, HS.out.1.foot f9 (fun hne b off e hf => HS.out.2 b off e fun hd => by have h1 := HF.out b hd; rcases hf with e2 | e2 <;> omega)⟩, s9⟩
set_option maxHeartbeats 2000000 in
theorem rdo_expire {w : World} {p : Nat} {F : Nat → Prop} {fs : List Fr} {st : LS} (A : Option Addr) (c : Nat) (a : La) (h : RL w p F fs st) (hlt : ∀ i, F i → i < w.heap.size) (hver : st.ver ≤ 90000) (ha : LaOk a) (hl : Slots w w.heap.size A a.sl) (hA : a.sl ≠ [] → Off A F) (hk : a.k = 5) :
  Calls Tryz.prog 10 #[.pointer (some ⟨p, 0, none⟩), .agg (laC a A c).toArray] w fun e w' => ∃ v, e = .returned v ∧ TlR w' v (LM.act fs st a).1 ∧ RNext w w' p F fs (LM.act fs st a).2 := by
 obtain ⟨W0, hD⟩ := do0 w a A c
 have HF := Lib.hid hlt
 have h0 := h.keep hD.bel
 have hsz := hD.sz
 have HB0 := Lib.hid hD.bel
 have hl0 := Slots.keep hl hD.bel hD.bel.size
 have hM := rexpire_l a.now h0 hver
 obtain ⟨⟨ids, st2⟩, hR⟩ : ∃ R, R = LM.expire fs st a.now := ⟨_, rfl⟩
 have hact : LM.act fs st a = (⟨0, ids, LM.noSl, LM.noHd⟩, st2) := by unfold LM.act; rw [← hR]; rw [if_neg (by omega), if_neg (by omega), if_neg (by omega), if_neg (by omega), if_neg (by omega), if_pos hk]
 rw [← hR] at hM
 rw [hact]
 simp only at hM
 have HM0 := Lib.hid hM
 clear hM hact hR
 have HD := Lib.hid hD
 have e0 := hD.eq
 obtain ⟨k, id, q, un, now, old, sl⟩ := a
 simp only [boxC, toldB, toldZ, laC] at e0
 simp only [laC]
 have HE := Lib.hid e0
 simp only at hk
 subst hk

 clear h hlt h0 hver ha hl hl0 hA hD e0
 go_enter Tryz.func10, Tryz.ntmps10
 go_wp2_with (go_at_call 37; rw [← HE.out]; refine HM0.out.mono ?_; rintro e w1 ⟨⟨A1, c1, rfl, m4⟩, F1, m1, m2, m3⟩; have HM := Lib.hid (And.intro m1 (And.intro m2 m3)); have hR1 := (m2.block (w.heap.size + 1) (by omega) (fun e => by have := HF.out _ e; omega)).trans HD.out.b1; have hT1 := (m2.block (w.heap.size + 1 + 1) (by omega) (fun e => by have := HF.out _ e; omega)).trans HD.out.b2; obtain ⟨x0, x1, x2, x3, x4, x5, x6, x7, x8, x9, x10⟩ := blk11 hT1; obtain ⟨y0, y1, y2, y3, y4, y5, y6, y7, y8, y9, y10⟩ := blk11 hR1; have zt0 := frozen_blk (i := 0) hT1; have zt1 := frozen_blk (i := 1) hT1; have z0 := frozen_blk (i := 0) hR1; have z1 := frozen_blk (i := 1) hR1; have z2 := frozen_blk (i := 2) hR1; have z3 := frozen_blk (i := 3) hR1; have z4 := frozen_blk (i := 4) hR1; have z5 := frozen_blk (i := 5) hR1; have z6 := frozen_blk (i := 6) hR1; have z7 := frozen_blk (i := 7) hR1; have z8 := frozen_blk (i := 8) hR1; have z9 := frozen_blk (i := 9) hR1; have z10 := frozen_blk (i := 10) hR1; have HR1 := Lib.hid hR1; have m5 := els_own (C := numC) numC_len (l := ids) (show w1.ownsRow W0.heap.size 3 1 (.slice A1 ids.length c1) ids.length (ids.flatMap numC) by rw [← map_numC]; exact m4) rfl; have HS := Lib.hid (And.intro m5.1 (fun b off e => (m5.2 b off e).1)); clear m4 m5; clear m1 m2 m3 hR1 hT1)
 obtain ⟨W9, hW9⟩ : ∃ W9, W9 = set11 ((w1.setCell ⟨w.heap.size + 1 + 1, 1, none⟩ (.slice A1 ids.length c1))) (w.heap.size + 1) (.int .i64 0) (.slice A1 ids.length c1) (.int .i64 0) (.int .i64 0) (.int .u64 0) (.int .i64 0) (.int .i64 0) (.int .i64 0) (.int .i64 0) (.bool false) (.slice none 0 0) := ⟨_, rfl⟩
 have f9 : Foot (fun i => i = w.heap.size + 1 + 1 ∨ i = w.heap.size + 1) w1 W9 := by
  rw [hW9]
  exact ((Foot.setCell (F := fun i => i = w.heap.size + 1 + 1 ∨ i = w.heap.size + 1) (p := ⟨w.heap.size + 1 + 1, 1, none⟩) (Foot.refl _ w1) (.inl (.inl rfl)) _)).trans ((set11_foot _ _ _ _ _ _ _ _ _ _ _ _ _).mono fun i (hi : i = w.heap.size + 1) => .inr hi) fun i hi => .inl hi
 have hbk9 : W9.heap[w.heap.size + 1]? = some (.cells #[.int .i64 0, .slice A1 ids.length c1, .int .i64 0, .int .i64 0, .int .u64 0, .int .i64 0, .int .i64 0, .int .i64 0, .int .i64 0, .bool false, .slice none 0 0] 46 (0, 0)) := by
  rw [hW9]
  exact set11_blk ((Below.heap_setCell _ _ _ _ (fun e => by simp at e)).trans (HR1.out)) _ _ _ _ _ _ _ _ _ _ _
 unfold set11 at hW9
 rw [← hW9]
 refine bodyPost_ret (results_cell_row rfl _ W9 (w.heap.size + 1) _ _ _ _ rfl hbk9 Tryz.underlying46 rfl told_size) rfl ?_
 have s9 := rdo_close HB0.out (T := w.heap.size + 1 + 1) (R := w.heap.size + 1) (by omega) (by omega) HF.out HM.out.1 HM.out.2.1 HM.out.2.2 f9
 exact ⟨_, rfl, ⟨A1, c1, none, 0, rfl, HS.out.1.foot2 f9 (fun b off e hf => by have h1 := HS.out.2 b off e; rcases hf with e2 | e2 <;> omega), .inl rfl⟩, s9⟩
set_option maxHeartbeats 2000000 in
theorem rdo_drain {w : World} {p : Nat} {F : Nat → Prop} {fs : List Fr} {st : LS} (A : Option Addr) (c : Nat) (a : La) (h : RL w p F fs st) (hlt : ∀ i, F i → i < w.heap.size) (hver : st.ver ≤ 90000) (ha : LaOk a) (hl : Slots w w.heap.size A a.sl) (hA : a.sl ≠ [] → Off A F) (hk : a.k = 6) :
  Calls Tryz.prog 10 #[.pointer (some ⟨p, 0, none⟩), .agg (laC a A c).toArray] w fun e w' => ∃ v, e = .returned v ∧ TlR w' v (LM.act fs st a).1 ∧ RNext w w' p F fs (LM.act fs st a).2 := by
 obtain ⟨W0, hD⟩ := do0 w a A c
 have HF := Lib.hid hlt
 have h0 := h.keep hD.bel
 have hsz := hD.sz
 have HB0 := Lib.hid hD.bel
 have hl0 := Slots.keep hl hD.bel hD.bel.size
 have hM := rdrain_l a.id h0 hver
 obtain ⟨⟨⟨ids, r⟩, st2⟩, hR⟩ : ∃ R, R = LM.drain fs st a.id := ⟨_, rfl⟩
 have hact : LM.act fs st a = (⟨r, ids, LM.noSl, LM.noHd⟩, st2) := by unfold LM.act; rw [← hR]; rw [if_neg (by omega), if_neg (by omega), if_neg (by omega), if_neg (by omega), if_neg (by omega), if_neg (by omega), if_pos hk]
 rw [← hR] at hM
 rw [hact]
 simp only at hM
 have HM0 := Lib.hid hM
 clear hM hact hR
 have HD := Lib.hid hD
 have e0 := hD.eq
 obtain ⟨k, id, q, un, now, old, sl⟩ := a
 simp only [boxC, toldB, toldZ, laC] at e0
 simp only [laC]
 have HE := Lib.hid e0
 simp only at hk
 subst hk

 clear h hlt h0 hver ha hl hl0 hA hD e0
 go_enter Tryz.func10, Tryz.ntmps10
 go_wp2_with (go_at_call 38; rw [← HE.out]; refine HM0.out.mono ?_; rintro e w1 ⟨⟨A1, c1, rfl, m4⟩, F1, m1, m2, m3⟩; have HM := Lib.hid (And.intro m1 (And.intro m2 m3)); have hR1 := (m2.block (w.heap.size + 1) (by omega) (fun e => by have := HF.out _ e; omega)).trans HD.out.b1; have hT1 := (m2.block (w.heap.size + 1 + 1) (by omega) (fun e => by have := HF.out _ e; omega)).trans HD.out.b2; obtain ⟨x0, x1, x2, x3, x4, x5, x6, x7, x8, x9, x10⟩ := blk11 hT1; obtain ⟨y0, y1, y2, y3, y4, y5, y6, y7, y8, y9, y10⟩ := blk11 hR1; have zt0 := frozen_blk (i := 0) hT1; have zt1 := frozen_blk (i := 1) hT1; have z0 := frozen_blk (i := 0) hR1; have z1 := frozen_blk (i := 1) hR1; have z2 := frozen_blk (i := 2) hR1; have z3 := frozen_blk (i := 3) hR1; have z4 := frozen_blk (i := 4) hR1; have z5 := frozen_blk (i := 5) hR1; have z6 := frozen_blk (i := 6) hR1; have z7 := frozen_blk (i := 7) hR1; have z8 := frozen_blk (i := 8) hR1; have z9 := frozen_blk (i := 9) hR1; have z10 := frozen_blk (i := 10) hR1; have HR1 := Lib.hid hR1; have m5 := els_own (C := numC) numC_len (l := ids) (show w1.ownsRow W0.heap.size 3 1 (.slice A1 ids.length c1) ids.length (ids.flatMap numC) by rw [← map_numC]; exact m4) rfl; have HS := Lib.hid (And.intro m5.1 (fun b off e => (m5.2 b off e).1)); clear m4 m5; clear m1 m2 m3 hR1 hT1)
 obtain ⟨W9, hW9⟩ : ∃ W9, W9 = set11 (((w1.setCell ⟨w.heap.size + 1 + 1, 1, none⟩ (.slice A1 ids.length c1)).setCell ⟨w.heap.size + 1 + 1, 0, none⟩ (.int .i64 r))) (w.heap.size + 1) (.int .i64 r) (.slice A1 ids.length c1) (.int .i64 0) (.int .i64 0) (.int .u64 0) (.int .i64 0) (.int .i64 0) (.int .i64 0) (.int .i64 0) (.bool false) (.slice none 0 0) := ⟨_, rfl⟩
 have f9 : Foot (fun i => i = w.heap.size + 1 + 1 ∨ i = w.heap.size + 1) w1 W9 := by
  rw [hW9]
  exact ((Foot.setCell (F := fun i => i = w.heap.size + 1 + 1 ∨ i = w.heap.size + 1) (p := ⟨w.heap.size + 1 + 1, 0, none⟩) ((Foot.setCell (F := fun i => i = w.heap.size + 1 + 1 ∨ i = w.heap.size + 1) (p := ⟨w.heap.size + 1 + 1, 1, none⟩) (Foot.refl _ w1) (.inl (.inl rfl)) _)) (.inl (.inl rfl)) _)).trans ((set11_foot _ _ _ _ _ _ _ _ _ _ _ _ _).mono fun i (hi : i = w.heap.size + 1) => .inr hi) fun i hi => .inl hi
 have hbk9 : W9.heap[w.heap.size + 1]? = some (.cells #[.int .i64 r, .slice A1 ids.length c1, .int .i64 0, .int .i64 0, .int .u64 0, .int .i64 0, .int .i64 0, .int .i64 0, .int .i64 0, .bool false, .slice none 0 0] 46 (0, 0)) := by
  rw [hW9]
  exact set11_blk ((Below.heap_setCell _ _ _ _ (fun e => by simp at e)).trans ((Below.heap_setCell _ _ _ _ (fun e => by simp at e)).trans (HR1.out))) _ _ _ _ _ _ _ _ _ _ _
 unfold set11 at hW9
 rw [← hW9]
 refine bodyPost_ret (results_cell_row rfl _ W9 (w.heap.size + 1) _ _ _ _ rfl hbk9 Tryz.underlying46 rfl told_size) rfl ?_
 have s9 := rdo_close HB0.out (T := w.heap.size + 1 + 1) (R := w.heap.size + 1) (by omega) (by omega) HF.out HM.out.1 HM.out.2.1 HM.out.2.2 f9
 exact ⟨_, rfl, ⟨A1, c1, none, 0, rfl, HS.out.1.foot2 f9 (fun b off e hf => by have h1 := HS.out.2 b off e; rcases hf with e2 | e2 <;> omega), .inl rfl⟩, s9⟩
set_option maxHeartbeats 2000000 in
theorem rdo_grow {w : World} {p : Nat} {F : Nat → Prop} {fs : List Fr} {st : LS} (A : Option Addr) (c : Nat) (a : La) (h : RL w p F fs st) (hlt : ∀ i, F i → i < w.heap.size) (hver : st.ver ≤ 90000) (ha : LaOk a) (hl : Slots w w.heap.size A a.sl) (hA : a.sl ≠ [] → Off A F) (hk : a.k = 2) :
  Calls Tryz.prog 10 #[.pointer (some ⟨p, 0, none⟩), .agg (laC a A c).toArray] w fun e w' => ∃ v, e = .returned v ∧ TlR w' v (LM.act fs st a).1 ∧ RNext w w' p F fs (LM.act fs st a).2 := by
 obtain ⟨W0, hD⟩ := do0 w a A c
 have HF := Lib.hid hlt
 have h0 := h.keep hD.bel
 have hsz := hD.sz
 have HB0 := Lib.hid hD.bel
 have hl0 := Slots.keep hl hD.bel hD.bel.size
 obtain ⟨⟨r, st2⟩, hR⟩ : ∃ R, R = LM.grow fs st a.id (a.sl.head?.getD LM.noSl) := ⟨_, rfl⟩
 have hact : LM.act fs st a = (⟨r, [], LM.noSl, LM.noHd⟩, st2) := by unfold LM.act; rw [← hR]; rw [if_neg (by omega), if_neg (by omega), if_pos hk]
 rw [hact]
 have hs0 := hD.bel.size
 obtain ⟨s, hs⟩ : ∃ s, s = a.sl.head?.getD LM.noSl := ⟨_, rfl⟩
 rw [← hs] at hR
 have hso : SlOk s := by
  rw [hs]
  cases hsl : a.sl with
  | nil => exact ⟨by decide, by decide, by decide, by decide⟩
  | cons x l => exact ha.sl x (by rw [hsl]; simp)
 have hFi : ∀ W, Below W0.heap.size W0 W → Calls Tryz.prog 34 #[.slice A a.sl.length c] W fun e w' => e = .returned (slV s) ∧ Below W.heap.size W w' := fun W hW => by
  rw [hs]; exact first_l A c a.sl W (Slots.keep hl0 hW hW.size) ha.few
 have hGr : ∀ W, Below W0.heap.size W0 W → Calls Tryz.prog 33 #[.pointer (some ⟨p, 0, none⟩), .int .i64 a.id, slV s] W fun e w' => e = .returned (.int .i64 r) ∧ RNext W0 w' p F fs st2 := fun W hW => by
  refine (rgrow_l a.id s (h0.keep hW) hso hver).mono fun e w' ⟨he, hn⟩ => ?_
  rw [← hR] at he hn
  exact ⟨he, hn.ahead hW⟩
 clear hs hso
 obtain ⟨sn, sd, sm, sc⟩ := s
 simp only [slV] at hFi hGr
 have HFi := Lib.hid hFi
 have HGr := Lib.hid hGr
 clear hFi hGr
 clear hact hR
 have HD := Lib.hid hD
 have e0 := hD.eq
 obtain ⟨k, id, q, un, now, old, sl⟩ := a
 simp only [boxC, toldB, toldZ, laC] at e0
 simp only [laC]
 have HE := Lib.hid e0
 simp only at hk
 subst hk

 clear h hlt h0 hver ha hl hl0 hA hD e0
 go_enter Tryz.func10, Tryz.ntmps10
 go_wp2
 rw [← HE.out]
 have hb7 := HD.out.b0
 simp only at hb7
 have HB7 := Lib.hid hb7
 obtain ⟨u0, u1, u2, u3, u4, u5, u6⟩ := blk7 hb7
 clear hb7
 refine held_begin (fun w' : World => w'.cell? ⟨w.heap.size, 1, none⟩ = some (.int .i64 id) ∧ w'.cell? ⟨w.heap.size, 6, none⟩ = some (.slice A sl.length c)) (by kernel_rfl) ?_
 have hS0 : (fun w' : World => w'.cell? ⟨w.heap.size, 1, none⟩ = some (.int .i64 id) ∧ w'.cell? ⟨w.heap.size, 6, none⟩ = some (.slice A sl.length c)) W0.drew := ⟨u1, u6⟩
 refine held_takeK (v := ?_) 0 47 rfl rfl ⟨by rfl, ?_⟩ hS0 ?_
 rotate_left
 ·intro w' hw'; obtain ⟨x0, x1⟩ := hw'; go_simp; (try with_reducible rfl)
 try simp only [Act.put, pzA, pzB, pzC]
 refine held_takeK (v := ?_) 1 48 rfl rfl ⟨by rfl, ?_⟩ hS0 ?_
 rotate_left
 ·intro w' hw'; obtain ⟨x0, x1⟩ := hw'; go_simp; (try with_reducible rfl)
 try simp only [Act.put, pzA, pzB, pzC]
 refine held_takeK (v := ?_) 2 49 rfl rfl ⟨by rfl, ?_⟩ hS0 ?_
 rotate_left
 ·intro w' hw'; obtain ⟨x0, x1⟩ := hw'; go_simp; (try with_reducible rfl)
 try simp only [Act.put, pzA, pzB, pzC]
 refine held_takeK (v := ?_) 3 50 rfl rfl ⟨by rfl, ?_⟩ hS0 ?_
 rotate_left
 ·intro w' hw'; obtain ⟨x0, x1⟩ := hw'; go_simp; (try with_reducible rfl)
 try simp only [Act.put, pzA, pzB, pzC]
 refine held_takeK (v := ?_) 4 51 rfl rfl ⟨by rfl, ?_⟩ hS0 ?_
 rotate_left
 ·intro w' hw'; obtain ⟨x0, x1⟩ := hw'; go_simp; (try with_reducible rfl)
 try simp only [Act.put, pzA, pzB, pzC]
 refine held_one 5 rfl (by kernel_rfl) (by rfl) (fun K hK => ?_)
 go_simp
 go_at_call 34
 refine (HFi.out W0.drew (Below.refl W0.heap.size W0).drew).mono ?_
 rintro e wf ⟨rfl, hbf⟩
 have hBf : Below W0.heap.size W0 wf := below_step (Below.refl W0.heap.size W0).drew hbf
 have hbk := (hBf.block w.heap.size (by omega)).trans HB7.out
 obtain ⟨f0, f1, f2, f3, f4, f5, f6⟩ := blk7 hbk
 have HBf := Lib.hid hBf
 clear hbf hBf hbk u0 u1 u2 u3 u4 u5 u6 hS0
 refine hK.out _ _ ⟨f1, f6⟩ ?_
 clear hK K f0 f1 f2 f3 f4 f5 f6
 try simp only [Act.put, pzA, pzB, pzC]
 refine held_one 6 rfl (by kernel_rfl) (by rfl) (fun K hK => ?_)
 go_simp
 go_at_call 33
 refine (HGr.out wf HBf.out).mono ?_
 rintro e w1 ⟨rfl, F1, m1, m2, m3⟩
 have HM := Lib.hid (And.intro m1 (And.intro m2 m3))
 have hbk := (m2.block w.heap.size (by omega) (fun e => by have := HF.out _ e; omega)).trans HB7.out
 obtain ⟨g0, g1, g2, g3, g4, g5, g6⟩ := blk7 hbk
 have hR1 := (HM.out.2.1.block (w.heap.size + 1) (by omega) (fun e => by have := HF.out _ e; omega)).trans HD.out.b1
 have hT1 := (HM.out.2.1.block (w.heap.size + 1 + 1) (by omega) (fun e => by have := HF.out _ e; omega)).trans HD.out.b2
 obtain ⟨x0, x1, x2, x3, x4, x5, x6, x7, x8, x9, x10⟩ := blk11 hT1
 have zt := frozen_blk (i := 0) hT1
 clear m1 m2 m3 hbk
 refine hK.out _ _ ⟨g1, g6⟩ ?_
 clear hK K
 try simp only [Act.put, pzA, pzB, pzC]
 have hS2 : (fun w' : World => w'.cell? ⟨w.heap.size, 1, none⟩ = some (.int .i64 id) ∧ w'.cell? ⟨w.heap.size, 6, none⟩ = some (.slice A sl.length c)) w1 := ⟨g1, g6⟩
 refine held_takeK (v := ?_) 7 54 rfl rfl ⟨by rfl, ?_⟩ hS2 ?_
 rotate_left
 ·intro w' hw'; obtain _ := hw'; go_simp; (try with_reducible rfl)
 try simp only [Act.put, pzA, pzB, pzC]
 refine held_one 8 rfl (by kernel_rfl) (by rfl) (fun K hK => ?_)
 go_simp
 refine hK.out _ _ ⟨by go_simp, by go_simp⟩ ?_
 clear hK K
 try simp only [Act.put, pzA, pzB, pzC]
 refine wpAnyH_done (by kernel_rfl) ?_ _
 obtain ⟨y0, y1, y2, y3, y4, y5, y6, y7, y8, y9, y10⟩ := blk11 hR1
 have z0 := frozen_blk (i := 0) hR1
 have z1 := frozen_blk (i := 1) hR1
 have z2 := frozen_blk (i := 2) hR1
 have z3 := frozen_blk (i := 3) hR1
 have z4 := frozen_blk (i := 4) hR1
 have z5 := frozen_blk (i := 5) hR1
 have z6 := frozen_blk (i := 6) hR1
 have z7 := frozen_blk (i := 7) hR1
 have z8 := frozen_blk (i := 8) hR1
 have z9 := frozen_blk (i := 9) hR1
 have z10 := frozen_blk (i := 10) hR1
 have HR1 := Lib.hid hR1
 clear hR1 hT1 g0 g1 g2 g3 g4 g5 g6
 go_wp2
 obtain ⟨W9, hW9⟩ : ∃ W9, W9 = set11 (w1.setCell ⟨w.heap.size + 1 + 1, 0, none⟩ (.int .i64 r)) (w.heap.size + 1) (.int .i64 r) (.slice none 0 0) (.int .i64 0) (.int .i64 0) (.int .u64 0) (.int .i64 0) (.int .i64 0) (.int .i64 0) (.int .i64 0) (.bool false) (.slice none 0 0) := ⟨_, rfl⟩
 have f9 : Foot (fun i => i = w.heap.size + 1 + 1 ∨ i = w.heap.size + 1) w1 W9 := by
  rw [hW9]
  exact ((Foot.setCell (F := fun i => i = w.heap.size + 1 + 1 ∨ i = w.heap.size + 1) (p := ⟨w.heap.size + 1 + 1, 0, none⟩) (Foot.refl _ w1) (.inl (.inl rfl)) _)).trans ((set11_foot _ _ _ _ _ _ _ _ _ _ _ _ _).mono fun i (hi : i = w.heap.size + 1) => .inr hi) fun i hi => .inl hi
 have hbk9 : W9.heap[w.heap.size + 1]? = some (.cells #[.int .i64 r, .slice none 0 0, .int .i64 0, .int .i64 0, .int .u64 0, .int .i64 0, .int .i64 0, .int .i64 0, .int .i64 0, .bool false, .slice none 0 0] 46 (0, 0)) := by
  rw [hW9]
  exact set11_blk ((Below.heap_setCell _ _ _ _ (fun e => by simp at e)).trans HR1.out) _ _ _ _ _ _ _ _ _ _ _
 unfold set11 at hW9
 rw [← hW9]
 refine bodyPost_ret (results_cell_row rfl _ W9 (w.heap.size + 1) _ _ _ _ rfl hbk9 Tryz.underlying46 rfl told_size) rfl ?_
 have s9 := rdo_close HB0.out (T := w.heap.size + 1 + 1) (R := w.heap.size + 1) (by omega) (by omega) HF.out HM.out.1 HM.out.2.1 HM.out.2.2 f9
 exact ⟨_, rfl, ⟨none, 0, none, 0, rfl, .inl rfl, .inl rfl⟩, s9⟩
set_option maxHeartbeats 2000000 in
theorem rdo_reserve {w : World} {p : Nat} {F : Nat → Prop} {fs : List Fr} {st : LS} (A : Option Addr) (c : Nat) (a : La) (h : RL w p F fs st) (hlt : ∀ i, F i → i < w.heap.size) (hver : st.ver ≤ 90000) (ha : LaOk a) (hl : Slots w w.heap.size A a.sl) (hA : a.sl ≠ [] → Off A F) (hk : a.k = 0) (hn : a.sl.length ≤ 1000) :
  Calls Tryz.prog 10 #[.pointer (some ⟨p, 0, none⟩), .agg (laC a A c).toArray] w fun e w' => ∃ v, e = .returned v ∧ TlR w' v (LM.act fs st a).1 ∧ RNext w w' p F fs (LM.act fs st a).2 := by
 obtain ⟨W0, hD⟩ := do0 w a A c
 have HF := Lib.hid hlt
 have h0 := h.keep hD.bel
 have hsz := hD.sz
 have HB0 := Lib.hid hD.bel
 have hl0 := Slots.keep hl hD.bel hD.bel.size
 obtain ⟨⟨r, st2⟩, hR⟩ : ∃ R, R = LM.reserve fs st a.id a.q a.un (IntKind.i64.wrap ((st.ver : Int) - a.old)) a.sl := ⟨_, rfl⟩
 have hact : LM.act fs st a = (⟨r, [], LM.noSl, LM.noHd⟩, st2) := by unfold LM.act; rw [← hR]; rw [if_pos hk]
 rw [hact]
 have hs0 := hD.bel.size
 have hGr : ∀ W, Below W0.heap.size W0 W → Calls Tryz.prog 31 #[.pointer (some ⟨p, 0, none⟩), .int .i64 a.id, .int .i64 a.q, .int .i64 a.un, .int .i64 (IntKind.i64.wrap ((st.ver : Int) - a.old)), .slice A a.sl.length c] W fun e w' => e = .returned (.int .i64 r) ∧ RNext W0 w' p F fs st2 := fun W hW => by
  refine (rreserve_l a.id a.q a.un _ A c a.sl (h0.keep hW) (Slots.keep hl0 hW hW.size) ha.sl hA hver hn ha.id ha.q ha.un).mono fun e w' ⟨he, hn⟩ => ?_
  rw [← hR] at he hn
  exact ⟨he, hn.ahead hW⟩
 have HV0 := Lib.hid (show W0.cell? ⟨p, 3, none⟩ = some (.int .i64 (st.ver : Nat)) from by
  obtain ⟨_, _, _, _, _, _, _, _, _, _, h1, _⟩ := h0
  exact cell_blk (i := 3) h1.blk rfl)
 have HGr := Lib.hid hGr
 clear hGr
 clear hact hR
 have HD := Lib.hid hD
 have e0 := hD.eq
 obtain ⟨k, id, q, un, now, old, sl⟩ := a
 simp only [boxC, toldB, toldZ, laC] at e0
 simp only [laC]
 have HE := Lib.hid e0
 simp only at hk
 subst hk

 clear h hlt h0 hver ha hl hl0 hA hD e0 hn
 go_enter Tryz.func10, Tryz.ntmps10
 go_wp2
 rw [← HE.out]
 have hb7 := HD.out.b0
 simp only at hb7
 have HB7 := Lib.hid hb7
 obtain ⟨u0, u1, u2, u3, u4, u5, u6⟩ := blk7 hb7
 clear hb7
 refine wp_until (fun w' : World => w'.cell? ⟨w.heap.size, 1, none⟩ = some (.int .i64 id) ∧ w'.cell? ⟨w.heap.size, 2, none⟩ = some (.int .i64 q) ∧ w'.cell? ⟨w.heap.size, 3, none⟩ = some (.int .i64 un) ∧ w'.cell? ⟨w.heap.size, 5, none⟩ = some (.int .i64 old) ∧ w'.cell? ⟨w.heap.size, 6, none⟩ = some (.slice A sl.length c) ∧ w'.cell? ⟨p, 3, none⟩ = some (.int .i64 (st.ver : Nat))) 16 (by kernel_rfl) ?_
 have hS0 : (fun w' : World => w'.cell? ⟨w.heap.size, 1, none⟩ = some (.int .i64 id) ∧ w'.cell? ⟨w.heap.size, 2, none⟩ = some (.int .i64 q) ∧ w'.cell? ⟨w.heap.size, 3, none⟩ = some (.int .i64 un) ∧ w'.cell? ⟨w.heap.size, 5, none⟩ = some (.int .i64 old) ∧ w'.cell? ⟨w.heap.size, 6, none⟩ = some (.slice A sl.length c) ∧ w'.cell? ⟨p, 3, none⟩ = some (.int .i64 (st.ver : Nat))) W0.drew := ⟨u1, u2, u3, u5, u6, HV0.out⟩
 refine until_take (v := ?_) 0 16 rfl rfl (by kernel_rfl) (by kernel_rfl) (by kernel_rfl) (by kernel_rfl) (fun _ _ _ h => h) ⟨by rfl, ?_⟩ hS0 ?_
 rotate_left
 ·intro w' hw'; obtain ⟨x0, x1, x2, x3, x4, x5⟩ := hw'; go_simp; (try with_reducible rfl)
 try simp only [Act.put, pzA, pzB, pzC]
 refine until_pure (v := ?_) 1 17 rfl rfl (by kernel_rfl) (by kernel_rfl) (by kernel_rfl) (by kernel_rfl) (fun _ _ _ h => h) ⟨by rfl, ?_⟩ hS0 ?_
 rotate_left
 ·intro w'; go_simp; (try with_reducible rfl)
 try simp only [Act.put, pzA, pzB, pzC]
 refine until_take (v := ?_) 2 18 rfl rfl (by kernel_rfl) (by kernel_rfl) (by kernel_rfl) (by kernel_rfl) (fun _ _ _ h => h) ⟨by rfl, ?_⟩ hS0 ?_
 rotate_left
 ·intro w' hw'; obtain ⟨x0, x1, x2, x3, x4, x5⟩ := hw'; go_simp; (try with_reducible rfl)
 try simp only [Act.put, pzA, pzB, pzC]
 refine until_pure (v := ?_) 3 19 rfl rfl (by kernel_rfl) (by kernel_rfl) (by kernel_rfl) (by kernel_rfl) (fun _ _ _ h => h) ⟨by rfl, ?_⟩ hS0 ?_
 rotate_left
 ·intro w'; go_simp; (try with_reducible rfl)
 try simp only [Act.put, pzA, pzB, pzC]
 refine until_take (v := ?_) 4 20 rfl rfl (by kernel_rfl) (by kernel_rfl) (by kernel_rfl) (by kernel_rfl) (fun _ _ _ h => h) ⟨by rfl, ?_⟩ hS0 ?_
 rotate_left
 ·intro w' hw'; obtain ⟨x0, x1, x2, x3, x4, x5⟩ := hw'; go_simp; (try with_reducible rfl)
 try simp only [Act.put, pzA, pzB, pzC]
 refine until_pure (v := ?_) 5 21 rfl rfl (by kernel_rfl) (by kernel_rfl) (by kernel_rfl) (by kernel_rfl) (fun _ _ _ h => h) ⟨by rfl, ?_⟩ hS0 ?_
 rotate_left
 ·intro w'; go_simp; (try with_reducible rfl)
 try simp only [Act.put, pzA, pzB, pzC]
 refine until_take (v := ?_) 6 22 rfl rfl (by kernel_rfl) (by kernel_rfl) (by kernel_rfl) (by kernel_rfl) (fun _ _ _ h => h) ⟨by rfl, ?_⟩ hS0 ?_
 rotate_left
 ·intro w' hw'; obtain ⟨x0, x1, x2, x3, x4, x5⟩ := hw'; go_simp; (try with_reducible rfl)
 try simp only [Act.put, pzA, pzB, pzC]
 refine until_pure (v := ?_) 7 23 rfl rfl (by kernel_rfl) (by kernel_rfl) (by kernel_rfl) (by kernel_rfl) (fun _ _ _ h => h) ⟨by rfl, ?_⟩ hS0 ?_
 rotate_left
 ·intro w'; go_simp; (try with_reducible rfl)
 try simp only [Act.put, pzA, pzB, pzC]
 refine until_pure (v := ?_) 8 24 rfl rfl (by kernel_rfl) (by kernel_rfl) (by kernel_rfl) (by kernel_rfl) (fun _ _ _ h => h) ⟨by rfl, ?_⟩ hS0 ?_
 rotate_left
 ·intro w'; go_simp; (try with_reducible rfl)
 try simp only [Act.put, pzA, pzB, pzC]
 refine until_pure (v := ?_) 9 25 rfl rfl (by kernel_rfl) (by kernel_rfl) (by kernel_rfl) (by kernel_rfl) (fun _ _ _ h => h) ⟨by rfl, ?_⟩ hS0 ?_
 rotate_left
 ·intro w'; go_simp; (try with_reducible rfl)
 try simp only [Act.put, pzA, pzB, pzC]
 refine until_take2 (v := ?_) 10 26 13 rfl rfl (by kernel_rfl) (by kernel_rfl) (by kernel_rfl) (by kernel_rfl) (by kernel_rfl) (fun _ _ _ h => h) ⟨by rfl, ?_⟩ hS0 ?_
 rotate_left
 ·intro w' hw'; obtain ⟨x0, x1, x2, x3, x4, x5⟩ := hw'; go_simp; (try with_reducible rfl)
 try simp only [Act.put, pzA, pzB, pzC]
 refine until_pure (v := ?_) 11 27 rfl rfl (by kernel_rfl) (by kernel_rfl) (by kernel_rfl) (by kernel_rfl) (fun _ _ _ h => h) ⟨by rfl, ?_⟩ hS0 ?_
 rotate_left
 ·intro w'; go_simp; (try with_reducible rfl)
 try simp only [Act.put, pzA, pzB, pzC]
 refine until_take2 (v := ?_) 12 28 13 rfl rfl (by kernel_rfl) (by kernel_rfl) (by kernel_rfl) (by kernel_rfl) (by kernel_rfl) (fun _ _ _ h => h) ⟨by rfl, ?_⟩ hS0 ?_
 rotate_left
 ·intro w' hw'; obtain ⟨x0, x1, x2, x3, x4, x5⟩ := hw'; go_simp; (try with_reducible rfl)
 try simp only [Act.put, pzA, pzB, pzC]
 refine until_take (v := ?_) 13 29 rfl rfl (by kernel_rfl) (by kernel_rfl) (by kernel_rfl) (by kernel_rfl) (fun _ _ _ h => h) ⟨by rfl, ?_⟩ hS0 ?_
 rotate_left
 ·intro w' hw'; obtain ⟨x0, x1, x2, x3, x4, x5⟩ := hw'; go_simp; (try with_reducible rfl)
 try simp only [Act.put, pzA, pzB, pzC]
 refine until_pure (v := ?_) 14 30 rfl rfl (by kernel_rfl) (by kernel_rfl) (by kernel_rfl) (by kernel_rfl) (fun _ _ _ h => h) ⟨by rfl, ?_⟩ hS0 ?_
 rotate_left
 ·intro w'; go_simp; (try with_reducible rfl)
 try simp only [Act.put, pzA, pzB, pzC]
 refine until_take (v := ?_) 15 31 rfl rfl (by kernel_rfl) (by kernel_rfl) (by kernel_rfl) (by kernel_rfl) (fun _ _ _ h => h) ⟨by rfl, ?_⟩ hS0 ?_
 rotate_left
 ·intro w' hw'; obtain ⟨x0, x1, x2, x3, x4, x5⟩ := hw'; go_simp; (try with_reducible rfl)
 try simp only [Act.put, pzA, pzB, pzC]
 refine until_one 16 rfl (by kernel_rfl) rfl (fun K hK => ?_)
 go_simp
 go_at_call 31
 refine (HGr.out W0.drew (Below.refl W0.heap.size W0).drew).mono ?_
 rintro e w1 ⟨rfl, F1, m1, m2, m3⟩
 have HM := Lib.hid (And.intro m1 (And.intro m2 m3))
 have hbk := (m2.block w.heap.size (by omega) (fun e => by have := HF.out _ e; omega)).trans HB7.out
 obtain ⟨g0, g1, g2, g3, g4, g5, g6⟩ := blk7 hbk
 have hR1 := (HM.out.2.1.block (w.heap.size + 1) (by omega) (fun e => by have := HF.out _ e; omega)).trans HD.out.b1
 have hT1 := (HM.out.2.1.block (w.heap.size + 1 + 1) (by omega) (fun e => by have := HF.out _ e; omega)).trans HD.out.b2
 obtain ⟨x0, x1, x2, x3, x4, x5, x6, x7, x8, x9, x10⟩ := blk11 hT1
 have zt := frozen_blk (i := 0) hT1
 clear m1 m2 m3 hbk
 refine hK.out _ _ (fun h => absurd h (by decide)) ?_
 clear hK K
 try simp only [Act.put, pzA, pzB, pzC]
 refine until_one 17 rfl (by kernel_rfl) rfl (fun K hK => ?_)
 go_simp
 refine hK.out _ _ (fun h => absurd h (by decide)) ?_
 clear hK K
 try simp only [Act.put, pzA, pzB, pzC]
 refine until_one 18 rfl (by kernel_rfl) rfl (fun K hK => ?_)
 go_simp
 refine hK.out _ _ (fun h => absurd h (by decide)) ?_
 clear hK K
 try simp only [Act.put, pzA, pzB, pzC]
 refine until_done (by kernel_rfl) ?_
 obtain ⟨y0, y1, y2, y3, y4, y5, y6, y7, y8, y9, y10⟩ := blk11 hR1
 have z0 := frozen_blk (i := 0) hR1
 have z1 := frozen_blk (i := 1) hR1
 have z2 := frozen_blk (i := 2) hR1
 have z3 := frozen_blk (i := 3) hR1
 have z4 := frozen_blk (i := 4) hR1
 have z5 := frozen_blk (i := 5) hR1
 have z6 := frozen_blk (i := 6) hR1
 have z7 := frozen_blk (i := 7) hR1
 have z8 := frozen_blk (i := 8) hR1
 have z9 := frozen_blk (i := 9) hR1
 have z10 := frozen_blk (i := 10) hR1
 have HR1 := Lib.hid hR1
 clear hR1 hT1 g0 g1 g2 g3 g4 g5 g6 u0 u1 u2 u3 u4 u5 u6
 go_wp2
 obtain ⟨W9, hW9⟩ : ∃ W9, W9 = set11 (w1.setCell ⟨w.heap.size + 1 + 1, 0, none⟩ (.int .i64 r)) (w.heap.size + 1) (.int .i64 r) (.slice none 0 0) (.int .i64 0) (.int .i64 0) (.int .u64 0) (.int .i64 0) (.int .i64 0) (.int .i64 0) (.int .i64 0) (.bool false) (.slice none 0 0) := ⟨_, rfl⟩
 have f9 : Foot (fun i => i = w.heap.size + 1 + 1 ∨ i = w.heap.size + 1) w1 W9 := by
  rw [hW9]
  exact ((Foot.setCell (F := fun i => i = w.heap.size + 1 + 1 ∨ i = w.heap.size + 1) (p := ⟨w.heap.size + 1 + 1, 0, none⟩) (Foot.refl _ w1) (.inl (.inl rfl)) _)).trans ((set11_foot _ _ _ _ _ _ _ _ _ _ _ _ _).mono fun i (hi : i = w.heap.size + 1) => .inr hi) fun i hi => .inl hi
 have hbk9 : W9.heap[w.heap.size + 1]? = some (.cells #[.int .i64 r, .slice none 0 0, .int .i64 0, .int .i64 0, .int .u64 0, .int .i64 0, .int .i64 0, .int .i64 0, .int .i64 0, .bool false, .slice none 0 0] 46 (0, 0)) := by
  rw [hW9]
  exact set11_blk ((Below.heap_setCell _ _ _ _ (fun e => by simp at e)).trans HR1.out) _ _ _ _ _ _ _ _ _ _ _
 unfold set11 at hW9
 rw [← hW9]
 refine bodyPost_ret (results_cell_row rfl _ W9 (w.heap.size + 1) _ _ _ _ rfl hbk9 Tryz.underlying46 rfl told_size) rfl ?_
 have s9 := rdo_close HB0.out (T := w.heap.size + 1 + 1) (R := w.heap.size + 1) (by omega) (by omega) HF.out HM.out.1 HM.out.2.1 HM.out.2.2 f9
 exact ⟨_, rfl, ⟨none, 0, none, 0, rfl, .inl rfl, .inl rfl⟩, s9⟩
theorem rdo_l {w : World} {p : Nat} {F : Nat → Prop} {fs : List Fr} {st : LS} (A : Option Addr) (c : Nat) (a : La) (h : RL w p F fs st) (hlt : ∀ i, F i → i < w.heap.size) (hver : st.ver ≤ 90000) (ha : LaOk a) (hl : Slots w w.heap.size A a.sl) (hA : a.sl ≠ [] → Off A F) (hn : a.sl.length ≤ 1000) :
  Calls Tryz.prog 10 #[.pointer (some ⟨p, 0, none⟩), .agg (laC a A c).toArray] w fun e w' => ∃ v, e = .returned v ∧ TlR w' v (LM.act fs st a).1 ∧ RNext w w' p F fs (LM.act fs st a).2 := by
 by_cases k0 : a.k = 0
 ·exact rdo_reserve A c a h hlt hver ha hl hA k0 hn
 by_cases k1 : a.k = 1
 ·exact rdo_commit A c a h hlt hver ha hl hA k1
 by_cases k2 : a.k = 2
 ·exact rdo_grow A c a h hlt hver ha hl hA k2
 by_cases k3 : a.k = 3
 ·exact rdo_shrink A c a h hlt hver ha hl hA k3
 by_cases k4 : a.k = 4
 ·exact rdo_release A c a h hlt hver ha hl hA k4
 by_cases k5 : a.k = 5
 ·exact rdo_expire A c a h hlt hver ha hl hA k5
 by_cases k6 : a.k = 6
 ·exact rdo_drain A c a h hlt hver ha hl hA k6
 exact rdo_undrain A c a h hlt hver ha hl hA ⟨k0, k1, k2, k3, k4, k5, k6⟩
end Go.Proofs.YtgpfmlidchogcaaGreat
