/- A ledger's Commit. -/
/- A ledger's closures: which holds are late, which have a slot of a node. -/
/- A ledger's Undrain, Expire, Drain. -/
/- A ledger's Drain. -/
/- A ledger's Release. -/
import Derived.RegionTactic
import Derived.BigRegion
import Derived.Test.YtgpfmlidchogcaaGreatLedRows
import Derived.Deep.RegionHeld3
set_option maxRecDepth 100000
set_option linter.unusedVariables false
namespace Go.Proofs.YtgpfmlidchogcaaGreat
open Go.RowKit Go.MuLone

set_option maxHeartbeats 4000000 in
theorem commit_l {w : World} {p : Nat} {F : Nat → Prop} {fs : List Fr} {st : LS} (id now un : Int) (h : LObj w p F fs st) (hver : st.ver ≤ 100000) (hid : (Lit.int .i64 id).wf = true) (hun : (Lit.int .i64 un).wf = true) :
  Calls Tryz.prog 23 #[.pointer (some ⟨p, 0, none⟩), .int .i64 id, .int .i64 now, .int .i64 un] w fun e w' => e = .returned (.int .i64 (LM.commit st id now un).1) ∧ ∃ F', LObj w' p F' fs (LM.commit st id now un).2 ∧ Foot F w w' ∧ ∀ i, F' i → F i ∨ w.heap.size ≤ i := by
 obtain ⟨pp, pa, hm, FP, FQ, V, h, rfl⟩ := h
 obtain ⟨c0, z0, _⟩ := h.cells
 have h1 := h.lock 1
 obtain ⟨w1, hw1⟩ : ∃ w1, w1 = w.setCell ⟨p, 0, none⟩ (.int .i32 1) := ⟨_, rfl⟩
 rw [← hw1] at h1
 have hf1 : Foot (LB p hm FP FQ V st) w w1 := by rw [hw1]; exact (foot_set w p 0 _).mono fun i hi => .inl hi
 have lw1 : w.heap.size ≤ w1.heap.size := hf1.size
 have hfew : st.hs.length ≤ 1000000 := by have := h.ok.few; omega
 obtain ⟨_, _, c2, c3, c4, c5, c6, z6⟩ := h1.cells
 have lp := h1.lt.1
 have H := Lib.hid h
 have H1 := Lib.hid h1
 have HF1 := Lib.hid hf1
 have HW1 := Lib.hid hw1
 have hlook := (h1.map.look hKey hTy zeroHold hid).1
 unfold LM.commit
 cases hf : LM.find id st.hs with
 | none =>
  unfold hView at hlook
  rw [hf] at hlook
  simp only [Option.map_none, Option.getD_none, Option.isSome_none, hdZ] at hlook
  clear hf h h1 hf1 hw1
  go_enter_defers Tryz.func23, Tryz.ntmps23
  go_wp2_with (first | (go_at_call 49; refine (lock_free muLib ⟨p, 0, none⟩ _ c0 z0).mono ?_; rintro e w' ⟨rfl, rfl⟩; rw [← HW1.out]))
  have hL2 := H1.out.keep ((Below.refl _ w1).alloc (Nat.le_refl _) (.cells #[.int .i64 0, .int .i64 0, .int .i64 0, .bool false, .slice none 0 0] 44))
  refine leaves_cons (f := 50) (args := #[.pointer (some ⟨p, 0, none⟩)]) (by simp) (by simp [go_sem]) ?_
  refine (unlock_deferred muLib ⟨p, 0, none⟩ .returning _ hL2.cells.1 hL2.cells.2.1).mono ?_
  rintro e u' w'' ⟨rfl, rfl, rfl⟩
  obtain ⟨F', q1, q2, q3⟩ := H.out.close hL2 (HF1.out.alloc _) (fun i hi => .inl hi) (fun k hk i hi => .inl ⟨k, hk, hi⟩)
  exact ⟨_, results_tmp rfl _ _ _, rfl, F', q1, q2, q3⟩
 | some g =>
  obtain ⟨hg, hgi⟩ := LM.find_some hf
  obtain ⟨b, cV, eV, hsl, hbl, b1, b2, b3, b4⟩ := h1.slots hg
  have hgo := h.ok.ok g hg
  unfold hView at hlook
  rw [hf] at hlook
  simp only [Option.map_some, Option.getD_some, Option.isSome_some, hdV, eV] at hlook
  obtain ⟨m, hm'⟩ : ∃ m, m = g.sl.length := ⟨_, rfl⟩
  rw [← hm'] at hlook eV
  have hgid : g.id = id := hgi
  rw [hgi] at hlook
  obtain ⟨gq, e2⟩ : ∃ x, x = g.q := ⟨_, rfl⟩
  obtain ⟨gu, e3⟩ : ∃ x, x = g.un := ⟨_, rfl⟩
  obtain ⟨gr, e4⟩ : ∃ x, x = g.run := ⟨_, rfl⟩
  rw [← e2, ← e3, ← e4] at hlook
  simp only
  rw [← e3, ← e4]
  have HE := Lib.hid (And.intro e2 (And.intro e3 (And.intro e4 (And.intro hm' (And.intro eV (And.intro hg (And.intro hgi (And.intro hgo hun))))))))
  clear hf h h1 hf1 hw1 hsl hgo e2 e3 e4 hm' eV hg hgi hgid hun
  cases gr
  ·rw [if_neg (by simp)]
   by_cases hlt : gu < now
   ·rw [if_pos hlt]
    have t0 : decide (gu < now) = true := decide_eq_true hlt
    have t1 : decide (now > gu) = true := decide_eq_true hlt
    clear hlt
    go_enter_defers Tryz.func23, Tryz.ntmps23
    go_wp2_with (first | (go_at_call 49; refine (lock_free muLib ⟨p, 0, none⟩ _ c0 z0).mono ?_; rintro e w' ⟨rfl, rfl⟩; rw [← HW1.out]))
    have hL2 := H1.out.keep ((Below.refl _ w1).alloc (Nat.le_refl _) (.cells #[.int .i64 id, .int .i64 gq, .int .i64 gu, .bool false, .slice (some ⟨b, 0, none⟩) m cV] 44))
    refine leaves_cons (f := 50) (args := #[.pointer (some ⟨p, 0, none⟩)]) (by simp) (by simp [go_sem]) ?_
    refine (unlock_deferred muLib ⟨p, 0, none⟩ .returning _ hL2.cells.1 hL2.cells.2.1).mono ?_
    rintro e u' w'' ⟨rfl, rfl, rfl⟩
    obtain ⟨F', q1, q2, q3⟩ := H.out.close hL2 (HF1.out.alloc _) (fun i hi => .inl hi) (fun k hk i hi => .inl ⟨k, hk, hi⟩)
    exact ⟨_, results_tmp rfl _ _ _, rfl, F', q1, q2, q3⟩
   ·rw [if_neg hlt]
    have t0 : decide (gu < now) = false := decide_eq_false hlt
    have t1 : decide (now > gu) = false := decide_eq_false hlt
    clear hlt
    have hLb := (H1.out.keep ((Below.refl _ w1).alloc (Nat.le_refl _) (.cells #[.int .i64 id, .int .i64 gq, .int .i64 un, .bool true, .slice (some ⟨b, 0, none⟩) m cV] 44))).keep (Below.refl _ _).drew
    have hbk := heap_alloc_new w1 (.cells #[.int .i64 id, .int .i64 gq, .int .i64 un, .bool true, .slice (some ⟨b, 0, none⟩) m cV] 44)
    obtain ⟨y0, y1, y2, y3, y4, _⟩ := blk5 (w := (w1.alloc (.cells #[.int .i64 id, .int .i64 gq, .int .i64 un, .bool true, .slice (some ⟨b, 0, none⟩) m cV] 44)).drew) hbk
    have d4 := hLb.cells.2.2.2.2.1
    obtain ⟨w4, hrun, hL4, hf4⟩ := hLb.updated hfew (g := g) (g' := ⟨g.id, g.q, un, true, g.sl⟩) HE.out.2.2.2.2.2.1 rfl ⟨HE.out.2.2.2.2.2.2.2.1.id, HE.out.2.2.2.2.2.2.2.1.q, HE.out.2.2.2.2.2.2.2.2, HE.out.2.2.2.2.2.2.2.1.n1, HE.out.2.2.2.2.2.2.2.1.n2, HE.out.2.2.2.2.2.2.2.1.sl⟩ (hLb.ok.q g HE.out.2.2.2.2.2.1) (V g.id) (hLb.rows g HE.out.2.2.2.2.2.1)
     (fun i hi => by obtain ⟨a1, a2, a3, a4⟩ := hLb.av g HE.out.2.2.2.2.2.1 i hi; exact ⟨a1, a2, a3, a4, fun k hk hne => hLb.avv g HE.out.2.2.2.2.2.1 k hk (fun e => hne e.symm) i hi⟩)
    rw [HE.out.2.2.2.2.1] at hrun
    simp only [hdV] at hrun
    rw [← HE.out.1, HE.out.2.2.2.2.2.2.1] at hrun
    have HL4 := Lib.hid hL4
    have HF4 := Lib.hid hf4
    obtain ⟨_, _, _, _, _, _, d6, zz6⟩ := hL4.cells
    have HLB := Lib.hid hbk
    clear hLb hL4 hf4 hbk
    go_enter_defers Tryz.func23, Tryz.ntmps23
    go_wp2_with (first | (go_at_call 49; refine (lock_free muLib ⟨p, 0, none⟩ _ c0 z0).mono ?_; rintro e w' ⟨rfl, rfl⟩; rw [← HW1.out]))
    go_region
    go_wp2
    have hL5 := HL4.out.bump
    refine leaves_cons (f := 50) (args := #[.pointer (some ⟨p, 0, none⟩)]) (by simp) (by simp [go_sem]) ?_
    refine (unlock_deferred muLib ⟨p, 0, none⟩ .returning _ hL5.cells.1 hL5.cells.2.1).mono ?_
    rintro e u' w'' ⟨rfl, rfl, rfl⟩
    have hf5 : Foot (LB p hm FP FQ V st) w (w4.setCell ⟨p, 6, none⟩ (.int .i64 ((st.ver : Int) + 1))) := Foot.setCell (p := ⟨p, 6, none⟩) ((HF1.out.alloc _).drew.trans HF4.out fun i (hi : i = hm) => .inl (.inr (.inl hi))) (.inl (.inl rfl)) _
    obtain ⟨F', q1, q2, q3⟩ := H.out.close hL5 hf5 (fun i hi => .inl hi) (fun k hk i hi => by
     rcases vPut_upd (hs := st.hs) (g' := ⟨g.id, g.q, un, true, g.sl⟩) rfl hk hi with e | e
     ·exact .inl ⟨g, HE.out.2.2.2.2.2.1, e⟩
     ·exact .inl e)
    have hst : LM.upd id (fun h => { h with run := true, un := un }) st.hs = LM.upd g.id (fun _ => ⟨g.id, g.q, un, true, g.sl⟩) st.hs := by rw [← HE.out.2.2.2.2.2.2.1]; exact LM.upd_one H.out.ok.asc HE.out.2.2.2.2.2.1
    rw [hst]
    exact ⟨_, results_tmp rfl _ _ _, rfl, F', q1, q2, q3⟩
  ·rw [if_pos rfl]
   go_enter_defers Tryz.func23, Tryz.ntmps23
   go_wp2_with (first | (go_at_call 49; refine (lock_free muLib ⟨p, 0, none⟩ _ c0 z0).mono ?_; rintro e w' ⟨rfl, rfl⟩; rw [← HW1.out]))
   have hL2 := H1.out.keep ((Below.refl _ w1).alloc (Nat.le_refl _) (.cells #[.int .i64 id, .int .i64 gq, .int .i64 gu, .bool true, .slice (some ⟨b, 0, none⟩) m cV] 44))
   refine leaves_cons (f := 50) (args := #[.pointer (some ⟨p, 0, none⟩)]) (by simp) (by simp [go_sem]) ?_
   refine (unlock_deferred muLib ⟨p, 0, none⟩ .returning _ hL2.cells.1 hL2.cells.2.1).mono ?_
   rintro e u' w'' ⟨rfl, rfl, rfl⟩
   obtain ⟨F', q1, q2, q3⟩ := H.out.close hL2 (HF1.out.alloc _) (fun i hi => .inl hi) (fun k hk i hi => .inl ⟨k, hk, hi⟩)
   exact ⟨_, results_tmp rfl _ _ _, rfl, F', q1, q2, q3⟩
end Go.Proofs.YtgpfmlidchogcaaGreat

set_option maxRecDepth 100000
set_option linter.unusedVariables false
namespace Go.Proofs.YtgpfmlidchogcaaGreat
open Go.RowKit Go.Shelf

set_option maxHeartbeats 1000000 in
theorem late_cl {W : World} {bx : Nat} (g : Hd) (A : Option Addr) (c : Nat) (now : Int) (hx : W.cell? ⟨bx, 0, none⟩ = some (.int .i64 now)) :
  Calls Tryz.prog 68 #[hdV g (.slice A g.sl.length c), .pointer (some ⟨bx, 0, none⟩)] W fun e w' => e = .returned (.bool (LM.late now g)) ∧ Below W.heap.size W w' := by
 have lx := lt_of_cell hx
 obtain ⟨i, q, u, r, sl⟩ := g
 unfold hdV LM.late
 simp only
 generalize sl.length = n
 by_cases hlt : u < now
 ·have t0 : decide (u < now) = true := decide_eq_true hlt
  rw [t0]
  clear hlt
  cases r
  all_goals
   go_enter Tryz.func68, Tryz.ntmps68
   go_wp2
   go_ret
   exact ⟨rfl, (Below.refl _ _).alloc (Nat.le_refl _) _⟩
 ·have t0 : decide (u < now) = false := decide_eq_false hlt
  rw [t0]
  clear hlt
  cases r
  all_goals
   go_enter Tryz.func68, Tryz.ntmps68
   go_wp2
   go_ret
   exact ⟨rfl, (Below.refl _ _).alloc (Nat.le_refl _) _⟩
set_option maxHeartbeats 1000000 in
theorem on1_cl {W : World} {bx : Nat} (s : PM.Sl) (node : Int) (hx : W.cell? ⟨bx, 0, none⟩ = some (.int .i64 node)) :
  Calls Tryz.prog 72 #[.agg #[.int .i64 s.n, .int .i64 s.d, .int .u64 (s.m : Nat), .int .i64 s.c], .pointer (some ⟨bx, 0, none⟩)] W fun e w' => e = .returned (.bool (decide (s.n = node))) ∧ Below W.heap.size W w' := by
 have lx := lt_of_cell hx
 obtain ⟨a, b, m, c⟩ := s
 simp only
 obtain ⟨R, hR⟩ : ∃ R, R = decide (a = node) := ⟨_, rfl⟩
 have t0 : (a == node) = R := by rw [hR]; rfl
 rw [← hR]
 clear hR
 go_enter Tryz.func72, Tryz.ntmps72
 go_wp2
 go_ret
 exact ⟨by rw [← t0]; rfl, (Below.refl _ _).alloc (Nat.le_refl _) _⟩
instance : Inhabited PM.Sl := ⟨⟨0, 0, 0, 0⟩⟩
set_option maxHeartbeats 1000000 in
theorem on_cl {W : World} {bx : Nat} (g : Hd) (A : Option Addr) (c : Nat) (node : Int) (hx : W.cell? ⟨bx, 0, none⟩ = some (.int .i64 node)) (hs : Slots W W.heap.size A g.sl) (h1 : 1 ≤ g.sl.length) (hn : g.sl.length ≤ 16) :
  Calls Tryz.prog 70 #[hdV g (.slice A g.sl.length c), .pointer (some ⟨bx, 0, none⟩)] W fun e w' => e = .returned (.bool (LM.on node g)) ∧ Below W.heap.size W w' := by
 have lx := lt_of_cell hx
 obtain ⟨W1, hW1⟩ : ∃ W1, W1 = W.alloc (.cells #[.int .i64 g.id, .int .i64 g.q, .int .i64 g.un, .bool g.run, .slice A g.sl.length c] 44) := ⟨_, rfl⟩
 have hB1 : Below W.heap.size W W1 := by rw [hW1]; exact (Below.refl _ _).alloc (Nat.le_refl _) _
 have hx1 := (hB1.cell (p := ⟨bx, 0, none⟩) lx).trans hx
 have eg : ∀ args w, (callFunc 72 args).run Tryz.prog w = .ok (.enter 72 args) w := enters_of Tryz.func72 (by kernel_rfl) rfl
 rcases slots_els (Slots.keep hs hB1 hB1.size) with h0 | ⟨b, off, rfl, hb, hc⟩
 ·rw [h0] at h1; simp at h1
 have hcon := AnyQ.slices_ContainsFunc Tryz.hasF 4 Tryz.isAgg41 Tryz.sizeOf41 slC slC_len1 (fun s : PM.Sl => decide (s.n = node)) 72 #[.pointer (some ⟨bx, 0, none⟩)] eg b off g.sl.length c g.sl W1
  (fun W2 s hW2 => (on1_cl s node ((hW2.cell (p := ⟨bx, 0, none⟩) (Nat.lt_of_lt_of_le lx hB1.size)).trans hx1)).mono fun e w' h => ⟨h.1, below_step hW2 h.2⟩) (Nat.le_refl _) (by omega) hb
  (fun j hj i v hv => by
   have e1 : g.sl[j]! = g.sl[j] := getElem!_pos g.sl j hj
   rw [e1] at hv
   exact hc j g.sl[j] (List.getElem?_eq_getElem hj) i v hv)
 rw [List.take_length] at hcon
 have HC := Lib.hid (show Calls Tryz.prog 71 _ _ _ from hcon)
 have HW := Lib.hid hW1
 have HB := Lib.hid hB1
 unfold hdV LM.on
 obtain ⟨i, q, u, r, sl⟩ := g
 simp only at HC HW ⊢
 obtain ⟨n, hn'⟩ : ∃ n, n = sl.length := ⟨_, rfl⟩
 rw [← hn'] at HC HW ⊢
 obtain ⟨R, hR⟩ : ∃ R, R = sl.any fun s => decide (s.n = node) := ⟨_, rfl⟩
 rw [← hR] at HC ⊢
 clear hcon hW1 hB1 hx1 hs h1 hn hc hb eg hn' hR
 go_enter Tryz.func70, Tryz.ntmps70
 go_wp2_with fail
 rw [← HW.out]
 refine HC.out.mono ?_
 rintro e w2 ⟨rfl, hb2⟩
 go_wp2_with fail
 go_ret
 exact ⟨rfl, below_step HB.out hb2⟩
end Go.Proofs.YtgpfmlidchogcaaGreat

set_option maxRecDepth 100000
set_option linter.unusedVariables false
namespace Go.Proofs.YtgpfmlidchogcaaGreat
open Go.RowKit Go.MuLone

theorem turn_err {dr : List Bool} {x : Int} {b : Bool} (h : (turn dr x b).1 ≠ 0) : (turn dr x b).2 = dr := by
 unfold turn at h ⊢
 split
 ·rfl
 ·split
  ·rfl
  ·simp_all
namespace LM
theorem go_ver {fs : List Fr} : ∀ (l : List Hd) (st : LS), (l.foldl (letGo fs) st).ver = st.ver
 | [], _ => rfl
 | x :: l, st => by rw [List.foldl_cons, go_ver l]; rfl
end LM
theorem turn_len2 (dr : List Bool) (x : Int) (b : Bool) : (turn dr x b).2.length = dr.length := by
 unfold turn
 split
 ·rfl
 ·split
  ·rfl
  ·simp

set_option maxHeartbeats 4000000 in
theorem undrain_l {w : World} {p : Nat} {F : Nat → Prop} {fs : List Fr} {st : LS} (node : Int) (h : LObj w p F fs st) (hver : st.ver ≤ 100000) (hid : (Lit.int .i64 node).wf = true) :
  Calls Tryz.prog 30 #[.pointer (some ⟨p, 0, none⟩), .int .i64 node] w fun e w' => e = .returned (.int .i64 (LM.undrain st node).1) ∧ ∃ F', LObj w' p F' fs (LM.undrain st node).2 ∧ Foot F w w' ∧ ∀ i, F' i → F i ∨ w.heap.size ≤ i := by
 obtain ⟨pp, pa, hm, FP, FQ, V, h, rfl⟩ := h
 obtain ⟨c0, z0, _⟩ := h.cells
 have h1 := h.lock 1
 obtain ⟨w1, hw1⟩ : ∃ w1, w1 = w.setCell ⟨p, 0, none⟩ (.int .i32 1) := ⟨_, rfl⟩
 rw [← hw1] at h1
 have hf1 : Foot (LB p hm FP FQ V st) w w1 := by rw [hw1]; exact (foot_set w p 0 _).mono fun i hi => .inl hi
 have lw1 : w.heap.size ≤ w1.heap.size := hf1.size
 have hfew : st.hs.length ≤ 1000000 := by have := h.ok.few; omega
 obtain ⟨_, _, c2, c3, c4, c5, c6, z6⟩ := h1.cells
 have lp := h1.lt.1
 have H := Lib.hid h
 have H1 := Lib.hid h1
 have HF1 := Lib.hid hf1
 have HW1 := Lib.hid hw1
 have hU := h1.pool.undrain node hid
 unfold LM.undrain
 obtain ⟨R, hR⟩ : ∃ R, R = turn st.dr node false := ⟨_, rfl⟩
 have he : R.1 ≠ 0 → R.2 = st.dr := fun e => by rw [hR] at e ⊢; exact turn_err e
 have hl : R.2.length = st.dr.length := by rw [hR]; exact turn_len2 _ _ _
 rw [← hR] at hU ⊢
 have HU := Lib.hid hU
 have HE := Lib.hid (And.intro he hl)
 clear hR hU he hl h h1 hf1 hw1
 by_cases e1 : R.1 ≠ 0
 ·rw [if_pos e1]
  have t0 : (R.1 == 0) = false := beq_eq_false_iff_ne.2 e1
  have t1 : (R.1 != 0) = true := by rw [bne_iff_ne]; exact e1
  have E1 := Lib.hid e1
  clear e1
  go_enter_defers Tryz.func30, Tryz.ntmps30
  go_wp2_with (first | (go_at_call 49; refine (lock_free muLib ⟨p, 0, none⟩ _ c0 z0).mono ?_; rintro e w' ⟨rfl, rfl⟩; rw [← HW1.out]) | (go_at_call 73; refine HU.out.mono ?_; rintro e w2 ⟨rfl, hp2, hf2⟩))
  have hL2 := H1.out.pooled hp2 HE.out.2 hf2 fun i hi => .inl hi
  rw [HE.out.1 E1.out] at hL2
  refine leaves_cons (f := 50) (args := #[.pointer (some ⟨p, 0, none⟩)]) (by simp) (by simp [go_sem]) ?_
  refine (unlock_deferred muLib ⟨p, 0, none⟩ .returning _ hL2.cells.1 hL2.cells.2.1).mono ?_
  rintro e u' w'' ⟨rfl, rfl, rfl⟩
  obtain ⟨F', q1, q2, q3⟩ := H.out.close hL2 (HF1.out.trans (hf2.mono fun i hi => (.inr (.inr (.inl hi)) : LB p hm FP FQ V st i)) fun i hi => .inl hi) (fun i hi => .inl hi) (fun k hk i hi => .inl ⟨k, hk, hi⟩)
  exact ⟨_, results_tmp rfl _ _ _, rfl, F', q1, q2, q3⟩
 ·rw [if_neg e1]
  have e0 : R.1 = 0 := Classical.not_not.1 e1
  rw [e0] at HU
  clear e1 e0
  go_enter_defers Tryz.func30, Tryz.ntmps30
  go_wp2_with (first | (go_at_call 49; refine (lock_free muLib ⟨p, 0, none⟩ _ c0 z0).mono ?_; rintro e w' ⟨rfl, rfl⟩; rw [← HW1.out]) | (go_at_call 73; refine HU.out.mono ?_; rintro e w2 ⟨rfl, hp2, hf2⟩; have hL2 := H1.out.pooled hp2 HE.out.2 hf2 fun i hi => .inl hi; obtain ⟨_, _, _, _, _, _, d6, e6⟩ := hL2.cells))
  have hL3 := hL2.bump
  refine leaves_cons (f := 50) (args := #[.pointer (some ⟨p, 0, none⟩)]) (by simp) (by simp [go_sem]) ?_
  refine (unlock_deferred muLib ⟨p, 0, none⟩ .returning _ hL3.cells.1 hL3.cells.2.1).mono ?_
  rintro e u' w'' ⟨rfl, rfl, rfl⟩
  obtain ⟨F', q1, q2, q3⟩ := H.out.close hL3 (Foot.setCell (p := ⟨p, 6, none⟩) (HF1.out.trans (hf2.mono fun i hi => (.inr (.inr (.inl hi)) : LB p hm FP FQ V st i)) fun i hi => .inl hi) (.inl (.inl rfl)) _) (fun i hi => .inl hi) (fun k hk i hi => .inl ⟨k, hk, hi⟩)
  exact ⟨_, results_tmp rfl _ _ _, rfl, F', q1, q2, q3⟩

set_option maxHeartbeats 4000000 in
theorem expire_l {w : World} {p : Nat} {F : Nat → Prop} {fs : List Fr} {st : LS} (now : Int) (h : LObj w p F fs st) (hver : st.ver ≤ 100000) :
  Calls Tryz.prog 28 #[.pointer (some ⟨p, 0, none⟩), .int .i64 now] w fun e w' => (∃ A c, e = .returned (.slice A (LM.expire fs st now).1.length c) ∧ w'.ownsRow w.heap.size 3 1 (.slice A (LM.expire fs st now).1.length c) (LM.expire fs st now).1.length ((LM.expire fs st now).1.map (Value.int .i64))) ∧ ∃ F', LObj w' p F' fs (LM.expire fs st now).2 ∧ Foot F w w' ∧ ∀ i, F' i → F i ∨ w.heap.size ≤ i := by
 obtain ⟨pp, pa, hm, FP, FQ, V, h, rfl⟩ := h
 obtain ⟨W0, hW0⟩ : ∃ W0, W0 = w.alloc (.cells #[.int .i64 now] 3) := ⟨_, rfl⟩
 have hB0 : Below w.heap.size w W0 := by rw [hW0]; exact (Below.refl w.heap.size w).alloc (Nat.le_refl _) _
 have hbk0 : W0.heap[w.heap.size]? = some (.cells #[.int .i64 now] 3 (0, 0)) := by rw [hW0]; exact heap_alloc_new w _
 have h0 := h.keep hB0
 have hall := h.all
 have lR : w.heap.size < W0.heap.size := blk_lt hbk0
 have HB0 := Lib.hid hB0
 have HW0 := Lib.hid hW0
 have HALL := Lib.hid hall
 clear hW0 hB0 hall
 obtain ⟨c0, z0, _⟩ := h0.cells
 have h1 := h0.lock 1
 obtain ⟨w1, hw1⟩ : ∃ w1, w1 = W0.setCell ⟨p, 0, none⟩ (.int .i32 1) := ⟨_, rfl⟩
 rw [← hw1] at h1
 have hf1 : Foot (LB p hm FP FQ V st) W0 w1 := by rw [hw1]; exact (foot_set W0 p 0 _).mono fun i hi => .inl hi
 have lw1 : W0.heap.size ≤ w1.heap.size := hf1.size
 have hfew : st.hs.length ≤ 1000000 := by have := h.ok.few; omega
 obtain ⟨_, _, c2, c3, c4, c5, c6, z6⟩ := h1.cells
 have lp := h1.lt.1
 have hpne : p < w.heap.size := h.lt.1
 have hbk1 : w1.heap[w.heap.size]? = W0.heap[w.heap.size]? := hf1.block _ lR fun e => by have := HALL.out _ e; omega
 rw [hbk0] at hbk1
 have H := Lib.hid h0
 have H1 := Lib.hid h1
 have HF1 := Lib.hid hf1
 have HW1 := Lib.hid hw1
 have HBK1 := Lib.hid hbk1
 have hcl : ∀ g ∈ st.hs, ∀ W, Below w1.heap.size w1 W → Calls Tryz.prog 68 #[hdV g (V g.id), .pointer (some ⟨w.heap.size, 0, none⟩)] W fun e w' => e = .returned (.bool (LM.late now g)) ∧ Below W.heap.size W w' := fun g hg W hW => by
  obtain ⟨b, cV, eV, _⟩ := h1.slots hg
  rw [eV]
  exact late_cl g _ cV now (cell_blk (i := 0) ((hW.block _ (by omega)).trans HBK1.out) rfl)
 have hD := dropAll_late (LM.late now) h1 (by have := h.ok.few; omega) hcl
 unfold LM.expire
 obtain ⟨I, hI⟩ : ∃ I, I = LM.idsOf st (LM.late now) := ⟨_, rfl⟩
 rw [← hI] at hD ⊢
 have HI := Lib.hid hI
 by_cases hn : I = []
 ·rw [if_pos hn]
  have hgo0 : LM.allGo fs st (LM.late now) = st := by
   have : st.hs.filter (LM.late now) = [] := by
    rw [hI] at hn
    exact List.map_eq_nil_iff.1 hn
   unfold LM.allGo
   rw [this]; rfl
  rw [hgo0] at hD
  subst hn
  simp only [List.length_nil, List.map_nil] at hD ⊢
  have HD := Lib.hid hD
  clear hI hD hgo0 hcl h h0 h1 hf1 hw1 hbk0 hbk1
  go_enter_defers Tryz.func28, Tryz.ntmps28
  go_wp2_with (first | (go_at_call 49; rw [← HW0.out]; refine (lock_free muLib ⟨p, 0, none⟩ _ c0 z0).mono ?_; rintro e w' ⟨rfl, rfl⟩; rw [← HW1.out]) | (go_at_call 67; refine HD.out.mono ?_; rintro e w2 ⟨A, c, FP', rfl, ho2, hL2, hf2, hy2⟩; have HO2 := Lib.hid (And.intro ho2 (And.intro hf2 hy2)); obtain ⟨_, _, _, _, _, _, d6, e6⟩ := hL2.cells; clear ho2 hf2 hy2))
  refine leaves_cons (f := 50) (args := #[.pointer (some ⟨p, 0, none⟩)]) (by simp) (by simp [go_sem]) ?_
  refine (unlock_deferred muLib ⟨p, 0, none⟩ .returning _ hL2.cells.1 hL2.cells.2.1).mono ?_
  rintro e u' w'' ⟨rfl, rfl, rfl⟩
  obtain ⟨F', q1, q2, q3⟩ := H.out.close hL2 ((HF1.out.trans (HO2.out.2.1.mono fun i hi => ((by rcases hi with e | e | e; exact .inr (.inr (.inl e)); exact .inr (.inr (.inr (.inl e))); exact .inr (.inl e)) : LB p hm FP FQ V st i)) fun i hi => .inl hi)) (fun i hi => by rcases HO2.out.2.2 i hi with e | e; exact .inl e; exact .inr (Nat.le_trans lw1 e)) (fun k hk i hi => .inl ⟨k, hk, hi⟩)
  exact ⟨_, results_tmp rfl _ _ _, ⟨A, c, rfl, own_stays (own_low HO2.out.1 (Nat.le_trans HB0.out.size lw1)) fun i hi => Below.heap_setCell _ _ _ _ (fun e => by have := (HO2.out.1.lt i hi).1; simp at e; omega)⟩, F', q1, (Foot.of_below (F := LB p hm FP FQ V st) HB0.out).trans q2 fun i hi => .inl hi, fun i hi => by rcases q3 i hi with e | e; exact .inl e; exact .inr (Nat.le_trans HB0.out.size e)⟩
 ·rw [if_neg hn]
  obtain ⟨n, hn'⟩ : ∃ n, n = I.length := ⟨_, rfl⟩
  have hpos : 0 < n := by rw [hn']; exact List.length_pos_iff.2 hn
  rw [← hn'] at hD ⊢
  have hvg : (LM.allGo fs st (LM.late now)).ver = st.ver := LM.go_ver _ _
  have hv2 : (LM.allGo fs st (LM.late now)).ver ≤ 100000 := by rw [hvg]; exact hver
  obtain ⟨st2, hst2⟩ : ∃ st2, st2 = LM.allGo fs st (LM.late now) := ⟨_, rfl⟩
  have hsub : ∀ k ∈ (LM.allGo fs st (LM.late now)).hs, k ∈ st.hs := fun k hk => (LM.go_hs.1 hk).1
  rw [← hst2] at hD hv2 hsub ⊢
  have HD := Lib.hid hD
  have HSUB := Lib.hid hsub
  have t0 : decide (0 < n) = true := decide_eq_true hpos
  clear hI hD hn hn' hvg hst2 hsub hcl h h0 h1 hf1 hw1 hbk0 hbk1
  go_enter_defers Tryz.func28, Tryz.ntmps28
  go_wp2_with (first | (go_at_call 49; rw [← HW0.out]; refine (lock_free muLib ⟨p, 0, none⟩ _ c0 z0).mono ?_; rintro e w' ⟨rfl, rfl⟩; rw [← HW1.out]) | (go_at_call 67; refine HD.out.mono ?_; rintro e w2 ⟨A, c, FP', rfl, ho2, hL2, hf2, hy2⟩; have HO2 := Lib.hid (And.intro ho2 (And.intro hf2 hy2)); obtain ⟨_, _, _, _, _, _, d6, e6⟩ := hL2.cells; clear ho2 hf2 hy2))
  have hL3 := hL2.bump
  refine leaves_cons (f := 50) (args := #[.pointer (some ⟨p, 0, none⟩)]) (by simp) (by simp [go_sem]) ?_
  refine (unlock_deferred muLib ⟨p, 0, none⟩ .returning _ hL3.cells.1 hL3.cells.2.1).mono ?_
  rintro e u' w'' ⟨rfl, rfl, rfl⟩
  obtain ⟨F', q1, q2, q3⟩ := H.out.close hL3 (Foot.setCell (p := ⟨p, 6, none⟩) ((HF1.out.trans (HO2.out.2.1.mono fun i hi => ((by rcases hi with e | e | e; exact .inr (.inr (.inl e)); exact .inr (.inr (.inr (.inl e))); exact .inr (.inl e)) : LB p hm FP FQ V st i)) fun i hi => .inl hi)) (.inl (.inl rfl)) _) (fun i hi => by rcases HO2.out.2.2 i hi with e | e; exact .inl e; exact .inr (Nat.le_trans lw1 e)) (fun k hk i hi => .inl ⟨k, HSUB.out k hk, hi⟩)
  have ho3 := own_stays HO2.out.1 fun i hi => Below.heap_setCell w2 ⟨p, 6, none⟩ (.int .i64 ((st2.ver : Int) + 1)) i (fun e => by have := (HO2.out.1.lt i hi).1; simp at e; omega)
  exact ⟨_, results_tmp rfl _ _ _, ⟨A, c, rfl, own_stays (own_low ho3 (Nat.le_trans HB0.out.size lw1)) fun i hi => Below.heap_setCell _ _ _ _ (fun e => by have := (ho3.lt i hi).1; simp at e; omega)⟩, F', q1, (Foot.of_below (F := LB p hm FP FQ V st) HB0.out).trans q2 fun i hi => .inl hi, fun i hi => by rcases q3 i hi with e | e; exact .inl e; exact .inr (Nat.le_trans HB0.out.size e)⟩
end Go.Proofs.YtgpfmlidchogcaaGreat

set_option maxRecDepth 100000
set_option linter.unusedVariables false
namespace Go.Proofs.YtgpfmlidchogcaaGreat
open Go.RowKit Go.MuLone

set_option maxHeartbeats 4000000 in
theorem drain_l {w : World} {p : Nat} {F : Nat → Prop} {fs : List Fr} {st : LS} (node : Int) (h : LObj w p F fs st) (hver : st.ver ≤ 100000) (hid : (Lit.int .i64 node).wf = true) :
  Calls Tryz.prog 29 #[.pointer (some ⟨p, 0, none⟩), .int .i64 node] w fun e w' => (∃ A c, e = .returned (.tuple #[.slice A (LM.drain fs st node).1.1.length c, .int .i64 (LM.drain fs st node).1.2]) ∧ w'.ownsRow w.heap.size 3 1 (.slice A (LM.drain fs st node).1.1.length c) (LM.drain fs st node).1.1.length ((LM.drain fs st node).1.1.map (Value.int .i64))) ∧ ∃ F', LObj w' p F' fs (LM.drain fs st node).2 ∧ Foot F w w' ∧ ∀ i, F' i → F i ∨ w.heap.size ≤ i := by
 obtain ⟨pp, pa, hm, FP, FQ, V, h, rfl⟩ := h
 obtain ⟨W0, hW0⟩ : ∃ W0, W0 = w.alloc (.cells #[.int .i64 node] 3) := ⟨_, rfl⟩
 have hB0 : Below w.heap.size w W0 := by rw [hW0]; exact (Below.refl w.heap.size w).alloc (Nat.le_refl _) _
 have hbk0 : W0.heap[w.heap.size]? = some (.cells #[.int .i64 node] 3 (0, 0)) := by rw [hW0]; exact heap_alloc_new w _
 have h0 := h.keep hB0
 have hall := h.all
 have lR : w.heap.size < W0.heap.size := blk_lt hbk0
 have HB0 := Lib.hid hB0
 have HW0 := Lib.hid hW0
 have HALL := Lib.hid hall
 clear hW0 hB0 hall
 obtain ⟨c0, z0, _⟩ := h0.cells
 have h1 := h0.lock 1
 obtain ⟨w1, hw1⟩ : ∃ w1, w1 = W0.setCell ⟨p, 0, none⟩ (.int .i32 1) := ⟨_, rfl⟩
 rw [← hw1] at h1
 have hf1 : Foot (LB p hm FP FQ V st) W0 w1 := by rw [hw1]; exact (foot_set W0 p 0 _).mono fun i hi => .inl hi
 have lw1 : W0.heap.size ≤ w1.heap.size := hf1.size
 have hfew : st.hs.length ≤ 1000000 := by have := h.ok.few; omega
 obtain ⟨_, _, c2, c3, c4, c5, c6, z6⟩ := h1.cells
 have lp := h1.lt.1
 have hpne : p < w.heap.size := h.lt.1
 have hbk1 : w1.heap[w.heap.size]? = W0.heap[w.heap.size]? := hf1.block _ lR fun e => by have := HALL.out _ e; omega
 rw [hbk0] at hbk1
 have H := Lib.hid h0
 have H1 := Lib.hid h1
 have HF1 := Lib.hid hf1
 have HW1 := Lib.hid hw1
 have HBK1 := Lib.hid hbk1
 have hbd : ∀ w2, w1.heap.size = w2 → True := fun _ _ => trivial
 have b0 : w1.cell? ⟨w.heap.size, 0, none⟩ = some (.int .i64 node) := cell_blk (i := 0) hbk1 rfl
 have hU := fun W (hW : Below w1.heap.size w1 W) => (h1.keep hW).pool.drain node hid
 unfold LM.drain
 obtain ⟨R, hR⟩ : ∃ R, R = turn st.dr node true := ⟨_, rfl⟩
 have he : R.1 ≠ 0 → R.2 = st.dr := fun e => by rw [hR] at e ⊢; exact turn_err e
 have hl : R.2.length = st.dr.length := by rw [hR]; exact turn_len2 _ _ _
 rw [← hR] at hU ⊢
 have HE := Lib.hid (And.intro he hl)
 have lw9 : w.heap.size < w1.heap.size := by omega
 clear hR he hl h h0 h1 hf1 hw1 hbk0 hbk1 hbd
 by_cases e1 : R.1 ≠ 0
 ·rw [if_pos e1]
  have HU := Lib.hid hU
  have t0 : (R.1 == 0) = false := beq_eq_false_iff_ne.2 e1
  have t1 : (R.1 != 0) = true := by rw [bne_iff_ne]; exact e1
  have E1 := Lib.hid e1
  clear e1 hU
  go_enter_defers Tryz.func29, Tryz.ntmps29
  go_wp2_with (first | (go_at_call 49; rw [← HW0.out]; refine (lock_free muLib ⟨p, 0, none⟩ _ c0 z0).mono ?_; rintro e w' ⟨rfl, rfl⟩; rw [← HW1.out]))
  go_region_held3 (fun w' => w'.cell? ⟨p, 2, none⟩ = some (.pointer (some ⟨pp, 0, none⟩)) ∧ w'.cell? ⟨w.heap.size, 0, none⟩ = some (.int .i64 node))
   (go_keep)
   (first | (go_at_call 69; refine (HU.out _ (Below.refl _ _).drew).mono ?_; rintro e w2 ⟨rfl, hp2, hf2⟩; have HL2 := Lib.hid ((H1.out.keep (Below.refl _ _).drew).pooled hp2 HE.out.2 hf2 fun i hi => .inl hi); have HF2 := Lib.hid hf2; have v1 := HL2.out.cells.2.2.1; have v2 := (hf2.cell (p := ⟨w.heap.size, 0, none⟩) (by simp; omega) (fun e => by have := HALL.out _ (.inr (.inr (.inl e))); simp at this)).trans b0; clear hp2 hf2))
  have hL2 := HL2.out
  rw [HE.out.1 E1.out] at hL2
  clear v1 v2
  go_wp2
  refine leaves_cons (f := 50) (args := #[.pointer (some ⟨p, 0, none⟩)]) (by simp) (by simp [go_sem]) ?_
  refine (unlock_deferred muLib ⟨p, 0, none⟩ .returning _ hL2.cells.1 hL2.cells.2.1).mono ?_
  rintro e u' w'' ⟨rfl, rfl, rfl⟩
  obtain ⟨F', q1, q2, q3⟩ := H.out.close hL2 ((HF1.out.drew.trans (HF2.out.mono fun i hi => (.inr (.inr (.inl hi)) : LB p hm FP FQ V st i)) fun i hi => .inl hi)) (fun i hi => .inl hi) (fun k hk i hi => .inl ⟨k, hk, hi⟩)
  exact ⟨_, results_tmp2 rfl _ _ _, ⟨none, 0, rfl, World.ownsRow_nil _ _ _ _⟩, F', q1, (Foot.of_below (F := LB p hm FP FQ V st) HB0.out).trans q2 fun i hi => .inl hi, fun i hi => by rcases q3 i hi with e | e; exact .inl e; exact .inr (Nat.le_trans HB0.out.size e)⟩
 ·rw [if_neg e1]
  have e0 : R.1 = 0 := Classical.not_not.1 e1
  rw [e0] at hU
  have HU := Lib.hid hU
  clear e1 e0 hU
  go_enter_defers Tryz.func29, Tryz.ntmps29
  go_wp2_with (first | (go_at_call 49; rw [← HW0.out]; refine (lock_free muLib ⟨p, 0, none⟩ _ c0 z0).mono ?_; rintro e w' ⟨rfl, rfl⟩; rw [← HW1.out]))
  go_region_held3 (fun w' => w'.cell? ⟨p, 2, none⟩ = some (.pointer (some ⟨pp, 0, none⟩)) ∧ w'.cell? ⟨w.heap.size, 0, none⟩ = some (.int .i64 node))
   (go_keep)
   (first | (go_at_call 69; refine (HU.out _ (Below.refl _ _).drew).mono ?_; rintro e w2 ⟨rfl, hp2, hf2⟩; have HL2 := Lib.hid ((H1.out.keep (Below.refl _ _).drew).pooled hp2 HE.out.2 hf2 fun i hi => .inl hi); have HF2 := Lib.hid hf2; have v1 := HL2.out.cells.2.2.1; have v2 := (hf2.cell (p := ⟨w.heap.size, 0, none⟩) (by simp; omega) (fun e => by have := HALL.out _ (.inr (.inr (.inl e))); simp at this)).trans b0; clear hp2 hf2))
  have HL3 := Lib.hid HL2.out.bump
  have HSZ := Lib.hid (show (w2.setCell ⟨p, 6, none⟩ (.int .i64 ((st.ver : Int) + 1))).heap.size = w2.heap.size from by simp)
  have hbx3 : (w2.setCell ⟨p, 6, none⟩ (.int .i64 ((st.ver : Int) + 1))).heap[w.heap.size]? = some (.cells #[.int .i64 node] 3 (0, 0)) := (Below.heap_setCell _ _ _ _ (fun e => by simp at e; omega)).trans ((HF2.out.block _ (by simp; omega) (fun e => by have := HALL.out _ (.inr (.inr (.inl e))); omega)).trans HBK1.out)
  have HBX3 := Lib.hid hbx3
  have lx3 := blk_lt hbx3
  have hcl : ∀ g ∈ st.hs, ∀ W, Below (w2.setCell ⟨p, 6, none⟩ (.int .i64 ((st.ver : Int) + 1))).heap.size (w2.setCell ⟨p, 6, none⟩ (.int .i64 ((st.ver : Int) + 1))) W → Calls Tryz.prog 70 #[hdV g (V g.id), .pointer (some ⟨w.heap.size, 0, none⟩)] W fun e w' => e = .returned (.bool (LM.on node g)) ∧ Below W.heap.size W w' := fun g hg W hW => by
   obtain ⟨b, cV, eV, hsl, _⟩ := HL3.out.slots hg
   have hgo := HL3.out.ok.ok g hg
   rw [eV]
   exact on_cl g _ cV node (cell_blk (i := 0) ((hW.block _ lx3).trans HBX3.out) rfl) (Slots.keep hsl hW hW.size) hgo.n1 hgo.n2
  have hD := dropAll_on (LM.on node) HL3.out (by have := H1.out.ok.few; show st.hs.length ≤ 100000; omega) hcl
  have hv6 := HL2.out.cells.2.2.2.2.2.2
  have y6 := hv6.1
  have yz6 := hv6.2
  simp only at y6
  have HD := Lib.hid hD
  clear hD hcl hbx3 v1 v2 b0 hv6
  go_wp2_with (go_at_call 67; refine HD.out.mono ?_; rintro e w4 ⟨A, c, FP', rfl, ho4, hL4, hf4, hy4⟩)
  refine leaves_cons (f := 50) (args := #[.pointer (some ⟨p, 0, none⟩)]) (by simp) (by simp [go_sem]) ?_
  refine (unlock_deferred muLib ⟨p, 0, none⟩ .returning _ hL4.cells.1 hL4.cells.2.1).mono ?_
  rintro e u' w'' ⟨rfl, rfl, rfl⟩
  have hs3 : W0.heap.size ≤ w2.heap.size := Nat.le_trans lw1 HF2.out.size
  have hf5 : Foot (LB p hm FP FQ V st) W0 w4 := (Foot.setCell (p := ⟨p, 6, none⟩) ((HF1.out.drew.trans (HF2.out.mono fun i hi => (.inr (.inr (.inl hi)) : LB p hm FP FQ V st i)) fun i hi => .inl hi)) (.inl (.inl rfl)) _).trans (hf4.mono fun i hi => (by rcases hi with e | e | e; exact .inr (.inr (.inl e)); exact .inr (.inr (.inr (.inl e))); exact .inr (.inl e) : LB p hm FP FQ V st i)) fun i hi => .inl hi
  obtain ⟨F', q1, q2, q3⟩ := H.out.close hL4 hf5 (fun i hi => by rcases hy4 i hi with e | e; exact .inl e; exact .inr (by rw [HSZ.out] at e; exact Nat.le_trans hs3 e)) (fun k hk i hi => .inl ⟨k, (LM.go_hs.1 hk).1, hi⟩)
  have ho5 : w4.ownsRow w.heap.size 3 1 _ _ _ := own_low ho4 (by rw [HSZ.out]; exact Nat.le_trans HB0.out.size hs3)
  exact ⟨_, results_tmp2 rfl _ _ _, ⟨A, c, rfl, own_stays ho5 fun i hi => Below.heap_setCell _ _ _ _ (fun e => by have := (ho4.lt i hi).1; rw [HSZ.out] at this; simp at e; omega)⟩, F', q1, (Foot.of_below (F := LB p hm FP FQ V st) HB0.out).trans q2 fun i hi => .inl hi, fun i hi => by rcases q3 i hi with e | e; exact .inl e; exact .inr (Nat.le_trans HB0.out.size e)⟩
end Go.Proofs.YtgpfmlidchogcaaGreat

set_option maxRecDepth 100000
set_option linter.unusedVariables false
namespace Go.Proofs.YtgpfmlidchogcaaGreat
open Go.RowKit Go.MuLone

def HdIn (w : World) (G : Nat → Prop) (v : Value) (h : Hd) : Prop := ∃ A c, v = hdV h (.slice A h.sl.length c) ∧ Slots w w.heap.size A h.sl ∧ ∀ b off, A = some ⟨b, off, none⟩ → G b
abbrev set5 (W : World) (R : Nat) (v0 v1 v2 v3 v4 : Value) : World := ((((W.setCell ⟨R, 0, none⟩ v0).setCell ⟨R, 1, none⟩ v1).setCell ⟨R, 2, none⟩ v2).setCell ⟨R, 3, none⟩ v3).setCell ⟨R, 4, none⟩ v4
theorem set5_foot (W : World) (R : Nat) (v0 v1 v2 v3 v4 : Value) : Foot (· = R) W (set5 W R v0 v1 v2 v3 v4) :=
 Foot.setCell (F := (· = R)) (p := ⟨R, 4, none⟩) (Foot.setCell (F := (· = R)) (p := ⟨R, 3, none⟩) (Foot.setCell (F := (· = R)) (p := ⟨R, 2, none⟩) (Foot.setCell (F := (· = R)) (p := ⟨R, 1, none⟩) (Foot.setCell (F := (· = R)) (p := ⟨R, 0, none⟩) (Foot.refl _ W) (.inl rfl) _) (.inl rfl) _) (.inl rfl) _) (.inl rfl) _) (.inl rfl) _
theorem set5_blk {W : World} {R : Nat} {u0 u1 u2 u3 u4 : Value} {t : TypeId} (h : W.heap[R]? = some (.cells #[u0, u1, u2, u3, u4] t (0, 0))) (v0 v1 v2 v3 v4 : Value) : (set5 W R v0 v1 v2 v3 v4).heap[R]? = some (.cells #[v0, v1, v2, v3, v4] t (0, 0)) :=
 blk_put (i := 4) v4 (blk_put (i := 3) v3 (blk_put (i := 2) v2 (blk_put (i := 1) v1 (blk_put (i := 0) v0 h))))

set_option maxHeartbeats 4000000 in
theorem release_l {w : World} {p : Nat} {F : Nat → Prop} {fs : List Fr} {st : LS} (id : Int) (h : LObj w p F fs st) (hver : st.ver ≤ 100000) (hid : (Lit.int .i64 id).wf = true) :
  Calls Tryz.prog 27 #[.pointer (some ⟨p, 0, none⟩), .int .i64 id] w fun e w' => (∃ v, e = .returned (.tuple #[v, .int .i64 (LM.release fs st id).1.2]) ∧ HdIn w' (fun i => F i) v (LM.release fs st id).1.1) ∧ ∃ F', LObj w' p F' fs (LM.release fs st id).2 ∧ Foot F w w' ∧ ∀ i, F' i → F i ∨ w.heap.size ≤ i := by
 obtain ⟨pp, pa, hm, FP, FQ, V, h, rfl⟩ := h
 obtain ⟨W0, hW0⟩ : ∃ W0, W0 = w.alloc (.cells #[.int .i64 0, .int .i64 0, .int .i64 0, .bool false, .slice none 0 0] 44) := ⟨_, rfl⟩
 have hB0 : Below w.heap.size w W0 := by rw [hW0]; exact (Below.refl w.heap.size w).alloc (Nat.le_refl _) _
 have hbk0 : W0.heap[w.heap.size]? = some (.cells #[.int .i64 0, .int .i64 0, .int .i64 0, .bool false, .slice none 0 0] 44 (0, 0)) := by rw [hW0]; exact heap_alloc_new w _
 have h0 := h.keep hB0
 have hall := h.all
 have lR : w.heap.size < W0.heap.size := blk_lt hbk0
 have HB0 := Lib.hid hB0
 have HW0 := Lib.hid hW0
 have HALL := Lib.hid hall
 clear hW0 hB0 hall
 obtain ⟨c0, z0, _⟩ := h0.cells
 have h1 := h0.lock 1
 obtain ⟨w1, hw1⟩ : ∃ w1, w1 = W0.setCell ⟨p, 0, none⟩ (.int .i32 1) := ⟨_, rfl⟩
 rw [← hw1] at h1
 have hf1 : Foot (LB p hm FP FQ V st) W0 w1 := by rw [hw1]; exact (foot_set W0 p 0 _).mono fun i hi => .inl hi
 have lw1 : W0.heap.size ≤ w1.heap.size := hf1.size
 have hfew : st.hs.length ≤ 1000000 := by have := h.ok.few; omega
 obtain ⟨_, _, c2, c3, c4, c5, c6, z6⟩ := h1.cells
 have lp := h1.lt.1
 have hpne : p < w.heap.size := h.lt.1
 have hbk1 : w1.heap[w.heap.size]? = W0.heap[w.heap.size]? := hf1.block _ lR fun e => by have := HALL.out _ e; omega
 rw [hbk0] at hbk1
 have H := Lib.hid h0
 have H1 := Lib.hid h1
 have HF1 := Lib.hid hf1
 have HW1 := Lib.hid hw1
 have HBK1 := Lib.hid hbk1
 have HH := Lib.hid h
 have hlook := (h1.map.look hKey hTy zeroHold hid).1
 have hRF : ¬ LB p hm FP FQ V st w.heap.size := fun e => by have := HALL.out _ e; omega
 have HRF := Lib.hid hRF
 have lR1 : w.heap.size < w1.heap.size := blk_lt hbk1
 have rp : w.heap.size ≠ p := by omega
 obtain ⟨x0, x1, x2, x3, x4, xz0, xz1, xz2, xz3, xz4, _⟩ := blk5 hbk1
 unfold LM.release
 cases hf : LM.find id st.hs with
 | none =>
  unfold hView at hlook
  rw [hf] at hlook
  simp only [Option.map_none, Option.getD_none, Option.isSome_none, hdZ] at hlook
  clear hf h h1 hf1 hw1 hbk0 hbk1 hRF
  go_enter_defers Tryz.func27, Tryz.ntmps27
  go_wp2_with (first | (go_at_call 49; rw [← HW0.out]; refine (lock_free muLib ⟨p, 0, none⟩ _ c0 z0).mono ?_; rintro e w' ⟨rfl, rfl⟩; rw [← HW1.out]))
  have hL2 := (H1.out.foot (set5_foot w1 w.heap.size (.int .i64 0) (.int .i64 0) (.int .i64 0) (.bool false) (.slice none 0 0)) (fun i hi (e : i = w.heap.size) => HRF.out (e ▸ hi))).keep ((Below.refl _ _).alloc (Nat.le_refl _) (.cells #[.int .i64 0, .int .i64 0, .int .i64 0, .bool false, .slice none 0 0] 44))
  refine leaves_cons (f := 50) (args := #[.pointer (some ⟨p, 0, none⟩)]) (by simp) (by simp [go_sem]) ?_
  refine (unlock_deferred muLib ⟨p, 0, none⟩ .returning _ hL2.cells.1 hL2.cells.2.1).mono ?_
  rintro e u' w'' ⟨rfl, rfl, rfl⟩
  obtain ⟨F', r1, r2, r3⟩ := HH.out.close hL2 ((((Foot.of_below (F := LB p hm FP FQ V st) HB0.out).trans HF1.out fun i hi => .inl hi).trans (set5_foot w1 w.heap.size (.int .i64 0) (.int .i64 0) (.int .i64 0) (.bool false) (.slice none 0 0)) (fun i (e : i = w.heap.size) => .inr (Nat.le_of_eq e.symm))).alloc _) (fun i hi => .inl hi) (fun k hk i hi => .inl ⟨k, hk, hi⟩)
  have hbk9 := (Below.heap_setCell ((set5 w1 w.heap.size (.int .i64 0) (.int .i64 0) (.int .i64 0) (.bool false) (.slice none 0 0)).alloc (.cells #[.int .i64 0, .int .i64 0, .int .i64 0, .bool false, .slice none 0 0] 44)) ⟨p, 0, none⟩ (.int .i32 0) w.heap.size (fun e => rp (by simpa using e))).trans ((Below.heap_alloc _ (.cells #[.int .i64 0, .int .i64 0, .int .i64 0, .bool false, .slice none 0 0] 44) w.heap.size (by simp; omega)).trans (set5_blk HBK1.out (.int .i64 0) (.int .i64 0) (.int .i64 0) (.bool false) (.slice none 0 0)))
  obtain ⟨W9, hW9⟩ : ∃ W9, W9 = ((set5 w1 w.heap.size (.int .i64 0) (.int .i64 0) (.int .i64 0) (.bool false) (.slice none 0 0)).alloc (.cells #[.int .i64 0, .int .i64 0, .int .i64 0, .bool false, .slice none 0 0] 44)).setCell ⟨p, 0, none⟩ (.int .i32 0) := ⟨_, rfl⟩
  rw [← hW9] at hbk9 r1 r2 ⊢
  obtain ⟨q0, q1, q2, q3, q4, _⟩ := blk5 hbk9
  clear hW9
  exact ⟨.tuple #[.agg #[.int .i64 0, .int .i64 0, .int .i64 0, .bool false, .slice none 0 0], .int .i64 3], by simp [results, Tryz.results27, go_sem, q0, q1, q2, q3, q4], ⟨_, rfl, none, 0, rfl, .inl rfl, fun b off e => by cases e⟩, F', r1, r2, r3⟩
 | some g =>
  obtain ⟨hg, hgi⟩ := LM.find_some hf
  obtain ⟨b, cV, eV, hsl, hbl, b1, b2, b3, b4⟩ := h1.slots hg
  obtain ⟨B1, hB1⟩ : ∃ B1, B1 = w1.heap.size := ⟨_, rfl⟩
  have hbx := heap_alloc_new w1 (.cells #[.int .i64 g.id, .int .i64 g.q, .int .i64 g.un, .bool g.run, .slice (some ⟨b, 0, none⟩) g.sl.length cV] 44)
  have hD := drop_l g hg (h1.keep ((Below.refl _ _).alloc (Nat.le_refl _) (.cells #[.int .i64 g.id, .int .i64 g.q, .int .i64 g.un, .bool g.run, .slice (some ⟨b, 0, none⟩) g.sl.length cV] 44)))
  unfold hView at hlook
  rw [hf] at hlook
  simp only [Option.map_some, Option.getD_some, Option.isSome_some, hdV, eV] at hlook hD
  simp only
  have hbk1b := (Below.heap_alloc w1 (.cells #[.int .i64 g.id, .int .i64 g.q, .int .i64 g.un, .bool g.run, .slice (some ⟨b, 0, none⟩) g.sl.length cV] 44) w.heap.size lR1).trans hbk1
  have hBbx : Below w1.heap.size w1 (w1.alloc (.cells #[.int .i64 g.id, .int .i64 g.q, .int .i64 g.un, .bool g.run, .slice (some ⟨b, 0, none⟩) g.sl.length cV] 44)) := (Below.refl _ _).alloc (Nat.le_refl _) _
  have hslb := Slots.keep hsl hBbx hBbx.size
  clear hBbx
  have hLBb : LB p hm FP FQ V st b := .inr (.inr (.inr (.inr ⟨g, hg, by rw [eV]; rfl⟩)))
  obtain ⟨W1, hW1⟩ : ∃ W1, W1 = w1.alloc (.cells #[.int .i64 g.id, .int .i64 g.q, .int .i64 g.un, .bool g.run, .slice (some ⟨b, 0, none⟩) g.sl.length cV] 44) := ⟨_, rfl⟩
  have hf1b : Foot (LB p hm FP FQ V st) W0 W1 := by rw [hW1]; exact hf1.alloc _
  have lW1 : w1.heap.size < W1.heap.size := by rw [hW1]; simp
  rw [← hW1] at hbx hD hbk1b hslb
  have hB1x := hB1
  rw [← hB1x] at hbx
  have HBX := Lib.hid (And.intro hbx (And.intro hbk1b (And.intro hslb (And.intro hLBb hf1b))))
  have HD := Lib.hid hD
  have NBP := Lib.hid b3
  have HV := Lib.hid (And.intro eV (And.intro hg (And.intro b1 (And.intro b2 b4))))
  have nB : p ≠ B1 ∧ w.heap.size ≠ B1 ∧ w.heap.size < W1.heap.size ∧ B1 < W1.heap.size ∧ w.heap.size < B1 := by omega
  obtain ⟨nB1, nB2, nB3, nB4, nB5⟩ := nB
  have HW1b := Lib.hid hW1
  have HB1 := Lib.hid hB1
  obtain ⟨m, hm'⟩ : ∃ m, m = g.sl.length := ⟨_, rfl⟩
  obtain ⟨gid, e1⟩ : ∃ x, x = g.id := ⟨_, rfl⟩
  obtain ⟨gq, e2⟩ : ∃ x, x = g.q := ⟨_, rfl⟩
  obtain ⟨gu, e3⟩ : ∃ x, x = g.un := ⟨_, rfl⟩
  obtain ⟨gr, e4⟩ : ∃ x, x = g.run := ⟨_, rfl⟩
  rw [← hm', ← e1, ← e2, ← e3, ← e4] at hlook HD HW1b HBX
  have HE := Lib.hid (And.intro e1 (And.intro e2 (And.intro e3 (And.intro e4 hm'))))
  have lv : (LM.letGo fs st g).ver = st.ver := rfl
  clear hf h h1 hf1 hw1 hbk0 hbk1 hRF hsl hD hbx hbk1b hW1 hB1 hB1x eV hg hgi hm' e1 e2 e3 e4 hslb hLBb hf1b lv
  go_enter_defers Tryz.func27, Tryz.ntmps27
  go_wp2_with (first | (go_at_call 49; rw [← HW0.out]; refine (lock_free muLib ⟨p, 0, none⟩ _ c0 z0).mono ?_; rintro e w' ⟨rfl, rfl⟩; rw [← HW1.out]))
  rw [← HW1b.out, ← HB1.out]
  refine HD.out.mono ?_
  rintro e w2 ⟨rfl, F8, hL8, hf8, hy8⟩
  have hbk2 := (hf8.block w.heap.size nB3 (fun e => HRF.out (by rcases e with e | e | e; exact .inr (.inr (.inl e)); exact .inr (.inr (.inr (.inl e))); exact .inr (.inl e)))).trans HBX.out.2.1
  have hbx2 := (hf8.block B1 nB4 (fun e => by have := HALL.out B1 (by rcases e with e | e | e; exact .inr (.inr (.inl e)); exact .inr (.inr (.inr (.inl e))); exact .inr (.inl e)); omega)).trans HBX.out.1
  clear x0 x1 x2 x3 x4 xz0 xz1 xz2 xz3 xz4
  obtain ⟨x0, x1, x2, x3, x4, xz0, xz1, xz2, xz3, xz4, lx⟩ := blk5 hbk2
  obtain ⟨y0, y1, y2, y3, y4, _, _, _, _, _, ly⟩ := blk5 hbx2
  obtain ⟨_, _, _, _, _, _, d6, e6⟩ := hL8.cells
  have d6' : w2.cell? ⟨p, 6, none⟩ = some (.int .i64 (st.ver : Nat)) := d6
  have HL2 := Lib.hid hL8
  have HF2 := Lib.hid (And.intro hf8 (show ∀ i, F8 i → FP i ∨ W1.heap.size ≤ i from hy8))
  have HK2 := Lib.hid hbk2
  clear hL8 hf8 hy8 hbk2 hbx2 d6
  go_wp2
  have hL3 := HL2.out.bump
  have hL4 := hL3.foot (set5_foot _ w.heap.size (.int .i64 gid) (.int .i64 gq) (.int .i64 gu) (.bool gr) (.slice (some ⟨b, 0, none⟩) m cV)) (fun i hi (e : i = w.heap.size) => by
   subst e
   rcases hi with e | e | e | e | ⟨k, hk, e⟩
   ·exact rp e
   ·exact HRF.out (.inr (.inl e))
   ·rcases HF2.out.2 _ e with e2 | e2
    ·exact HRF.out (.inr (.inr (.inl e2)))
    ·omega
   ·exact HRF.out (.inr (.inr (.inr (.inl e))))
   ·exact HRF.out (.inr (.inr (.inr (.inr ⟨k, (LM.mem_del.1 hk).1, e⟩)))))
  refine leaves_cons (f := 50) (args := #[.pointer (some ⟨p, 0, none⟩)]) (by simp) (by simp [go_sem]) ?_
  refine (unlock_deferred muLib ⟨p, 0, none⟩ .returning _ hL4.cells.1 hL4.cells.2.1).mono ?_
  rintro e u' w'' ⟨rfl, rfl, rfl⟩
  have f2 : Foot (LB p hm FP FQ V st) w w2 := ((Foot.of_below (F := LB p hm FP FQ V st) HB0.out).trans HBX.out.2.2.2.2 fun i hi => .inl hi).trans (HF2.out.1.mono fun i hi => (by rcases hi with e | e | e; exact .inr (.inr (.inl e)); exact .inr (.inr (.inr (.inl e))); exact .inr (.inl e) : LB p hm FP FQ V st i)) fun i hi => .inl hi
  have f4 : Foot (LB p hm FP FQ V st) w (set5 (w2.setCell ⟨p, 6, none⟩ (.int .i64 (((LM.letGo fs st g).ver : Int) + 1))) w.heap.size (.int .i64 gid) (.int .i64 gq) (.int .i64 gu) (.bool gr) (.slice (some ⟨b, 0, none⟩) m cV)) := (Foot.setCell (p := ⟨p, 6, none⟩) f2 (.inl (.inl rfl)) _).trans (set5_foot _ w.heap.size _ _ _ _ _) fun i (e : i = w.heap.size) => .inr (Nat.le_of_eq e.symm)
  obtain ⟨F', r1, r2, r3⟩ := HH.out.close hL4 f4 (fun i hi => by rcases HF2.out.2 i hi with e | e; exact .inl e; exact .inr (by omega)) (fun k hk i hi => .inl ⟨k, (LM.mem_del.1 hk).1, hi⟩)
  have hbk3 := (Below.heap_setCell w2 ⟨p, 6, none⟩ (.int .i64 (((LM.letGo fs st g).ver : Int) + 1)) w.heap.size (fun e => rp (by simpa using e))).trans HK2.out
  have hbk9 := (Below.heap_setCell (set5 (w2.setCell ⟨p, 6, none⟩ (.int .i64 (((LM.letGo fs st g).ver : Int) + 1))) w.heap.size (.int .i64 gid) (.int .i64 gq) (.int .i64 gu) (.bool gr) (.slice (some ⟨b, 0, none⟩) m cV)) ⟨p, 0, none⟩ (.int .i32 0) w.heap.size (fun e => rp (by simpa using e))).trans (set5_blk hbk3 (.int .i64 gid) (.int .i64 gq) (.int .i64 gu) (.bool gr) (.slice (some ⟨b, 0, none⟩) m cV))
  have s2 : Slots w2 w2.heap.size (some ⟨b, 0, none⟩) g.sl := Slots.foot HBX.out.2.2.1 HF2.out.1 fun _ b' off e hf => by
   cases e
   rcases hf with e | e | e
   ·exact HV.out.2.2.1 e
   ·exact HV.out.2.2.2.1 e
   ·exact HV.out.2.2.2.2 e
  have lb : b < w.heap.size := HALL.out b HBX.out.2.2.2.1
  have g9 : Foot (fun i => i = p ∨ i = w.heap.size) w2 ((set5 (w2.setCell ⟨p, 6, none⟩ (.int .i64 (((LM.letGo fs st g).ver : Int) + 1))) w.heap.size (.int .i64 gid) (.int .i64 gq) (.int .i64 gu) (.bool gr) (.slice (some ⟨b, 0, none⟩) m cV)).setCell ⟨p, 0, none⟩ (.int .i32 0)) :=
   Foot.setCell (p := ⟨p, 0, none⟩) ((Foot.setCell (F := fun i => i = p ∨ i = w.heap.size) (p := ⟨p, 6, none⟩) (Foot.refl _ w2) (.inl (.inl rfl)) _).trans (set5_foot _ w.heap.size _ _ _ _ _) fun i (e : i = w.heap.size) => .inl (.inr e)) (.inl (.inl rfl)) _
  have s9 := Slots.foot s2 g9 fun _ b' off e hf => by
   cases e
   rcases hf with e | e
   ·exact NBP.out e
   ·omega
  obtain ⟨W9, hW9⟩ : ∃ W9, W9 = (set5 (w2.setCell ⟨p, 6, none⟩ (.int .i64 (((LM.letGo fs st g).ver : Int) + 1))) w.heap.size (.int .i64 gid) (.int .i64 gq) (.int .i64 gu) (.bool gr) (.slice (some ⟨b, 0, none⟩) m cV)).setCell ⟨p, 0, none⟩ (.int .i32 0) := ⟨_, rfl⟩
  rw [← hW9] at hbk9 r1 r2 s9 ⊢
  obtain ⟨q0, q1, q2, q3, q4, _⟩ := blk5 hbk9
  clear hW9
  refine ⟨.tuple #[.agg #[.int .i64 gid, .int .i64 gq, .int .i64 gu, .bool gr, .slice (some ⟨b, 0, none⟩) m cV], .int .i64 0], by simp [results, Tryz.results27, go_sem, q0, q1, q2, q3, q4], ⟨_, rfl, some ⟨b, 0, none⟩, cV, ?_, s9, fun b' off e => by cases e; exact HBX.out.2.2.2.1⟩, F', r1, r2, r3⟩
  unfold hdV; rw [HE.out.1, HE.out.2.1, HE.out.2.2.1, HE.out.2.2.2.1, HE.out.2.2.2.2]
end Go.Proofs.YtgpfmlidchogcaaGreat
