/- What is done to one slot: the closures of Take and Give. -/
import Derived.StillTactics
import Derived.StillTailTactics
import Derived.Deep.DrawnRows
import Derived.Deep.RegionHeld3
import Derived.OpenShut
import Derived.Test.YtkhbbfpajiimaaaGreatPoolTurn
namespace Go.Proofs.YtkhbbfpajiimaaaGreat
open Go.RowKit

namespace PM
theorem bits_ext {a b : Nat} (h : ∀ i, a.testBit i = b.testBit i) : a = b := Nat.eq_of_testBit_eq h
theorem busy_iff {s f t : Nat} : MM.sub s (MM.sub f t) = 0 ↔ s &&& f = s ∧ s &&& t = 0 := by
  constructor
  · intro h
    have hb : ∀ i, s.testBit i = true → f.testBit i = true ∧ t.testBit i = false := fun i hi => by
      have := congrArg (fun x => x.testBit i) h
      simp only [MM.testBit_sub, Nat.zero_testBit, hi] at this
      revert this
      cases f.testBit i <;> cases t.testBit i <;> simp
    exact ⟨bits_ext fun i => by rw [Nat.testBit_and]; cases hi : s.testBit i; rfl; rw [(hb i hi).1]; rfl, bits_ext fun i => by rw [Nat.testBit_and, Nat.zero_testBit]; cases hi : s.testBit i; rfl; rw [(hb i hi).2]; rfl⟩
  · rintro ⟨h1, h2⟩
    refine bits_ext fun i => ?_
    have := congrArg (fun x => x.testBit i) h2
    simp only [Nat.testBit_and, Nat.zero_testBit] at this
    rw [MM.testBit_sub, MM.testBit_sub, Nat.zero_testBit]
    cases hi : s.testBit i
    · rfl
    · rw [and_sub_iff h1 i hi]; rw [hi] at this; simp at this; simp [this]
theorem sub_sub (f t s : Nat) : MM.sub (MM.sub f t) s = MM.sub f (t ||| s) := bits_ext fun i => by
  rw [MM.testBit_sub, MM.testBit_sub, MM.testBit_sub, Nat.testBit_or]; cases f.testBit i <;> cases t.testBit i <;> cases s.testBit i <;> rfl
theorem none_iff {s f : Nat} : MM.sub s f = 0 ↔ s &&& f = s := by
  have := @busy_iff s f 0
  have e : MM.sub f 0 = f := bits_ext fun i => by rw [MM.testBit_sub]; simp
  rw [e] at this; simpa using this
theorem twice_iff {s f t : Nat} (h : s &&& f = s) : s &&& MM.sub f t = 0 ↔ s &&& t = s := by
  constructor
  · intro e
    refine bits_ext fun i => ?_
    have := congrArg (fun x => x.testBit i) e
    simp only [Nat.testBit_and, MM.testBit_sub, Nat.zero_testBit] at this
    rw [Nat.testBit_and]
    cases hi : s.testBit i
    · rfl
    · rw [hi, and_sub_iff h i hi] at this; simp at this; simp [this]
  · intro e
    refine bits_ext fun i => ?_
    rw [Nat.testBit_and, MM.testBit_sub, Nat.zero_testBit]
    cases hi : s.testBit i
    · rfl
    · rw [and_sub_iff e i hi]; simp
theorem or_sub {s f t : Nat} (h : s &&& f = s) : MM.sub f t ||| s = MM.sub f (MM.sub t s) := bits_ext fun i => by
  rw [Nat.testBit_or, MM.testBit_sub, MM.testBit_sub, MM.testBit_sub]
  cases hi : s.testBit i
  · simp
  · rw [and_sub_iff h i hi]; simp
theorem free_set {fs ts : List Fr} {k : Nat} {f u : Fr} (hf : fs[k]? = some f) (hk : k < ts.length) : free fs (ts.set k u) = (free fs ts).set k (freeOf f u) := by
  have hkf := (List.getElem?_eq_some_iff.1 hf).1
  refine List.ext_getElem? fun i => ?_
  by_cases e : k = i
  · subst e
    rw [List.getElem?_set_self (by unfold free; rw [List.length_zipWith]; omega)]
    exact free_at hf (List.getElem?_set_self hk)
  · rw [List.getElem?_set_ne e]
    unfold free
    rw [List.getElem?_zipWith, List.getElem?_zipWith, List.getElem?_set_ne e]
end PM
theorem flat_set : ∀ {l : List Fr} {k : Nat} {f : Fr} (m c : Nat), l[k]? = some f → (l.set k ⟨f.n, f.d, m, c⟩).flatMap frC = ((l.flatMap frC).set (k * 4 + 2) (.int .u64 (m : Nat))).set (k * 4 + 3) (.int .i64 (c : Nat))
  | [], _, _, _, _, h => by simp at h
  | x :: l, 0, f, m, c, h => by simp at h; subst h; simp [frC]
  | x :: l, k + 1, f, m, c, h => by
    have ih := flat_set m c (l := l) (k := k) (f := f) (by simpa using h)
    rw [List.set_cons_succ, List.flatMap_cons, ih, List.flatMap_cons, show (k + 1) * 4 + 2 = k * 4 + 2 + 4 by omega, show (k + 1) * 4 + 3 = k * 4 + 3 + 4 by omega]
    simp [frC]
/-- A slot that is handed over. -/
structure SlOk (s : PM.Sl) : Prop where
  n : (Lit.int .i64 s.n).wf = true
  d : (Lit.int .i64 s.d).wf = true
  m : s.m < 18446744073709551616
  c : (Lit.int .i64 s.c).wf = true
def slV (s : PM.Sl) : Value := .agg #[.int .i64 s.n, .int .i64 s.d, .int .u64 (s.m : Nat), .int .i64 s.c]
/-- One spot's free units are written anew. -/
theorem PoolAt.wrote {T : Nat → Prop} {w w1 w' : World} {p g dm k : Nat} {fs ts : List Fr} {dr : List Bool} {f t : Fr} (u : Fr) (M C : Int) (h : PoolAt w T p g dm fs ts dr) (hf : fs[k]? = some f) (ht : ts[k]? = some t) (hw : Below w.heap.size w w1) (hi : PM.Inv fs (ts.set k u))
    (hft : Foot (· = g) w w') (e : w'.heap = ((w1.setCell ⟨g, k * 4 + 2, none⟩ (.int .u64 M)).setCell ⟨g, k * 4 + 3, none⟩ (.int .i64 C)).heap) (hM : M = (MM.sub f.m u.m : Nat)) (hC : C = ((f.c - u.c : Nat) : Int)) :
    PoolAt w' T p g dm fs (ts.set k u) dr := by
  subst hM hC
  obtain ⟨l1, l2, l3⟩ := h.lt
  obtain ⟨n1, n2, n3⟩ := h.ne
  obtain ⟨a, h1, h2⟩ := h.blk
  refine ⟨h.ok, hi, ⟨a, (hft.block p l1 n1).trans h1, h2.off hft.size fun i hi hlt => hft.block i hlt fun e => h.out.2.1 (e ▸ hi)⟩, ?_, h.drs.of_block (hft.block dm l3 (Ne.symm n3)), h.out, fun i hi => Nat.lt_of_lt_of_le (h.old i hi) hft.size⟩
  have hr : w1.heap[g]? = some (rowBlk (PM.free fs ts)) := (hw.block g l2).trans h.row
  rw [e]
  unfold rowBlk at hr ⊢
  rw [blk_put _ (blk_put _ hr), PM.free_set hf (List.getElem?_eq_some_iff.1 ht).1]
  have hfr := PM.free_at hf ht
  have := flat_set (MM.sub f.m u.m) (f.c - u.c) hfr
  simp only [PM.freeOf] at this ⊢
  rw [this]
  simp
theorem box_free {W w1 : World} {v0 v1 v2 v3 : Value} {t : TypeId} (hb : Below (W.alloc (.cells #[v0, v1, v2, v3] t)).drew.heap.size (W.alloc (.cells #[v0, v1, v2, v3] t)).drew w1) :
    w1.cell? ⟨W.heap.size, 0, none⟩ = some v0 ∧ w1.cell? ⟨W.heap.size, 1, none⟩ = some v1 ∧ w1.cell? ⟨W.heap.size, 2, none⟩ = some v2 ∧ w1.cell? ⟨W.heap.size, 3, none⟩ = some v3 ∧
    w1.frozen? ⟨W.heap.size, 0, none⟩ = false ∧ w1.frozen? ⟨W.heap.size, 1, none⟩ = false ∧ w1.frozen? ⟨W.heap.size, 2, none⟩ = false ∧ w1.frozen? ⟨W.heap.size, 3, none⟩ = false ∧ w1.heap[W.heap.size]? = some (.cells #[v0, v1, v2, v3] t (0, 0)) := by
  have h : w1.heap[W.heap.size]? = some (.cells #[v0, v1, v2, v3] t (0, 0)) := (hb.block _ (by show W.heap.size < (W.alloc _).heap.size; simp)).trans (heap_alloc_new W _)
  exact ⟨cell_blk (i := 0) h rfl, cell_blk (i := 1) h rfl, cell_blk (i := 2) h rfl, cell_blk (i := 3) h rfl, frozen_blk h, frozen_blk h, frozen_blk h, frozen_blk h, h⟩
theorem PoolAt.cells {T : Nat → Prop} {w : World} {p g dm k : Nat} {fs ts : List Fr} {dr : List Bool} {f t : Fr} (h : PoolAt w T p g dm fs ts dr) (hf : fs[k]? = some f) (ht : ts[k]? = some t) :
    w.cell? ⟨g, k * 4 + 2, none⟩ = some (.int .u64 (MM.sub f.m t.m : Nat)) ∧ w.cell? ⟨g, k * 4 + 3, none⟩ = some (.int .i64 ((f.c - t.c : Nat) : Int)) ∧ w.frozen? ⟨g, k * 4 + 2, none⟩ = false ∧ w.frozen? ⟨g, k * 4 + 3, none⟩ = false := by
  have hr := h.row
  have hfr := PM.free_at hf ht
  unfold rowBlk at hr
  refine ⟨cell_blk hr ?_, cell_blk hr ?_, frozen_blk hr, frozen_blk hr⟩
  · rw [List.getElem?_toArray, flat_at hfr (by omega)]; rfl
  · rw [List.getElem?_toArray, flat_at hfr (by omega)]; rfl
set_option maxRecDepth 100000 in
set_option maxHeartbeats 2000000 in
theorem take_cl {T : Nat → Prop} (p g dm bx k : Nat) (fs ts : List Fr) (dr : List Bool) (f t : Fr) (s : PM.Sl) (w : World) (h : PoolAt w T p g dm fs ts dr) (hbx : w.cell? ⟨bx, 0, none⟩ = some (.pointer (some ⟨p, 0, none⟩))) (hs : SlOk s) (h0 : 0 ≤ s.c)
    (hk : PM.find s.n s.d fs = some k) (hf : fs[k]? = some f) (ht : ts[k]? = some t) :
    Calls Tryz.prog 138 #[.pointer (some ⟨g, k * 4, none⟩), slV s, .pointer (some ⟨bx, 0, none⟩)] w fun e w' =>
      e = .returned (.int .i64 (PM.one fs dr false s ts).1) ∧ PoolAt w' T p g dm fs (PM.one fs dr false s ts).2 dr ∧ Foot (· = g) w w' := by
  have hB1 := (Below.refl w.heap.size w).alloc (Nat.le_refl _) (.cells #[.int .i64 s.n, .int .i64 s.d, .int .u64 (s.m : Nat), .int .i64 s.c] 41)
  have hD := Lib.hid (fun W (hW : Below w.heap.size w W) => drained_any p g dm fs ts dr s.n W (h.keep hW) hs.n)
  have hbl := lt_of_cell hbx
  have hfn : (f.n : Int) = s.n := by
    obtain ⟨f', hf', h1, _⟩ := PM.find_hit hk
    rw [hf] at hf'; cases hf'; exact h1
  obtain ⟨i1, i2, i3, i4⟩ := h.inv.2 k f t hf ht
  obtain ⟨k1, k2⟩ := h.ok.ok f (List.mem_of_getElem? hf)
  have ks := hs.m
  have kc := bounds_i64 hs.c
  obtain ⟨F, hF⟩ : ∃ F, F = MM.sub f.m t.m := ⟨_, rfl⟩
  obtain ⟨C, hC⟩ : ∃ C, C = f.c - t.c := ⟨_, rfl⟩
  have hFl : F < 18446744073709551616 := by rw [hF]; exact MM.sub_lt _ k1
  have b1 := (hB1.cell (p := ⟨bx, 0, none⟩) hbl).trans hbx
  have hl := h.lt.2.1
  obtain ⟨c2, c3, z2, z3⟩ := (h.keep hB1).cells hf ht
  rw [← hF] at c2
  rw [← hC] at c3
  have hCl : (C : Int) ≤ 1024 := by omega
  have hone : PM.one fs dr false s ts = if isDr dr s.n = true then (8, ts) else if MM.sub s.m F ≠ 0 ∨ (C : Int) < s.c then (5, ts) else (0, ts.set k (PM.up t s)) := by
    unfold PM.one
    rw [if_neg (by omega)]
    simp only [hk, hf, ht, Bool.false_eq_true, if_false]
    rw [← hfn]
    simp only [isDr_iff]
    by_cases hd : dr[f.n]? = some true
    · rw [if_pos hd, if_pos hd]
    · rw [if_neg hd, if_neg hd, hF, hC]
      have e : (MM.sub s.m (MM.sub f.m t.m) ≠ 0 ∨ ((f.c - t.c : Nat) : Int) < s.c) ↔ (s.m &&& f.m ≠ s.m ∨ s.m &&& t.m ≠ 0 ∨ (f.c : Int) - (t.c : Int) < s.c) := by
        rw [Ne, PM.busy_iff, Classical.not_and_iff_not_or_not, or_assoc, show ((f.c - t.c : Nat) : Int) = (f.c : Int) - (t.c : Int) by omega]
      by_cases hc : s.m &&& f.m ≠ s.m ∨ s.m &&& t.m ≠ 0 ∨ (f.c : Int) - (t.c : Int) < s.c
      · rw [if_pos hc, if_pos (e.2 hc)]
      · rw [if_neg hc, if_neg (fun h => hc (e.1 h))]; rfl
  have HI := Lib.hid (show MM.sub s.m F = 0 ∧ s.c ≤ (C : Int) → PM.Inv fs (ts.set k (PM.up t s)) from fun ⟨e1, e2⟩ => by
    rw [hF, PM.busy_iff] at e1
    have hu := PM.one_inv (dr := []) (give := false) (s := s) h.inv
    rwa [(PM.Takes.mk h0 hk hf ht (by simp) e1.1 e1.2 (by omega) : PM.Takes fs [] s k f t ts).eq] at hu)
  have HP := Lib.hid h
  have HB := Lib.hid hB1
  rw [hone]
  have HF := Lib.hid (And.intro hF (And.intro hC (And.intro hf (And.intro ht hk))))
  clear hone hf ht hk i1 i2 i3 hB1 hfn hF hC
  obtain ⟨x, y, m, c⟩ := s
  simp only [slV] at *
  by_cases hd : isDr dr x = true
  · rw [if_pos hd]
    rw [hd] at hD
    clear hd h hs
    go_enter Tryz.func138, Tryz.ntmps138
    go_wp2_with (go_at_call 97; refine (hD.out _ HB.out).mono ?_; rintro e w1 ⟨rfl, rfl⟩)
    go_ret
    exact ⟨rfl, HP.out.keep HB.out, Foot.of_below HB.out⟩
  rw [if_neg hd]
  rw [Bool.not_eq_true] at hd
  rw [hd] at hD
  clear hd h hs
  obtain ⟨X, hX⟩ : ∃ X, X = MM.sub m F := ⟨_, rfl⟩
  have hXn := not_u64 m F ks hFl
  rw [← hX] at hXn ⊢
  have HX := Lib.hid hX
  clear hX
  by_cases hm : X = 0
  · have t1 : ((X : Int) != 0) = false := by rw [hm]; rfl
    by_cases hc : (C : Int) < c
    · rw [if_pos (.inr hc)]
      have t2 : decide ((C : Int) < c) = true := by simpa using hc
      clear hc hm
      go_enter Tryz.func138, Tryz.ntmps138
      go_wp2_with (go_at_call 97; refine (hD.out _ HB.out).mono ?_; rintro e w1 ⟨rfl, rfl⟩)
      go_quiet (fail)
      go_wp2
      go_ret
      exact ⟨rfl, HP.out.keep (below_drewN HB.out _), Foot.of_below (below_drewN HB.out _)⟩
    · rw [if_neg (by rintro (h | h); exact h hm; exact hc h)]
      have t2 : decide ((C : Int) < c) = false := by simpa using hc
      have hc2 : c ≤ (C : Int) := by omega
      have hm0 := Lib.hid hm
      clear hc hm
      go_enter Tryz.func138, Tryz.ntmps138
      go_wp2_with (go_at_call 97; refine (hD.out _ HB.out).mono ?_; rintro e w1 ⟨rfl, rfl⟩)
      go_quiet (fail)
      go_wp2
      obtain ⟨Y, hY⟩ : ∃ Y, Y = MM.sub F m := ⟨_, rfl⟩
      have hYn := not_u64 F m hFl ks
      rw [← hY] at hYn
      have HY := Lib.hid hY
      clear hY
      obtain ⟨W, hW⟩ : ∃ W, W = (w.alloc (.cells #[.int .i64 x, .int .i64 y, .int .u64 (m : Nat), .int .i64 c] 41)).drewN nq := ⟨_, rfl⟩
      have hBW : Below w.heap.size w W := by rw [hW]; exact below_drewN HB.out _
      have hbW : W.heap[w.heap.size]? = some (.cells #[.int .i64 x, .int .i64 y, .int .u64 (m : Nat), .int .i64 c] 41 (0, 0)) := by rw [hW]; exact heap_alloc_new w _
      obtain ⟨d2, d3, y2, y3⟩ := (HP.out.keep hBW).cells HF.out.2.2.1 HF.out.2.2.2.1
      rw [← HF.out.1] at d2
      rw [← HF.out.2.1] at d3
      have e2 : W.cell? ⟨w.heap.size, 2, none⟩ = some (.int .u64 (m : Nat)) := cell_blk (i := 2) hbW rfl
      have e3 : W.cell? ⟨w.heap.size, 3, none⟩ = some (.int .i64 c) := cell_blk (i := 3) hbW rfl
      have hne : g ≠ w.heap.size := by omega
      rw [← hW]
      clear hW b1 c2 c3 z2 z3
      have HW := Lib.hid (And.intro hBW hbW)
      clear hBW hbW
      go_still_tail 9, (by kernel_rfl)
      change wpList _ _ _ _ _ W.drew
      go_wp2
      obtain ⟨W2, hW2⟩ : ∃ W2, W2 = (W.setCell ⟨g, k * 4 + 2, none⟩ (.int .u64 (Y : Nat))).drew := ⟨_, rfl⟩
      have q3 : W2.cell? ⟨g, k * 4 + 3, none⟩ = some (.int .i64 (C : Nat)) := by rw [hW2]; go_simp
      have r3 : W2.frozen? ⟨g, k * 4 + 3, none⟩ = false := by rw [hW2]; go_simp
      have s3 : W2.cell? ⟨w.heap.size, 3, none⟩ = some (.int .i64 c) := by rw [hW2]; go_simp
      rw [← hW2]
      have HW2 := Lib.hid hW2
      clear hW2 d2 d3 y2 y3 e2 e3
      go_still_tail 9, (by kernel_rfl)
      change wpList _ _ _ _ _ W2.drew
      go_wp2
      go_ret
      obtain ⟨u1, u2, u3, u4, u5⟩ := HF.out
      have hi : PM.Inv fs (ts.set k (PM.up t ⟨x, y, m, c⟩)) := HI.out ⟨by rw [← HX.out, hm0.out], hc2⟩
      have hft : Foot (· = g) w (W2.setCell ⟨g, k * 4 + 3, none⟩ (.int .i64 ((C : Int) - c))).drew := by
        rw [HW2.out]
        refine (Foot.setCell (p := ⟨g, _, none⟩) (Foot.setCell (p := ⟨g, _, none⟩) (Foot.of_below HW.out.1) (.inl ?_) _).drew (.inl ?_) _).drew <;> rfl
      refine ⟨rfl, HP.out.wrote (PM.up t ⟨x, y, m, c⟩) _ _ u3 u4 HW.out.1 hi hft (by rw [HW2.out]; rfl) ?_ ?_, hft⟩
      · rw [HY.out, u1, PM.sub_sub]; rfl
      · simp only [PM.up]; omega
  · rw [if_pos (.inl hm)]
    have t1 : ((X : Int) != 0) = true := by simpa using hm
    clear hm
    go_enter Tryz.func138, Tryz.ntmps138
    go_wp2_with (go_at_call 97; refine (hD.out _ HB.out).mono ?_; rintro e w1 ⟨rfl, rfl⟩)
    go_quiet (fail)
    go_wp2
    go_ret
    exact ⟨rfl, HP.out.keep (below_drewN HB.out _), Foot.of_below (below_drewN HB.out _)⟩
set_option maxRecDepth 100000 in
set_option maxHeartbeats 2000000 in
theorem give_cl {T : Nat → Prop} (p g dm bx k : Nat) (fs ts : List Fr) (dr : List Bool) (f t : Fr) (s : PM.Sl) (w : World) (h : PoolAt w T p g dm fs ts dr) (hbx : w.cell? ⟨bx, 0, none⟩ = some (.pointer (some ⟨p, 0, none⟩))) (hs : SlOk s) (h0 : 0 ≤ s.c)
    (hk : PM.find s.n s.d fs = some k) (hf : fs[k]? = some f) (ht : ts[k]? = some t) :
    Calls Tryz.prog 141 #[.pointer (some ⟨g, k * 4, none⟩), slV s, .pointer (some ⟨bx, 0, none⟩)] w fun e w' =>
      e = .returned (.int .i64 (PM.one fs dr true s ts).1) ∧ PoolAt w' T p g dm fs (PM.one fs dr true s ts).2 dr ∧ Foot (· = g) w w' := by
  have hB1 := (Below.refl w.heap.size w).alloc (Nat.le_refl _) (.cells #[.int .i64 s.n, .int .i64 s.d, .int .u64 (s.m : Nat), .int .i64 s.c] 41)
  have hbl := lt_of_cell hbx
  have hfn : (f.n : Int) = s.n := by
    obtain ⟨f', hf', h1, _⟩ := PM.find_hit hk
    rw [hf] at hf'; cases hf'; exact h1
  obtain ⟨i1, i2, i3, i4⟩ := h.inv.2 k f t hf ht
  obtain ⟨k1, k2⟩ := h.ok.ok f (List.mem_of_getElem? hf)
  have ks := hs.m
  have kc := bounds_i64 hs.c
  obtain ⟨a, c0, hT⟩ := h.topo
  have hfd : (f.d : Int) = s.d := by
    obtain ⟨f', hf', _, h1⟩ := PM.find_hit hk
    rw [hf] at hf'; cases hf'; exact h1
  have hA0 : ∀ W, Below w.heap.size w W → Calls Tryz.prog 142 #[.pointer (some ⟨a, 0, none⟩), .agg #[.int .i64 s.n, .int .i64 s.d]] W fun e w' => e = .returned (.tuple #[.agg #[.int .i64 s.n, .int .i64 s.d, .int .u64 (f.m : Nat), .int .i64 (f.c : Nat)], .int .i64 0]) ∧ Below W.heap.size W w' := fun W hW => by
    rw [← hfn, ← hfd]; exact at_hit a dr.length k f fs W (hT.keep hW) hf h.ok.dup
  have hA := Lib.hid hA0
  obtain ⟨F, hF⟩ : ∃ F, F = MM.sub f.m t.m := ⟨_, rfl⟩
  obtain ⟨C, hC⟩ : ∃ C, C = f.c - t.c := ⟨_, rfl⟩
  have hFl : F < 18446744073709551616 := by rw [hF]; exact MM.sub_lt _ k1
  have b1 := (hB1.cell (p := ⟨bx, 0, none⟩) hbl).trans hbx
  have c1 := (hB1.cell (p := ⟨p, 0, none⟩) h.lt.1).trans c0
  have hl := h.lt.2.1
  have hlp := h.lt.1
  have hCl : (C : Int) ≤ f.c := by omega
  have hone : PM.one fs dr true s ts = if MM.sub s.m f.m ≠ 0 then (3, ts) else if s.m &&& F ≠ 0 ∨ (f.c : Int) - C < s.c then (4, ts) else (0, ts.set k (PM.down t s)) := by
    unfold PM.one
    rw [if_neg (by omega)]
    simp only [hk, hf, ht, if_true]
    by_cases hm : MM.sub s.m f.m ≠ 0
    · rw [if_pos hm, if_pos (fun e => hm (PM.none_iff.2 e))]
    · have hm' := PM.none_iff.1 (Classical.not_not.1 hm)
      rw [if_neg hm, if_neg (fun e => e hm'), hF, hC]
      have e : (s.m &&& MM.sub f.m t.m ≠ 0 ∨ (f.c : Int) - ((f.c - t.c : Nat) : Int) < s.c) ↔ (s.m &&& t.m ≠ s.m ∨ (t.c : Int) < s.c) := by
        rw [Ne, PM.twice_iff hm', show (f.c : Int) - ((f.c - t.c : Nat) : Int) = (t.c : Int) by omega]
      by_cases hc : s.m &&& t.m ≠ s.m ∨ (t.c : Int) < s.c
      · rw [if_pos hc, if_pos (e.2 hc)]
      · rw [if_neg hc, if_neg (fun h => hc (e.1 h))]; rfl
  have HI := Lib.hid (show MM.sub s.m f.m = 0 ∧ s.m &&& F = 0 ∧ s.c ≤ (f.c : Int) - C → PM.Inv fs (ts.set k (PM.down t s)) from fun ⟨e1, e2, e3⟩ => by
    rw [PM.none_iff] at e1
    rw [hF, PM.twice_iff e1] at e2
    have hu := PM.one_inv (dr := []) (give := true) (s := s) h.inv
    rwa [(PM.Gives.mk h0 hk hf ht e1 e2 (by omega) : PM.Gives fs s k f t ts).eq] at hu)
  have HP := Lib.hid h
  have HB := Lib.hid hB1
  obtain ⟨R, hR⟩ : ∃ R, R = PM.one fs dr true s ts := ⟨_, rfl⟩
  rw [← hR]
  rw [hone] at hR
  have HR := Lib.hid hR
  have HF := Lib.hid (And.intro hF (And.intro hC (And.intro hf (And.intro ht hk))))
  have hbW := heap_alloc_new w (.cells #[.int .i64 s.n, .int .i64 s.d, .int .u64 (s.m : Nat), .int .i64 s.c] 41)
  have e0 : (w.alloc (.cells #[.int .i64 s.n, .int .i64 s.d, .int .u64 (s.m : Nat), .int .i64 s.c] 41)).cell? ⟨w.heap.size, 0, none⟩ = some (.int .i64 s.n) := cell_blk (i := 0) hbW rfl
  have e1 : (w.alloc (.cells #[.int .i64 s.n, .int .i64 s.d, .int .u64 (s.m : Nat), .int .i64 s.c] 41)).cell? ⟨w.heap.size, 1, none⟩ = some (.int .i64 s.d) := cell_blk (i := 1) hbW rfl
  have Hb := Lib.hid hbW
  clear hone hR hf ht hk i1 i2 i3 hB1 hfn hfd hF hC hT hA0 c0 hbW h hs
  obtain ⟨x, y, m, c⟩ := s
  simp only [slV] at *
  go_enter Tryz.func141, Tryz.ntmps141
  go_wp2_with fail
  obtain ⟨W, hW⟩ : ∃ W, W = w.alloc (.cells #[.int .i64 x, .int .i64 y, .int .u64 (m : Nat), .int .i64 c] 41) := ⟨_, rfl⟩
  rw [← hW] at b1 c1 e0 e1 HB Hb ⊢
  have lb : bx < W.heap.size ∧ p < W.heap.size ∧ w.heap.size < W.heap.size := by rw [hW]; simp; omega
  clear hW
  have HB3 := Lib.hid (((Below.refl W.heap.size W).alloc (Nat.le_refl _) (.cells #[.int .i64 0, .int .i64 0, .int .u64 0, .int .i64 0] 130)).drew)
  have HB1 := Lib.hid (below_step HB.out HB3.out)
  have nb1 : W.heap.size ≠ bx := by omega
  have nb2 : W.heap.size ≠ p := by omega
  have nb3 : W.heap.size ≠ w.heap.size := by omega
  have HB2 := Lib.hid HB.out.drew
  go_region_held3 (fun w' => w'.cell? ⟨bx, 0, none⟩ = some (.pointer (some ⟨p, 0, none⟩)) ∧ w'.cell? ⟨p, 0, none⟩ = some (.pointer (some ⟨a, 0, none⟩)) ∧ w'.cell? ⟨w.heap.size, 0, none⟩ = some (.int .i64 x) ∧ w'.cell? ⟨w.heap.size, 1, none⟩ = some (.int .i64 y))
    (go_keep)
    (first
      | (go_at_call 142; ((with_reducible refine (hA.out ((W.alloc (.cells #[.int .i64 0, .int .i64 0, .int .u64 0, .int .i64 0] 130)).drew) HB1.out).mono ?_); rintro e w1 ⟨rfl, hb1⟩); obtain ⟨z0, z1, z2, z3, r0, r1, r2, r3, hz9⟩ := box_free hb1; have hB7 : Below W.heap.size W w1 := below_step HB3.out hb1; have y0 := (hB7.cell (p := ⟨bx, 0, none⟩) lb.1).trans b1; have y1 := (hB7.cell (p := ⟨p, 0, none⟩) lb.2.1).trans c1; have v2 := (hB7.cell (p := ⟨w.heap.size, 0, none⟩) lb.2.2).trans e0; have v3 := (hB7.cell (p := ⟨w.heap.size, 1, none⟩) lb.2.2).trans e1)
      | (go_at_call 142; ((with_reducible refine (hA.out W.drew HB2.out).mono ?_); rintro e w1 ⟨rfl, hb1⟩); have hB7 : Below W.heap.size W w1 := below_step (Below.refl W.heap.size W).drew hb1; have y0 := (hB7.cell (p := ⟨bx, 0, none⟩) lb.1).trans b1; have y1 := (hB7.cell (p := ⟨p, 0, none⟩) lb.2.1).trans c1; have v2 := (hB7.cell (p := ⟨w.heap.size, 0, none⟩) lb.2.2).trans e0; have v3 := (hB7.cell (p := ⟨w.heap.size, 1, none⟩) lb.2.2).trans e1))
  · obtain ⟨W3, hW3⟩ : ∃ W3, W3 = w1.alloc (.cells #[.int .i64 x, .int .i64 y, .int .u64 (f.m : Nat), .int .i64 (f.c : Nat)] 130) := ⟨_, rfl⟩
    obtain ⟨q, hq⟩ : ∃ q, q = w1.heap.size := ⟨_, rfl⟩
    rw [← hW3, ← hq]
    have hs1 := hB7.size
    have hblk : W3.heap[q]? = some (.cells #[.int .i64 x, .int .i64 y, .int .u64 (f.m : Nat), .int .i64 (f.c : Nat)] 130 (0, 0)) := by rw [hW3, hq]; exact heap_alloc_new w1 _
    have hB3 : Below w.heap.size w W3 := by rw [hW3]; exact (HB.out.trans (hB7.mono (by omega))).alloc (by omega) _
    have hsl : W3.heap[w.heap.size]? = some (.cells #[.int .i64 x, .int .i64 y, .int .u64 (m : Nat), .int .i64 c] 41 (0, 0)) := by rw [hW3]; exact (Below.heap_alloc w1 _ _ (by omega)).trans ((hB7.block _ lb.2.2).trans Hb.out)
    have hqw : w.heap.size < q := by omega
    have e2 : W3.cell? ⟨w.heap.size, 2, none⟩ = some (.int .u64 (m : Nat)) := cell_blk (i := 2) hsl rfl
    have e3 : W3.cell? ⟨w.heap.size, 3, none⟩ = some (.int .i64 c) := cell_blk (i := 3) hsl rfl
    have o2 : W3.cell? ⟨q, 1 + 1, none⟩ = some (.int .u64 (f.m : Nat)) := cell_blk (i := 2) hblk rfl
    have o2' : W3.cell? ⟨q, 2, none⟩ = some (.int .u64 (f.m : Nat)) := cell_blk (i := 2) hblk rfl
    have o3 : W3.cell? ⟨q, 3, none⟩ = some (.int .i64 (f.c : Nat)) := cell_blk (i := 3) hblk rfl
    obtain ⟨d2, d3, y2, y3⟩ := (HP.out.keep hB3).cells HF.out.2.2.1 HF.out.2.2.2.1
    rw [← HF.out.1] at d2
    rw [← HF.out.2.1] at d3
    have hne : g ≠ w.heap.size := by omega
    have hneq : g ≠ q := by omega
    have H3 := Lib.hid hB3
    clear hW3 hq hB7 hB3 hsl hblk b1 c1 e0 e1 y0 y1 hb1
    obtain ⟨X, hX⟩ : ∃ X, X = MM.sub m f.m := ⟨_, rfl⟩
    have hXn := not_u64 m f.m ks k1
    rw [← hX] at hXn
    have HX := Lib.hid hX
    clear hX
    by_cases hm : X = 0
    · have hR1 := HR.out
      rw [← HX.out, if_neg (fun h => h hm)] at hR1
      have t1 : ((X : Int) != 0) = false := by rw [hm]; rfl
      obtain ⟨Z, hZ⟩ : ∃ Z, Z = m &&& F := ⟨_, rfl⟩
      have hZn := and_u64 m F ks hFl
      rw [← hZ] at hZn
      rw [← hZ] at hR1
      have HZ := Lib.hid hZ
      have HM := Lib.hid hm
      have hw1 : IntKind.i64.wrap ((f.c : Int) - (C : Int)) = (f.c : Int) - C := IntWalk.i64_in _ (by omega)
      clear hZ hm
      by_cases hz : Z = 0
      · have t3 : ((Z : Int) != 0) = false := by rw [hz]; rfl
        by_cases hc : (f.c : Int) - C < c
        · rw [if_pos (.inr hc)] at hR1
          subst hR1
          have t2 : decide ((f.c : Int) - (C : Int) < c) = true := by simpa using hc
          clear hc hz
          go_wp2
          go_quiet (fail)
          go_wp2
          go_ret
          exact ⟨rfl, HP.out.keep (below_drewN H3.out _), Foot.of_below (below_drewN H3.out _)⟩
        · rw [if_neg (by rintro (h | h); exact h hz; exact hc h)] at hR1
          subst hR1
          have t2 : decide ((f.c : Int) - (C : Int) < c) = false := by simpa using hc
          have hc2 : c ≤ (f.c : Int) - C := by omega
          have HC := Lib.hid (And.intro hz hc2)
          clear hc hz
          go_wp2
          go_quiet (fail)
          go_wp2
          obtain ⟨Y, hY⟩ : ∃ Y, Y = F ||| m := ⟨_, rfl⟩
          have hYn := or_u64 F m hFl ks
          rw [← hY] at hYn
          have HY := Lib.hid hY
          clear hY
          obtain ⟨W4, hW4⟩ : ∃ W4, W4 = W3.drewN nq := ⟨_, rfl⟩
          have f2 : W4.cell? ⟨g, k * 4 + 2, none⟩ = some (.int .u64 (F : Nat)) := by rw [hW4]; exact d2
          have f3 : W4.cell? ⟨g, k * 4 + 3, none⟩ = some (.int .i64 (C : Nat)) := by rw [hW4]; exact d3
          have p2 : W4.frozen? ⟨g, k * 4 + 2, none⟩ = false := by rw [hW4]; exact y2
          have p3 : W4.frozen? ⟨g, k * 4 + 3, none⟩ = false := by rw [hW4]; exact y3
          have g2 : W4.cell? ⟨w.heap.size, 2, none⟩ = some (.int .u64 (m : Nat)) := by rw [hW4]; exact e2
          have g3 : W4.cell? ⟨w.heap.size, 3, none⟩ = some (.int .i64 c) := by rw [hW4]; exact e3
          have H4 := Lib.hid (show Below w.heap.size w W4 by rw [hW4]; exact below_drewN H3.out _)
          rw [← hW4]
          clear hW4 d2 d3 y2 y3 e2 e3 o2 o2' o3
          go_still_tail 9, (by kernel_rfl)
          change wpList _ _ _ _ _ W4.drew
          go_wp2
          obtain ⟨W5, hW5⟩ : ∃ W5, W5 = (W4.setCell ⟨g, k * 4 + 2, none⟩ (.int .u64 (Y : Nat))).drew := ⟨_, rfl⟩
          have q3 : W5.cell? ⟨g, k * 4 + 3, none⟩ = some (.int .i64 (C : Nat)) := by rw [hW5]; go_simp
          have r3 : W5.frozen? ⟨g, k * 4 + 3, none⟩ = false := by rw [hW5]; go_simp
          have s3 : W5.cell? ⟨w.heap.size, 3, none⟩ = some (.int .i64 c) := by rw [hW5]; go_simp
          rw [← hW5]
          have HW5 := Lib.hid hW5
          clear hW5 f2 f3 p2 p3 g2 g3
          go_still_tail 9, (by kernel_rfl)
          change wpList _ _ _ _ _ W5.drew
          go_wp2
          go_ret
          obtain ⟨u1, u2, u3, u4, u5⟩ := HF.out
          have hX0 : MM.sub m f.m = 0 := by rw [← HX.out]; exact HM.out
          have hZ0 : m &&& F = 0 := by rw [← HZ.out]; exact HC.out.1
          have hi : PM.Inv fs (ts.set k (PM.down t ⟨x, y, m, c⟩)) := HI.out ⟨hX0, hZ0, HC.out.2⟩
          have hft : Foot (· = g) w (W5.setCell ⟨g, k * 4 + 3, none⟩ (.int .i64 ((C : Int) + c))).drew := by
            rw [HW5.out]
            refine (Foot.setCell (p := ⟨g, _, none⟩) (Foot.setCell (p := ⟨g, _, none⟩) (Foot.of_below H4.out) (.inl ?_) _).drew (.inl ?_) _).drew <;> rfl
          refine ⟨rfl, HP.out.wrote (PM.down t ⟨x, y, m, c⟩) _ _ u3 u4 H4.out hi hft (by rw [HW5.out]; rfl) ?_ ?_, hft⟩
          · rw [HY.out, u1, PM.or_sub (PM.none_iff.1 hX0)]; rfl
          · have hc5 := HC.out.2; simp only [PM.down]; omega
      · have t3 : ((Z : Int) != 0) = true := by simpa using hz
        rw [if_pos (.inl hz)] at hR1
        subst hR1
        clear hz
        go_wp2
        go_quiet (fail)
        go_wp2
        go_ret
        exact ⟨rfl, HP.out.keep (below_drewN H3.out _), Foot.of_below (below_drewN H3.out _)⟩
    · have hR1 := HR.out
      rw [← HX.out, if_pos hm] at hR1
      subst hR1
      have t1 : ((X : Int) != 0) = true := by simpa using hm
      clear hm
      go_wp2
      go_ret
      exact ⟨rfl, HP.out.keep H3.out, Foot.of_below H3.out⟩
  · obtain ⟨W3, hW3⟩ : ∃ W3, W3 = (((w1.setCell ⟨W.heap.size, 0, none⟩ (.int .i64 x)).setCell ⟨W.heap.size, 1, none⟩ (.int .i64 y)).setCell ⟨W.heap.size, 2, none⟩ (.int .u64 (f.m : Nat))).setCell ⟨W.heap.size, 3, none⟩ (.int .i64 (f.c : Nat)) := ⟨_, rfl⟩
    obtain ⟨q, hq⟩ : ∃ q, q = W.heap.size := ⟨_, rfl⟩
    rw [← hW3, ← hq]
    have hs1 := hB7.size
    have hblk : W3.heap[q]? = some (.cells #[.int .i64 x, .int .i64 y, .int .u64 (f.m : Nat), .int .i64 (f.c : Nat)] 130 (0, 0)) := by rw [hW3, hq]; exact (blk_put _ (blk_put _ (blk_put _ (blk_put _ hz9))))
    have hB3 : Below w.heap.size w W3 := by rw [hW3]; exact ((((HB.out.trans (hB7.mono (by omega))).setCell (by simp; omega) _).setCell (by simp; omega) _).setCell (by simp; omega) _).setCell (by simp; omega) _
    have hsl : W3.heap[w.heap.size]? = some (.cells #[.int .i64 x, .int .i64 y, .int .u64 (m : Nat), .int .i64 c] 41 (0, 0)) := by
      rw [hW3, Below.heap_setCell _ _ _ _ (by simp; omega), Below.heap_setCell _ _ _ _ (by simp; omega), Below.heap_setCell _ _ _ _ (by simp; omega), Below.heap_setCell _ _ _ _ (by simp; omega)]; exact (hB7.block _ lb.2.2).trans Hb.out
    have hqw : w.heap.size < q := by omega
    have e2 : W3.cell? ⟨w.heap.size, 2, none⟩ = some (.int .u64 (m : Nat)) := cell_blk (i := 2) hsl rfl
    have e3 : W3.cell? ⟨w.heap.size, 3, none⟩ = some (.int .i64 c) := cell_blk (i := 3) hsl rfl
    have o2 : W3.cell? ⟨q, 1 + 1, none⟩ = some (.int .u64 (f.m : Nat)) := cell_blk (i := 2) hblk rfl
    have o2' : W3.cell? ⟨q, 2, none⟩ = some (.int .u64 (f.m : Nat)) := cell_blk (i := 2) hblk rfl
    have o3 : W3.cell? ⟨q, 3, none⟩ = some (.int .i64 (f.c : Nat)) := cell_blk (i := 3) hblk rfl
    obtain ⟨d2, d3, y2, y3⟩ := (HP.out.keep hB3).cells HF.out.2.2.1 HF.out.2.2.2.1
    rw [← HF.out.1] at d2
    rw [← HF.out.2.1] at d3
    have hne : g ≠ w.heap.size := by omega
    have hneq : g ≠ q := by omega
    have H3 := Lib.hid hB3
    clear hW3 hq hB7 hB3 hsl hblk b1 c1 e0 e1 y0 y1 hb1
    obtain ⟨X, hX⟩ : ∃ X, X = MM.sub m f.m := ⟨_, rfl⟩
    have hXn := not_u64 m f.m ks k1
    rw [← hX] at hXn
    have HX := Lib.hid hX
    clear hX
    by_cases hm : X = 0
    · have hR1 := HR.out
      rw [← HX.out, if_neg (fun h => h hm)] at hR1
      have t1 : ((X : Int) != 0) = false := by rw [hm]; rfl
      obtain ⟨Z, hZ⟩ : ∃ Z, Z = m &&& F := ⟨_, rfl⟩
      have hZn := and_u64 m F ks hFl
      rw [← hZ] at hZn
      rw [← hZ] at hR1
      have HZ := Lib.hid hZ
      have HM := Lib.hid hm
      have hw1 : IntKind.i64.wrap ((f.c : Int) - (C : Int)) = (f.c : Int) - C := IntWalk.i64_in _ (by omega)
      clear hZ hm
      by_cases hz : Z = 0
      · have t3 : ((Z : Int) != 0) = false := by rw [hz]; rfl
        by_cases hc : (f.c : Int) - C < c
        · rw [if_pos (.inr hc)] at hR1
          subst hR1
          have t2 : decide ((f.c : Int) - (C : Int) < c) = true := by simpa using hc
          clear hc hz
          go_wp2
          go_quiet (fail)
          go_wp2
          go_ret
          exact ⟨rfl, HP.out.keep (below_drewN H3.out _), Foot.of_below (below_drewN H3.out _)⟩
        · rw [if_neg (by rintro (h | h); exact h hz; exact hc h)] at hR1
          subst hR1
          have t2 : decide ((f.c : Int) - (C : Int) < c) = false := by simpa using hc
          have hc2 : c ≤ (f.c : Int) - C := by omega
          have HC := Lib.hid (And.intro hz hc2)
          clear hc hz
          go_wp2
          go_quiet (fail)
          go_wp2
          obtain ⟨Y, hY⟩ : ∃ Y, Y = F ||| m := ⟨_, rfl⟩
          have hYn := or_u64 F m hFl ks
          rw [← hY] at hYn
          have HY := Lib.hid hY
          clear hY
          obtain ⟨W4, hW4⟩ : ∃ W4, W4 = W3.drewN nq := ⟨_, rfl⟩
          have f2 : W4.cell? ⟨g, k * 4 + 2, none⟩ = some (.int .u64 (F : Nat)) := by rw [hW4]; exact d2
          have f3 : W4.cell? ⟨g, k * 4 + 3, none⟩ = some (.int .i64 (C : Nat)) := by rw [hW4]; exact d3
          have p2 : W4.frozen? ⟨g, k * 4 + 2, none⟩ = false := by rw [hW4]; exact y2
          have p3 : W4.frozen? ⟨g, k * 4 + 3, none⟩ = false := by rw [hW4]; exact y3
          have g2 : W4.cell? ⟨w.heap.size, 2, none⟩ = some (.int .u64 (m : Nat)) := by rw [hW4]; exact e2
          have g3 : W4.cell? ⟨w.heap.size, 3, none⟩ = some (.int .i64 c) := by rw [hW4]; exact e3
          have H4 := Lib.hid (show Below w.heap.size w W4 by rw [hW4]; exact below_drewN H3.out _)
          rw [← hW4]
          clear hW4 d2 d3 y2 y3 e2 e3 o2 o2' o3
          go_still_tail 9, (by kernel_rfl)
          change wpList _ _ _ _ _ W4.drew
          go_wp2
          obtain ⟨W5, hW5⟩ : ∃ W5, W5 = (W4.setCell ⟨g, k * 4 + 2, none⟩ (.int .u64 (Y : Nat))).drew := ⟨_, rfl⟩
          have q3 : W5.cell? ⟨g, k * 4 + 3, none⟩ = some (.int .i64 (C : Nat)) := by rw [hW5]; go_simp
          have r3 : W5.frozen? ⟨g, k * 4 + 3, none⟩ = false := by rw [hW5]; go_simp
          have s3 : W5.cell? ⟨w.heap.size, 3, none⟩ = some (.int .i64 c) := by rw [hW5]; go_simp
          rw [← hW5]
          have HW5 := Lib.hid hW5
          clear hW5 f2 f3 p2 p3 g2 g3
          go_still_tail 9, (by kernel_rfl)
          change wpList _ _ _ _ _ W5.drew
          go_wp2
          go_ret
          obtain ⟨u1, u2, u3, u4, u5⟩ := HF.out
          have hX0 : MM.sub m f.m = 0 := by rw [← HX.out]; exact HM.out
          have hZ0 : m &&& F = 0 := by rw [← HZ.out]; exact HC.out.1
          have hi : PM.Inv fs (ts.set k (PM.down t ⟨x, y, m, c⟩)) := HI.out ⟨hX0, hZ0, HC.out.2⟩
          have hft : Foot (· = g) w (W5.setCell ⟨g, k * 4 + 3, none⟩ (.int .i64 ((C : Int) + c))).drew := by
            rw [HW5.out]
            refine (Foot.setCell (p := ⟨g, _, none⟩) (Foot.setCell (p := ⟨g, _, none⟩) (Foot.of_below H4.out) (.inl ?_) _).drew (.inl ?_) _).drew <;> rfl
          refine ⟨rfl, HP.out.wrote (PM.down t ⟨x, y, m, c⟩) _ _ u3 u4 H4.out hi hft (by rw [HW5.out]; rfl) ?_ ?_, hft⟩
          · rw [HY.out, u1, PM.or_sub (PM.none_iff.1 hX0)]; rfl
          · have hc5 := HC.out.2; simp only [PM.down]; omega
      · have t3 : ((Z : Int) != 0) = true := by simpa using hz
        rw [if_pos (.inl hz)] at hR1
        subst hR1
        clear hz
        go_wp2
        go_quiet (fail)
        go_wp2
        go_ret
        exact ⟨rfl, HP.out.keep (below_drewN H3.out _), Foot.of_below (below_drewN H3.out _)⟩
    · have hR1 := HR.out
      rw [← HX.out, if_pos hm] at hR1
      subst hR1
      have t1 : ((X : Int) != 0) = true := by simpa using hm
      clear hm
      go_wp2
      go_ret
      exact ⟨rfl, HP.out.keep H3.out, Foot.of_below H3.out⟩
end Go.Proofs.YtkhbbfpajiimaaaGreat
