/- The document's accounts: what may be, Right, Left, Add, Sub, Act. -/
/- The document's accounts: Left, Act, New. -/
import Derived.Test.YtgpfmlidchogcaaGreatKitZ
import Derived.Test.YtgpfmlidchogcaaGreatQuotaZ
set_option linter.unusedVariables false
set_option maxRecDepth 100000
namespace Go.Proofs.YtgpfmlidchogcaaGreat
open Go.RowKit

set_option maxHeartbeats 1000000 in
theorem refmay_any (u : Un) (w : World) : Calls Tryz.prog 58 #[unV u] w fun e w' => e = .returned (.bool (mayU u)) ∧ Below w.heap.size w w' := by
 have hB := (Below.refl w.heap.size w).alloc (Nat.le_refl _) (.cells #[.int .i64 u.g, .int .i64 u.c] 57)
 unfold mayU
 obtain ⟨a, b⟩ := u
 simp only [unV] at *
 rcases Bool.eq_false_or_eq_true (decide (0 ≤ a)) with t0 | t0
 rotate_left
 ·go_enter Tryz.func58, Tryz.ntmps58
  go_wp2
  go_ret
  exact ⟨by simp [t0], hB⟩
 rcases Bool.eq_false_or_eq_true (decide (a ≤ 1048576)) with t1 | t1
 rotate_left
 ·go_enter Tryz.func58, Tryz.ntmps58
  go_wp2
  go_ret
  exact ⟨by simp [t0, t1], hB⟩
 rcases Bool.eq_false_or_eq_true (decide (0 ≤ b)) with t2 | t2
 rotate_left
 ·go_enter Tryz.func58, Tryz.ntmps58
  go_wp2
  go_ret
  exact ⟨by simp [t0, t1, t2], hB⟩
 rcases Bool.eq_false_or_eq_true (decide (b ≤ 1048576)) with t3 | t3
 rotate_left
 ·go_enter Tryz.func58, Tryz.ntmps58
  go_wp2
  go_ret
  exact ⟨by simp [t0, t1, t2, t3], hB⟩
 go_enter Tryz.func58, Tryz.ntmps58
 go_wp2
 go_ret
 exact ⟨by simp [t0, t1, t2, t3], hB⟩
set_option maxRecDepth 100000 in
set_option maxHeartbeats 1000000 in
theorem right_q (A : Option Addr) (c B : Nat) (l : List Un) (w : World) (h : Uns w B A l) (hB : B ≤ w.heap.size) :
  Calls Tryz.prog 16 #[.slice A l.length c] w fun e w' => e = .returned (.bool (quotasOk l)) ∧ Below w.heap.size w w' := by
 obtain ⟨R, hR⟩ : ∃ R, R = quotasOk l := ⟨_, rfl⟩
 rw [← hR]
 obtain ⟨n, hn⟩ : ∃ n, n = l.length := ⟨_, rfl⟩
 have H := Lib.hid (And.intro hR (And.intro h hn))
 rw [← hn]
 by_cases h1 : n < 1
 ·have t0 : decide (n < 1) = true := decide_eq_true h1
  have e : R = false := by rw [hR]; unfold quotasOk; rw [decide_eq_false (by omega)]; rfl
  subst e
  clear h hn hR
  go_enter Tryz.func16, Tryz.ntmps16
  go_wp2
  go_ret
  exact ⟨rfl, Below.refl _ _⟩
 have t0 : decide (n < 1) = false := decide_eq_false h1
 by_cases h8 : 8 < n
 ·have t1 : decide (8 < n) = true := decide_eq_true h8
  have e : R = false := by rw [hR]; unfold quotasOk; rw [decide_eq_false (show ¬ l.length ≤ 8 by omega)]; simp
  subst e
  clear h hn hR
  go_enter Tryz.func16, Tryz.ntmps16
  go_wp2
  go_ret
  exact ⟨rfl, Below.refl _ _⟩
 have t1 : decide (8 < n) = false := decide_eq_false h8
 have hM := Lib.hid (fun u W => refmay_any u W)
 clear h hn hR
 go_enter Tryz.func16, Tryz.ntmps16
 go_wp2
 go_loopw [3] (fun i wr => ∃ k : Nat, i = .int .i64 k ∧ k ≤ n ∧ Below w.heap.size w wr ∧ Hid ((l.take k).all mayU = true)) (fun i _ => n - (intOf i).toNat)
 case atStart => exact ⟨0, rfl, by omega, Below.refl _ _, Lib.hid rfl⟩
 case round =>
  obtain ⟨k, rfl, hk, hBl, hall⟩ := hrel
  by_cases hlt : k < n
  ·obtain ⟨⟨ug, uc⟩, hx⟩ := get_lt (l := l) (k := k) (by rw [← H.out.2.2]; exact hlt)
   obtain ⟨b, off, rfl, hb, hc⟩ := H.out.2.1.at_ hx
   have hcx := (hc k _ hx).keep hb (hBl.mono hB)
   have z0 : wr.cell? ⟨b, off + k * 2, none⟩ = some (.int .i64 ug) := hcx 0 _ rfl
   have z1 : wr.cell? ⟨b, off + k * 2 + 1, none⟩ = some (.int .i64 uc) := hcx 1 _ rfl
   have hMx := hM.out ⟨ug, uc⟩
   have t2 : decide (k < n) = true := decide_eq_true hlt
   obtain ⟨m, hm⟩ : ∃ m, m = mayU ⟨ug, uc⟩ := ⟨_, rfl⟩
   rw [← hm] at hMx
   have HMx := Lib.hid hMx
   simp only [unV] at HMx
   have HB := Lib.hid hBl
   cases m
   ·have e : R = false := by rw [H.out.1]; unfold quotasOk; rw [all_no hx hm.symm]; simp
    subst e
    clear hcx hc hx hMx hm hBl
    go_wp2_with fail
    refine (HMx.out _).mono ?_
    rintro e w2 ⟨rfl, hb2⟩
    go_wp2
    go_ret
    exact ⟨rfl, below_step HB.out hb2⟩
   ·have HN := Lib.hid (all_next hx hall.out hm.symm)
    clear hcx hc hx hMx hm hBl
    go_wp2_with fail
    refine (HMx.out _).mono ?_
    rintro e w2 ⟨rfl, hb2⟩
    go_wp2
    go_roundw
    case rel => exact ⟨k + 1, by go_num, by omega, below_step HB.out hb2, HN⟩
    case measure => simp [intOf]; omega
  ·obtain rfl : k = n := by omega
   have e : R = true := by
    have h2 := hall.out
    rw [H.out.2.2, List.take_length] at h2
    rw [H.out.1]
    exact quotasOk_iff.2 ⟨by rw [← H.out.2.2]; omega, by rw [← H.out.2.2]; omega, h2⟩
   subst e
   have HB := Lib.hid hBl
   clear hlt hBl
   go_wp2
   go_ret
   exact ⟨rfl, HB.out⟩
structure RQAt (w : World) (r a b ca cb : Nat) (l : List Qa) : Prop where
 few : l.length ≤ 8
 ok : ∀ x ∈ l, QaOk x
 obj : w.heap[r]? = some (.cells #[.slice (some ⟨a, 0, none⟩) l.length ca, .slice (some ⟨b, 0, none⟩) l.length cb] 116 (0, 0))
 quo : ∃ cur, w.heap[a]? = some (.cells cur 57 (0, 0)) ∧ ∀ (j : Nat) v, ((l.map (·.m)).flatMap uC)[j]? = some v → cur[j]? = some v
 use : ∃ cur, w.heap[b]? = some (.cells cur 57 (0, 0)) ∧ ∀ (j : Nat) v, ((l.map (·.u)).flatMap uC)[j]? = some v → cur[j]? = some v
 ne : r ≠ a ∧ r ≠ b ∧ a ≠ b
section
variable {w w' : World} {r a b ca cb : Nat} {l : List Qa}
theorem RQAt.lt (h : RQAt w r a b ca cb l) : r < w.heap.size ∧ a < w.heap.size ∧ b < w.heap.size := by
 obtain ⟨_, h1, _⟩ := h.quo
 obtain ⟨_, h2, _⟩ := h.use
 exact ⟨blk_lt h.obj, blk_lt h1, blk_lt h2⟩
theorem RQAt.off (h : RQAt w r a b ca cb l) (hk : ∀ i, i < w.heap.size → (i = r ∨ i = a ∨ i = b) → w'.heap[i]? = w.heap[i]?) : RQAt w' r a b ca cb l := by
 obtain ⟨l1, l2, l3⟩ := h.lt
 obtain ⟨c1, h1, h2⟩ := h.quo
 obtain ⟨c2, h3, h4⟩ := h.use
 exact ⟨h.few, h.ok, (hk r l1 (.inl rfl)).trans h.obj, ⟨c1, (hk a l2 (.inr (.inl rfl))).trans h1, h2⟩, ⟨c2, (hk b l3 (.inr (.inr rfl))).trans h3, h4⟩, h.ne⟩
theorem RQAt.keep (h : RQAt w r a b ca cb l) (hk : Below w.heap.size w w') : RQAt w' r a b ca cb l := h.off fun i hi _ => hk.block i hi
theorem RQAt.foot {F : Nat → Prop} (h : RQAt w r a b ca cb l) (hk : Foot F w w') (hF : ∀ i, F i → i ≠ r ∧ i ≠ a ∧ i ≠ b) : RQAt w' r a b ca cb l := h.off fun i hi ht => hk.block i hi fun hf => by
 obtain ⟨x, y, z⟩ := hF i hf
 rcases ht with e | e | e
 ·exact x e
 ·exact y e
 ·exact z e
theorem RQAt.heads (h : RQAt w r a b ca cb l) : w.cell? ⟨r, 0, none⟩ = some (.slice (some ⟨a, 0, none⟩) l.length ca) ∧ w.cell? ⟨r, 1, none⟩ = some (.slice (some ⟨b, 0, none⟩) l.length cb) :=
 ⟨cell_blk (i := 0) h.obj rfl, cell_blk (i := 1) h.obj rfl⟩
theorem RQAt.cells (h : RQAt w r a b ca cb l) {i : Nat} {x : Qa} (hx : l[i]? = some x) :
  w.cell? ⟨a, i * 2, none⟩ = some (.int .i64 x.m.g) ∧ w.cell? ⟨a, i * 2 + 1, none⟩ = some (.int .i64 x.m.c) ∧ w.cell? ⟨b, i * 2, none⟩ = some (.int .i64 x.u.g) ∧ w.cell? ⟨b, i * 2 + 1, none⟩ = some (.int .i64 x.u.c) ∧ w.frozen? ⟨b, i * 2, none⟩ = false ∧ w.frozen? ⟨b, i * 2 + 1, none⟩ = false := by
 obtain ⟨c1, h1, h2⟩ := h.quo
 obtain ⟨c2, h3, h4⟩ := h.use
 have hm : (l.map (·.m))[i]? = some x.m := by rw [List.getElem?_map, hx]; rfl
 have hu : (l.map (·.u))[i]? = some x.u := by rw [List.getElem?_map, hx]; rfl
 have p : ∀ t v, t < 2 → (uC x.m)[t]? = some v → w.cell? ⟨a, i * 2 + t, none⟩ = some v := fun t v ht hv => cell_blk h1 (h2 _ _ (by rw [flat_get uC_len hm ht, hv]))
 have q : ∀ t v, t < 2 → (uC x.u)[t]? = some v → w.cell? ⟨b, i * 2 + t, none⟩ = some v := fun t v ht hv => cell_blk h3 (h4 _ _ (by rw [flat_get uC_len hu ht, hv]))
 exact ⟨p 0 _ (by omega) rfl, p 1 _ (by omega) rfl, q 0 _ (by omega) rfl, q 1 _ (by omega) rfl, frozen_blk h3, frozen_blk h3⟩
theorem RQAt.uns (h : RQAt w r a b ca cb l) : Uns w w.heap.size (some ⟨b, 0, none⟩) (l.map (·.u)) := by
 obtain ⟨c2, h3, h4⟩ := h.use
 exact els_blk uC_len h3 h4
end
theorem un_set : ∀ {l : List Un} {k : Nat} (u : Un), k < l.length → (l.set k u).flatMap uC = ((l.flatMap uC).set (k * 2) (.int .i64 u.g)).set (k * 2 + 1) (.int .i64 u.c)
 | [], _, _, h => by simp at h
 | y :: l, 0, u, h => by simp [uC]
 | y :: l, k + 1, u, h => by
  have ih := un_set u (l := l) (k := k) (by simpa using h)
  rw [List.set_cons_succ, List.flatMap_cons, ih, List.flatMap_cons, show (k + 1) * 2 + 1 = k * 2 + 1 + 2 by omega, show (k + 1) * 2 = k * 2 + 2 by omega]
  simp [uC]
theorem RQAt.wrote {w w1 w' : World} {r a b ca cb k : Nat} {l : List Qa} {x : Qa} (u : Un) (h : RQAt w r a b ca cb l) (hx : l[k]? = some x) (hw : Below w.heap.size w w1) (hu : QaOk ⟨x.m, u⟩)
  (hft : Foot (· = b) w w') (e : w'.heap = ((w1.setCell ⟨b, k * 2, none⟩ (.int .i64 u.g)).setCell ⟨b, k * 2 + 1, none⟩ (.int .i64 u.c)).heap) : RQAt w' r a b ca cb (l.set k ⟨x.m, u⟩) := by
 obtain ⟨l1, l2, l3⟩ := h.lt
 obtain ⟨n1, n2, n3⟩ := h.ne
 obtain ⟨c1, h1, h2⟩ := h.quo
 obtain ⟨cur, h3, h4⟩ := h.use
 have hkl := (List.getElem?_eq_some_iff.1 hx).1
 have hm : (l.set k ⟨x.m, u⟩).map (·.m) = l.map (·.m) := set_m u hx
 have hul : (l.set k ⟨x.m, u⟩).map (·.u) = (l.map (·.u)).set k u := by rw [List.map_set]
 refine ⟨by rw [List.length_set]; exact h.few, fun y hy => ?_, by rw [List.length_set]; exact (hft.block r l1 n2).trans h.obj, ⟨c1, (hft.block a l2 n3).trans h1, by rw [hm]; exact h2⟩, ⟨_, by rw [e]; exact blk_put _ (blk_put _ ((hw.block b l3).trans h3)), fun j v hj => ?_⟩, h.ne⟩
 ·rcases List.mem_or_eq_of_mem_set hy with h5 | h5
  ·exact h.ok y h5
  ·rw [h5]; exact hu
 ·rw [hul, un_set u (by rw [List.length_map]; exact hkl)] at hj
  have hlen := flat_len uC_len (l.map (·.u))
  rw [List.length_map] at hlen
  have hsz : k * 2 + 1 < cur.size := by
   have e3 := flat_get uC_len (show (l.map (·.u))[k]? = some x.u by rw [List.getElem?_map, hx]; rfl) (show 1 < 2 by omega)
   exact (Array.getElem?_eq_some_iff.1 (h4 _ _ (e3.trans rfl))).1
  by_cases e3 : k * 2 + 1 = j
  ·subst e3
   rw [List.getElem?_set_self (by rw [List.length_set]; omega)] at hj
   rw [Array.getElem?_setIfInBounds_self_of_lt (by simp; omega)]
   exact hj
  ·rw [List.getElem?_set_ne e3] at hj
   rw [Array.getElem?_setIfInBounds_ne e3]
   by_cases e2 : k * 2 = j
   ·subst e2
    rw [List.getElem?_set_self (by omega)] at hj
    rw [Array.getElem?_setIfInBounds_self_of_lt (by omega)]
    exact hj
   ·rw [List.getElem?_set_ne e2] at hj
    rw [Array.getElem?_setIfInBounds_ne e2]
    exact h4 j v hj
set_option maxRecDepth 100000 in
set_option maxHeartbeats 4000000 in
theorem radd_q (r a b ca cb : Nat) (l : List Qa) (q : Int) (u : Un) (w : World) (h : RQAt w r a b ca cb l) (wu : UnW u) :
  Calls Tryz.prog 112 #[.pointer (some ⟨r, 0, none⟩), .int .i64 q, unV u] w fun e w' => e = .returned (.int .i64 (qAdd l q u).1) ∧ RQAt w' r a b ca cb (qAdd l q u).2 ∧ Foot (· = b) w w' := by
 have hB1 := (Below.refl w.heap.size w).alloc (Nat.le_refl _) (.cells #[.int .i64 u.g, .int .i64 u.c] 57)
 have HP := Lib.hid h
 have HB := Lib.hid hB1
 obtain ⟨R, hR⟩ : ∃ R, R = qAdd l q u := ⟨_, rfl⟩
 rw [← hR]
 unfold qAdd at hR
 have c0 := (h.keep hB1).heads.1
 have hM := fun W => refmay_any u W
 cases hq : hasQ l q
 ·rw [hq, if_pos rfl] at hR
  subst hR
  have t0 : decide (q < 0) = true ∨ (decide (q < 0) = false ∧ decide ((l.length : Int) ≤ q) = true) := by
   by_cases h0 : q < 0
   ·exact .inl (decide_eq_true h0)
   ·refine .inr ⟨decide_eq_false h0, decide_eq_true ?_⟩
    by_cases h1 : (l.length : Int) ≤ q
    ·exact h1
    ·rw [hasQ_iff.2 ⟨by omega, by omega⟩] at hq; cases hq
  obtain ⟨n, hn⟩ : ∃ n, n = l.length := ⟨_, rfl⟩
  rw [← hn] at c0 t0
  clear h hq hB1 hn
  rcases t0 with t0 | ⟨t0, t1⟩
  all_goals
   obtain ⟨x, y⟩ := u
   simp only [unV] at *
   go_enter Tryz.func112, Tryz.ntmps112
   go_wp2
   go_ret
   exact ⟨rfl, HP.out.keep HB.out, Foot.of_below HB.out⟩
 rw [hq, if_neg (by simp)] at hR
 obtain ⟨k, x, rfl, hkl, hx⟩ := hasQ_at hq
 simp only [Int.toNat_natCast, hx] at hR
 obtain ⟨l1, l2, l3⟩ := h.lt
 have hne := h.ne
 have hok := h.ok x (List.mem_of_getElem? hx)
 obtain ⟨hx1, hx2, hx3, hx4⟩ := mayU_iff.1 hok.m
 obtain ⟨hg1, hg2⟩ := hok.g
 obtain ⟨hc1, hc2⟩ := hok.c
 have hfew := h.few
 have HX := Lib.hid (And.intro hx hok)
 obtain ⟨n, hn⟩ : ∃ n, n = l.length := ⟨_, rfl⟩
 rw [← hn] at hkl hfew c0
 have Hn := Lib.hid hn
 have bS := Lib.hid (heap_alloc_new w (.cells #[.int .i64 u.g, .int .i64 u.c] 57))
 obtain ⟨y0, y1, _, _, _⟩ := pair_at bS.out
 have t0 : decide ((k : Int) < 0) = false := decide_eq_false (by omega)
 have t1 : decide (n ≤ k) = false := decide_eq_false (by omega)
 have k1 := bounds_i64 wu.g
 have k2 := bounds_i64 wu.c
 cases hm : mayU u
 ·rw [hm] at hM
  rw [hm, if_pos rfl] at hR
  subst hR
  obtain ⟨ug, uc⟩ := u
  simp only [unV] at *
  have HM := Lib.hid hM
  clear h hB1 hq hm hx hok hn hM
  go_enter Tryz.func112, Tryz.ntmps112
  go_wp2_with (refine (HM.out _).mono ?_; rintro e w1 ⟨rfl, hb1⟩)
  go_ret
  have hB := below_step HB.out hb1
  exact ⟨rfl, HP.out.keep hB, Foot.of_below hB⟩
 rw [hm] at hM
 rw [hm, if_neg (by simp)] at hR
 obtain ⟨hm1, hm2, hm3, hm4⟩ := mayU_iff.1 hm
 obtain ⟨lt, hlt⟩ : ∃ lt, lt = leU u (subU x.m x.u) := ⟨_, rfl⟩
 have hlu : lt = false ↔ (x.m.g < x.u.g + u.g ∨ x.m.c < x.u.c + u.c) := by
  rw [hlt, ← Bool.not_eq_true, leU_iff]; (try simp only [subU]); omega
 rw [← hlt] at hR
 have HM := Lib.hid hM
 have HR := Lib.hid hR
 clear hM h hB1 hq hm hx hok hn hR hlt
 obtain ⟨⟨mg, mc⟩, ⟨vg, vc⟩⟩ := x
 obtain ⟨ug, uc⟩ := u
 simp only [unV, addU] at *
 go_enter Tryz.func112, Tryz.ntmps112
 go_wp2_with (refine (HM.out _).mono ?_; rintro e w1 ⟨rfl, hb1⟩)
 have hBw := below_step HB.out hb1
 have hP1 := HP.out.keep hBw
 obtain ⟨c0, c1⟩ := hP1.heads
 rw [← Hn.out] at c0 c1
 obtain ⟨d0, d1, d2, d3, f2, f3⟩ := hP1.cells HX.out.1
 simp only at d0 d1 d2 d3
 obtain ⟨e0, e1, y2, y3, y4⟩ := pair_at ((hb1.block w.heap.size (by simp)).trans bS.out)
 have hsz : w.heap.size ≤ w1.heap.size := hBw.size
 have HBw := Lib.hid (And.intro hBw hP1)
 clear hb1 hBw hP1 y0 y1
 by_cases hg : mg < vg + ug
 ·have s0 : decide (mg < vg + ug) = true := decide_eq_true hg
  have hR := HR.out
  rw [if_pos (hlu.2 (.inl hg))] at hR
  subst hR
  clear hlu hg
  go_wp2
  go_quiet (fail)
  go_wp2
  go_ret
  have hB9 := below_drewN HBw.out.1 nq
  exact ⟨rfl, HP.out.keep hB9, Foot.of_below hB9⟩
 have s0 : decide (mg < vg + ug) = false := decide_eq_false hg
 by_cases hc : mc < vc + uc
 ·have s1 : decide (mc < vc + uc) = true := decide_eq_true hc
  have hR := HR.out
  rw [if_pos (hlu.2 (.inr hc))] at hR
  subst hR
  clear hlu hc
  go_wp2
  go_quiet (fail)
  go_wp2
  go_ret
  have hB9 := below_drewN HBw.out.1 nq
  exact ⟨rfl, HP.out.keep hB9, Foot.of_below hB9⟩
 ·have s1 : decide (mc < vc + uc) = false := decide_eq_false hc
  have hR := HR.out
  rw [if_neg (by rw [hlu]; omega)] at hR
  subst hR
  clear hlu
  go_wp2
  go_quiet (fail)
  go_wp2
  obtain ⟨W, hW⟩ : ∃ W, W = w1.drewN nq := ⟨_, rfl⟩
  have hP9 : RQAt W r a b ca cb l := by rw [hW]; exact HBw.out.2.keep (below_drewN (Below.refl _ _) _)
  have hB9 : Below w.heap.size w W := by rw [hW]; exact below_drewN HBw.out.1 _
  obtain ⟨_, c1⟩ := hP9.heads
  rw [← Hn.out] at c1
  obtain ⟨_, _, d2, d3, f2, f3⟩ := hP9.cells HX.out.1
  simp only at d2 d3
  have e0 : W.cell? ⟨w.heap.size, 0, none⟩ = some (.int .i64 ug) := by rw [hW]; exact e0
  have e1 : W.cell? ⟨w.heap.size, 1, none⟩ = some (.int .i64 uc) := by rw [hW]; exact e1
  have HW := Lib.hid (And.intro hB9 hP9)
  rw [← hW]
  clear hW hB9 hP9
  have hbox : b ≠ w.heap.size := by omega
  go_still_tail 29, (by kernel_rfl)
  change wpList _ _ _ _ _ W.drew
  go_wp2
  go_ret
  have hft : Foot (· = b) w ((W.setCell ⟨b, k * 2, none⟩ (.int .i64 (vg + ug))).setCell ⟨b, k * 2 + 1, none⟩ (.int .i64 (vc + uc))).drew := by
   refine (Foot.setCell (p := ⟨b, _, none⟩) (Foot.setCell (p := ⟨b, _, none⟩) (Foot.of_below HW.out.1) (.inl ?_) _) (.inl ?_) _).drew <;> rfl
  exact ⟨rfl, HP.out.wrote ⟨vg + ug, vc + uc⟩ HX.out.1 HW.out.1 ⟨HX.out.2.m, ⟨by simp only; omega, by simp only; omega⟩, ⟨by simp only; omega, by simp only; omega⟩⟩ hft rfl, hft⟩
set_option maxRecDepth 100000 in
set_option maxHeartbeats 4000000 in
theorem rsub_q (r a b ca cb : Nat) (l : List Qa) (q : Int) (u : Un) (w : World) (h : RQAt w r a b ca cb l) (wu : UnW u) :
  Calls Tryz.prog 114 #[.pointer (some ⟨r, 0, none⟩), .int .i64 q, unV u] w fun e w' => e = .returned (.int .i64 (qSub l q u).1) ∧ RQAt w' r a b ca cb (qSub l q u).2 ∧ Foot (· = b) w w' := by
 have hB1 := (Below.refl w.heap.size w).alloc (Nat.le_refl _) (.cells #[.int .i64 u.g, .int .i64 u.c] 57)
 have HP := Lib.hid h
 have HB := Lib.hid hB1
 obtain ⟨R, hR⟩ : ∃ R, R = qSub l q u := ⟨_, rfl⟩
 rw [← hR]
 unfold qSub at hR
 have c0 := (h.keep hB1).heads.1
 have hM := fun W => refmay_any u W
 cases hq : hasQ l q
 ·rw [hq, if_pos rfl] at hR
  subst hR
  have t0 : decide (q < 0) = true ∨ (decide (q < 0) = false ∧ decide ((l.length : Int) ≤ q) = true) := by
   by_cases h0 : q < 0
   ·exact .inl (decide_eq_true h0)
   ·refine .inr ⟨decide_eq_false h0, decide_eq_true ?_⟩
    by_cases h1 : (l.length : Int) ≤ q
    ·exact h1
    ·rw [hasQ_iff.2 ⟨by omega, by omega⟩] at hq; cases hq
  obtain ⟨n, hn⟩ : ∃ n, n = l.length := ⟨_, rfl⟩
  rw [← hn] at c0 t0
  clear h hq hB1 hn
  rcases t0 with t0 | ⟨t0, t1⟩
  all_goals
   obtain ⟨x, y⟩ := u
   simp only [unV] at *
   go_enter Tryz.func114, Tryz.ntmps114
   go_wp2
   go_ret
   exact ⟨rfl, HP.out.keep HB.out, Foot.of_below HB.out⟩
 rw [hq, if_neg (by simp)] at hR
 obtain ⟨k, x, rfl, hkl, hx⟩ := hasQ_at hq
 simp only [Int.toNat_natCast, hx] at hR
 obtain ⟨l1, l2, l3⟩ := h.lt
 have hne := h.ne
 have hok := h.ok x (List.mem_of_getElem? hx)
 obtain ⟨hx1, hx2, hx3, hx4⟩ := mayU_iff.1 hok.m
 obtain ⟨hg1, hg2⟩ := hok.g
 obtain ⟨hc1, hc2⟩ := hok.c
 have hfew := h.few
 have HX := Lib.hid (And.intro hx hok)
 obtain ⟨n, hn⟩ : ∃ n, n = l.length := ⟨_, rfl⟩
 rw [← hn] at hkl hfew c0
 have Hn := Lib.hid hn
 have bS := Lib.hid (heap_alloc_new w (.cells #[.int .i64 u.g, .int .i64 u.c] 57))
 obtain ⟨y0, y1, _, _, _⟩ := pair_at bS.out
 have t0 : decide ((k : Int) < 0) = false := decide_eq_false (by omega)
 have t1 : decide (n ≤ k) = false := decide_eq_false (by omega)
 have k1 := bounds_i64 wu.g
 have k2 := bounds_i64 wu.c
 cases hm : mayU u
 ·rw [hm] at hM
  rw [hm, if_pos rfl] at hR
  subst hR
  obtain ⟨ug, uc⟩ := u
  simp only [unV] at *
  have HM := Lib.hid hM
  clear h hB1 hq hm hx hok hn hM
  go_enter Tryz.func114, Tryz.ntmps114
  go_wp2_with (refine (HM.out _).mono ?_; rintro e w1 ⟨rfl, hb1⟩)
  go_ret
  have hB := below_step HB.out hb1
  exact ⟨rfl, HP.out.keep hB, Foot.of_below hB⟩
 rw [hm] at hM
 rw [hm, if_neg (by simp)] at hR
 obtain ⟨hm1, hm2, hm3, hm4⟩ := mayU_iff.1 hm
 obtain ⟨lt, hlt⟩ : ∃ lt, lt = leU u x.u := ⟨_, rfl⟩
 have hlu : lt = false ↔ (x.u.g < u.g ∨ x.u.c < u.c) := by
  rw [hlt, ← Bool.not_eq_true, leU_iff]; (try simp only [subU]); omega
 rw [← hlt] at hR
 have HM := Lib.hid hM
 have HR := Lib.hid hR
 clear hM h hB1 hq hm hx hok hn hR hlt
 obtain ⟨⟨mg, mc⟩, ⟨vg, vc⟩⟩ := x
 obtain ⟨ug, uc⟩ := u
 simp only [unV, subU] at *
 go_enter Tryz.func114, Tryz.ntmps114
 go_wp2_with (refine (HM.out _).mono ?_; rintro e w1 ⟨rfl, hb1⟩)
 have hBw := below_step HB.out hb1
 have hP1 := HP.out.keep hBw
 obtain ⟨c0, c1⟩ := hP1.heads
 rw [← Hn.out] at c0 c1
 obtain ⟨d0, d1, d2, d3, f2, f3⟩ := hP1.cells HX.out.1
 simp only at d0 d1 d2 d3
 obtain ⟨e0, e1, y2, y3, y4⟩ := pair_at ((hb1.block w.heap.size (by simp)).trans bS.out)
 have hsz : w.heap.size ≤ w1.heap.size := hBw.size
 have HBw := Lib.hid (And.intro hBw hP1)
 clear hb1 hBw hP1 y0 y1
 by_cases hg : vg < ug
 ·have s0 : decide (vg < ug) = true := decide_eq_true hg
  have hR := HR.out
  rw [if_pos (hlu.2 (.inl hg))] at hR
  subst hR
  clear hlu hg
  go_wp2
  go_quiet (fail)
  go_wp2
  go_ret
  have hB9 := below_drewN HBw.out.1 nq
  exact ⟨rfl, HP.out.keep hB9, Foot.of_below hB9⟩
 have s0 : decide (vg < ug) = false := decide_eq_false hg
 by_cases hc : vc < uc
 ·have s1 : decide (vc < uc) = true := decide_eq_true hc
  have hR := HR.out
  rw [if_pos (hlu.2 (.inr hc))] at hR
  subst hR
  clear hlu hc
  go_wp2
  go_quiet (fail)
  go_wp2
  go_ret
  have hB9 := below_drewN HBw.out.1 nq
  exact ⟨rfl, HP.out.keep hB9, Foot.of_below hB9⟩
 ·have s1 : decide (vc < uc) = false := decide_eq_false hc
  have hR := HR.out
  rw [if_neg (by rw [hlu]; omega)] at hR
  subst hR
  clear hlu
  go_wp2
  go_quiet (fail)
  go_wp2
  obtain ⟨W, hW⟩ : ∃ W, W = w1.drewN nq := ⟨_, rfl⟩
  have hP9 : RQAt W r a b ca cb l := by rw [hW]; exact HBw.out.2.keep (below_drewN (Below.refl _ _) _)
  have hB9 : Below w.heap.size w W := by rw [hW]; exact below_drewN HBw.out.1 _
  obtain ⟨_, c1⟩ := hP9.heads
  rw [← Hn.out] at c1
  obtain ⟨_, _, d2, d3, f2, f3⟩ := hP9.cells HX.out.1
  simp only at d2 d3
  have e0 : W.cell? ⟨w.heap.size, 0, none⟩ = some (.int .i64 ug) := by rw [hW]; exact e0
  have e1 : W.cell? ⟨w.heap.size, 1, none⟩ = some (.int .i64 uc) := by rw [hW]; exact e1
  have HW := Lib.hid (And.intro hB9 hP9)
  rw [← hW]
  clear hW hB9 hP9
  have hbox : b ≠ w.heap.size := by omega
  go_still_tail 29, (by kernel_rfl)
  change wpList _ _ _ _ _ W.drew
  go_wp2
  go_ret
  have hft : Foot (· = b) w ((W.setCell ⟨b, k * 2, none⟩ (.int .i64 (vg - ug))).setCell ⟨b, k * 2 + 1, none⟩ (.int .i64 (vc - uc))).drew := by
   refine (Foot.setCell (p := ⟨b, _, none⟩) (Foot.setCell (p := ⟨b, _, none⟩) (Foot.of_below HW.out.1) (.inl ?_) _) (.inl ?_) _).drew <;> rfl
  exact ⟨rfl, HP.out.wrote ⟨vg - ug, vc - uc⟩ HX.out.1 HW.out.1 ⟨HX.out.2.m, ⟨by simp only; omega, by simp only; omega⟩, ⟨by simp only; omega, by simp only; omega⟩⟩ hft rfl, hft⟩
end Go.Proofs.YtgpfmlidchogcaaGreat

set_option linter.unusedVariables false
set_option maxRecDepth 100000
namespace Go.Proofs.YtgpfmlidchogcaaGreat
open Go.RowKit

theorem own_empty2 (w : World) (base : Nat) (hb : base ≤ w.heap.size) : (w.alloc (.cells #[] 57)).ownsRow base 57 2 (.slice (some ⟨w.heap.size, 0, none⟩) 0 0) 0 [] :=
 ⟨rfl, .inr ⟨w.heap.size, 0, #[], rfl, hb, heap_alloc_new w _, Nat.le_refl _, Nat.zero_le _, rfl, rfl⟩⟩
theorem zeros_flat : ∀ (l : List Un) (j : Nat) v, (((newL l).map (·.u)).flatMap uC)[j]? = some v → j < l.length * 2 ∧ v = .int .i64 0
 | [], j, v, h => by simp [newL] at h
 | x :: l, j, v, h => by
  have e : ((newL (x :: l)).map (·.u)).flatMap uC = .int .i64 0 :: .int .i64 0 :: ((newL l).map (·.u)).flatMap uC := by simp [newL, newA, uC]
  rw [e] at h
  match j, h with
  | 0, h => simp at h; exact ⟨by rw [List.length_cons]; omega, h.symm⟩
  | 1, h => simp at h; exact ⟨by rw [List.length_cons]; omega, h.symm⟩
  | j + 2, h =>
   obtain ⟨h1, h2⟩ := zeros_flat l j v (by simpa using h)
   exact ⟨by rw [List.length_cons]; omega, h2⟩
theorem made_zero (n j : Nat) (h : j < n * 2) : (madeCells (.agg #[.int .i64 0, .int .i64 0] : Value).cells (n * 2))[j]? = some (.int .i64 0) := by
 unfold madeCells
 rw [Array.getElem?_map, Array.getElem?_range, if_pos h]
 have : j % 2 = 0 ∨ j % 2 = 1 := by omega
 rcases this with e | e
 ·simp [Value.cells, e]
 ·simp [Value.cells, e]
theorem newfin {l : List Un} {n cp0 : Nat} {w : World} {gg bm : Nat} {mc : Array Value} (W : World) (hok : quotasOk l = true) (hn : l.length = n) (eo : W.ownsRow w.heap.size 57 2 (.slice (some ⟨gg, 0, none⟩) (0 + n) cp0) (0 + n) ([] ++ l.flatMap uC)) (hm : W.heap[bm]? = some (.cells mc 57 (0, 0)))
  (hz : ∀ j, j < n * 2 → mc[j]? = some (.int .i64 0)) (hb : Below w.heap.size w W) (hne : gg ≠ bm) (hbm : w.heap.size ≤ bm) :
  ∃ r a b ca cb, (Value.pointer (some ⟨W.heap.size, 0, none⟩) = .pointer (some ⟨r, 0, none⟩)) ∧ RQAt (W.alloc (.cells #[.slice (some ⟨gg, 0, none⟩) n cp0, .slice (some ⟨bm, 0, none⟩) n n] 116)) r a b ca cb (newL l) ∧ w.heap.size ≤ r ∧ w.heap.size ≤ a ∧ w.heap.size ≤ b ∧ Below w.heap.size w (W.alloc (.cells #[.slice (some ⟨gg, 0, none⟩) n cp0, .slice (some ⟨bm, 0, none⟩) n n] 116)) := by
 obtain ⟨h1, h2, h3⟩ := quotasOk_iff.1 hok
 have hl := eo.lt gg rfl
 have hbl := blk_lt hm
 rw [Nat.zero_add, List.nil_append] at eo
 have hnl : (newL l).length = n := by unfold newL; rw [List.length_map]; exact hn
 refine ⟨W.heap.size, gg, bm, cp0, n, rfl, ⟨by rw [hnl]; omega, fun x hx => ?_, ?_, ?_, ?_, ⟨by omega, by omega, hne⟩⟩, hb.size, hl.1, hbm, hb.alloc hb.size _⟩
 ·obtain ⟨u, hu, rfl⟩ := List.mem_map.1 hx
  exact newA_ok (List.all_eq_true.1 h3 u hu)
 ·rw [hnl]; exact heap_alloc_new W _
 ·rcases eo.2 with ⟨e, _⟩ | ⟨g', cap', cur, e, _, hg, _, _, _, ht⟩
  ·cases e
  ·cases e
   refine ⟨cur, (Below.heap_alloc W _ _ hl.2).trans hg, fun j v hj => ?_⟩
   rw [newL_m] at hj
   rw [← ht, List.getElem?_take] at hj
   split at hj
   ·simpa using hj
   ·cases hj
 ·refine ⟨mc, (Below.heap_alloc W _ _ hbl).trans hm, fun j v hj => ?_⟩
  obtain ⟨hj1, rfl⟩ := zeros_flat l j v hj
  exact hz j (by omega)
set_option maxRecDepth 100000 in
set_option maxHeartbeats 4000000 in
theorem rnew_q (A : Option Addr) (c : Nat) (l : List Un) (w : World) (h : Uns w w.heap.size A l) (hok : quotasOk l = true) :
  Calls Tryz.prog 20 #[.slice A l.length c] w fun e w' => ∃ r a b ca cb, e = .returned (.pointer (some ⟨r, 0, none⟩)) ∧ RQAt w' r a b ca cb (newL l) ∧ w.heap.size ≤ r ∧ w.heap.size ≤ a ∧ w.heap.size ≤ b ∧ Below w.heap.size w w' := by
 obtain ⟨q1, q2, q3⟩ := quotasOk_iff.1 hok
 obtain ⟨x0, hx0⟩ := get_lt (l := l) (k := 0) (by omega)
 obtain ⟨b0, off, rfl, hb, hc⟩ := h.at_ hx0
 obtain ⟨n, hln⟩ : ∃ n, l.length = n := ⟨_, rfl⟩
 obtain ⟨i0, hi, hz0, hz1, hz2⟩ := info_parts info_un
 obtain ⟨mc, hmc⟩ : ∃ mc, mc = madeCells (.agg #[.int .i64 0, .int .i64 0] : Value).cells (n * 2) := ⟨_, rfl⟩
 have hmcz : ∀ j, j < n * 2 → mc[j]? = some (.int .i64 0) := fun j hj => by rw [hmc]; exact made_zero n j hj
 rw [hln] at q1 q2
 have hmk : ∀ W : World, (Instr.makeSlice 25 (.int .i64 (n : Nat)) (.int .i64 (n : Nat))).run Tryz.prog W = .ok (.slice (some ⟨W.heap.size, 0, none⟩) n n) (W.alloc (.cells mc 57)) := fun W => by
  have := run_make (P := Tryz.prog) W 25 57 i0 _ Tryz.underlying25 hi hz0 .i64 .i64 (n : Nat) (n : Nat) (by omega) (by omega) (by rw [hz2]; omega) (by omega)
  rw [hz1] at this
  rw [hmc]
  simpa using this
 have H := Lib.hid (And.intro hc (And.intro hln hb))
 have hbok := hok
 rw [hln]
 clear hmc h hok hx0 hc q3
 go_enter Tryz.func20, Tryz.ntmps20
 go_wp2
 refine held_begin (fun _ : World => True) (by kernel_rfl) ?_
 have bwd : Below w.heap.size w w.drew := (Below.refl _ _).drew
 have swd : w.heap.size ≤ w.drew.heap.size := Nat.le_refl _
 generalize w.drew = wd at bwd swd ⊢
 refine held_takeK (v := ?_) 1 4 rfl rfl ⟨by rfl, ?_⟩ (trivial : True) ?_
 rotate_left
 ·intro w' hw'; go_simp; (try with_reducible rfl)
 simp only [Act.put, pzA, pzB, pzC]
 refine held_takeK (v := ?_) 3 6 rfl rfl ⟨by rfl, ?_⟩ (trivial : True) ?_
 rotate_left
 ·intro w' hw'; go_simp; (try with_reducible rfl)
 simp only [Act.put, pzA, pzB, pzC]
 refine held_takeK (v := ?_) 4 7 rfl rfl ⟨by rfl, ?_⟩ (trivial : True) ?_
 rotate_left
 ·intro w' hw'; go_simp; (try with_reducible rfl)
 simp only [Act.put, pzA, pzB, pzC]
 refine held_two 0 5 rfl rfl (by kernel_rfl) (by rfl) (by rfl) (fun K hK => ?_) (fun K hK => ?_)
 ·go_simp
  obtain ⟨wa, hwa⟩ : ∃ x, x = wd.alloc (.cells #[] 57) := ⟨_, rfl⟩
  have bwa : Below w.heap.size w wa := by rw [hwa]; exact bwd.alloc bwd.size _
  have swa : wd.heap.size < wa.heap.size := by rw [hwa]; simp
  have eo : wa.ownsRow w.heap.size 57 2 (.slice (some ⟨wd.heap.size, 0, none⟩) 0 0) 0 [] := by rw [hwa]; exact own_empty2 _ _ bwd.size
  obtain ⟨be, hbe⟩ : ∃ x, x = wd.heap.size := ⟨_, rfl⟩
  rw [← hbe] at eo
  refine hK.out _ _ trivial ?_
  clear hK K
  try simp only [Act.put, pzA, pzB, pzC]
  rw [← hwa, ← hbe]
  clear hwa
  have hbe0 : wd.heap.size ≤ be := by omega
  have hbe1 : be < wa.heap.size := by omega
  have hbe2 : w.heap.size ≤ be := by have := bwd.size; omega
  clear hbe
  refine held_two 2 5 rfl rfl (by kernel_rfl) (by rfl) (by rfl) (fun K hK => ?_) (fun K hK => ?_)
  ·simp only [Go.wp_at_zero, Go.wp_at_succ]
   refine wp_append_lies _ _ _ 25 rfl w.heap.size 57 i0 _ 2 16 Tryz.underlying25 hi hz0 hz1 hz2 rfl (by omega) (.slice (some ⟨be, 0, none⟩) 0 0) 0 [] rfl eo ⟨b0, off, none⟩ n c (l.flatMap uC) rfl (by rw [flat_len uC_len, H.out.2.1]) (fun j v hj => els_cells uC_len (by omega) (fun i x hx => (H.out.1 i x hx).keep H.out.2.2 bwa) j v hj) (els_one uC_one l) (by omega) (by unfold maxLen; omega) (by omega) (by omega) wa.heap.size (by omega) ?_
   intro gg cap' wb eo2 hgrow hat hlt
   have bwb : Below w.heap.size w wb := bwa.grown hgrow bwa.size (fun i e => (eo.lt i e).1)
   have swb : wa.heap.size ≤ wb.heap.size := hgrow.size
   refine hK.out _ _ trivial ?_
   clear hK K
   try simp only [Act.put, pzA, pzB, pzC]
   refine held_one 5 rfl (by kernel_rfl) (by rfl) (fun K hK => ?_)
   go_simp
   obtain ⟨wc, hwc⟩ : ∃ x, x = wb.alloc (.cells mc 57) := ⟨_, rfl⟩
   have bwc : Below w.heap.size w wc := by rw [hwc]; exact bwb.alloc bwb.size _
   have hmk2 : wc.heap[wb.heap.size]? = some (.cells mc 57 (0, 0)) := by rw [hwc]; exact heap_alloc_new _ _
   have hgl := (eo2.lt gg rfl).2
   have hwb := bwb.size
   replace eo2 := (own_keep eo2 (show Below wb.heap.size wb wc by rw [hwc]; exact (Below.refl _ _).alloc (Nat.le_refl _) _))
   obtain ⟨bm, hbm⟩ : ∃ x, x = wb.heap.size := ⟨_, rfl⟩
   rw [← hbm] at hmk2
   refine hK.out _ _ trivial ?_
   clear hK K
   try simp only [Act.put, pzA, pzB, pzC]
   rw [← hwc, ← hbm]
   clear hwc
   have hbm1 : wb.heap.size ≤ bm := by omega
   have hbm2 : bm < wc.heap.size := blk_lt hmk2
   have hbm3 : w.heap.size ≤ bm := by have := bwb.size; omega
   clear hbm
   refine held_takeK (v := ?_) 6 9 rfl rfl ⟨by rfl, ?_⟩ (trivial : True) ?_
   rotate_left
   ·intro w' hw'; go_simp; (try with_reducible rfl)
   simp only [Act.put, pzA, pzB, pzC]
   refine held_one 7 rfl (by kernel_rfl) (by rfl) (fun K hK => ?_)
   go_simp
   refine hK.out _ _ trivial ?_
   clear hK K
   try simp only [Act.put, pzA, pzB, pzC]
   refine held_takeK (v := ?_) 8 2 rfl rfl ⟨by rfl, ?_⟩ (trivial : True) ?_
   rotate_left
   ·intro w' hw'; go_simp; (try with_reducible rfl)
   simp only [Act.put, pzA, pzB, pzC]
   refine wpAnyH_done (by kernel_rfl) ?_ _
   go_wp2
   go_ret
   obtain ⟨r9, a9, b9, ca9, cb9, h1, h2⟩ := newfin wc hbok hln eo2 hmk2 hmcz bwc (by omega) (by omega)
   cases h1
   exact ⟨_, a9, b9, ca9, cb9, rfl, h2⟩
  ·go_simp
   obtain ⟨wb, hwb⟩ : ∃ x, x = wa.alloc (.cells mc 57) := ⟨_, rfl⟩
   have bwb : Below w.heap.size w wb := by rw [hwb]; exact bwa.alloc bwa.size _
   have swb : wa.heap.size < wb.heap.size := by rw [hwb]; simp
   have hmk2 : wb.heap[wa.heap.size]? = some (.cells mc 57 (0, 0)) := by rw [hwb]; exact heap_alloc_new _ _
   replace eo := (own_keep eo (show Below wa.heap.size wa wb by rw [hwb]; exact (Below.refl _ _).alloc (Nat.le_refl _) _))
   obtain ⟨bm, hbm⟩ : ∃ x, x = wa.heap.size := ⟨_, rfl⟩
   rw [← hbm] at hmk2
   refine hK.out _ _ trivial ?_
   clear hK K
   try simp only [Act.put, pzA, pzB, pzC]
   rw [← hwb, ← hbm]
   clear hwb
   have hbm1 : wa.heap.size ≤ bm := by omega
   have hbm2 : bm < wb.heap.size := blk_lt hmk2
   have hbm3 : w.heap.size ≤ bm := by have := bwa.size; omega
   clear hbm
   refine held_one 2 rfl (by kernel_rfl) (by rfl) (fun K hK => ?_)
   simp only [Go.wp_at_zero, Go.wp_at_succ]
   refine wp_append_lies _ _ _ 25 rfl w.heap.size 57 i0 _ 2 16 Tryz.underlying25 hi hz0 hz1 hz2 rfl (by omega) (.slice (some ⟨be, 0, none⟩) 0 0) 0 [] rfl eo ⟨b0, off, none⟩ n c (l.flatMap uC) rfl (by rw [flat_len uC_len, H.out.2.1]) (fun j v hj => els_cells uC_len (by omega) (fun i x hx => (H.out.1 i x hx).keep H.out.2.2 bwb) j v hj) (els_one uC_one l) (by omega) (by unfold maxLen; omega) (by omega) (by omega) wb.heap.size (by omega) ?_
   intro gg cap' wc eo2 hgrow hat hlt
   have bwc : Below w.heap.size w wc := bwb.grown hgrow bwb.size (fun i e => (eo.lt i e).1)
   have swc : wb.heap.size ≤ wc.heap.size := hgrow.size
   replace hmk2 := (hgrow.block bm (by omega) (by simp only [Value.ownBlock]; intro e; injection e with e; omega)).trans hmk2
   have hgb : gg ≠ bm := by
    rcases hat with hat | hat
    ·have : be = gg := by simpa [Value.ownBlock] using hat
     omega
    ·omega
   refine hK.out _ _ trivial ?_
   clear hK K
   try simp only [Act.put, pzA, pzB, pzC]
   refine held_takeK (v := ?_) 6 9 rfl rfl ⟨by rfl, ?_⟩ (trivial : True) ?_
   rotate_left
   ·intro w' hw'; go_simp; (try with_reducible rfl)
   simp only [Act.put, pzA, pzB, pzC]
   refine held_one 7 rfl (by kernel_rfl) (by rfl) (fun K hK => ?_)
   go_simp
   refine hK.out _ _ trivial ?_
   clear hK K
   try simp only [Act.put, pzA, pzB, pzC]
   refine held_takeK (v := ?_) 8 2 rfl rfl ⟨by rfl, ?_⟩ (trivial : True) ?_
   rotate_left
   ·intro w' hw'; go_simp; (try with_reducible rfl)
   simp only [Act.put, pzA, pzB, pzC]
   refine wpAnyH_done (by kernel_rfl) ?_ _
   go_wp2
   go_ret
   obtain ⟨r9, a9, b9, ca9, cb9, h1, h2⟩ := newfin wc hbok hln eo2 hmk2 hmcz bwc (by omega) (by omega)
   cases h1
   exact ⟨_, a9, b9, ca9, cb9, rfl, h2⟩
 ·go_simp
  obtain ⟨wa, hwa⟩ : ∃ x, x = wd.alloc (.cells mc 57) := ⟨_, rfl⟩
  have bwa : Below w.heap.size w wa := by rw [hwa]; exact bwd.alloc bwd.size _
  have swa : wd.heap.size < wa.heap.size := by rw [hwa]; simp
  have hmk2 : wa.heap[wd.heap.size]? = some (.cells mc 57 (0, 0)) := by rw [hwa]; exact heap_alloc_new _ _
  obtain ⟨bm, hbm⟩ : ∃ x, x = wd.heap.size := ⟨_, rfl⟩
  rw [← hbm] at hmk2
  refine hK.out _ _ trivial ?_
  clear hK K
  try simp only [Act.put, pzA, pzB, pzC]
  rw [← hwa, ← hbm]
  clear hwa
  have hbm1 : wd.heap.size ≤ bm := by omega
  have hbm2 : bm < wa.heap.size := blk_lt hmk2
  have hbm3 : w.heap.size ≤ bm := by have := bwd.size; omega
  clear hbm
  refine held_one 0 rfl (by kernel_rfl) (by rfl) (fun K hK => ?_)
  go_simp
  obtain ⟨wb, hwb⟩ : ∃ x, x = wa.alloc (.cells #[] 57) := ⟨_, rfl⟩
  have bwb : Below w.heap.size w wb := by rw [hwb]; exact bwa.alloc bwa.size _
  have swb : wa.heap.size < wb.heap.size := by rw [hwb]; simp
  have eo : wb.ownsRow w.heap.size 57 2 (.slice (some ⟨wa.heap.size, 0, none⟩) 0 0) 0 [] := by rw [hwb]; exact own_empty2 _ _ bwa.size
  replace hmk2 := (show wb.heap[bm]? = some (.cells mc 57 (0, 0)) by rw [hwb]; exact (Below.heap_alloc _ _ _ (by omega)).trans hmk2)
  obtain ⟨be, hbe⟩ : ∃ x, x = wa.heap.size := ⟨_, rfl⟩
  rw [← hbe] at eo
  refine hK.out _ _ trivial ?_
  clear hK K
  try simp only [Act.put, pzA, pzB, pzC]
  rw [← hwb, ← hbe]
  clear hwb
  have hbe0 : wa.heap.size ≤ be := by omega
  have hbe1 : be < wb.heap.size := by omega
  have hbe2 : w.heap.size ≤ be := by have := bwa.size; omega
  clear hbe
  refine held_one 2 rfl (by kernel_rfl) (by rfl) (fun K hK => ?_)
  simp only [Go.wp_at_zero, Go.wp_at_succ]
  refine wp_append_lies _ _ _ 25 rfl w.heap.size 57 i0 _ 2 16 Tryz.underlying25 hi hz0 hz1 hz2 rfl (by omega) (.slice (some ⟨be, 0, none⟩) 0 0) 0 [] rfl eo ⟨b0, off, none⟩ n c (l.flatMap uC) rfl (by rw [flat_len uC_len, H.out.2.1]) (fun j v hj => els_cells uC_len (by omega) (fun i x hx => (H.out.1 i x hx).keep H.out.2.2 bwb) j v hj) (els_one uC_one l) (by omega) (by unfold maxLen; omega) (by omega) (by omega) wb.heap.size (by omega) ?_
  intro gg cap' wc eo2 hgrow hat hlt
  have bwc : Below w.heap.size w wc := bwb.grown hgrow bwb.size (fun i e => (eo.lt i e).1)
  have swc : wb.heap.size ≤ wc.heap.size := hgrow.size
  replace hmk2 := (hgrow.block bm (by omega) (by simp only [Value.ownBlock]; intro e; injection e with e; omega)).trans hmk2
  have hgb : gg ≠ bm := by
   rcases hat with hat | hat
   ·have : be = gg := by simpa [Value.ownBlock] using hat
    omega
   ·omega
  refine hK.out _ _ trivial ?_
  clear hK K
  try simp only [Act.put, pzA, pzB, pzC]
  refine held_takeK (v := ?_) 6 9 rfl rfl ⟨by rfl, ?_⟩ (trivial : True) ?_
  rotate_left
  ·intro w' hw'; go_simp; (try with_reducible rfl)
  simp only [Act.put, pzA, pzB, pzC]
  refine held_one 7 rfl (by kernel_rfl) (by rfl) (fun K hK => ?_)
  go_simp
  refine hK.out _ _ trivial ?_
  clear hK K
  try simp only [Act.put, pzA, pzB, pzC]
  refine held_takeK (v := ?_) 8 2 rfl rfl ⟨by rfl, ?_⟩ (trivial : True) ?_
  rotate_left
  ·intro w' hw'; go_simp; (try with_reducible rfl)
  simp only [Act.put, pzA, pzB, pzC]
  refine wpAnyH_done (by kernel_rfl) ?_ _
  go_wp2
  go_ret
  obtain ⟨r9, a9, b9, ca9, cb9, h1, h2⟩ := newfin wc hbok hln eo2 hmk2 hmcz bwc (by omega) (by omega)
  cases h1
  exact ⟨_, a9, b9, ca9, cb9, rfl, h2⟩
end Go.Proofs.YtgpfmlidchogcaaGreat
