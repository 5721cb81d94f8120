/- The document's New; Ints of told ids; SameTold; alike: does a ledger stand as the document's. -/
import Derived.Laws.StructEq
import Derived.BigFrame
import Derived.Test.YtgpfmlidchogcaaGreatLedRefT
import Derived.Test.YtgpfmlidchogcaaGreatLedSame
import Derived.Test.YtgpfmlidchogcaaGreatLedRows
import Derived.Test.YtgpfmlidchogcaaGreatLedCallz
import Derived.Test.YtgpfmlidchogcaaGreatPoolRefZ
import Derived.Test.YtgpfmlidchogcaaGreatQuotaZ
import Derived.Test.YtgpfmlidchogcaaGreatQuotaRefZ
import Derived.Test.YtgpfmlidchogcaaGreatKitZ
import Derived.Test.YtgpfmlidchogcaaGreatLedFew
set_option maxRecDepth 100000
set_option linter.unusedVariables false
namespace Go.Proofs.YtgpfmlidchogcaaGreat
open Go.RowKit Go.MuLone
set_option maxRecDepth 100000 in
set_option maxHeartbeats 1000000 in
theorem ints_l (A A' : Option Addr) (c c' B B' : Nat) (l l' : List Int) (w : World) (h : Els numC 1 w B A l) (h' : Els numC 1 w B' A' l') (hB : B ≤ w.heap.size) (hB' : B' ≤ w.heap.size) (hn : l.length ≤ 5000) :
  Calls Tryz.prog 21 #[.slice A l.length c, .slice A' l'.length c'] w fun e w' => e = .returned (.bool (decide (l = l'))) ∧ Below w.heap.size w w' := by
 obtain ⟨R, hR⟩ : ∃ R, R = decide (l = l') := ⟨_, rfl⟩
 rw [← hR]
 obtain ⟨n, hln⟩ : ∃ n, n = l.length := ⟨_, rfl⟩
 obtain ⟨m, hlm⟩ : ∃ m, m = l'.length := ⟨_, rfl⟩
 have H := Lib.hid (And.intro hR (And.intro h (And.intro h' (And.intro hln hlm))))
 rw [← hln] at hn ⊢
 rw [← hlm]
 clear hR h h' hln hlm
 by_cases hnm : n = m
 ·subst hnm
  have t0 : ((n : Int) != (n : Int)) = false := by simp
  go_enter Tryz.func21, Tryz.ntmps21
  go_wp2
  go_loopw [5] (fun i wr => ∃ k : Nat, i = .int .i64 k ∧ k ≤ n ∧ Below w.heap.size w wr ∧ Hid (l.take k = l'.take k)) (fun i _ => n - (intOf i).toNat)
  case atStart => exact ⟨0, rfl, by omega, Below.refl _ _, Lib.hid rfl⟩
  case round =>
   obtain ⟨k, rfl, hk, hBl, hall⟩ := hrel
   by_cases hlt : k < n
   ·obtain ⟨u, hx⟩ := get_lt (l := l) (k := k) (by rw [← H.out.2.2.2.1]; exact hlt)
    obtain ⟨v, hy⟩ := get_lt (l := l') (k := k) (by rw [← H.out.2.2.2.2]; exact hlt)
    obtain ⟨b, off, rfl, hb, hc⟩ := H.out.2.1.at_ hx
    obtain ⟨b', off', rfl, hb', hc'⟩ := H.out.2.2.1.at_ hy
    have hcx := (hc k _ hx).keep (Nat.lt_of_lt_of_le hb hB) hBl
    have hcy := (hc' k _ hy).keep (Nat.lt_of_lt_of_le hb' hB') hBl
    have z0 : wr.cell? ⟨b, off + k, none⟩ = some (.int .i64 u) := by have := hcx 0 _ rfl; simpa using this
    have y0 : wr.cell? ⟨b', off' + k, none⟩ = some (.int .i64 v) := by have := hcy 0 _ rfl; simpa using this
    have t1 : decide (k < n) = true := decide_eq_true hlt
    have N := Lib.hid (And.intro hx hy)
    have HB := Lib.hid hBl
    by_cases e : u = v
    ·have hne : (u != v) = false := by simp [e]
     have E := Lib.hid e
     clear hc hc' hcx hcy hx hy hBl e
     go_wp2
     go_quiet (fail)
     go_wp2
     go_roundw
     case rel => exact ⟨k + 1, by go_num, by omega, below_drewN HB.out _, Lib.hid (by rw [take_next N.out.1, take_next N.out.2, hall.out, E.out])⟩
     case measure => simp [intOf]; omega
    ·have hne : (u != v) = true := by simpa using e
     have eR : R = false := by
      rw [H.out.1]; refine decide_eq_false fun e1 => e ?_
      rw [e1, hy] at hx; injection hx with hx; exact hx.symm
     subst eR
     clear hc hc' hcx hcy hx hy hBl e
     go_wp2
     go_quiet (fail)
     go_wp2
     go_ret
     exact ⟨rfl, below_drewN HB.out _⟩
   ·obtain rfl : k = n := by omega
    have eR : R = true := by
     have e := hall.out
     rw [H.out.1]; refine decide_eq_true ?_
     rw [H.out.2.2.2.1] at e
     rw [List.take_length, ← H.out.2.2.2.1, H.out.2.2.2.2, List.take_length] at e
     exact e
    subst eR
    have HB := Lib.hid hBl
    clear hlt hBl
    go_wp2
    go_ret
    exact ⟨rfl, HB.out⟩
 ·have eR : R = false := by
   rw [H.out.1]; refine decide_eq_false fun e => hnm ?_
   rw [H.out.2.2.2.1, H.out.2.2.2.2, e]
  subst eR
  have t0 : ((n : Int) != (m : Int)) = true := by simp; omega
  clear hnm
  go_enter Tryz.func21, Tryz.ntmps21
  go_wp2
  go_ret
  exact ⟨rfl, Below.refl _ _⟩

set_option maxHeartbeats 2000000 in
theorem rnew8_l (A : Option Addr) (c : Nat) (ns : List (List (Int × Int))) (B : Option Addr) (cb : Nat) (us : List Un) (w : World) (h : Nodes w w.heap.size A ns) (hok : cluOk ns = true) (hu : Uns w w.heap.size B us) (hq : quotasOk us = true) :
  Calls Tryz.prog 7 #[.agg #[.slice A ns.length c], .slice B us.length cb] w fun e w' => ∃ r D, e = .returned (.pointer (some ⟨r, 0, none⟩)) ∧ RL w' r D (frees ns) (LM.init ns us) ∧ (∀ i, D i → w.heap.size ≤ i ∧ i < w'.heap.size) ∧ Below w.heap.size w w' := by
 obtain ⟨W0, hW0⟩ : ∃ W0, W0 = w.alloc (.cells #[.slice A ns.length c] 24) := ⟨_, rfl⟩
 have hB0 : Below w.heap.size w W0 := by rw [hW0]; exact (Below.refl _ _).alloc (Nat.le_refl _) _
 have HP := Lib.hid (refnew_any A c ns W0 (Nodes.keep h hB0 hB0.size) hok)
 have HQ := Lib.hid (fun W (hW : Below w.heap.size w W) => rnew_q B cb us W (Els.keep hu hW hW.size) hq)
 have k0 : W0.cell? ⟨w.heap.size, 0, none⟩ = some (.slice A ns.length c) := by rw [hW0]; exact cell_blk (heap_alloc_new w _) rfl
 have l0 : w.heap.size < W0.heap.size := by rw [hW0]; simp
 obtain ⟨n, hn⟩ : ∃ n, n = ns.length := ⟨_, rfl⟩
 obtain ⟨m, hm⟩ : ∃ m, m = us.length := ⟨_, rfl⟩
 rw [← hn] at k0 hW0 HP ⊢
 rw [← hm] at HQ ⊢
 have HW0 := Lib.hid hW0
 have HB0 := Lib.hid hB0
 have HNn := Lib.hid hn
 clear h hu hB0 hW0 hn hm
 rw [HW0.out] at k0
 go_enter Tryz.func7, Tryz.ntmps7
 go_wp2_with (first
  | (go_at_call 19; rw [← HW0.out]; refine HP.out.mono ?_; rintro e w1 ⟨q, al, tk, db, ca, ct, cd, rfl, p1, p2, p3, p4, hr, hb⟩; have H1 := Lib.hid (And.intro hr (And.intro hb (And.intro p1 (And.intro p2 (And.intro p3 p4))))); clear hr hb p1 p2 p3 p4)
  | (go_at_call 20; refine (HQ.out _ (below_step HB0.out H1.out.2.1)).mono ?_; rintro e w2 ⟨ra, a, b, ca2, cb2, rfl, hra, g1, g2, g3, hb2⟩; have H2 := Lib.hid (And.intro hra (And.intro hb2 (And.intro g1 (And.intro g2 g3)))); clear hra hb2 g1 g2 g3))
 go_ret
 obtain ⟨hr, hb, p1, p2, p3, p4⟩ := H1.out
 rw [HNn.out] at hr
 obtain ⟨hra, hb2, g1, g2, g3⟩ := H2.out
 obtain ⟨W9, hW9⟩ : ∃ W9, W9 = w2.alloc (.cells #[.pointer (some ⟨q, 0, none⟩), .pointer (some ⟨ra, 0, none⟩), .slice none 0 0, .int .i64 0] 85) := ⟨_, rfl⟩
 have hB9 : Below w2.heap.size w2 W9 := by rw [hW9]; exact (Below.refl _ _).alloc (Nat.le_refl _) _
 have hs9 : W9.heap.size = w2.heap.size + 1 := by rw [hW9]; simp
 have s0 := HB0.out.size
 have s1 := hb.size
 have s2 := hb2.size
 have hbw := below_step (below_step (below_step HB0.out hb) hb2) hB9
 have hlr := hr.lt
 have hlq := hra.lt
 have n1 := hr.ne
 have n2 := hra.ne
 refine Eq.subst (motive := fun W => ∃ r D, Ending.returned (Value.pointer (some ⟨w2.heap.size, 0, none⟩)) = .returned (.pointer (some ⟨r, 0, none⟩)) ∧ RL W r D (frees ns) (LM.init ns us) ∧ (∀ i, D i → w.heap.size ≤ i ∧ i < W.heap.size) ∧ Below w.heap.size w W) hW9 ⟨w2.heap.size, fun i => i = w2.heap.size ∨ i = q ∨ i = al ∨ i = tk ∨ i = db ∨ i = ra ∨ i = a ∨ i = b, rfl, ⟨q, al, tk, db, ra, a, b, none, 0, [], ⟨⟨?_, fun h hh => (by cases hh), fun h hh => (by cases hh), Nat.le_refl _⟩, (by rw [hW9]; exact heap_alloc_new w2 _), World.ownsRow_nil _ _ _ _, ⟨ca, ct, cd, hr.keep (hb2.trans (hB9.mono s2))⟩, ⟨ca2, cb2, hra.keep hB9⟩, rfl, fun x hx => (by cases hx), fun x hx => (by cases hx), ?_, fun g o e => (by cases e), fun x hx => (by cases hx)⟩, ?_⟩, ?_, hbw⟩
 ·simp [LM.init, LM.Asc]
 ·simp; omega
 ·intro i hi
  rcases hi with hi | ⟨o, e⟩ | ⟨x, hx, _⟩
  ·simpa using hi
  ·cases e
  ·cases hx
 ·intro i hi
  omega

theorem flat_bool : ∀ (l : List Bool), l.flatMap boolC = l.map Value.bool
 | [] => rfl
 | x :: l => by simp only [List.flatMap_cons, List.map_cons, flat_bool l]; rfl
set_option maxHeartbeats 4000000 in
theorem alike_l {w : World} {p r : Nat} {F D : Nat → Prop} {fs : List Fr} {st : LS} (h : LObj w p F fs st) (hm : RL w r D fs st) (hv : st.ver ≤ 90000) :
  Calls Tryz.prog 11 #[.pointer (some ⟨p, 0, none⟩), .pointer (some ⟨r, 0, none⟩)] w fun e w' => e = .returned (.bool true) ∧ Below w.heap.size w w' := by
 obtain ⟨q, al, tk, db, ra, a, b, A, c, L, h1, hD⟩ := hm
 obtain ⟨ca, ct, cd, hp⟩ := h1.pool
 obtain ⟨cc, cb, ha⟩ := h1.acc
 have hok := h.ok
 have hfew : st.hs.length ≤ 90000 := by have := hok.1.few; omega
 have y0 := cell_blk (i := 0) h1.blk rfl
 have y1 := cell_blk (i := 1) h1.blk rfl
 have y2 := cell_blk (i := 2) h1.blk rfl
 have y3 := cell_blk (i := 3) h1.blk rfl
 have y4 := ha.heads.2
 have y5 := hp.heads.2.2
 have lr := blk_lt h1.blk
 have lra := ha.lt.1
 have lq := hp.lt.1
 have hHL : HL w (fun _ => True) A st.hs := ⟨L, h1.hs, (els_own hsC_len h1.row rfl).1, h1.sl, fun _ _ _ => trivial, fun _ _ _ _ _ => trivial⟩
 have hDB : Bls w w.heap.size (some ⟨db, 0, none⟩) st.dr := by
  obtain ⟨cur, e1, e2⟩ := hp.drained
  exact els_blk (C := boolC) (fun _ => rfl) e1 (by intro j v hj; rw [flat_bool] at hj; exact e2 j v hj)
 have HU := Lib.hid ha.uns
 have HP := Lib.hid hp
 have HH := Lib.hid (And.intro hHL hDB)
 have HOK := Lib.hid (And.intro h (And.intro hok (And.intro hfew hv)))
 obtain ⟨nh, hnh⟩ : ∃ n, n = st.hs.length := ⟨_, rfl⟩
 have hnL : L.length = nh := by rw [hnh, ← h1.hs, List.length_map]
 rw [hnL] at y2
 obtain ⟨nf, hnf⟩ : ∃ n, n = (PM.free fs st.ts).length := ⟨_, rfl⟩
 obtain ⟨nv, hnv⟩ : ∃ n, n = (PM.view fs st.ts st.dr).length := ⟨_, rfl⟩
 obtain ⟨nq, hnq⟩ : ∃ n, n = st.qs.length := ⟨_, rfl⟩
 obtain ⟨nd, hnd⟩ : ∃ n, n = st.dr.length := ⟨_, rfl⟩
 rw [← hnq] at y4
 rw [← hnd] at y5
 have HN := Lib.hid (And.intro hnh (And.intro hnf (And.intro hnv (And.intro hnq hnd))))
 have hFl : Hid ((PM.free fs st.ts).length ≤ 1000 ∧ (PM.view fs st.ts st.dr).length ≤ 1000) := Lib.hid ⟨by rw [PM.free_len hok.2.2.1]; exact hok.2.1.few, (hok.2.1.viewOk hok.2.2.1).1⟩
 have hQl : Hid ((st.qs.map (·.u)).length ≤ 1000) := Lib.hid (by rw [List.length_map]; have := ha.few; omega)
 have hDl : Hid (st.dr.length ≤ 5000) := Lib.hid (by have := hok.2.1.nodes; omega)
 have hK16 : Hid (∀ g ∈ st.hs, g.sl.length ≤ 16) := Lib.hid fun g hg => (hok.1.ok g hg).n2
 clear h hok hfew hv hnh hnf hnv hnq hnd h1 hD hp ha hHL hDB hnL
 go_enter Tryz.func11, Tryz.ntmps11
 go_wp2
 refine held_begin (fun w' : World => w'.cell? ⟨r, 0, none⟩ = some (.pointer (some ⟨q, 0, none⟩)) ∧ w'.cell? ⟨r, 1, none⟩ = some (.pointer (some ⟨ra, 0, none⟩)) ∧ w'.cell? ⟨r, 2, none⟩ = some (.slice A nh c) ∧ w'.cell? ⟨r, 3, none⟩ = some (.int .i64 (st.ver : Nat)) ∧ w'.cell? ⟨ra, 1, none⟩ = some (.slice (some ⟨b, 0, none⟩) nq cb) ∧ w'.cell? ⟨q, 2, none⟩ = some (.slice (some ⟨db, 0, none⟩) nd cd)) (by kernel_rfl) ?_
 have hBv0 : Below w.heap.size w w.drew := (Below.refl _ _).drew
 have hSv0 : (fun w' : World => w'.cell? ⟨r, 0, none⟩ = some (.pointer (some ⟨q, 0, none⟩)) ∧ w'.cell? ⟨r, 1, none⟩ = some (.pointer (some ⟨ra, 0, none⟩)) ∧ w'.cell? ⟨r, 2, none⟩ = some (.slice A nh c) ∧ w'.cell? ⟨r, 3, none⟩ = some (.int .i64 (st.ver : Nat)) ∧ w'.cell? ⟨ra, 1, none⟩ = some (.slice (some ⟨b, 0, none⟩) nq cb) ∧ w'.cell? ⟨q, 2, none⟩ = some (.slice (some ⟨db, 0, none⟩) nd cd)) w.drew := ⟨y0, y1, y2, y3, y4, y5⟩
 refine held_takeK (v := ?_) 0 5 rfl rfl ⟨by rfl, ?_⟩ hSv0 ?_
 rotate_left
 ·intro w' hw'; obtain ⟨x0, x1, x2, x3, x4, x5⟩ := hw'; go_simp; (try with_reducible rfl)
 simp only [Act.put, pzA, pzB, pzC]
 refine held_takeK (v := ?_) 2 7 rfl rfl ⟨by rfl, ?_⟩ hSv0 ?_
 rotate_left
 ·intro w' hw'; obtain ⟨x0, x1, x2, x3, x4, x5⟩ := hw'; go_simp; (try with_reducible rfl)
 simp only [Act.put, pzA, pzB, pzC]
 refine held_takeK (v := ?_) 3 8 rfl rfl ⟨by rfl, ?_⟩ hSv0 ?_
 rotate_left
 ·intro w' hw'; obtain ⟨x0, x1, x2, x3, x4, x5⟩ := hw'; go_simp; (try with_reducible rfl)
 simp only [Act.put, pzA, pzB, pzC]
 refine held_takeK (v := ?_) 4 9 rfl rfl ⟨by rfl, ?_⟩ hSv0 ?_
 rotate_left
 ·intro w' hw'; obtain ⟨x0, x1, x2, x3, x4, x5⟩ := hw'; go_simp; (try with_reducible rfl)
 simp only [Act.put, pzA, pzB, pzC]
 refine held_takeK (v := ?_) 5 10 rfl rfl ⟨by rfl, ?_⟩ hSv0 ?_
 rotate_left
 ·intro w' hw'; obtain ⟨x0, x1, x2, x3, x4, x5⟩ := hw'; go_simp; (try with_reducible rfl)
 simp only [Act.put, pzA, pzB, pzC]
 refine held_one 1 rfl (by kernel_rfl) (by rfl) (fun K hK => ?_)
 go_simp
 go_at_call 14
 refine (holds_l (HOK.out.1.keep hBv0) (by have := HOK.out.2.2.1; omega)).mono ?_
 rintro e wv1 ⟨A6, c6, G6, rfl, hh, hg, hbv1⟩
 have hBv1 : Below w.heap.size w wv1 := below_step hBv0 hbv1
 have hSv1 : (fun w' : World => w'.cell? ⟨r, 0, none⟩ = some (.pointer (some ⟨q, 0, none⟩)) ∧ w'.cell? ⟨r, 1, none⟩ = some (.pointer (some ⟨ra, 0, none⟩)) ∧ w'.cell? ⟨r, 2, none⟩ = some (.slice A nh c) ∧ w'.cell? ⟨r, 3, none⟩ = some (.int .i64 (st.ver : Nat)) ∧ w'.cell? ⟨ra, 1, none⟩ = some (.slice (some ⟨b, 0, none⟩) nq cb) ∧ w'.cell? ⟨q, 2, none⟩ = some (.slice (some ⟨db, 0, none⟩) nd cd)) wv1 := ⟨(hBv1.cell (p := ⟨r, 0, none⟩) (lr)).trans y0, (hBv1.cell (p := ⟨r, 1, none⟩) (lr)).trans y1, (hBv1.cell (p := ⟨r, 2, none⟩) (lr)).trans y2, (hBv1.cell (p := ⟨r, 3, none⟩) (lr)).trans y3, (hBv1.cell (p := ⟨ra, 1, none⟩) (lra)).trans y4, (hBv1.cell (p := ⟨q, 2, none⟩) (lq)).trans y5⟩
 rw [← HN.out.1]
 have HA6 := Lib.hid hh
 have hc6 := same_holds A6 A c6 c G6 (fun _ => True) st.hs wv1 HA6.out (HH.out.1.keep hBv1) (by have := HOK.out.2.2.1; omega) hK16.out
 rw [← HN.out.1] at hc6
 have HC6 := Lib.hid hc6
 clear hc6
 clear hh hg
 refine hK.out _ _ hSv1 ?_
 clear hK K
 refine held_one 6 rfl (by kernel_rfl) (by rfl) (fun K hK => ?_)
 go_simp
 go_at_call 22
 refine (HC6.out).mono ?_
 rintro e wv2 ⟨rfl, hbv2⟩
 have hBv2 : Below w.heap.size w wv2 := below_step hBv1 hbv2
 have hSv2 : (fun w' : World => w'.cell? ⟨r, 0, none⟩ = some (.pointer (some ⟨q, 0, none⟩)) ∧ w'.cell? ⟨r, 1, none⟩ = some (.pointer (some ⟨ra, 0, none⟩)) ∧ w'.cell? ⟨r, 2, none⟩ = some (.slice A nh c) ∧ w'.cell? ⟨r, 3, none⟩ = some (.int .i64 (st.ver : Nat)) ∧ w'.cell? ⟨ra, 1, none⟩ = some (.slice (some ⟨b, 0, none⟩) nq cb) ∧ w'.cell? ⟨q, 2, none⟩ = some (.slice (some ⟨db, 0, none⟩) nd cd)) wv2 := ⟨(hBv2.cell (p := ⟨r, 0, none⟩) (lr)).trans y0, (hBv2.cell (p := ⟨r, 1, none⟩) (lr)).trans y1, (hBv2.cell (p := ⟨r, 2, none⟩) (lr)).trans y2, (hBv2.cell (p := ⟨r, 3, none⟩) (lr)).trans y3, (hBv2.cell (p := ⟨ra, 1, none⟩) (lra)).trans y4, (hBv2.cell (p := ⟨q, 2, none⟩) (lq)).trans y5⟩
 clear HC6
 refine hK.out _ _ hSv2 ?_
 clear hK K
 refine held_takeK (v := ?_) 7 12 rfl rfl ⟨by rfl, ?_⟩ hSv2 ?_
 rotate_left
 ·intro w' hw'; obtain ⟨x0, x1, x2, x3, x4, x5⟩ := hw'; go_simp; (try with_reducible rfl)
 simp only [Act.put, pzA, pzB, pzC]
 refine held_takeK (v := ?_) 8 13 rfl rfl ⟨by rfl, ?_⟩ hSv2 ?_
 rotate_left
 ·intro w' hw'; obtain ⟨x0, x1, x2, x3, x4, x5⟩ := hw'; go_simp; (try with_reducible rfl)
 simp only [Act.put, pzA, pzB, pzC]
 refine held_takeK (v := ?_) 10 15 rfl rfl ⟨by rfl, ?_⟩ hSv2 ?_
 rotate_left
 ·intro w' hw'; obtain ⟨x0, x1, x2, x3, x4, x5⟩ := hw'; go_simp; (try with_reducible rfl)
 simp only [Act.put, pzA, pzB, pzC]
 refine held_takeK (v := ?_) 11 16 rfl rfl ⟨by rfl, ?_⟩ hSv2 ?_
 rotate_left
 ·intro w' hw'; obtain ⟨x0, x1, x2, x3, x4, x5⟩ := hw'; go_simp; (try with_reducible rfl)
 simp only [Act.put, pzA, pzB, pzC]
 refine held_takeK (v := ?_) 12 17 rfl rfl ⟨by rfl, ?_⟩ hSv2 ?_
 rotate_left
 ·intro w' hw'; obtain ⟨x0, x1, x2, x3, x4, x5⟩ := hw'; go_simp; (try with_reducible rfl)
 simp only [Act.put, pzA, pzB, pzC]
 refine held_takeK (v := ?_) 13 18 rfl rfl ⟨by rfl, ?_⟩ hSv2 ?_
 rotate_left
 ·intro w' hw'; obtain ⟨x0, x1, x2, x3, x4, x5⟩ := hw'; go_simp; (try with_reducible rfl)
 simp only [Act.put, pzA, pzB, pzC]
 refine held_one 9 rfl (by kernel_rfl) (by rfl) (fun K hK => ?_)
 go_simp
 go_at_call 41
 refine (free_l (HOK.out.1.keep hBv2)).mono ?_
 rintro e wv3 ⟨A7, c7, rfl, hh, hg, hbv3⟩
 have hBv3 : Below w.heap.size w wv3 := below_step hBv2 hbv3
 have hSv3 : (fun w' : World => w'.cell? ⟨r, 0, none⟩ = some (.pointer (some ⟨q, 0, none⟩)) ∧ w'.cell? ⟨r, 1, none⟩ = some (.pointer (some ⟨ra, 0, none⟩)) ∧ w'.cell? ⟨r, 2, none⟩ = some (.slice A nh c) ∧ w'.cell? ⟨r, 3, none⟩ = some (.int .i64 (st.ver : Nat)) ∧ w'.cell? ⟨ra, 1, none⟩ = some (.slice (some ⟨b, 0, none⟩) nq cb) ∧ w'.cell? ⟨q, 2, none⟩ = some (.slice (some ⟨db, 0, none⟩) nd cd)) wv3 := ⟨(hBv3.cell (p := ⟨r, 0, none⟩) (lr)).trans y0, (hBv3.cell (p := ⟨r, 1, none⟩) (lr)).trans y1, (hBv3.cell (p := ⟨r, 2, none⟩) (lr)).trans y2, (hBv3.cell (p := ⟨r, 3, none⟩) (lr)).trans y3, (hBv3.cell (p := ⟨ra, 1, none⟩) (lra)).trans y4, (hBv3.cell (p := ⟨q, 2, none⟩) (lq)).trans y5⟩
 rw [← HN.out.2.1]
 have HA7 := Lib.hid hh
 clear hh hg
 refine hK.out _ _ hSv3 ?_
 clear hK K
 refine held_one 14 rfl (by kernel_rfl) (by rfl) (fun K hK => ?_)
 go_simp
 go_at_call 42
 refine (reffree_row _ _ _ _ _ _ _ _ _ _ _ (HP.out.keep hBv3)).mono ?_
 rintro e wv4 ⟨A8, c8, rfl, hh, hbv4⟩
 have hBv4 : Below w.heap.size w wv4 := below_step hBv3 hbv4
 have hSv4 : (fun w' : World => w'.cell? ⟨r, 0, none⟩ = some (.pointer (some ⟨q, 0, none⟩)) ∧ w'.cell? ⟨r, 1, none⟩ = some (.pointer (some ⟨ra, 0, none⟩)) ∧ w'.cell? ⟨r, 2, none⟩ = some (.slice A nh c) ∧ w'.cell? ⟨r, 3, none⟩ = some (.int .i64 (st.ver : Nat)) ∧ w'.cell? ⟨ra, 1, none⟩ = some (.slice (some ⟨b, 0, none⟩) nq cb) ∧ w'.cell? ⟨q, 2, none⟩ = some (.slice (some ⟨db, 0, none⟩) nd cd)) wv4 := ⟨(hBv4.cell (p := ⟨r, 0, none⟩) (lr)).trans y0, (hBv4.cell (p := ⟨r, 1, none⟩) (lr)).trans y1, (hBv4.cell (p := ⟨r, 2, none⟩) (lr)).trans y2, (hBv4.cell (p := ⟨r, 3, none⟩) (lr)).trans y3, (hBv4.cell (p := ⟨ra, 1, none⟩) (lra)).trans y4, (hBv4.cell (p := ⟨q, 2, none⟩) (lq)).trans y5⟩
 rw [← HN.out.2.1]
 have HA8 := Lib.hid hh
 have HA7b := Lib.hid (Frees.keep HA7.out hbv4 hbv4.size)
 have hc15 := same_any A7 A8 c7 c8 (PM.free fs st.ts) wv4 HA7b.out HA8.out hFl.out.1
 rw [← HN.out.2.1] at hc15
 have HC15 := Lib.hid hc15
 clear hc15
 clear hh
 refine hK.out _ _ hSv4 ?_
 clear hK K
 refine held_one 15 rfl (by kernel_rfl) (by rfl) (fun K hK => ?_)
 go_simp
 go_at_call 40
 refine (HC15.out).mono ?_
 rintro e wv5 ⟨rfl, hbv5⟩
 have hBv5 : Below w.heap.size w wv5 := below_step hBv4 hbv5
 have hSv5 : (fun w' : World => w'.cell? ⟨r, 0, none⟩ = some (.pointer (some ⟨q, 0, none⟩)) ∧ w'.cell? ⟨r, 1, none⟩ = some (.pointer (some ⟨ra, 0, none⟩)) ∧ w'.cell? ⟨r, 2, none⟩ = some (.slice A nh c) ∧ w'.cell? ⟨r, 3, none⟩ = some (.int .i64 (st.ver : Nat)) ∧ w'.cell? ⟨ra, 1, none⟩ = some (.slice (some ⟨b, 0, none⟩) nq cb) ∧ w'.cell? ⟨q, 2, none⟩ = some (.slice (some ⟨db, 0, none⟩) nd cd)) wv5 := ⟨(hBv5.cell (p := ⟨r, 0, none⟩) (lr)).trans y0, (hBv5.cell (p := ⟨r, 1, none⟩) (lr)).trans y1, (hBv5.cell (p := ⟨r, 2, none⟩) (lr)).trans y2, (hBv5.cell (p := ⟨r, 3, none⟩) (lr)).trans y3, (hBv5.cell (p := ⟨ra, 1, none⟩) (lra)).trans y4, (hBv5.cell (p := ⟨q, 2, none⟩) (lq)).trans y5⟩
 clear HC15
 refine hK.out _ _ hSv5 ?_
 clear hK K
 refine held_takeK (v := ?_) 16 21 rfl rfl ⟨by rfl, ?_⟩ hSv5 ?_
 rotate_left
 ·intro w' hw'; obtain ⟨x0, x1, x2, x3, x4, x5⟩ := hw'; go_simp; (try with_reducible rfl)
 simp only [Act.put, pzA, pzB, pzC]
 refine held_takeK (v := ?_) 17 22 rfl rfl ⟨by rfl, ?_⟩ hSv5 ?_
 rotate_left
 ·intro w' hw'; obtain ⟨x0, x1, x2, x3, x4, x5⟩ := hw'; go_simp; (try with_reducible rfl)
 simp only [Act.put, pzA, pzB, pzC]
 refine held_takeK (v := ?_) 18 23 rfl rfl ⟨by rfl, ?_⟩ hSv5 ?_
 rotate_left
 ·intro w' hw'; obtain ⟨x0, x1, x2, x3, x4, x5⟩ := hw'; go_simp; (try with_reducible rfl)
 simp only [Act.put, pzA, pzB, pzC]
 refine held_takeK (v := ?_) 20 25 rfl rfl ⟨by rfl, ?_⟩ hSv5 ?_
 rotate_left
 ·intro w' hw'; obtain ⟨x0, x1, x2, x3, x4, x5⟩ := hw'; go_simp; (try with_reducible rfl)
 simp only [Act.put, pzA, pzB, pzC]
 refine held_takeK (v := ?_) 21 26 rfl rfl ⟨by rfl, ?_⟩ hSv5 ?_
 rotate_left
 ·intro w' hw'; obtain ⟨x0, x1, x2, x3, x4, x5⟩ := hw'; go_simp; (try with_reducible rfl)
 simp only [Act.put, pzA, pzB, pzC]
 refine held_takeK (v := ?_) 22 27 rfl rfl ⟨by rfl, ?_⟩ hSv5 ?_
 rotate_left
 ·intro w' hw'; obtain ⟨x0, x1, x2, x3, x4, x5⟩ := hw'; go_simp; (try with_reducible rfl)
 simp only [Act.put, pzA, pzB, pzC]
 refine held_takeK (v := ?_) 23 28 rfl rfl ⟨by rfl, ?_⟩ hSv5 ?_
 rotate_left
 ·intro w' hw'; obtain ⟨x0, x1, x2, x3, x4, x5⟩ := hw'; go_simp; (try with_reducible rfl)
 simp only [Act.put, pzA, pzB, pzC]
 refine held_one 19 rfl (by kernel_rfl) (by rfl) (fun K hK => ?_)
 go_simp
 go_at_call 43
 refine (view_l (HOK.out.1.keep hBv5)).mono ?_
 rintro e wv6 ⟨A9, c9, rfl, hh, hg, hbv6⟩
 have hBv6 : Below w.heap.size w wv6 := below_step hBv5 hbv6
 have hSv6 : (fun w' : World => w'.cell? ⟨r, 0, none⟩ = some (.pointer (some ⟨q, 0, none⟩)) ∧ w'.cell? ⟨r, 1, none⟩ = some (.pointer (some ⟨ra, 0, none⟩)) ∧ w'.cell? ⟨r, 2, none⟩ = some (.slice A nh c) ∧ w'.cell? ⟨r, 3, none⟩ = some (.int .i64 (st.ver : Nat)) ∧ w'.cell? ⟨ra, 1, none⟩ = some (.slice (some ⟨b, 0, none⟩) nq cb) ∧ w'.cell? ⟨q, 2, none⟩ = some (.slice (some ⟨db, 0, none⟩) nd cd)) wv6 := ⟨(hBv6.cell (p := ⟨r, 0, none⟩) (lr)).trans y0, (hBv6.cell (p := ⟨r, 1, none⟩) (lr)).trans y1, (hBv6.cell (p := ⟨r, 2, none⟩) (lr)).trans y2, (hBv6.cell (p := ⟨r, 3, none⟩) (lr)).trans y3, (hBv6.cell (p := ⟨ra, 1, none⟩) (lra)).trans y4, (hBv6.cell (p := ⟨q, 2, none⟩) (lq)).trans y5⟩
 rw [← HN.out.2.2.1]
 have HA9 := Lib.hid hh
 clear hh hg
 refine hK.out _ _ hSv6 ?_
 clear hK K
 refine held_one 24 rfl (by kernel_rfl) (by rfl) (fun K hK => ?_)
 go_simp
 go_at_call 44
 refine (refview_row _ _ _ _ _ _ _ _ _ _ _ (HP.out.keep hBv6)).mono ?_
 rintro e wv7 ⟨A10, c10, rfl, hh, hbv7⟩
 have hBv7 : Below w.heap.size w wv7 := below_step hBv6 hbv7
 have hSv7 : (fun w' : World => w'.cell? ⟨r, 0, none⟩ = some (.pointer (some ⟨q, 0, none⟩)) ∧ w'.cell? ⟨r, 1, none⟩ = some (.pointer (some ⟨ra, 0, none⟩)) ∧ w'.cell? ⟨r, 2, none⟩ = some (.slice A nh c) ∧ w'.cell? ⟨r, 3, none⟩ = some (.int .i64 (st.ver : Nat)) ∧ w'.cell? ⟨ra, 1, none⟩ = some (.slice (some ⟨b, 0, none⟩) nq cb) ∧ w'.cell? ⟨q, 2, none⟩ = some (.slice (some ⟨db, 0, none⟩) nd cd)) wv7 := ⟨(hBv7.cell (p := ⟨r, 0, none⟩) (lr)).trans y0, (hBv7.cell (p := ⟨r, 1, none⟩) (lr)).trans y1, (hBv7.cell (p := ⟨r, 2, none⟩) (lr)).trans y2, (hBv7.cell (p := ⟨r, 3, none⟩) (lr)).trans y3, (hBv7.cell (p := ⟨ra, 1, none⟩) (lra)).trans y4, (hBv7.cell (p := ⟨q, 2, none⟩) (lq)).trans y5⟩
 rw [← HN.out.2.2.1]
 have HA10 := Lib.hid hh
 have HA9b := Lib.hid (Frees.keep HA9.out hbv7 hbv7.size)
 have hc25 := same_any A9 A10 c9 c10 (PM.view fs st.ts st.dr) wv7 HA9b.out HA10.out hFl.out.2
 rw [← HN.out.2.2.1] at hc25
 have HC25 := Lib.hid hc25
 clear hc25
 clear hh
 refine hK.out _ _ hSv7 ?_
 clear hK K
 refine held_one 25 rfl (by kernel_rfl) (by rfl) (fun K hK => ?_)
 go_simp
 go_at_call 40
 refine (HC25.out).mono ?_
 rintro e wv8 ⟨rfl, hbv8⟩
 have hBv8 : Below w.heap.size w wv8 := below_step hBv7 hbv8
 have hSv8 : (fun w' : World => w'.cell? ⟨r, 0, none⟩ = some (.pointer (some ⟨q, 0, none⟩)) ∧ w'.cell? ⟨r, 1, none⟩ = some (.pointer (some ⟨ra, 0, none⟩)) ∧ w'.cell? ⟨r, 2, none⟩ = some (.slice A nh c) ∧ w'.cell? ⟨r, 3, none⟩ = some (.int .i64 (st.ver : Nat)) ∧ w'.cell? ⟨ra, 1, none⟩ = some (.slice (some ⟨b, 0, none⟩) nq cb) ∧ w'.cell? ⟨q, 2, none⟩ = some (.slice (some ⟨db, 0, none⟩) nd cd)) wv8 := ⟨(hBv8.cell (p := ⟨r, 0, none⟩) (lr)).trans y0, (hBv8.cell (p := ⟨r, 1, none⟩) (lr)).trans y1, (hBv8.cell (p := ⟨r, 2, none⟩) (lr)).trans y2, (hBv8.cell (p := ⟨r, 3, none⟩) (lr)).trans y3, (hBv8.cell (p := ⟨ra, 1, none⟩) (lra)).trans y4, (hBv8.cell (p := ⟨q, 2, none⟩) (lq)).trans y5⟩
 clear HC25
 refine hK.out _ _ hSv8 ?_
 clear hK K
 refine held_takeK (v := ?_) 26 31 rfl rfl ⟨by rfl, ?_⟩ hSv8 ?_
 rotate_left
 ·intro w' hw'; obtain ⟨x0, x1, x2, x3, x4, x5⟩ := hw'; go_simp; (try with_reducible rfl)
 simp only [Act.put, pzA, pzB, pzC]
 refine held_takeK (v := ?_) 27 32 rfl rfl ⟨by rfl, ?_⟩ hSv8 ?_
 rotate_left
 ·intro w' hw'; obtain ⟨x0, x1, x2, x3, x4, x5⟩ := hw'; go_simp; (try with_reducible rfl)
 simp only [Act.put, pzA, pzB, pzC]
 refine held_takeK (v := ?_) 28 33 rfl rfl ⟨by rfl, ?_⟩ hSv8 ?_
 rotate_left
 ·intro w' hw'; obtain ⟨x0, x1, x2, x3, x4, x5⟩ := hw'; go_simp; (try with_reducible rfl)
 simp only [Act.put, pzA, pzB, pzC]
 refine held_takeK (v := ?_) 30 35 rfl rfl ⟨by rfl, ?_⟩ hSv8 ?_
 rotate_left
 ·intro w' hw'; obtain ⟨x0, x1, x2, x3, x4, x5⟩ := hw'; go_simp; (try with_reducible rfl)
 simp only [Act.put, pzA, pzB, pzC]
 refine held_takeK (v := ?_) 31 36 rfl rfl ⟨by rfl, ?_⟩ hSv8 ?_
 rotate_left
 ·intro w' hw'; obtain ⟨x0, x1, x2, x3, x4, x5⟩ := hw'; go_simp; (try with_reducible rfl)
 simp only [Act.put, pzA, pzB, pzC]
 refine held_takeK (v := ?_) 32 37 rfl rfl ⟨by rfl, ?_⟩ hSv8 ?_
 rotate_left
 ·intro w' hw'; obtain ⟨x0, x1, x2, x3, x4, x5⟩ := hw'; go_simp; (try with_reducible rfl)
 simp only [Act.put, pzA, pzB, pzC]
 refine held_takeK (v := ?_) 33 38 rfl rfl ⟨by rfl, ?_⟩ hSv8 ?_
 rotate_left
 ·intro w' hw'; obtain ⟨x0, x1, x2, x3, x4, x5⟩ := hw'; go_simp; (try with_reducible rfl)
 simp only [Act.put, pzA, pzB, pzC]
 refine held_takeK (v := ?_) 34 39 rfl rfl ⟨by rfl, ?_⟩ hSv8 ?_
 rotate_left
 ·intro w' hw'; obtain ⟨x0, x1, x2, x3, x4, x5⟩ := hw'; go_simp; (try with_reducible rfl)
 simp only [Act.put, pzA, pzB, pzC]
 refine held_takeK (v := ?_) 35 40 rfl rfl ⟨by rfl, ?_⟩ hSv8 ?_
 rotate_left
 ·intro w' hw'; obtain ⟨x0, x1, x2, x3, x4, x5⟩ := hw'; go_simp; (try with_reducible rfl)
 simp only [Act.put, pzA, pzB, pzC]
 refine held_takeK (v := ?_) 36 41 rfl rfl ⟨by rfl, ?_⟩ hSv8 ?_
 rotate_left
 ·intro w' hw'; obtain ⟨x0, x1, x2, x3, x4, x5⟩ := hw'; go_simp; (try with_reducible rfl)
 simp only [Act.put, pzA, pzB, pzC]
 refine held_one 29 rfl (by kernel_rfl) (by rfl) (fun K hK => ?_)
 go_simp
 go_at_call 46
 refine (used_l (HOK.out.1.keep hBv8)).mono ?_
 rintro e wv9 ⟨A11, c11, rfl, hh, hg, hbv9⟩
 have hBv9 : Below w.heap.size w wv9 := below_step hBv8 hbv9
 have hSv9 : (fun w' : World => w'.cell? ⟨r, 0, none⟩ = some (.pointer (some ⟨q, 0, none⟩)) ∧ w'.cell? ⟨r, 1, none⟩ = some (.pointer (some ⟨ra, 0, none⟩)) ∧ w'.cell? ⟨r, 2, none⟩ = some (.slice A nh c) ∧ w'.cell? ⟨r, 3, none⟩ = some (.int .i64 (st.ver : Nat)) ∧ w'.cell? ⟨ra, 1, none⟩ = some (.slice (some ⟨b, 0, none⟩) nq cb) ∧ w'.cell? ⟨q, 2, none⟩ = some (.slice (some ⟨db, 0, none⟩) nd cd)) wv9 := ⟨(hBv9.cell (p := ⟨r, 0, none⟩) (lr)).trans y0, (hBv9.cell (p := ⟨r, 1, none⟩) (lr)).trans y1, (hBv9.cell (p := ⟨r, 2, none⟩) (lr)).trans y2, (hBv9.cell (p := ⟨r, 3, none⟩) (lr)).trans y3, (hBv9.cell (p := ⟨ra, 1, none⟩) (lra)).trans y4, (hBv9.cell (p := ⟨q, 2, none⟩) (lq)).trans y5⟩
 rw [← HN.out.2.2.2.1]
 have HA11 := Lib.hid hh
 have hc37 := same_u A11 (some ⟨b, 0, none⟩) c11 cb (st.qs.map (·.u)) (st.qs.map (·.u)) wv9 HA11.out (Els.keep HU.out hBv9 hBv9.size) hQl.out
 rw [List.length_map, ← HN.out.2.2.2.1] at hc37
 have HC37 := Lib.hid hc37
 clear hc37
 clear hh hg
 refine hK.out _ _ hSv9 ?_
 clear hK K
 refine held_one 37 rfl (by kernel_rfl) (by rfl) (fun K hK => ?_)
 go_simp
 go_at_call 45
 refine (HC37.out).mono ?_
 rintro e wv10 ⟨rfl, hbv10⟩
 have hBv10 : Below w.heap.size w wv10 := below_step hBv9 hbv10
 have hSv10 : (fun w' : World => w'.cell? ⟨r, 0, none⟩ = some (.pointer (some ⟨q, 0, none⟩)) ∧ w'.cell? ⟨r, 1, none⟩ = some (.pointer (some ⟨ra, 0, none⟩)) ∧ w'.cell? ⟨r, 2, none⟩ = some (.slice A nh c) ∧ w'.cell? ⟨r, 3, none⟩ = some (.int .i64 (st.ver : Nat)) ∧ w'.cell? ⟨ra, 1, none⟩ = some (.slice (some ⟨b, 0, none⟩) nq cb) ∧ w'.cell? ⟨q, 2, none⟩ = some (.slice (some ⟨db, 0, none⟩) nd cd)) wv10 := ⟨(hBv10.cell (p := ⟨r, 0, none⟩) (lr)).trans y0, (hBv10.cell (p := ⟨r, 1, none⟩) (lr)).trans y1, (hBv10.cell (p := ⟨r, 2, none⟩) (lr)).trans y2, (hBv10.cell (p := ⟨r, 3, none⟩) (lr)).trans y3, (hBv10.cell (p := ⟨ra, 1, none⟩) (lra)).trans y4, (hBv10.cell (p := ⟨q, 2, none⟩) (lq)).trans y5⟩
 clear HC37
 refine hK.out _ _ hSv10 ?_
 clear hK K
 refine held_takeK (v := ?_) 38 43 rfl rfl ⟨by rfl, ?_⟩ hSv10 ?_
 rotate_left
 ·intro w' hw'; obtain ⟨x0, x1, x2, x3, x4, x5⟩ := hw'; go_simp; (try with_reducible rfl)
 simp only [Act.put, pzA, pzB, pzC]
 refine held_takeK (v := ?_) 39 44 rfl rfl ⟨by rfl, ?_⟩ hSv10 ?_
 rotate_left
 ·intro w' hw'; obtain ⟨x0, x1, x2, x3, x4, x5⟩ := hw'; go_simp; (try with_reducible rfl)
 simp only [Act.put, pzA, pzB, pzC]
 refine held_takeK (v := ?_) 40 45 rfl rfl ⟨by rfl, ?_⟩ hSv10 ?_
 rotate_left
 ·intro w' hw'; obtain ⟨x0, x1, x2, x3, x4, x5⟩ := hw'; go_simp; (try with_reducible rfl)
 simp only [Act.put, pzA, pzB, pzC]
 refine held_takeK (v := ?_) 42 47 rfl rfl ⟨by rfl, ?_⟩ hSv10 ?_
 rotate_left
 ·intro w' hw'; obtain ⟨x0, x1, x2, x3, x4, x5⟩ := hw'; go_simp; (try with_reducible rfl)
 simp only [Act.put, pzA, pzB, pzC]
 refine held_takeK (v := ?_) 43 48 rfl rfl ⟨by rfl, ?_⟩ hSv10 ?_
 rotate_left
 ·intro w' hw'; obtain ⟨x0, x1, x2, x3, x4, x5⟩ := hw'; go_simp; (try with_reducible rfl)
 simp only [Act.put, pzA, pzB, pzC]
 refine held_takeK (v := ?_) 44 49 rfl rfl ⟨by rfl, ?_⟩ hSv10 ?_
 rotate_left
 ·intro w' hw'; obtain ⟨x0, x1, x2, x3, x4, x5⟩ := hw'; go_simp; (try with_reducible rfl)
 simp only [Act.put, pzA, pzB, pzC]
 refine held_takeK (v := ?_) 45 50 rfl rfl ⟨by rfl, ?_⟩ hSv10 ?_
 rotate_left
 ·intro w' hw'; obtain ⟨x0, x1, x2, x3, x4, x5⟩ := hw'; go_simp; (try with_reducible rfl)
 simp only [Act.put, pzA, pzB, pzC]
 refine held_takeK (v := ?_) 46 51 rfl rfl ⟨by rfl, ?_⟩ hSv10 ?_
 rotate_left
 ·intro w' hw'; obtain ⟨x0, x1, x2, x3, x4, x5⟩ := hw'; go_simp; (try with_reducible rfl)
 simp only [Act.put, pzA, pzB, pzC]
 refine held_takeK (v := ?_) 47 52 rfl rfl ⟨by rfl, ?_⟩ hSv10 ?_
 rotate_left
 ·intro w' hw'; obtain ⟨x0, x1, x2, x3, x4, x5⟩ := hw'; go_simp; (try with_reducible rfl)
 simp only [Act.put, pzA, pzB, pzC]
 refine held_takeK (v := ?_) 48 53 rfl rfl ⟨by rfl, ?_⟩ hSv10 ?_
 rotate_left
 ·intro w' hw'; obtain ⟨x0, x1, x2, x3, x4, x5⟩ := hw'; go_simp; (try with_reducible rfl)
 simp only [Act.put, pzA, pzB, pzC]
 refine held_one 41 rfl (by kernel_rfl) (by rfl) (fun K hK => ?_)
 go_simp
 go_at_call 48
 refine (drained_l (HOK.out.1.keep hBv10)).mono ?_
 rintro e wv11 ⟨A12, c12, rfl, hh, hg, hbv11⟩
 have hBv11 : Below w.heap.size w wv11 := below_step hBv10 hbv11
 have hSv11 : (fun w' : World => w'.cell? ⟨r, 0, none⟩ = some (.pointer (some ⟨q, 0, none⟩)) ∧ w'.cell? ⟨r, 1, none⟩ = some (.pointer (some ⟨ra, 0, none⟩)) ∧ w'.cell? ⟨r, 2, none⟩ = some (.slice A nh c) ∧ w'.cell? ⟨r, 3, none⟩ = some (.int .i64 (st.ver : Nat)) ∧ w'.cell? ⟨ra, 1, none⟩ = some (.slice (some ⟨b, 0, none⟩) nq cb) ∧ w'.cell? ⟨q, 2, none⟩ = some (.slice (some ⟨db, 0, none⟩) nd cd)) wv11 := ⟨(hBv11.cell (p := ⟨r, 0, none⟩) (lr)).trans y0, (hBv11.cell (p := ⟨r, 1, none⟩) (lr)).trans y1, (hBv11.cell (p := ⟨r, 2, none⟩) (lr)).trans y2, (hBv11.cell (p := ⟨r, 3, none⟩) (lr)).trans y3, (hBv11.cell (p := ⟨ra, 1, none⟩) (lra)).trans y4, (hBv11.cell (p := ⟨q, 2, none⟩) (lq)).trans y5⟩
 rw [← HN.out.2.2.2.2]
 have HA12 := Lib.hid hh
 have hc49 := bools_any A12 (some ⟨db, 0, none⟩) c12 cd _ _ st.dr st.dr wv11 HA12.out (Els.keep HH.out.2 hBv11 hBv11.size) (Nat.le_refl _) (Nat.le_refl _) hDl.out
 rw [← HN.out.2.2.2.2] at hc49
 have HC49 := Lib.hid hc49
 clear hc49
 clear hh hg
 refine hK.out _ _ hSv11 ?_
 clear hK K
 refine held_one 49 rfl (by kernel_rfl) (by rfl) (fun K hK => ?_)
 go_simp
 go_at_call 47
 refine (HC49.out).mono ?_
 rintro e wv12 ⟨rfl, hbv12⟩
 have hBv12 : Below w.heap.size w wv12 := below_step hBv11 hbv12
 have hSv12 : (fun w' : World => w'.cell? ⟨r, 0, none⟩ = some (.pointer (some ⟨q, 0, none⟩)) ∧ w'.cell? ⟨r, 1, none⟩ = some (.pointer (some ⟨ra, 0, none⟩)) ∧ w'.cell? ⟨r, 2, none⟩ = some (.slice A nh c) ∧ w'.cell? ⟨r, 3, none⟩ = some (.int .i64 (st.ver : Nat)) ∧ w'.cell? ⟨ra, 1, none⟩ = some (.slice (some ⟨b, 0, none⟩) nq cb) ∧ w'.cell? ⟨q, 2, none⟩ = some (.slice (some ⟨db, 0, none⟩) nd cd)) wv12 := ⟨(hBv12.cell (p := ⟨r, 0, none⟩) (lr)).trans y0, (hBv12.cell (p := ⟨r, 1, none⟩) (lr)).trans y1, (hBv12.cell (p := ⟨r, 2, none⟩) (lr)).trans y2, (hBv12.cell (p := ⟨r, 3, none⟩) (lr)).trans y3, (hBv12.cell (p := ⟨ra, 1, none⟩) (lra)).trans y4, (hBv12.cell (p := ⟨q, 2, none⟩) (lq)).trans y5⟩
 clear HC49
 refine hK.out _ _ hSv12 ?_
 clear hK K
 refine held_takeK (v := ?_) 50 55 rfl rfl ⟨by rfl, ?_⟩ hSv12 ?_
 rotate_left
 ·intro w' hw'; obtain ⟨x0, x1, x2, x3, x4, x5⟩ := hw'; go_simp; (try with_reducible rfl)
 simp only [Act.put, pzA, pzB, pzC]
 refine held_takeK (v := ?_) 51 56 rfl rfl ⟨by rfl, ?_⟩ hSv12 ?_
 rotate_left
 ·intro w' hw'; obtain ⟨x0, x1, x2, x3, x4, x5⟩ := hw'; go_simp; (try with_reducible rfl)
 simp only [Act.put, pzA, pzB, pzC]
 refine held_takeK (v := ?_) 52 57 rfl rfl ⟨by rfl, ?_⟩ hSv12 ?_
 rotate_left
 ·intro w' hw'; obtain ⟨x0, x1, x2, x3, x4, x5⟩ := hw'; go_simp; (try with_reducible rfl)
 simp only [Act.put, pzA, pzB, pzC]
 refine held_takeK (v := ?_) 54 59 rfl rfl ⟨by rfl, ?_⟩ hSv12 ?_
 rotate_left
 ·intro w' hw'; obtain ⟨x0, x1, x2, x3, x4, x5⟩ := hw'; go_simp; (try with_reducible rfl)
 simp only [Act.put, pzA, pzB, pzC]
 refine held_takeK (v := ?_) 55 60 rfl rfl ⟨by rfl, ?_⟩ hSv12 ?_
 rotate_left
 ·intro w' hw'; obtain ⟨x0, x1, x2, x3, x4, x5⟩ := hw'; go_simp; (try with_reducible rfl)
 simp only [Act.put, pzA, pzB, pzC]
 refine held_takeK (v := ?_) 56 61 rfl rfl ⟨by rfl, ?_⟩ hSv12 ?_
 rotate_left
 ·intro w' hw'; obtain ⟨x0, x1, x2, x3, x4, x5⟩ := hw'; go_simp; (try with_reducible rfl)
 simp only [Act.put, pzA, pzB, pzC]
 refine held_takeK (v := ?_) 57 62 rfl rfl ⟨by rfl, ?_⟩ hSv12 ?_
 rotate_left
 ·intro w' hw'; obtain ⟨x0, x1, x2, x3, x4, x5⟩ := hw'; go_simp; (try with_reducible rfl)
 simp only [Act.put, pzA, pzB, pzC]
 refine held_one 53 rfl (by kernel_rfl) (by rfl) (fun K hK => ?_)
 go_simp
 go_at_call 13
 refine (version_l (HOK.out.1.keep hBv12)).mono ?_
 rintro e wv13 ⟨rfl, hbv13⟩
 have hBv13 : Below w.heap.size w wv13 := below_step hBv12 hbv13
 have hSv13 : (fun w' : World => w'.cell? ⟨r, 0, none⟩ = some (.pointer (some ⟨q, 0, none⟩)) ∧ w'.cell? ⟨r, 1, none⟩ = some (.pointer (some ⟨ra, 0, none⟩)) ∧ w'.cell? ⟨r, 2, none⟩ = some (.slice A nh c) ∧ w'.cell? ⟨r, 3, none⟩ = some (.int .i64 (st.ver : Nat)) ∧ w'.cell? ⟨ra, 1, none⟩ = some (.slice (some ⟨b, 0, none⟩) nq cb) ∧ w'.cell? ⟨q, 2, none⟩ = some (.slice (some ⟨db, 0, none⟩) nd cd)) wv13 := ⟨(hBv13.cell (p := ⟨r, 0, none⟩) (lr)).trans y0, (hBv13.cell (p := ⟨r, 1, none⟩) (lr)).trans y1, (hBv13.cell (p := ⟨r, 2, none⟩) (lr)).trans y2, (hBv13.cell (p := ⟨r, 3, none⟩) (lr)).trans y3, (hBv13.cell (p := ⟨ra, 1, none⟩) (lra)).trans y4, (hBv13.cell (p := ⟨q, 2, none⟩) (lq)).trans y5⟩
 refine hK.out _ _ hSv13 ?_
 clear hK K
 refine held_takeK (v := ?_) 58 63 rfl rfl ⟨by rfl, ?_⟩ hSv13 ?_
 rotate_left
 ·intro w' hw'; obtain ⟨x0, x1, x2, x3, x4, x5⟩ := hw'; go_simp; (try with_reducible rfl)
 simp only [Act.put, pzA, pzB, pzC]
 refine held_takeK (v := ?_) 59 64 rfl rfl ⟨by rfl, ?_⟩ hSv13 ?_
 rotate_left
 ·intro w' hw'; obtain ⟨x0, x1, x2, x3, x4, x5⟩ := hw'; go_simp; (try with_reducible rfl)
 simp only [Act.put, pzA, pzB, pzC]
 refine held_takeK (v := ?_) 60 4 rfl rfl ⟨by rfl, ?_⟩ hSv13 ?_
 rotate_left
 ·intro w' hw'; obtain ⟨x0, x1, x2, x3, x4, x5⟩ := hw'; go_simp; (try with_reducible rfl)
 simp only [Act.put, pzA, pzB, pzC]
 refine wpAnyH_done (by kernel_rfl) ?_ _
 go_wp2
 go_ret
 exact ⟨by first | rfl | (simp; done), hBv13⟩

theorem wpList_load_hvg {ops : Array Oper} {rest : List Oper} {o : Oper} {a : Act} {w : World} {Q : Exit → Act → World → Prop} (hw : Region.wanted o (yielded ops a.tmps) = true) (y : Operand) (ho : o.op = .load 44 y)
  (g off : Nat) (vs : List Value) (hl5 : vs.length = 5) (hy : a.eval y = .pointer (some ⟨g, off, none⟩)) (hx : CellsAt w g off vs) (h : wpList Tryz.prog ops Q rest (a.put o.dst (.agg vs.toArray)) w) : wpList Tryz.prog ops Q (o :: rest) a w := by
 refine Go.BigFrame.wpList_want hw fun K hK => ?_
 unfold Oper.wp
 rw [run_load_hv ho hy hl5 hx]
 exact hK _ _ h
theorem wpList_load_svg {ops : Array Oper} {rest : List Oper} {o : Oper} {a : Act} {w : World} {Q : Exit → Act → World → Prop} (hw : Region.wanted o (yielded ops a.tmps) = true) (y : Operand) (ho : o.op = .load 41 y)
  (g off : Nat) (vs : List Value) (hl : vs.length = 4) (hy : a.eval y = .pointer (some ⟨g, off, none⟩)) (hx : CellsAt w g off vs) (h : wpList Tryz.prog ops Q rest (a.put o.dst (.agg vs.toArray)) w) : wpList Tryz.prog ops Q (o :: rest) a w := by
 refine Go.BigFrame.wpList_want hw fun K hK => ?_
 unfold Oper.wp
 rw [run_load_sv ho hy hl hx]
 exact hK _ _ h
theorem cells_at {w : World} {g : Nat} {t : TypeId} {cs : Array Value} (h : w.heap[g]? = some (.cells cs t (0, 0))) (off : Nat) (vs : List Value) (hv : ∀ i v, vs[i]? = some v → cs[off + i]? = some v) : CellsAt w g off vs := fun i v hi => cell_blk h (hv i v hi)
theorem hl_one {w : World} {g : Nat} {t : TypeId} (x : Hs) (h : w.heap[g]? = some (.cells (hsC x).toArray t (0, 0))) (hs : Slots w w.heap.size x.A x.h.sl) : HL w (fun _ => True) (some ⟨g, 0, none⟩) [x.h] :=
 ⟨[x], rfl, els_blk hsC_len h (fun j v hj => by simpa [List.flatMap_cons] using hj), fun y hy => by simp at hy; subst hy; exact hs, fun _ _ _ => trivial, fun _ _ _ _ _ => trivial⟩
set_option maxHeartbeats 4000000 in
theorem told_l {w : World} (t : Tl) (A1 A2 A3 A4 : Option Addr) (c1 c2 c3 c4 : Nat) (i1 : Els numC 1 w w.heap.size A1 t.ids) (s2 : Slots w w.heap.size A2 t.hold.sl) (i3 : Els numC 1 w w.heap.size A3 t.ids) (s4 : Slots w w.heap.size A4 t.hold.sl) (hn : t.ids.length ≤ 5000) (h16 : t.hold.sl.length ≤ 16) :
  Calls Tryz.prog 8 #[.agg (tlV t A1 c1 A2 c2), .agg (tlV t A3 c3 A4 c4)] w fun e w' => e = .returned (.bool true) ∧ Below w.heap.size w w' := by
 obtain ⟨te, tids, ⟨sn, sd, sm, sc⟩, ⟨hi, hq, hu, hr, hsl⟩⟩ := t
 simp only [tlV] at i1 s2 i3 s4 hn h16 ⊢
 obtain ⟨W0, hW0⟩ : ∃ W, W = (w.alloc (.cells #[.int .i64 te, .slice A1 tids.length c1, .int .i64 sn, .int .i64 sd, .int .u64 (sm : Nat), .int .i64 sc, .int .i64 hi, .int .i64 hq, .int .i64 hu, .bool hr, .slice A2 hsl.length c2] 46)).alloc (.cells #[.int .i64 te, .slice A3 tids.length c3, .int .i64 sn, .int .i64 sd, .int .u64 (sm : Nat), .int .i64 sc, .int .i64 hi, .int .i64 hq, .int .i64 hu, .bool hr, .slice A4 hsl.length c4] 46) := ⟨_, rfl⟩
 have hB0 : Below w.heap.size w W0 := by rw [hW0]; exact ((Below.refl _ _).alloc (Nat.le_refl _) _).alloc (by simp) _
 have hb0 : W0.heap[w.heap.size]? = some (.cells #[.int .i64 te, .slice A1 tids.length c1, .int .i64 sn, .int .i64 sd, .int .u64 (sm : Nat), .int .i64 sc, .int .i64 hi, .int .i64 hq, .int .i64 hu, .bool hr, .slice A2 hsl.length c2] 46 (0, 0)) := by rw [hW0]; exact new_0 _ _ _
 have hb1 : W0.heap[w.heap.size + 1]? = some (.cells #[.int .i64 te, .slice A3 tids.length c3, .int .i64 sn, .int .i64 sd, .int .u64 (sm : Nat), .int .i64 sc, .int .i64 hi, .int .i64 hq, .int .i64 hu, .bool hr, .slice A4 hsl.length c4] 46 (0, 0)) := by rw [hW0]; exact new_1 _ _ _
 have hz0 : W0.heap.size = w.heap.size + 2 := by rw [hW0]; simp
 have HI := Lib.hid (ints_l A1 A3 c1 c3 w.heap.size w.heap.size tids tids W0 (i1.keep hB0 (Nat.le_refl _)) (i3.keep hB0 (Nat.le_refl _)) hB0.size hB0.size hn)
 have hl2 := Slots.keep s2 hB0 hB0.size
 have hl4 := Slots.keep s4 hB0 hB0.size
 have heq : ∀ W, (binOp .eql 41 (.agg #[.int .i64 sn, .int .i64 sd, .int .u64 (sm : Nat), .int .i64 sc]) (.agg #[.int .i64 sn, .int .i64 sd, .int .u64 (sm : Nat), .int .i64 sc])).run Tryz.prog W = .ok (.bool true) W := fun W => by go_simp; (try simp)
 have HC : Hid (∀ W1 : World, Below W0.heap.size W0 W1 → Calls Tryz.prog 22 #[.slice (some ⟨W1.heap.size, 0, none⟩) 1 1, .slice (some ⟨W1.heap.size + 1, 0, none⟩) 1 1] ((W1.alloc (.cells #[.int .i64 hi, .int .i64 hq, .int .i64 hu, .bool hr, .slice A2 hsl.length c2] 44)).alloc (.cells #[.int .i64 hi, .int .i64 hq, .int .i64 hu, .bool hr, .slice A4 hsl.length c4] 44)) fun e w' => e = .returned (.bool true) ∧ Below (W1.heap.size + 2) ((W1.alloc (.cells #[.int .i64 hi, .int .i64 hq, .int .i64 hu, .bool hr, .slice A2 hsl.length c2] 44)).alloc (.cells #[.int .i64 hi, .int .i64 hq, .int .i64 hu, .bool hr, .slice A4 hsl.length c4] 44)) w') := Lib.hid fun W1 h1 => by
  obtain ⟨W2, hW2⟩ : ∃ W, W = (W1.alloc (.cells #[.int .i64 hi, .int .i64 hq, .int .i64 hu, .bool hr, .slice A2 hsl.length c2] 44)).alloc (.cells #[.int .i64 hi, .int .i64 hq, .int .i64 hu, .bool hr, .slice A4 hsl.length c4] 44) := ⟨_, rfl⟩
  have hz : W2.heap.size = W1.heap.size + 2 := by rw [hW2]; simp
  have h2 : Below W1.heap.size W1 W2 := by rw [hW2]; exact ((Below.refl _ _).alloc (Nat.le_refl _) _).alloc (by simp) _
  have e0 : W2.heap[W1.heap.size]? = some (.cells (hsC ⟨⟨hi, hq, hu, hr, hsl⟩, A2, c2⟩).toArray 44 (0, 0)) := by rw [hW2]; exact new_0 _ _ _
  have e1 : W2.heap[W1.heap.size + 1]? = some (.cells (hsC ⟨⟨hi, hq, hu, hr, hsl⟩, A4, c4⟩).toArray 44 (0, 0)) := by rw [hW2]; exact new_1 _ _ _
  have h12 : Below W0.heap.size W0 W2 := below_step h1 h2
  rw [← hW2, ← hz]
  exact same_holds (some ⟨W1.heap.size, 0, none⟩) (some ⟨W1.heap.size + 1, 0, none⟩) 1 1 (fun _ => True) (fun _ => True) [⟨hi, hq, hu, hr, hsl⟩] W2 (hl_one ⟨⟨hi, hq, hu, hr, hsl⟩, A2, c2⟩ e0 (Slots.keep hl2 h12 h12.size)) (hl_one ⟨⟨hi, hq, hu, hr, hsl⟩, A4, c4⟩ e1 (Slots.keep hl4 h12 h12.size)) (by simp) (fun g hg => by simp at hg; subst hg; exact h16)
 obtain ⟨nt, hnt⟩ : ∃ n, n = tids.length := ⟨_, rfl⟩
 obtain ⟨nl, hnl⟩ : ∃ n, n = hsl.length := ⟨_, rfl⟩
 rw [← hnt, ← hnl] at hW0 hb0 hb1
 rw [← hnt] at HI
 rw [← hnl] at HC
 rw [← hnt, ← hnl]
 have HW0 := Lib.hid hW0
 have HB0 := Lib.hid (And.intro hB0 (And.intro hb0 (And.intro hb1 hz0)))
 clear i1 s2 i3 s4 hn h16 hW0 hB0 hb0 hb1 hz0 hl2 hl4 hnt hnl
 go_enter Tryz.func8, Tryz.ntmps8
 go_wp2_with (first
  | (go_at_call 21; rw [← HW0.out]; refine HI.out.mono ?_; rintro e w1 ⟨rfl, hy1⟩; have HY1 := Lib.hid hy1; have lz : w.heap.size + 1 < w1.heap.size := (by have := hy1.size; have := HB0.out.2.2.2; omega); have HT1 := Lib.hid ((hy1.block w.heap.size (by have := HB0.out.2.2.2; omega)).trans HB0.out.2.1); have HT2 := Lib.hid ((hy1.block (w.heap.size + 1) (by have := HB0.out.2.2.2; omega)).trans HB0.out.2.2.1); have HC1 := Lib.hid (cells_at HT1.out 2 [.int .i64 sn, .int .i64 sd, .int .u64 (sm : Nat), .int .i64 sc] (by rintro (_ | _ | _ | _ | i) v hv <;> simp_all)); have HC2 := Lib.hid (cells_at HT2.out 2 [.int .i64 sn, .int .i64 sd, .int .u64 (sm : Nat), .int .i64 sc] (by rintro (_ | _ | _ | _ | i) v hv <;> simp_all)); have HC3 := Lib.hid (cells_at HT1.out 6 [.int .i64 hi, .int .i64 hq, .int .i64 hu, .bool hr, .slice A2 nl c2] (by rintro (_ | _ | _ | _ | _ | i) v hv <;> simp_all)); have HC4 := Lib.hid (cells_at HT2.out 6 [.int .i64 hi, .int .i64 hq, .int .i64 hu, .bool hr, .slice A4 nl c4] (by rintro (_ | _ | _ | _ | _ | i) v hv <;> simp_all)); clear hy1)
  | (refine wpList_load_svg (by rfl) _ rfl w.heap.size 2 _ rfl rfl HC1.out ?_)
  | (refine wpList_load_svg (by rfl) _ rfl (w.heap.size + 1) 2 _ rfl rfl HC2.out ?_)
  | (refine wpList_load_hvg (by rfl) _ rfl w.heap.size 6 _ rfl rfl HC3.out ?_)
  | (refine wpList_load_hvg (by rfl) _ rfl (w.heap.size + 1) 6 _ rfl rfl (CellsAt.keep HC4.out lz ((Below.refl w1.heap.size w1).alloc (Nat.le_refl _) _)) ?_)
  | (go_at_call 22; refine (HC.out w1 HY1.out).mono ?_; rintro e w2 ⟨rfl, hy2⟩; have HY2 := Lib.hid hy2; clear hy2))
 go_ret
 refine ⟨by first | rfl | (simp; done), ?_⟩
 have h1 := HY2.out
 have h2 := HY1.out
 have h3 := HB0.out.1
 have hs := h2.size
 have hs3 := h3.size
 exact below_step (below_step h3 h2) (Below.trans (((Below.refl w1.heap.size w1).alloc (Nat.le_refl _) _).alloc (by simp) _) (h1.mono (by omega)))
end Go.Proofs.YtgpfmlidchogcaaGreat
