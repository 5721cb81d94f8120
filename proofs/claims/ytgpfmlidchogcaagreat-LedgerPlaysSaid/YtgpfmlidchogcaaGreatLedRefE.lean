/- The document's ledger: slots are taken, are given. -/
import Derived.Deep.RegionHeld3
import Derived.Test.YtgpfmlidchogcaaGreatLedRefD
set_option maxRecDepth 100000
set_option linter.unusedVariables false
namespace Go.Proofs.YtgpfmlidchogcaaGreat
open Go.RowKit
theorem qAdd_six {l : List Qa} {q : Int} {u : Un} (h : hasQ l q = true) (hm : mayU u = true) (he : (qAdd l q u).1 ≠ 0) : (qAdd l q u).1 = 6 := by
 unfold qAdd at *
 rw [if_neg (by rw [h]; simp), if_neg (by rw [hm]; simp)] at *
 obtain ⟨k, x, rfl, hk, hx⟩ := hasQ_at h
 rw [show ((k : Int)).toNat = k by simp, hx] at he ⊢
 by_cases hl : leU u (subU x.m x.u) = false
 ·simp [hl]
 ·simp [hl] at he
theorem hasQ_len {l l' : List Qa} (h : l'.length = l.length) (q : Int) : hasQ l' q = hasQ l q := by unfold hasQ; rw [h]
theorem units_un {l : List PM.Sl} (h : ∀ s ∈ l, SlIn s) (hn : l.length ≤ 16) : UnW (LM.units l) := by
 have h1 := LM.units_le h
 exact ⟨WalkArith.wf_i64 (by omega), WalkArith.wf_i64 (by omega)⟩
section
variable {w : World} {r q al tk db ra a b c : Nat} {A : Option Addr} {L : List Hs} {fs : List Fr} {st : LS}
def RLNext (w w' : World) (r q al tk db ra a b : Nat) (A : Option Addr) (c : Nat) (L : List Hs) (fs : List Fr) (st' : LS) : Prop :=
 ∃ q' tk' db', RLAt w' r q' al tk' db' ra a b A c L fs st' ∧ Foot (fun i => i = r ∨ i = q ∨ i = tk ∨ i = db ∨ i = b) w w' ∧ (q' = q ∨ w.heap.size ≤ q') ∧ (tk' = tk ∨ w.heap.size ≤ tk') ∧ (db' = db ∨ w.heap.size ≤ db')
theorem RLAt.drpos (h : RLAt w r q al tk db ra a b A c L fs st) : 0 < st.dr.length := by
 obtain ⟨ca, ct, cd, hp⟩ := h.pool
 obtain ⟨f, hf⟩ := get_lt (l := fs) (k := 0) hp.ok.pos
 have := hp.ok.node f (List.mem_of_getElem? hf)
 omega
theorem RLAt.own (h : RLAt w r q al tk db ra a b A c L fs st) : w.cell? ⟨r, 0, none⟩ = some (.pointer (some ⟨q, 0, none⟩)) ∧ w.cell? ⟨r, 1, none⟩ = some (.pointer (some ⟨ra, 0, none⟩)) ∧ w.cell? ⟨r, 2, none⟩ = some (.slice A L.length c) ∧ w.cell? ⟨r, 3, none⟩ = some (.int .i64 (st.ver : Nat)) :=
 ⟨cell_blk (i := 0) h.blk rfl, cell_blk (i := 1) h.blk rfl, cell_blk (i := 2) h.blk rfl, cell_blk (i := 3) h.blk rfl⟩
set_option maxHeartbeats 4000000 in
theorem rtake_l (qu : Int) (A' : Option Addr) (c' : Nat) (sl : List PM.Sl) (h : RLAt w r q al tk db ra a b A c L fs st) (hl : Slots w w.heap.size A' sl) (hO : ∀ s ∈ sl, SlOk s) (hn : sl.length ≤ 16)
  (hA : sl ≠ [] → Off A' (fun i => i ∈ [r, q, al, tk, db, ra, a, b])) (hq0 : hasQ st.qs qu = true) :
  Calls Tryz.prog 75 #[.pointer (some ⟨r, 0, none⟩), .int .i64 qu, .slice A' sl.length c'] w fun e w' => e = .returned (.int .i64 (LM.take fs st qu sl).1) ∧ RLNext w w' r q al tk db ra a b A c L fs (LM.take fs st qu sl).2 := by
 obtain ⟨ca, ct, cd, hp⟩ := h.pool
 obtain ⟨ca', cb', hac⟩ := h.acc
 obtain ⟨l1, l2, l3, l4, l5, l6, l7, l8⟩ := h.lts
 have hn8 := h.ne
 simp only [List.nodup_cons, List.mem_cons, not_or, List.not_mem_nil, not_false_eq_true, List.nodup_nil, and_true] at hn8
 obtain ⟨⟨n1, n2, n3, n4, n5, n6, n7⟩, ⟨m1, m2, m3, m4, m5, m6⟩, ⟨p1, p2, p3, p4, p5⟩, ⟨o1, o2, o3, o4⟩, ⟨s1, s2, s3⟩, ⟨u1, u2⟩, v1⟩ := hn8
 have hCp := Lib.hid (rcopy_any q al tk db ca ct cd fs st.ts st.dr w hp h.drpos)
 obtain ⟨c0, c1, _, _⟩ := h.own
 obtain ⟨m, hm⟩ : ∃ m, m = sl.length := ⟨_, rfl⟩
 obtain ⟨E, ts2, hE⟩ : ∃ E ts2, PM.whole fs st.dr false sl st.ts = (E, ts2) := ⟨_, _, rfl⟩
 have hOt : sl ≠ [] → Off A' (· = tk) := fun hne g o e hg => hA hne g o e (by rw [hg]; simp)
 have hOq : sl ≠ [] → Off A' (fun i => i = q ∨ i = tk) := fun hne g o e hg => hA hne g o e (by rcases hg with rfl | rfl <;> simp)
 have HDo := Lib.hid (fun W (hW : Below w.heap.size w W) => show Calls Tryz.prog 111 #[.pointer (some ⟨q, 0, none⟩), .bool false, .slice A' m c'] W (fun e w' => e = .returned (.int .i64 E) ∧ ∃ tk' ct', RefAt w' q al tk' db ca ct' cd fs ts2 st.dr ∧ Foot (fun i => i = q ∨ i = tk) W w' ∧ (tk' = tk ∨ W.heap.size ≤ tk')) from by
  have h9 := refdo_any false q al tk db ca ct cd fs st.ts st.dr A' c' sl W (hp.keep hW) hO (Slots.keep hl hW hW.size) hOt (by unfold maxLen; omega)
  rw [hE, ← hm] at h9
  exact h9)
 have HOb := Lib.hid (show sl ≠ [] → Off A' (· = b) from fun hne g o e hg => hA hne g o e (by rw [hg]; simp))
 have HX := Lib.hid (And.intro h (And.intro hl (And.intro hOq (And.intro hE (And.intro hm hac)))))
 have HRa := Lib.hid (show ∀ i, (i = ra ∨ i = a ∨ i = b) → i ≠ r from fun i e => by
  rcases e with rfl | rfl | rfl
  ·exact fun e => n5 e.symm
  ·exact fun e => n6 e.symm
  ·exact fun e => n7 e.symm)
 have HN := Lib.hid (And.intro (And.intro n1 (And.intro n2 (And.intro n3 n4))) (And.intro (And.intro m4 (And.intro m5 m6)) (And.intro (And.intro o2 (And.intro o3 o4)) (And.intro p5 (And.intro n7 (And.intro m1 (And.intro p1 (And.intro s3 (And.intro m3 o1)))))))))
 have hrq : ¬ (r = q ∨ r = tk) := fun e => e.elim n1 n3
 have hrb : ¬ (r = b) := n7
 clear n1 n2 n3 n4 n5 n6 n7 m1 m2 m3 m4 m5 m6 p1 p2 p3 p4 p5 o1 o2 o3 o4 s1 s2 s3 u1 u2 v1
 have hSI := Lib.hid (fun (h0 : E = 0) => LM.whole_in hp.ok hp.inv hO (by rw [hE]; exact h0))
 rw [← hm]
 clear hl hO hA hm hp hac hOt hOq hE
 obtain ⟨Qe, qs2, hQ⟩ : ∃ Qe qs2, qAdd st.qs qu (LM.units sl) = (Qe, qs2) := ⟨_, _, rfl⟩
 obtain ⟨TE, st9, hTk⟩ : ∃ TE st9, LM.take fs st qu sl = (TE, st9) := ⟨_, _, rfl⟩
 have hTk1 : E ≠ 0 → TE = E ∧ st9 = st := fun h0 => by
  unfold LM.take at hTk
  rw [HX.out.2.2.2.1] at hTk
  simp only [ne_eq, h0, not_false_eq_true, if_true] at hTk
  injection hTk with h1 h2; exact ⟨h1.symm, h2.symm⟩
 have hTk2 : E = 0 → Qe ≠ 0 → TE = Qe ∧ st9 = st := fun h0 h1 => by
  unfold LM.take at hTk
  rw [HX.out.2.2.2.1, hQ] at hTk
  simp only [ne_eq, h0, h1, not_true_eq_false, not_false_eq_true, if_true, if_false] at hTk
  injection hTk with h1 h2; exact ⟨h1.symm, h2.symm⟩
 have hTk3 : E = 0 → Qe = 0 → TE = 0 ∧ st9 = { st with ts := ts2, qs := qs2 } := fun h0 h1 => by
  unfold LM.take at hTk
  rw [HX.out.2.2.2.1, hQ] at hTk
  simp only [ne_eq, h0, h1, not_true_eq_false, if_false] at hTk
  injection hTk with h1 h2; exact ⟨h1.symm, h2.symm⟩
 have HTk := Lib.hid (And.intro hTk1 (And.intro hTk2 hTk3))
 rw [hTk]
 simp only
 have HQQ := Lib.hid hQ
 clear hTk1 hTk2 hTk3 hTk hQ
 go_enter Tryz.func75, Tryz.ntmps75
 go_wp2_with fail
 refine hCp.out.mono ?_
 rintro e w1 ⟨q1, tk1, db1, ct1, cd1, rfl, hcp, y1, y2, y3, hb1⟩
 have HCP := Lib.hid hcp
 have HB1 := Lib.hid hb1
 have hs1 := hb1.size
 replace c0 := (hb1.cell (p := ⟨r, 0, none⟩) l1).trans c0
 replace c1 := (hb1.cell (p := ⟨r, 1, none⟩) l1).trans c1
 clear hcp hb1 hCp
 go_wp2_with fail
 refine (HDo.out w1 HB1.out).mono ?_
 rintro e w2 ⟨rfl, tk2, ct2, hp2, hf2, hy2⟩
 have hs2 := hf2.size
 have HP2 := Lib.hid hp2
 have HF2 := Lib.hid hf2
 have hF0 : Foot (fun i => i = r ∨ i = q ∨ i = tk ∨ i = db ∨ i = b) w w2 := (Foot.of_below HB1.out).trans hf2 fun i hi => .inl (by rcases hi with rfl | rfl <;> simp)
 have HF0 := Lib.hid hF0
 have hr2 : w2.heap[r]? = some (.cells #[.pointer (some ⟨q, 0, none⟩), .pointer (some ⟨ra, 0, none⟩), .slice A L.length c, .int .i64 (st.ver : Nat)] 85 (0, 0)) :=
  (hf2.block r (by omega) hrq).trans ((HB1.out.block r l1).trans HX.out.1.blk)
 have HR2 := Lib.hid hr2
 clear hp2 hf2 HDo hF0 c0 c1
 have hac2 : RQAt w2 ra a b ca' cb' st.qs := (HX.out.2.2.2.2.2.keep HB1.out).foot HF2.out fun i hi => by
  rcases hi with rfl | rfl
  ·exact HN.out.2.1
  ·exact HN.out.2.2.1
 have HA2 := Lib.hid hac2
 clear hac2
 by_cases hE0 : E ≠ 0
 ·have t1 : (E != 0) = true := by simp [hE0]
  have HE0 := Lib.hid hE0
  clear hE0 hr2
  go_wp2
  go_ret
  obtain ⟨te1, te2⟩ := HTk.out.1 HE0.out
  rw [te1, te2]
  refine ⟨rfl, q, tk2, db, ?_, HF0.out, .inl rfl, by omega, .inl rfl⟩
  have hts : ts2 = st.ts := by
   have h9 := PM.whole_err (fs := fs) (dr := st.dr) (give := false) (l := sl) (ts := st.ts) (by rw [HX.out.2.2.2.1]; exact HE0.out)
   rw [HX.out.2.2.2.1] at h9
   exact h9
  have h8 := HX.out.1.pooled HF0.out HR2.out ⟨ca, ct2, cd, HP2.out⟩ ⟨ca', cb', HA2.out⟩ HX.out.1.ok.q (.inl rfl) (by omega) (.inl rfl)
  rw [hts] at h8
  exact h8
 have hE1 : E = 0 := Classical.not_not.1 hE0
 subst hE1
 have hsi := hSI.out rfl
 have hmy := LM.units_may hsi hn
 have hun := units_un hsi hn
 have hl2 : Slots w2 w2.heap.size A' sl := Slots.foot (Slots.keep HX.out.2.1 HB1.out HB1.out.size) HF2.out HX.out.2.2.1
 have hQ := HQQ.out
 have hQ6 : Qe ≠ 0 → Qe = 6 := fun hne => by
  have h9 := qAdd_six hq0 hmy (by rw [hQ]; exact hne)
  rw [hQ] at h9; exact h9
 have hql : qs2.length = st.qs.length := by have h9 := qAdd_len st.qs qu (LM.units sl); rw [hQ] at h9; exact h9
 have hqe : Qe ≠ 0 → qs2 = st.qs := fun hne => by
  have h9 := qAdd_err (l := st.qs) (q := qu) (u := LM.units sl) (by rw [hQ]; exact hne)
  rw [hQ] at h9; exact h9
 have HU := Lib.hid (fun W (hW : Foot (· = b) w2 W) => show Calls Tryz.prog 113 #[.slice A' m c'] W (fun e w' => e = .returned (unV (LM.units sl)) ∧ Below W.heap.size W w') from by
  rw [HX.out.2.2.2.2.1]
  exact refunits8_any A' c' sl W (Slots.foot hl2 hW HOb.out) hsi hn)
 have HAd := Lib.hid (fun W (hW : RQAt W ra a b ca' cb' st.qs) => show Calls Tryz.prog 112 #[.pointer (some ⟨ra, 0, none⟩), .int .i64 qu, unV (LM.units sl)] W (fun e w' => e = .returned (.int .i64 Qe) ∧ RQAt w' ra a b ca' cb' qs2 ∧ Foot (· = b) W w') from by
  have h9 := radd_q ra a b ca' cb' st.qs qu (LM.units sl) W hW hun
  rw [hQ] at h9; exact h9)
 have c1 : w2.cell? ⟨r, 1, none⟩ = some (.pointer (some ⟨ra, 0, none⟩)) := cell_blk (i := 1) hr2 rfl
 have HQ := Lib.hid (And.intro hQ6 (And.intro hql hqe))
 unfold unV at HU HAd
 clear hr2 hsi hmy hun hl2 hQ hQ6 hql hqe
 go_wp2_with fail
 refine held_begin (fun w' : World => w'.cell? ⟨r, 1, none⟩ = some (.pointer (some ⟨ra, 0, none⟩))) (by kernel_rfl) ?_
 have hBh0 : Foot (· = b) w2 w2.drew := (Foot.refl _ _).drew
 have hSh0 : (fun w' : World => w'.cell? ⟨r, 1, none⟩ = some (.pointer (some ⟨ra, 0, none⟩))) w2.drew := c1
 refine held_takeK (v := ?_) 0 23 rfl rfl ⟨by rfl, ?_⟩ hSh0 ?_
 rotate_left
 ·intro w' hw'; obtain x0 := hw'; go_simp; (try with_reducible rfl)
 simp only [Act.put, pzA, pzB, pzC]
 refine held_takeK (v := ?_) 1 24 rfl rfl ⟨by rfl, ?_⟩ hSh0 ?_
 rotate_left
 ·intro w' hw'; obtain x0 := hw'; go_simp; (try with_reducible rfl)
 simp only [Act.put, pzA, pzB, pzC]
 refine held_takeK (v := ?_) 2 25 rfl rfl ⟨by rfl, ?_⟩ hSh0 ?_
 rotate_left
 ·intro w' hw'; obtain x0 := hw'; go_simp; (try with_reducible rfl)
 simp only [Act.put, pzA, pzB, pzC]
 refine held_takeK (v := ?_) 3 26 rfl rfl ⟨by rfl, ?_⟩ hSh0 ?_
 rotate_left
 ·intro w' hw'; obtain x0 := hw'; go_simp; (try with_reducible rfl)
 simp only [Act.put, pzA, pzB, pzC]
 refine held_takeK (v := ?_) 4 27 rfl rfl ⟨by rfl, ?_⟩ hSh0 ?_
 rotate_left
 ·intro w' hw'; obtain x0 := hw'; go_simp; (try with_reducible rfl)
 simp only [Act.put, pzA, pzB, pzC]
 refine held_takeK (v := ?_) 5 28 rfl rfl ⟨by rfl, ?_⟩ hSh0 ?_
 rotate_left
 ·intro w' hw'; obtain x0 := hw'; go_simp; (try with_reducible rfl)
 simp only [Act.put, pzA, pzB, pzC]
 refine held_one 6 rfl (by kernel_rfl) (by rfl) (fun K hK => ?_)
 go_simp
 go_at_call 113
 refine (HU.out w2.drew hBh0).mono ?_
 rintro e wh1 ⟨rfl, hbh1⟩
 have hBh1 : Foot (· = b) w2 wh1 := hBh0.trans (Foot.of_below (F := fun _ => False) hbh1) (fun i hi => hi.elim)
 have hSh1 : (fun w' : World => w'.cell? ⟨r, 1, none⟩ = some (.pointer (some ⟨ra, 0, none⟩))) wh1 := (hBh1.cell (p := ⟨r, 1, none⟩) (show r < w2.heap.size by omega) (hrb)).trans c1
 have HAc := Lib.hid ((HA2.out.keep (Below.refl _ _).drew).keep hbh1)
 refine hK.out _ _ hSh1 ?_
 clear hK K
 refine held_one 7 rfl (by kernel_rfl) (by rfl) (fun K hK => ?_)
 go_simp
 go_at_call 112
 refine (HAd.out wh1 HAc.out).mono ?_
 rintro e wh2 ⟨rfl, hacc, hbh2⟩
 have hBh2 : Foot (· = b) w2 wh2 := hBh1.trans hbh2 (fun i hi => .inl hi)
 have hSh2 : (fun w' : World => w'.cell? ⟨r, 1, none⟩ = some (.pointer (some ⟨ra, 0, none⟩))) wh2 := (hBh2.cell (p := ⟨r, 1, none⟩) (show r < w2.heap.size by omega) (hrb)).trans c1
 have HACC := Lib.hid hacc
 clear hacc
 refine hK.out _ _ hSh2 ?_
 clear hK K
 refine held_takeK (v := ?_) 8 31 rfl rfl ⟨by rfl, ?_⟩ hSh2 ?_
 rotate_left
 ·intro w' hw'; obtain x0 := hw'; go_simp; (try with_reducible rfl)
 simp only [Act.put, pzA, pzB, pzC]
 refine wpAnyH_done (by kernel_rfl) ?_ _
 have HF5 := Lib.hid (HF0.out.trans hBh2 fun i hi => .inl (by rw [hi]; simp))
 have hF5 := Lib.hid (hBh2)
 have hs5 := hF5.out.size
 have hr5 : wh2.heap[r]? = some (.cells #[.pointer (some ⟨q, 0, none⟩), .pointer (some ⟨ra, 0, none⟩), .slice A L.length c, .int .i64 (st.ver : Nat)] 85 (0, 0)) := (hF5.out.block r (by omega) hrb).trans HR2.out
 have HR5 := Lib.hid hr5
 clear hSh0 hSh1 hSh2 hBh0 hBh1 hBh2 c1 HA2 HAc HU HAd hbh1 hbh2
 by_cases hq1 : Qe ≠ 0
 ·have t2 : (Qe != 0) = true := by simp [hq1]
  have e6 := HQ.out.1 hq1
  have e7 := HQ.out.2.2 hq1
  subst e6
  have HT6 := Lib.hid (HTk.out.2.1 (by first | rfl | trivial) hq1)
  have d0 : wh2.cell? ⟨r, 0, none⟩ = some (.pointer (some ⟨q, 0, none⟩)) := cell_blk (i := 0) hr5 rfl
  have z0 : wh2.frozen? ⟨r, 0, none⟩ = false := frozen_blk hr5
  clear hr5 hq1
  go_wp2
  go_ret
  obtain ⟨te1, te2⟩ := HT6.out
  rw [te1, te2]
  refine ⟨rfl, q1, tk1, db1, ?_, HF5.out.setCell (p := ⟨r, 0, none⟩) (.inl (.inl rfl)) _, .inr y1, .inr y2, .inr y3⟩
  have hRc : RefAt (wh2.setCell ⟨r, 0, none⟩ (.pointer (some ⟨q1, 0, none⟩))) q1 al tk1 db1 ca ct1 cd1 fs st.ts st.dr := by
   refine HCP.out.off fun i hi e => ?_
   have hil : i ≠ r ∧ i ≠ b ∧ ¬ (i = q ∨ i = tk) ∧ i < w1.heap.size := by
    refine ⟨?_, ?_, ?_, hi⟩
    ·rcases e with rfl | rfl | rfl | rfl
     ·omega
     ·exact fun e => HN.out.1.2.1 e.symm
     ·omega
     ·omega
    ·rcases e with rfl | rfl | rfl | rfl
     ·omega
     ·exact HN.out.2.2.2.1
     ·omega
     ·omega
    ·rcases e with rfl | rfl | rfl | rfl
     ·omega
     ·exact fun e => e.elim (fun e => HN.out.2.2.2.2.2.1 e.symm) HN.out.2.2.2.2.2.2.1
     ·omega
     ·omega
   rw [Below.heap_setCell _ _ _ _ hil.1, hF5.out.block i (by omega) hil.2.1, HF2.out.block i hi hil.2.2.1]
  have hAc5 : RQAt (wh2.setCell ⟨r, 0, none⟩ (.pointer (some ⟨q1, 0, none⟩))) ra a b ca' cb' qs2 := HACC.out.off fun i hi e => Below.heap_setCell _ _ _ _ (HRa.out i e)
  rw [e7] at hAc5
  have h8 := HX.out.1.pooled (HF5.out.setCell (p := ⟨r, 0, none⟩) (.inl (.inl rfl)) (.pointer (some ⟨q1, 0, none⟩))) (by have h9 := blk_put (i := 0) (.pointer (some ⟨q1, 0, none⟩)) HR5.out; exact h9) ⟨ca, ct1, cd1, hRc⟩ ⟨ca', cb', hAc5⟩ HX.out.1.ok.q (.inr y1) (.inr y2) (.inr y3)
  exact h8
 ·have hq2 : Qe = 0 := Classical.not_not.1 hq1
  subst hq2
  have hql := HQ.out.2.1
  clear hr5 hq1 HQ
  go_wp2
  go_ret
  obtain ⟨te1, te2⟩ := HTk.out.2.2 (by first | rfl | trivial) (by first | rfl | trivial)
  rw [te1, te2]
  refine ⟨rfl, q, tk2, db, ?_, HF5.out, .inl rfl, by omega, .inl rfl⟩
  have hRc : RefAt wh2 q al tk2 db ca ct2 cd fs ts2 st.dr := HP2.out.off fun i hi e => hF5.out.block i hi (by
   rcases e with rfl | rfl | rfl | rfl
   ·exact HN.out.2.1.2.2
   ·exact HN.out.2.2.2.1
   ·rcases hy2 with rfl | hy2
    ·exact HN.out.2.2.1.2.2
    ·show ¬ (_ = b); omega
   ·exact HN.out.2.2.2.2.2.2.2.1)
  exact HX.out.1.pooled HF5.out HR5.out ⟨ca, ct2, cd, hRc⟩ ⟨ca', cb', HACC.out⟩ (fun x hx => by rw [hasQ_len hql]; exact HX.out.1.ok.q x hx) (.inl rfl) (by omega) (.inl rfl)
end
end Go.Proofs.YtgpfmlidchogcaaGreat
