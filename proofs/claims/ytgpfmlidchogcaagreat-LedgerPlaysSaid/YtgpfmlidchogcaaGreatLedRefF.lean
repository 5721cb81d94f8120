/- The document's ledger: Undrain, Commit. -/
import Derived.Test.YtgpfmlidchogcaaGreatLedRefM
set_option maxRecDepth 100000
set_option linter.unusedVariables false
namespace Go.Proofs.YtgpfmlidchogcaaGreat
open Go.RowKit
theorem turn_errR {dr : List Bool} {x : Int} {to : Bool} (h : (turn dr x to).1 ≠ 0) : (turn dr x to).2 = dr := by
 unfold turn at *
 split
 ·rfl
 ·split
  ·rfl
  ·rename_i h1 h2
   rw [if_neg h1, if_neg h2] at h
   exact absurd rfl h
section
variable {w : World} {r : Nat} {D : Nat → Prop} {fs : List Fr} {st : LS}
theorem RLAt.turned {w' : World} {q al tk db ra a b c : Nat} {A : Option Addr} {L : List Hs} {dr2 : List Bool} (h : RLAt w r q al tk db ra a b A c L fs st) {ca ct cd : Nat} (hp : RefAt w' q al tk db ca ct cd fs st.ts dr2) (hf : Foot (· = db) w w') : RLAt w' r q al tk db ra a b A c L fs { st with dr := dr2 } := by
 obtain ⟨ca', cb', hac⟩ := h.acc
 obtain ⟨l1, l2, l3, l4, l5, l6, l7, l8⟩ := h.lts
 have hn8 := h.ne
 simp only [List.nodup_cons, List.mem_cons, not_or, List.not_mem_nil, not_false_eq_true, List.nodup_nil, and_true] at hn8
 obtain ⟨⟨n1, n2, n3, n4, n5, n6, n7⟩, ⟨m1, m2, m3, m4, m5, m6⟩, ⟨p1, p2, p3, p4, p5⟩, ⟨o1, o2, o3, o4⟩, ⟨s1, s2, s3⟩, ⟨u1, u2⟩, v1⟩ := hn8
 exact h.pooled (hf.mono fun i hi => .inr (.inr (.inr (.inl hi)))) ((hf.block r l1 n4).trans h.blk) ⟨ca, ct, cd, hp⟩ ⟨ca', cb', hac.foot hf fun i hi => by subst hi; exact ⟨s1, s2, s3⟩⟩ h.ok.q (.inl rfl) (.inl rfl) (.inl rfl)
set_option maxHeartbeats 2000000 in
theorem rundrain_l (x : Int) (h : RL w r D fs st) (hv : st.ver ≤ 100000) :
  Calls Tryz.prog 39 #[.pointer (some ⟨r, 0, none⟩), .int .i64 x] w fun e w' => e = .returned (.int .i64 (LM.undrain st x).1) ∧ RNext w w' r D fs (LM.undrain st x).2 := by
 obtain ⟨q, al, tk, db, ra, a, b, A, c, L, h1, hD⟩ := h
 obtain ⟨ca, ct, cd, hp⟩ := h1.pool
 obtain ⟨c0, _, _, _⟩ := h1.own
 have hT0 := refturn_any q al tk db ca ct cd fs st.ts st.dr x false w hp
 have hte := turn_errR (dr := st.dr) (x := x) (to := false)
 have hst : LM.undrain st x = ((turn st.dr x false).1, LM.doneS (turn st.dr x false).1 { st with dr := (turn st.dr x false).2 }) := by
  unfold LM.undrain LM.doneS
  by_cases he : (turn st.dr x false).1 = 0
  ·simp [he]
  ·simp only [ne_eq, he, not_false_eq_true, if_true, if_false]
   rw [hte he]
 rw [hst]
 obtain ⟨T, hTe⟩ : ∃ T, T = (turn st.dr x false).1 := ⟨_, rfl⟩
 obtain ⟨dr2, hd2⟩ : ∃ dr2, dr2 = (turn st.dr x false).2 := ⟨_, rfl⟩
 rw [← hTe, ← hd2] at hT0 ⊢
 have HT := Lib.hid hT0
 have H := Lib.hid (And.intro h1 (And.intro hD hv))
 clear hst hTe hd2 hT0 hte h1 hD hp hv
 go_enter Tryz.func39, Tryz.ntmps39
 go_wp2_with fail
 refine HT.out.mono ?_
 rintro e w1 ⟨rfl, hp1, hf1⟩
 have h2 := Lib.hid (H.out.1.turned hp1 hf1)
 have HF := Lib.hid hf1
 clear hp1 hf1 c0
 go_wp2_with fail
 refine (rdone_l T h2.out (by have := H.out.2.2; show st.ver ≤ 1000000; omega)).mono ?_
 rintro e w2 ⟨rfl, h3, hf2⟩
 have H3 := Lib.hid h3
 have HF2 := Lib.hid hf2
 clear h3 hf2
 go_wp2
 go_ret
 have hd1 : ∀ i, i ∈ [r, q, al, tk, db, ra, a, b] → D i := fun i hi => H.out.2.1 i (.inl hi)
 exact ⟨rfl, RNext.of H3.out ((HF.out.mono fun i hi => hd1 i (by rw [hi]; simp)).trans HF2.out fun i hi => .inl (hd1 i (by rw [hi]; simp))) fun i hi => .inl (H.out.2.1 i hi)⟩
set_option maxHeartbeats 4000000 in
theorem rcommit_l (id now un : Int) (h : RL w r D fs st) (hv : st.ver ≤ 100000) (hun : (Lit.int .i64 un).wf = true) :
  Calls Tryz.prog 32 #[.pointer (some ⟨r, 0, none⟩), .int .i64 id, .int .i64 now, .int .i64 un] w fun e w' => e = .returned (.int .i64 (LM.commit st id now un).1) ∧ RNext w w' r D fs (LM.commit st id now un).2 := by
 have HRL := Lib.hid h
 obtain ⟨q, al, tk, db, ra, a, b, A, c, L, h1, hD⟩ := h
 have hL : L.length ≤ 100000 := by have := h1.ok.few; rw [← h1.hs, List.length_map] at this; omega
 have hFi := rfind_l id h1 hL
 have hc := LM.find_cases id st.hs
 obtain ⟨_, _, c2, _⟩ := h1.own
 unfold LM.commit
 rcases hc with ⟨e1, e2⟩ | ⟨k, g, e1, e2, e3, e4⟩
 ·rw [e1] at hFi
  rw [e2]
  simp only
  have HFi := Lib.hid hFi
  clear hFi e1 e2 h1 hD hL c2 hv
  go_enter Tryz.func32, Tryz.ntmps32
  go_wp2_with fail
  refine HFi.out.mono ?_
  rintro e w' ⟨rfl, rfl⟩
  go_wp2
  go_ret
  exact ⟨rfl, RNext.same HRL.out⟩
 ·rw [e1] at hFi
  rw [e4]
  simp only
  obtain ⟨x, G, hx, hxg, rfl, hG, hxc, hfz, hGr, hkL⟩ := h1.hold e2
  obtain ⟨N, hN⟩ : ∃ N, N = L.length := ⟨_, rfl⟩
  have f2 := hxc 2 _ rfl
  have f3 := hxc 3 _ rfl
  rw [hxg] at f2 f3
  have z2 := hfz (k * 5 + 2)
  have z3 := hfz (k * 5 + 3)
  rw [← hN] at c2 hkL
  obtain ⟨gr, hgr⟩ : ∃ v, v = g.run := ⟨_, rfl⟩
  obtain ⟨gu, hgu⟩ : ∃ v, v = g.un := ⟨_, rfl⟩
  rw [← hgr] at f3 ⊢
  rw [← hgu] at f2 ⊢
  have HFi := Lib.hid hFi
  have t0 : decide ((k : Int) < 0) = false := decide_eq_false (by omega)
  have j1 : (k : Int) < (N : Int) := by omega
  have H := Lib.hid (And.intro h1 (And.intro hD (And.intro hv (And.intro e2 (And.intro e3 (And.intro hx (And.intro hxg hxc)))))))
  clear hFi e1 e2 e3 e4 h1 hD hL hv hx hxg hxc hfz hgr hgu hN
  cases gr
  ·by_cases hlt : gu < now
   ·have t1 : decide (now > gu) = true := decide_eq_true hlt
    have t2 : decide (gu < now) = true := decide_eq_true hlt
    rw [if_neg (by simp), if_pos hlt]
    clear hlt
    go_enter Tryz.func32, Tryz.ntmps32
    go_wp2_with fail
    refine HFi.out.mono ?_
    rintro e w' ⟨rfl, rfl⟩
    go_wp2
    go_ret
    exact ⟨rfl, RNext.same HRL.out⟩
   ·have t1 : decide (now > gu) = false := decide_eq_false hlt
    have t2 : decide (gu < now) = false := decide_eq_false hlt
    rw [if_neg (by simp), if_neg hlt]
    clear hlt
    obtain ⟨W, hW⟩ : ∃ W, W = (w.setCell ⟨G, k * 5 + 3, none⟩ (.bool true)).setCell ⟨G, k * 5 + 2, none⟩ (.int .i64 un) := ⟨_, rfl⟩
    have hFt : Foot (fun i => ∃ o, (some ⟨G, 0, none⟩ : Option Addr) = some ⟨i, o, none⟩) w W := by
     rw [hW]; exact ((Foot.refl _ w).setCell (p := ⟨G, k * 5 + 3, none⟩) (.inl ⟨0, rfl⟩) _).setCell (p := ⟨G, k * 5 + 2, none⟩) (.inl ⟨0, rfl⟩) _
    have h2 : RLAt W r q al tk db ra a b (some ⟨G, 0, none⟩) c (L.set k ⟨{ x.h with run := true, un := un }, x.A, x.c⟩) fs { st with hs := LM.upd id (fun h => { h with run := true, un := un }) st.hs } := by
     obtain ⟨h1, hD, hv, e2, e3, hx, hxg, hxc⟩ := H.out
     have hgm := List.mem_of_getElem? e2
     have hup : LM.upd id (fun h => { h with run := true, un := un }) st.hs = st.hs.set k { g with run := true, un := un } := by
      rw [← e3]; exact LM.upd_set _ h1.ok.asc e2
     refine h1.wrote hx hFt ?_ ?_ ?_ (.inl ⟨rfl, rfl⟩) (h1.cap x (List.mem_of_getElem? hx))
     ·rw [hW]
      have r1 := own_set (j := k * 5 + 3) (.bool true) h1.row
      have r2 := own_set (j := k * 5 + 2) (.int .i64 un) r1
      have x1 := flat_set1 (C := hsC) hsC_len (L := L) (i := k) (r := 3) (x := x) (x' := ⟨{ x.h with run := true }, x.A, x.c⟩) (v := .bool true) hx (by omega) rfl
      have hx2 : (L.set k ⟨{ x.h with run := true }, x.A, x.c⟩)[k]? = some ⟨{ x.h with run := true }, x.A, x.c⟩ := List.getElem?_set_self (List.getElem?_eq_some_iff.1 hx).1
      have x2 := flat_set1 (C := hsC) hsC_len (i := k) (r := 2) (x' := ⟨{ x.h with run := true, un := un }, x.A, x.c⟩) (v := .int .i64 un) hx2 (by omega) rfl
      rw [List.set_set, x1] at x2
      rw [x2]; exact r2
     ·rw [hup, ← h1.hs, List.map_set, ← hxg]
     ·have h9 := h1.ok.upd (g' := { g with run := true, un := un }) hgm rfl (by
       have h8 := h1.ok.ok g hgm
       exact ⟨h8.id, h8.q, hun, h8.n1, h8.n2, h8.sl⟩) (h1.ok.q g hgm)
      have e9 : LM.upd g.id (fun _ => { g with run := true, un := un }) st.hs = LM.upd id (fun h => { h with run := true, un := un }) st.hs := by
       rw [hup, LM.upd_set _ h1.ok.asc e2]
      rw [e9] at h9
      exact h9
    have H2 := Lib.hid h2
    have HFt := Lib.hid hFt
    have HW := Lib.hid hW
    clear h2 hFt hW
    go_enter Tryz.func32, Tryz.ntmps32
    go_wp2_with fail
    refine HFi.out.mono ?_
    rintro e w' ⟨rfl, rfl⟩
    go_wp2_with fail
    rw [← HW.out]
    refine (rdone_l 0 H2.out (by have := H.out.2.2.1; show st.ver ≤ 1000000; omega)).mono ?_
    rintro e w2 ⟨rfl, h3, hf2⟩
    have H3 := Lib.hid h3
    have HF2 := Lib.hid hf2
    clear h3 hf2
    go_wp2
    go_ret
    have hd1 : ∀ i, RB r q al tk db ra a b (some ⟨G, 0, none⟩) L i → D i := H.out.2.1
    refine ⟨rfl, RNext.of (by have h9 := H3.out; unfold LM.doneS at h9; rw [if_pos rfl] at h9; exact h9) ((HFt.out.mono fun i hi => hd1 i (.inr (.inl hi))).trans HF2.out fun i hi => .inl (hd1 i (.inl (by rw [hi]; simp)))) fun i hi => .inl (hd1 i ?_)⟩
    rcases hi with hi | hi | ⟨y, hy, o, e⟩
    ·exact .inl hi
    ·exact .inr (.inl hi)
    ·rcases List.mem_or_eq_of_mem_set hy with hy | rfl
     ·exact .inr (.inr ⟨y, hy, o, e⟩)
     ·exact .inr (.inr ⟨x, List.mem_of_getElem? H.out.2.2.2.2.2.1, o, e⟩)
  ·rw [if_pos rfl]
   go_enter Tryz.func32, Tryz.ntmps32
   go_wp2_with fail
   refine HFi.out.mono ?_
   rintro e w' ⟨rfl, rfl⟩
   go_wp2
   go_ret
   exact ⟨rfl, RNext.same HRL.out⟩
end
end Go.Proofs.YtgpfmlidchogcaaGreat
