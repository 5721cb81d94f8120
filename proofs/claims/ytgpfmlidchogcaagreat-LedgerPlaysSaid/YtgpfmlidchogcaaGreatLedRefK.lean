/- The document's ledger: Drain. -/
import Derived.Test.YtgpfmlidchogcaaGreatLedRefJ
set_option maxRecDepth 100000
set_option linter.unusedVariables false
namespace Go.Proofs.YtgpfmlidchogcaaGreat
open Go.RowKit

section
variable {w : World} {r : Nat} {D : Nat → Prop} {fs : List Fr} {st : LS}
set_option maxHeartbeats 8000000 in
theorem rdrain_l (node : Int) (h : RL w r D fs st) (hv : st.ver ≤ 90000) :
  Calls Tryz.prog 38 #[.pointer (some ⟨r, 0, none⟩), .int .i64 node] w fun e w' => (∃ A c, e = .returned (.tuple #[.slice A (LM.drain fs st node).1.1.length c, .int .i64 (LM.drain fs st node).1.2]) ∧ w'.ownsRow w.heap.size 3 1 (.slice A (LM.drain fs st node).1.1.length c) (LM.drain fs st node).1.1.length ((LM.drain fs st node).1.1.map (Value.int .i64))) ∧ RNext w w' r D fs (LM.drain fs st node).2 := by
 obtain ⟨i0, hi, hz0, hz1, hz2⟩ := info_parts info_int8
 have HRL := Lib.hid h
 obtain ⟨q, al, tk, db, ra, a, b, A, c, L, h1, hD⟩ := h
 obtain ⟨ca, ct, cd, hp⟩ := h1.pool
 obtain ⟨c0, _, _, _⟩ := h1.own
 have hT0 := refturn_any q al tk db ca ct cd fs st.ts st.dr node true w hp
 have hte := turn_errR (dr := st.dr) (x := node) (to := true)
 unfold LM.drain
 obtain ⟨T, hTe⟩ : ∃ T, T = (turn st.dr node true).1 := ⟨_, rfl⟩
 obtain ⟨dr2, hd2⟩ : ∃ dr2, dr2 = (turn st.dr node true).2 := ⟨_, rfl⟩
 rw [← hTe, ← hd2] at hT0 ⊢
 rw [← hTe, ← hd2] at hte
 have HT := Lib.hid hT0
 have H := Lib.hid (And.intro h1 (And.intro hD hv))
 have HTE := Lib.hid hte
 obtain ⟨N, hN⟩ : ∃ N, N = st.hs.length := ⟨_, rfl⟩
 have hNf : N ≤ 90000 := by have := h1.ok.few; omega
 have HN := Lib.hid hN
 clear hTe hd2 hT0 hte h1 hD hp hv hN
 by_cases hT : T ≠ 0
 ·rw [if_pos hT]
  have t1 : (T != 0) = true := by simp [hT]
  have HT1 := Lib.hid hT
  clear hT
  go_enter Tryz.func38, Tryz.ntmps38
  go_wp2_with fail
  refine HT.out.mono ?_
  rintro e w1 ⟨rfl, hp1, hf1⟩
  go_wp2
  refine bodyPost_ret (v := .tuple #[.slice none 0 0, .int .i64 T]) (by simp [results, Tryz.results38, go_sem]) rfl ?_
  refine ⟨⟨none, 0, rfl, World.ownsRow_nil _ _ _ _⟩, ?_⟩
  have h2 := H.out.1.turned hp1 hf1
  rw [HTE.out HT1.out] at h2
  exact RNext.of h2 (hf1.mono fun i hi => H.out.2.1 i (.inl (by rw [hi]; simp))) fun i hi => .inl (H.out.2.1 i hi)
 have hT1 : T = 0 := Classical.not_not.1 hT
 rw [if_neg hT]
 subst hT1
 clear hT
 obtain ⟨st0, hst0⟩ : ∃ s : LS, s = { st with dr := dr2 } := ⟨_, rfl⟩
 have hgo : LM.allGo fs (LM.up { st with dr := dr2 }) (LM.on node) = LM.up (LM.allGo fs st0 (LM.on node)) := by rw [allGo_up, hst0]
 rw [hgo]
 obtain ⟨Iq, hIq⟩ : ∃ Iq, Iq = LM.idsOf st (LM.on node) := ⟨_, rfl⟩
 rw [← hIq]
 have HQ := Lib.hid (And.intro (show Iq = LM.idsOf st0 (LM.on node) by rw [hIq, hst0]; rfl) (And.intro hst0 (And.intro (show st0.ver = st.ver by rw [hst0]) (show st0.hs = st.hs by rw [hst0]))))
 clear hIq hst0 hgo
 go_enter Tryz.func38, Tryz.ntmps38
 go_wp2_with fail
 refine HT.out.mono ?_
 rintro e w1 ⟨rfl, hp1, hf1⟩
 have h2 : RLAt w1 r q al tk db ra a b A c L fs st0 := by rw [HQ.out.2.1]; exact H.out.1.turned hp1 hf1
 have hR2 : RL w1 r D fs st0 := ⟨q, al, tk, db, ra, a, b, A, c, L, h2, H.out.2.1⟩
 obtain ⟨E0, hS⟩ := LetsAt.start hR2 (LM.on node)
 have HS0 := Lib.hid hS
 have HF := Lib.hid (hf1.mono (F' := D) fun i hi => H.out.2.1 i (.inl (by rw [hi]; simp)))
 clear hp1 hf1 c0 h2 hR2 hS
 go_wp2
 go_loopw [7, 8] (fun ids i wr => ∃ (k m : Nat) (A : Option Addr) (cp : Nat), ids = .slice A m cp ∧ i = .int .i64 k ∧ k + m ≤ N ∧ Hid (∃ D1 st1 pre rest I, LetsAt w1 wr r D D1 fs st0 st1 (LM.on node) A m cp pre rest I ∧ pre.length = k)) (fun ids i _ => N - ((intOf i).toNat + lenV ids))
 case atStart => exact ⟨0, 0, none, 0, rfl, rfl, by omega, Lib.hid ⟨E0, st0, [], st0.hs, [], HS0.out, rfl⟩⟩
 case round =>
  obtain ⟨k, m, A2, cp, rfl, rfl, hkm, hI⟩ := hrel
  obtain ⟨D1, st1, pre, rest, I, hX, hk⟩ := hI.out
  obtain ⟨q, al, tk, db, ra, a, b, A, c, L, h1, hD1⟩ := hX.obj
  have c2 := h1.own.2.2.1
  obtain ⟨n, hn⟩ : ∃ n, n = L.length := ⟨_, rfl⟩
  rw [← hn] at c2
  have hln : n = k + rest.length := by
   have h9 := congrArg List.length h1.hs
   rw [List.length_map, hX.hs, List.length_append] at h9
   omega
  have hall := hX.all
  rw [hX.len, hk, HQ.out.2.2.2, ← HN.out] at hall
  have hv1 : st1.ver ≤ 90000 := by rw [hX.ver, HQ.out.2.2.1]; exact H.out.2.2
  cases rest with
  | nil =>
   have t1 : decide (k < n) = false := decide_eq_false (by simp at hln; omega)
   have HE := Lib.hid (And.intro hX (And.intro hX.all_done (And.intro hD1 (And.intro h1 (show st1.ver ≤ 1000000 by omega)))))
   clear hX h1 hD1 hn hall hI hln hk hv1
   go_wp2_with fail
   refine (rdone_l 0 HE.out.2.2.2.1 HE.out.2.2.2.2).mono ?_
   rintro e w3 ⟨rfl, h3, hf3⟩
   have H3 := Lib.hid h3
   have HF3 := Lib.hid hf3
   clear h3 hf3
   go_wp2
   refine bodyPost_ret (v := .tuple #[.slice A2 m cp, .int .i64 0]) (by simp [results, Tryz.results38, go_sem]) rfl ?_
   obtain ⟨hX, ⟨e1, e2⟩, hD1, h1, _⟩ := HE.out
   have hlen : m = Iq.length := by rw [HQ.out.1, ← e2, hX.len]
   rw [← hlen]
   have hrD : D1 r := hD1 r (.inl (by simp))
   have hs3 := HF3.out.size
   refine ⟨⟨A2, cp, rfl, ?_⟩, ?_⟩
   ·have h8 := hX.row
    rw [e2, ← HQ.out.1] at h8
    refine own_low (own_stays h8 fun i hi => HF3.out.block i (h8.lt i hi).2 fun e => ?_) HF.out.size
    have e : i = r := e
    subst e
    rcases h8.2 with ⟨e5, _⟩ | ⟨g, _, _, e5, _⟩
    ·rw [e5] at hi; cases hi
    ·rw [e5] at hi
     simp [Value.ownBlock] at hi
     subst hi
     exact hX.off _ 0 (Value.slice.inj e5).1 hrD
   ·have h9 := H3.out
    unfold LM.doneS at h9
    rw [if_pos rfl, e1] at h9
    exact ⟨D1, ⟨q, al, tk, db, ra, a, b, A, c, L, h9, hD1⟩, (HF.out.trans hX.foot fun i hi => .inl hi).trans HF3.out fun i hi => by
     rw [hi]
     rcases hX.new r hrD with e | e
     ·exact .inl e
     ·have := HF.out.size; exact .inr (by omega), fun i hi => by
     have := hX.lt i hi
     rcases hX.new i hi with e | e
     ·exact .inl e
     ·have := HF.out.size; exact .inr (by omega)⟩
  | cons x rest =>
   have hat := hX.at_
   rw [hk] at hat
   have t1 : decide (k < n) = true := decide_eq_true (by simp at hln; omega)
   have j1 : (k : Int) < (n : Int) := by simp at hln; omega
   have j2 : k + m + 1 ≤ N := by simp at hall; omega
   obtain ⟨y, G, hy, hyx, rfl, hG, hyc, hfz, hGr, hkL⟩ := h1.hold hat
   have f0 := hyc 0 _ rfl
   have hym := List.mem_of_getElem? hy
   have hOn := ron_l x y.A y.c node wr (by rw [← hyx]; exact h1.sl y hym) (by have := (h1.ok.ok x (List.mem_of_getElem? hat)).n2; omega)
   obtain ⟨R, hR⟩ : ∃ R, R = LM.on node x := ⟨_, rfl⟩
   rw [← hR, ← hyx] at hOn
   have HOn := Lib.hid (show Calls Tryz.prog 80 #[.agg (hsC y).toArray, .int .i64 node] wr fun e w' => e = .returned (.bool R) ∧ Below wr.heap.size wr w' from hOn)
   have HC := Lib.hid (show CellsAt wr G (k * 5) (hsC y) from hyc)
   rw [hyx] at f0
   rw [Nat.add_zero] at f0
   obtain ⟨xi, hxi⟩ : ∃ v, v = x.id := ⟨_, rfl⟩
   rw [← hxi] at f0
   have HX := Lib.hid (And.intro hX (And.intro hk (And.intro hat (And.intro hxi (And.intro hR hv1)))))
   have HLT := Lib.hid (And.intro hG (show r < wr.heap.size by
    obtain ⟨_, _, _, _, _, _, _, _, _, _, hh, _⟩ := HX.out.1.obj
    exact hh.lts.1))
   clear hG hGr hX h1 hD1 hn hall hI hln hy hyx hyc hfz hkL hat hxi hk hOn hv1 hym hR
   cases R
   ·go_wp2_with (first | (refine wpList_load_hs rfl _ rfl G (k * 5) y rfl HC.out ?_) | (go_at_call 80; refine HOn.out.mono ?_; rintro e w3 ⟨rfl, hb3⟩; clear HOn; clear c2 f0))
    have HI : Hid (∃ D1 st1 pre rest I, LetsAt w1 w3 r D D1 fs st0 st1 (LM.on node) A2 m cp pre rest I ∧ pre.length = k + 1) := Lib.hid ⟨D1, st1, pre ++ [x], rest, I, (HX.out.1.keep hb3).no HX.out.2.2.2.2.1.symm, by rw [List.length_append, HX.out.2.1]; rfl⟩
    clear hb3
    go_roundw
    case rel => exact ⟨k + 1, m, A2, cp, by first | rfl | trivial, by go_num, by omega, HI⟩
    case measure => simp [intOf, lenV]; omega
   ·go_wp2_with (first
      | (refine wpList_load_hs rfl _ rfl G (k * 5) y rfl HC.out ?_)
      | (go_at_call 80; refine HOn.out.mono ?_; rintro e w3 ⟨rfl, hb3⟩; have HX3 := Lib.hid (HX.out.1.keep hb3); have HO2 := Lib.hid HX3.out.row; have lw : w1.heap.size ≤ w3.heap.size := HX3.out.foot.size; replace f0 := (hb3.cell (p := ⟨G, k * 5, none⟩) HLT.out.1).trans f0; replace c2 := (hb3.cell (p := ⟨r, 2, none⟩) HLT.out.2).trans c2; clear hb3)
      | (go_at_call 78; have hY := fun w6 => HX3.out.yes (w6 := w6) HX.out.2.2.2.2.1.symm (by rw [← HX.out.2.2.2.1]; exact hown5) hgrow5 hat5; have HY := Lib.hid hY; clear hY hown5 hgrow5 hat5; refine (rlet_l k x (HY.out w3).1 HX.out.2.2.1 (by have := HX.out.2.2.2.2.2; omega)).mono ?_; rintro e w6 ⟨rfl, hn6⟩)
      | (at_builtin; refine wpList_append_lies _ rfl _ _ 36 rfl w1.heap.size 3 i0 _ 1 8 Tryz.underlying36 hi hz0 hz1 hz2 rfl (by decide) (.slice A2 m cp) m (I.map (Value.int .i64)) rfl (HO2.out.alloc _) ⟨w3.heap.size, 0, none⟩ 1 1 [.int .i64 xi] rfl rfl (World.news_of_block (cs := #[.int .i64 xi]) (t := 3) (fr := (0, 0)) (heap_alloc_new w3 _)) (by simp [Value.oneCell']) (by omega) (by unfold maxLen; omega) (by omega) (by simp; omega) (w3.heap.size + 1) (by simp) ?_; intro gg cap' w5 hown5 hgrow5 hat5 hlt5))
    obtain ⟨D2, hX2⟩ := (HY.out w6).2 hn6
    have HI : Hid (∃ D1 st1 pre rest I, LetsAt w1 w6 r D D1 fs st0 st1 (LM.on node) (some ⟨gg, 0, none⟩) (m + 1) cap' pre rest I ∧ pre.length = k) := Lib.hid ⟨D2, _, pre, rest, _, hX2, HX.out.2.1⟩
    go_roundw
    case rel => exact ⟨k, m + 1, some ⟨gg, 0, none⟩, cap', by first | rfl | trivial, by first | rfl | trivial, by omega, HI⟩
    case measure => simp [intOf, lenV]; omega
end
end Go.Proofs.YtgpfmlidchogcaaGreat
