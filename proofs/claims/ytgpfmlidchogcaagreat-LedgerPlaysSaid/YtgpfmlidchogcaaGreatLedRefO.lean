/- The document's ledger: Reserve. -/
import Derived.Deep.AppendLies
import Derived.Test.YtgpfmlidchogcaaGreatLedRefN
set_option maxRecDepth 100000
set_option linter.unusedVariables false
namespace Go.Proofs.YtgpfmlidchogcaaGreat
open Go.RowKit

section
variable {P : Program} {ops : Array Oper} {Q : Exit → Act → World → Prop} {md : Region.Mode} {S : World → Prop} {c : Nat}
theorem until_two (i j : Nat) {oi oj : Oper} {f : Nat} {listed : Array Bool} {a : Act} {w : World} (hi : ops[i]? = some oi) (hj : ops[j]? = some oj) (hr : Region.ready md ops listed = [i, j]) (hgi : oi.guard = none) (hgj : oj.guard = none)
  (h1 : ∀ K : Act → World → Prop, Hid (∀ a' w', ((listed.setIfInBounds i true).getD c true = false → S w') → wpUntil P md ops Q S c f (listed.setIfInBounds i true) a' w' → K a' w') → oi.wp P a w K Q)
  (h2 : ∀ K : Act → World → Prop, Hid (∀ a' w', ((listed.setIfInBounds j true).getD c true = false → S w') → wpUntil P md ops Q S c f (listed.setIfInBounds j true) a' w' → K a' w') → oj.wp P a w K Q) : wpUntil P md ops Q S c (f + 1) listed a w := by
 refine ⟨fun h0 => (by rw [hr] at h0; cases h0), fun k hk => ?_⟩
 rw [hr] at hk
 have hk2 : k = i ∨ k = j := by simpa using hk
 rcases hk2 with rfl | rfl
 ·unfold wpOp
  simp only [hi]
  rw [if_pos (by simp [Region.wanted, hgi])]
  exact .inl (h1 _ (Lib.hid fun _ _ h1 h2 => ⟨h1, h2⟩))
 ·unfold wpOp
  simp only [hj]
  rw [if_pos (by simp [Region.wanted, hgj])]
  exact .inl (h2 _ (Lib.hid fun _ _ h1 h2 => ⟨h1, h2⟩))
end
theorem clsat5 {w : World} {b : Nat} {v0 v1 v2 v3 v4 : Value} (h0 : w.cell? ⟨b, 0, none⟩ = some v0) (h1 : w.cell? ⟨b, 1, none⟩ = some v1) (h2 : w.cell? ⟨b, 2, none⟩ = some v2) (h3 : w.cell? ⟨b, 3, none⟩ = some v3) (h4 : w.cell? ⟨b, 4, none⟩ = some v4) : CellsAt w b 0 [v0, v1, v2, v3, v4] := fun i v hv => by
 rw [Nat.zero_add]
 match i, hv with
 | 0, hv => cases hv; exact h0
 | 1, hv => cases hv; exact h1
 | 2, hv => cases hv; exact h2
 | 3, hv => cases hv; exact h3
 | 4, hv => cases hv; exact h4
 | n + 5, hv => simp at hv
section
variable {w : World} {r : Nat} {D : Nat → Prop} {fs : List Fr} {st : LS}
theorem RLNext.rnext {w' : World} {q al tk db ra a b c : Nat} {A : Option Addr} {L : List Hs} {st' : LS} (hD : ∀ i, RB r q al tk db ra a b A L i → D i) (h : RLNext w w' r q al tk db ra a b A c L fs st') : RNext w w' r D fs st' := by
 obtain ⟨q', tk', db', h2, hf, y1, y2, y3⟩ := h
 have hD8 : ∀ i, i ∈ [r, q, al, tk, db, ra, a, b] → D i := fun i hi => hD i (.inl hi)
 refine RNext.of h2 (hf.mono fun i hi => hD8 i (by rcases hi with rfl | rfl | rfl | rfl | rfl <;> simp)) fun i hi => ?_
 rcases hi with hi | ⟨o, e⟩ | ⟨y, hy, o, e⟩
 ·simp only [List.mem_cons, List.not_mem_nil, or_false] at hi
  rcases hi with rfl | rfl | rfl | rfl | rfl | rfl | rfl | rfl
  ·exact .inl (hD8 _ (by simp))
  ·rcases y1 with rfl | y1
   ·exact .inl (hD8 _ (by simp))
   ·exact .inr y1
  ·exact .inl (hD8 _ (by simp))
  ·rcases y2 with rfl | y2
   ·exact .inl (hD8 _ (by simp))
   ·exact .inr y2
  ·rcases y3 with rfl | y3
   ·exact .inl (hD8 _ (by simp))
   ·exact .inr y3
  ·exact .inl (hD8 _ (by simp))
  ·exact .inl (hD8 _ (by simp))
  ·exact .inl (hD8 _ (by simp))
 ·exact .inl (hD i (.inr (.inl ⟨o, e⟩)))
 ·exact .inl (hD i (.inr (.inr ⟨y, hy, o, e⟩)))
set_option maxHeartbeats 16000000 in
theorem rreserve_l (id q0 un vr : Int) (A' : Option Addr) (c' : Nat) (sl : List PM.Sl) (h : RL w r D fs st) (hl : Slots w w.heap.size A' sl) (hO : ∀ s ∈ sl, SlOk s) (hA : sl ≠ [] → Off A' D) (hv : st.ver ≤ 90000) (hnm : sl.length ≤ 1000)
  (hid : (Lit.int .i64 id).wf = true) (hqw : (Lit.int .i64 q0).wf = true) (hun : (Lit.int .i64 un).wf = true) :
  Calls Tryz.prog 31 #[.pointer (some ⟨r, 0, none⟩), .int .i64 id, .int .i64 q0, .int .i64 un, .int .i64 vr, .slice A' sl.length c'] w fun e w' => e = .returned (.int .i64 (LM.reserve fs st id q0 un vr sl).1) ∧ RNext w w' r D fs (LM.reserve fs st id q0 un vr sl).2 := by
 have HRL := Lib.hid h
 obtain ⟨q, al, tk, db, ra, a, b, A, c, L, h1, hD⟩ := h
 have hL : L.length ≤ 90000 := by have := h1.ok.few; rw [← h1.hs, List.length_map] at this; omega
 have hFi := rfind_l id h1 (by omega)
 have hc := LM.find_cases id st.hs
 obtain ⟨_, c1, _, c3⟩ := h1.own
 obtain ⟨ca', cb', hac⟩ := h1.acc
 have f0 : w.cell? ⟨ra, 0, none⟩ = some (.slice (some ⟨a, 0, none⟩) st.qs.length ca') := cell_blk (i := 0) hac.obj rfl
 have hD8 : ∀ i, i ∈ [r, q, al, tk, db, ra, a, b] → D i := fun i hi => hD i (.inl hi)
 obtain ⟨m, hm⟩ : ∃ m, m = sl.length := ⟨_, rfl⟩
 have hmb : m ≤ 1000 := by omega
 unfold LM.reserve
 obtain ⟨ver, hver⟩ : ∃ v, v = st.ver := ⟨_, rfl⟩
 rw [← hver] at c3 hv ⊢
 rw [← hm]
 obtain ⟨nq, hnq⟩ : ∃ v, v = st.qs.length := ⟨_, rfl⟩
 rw [← hnq] at f0
 have HNq := Lib.hid hnq
 have HFi := Lib.hid hFi
 have hnq8 : nq ≤ 8 := by rw [hnq]; exact hac.few
 by_cases hvr : vr ≠ (ver : Int)
 ·rw [if_pos hvr]
  have t1 : (vr != (ver : Int)) = true := by simp [hvr]
  clear hFi hc h1 hD hac hver hm hnq hvr
  go_enter Tryz.func31, Tryz.ntmps31
  go_wp2
  go_ret
  exact ⟨rfl, RNext.same HRL.out⟩
 rw [if_neg hvr]
 obtain rfl : vr = (ver : Int) := Classical.not_not.1 hvr
 clear hvr
 have t1 : ((ver : Int) != (ver : Int)) = false := by simp
 by_cases hm1 : m < 1 ∨ 16 < m
 ·rw [if_pos hm1]
  clear hFi hc h1 hD hac hver hm hnq
  rcases hm1 with hm1 | hm1
  ·obtain rfl : m = 0 := by omega
   go_enter Tryz.func31, Tryz.ntmps31
   go_wp2
   go_ret
   exact ⟨rfl, RNext.same HRL.out⟩
  ·have u1 : decide (m < 1) = false := decide_eq_false (by omega)
   have u2 : decide (m = 0) = false := decide_eq_false (by omega)
   have u3 : decide ((m : Int) < 1) = false := decide_eq_false (by omega)
   have u4 : decide (16 < m) = true := decide_eq_true hm1
   have u5 : decide ((m : Int) > 16) = true := decide_eq_true (by omega)
   have u6 : decide ((16 : Int) < (m : Int)) = true := decide_eq_true (by omega)
   clear hm1
   go_enter Tryz.func31, Tryz.ntmps31
   go_wp2
   go_ret
   exact ⟨rfl, RNext.same HRL.out⟩
 rw [if_neg hm1]
 have hm2 : 1 ≤ m ∧ m ≤ 16 := by omega
 have u1 : decide (m < 1) = false := decide_eq_false (by omega)
 have u2 : decide (m = 0) = false := decide_eq_false (by omega)
 have u3 : decide ((m : Int) < 1) = false := decide_eq_false (by omega)
 have u4 : decide (16 < m) = false := decide_eq_false (by omega)
 have u5 : decide ((m : Int) > 16) = false := decide_eq_false (by omega)
 have u6 : decide ((16 : Int) < (m : Int)) = false := decide_eq_false (by omega)
 clear hm1
 rcases hc with ⟨e1, e2⟩ | ⟨k, g, e1, e2, e3, e4⟩
 rotate_left
 ·rw [e1] at HFi
  rw [e4]
  simp only [Option.isSome_some, if_true]
  have v1 : decide ((k : Int) ≥ 0) = true := decide_eq_true (by omega)
  have v2 : decide ((0 : Int) ≤ (k : Int)) = true := decide_eq_true (by omega)
  clear hFi h1 hD hac hver hm hnq e1 e2 e3 e4
  go_enter Tryz.func31, Tryz.ntmps31
  go_wp2_with (go_at_call 74; refine HFi.out.mono ?_; rintro e w' ⟨rfl, rfl⟩)
  go_ret
  exact ⟨rfl, RNext.same HRL.out⟩
 rw [e1] at HFi
 rw [e2]
 simp only [Option.isSome_none, Bool.false_eq_true, if_false]
 by_cases hq : hasQ st.qs q0 = false
 ·rw [if_pos hq]
  have hq2 : q0 < 0 ∨ (nq : Int) ≤ q0 := by
   rw [hnq]
   unfold hasQ at hq
   simp only [Bool.and_eq_false_iff, decide_eq_false_iff_not] at hq
   omega
  clear hFi h1 hD hac hver hm hnq e1 e2 hq
  by_cases hq3 : q0 < 0
  ·have v1 : decide (q0 < 0) = true := decide_eq_true hq3
   clear hq2 hq3
   go_enter Tryz.func31, Tryz.ntmps31
   go_wp2_with (go_at_call 74; refine HFi.out.mono ?_; rintro e w' ⟨rfl, rfl⟩)
   go_ret
   exact ⟨rfl, RNext.same HRL.out⟩
  ·have v1 : decide (q0 < 0) = false := decide_eq_false hq3
   have v2 : decide (q0 ≥ (nq : Int)) = true := decide_eq_true (by omega)
   have v3 : decide ((nq : Int) ≤ q0) = true := decide_eq_true (by omega)
   clear hq2 hq3
   go_enter Tryz.func31, Tryz.ntmps31
   go_wp2_with (go_at_call 74; refine HFi.out.mono ?_; rintro e w' ⟨rfl, rfl⟩)
   go_ret
   exact ⟨rfl, RNext.same HRL.out⟩
 rw [if_neg hq]
 have hqt : hasQ st.qs q0 = true := by simpa using hq
 have hq2 : 0 ≤ q0 ∧ q0 < (nq : Int) := by
  rw [hnq]
  unfold hasQ at hqt
  simpa using hqt
 have v1 : decide (q0 < 0) = false := decide_eq_false (by omega)
 have v2 : decide (q0 ≥ (nq : Int)) = false := decide_eq_false (by omega)
 have v3 : decide ((nq : Int) ≤ q0) = false := decide_eq_false (by omega)
 have hTk := rtake_l q0 A' c' sl h1 hl hO (by omega) (fun hne g o e hb => hA hne g o e (hD8 g hb)) hqt
 obtain ⟨T, hT0⟩ : ∃ T, T = LM.take fs st q0 sl := ⟨_, rfl⟩
 have hTk3 : T.2.hs = st.hs ∧ T.2.ver = st.ver ∧ T.2.dr = st.dr := by rw [hT0]; exact LM.take_keeps _ _ _ _
 have hTa : T.1 = 0 → ∀ s ∈ sl, SlIn s := fun e => by
  obtain ⟨ca, ct, cd, hp⟩ := h1.pool
  exact LM.take_all (by rw [← hT0]; exact e) hp.ok hp.inv hO
 have hTer : T.1 ≠ 0 → T.2 = st := fun e => by rw [hT0] at e ⊢; exact LM.take_err e
 have hTh : hasQ T.2.qs q0 = true := by rw [hT0, LM.take_has]; exact hqt
 rw [← hT0, ← hm] at hTk
 rw [← hT0]
 have HTk := Lib.hid hTk
 have H := Lib.hid (And.intro h1 (And.intro hD (And.intro hTk3 (And.intro hTa (And.intro hTh (And.intro e2 (And.intro hl (And.intro hA hTer))))))))
 have HM := Lib.hid (And.intro hm hver)
 obtain ⟨Te, hTe⟩ : ∃ Te, Te = T.1 := ⟨_, rfl⟩
 rw [← hTe] at HTk ⊢
 have HTe := Lib.hid hTe
 clear hFi h1 hD hac hver hm hnq e1 e2 hq hq2 hqt hTk hT0 hTk3 hTa hTh hl hA hO hD8 hTe hTer
 by_cases hTz : Te ≠ 0
 ·rw [if_pos hTz]
  have t9 : (Te != 0) = true := by simp [hTz]
  have HTz := Lib.hid hTz
  clear hTz
  go_enter Tryz.func31, Tryz.ntmps31
  go_wp2_with (first | (go_at_call 74; refine HFi.out.mono ?_; rintro e w' ⟨rfl, rfl⟩) | (go_at_call 75; refine HTk.out.mono ?_; rintro e w2 ⟨rfl, hn2⟩))
  go_ret
  refine ⟨rfl, ?_⟩
  have h9 := RLNext.rnext H.out.2.1 hn2
  rw [H.out.2.2.2.2.2.2.2.2 (by rw [← HTe.out]; exact HTz.out)] at h9
  exact h9
 rw [if_neg hTz]
 obtain rfl : Te = 0 := Classical.not_not.1 hTz
 clear hTz
 have t9 : ((0 : Int) != 0) = false := rfl
 obtain ⟨i0, hi, hz0, hz1, hz2⟩ := info_parts info_hold
 obtain ⟨j0, gi, gz0, gz1, gz2⟩ := info_parts info_slot
 obtain ⟨N, hN⟩ : ∃ N, N = L.length := ⟨_, rfl⟩
 rw [← hN] at hL
 have HLn := Lib.hid hN.symm
 have HWf := Lib.hid (And.intro hid (And.intro hqw hun))
 clear hN hid hqw hun c1 c3 f0
 obtain ⟨_, c1, _, c3⟩ := H.out.1.own
 rw [← HM.out.2] at c3
 obtain ⟨ca', cb', hac⟩ := H.out.1.acc
 have f0 : w.cell? ⟨ra, 0, none⟩ = some (.slice (some ⟨a, 0, none⟩) st.qs.length ca') := cell_blk (i := 0) hac.obj rfl
 have hnq := HNq.out
 rw [← hnq] at f0
 clear hac hnq
 go_enter Tryz.func31, Tryz.ntmps31
 go_wp2_with (first | (go_at_call 74; refine HFi.out.mono ?_; rintro e w' ⟨rfl, rfl⟩) | (go_at_call 75; refine HTk.out.mono ?_; rintro e w2 ⟨rfl, q2, tk2, db2, h2, hf2, y1, y2, y3⟩; have d2 := h2.own.2.2.1; rw [HLn.out] at d2; have HH2 := Lib.hid h2; have HF2 := Lib.hid (And.intro hf2 (And.intro y1 (And.intro y2 y3))); have hbk := h2.blk; rw [HLn.out, H.out.2.2.1.2.1, ← HM.out.2] at hbk; have HR2 := Lib.hid hbk; clear hbk h2 hf2 y1 y2 y3 c1 c3 f0))
 have hHs : L.map (·.h) = st.hs := by rw [HH2.out.hs]; exact H.out.2.2.1.1
 have HHs := Lib.hid hHs
 have l_r0 : r < w2.heap.size := HH2.out.lts.1
 have hNc : N ≤ c := by rw [← HLn.out]; exact own_cap HH2.out.row
 have hf2s : w.heap.size ≤ w2.heap.size := HF2.out.1.size
 have hSl2 : Slots w2 w2.heap.size A' sl := Slots.foot H.out.2.2.2.2.2.2.1 HF2.out.1 fun hne g o e hb => H.out.2.2.2.2.2.2.2.1 hne g o e (H.out.2.1 g (.inl (by rcases hb with rfl | rfl | rfl | rfl | rfl <;> simp)))
 have HSl2 := Lib.hid hSl2
 clear hHs hSl2
 go_loop [14] (fun i => ∃ k : Nat, i = .int .i64 k ∧ k ≤ N ∧ Hid (∀ (j : Nat) (g : Hd), j < k → st.hs[j]? = some g → g.id < id)) (fun i => N - (intOf i).toNat)
 case atStart => exact ⟨0, rfl, by omega, Lib.hid fun j g hj _ => by omega⟩
 case round =>
  obtain ⟨k, rfl, hkN, hLow⟩ := hrel
  by_cases hlt : k < N
  ·have hk1 : T.2.hs[k]? = some (L[k]'(by rw [HLn.out]; exact hlt)).h := by rw [H.out.2.2.1.1, ← HHs.out, List.getElem?_map, List.getElem?_eq_getElem]; rfl
   obtain ⟨x, G, hx, hxg, hAe, hG, hxc, hfz, hGr, hkL⟩ := HH2.out.hold hk1
   subst hAe
   have f0 := hxc 0 _ rfl
   rw [Nat.add_zero] at f0
   have hxk : st.hs[k]? = some x.h := by rw [← HHs.out, List.getElem?_map, hx]; rfl
   obtain ⟨xi, hxi⟩ : ∃ v, v = x.h.id := ⟨_, rfl⟩
   rw [← hxi] at f0
   have HX := Lib.hid (And.intro hxk hxi)
   have j1 : (k : Int) < (N : Int) := by omega
   have t1x : decide (k < N) = true := decide_eq_true hlt
   clear hk1 hx hxg hG hxc hfz hGr hkL hxk hxi
   by_cases hlo : xi < id
   ·have t2x : decide (xi < id) = true := decide_eq_true hlo
    have hLow2 : Hid (∀ (j : Nat) (g : Hd), j < k + 1 → st.hs[j]? = some g → g.id < id) := Lib.hid fun j g hj hg => by
     by_cases e : j = k
     ·subst e; rw [HX.out.1] at hg; cases hg; rw [← HX.out.2]; exact hlo
     ·exact hLow.out j g (by omega) hg
    clear hlo
    go_wp2
    go_round
    case rel => exact ⟨k + 1, by go_num, by omega, hLow2⟩
    case measure => simp [intOf]; omega
   ·have t2x : decide (xi < id) = false := decide_eq_false hlo
    have hStop := Lib.hid (show ∀ g, st.hs[k]? = some g → ¬ g.id < id from fun g hg => by rw [HX.out.1] at hg; cases hg; rw [← HX.out.2]; exact hlo)
    clear hlo
    go_wp2_with (at_builtin; refine wpList_append_els (C := slC) (k := 4) _ rfl _ _ 42 rfl w2.heap.size 41 j0 _ 32 Tryz.underlying42 gi gz0 gz1 gz2 rfl (by decide) (.slice (some ⟨w2.heap.size, 0, none⟩) 0 0) 0 [] rfl (World.ownsRow_lit w2 #[] 0 (Nat.le_refl _) (by unfold maxLen; omega) rfl) w2.heap.size A' c' m sl rfl (Els.keep (slots_els HSl2.out) ((Below.refl w2.heap.size w2).alloc (Nat.le_refl _) _) (Nat.le_refl _)) HM.out.1 slC_len1 slC_one (by unfold maxLen; omega) (by omega) (by simp) ?_; intro A4 c4 w4 own4 g4 k4; rw [Nat.zero_add, List.nil_append] at own4; rw [Nat.zero_add])
    have hB4 : Below w2.heap.size w2 w4 := ((Below.refl w2.heap.size w2).alloc (Nat.le_refl _) _).grown g4 (by simp) (fun i e => by have e : some w2.heap.size = some i := e; injection e with e; omega)
    have hs4 := hB4.size
    obtain ⟨w5, hw5⟩ : ∃ W, W = w4.alloc (.cells #[.int .i64 id, .int .i64 q0, .int .i64 un, .bool false, .slice A4 m c4] 44) := ⟨_, rfl⟩
    rw [← hw5]
    have hB5 : Below w2.heap.size w2 w5 := by rw [hw5]; exact hB4.alloc hs4 _
    have hB45 : Below w4.heap.size w4 w5 := by rw [hw5]; exact (Below.refl _ _).alloc (Nat.le_refl _) _
    have hz5 : w5.heap.size = w4.heap.size + 1 := by rw [hw5]; simp
    obtain ⟨bx, hbx⟩ : ∃ N, N = w4.heap.size := ⟨_, rfl⟩
    have hbb : w5.heap[bx]? = some (.cells #[.int .i64 id, .int .i64 q0, .int .i64 un, .bool false, .slice A4 m c4] 44 (0, 0)) := by rw [hw5, hbx]; exact heap_alloc_new w4 _
    rw [← hbx]
    obtain ⟨e0, e1, e2, e3, e4, _, _, _, _, _, l_bx⟩ := blk5 hbb
    have l_r : r < w5.heap.size := by omega
    have HRW := Lib.hid ((hB5.block r l_r0).trans HR2.out)
    replace d2 := (hB5.cell (p := ⟨r, 2, none⟩) l_r0).trans d2
    have hkc : k ≤ c := by omega
    have HLk := Lib.hid (els_hs_to ((els_own (C := hsC) hsC_len (l := L) HH2.out.row rfl).1.keep hB5 hB5.size) k c (by rw [HLn.out]; exact hNc))
    have HRk := Lib.hid (els_hs_from ((els_own (C := hsC) hsC_len (l := L) HH2.out.row rfl).1.keep hB5 hB5.size) k c (by rw [HLn.out]; exact hNc))
    have HLkl := Lib.hid (show k = (L.take k).length by rw [List.length_take, HLn.out]; omega)
    have HRkl := Lib.hid (show N - k = (L.drop k).length by rw [List.length_drop, HLn.out])
    have HBX := Lib.hid (fun (V : World) (p : Nat) (h : V.heap[p]? = some (.cells #[.int .i64 id, .int .i64 q0, .int .i64 un, .bool false, .slice A4 m c4] 44 (0, 0))) => show Els hsC 5 V V.heap.size (some ⟨p, 0, none⟩) [(⟨⟨id, q0, un, false, sl⟩, A4, c4⟩ : Hs)] from els_blk hsC_len h fun j v hj => by
     have hj : ([.int .i64 id, .int .i64 q0, .int .i64 un, .bool false, .slice A4 sl.length c4] : List Value)[j]? = some v := hj
     rw [← HM.out.1] at hj
     simpa using hj)
    have HFin := Lib.hid (show ∀ (wz : World) (A10 : Option Addr) (c10 : Nat), Below w5.heap.size w5 wz → wz.ownsRow w5.heap.size 44 5 (.slice A10 (N + 1) c10) (N + 1) ((L.take k ++ [(⟨⟨id, q0, un, false, sl⟩, A4, c4⟩ : Hs)] ++ L.drop k).flatMap hsC) →
      RNext w ((wz.setCell ⟨r, 2, none⟩ (.slice A10 (N + 1) c10)).setCell ⟨r, 3, none⟩ (.int .i64 ((ver : Int) + 1))) r D fs (LM.up { T.2 with hs := LM.ins ⟨id, q0, un, false, sl⟩ st.hs }) from fun wz A10 c10 hbz hrow => by
     have hW := HH2.out.keep hB5
     have hLl : (L.take k ++ [(⟨⟨id, q0, un, false, sl⟩, A4, c4⟩ : Hs)] ++ L.drop k).length = N + 1 := by
      rw [List.length_append, List.length_append, ← HLkl.out, ← HRkl.out]; simp; omega
     obtain ⟨W', hW'⟩ : ∃ W', W' = (wz.setCell ⟨r, 2, none⟩ (.slice A10 (N + 1) c10)).setCell ⟨r, 3, none⟩ (.int .i64 ((ver : Int) + 1)) := ⟨_, rfl⟩
     rw [← hW']
     have hfW : Foot (· = r) w5 W' := by rw [hW']; exact ((Foot.of_below hbz).setCell (F := (· = r)) (p := ⟨r, 2, none⟩) (.inl rfl) _).setCell (p := ⟨r, 3, none⟩) (.inl rfl) _
     have hA4 : ∀ g o, A4 = some ⟨g, o, none⟩ → w2.heap.size ≤ g ∧ g < w4.heap.size := fun g o e => by
      subst e
      exact own4.lt g rfl
     have hs4' : Slots w4 w4.heap.size A4 sl := own_slots (c := c4) (by rw [← HM.out.1]; exact own4)
     have hs5' := Slots.keep hs4' hB45 hB45.size
     have hsW : Slots W' W'.heap.size A4 sl := hs5'.off2 hfW.size fun g o e hg => hfW.block g hg fun e2 => by have := (hA4 g o e).1; omega
     have hA10 : ∀ g o, A10 = some ⟨g, o, none⟩ → w5.heap.size ≤ g := fun g o e => by
      subst e
      exact (hrow.lt g rfl).1
     have hno : ∀ g, w2.heap.size ≤ g → g ∉ [r, q2, al, tk2, db2, ra, a, b] := fun g hg hm => by
      have := HH2.out.lts
      simp only [List.mem_cons, List.not_mem_nil, or_false] at hm
      omega
     have hsi := H.out.2.2.2.1 HTe.out.symm
     have hls : 1 ≤ sl.length ∧ sl.length ≤ 16 := by rw [← HM.out.1]; exact hm2
     have hok : LOk (LM.up { T.2 with hs := LM.ins ⟨id, q0, un, false, sl⟩ st.hs }) := by
      have h8 := LOk.ins HH2.out.ok (g := ⟨id, q0, un, false, sl⟩) (by rw [H.out.2.2.1.1]; exact H.out.2.2.2.2.2.1) ⟨HWf.out.1, HWf.out.2.1, HWf.out.2.2, hls.1, hls.2, hsi⟩ H.out.2.2.2.2.1
      rw [H.out.2.2.1.1] at h8
      exact h8
     have h9 := hW.rowed2 (st' := LM.up { T.2 with hs := LM.ins ⟨id, q0, un, false, sl⟩ st.hs }) (w' := W') (A' := A10) (c' := c10) (L' := L.take k ++ [(⟨⟨id, q0, un, false, sl⟩, A4, c4⟩ : Hs)] ++ L.drop k) hfW (by
       have e9 : (((LM.up { T.2 with hs := LM.ins ⟨id, q0, un, false, sl⟩ st.hs }).ver : Nat) : Int) = (ver : Int) + 1 := by
        show (((T.2.ver + 1 : Nat)) : Int) = _
        rw [H.out.2.2.1.2.1, ← HM.out.2]; simp
       rw [hLl, e9, hW']
       exact blk_put (i := 3) _ (blk_put (i := 2) _ ((hbz.block r l_r).trans HRW.out))) rfl rfl rfl (by
       rw [hLl, hW']
       exact own_stays hrow fun i hi => by
        have h8 := (hrow.lt i hi).1
        exact (Below.heap_setCell _ _ _ _ (show i ≠ r by omega)).trans (Below.heap_setCell _ _ _ _ (show i ≠ r by omega))) (by
       show _ = LM.ins _ st.hs
       rw [LM.ins_at (k := k) (by rw [← HHs.out, List.length_map, HLn.out]; exact hkN) hLow.out (fun g hg => by have := hStop.out g hg; show ¬ g.id < id; omega), ← HHs.out, List.map_append, List.map_append, List.map_take, List.map_drop]
       rfl) hok (fun y hy => by
       rcases List.mem_append.1 hy with hy | hy
       ·rcases List.mem_append.1 hy with hy | hy
        ·exact .inl (List.mem_of_mem_take hy)
        ·rw [List.mem_singleton] at hy
         subst hy
         refine .inr ⟨hsW, fun g o e => ⟨hno g (hA4 g o e).1, fun o' e2 => ?_⟩⟩
         have h6 := (hA4 g o e).2
         have h7 := hA10 g o' e2
         omega
       ·exact .inl (List.mem_of_mem_drop hy)) (fun y hy => by
       rcases List.mem_append.1 hy with hy | hy
       ·rcases List.mem_append.1 hy with hy | hy
        ·exact .inl (List.mem_of_mem_take hy)
        ·rw [List.mem_singleton] at hy
         subst hy
         exact .inr (by show sl.length ≤ c4; rw [← HM.out.1]; exact own_cap own4)
       ·exact .inl (List.mem_of_mem_drop hy))
     have hD8 : ∀ i, i ∈ [r, q, al, tk, db, ra, a, b] → D i := fun i hi => H.out.2.1 i (.inl hi)
     have hs5 := hB5.size
     refine RNext.of h9 (((HF2.out.1.mono fun i hi => hD8 i (by rcases hi with rfl | rfl | rfl | rfl | rfl <;> simp)).trans (Foot.of_below (F := fun _ => False) hB5) fun i hi => hi.elim).trans hfW fun i hi => .inl (hD8 i (by rw [hi]; simp))) fun i hi => ?_
     rcases hi with hi | ⟨o, e⟩ | ⟨y, hy, o, e⟩
     ·obtain ⟨y1, y2, y3⟩ := HF2.out.2
      simp only [List.mem_cons, List.not_mem_nil, or_false] at hi
      rcases hi with rfl | rfl | rfl | rfl | rfl | rfl | rfl | rfl
      ·exact .inl (hD8 _ (by simp))
      ·rcases y1 with rfl | y1
       ·exact .inl (hD8 _ (by simp))
       ·exact .inr y1
      ·exact .inl (hD8 _ (by simp))
      ·rcases y2 with rfl | y2
       ·exact .inl (hD8 _ (by simp))
       ·exact .inr y2
      ·rcases y3 with rfl | y3
       ·exact .inl (hD8 _ (by simp))
       ·exact .inr y3
      ·exact .inl (hD8 _ (by simp))
      ·exact .inl (hD8 _ (by simp))
      ·exact .inl (hD8 _ (by simp))
     ·have := hA10 i o e
      exact .inr (by omega)
     ·rcases List.mem_append.1 hy with hy | hy
      ·rcases List.mem_append.1 hy with hy | hy
       ·exact .inl (H.out.2.1 i (.inr (.inr ⟨y, List.mem_of_mem_take hy, o, e⟩)))
       ·rw [List.mem_singleton] at hy
        subst hy
        have := (hA4 i o e).1
        exact .inr (by omega)
      ·exact .inl (H.out.2.1 i (.inr (.inr ⟨y, List.mem_of_mem_drop hy, o, e⟩))))
    have OwnS := Lib.hid own4
    clear own4 g4 k4 hB4 hB5 hB45 hbb hbx hw5
    go_wp2_with fail
    refine wp_until (fun w' : World => w'.cell? ⟨r, 2, none⟩ = some (.slice (some ⟨G, 0, none⟩) N c) ∧ w'.cell? ⟨bx, 0, none⟩ = some (.int .i64 id) ∧ w'.cell? ⟨bx, 1, none⟩ = some (.int .i64 q0) ∧ w'.cell? ⟨bx, 2, none⟩ = some (.int .i64 un) ∧ w'.cell? ⟨bx, 3, none⟩ = some (.bool false) ∧ w'.cell? ⟨bx, 4, none⟩ = some (.slice A4 m c4)) 21 (by kernel_rfl) ?_
    have hBz0 : Below w5.heap.size w5 w5.drew := (Below.refl _ _).drew
    have hSz0 : (fun w' : World => w'.cell? ⟨r, 2, none⟩ = some (.slice (some ⟨G, 0, none⟩) N c) ∧ w'.cell? ⟨bx, 0, none⟩ = some (.int .i64 id) ∧ w'.cell? ⟨bx, 1, none⟩ = some (.int .i64 q0) ∧ w'.cell? ⟨bx, 2, none⟩ = some (.int .i64 un) ∧ w'.cell? ⟨bx, 3, none⟩ = some (.bool false) ∧ w'.cell? ⟨bx, 4, none⟩ = some (.slice A4 m c4)) w5.drew := ⟨d2, e0, e1, e2, e3, e4⟩
    generalize w5.drew = wz0 at hBz0 hSz0 ⊢
    have szz0 := hBz0.size
    refine until_take (v := ?_) 0 83 rfl rfl (by kernel_rfl) (by kernel_rfl) (by kernel_rfl) (by kernel_rfl) (fun _ _ _ h => h) ⟨by rfl, ?_⟩ hSz0 ?_
    rotate_left
    ·intro w' hw'; obtain ⟨x0, x1, x2, x3, x4, x5⟩ := hw'; go_simp; (try with_reducible rfl)
    simp only [Act.put, pzA, pzB, pzC]
    refine until_take (v := ?_) 2 85 rfl rfl (by kernel_rfl) (by kernel_rfl) (by kernel_rfl) (by kernel_rfl) (fun _ _ _ h => h) ⟨by rfl, ?_⟩ hSz0 ?_
    rotate_left
    ·intro w' hw'; obtain ⟨x0, x1, x2, x3, x4, x5⟩ := hw'; go_simp; (try with_reducible rfl)
    simp only [Act.put, pzA, pzB, pzC]
    refine until_take (v := ?_) 3 86 rfl rfl (by kernel_rfl) (by kernel_rfl) (by kernel_rfl) (by kernel_rfl) (fun _ _ _ h => h) ⟨by rfl, ?_⟩ hSz0 ?_
    rotate_left
    ·intro w' hw'; obtain ⟨x0, x1, x2, x3, x4, x5⟩ := hw'; go_simp; (try with_reducible rfl)
    simp only [Act.put, pzA, pzB, pzC]
    refine until_take (v := ?_) 4 87 rfl rfl (by kernel_rfl) (by kernel_rfl) (by kernel_rfl) (by kernel_rfl) (fun _ _ _ h => h) ⟨by rfl, ?_⟩ hSz0 ?_
    rotate_left
    ·intro w' hw'; obtain ⟨x0, x1, x2, x3, x4, x5⟩ := hw'; go_simp; (try with_reducible rfl)
    simp only [Act.put, pzA, pzB, pzC]
    refine until_take (v := ?_) 5 88 rfl rfl (by kernel_rfl) (by kernel_rfl) (by kernel_rfl) (by kernel_rfl) (fun _ _ _ h => h) ⟨by rfl, ?_⟩ hSz0 ?_
    rotate_left
    ·intro w' hw'; obtain ⟨x0, x1, x2, x3, x4, x5⟩ := hw'; go_simp; (try with_reducible rfl)
    simp only [Act.put, pzA, pzB, pzC]
    refine until_take (v := ?_) 6 89 rfl rfl (by kernel_rfl) (by kernel_rfl) (by kernel_rfl) (by kernel_rfl) (fun _ _ _ h => h) ⟨by rfl, ?_⟩ hSz0 ?_
    rotate_left
    ·intro w' hw'; obtain ⟨x0, x1, x2, x3, x4, x5⟩ := hw'; go_simp; (try with_reducible rfl)
    simp only [Act.put, pzA, pzB, pzC]
    refine until_take (v := ?_) 7 90 rfl rfl (by kernel_rfl) (by kernel_rfl) (by kernel_rfl) (by kernel_rfl) (fun _ _ _ h => h) ⟨by rfl, ?_⟩ hSz0 ?_
    rotate_left
    ·intro w' hw'; obtain ⟨x0, x1, x2, x3, x4, x5⟩ := hw'; refine Eq.trans (run_hs_to (k := k) (by rfl) (by rfl) (by rfl) hkc) ?_; (with_reducible rfl)
    simp only [Act.put, pzA, pzB, pzC]
    refine until_take (v := ?_) 9 92 rfl rfl (by kernel_rfl) (by kernel_rfl) (by kernel_rfl) (by kernel_rfl) (fun _ _ _ h => h) ⟨by rfl, ?_⟩ hSz0 ?_
    rotate_left
    ·intro w' hw'; obtain ⟨x0, x1, x2, x3, x4, x5⟩ := hw'; refine Eq.trans (run_load_hv (by rfl) (by rfl) rfl (clsat5 x1 x2 x3 x4 x5)) ?_; (with_reducible rfl)
    simp only [Act.put, pzA, pzB, pzC]
    refine until_take (v := ?_) 12 95 rfl rfl (by kernel_rfl) (by kernel_rfl) (by kernel_rfl) (by kernel_rfl) (fun _ _ _ h => h) ⟨by rfl, ?_⟩ hSz0 ?_
    rotate_left
    ·intro w' hw'; obtain ⟨x0, x1, x2, x3, x4, x5⟩ := hw'; go_simp; (try with_reducible rfl)
    simp only [Act.put, pzA, pzB, pzC]
    refine until_take (v := ?_) 13 96 rfl rfl (by kernel_rfl) (by kernel_rfl) (by kernel_rfl) (by kernel_rfl) (fun _ _ _ h => h) ⟨by rfl, ?_⟩ hSz0 ?_
    rotate_left
    ·intro w' hw'; obtain ⟨x0, x1, x2, x3, x4, x5⟩ := hw'; go_simp; (try with_reducible rfl)
    simp only [Act.put, pzA, pzB, pzC]
    refine until_take (v := ?_) 14 97 rfl rfl (by kernel_rfl) (by kernel_rfl) (by kernel_rfl) (by kernel_rfl) (fun _ _ _ h => h) ⟨by rfl, ?_⟩ hSz0 ?_
    rotate_left
    ·intro w' hw'; obtain ⟨x0, x1, x2, x3, x4, x5⟩ := hw'; go_simp; (try with_reducible rfl)
    simp only [Act.put, pzA, pzB, pzC]
    refine until_take (v := ?_) 15 98 rfl rfl (by kernel_rfl) (by kernel_rfl) (by kernel_rfl) (by kernel_rfl) (fun _ _ _ h => h) ⟨by rfl, ?_⟩ hSz0 ?_
    rotate_left
    ·intro w' hw'; obtain ⟨x0, x1, x2, x3, x4, x5⟩ := hw'; go_simp; (try with_reducible rfl)
    simp only [Act.put, pzA, pzB, pzC]
    refine until_take (v := ?_) 16 99 rfl rfl (by kernel_rfl) (by kernel_rfl) (by kernel_rfl) (by kernel_rfl) (fun _ _ _ h => h) ⟨by rfl, ?_⟩ hSz0 ?_
    rotate_left
    ·intro w' hw'; obtain ⟨x0, x1, x2, x3, x4, x5⟩ := hw'; go_simp; (try with_reducible rfl)
    simp only [Act.put, pzA, pzB, pzC]
    refine until_take (v := ?_) 17 100 rfl rfl (by kernel_rfl) (by kernel_rfl) (by kernel_rfl) (by kernel_rfl) (fun _ _ _ h => h) ⟨by rfl, ?_⟩ hSz0 ?_
    rotate_left
    ·intro w' hw'; obtain ⟨x0, x1, x2, x3, x4, x5⟩ := hw'; refine Eq.trans (run_hs_from (k := k) (by rfl) (by rfl) (by rfl) hkN) ?_; (with_reducible rfl)
    simp only [Act.put, pzA, pzB, pzC]
    refine until_two 1 10 rfl rfl (by kernel_rfl) rfl rfl (fun K hK => ?_) (fun K hK => ?_)
    ·go_simp
     obtain ⟨wza, hwza⟩ : ∃ wld9, wld9 = wz0.alloc (.cells #[] 44) := ⟨_, rfl⟩
     have hBwza : Below w5.heap.size w5 wza := by rw [hwza]; exact hBz0.alloc hBz0.size _
     have szwza := hBwza.size
     have stwza : wz0.heap.size < wza.heap.size := by rw [hwza]; simp
     have bbwza : Below wz0.heap.size wz0 wza := by rw [hwza]; exact (Below.refl _ _).alloc (Nat.le_refl _) _
     have ownE : wza.ownsRow w5.heap.size 44 5 (.slice (some ⟨wz0.heap.size, 0, none⟩) 0 0) 0 [] := by rw [hwza]; exact World.ownsRow_lit wz0 #[] 0 (by have := hBz0.size; omega) (by unfold maxLen; omega) rfl
     have hSwza : (fun w' : World => w'.cell? ⟨r, 2, none⟩ = some (.slice (some ⟨G, 0, none⟩) N c) ∧ w'.cell? ⟨bx, 0, none⟩ = some (.int .i64 id) ∧ w'.cell? ⟨bx, 1, none⟩ = some (.int .i64 q0) ∧ w'.cell? ⟨bx, 2, none⟩ = some (.int .i64 un) ∧ w'.cell? ⟨bx, 3, none⟩ = some (.bool false) ∧ w'.cell? ⟨bx, 4, none⟩ = some (.slice A4 m c4)) wza := ⟨(hBwza.cell (p := ⟨r, 2, none⟩) (l_r)).trans d2, (hBwza.cell (p := ⟨bx, 0, none⟩) (l_bx)).trans e0, (hBwza.cell (p := ⟨bx, 1, none⟩) (l_bx)).trans e1, (hBwza.cell (p := ⟨bx, 2, none⟩) (l_bx)).trans e2, (hBwza.cell (p := ⟨bx, 3, none⟩) (l_bx)).trans e3, (hBwza.cell (p := ⟨bx, 4, none⟩) (l_bx)).trans e4⟩
     rw [← hwza]
     refine hK.out _ _ (fun _ => hSwza) ?_
     clear hK K hwza
     try simp only [Act.put, pzA, pzB, pzC]
     refine until_two 8 10 rfl rfl (by kernel_rfl) rfl rfl (fun K hK => ?_) (fun K hK => ?_)
     ·simp only [Go.wp_at_zero, Go.wp_at_succ]
      refine wp_append_els (C := hsC) (k := 5) _ _ _ 60 rfl w5.heap.size 44 i0 _ 56 Tryz.underlying60 hi hz0 hz1 hz2 rfl (by decide) (.slice (some ⟨wz0.heap.size, 0, none⟩) 0 0) 0 [] rfl ownE w5.heap.size (atHs (some ⟨G, 0, none⟩) 0 c) c k (L.take k) rfl (Els.keep HLk.out (hBwza) (Nat.le_refl _)) HLkl.out hsC_len hsC_one (by unfold maxLen; omega) (by omega) (by omega) ?_
      intro A5 c5 wzb own5 gwzb kwzb
      rw [Nat.zero_add] at own5 ⊢
      rw [List.nil_append] at own5
      have hob : ∀ j, (Value.slice (some ⟨wz0.heap.size, 0, none⟩) 0 0).ownBlock = some j → j = wz0.heap.size := fun j hj => by simpa [Value.ownBlock] using hj.symm
      have hBwzb : Below w5.heap.size w5 wzb := hBwza.grown gwzb (by omega) (fun j hj => by have := hob j hj; omega)
      have szwzb := hBwzb.size
      have stwzb := gwzb.size
      have hSwzb : (fun w' : World => w'.cell? ⟨r, 2, none⟩ = some (.slice (some ⟨G, 0, none⟩) N c) ∧ w'.cell? ⟨bx, 0, none⟩ = some (.int .i64 id) ∧ w'.cell? ⟨bx, 1, none⟩ = some (.int .i64 q0) ∧ w'.cell? ⟨bx, 2, none⟩ = some (.int .i64 un) ∧ w'.cell? ⟨bx, 3, none⟩ = some (.bool false) ∧ w'.cell? ⟨bx, 4, none⟩ = some (.slice A4 m c4)) wzb := ⟨(hBwzb.cell (p := ⟨r, 2, none⟩) (l_r)).trans d2, (hBwzb.cell (p := ⟨bx, 0, none⟩) (l_bx)).trans e0, (hBwzb.cell (p := ⟨bx, 1, none⟩) (l_bx)).trans e1, (hBwzb.cell (p := ⟨bx, 2, none⟩) (l_bx)).trans e2, (hBwzb.cell (p := ⟨bx, 3, none⟩) (l_bx)).trans e3, (hBwzb.cell (p := ⟨bx, 4, none⟩) (l_bx)).trans e4⟩
      refine hK.out _ _ (fun _ => hSwzb) ?_
      clear hK K
      try simp only [Act.put, pzA, pzB, pzC]
      have Own5 := Lib.hid own5
      clear own5 gwzb kwzb hob
      refine until_one 10 rfl (by kernel_rfl) rfl (fun K hK => ?_)
      go_simp
      obtain ⟨wzc, hwzc⟩ : ∃ wld9, wld9 = wzb.alloc (.cells #[.int .i64 id, .int .i64 q0, .int .i64 un, .bool false, .slice A4 m c4] 44) := ⟨_, rfl⟩
      have hBwzc : Below w5.heap.size w5 wzc := by rw [hwzc]; exact hBwzb.alloc hBwzb.size _
      have szwzc := hBwzc.size
      have stwzc : wzb.heap.size < wzc.heap.size := by rw [hwzc]; simp
      have bbwzc : Below wzb.heap.size wzb wzc := by rw [hwzc]; exact (Below.refl _ _).alloc (Nat.le_refl _) _
      have elsB : Els hsC 5 wzc wzc.heap.size (some ⟨wzb.heap.size, 0, none⟩) [(⟨⟨id, q0, un, false, sl⟩, A4, c4⟩ : Hs)] := HBX.out wzc wzb.heap.size (by rw [hwzc]; exact heap_alloc_new _ _)
      have hSwzc : (fun w' : World => w'.cell? ⟨r, 2, none⟩ = some (.slice (some ⟨G, 0, none⟩) N c) ∧ w'.cell? ⟨bx, 0, none⟩ = some (.int .i64 id) ∧ w'.cell? ⟨bx, 1, none⟩ = some (.int .i64 q0) ∧ w'.cell? ⟨bx, 2, none⟩ = some (.int .i64 un) ∧ w'.cell? ⟨bx, 3, none⟩ = some (.bool false) ∧ w'.cell? ⟨bx, 4, none⟩ = some (.slice A4 m c4)) wzc := ⟨(hBwzc.cell (p := ⟨r, 2, none⟩) (l_r)).trans d2, (hBwzc.cell (p := ⟨bx, 0, none⟩) (l_bx)).trans e0, (hBwzc.cell (p := ⟨bx, 1, none⟩) (l_bx)).trans e1, (hBwzc.cell (p := ⟨bx, 2, none⟩) (l_bx)).trans e2, (hBwzc.cell (p := ⟨bx, 3, none⟩) (l_bx)).trans e3, (hBwzc.cell (p := ⟨bx, 4, none⟩) (l_bx)).trans e4⟩
      rw [← hwzc]
      refine hK.out _ _ (fun _ => hSwzc) ?_
      clear hK K hwzc
      try simp only [Act.put, pzA, pzB, pzC]
      have own5 := own_keep Own5.out bbwzc
      refine until_one 11 rfl (by kernel_rfl) rfl (fun K hK => ?_)
      simp only [Go.wp_at_zero, Go.wp_at_succ]
      refine wp_append_els (C := hsC) (k := 5) _ _ _ 60 rfl w5.heap.size 44 i0 _ 56 Tryz.underlying60 hi hz0 hz1 hz2 rfl (by decide) (.slice A5 k c5) k _ rfl own5 _ (some ⟨wzb.heap.size, 0, none⟩) 1 1 [(⟨⟨id, q0, un, false, sl⟩, A4, c4⟩ : Hs)] rfl elsB rfl hsC_len hsC_one (by unfold maxLen; omega) (by omega) (by omega) ?_
      intro A7 c7 wz9 own7 g7 k7
      have hob5 : ∀ j, (Value.slice A5 k c5).ownBlock = some j → w5.heap.size ≤ j := fun j hj => (own5.lt j hj).1
      have hBwz9 : Below w5.heap.size w5 wz9 := hBwzc.grown g7 (by omega) (fun j hj => by have := hob5 j hj; omega)
      have hSwz9 : (fun w' : World => w'.cell? ⟨r, 2, none⟩ = some (.slice (some ⟨G, 0, none⟩) N c) ∧ w'.cell? ⟨bx, 0, none⟩ = some (.int .i64 id) ∧ w'.cell? ⟨bx, 1, none⟩ = some (.int .i64 q0) ∧ w'.cell? ⟨bx, 2, none⟩ = some (.int .i64 un) ∧ w'.cell? ⟨bx, 3, none⟩ = some (.bool false) ∧ w'.cell? ⟨bx, 4, none⟩ = some (.slice A4 m c4)) wz9 := ⟨(hBwz9.cell (p := ⟨r, 2, none⟩) (l_r)).trans d2, (hBwz9.cell (p := ⟨bx, 0, none⟩) (l_bx)).trans e0, (hBwz9.cell (p := ⟨bx, 1, none⟩) (l_bx)).trans e1, (hBwz9.cell (p := ⟨bx, 2, none⟩) (l_bx)).trans e2, (hBwz9.cell (p := ⟨bx, 3, none⟩) (l_bx)).trans e3, (hBwz9.cell (p := ⟨bx, 4, none⟩) (l_bx)).trans e4⟩
      refine hK.out _ _ (fun _ => hSwz9) ?_
      clear hK K
      try simp only [Act.put, pzA, pzB, pzC]
      have Own7 := Lib.hid own7
      clear own7 own5 g7 k7 hob5
      try clear hob
      try clear elsB
      try clear ElsB
      try clear Own5
      try clear OwnE
      try clear ownE
      try clear gwza kwza
      try clear gwzb kwzb
      try clear gwzc kwzc
      refine until_one 18 rfl (by kernel_rfl) rfl (fun K hK => ?_)
      simp only [Go.wp_at_zero, Go.wp_at_succ]
      have own7 := Own7.out
      have sz9 := hBwz9.size
      refine wp_append_els (C := hsC) (k := 5) _ _ _ 60 rfl w5.heap.size 44 i0 _ 56 Tryz.underlying60 hi hz0 hz1 hz2 rfl (by decide) (.slice A7 (k + 1) c7) (k + 1) _ rfl own7 _ (atHs (some ⟨G, 0, none⟩) k c) (c - k) (N - k) (L.drop k) rfl (HRk.out.keep hBwz9 hBwz9.size) HRkl.out hsC_len hsC_one (by unfold maxLen; omega) (by omega) (by omega) ?_
      intro A10 c10 w10 own10 g10 k10
      have hkN1 : k + 1 + (N - k) = N + 1 := by omega
      rw [hkN1] at own10 ⊢
      have hB10 : Below w5.heap.size w5 w10 := hBwz9.grown g10 (by omega) (fun j hj => (own7.lt j hj).1)
      have hS10 : (fun w' : World => w'.cell? ⟨r, 2, none⟩ = some (.slice (some ⟨G, 0, none⟩) N c) ∧ w'.cell? ⟨bx, 0, none⟩ = some (.int .i64 id) ∧ w'.cell? ⟨bx, 1, none⟩ = some (.int .i64 q0) ∧ w'.cell? ⟨bx, 2, none⟩ = some (.int .i64 un) ∧ w'.cell? ⟨bx, 3, none⟩ = some (.bool false) ∧ w'.cell? ⟨bx, 4, none⟩ = some (.slice A4 m c4)) w10 := ⟨(hB10.cell (p := ⟨r, 2, none⟩) (l_r)).trans d2, (hB10.cell (p := ⟨bx, 0, none⟩) (l_bx)).trans e0, (hB10.cell (p := ⟨bx, 1, none⟩) (l_bx)).trans e1, (hB10.cell (p := ⟨bx, 2, none⟩) (l_bx)).trans e2, (hB10.cell (p := ⟨bx, 3, none⟩) (l_bx)).trans e3, (hB10.cell (p := ⟨bx, 4, none⟩) (l_bx)).trans e4⟩
      have HFX := Lib.hid (HFin.out w10 A10 c10 hB10 (by rw [List.flatMap_append, List.flatMap_append]; exact own10))
      have z2 : w10.frozen? ⟨r, 2, none⟩ = false := frozen_blk ((hB10.block r l_r).trans HRW.out)
      have HR10 := Lib.hid ((hB10.block r l_r).trans HRW.out)
      refine hK.out _ _ (fun _ => hS10) ?_
      clear hK K own7 own10 g10 k10 sz9 hB10
      try simp only [Act.put, pzA, pzB, pzC]
      refine until_one 19 rfl (by kernel_rfl) rfl (fun K hK => ?_)
      go_simp
      refine hK.out _ _ (fun _ => hS10) ?_
      clear hK K
      try simp only [Act.put, pzA, pzB, pzC]
      refine until_one 20 rfl (by kernel_rfl) rfl (fun K hK => ?_)
      go_simp
      refine hK.out _ _ (fun _ => hS10) ?_
      clear hK K
      try simp only [Act.put, pzA, pzB, pzC]
      refine until_one 21 rfl (by kernel_rfl) rfl (fun K hK => ?_)
      go_simp
      refine hK.out _ _ (fun h => absurd h (by decide)) ?_
      clear hK K
      refine until_done (by kernel_rfl) ?_
      go_wp2_with fail
      refine (rdone_raw ver (blk_put (i := 2) (.slice A10 (N + 1) c10) HR10.out) (by omega)).mono ?_
      rintro e w12 ⟨rfl, rfl⟩
      go_wp2
      go_ret
      exact ⟨by first | rfl | trivial, HFX.out⟩

     ·have OwnE := Lib.hid ownE
      clear ownE
      go_simp
      obtain ⟨wzb, hwzb⟩ : ∃ wld9, wld9 = wza.alloc (.cells #[.int .i64 id, .int .i64 q0, .int .i64 un, .bool false, .slice A4 m c4] 44) := ⟨_, rfl⟩
      have hBwzb : Below w5.heap.size w5 wzb := by rw [hwzb]; exact hBwza.alloc hBwza.size _
      have szwzb := hBwzb.size
      have stwzb : wza.heap.size < wzb.heap.size := by rw [hwzb]; simp
      have bbwzb : Below wza.heap.size wza wzb := by rw [hwzb]; exact (Below.refl _ _).alloc (Nat.le_refl _) _
      have elsB : Els hsC 5 wzb wzb.heap.size (some ⟨wza.heap.size, 0, none⟩) [(⟨⟨id, q0, un, false, sl⟩, A4, c4⟩ : Hs)] := HBX.out wzb wza.heap.size (by rw [hwzb]; exact heap_alloc_new _ _)
      have hSwzb : (fun w' : World => w'.cell? ⟨r, 2, none⟩ = some (.slice (some ⟨G, 0, none⟩) N c) ∧ w'.cell? ⟨bx, 0, none⟩ = some (.int .i64 id) ∧ w'.cell? ⟨bx, 1, none⟩ = some (.int .i64 q0) ∧ w'.cell? ⟨bx, 2, none⟩ = some (.int .i64 un) ∧ w'.cell? ⟨bx, 3, none⟩ = some (.bool false) ∧ w'.cell? ⟨bx, 4, none⟩ = some (.slice A4 m c4)) wzb := ⟨(hBwzb.cell (p := ⟨r, 2, none⟩) (l_r)).trans d2, (hBwzb.cell (p := ⟨bx, 0, none⟩) (l_bx)).trans e0, (hBwzb.cell (p := ⟨bx, 1, none⟩) (l_bx)).trans e1, (hBwzb.cell (p := ⟨bx, 2, none⟩) (l_bx)).trans e2, (hBwzb.cell (p := ⟨bx, 3, none⟩) (l_bx)).trans e3, (hBwzb.cell (p := ⟨bx, 4, none⟩) (l_bx)).trans e4⟩
      rw [← hwzb]
      refine hK.out _ _ (fun _ => hSwzb) ?_
      clear hK K hwzb
      try simp only [Act.put, pzA, pzB, pzC]
      have ownE := own_keep OwnE.out bbwzb
      refine until_one 8 rfl (by kernel_rfl) rfl (fun K hK => ?_)
      simp only [Go.wp_at_zero, Go.wp_at_succ]
      refine wp_append_els (C := hsC) (k := 5) _ _ _ 60 rfl w5.heap.size 44 i0 _ 56 Tryz.underlying60 hi hz0 hz1 hz2 rfl (by decide) (.slice (some ⟨wz0.heap.size, 0, none⟩) 0 0) 0 [] rfl ownE w5.heap.size (atHs (some ⟨G, 0, none⟩) 0 c) c k (L.take k) rfl (Els.keep HLk.out (hBwzb) (Nat.le_refl _)) HLkl.out hsC_len hsC_one (by unfold maxLen; omega) (by omega) (by omega) ?_
      intro A5 c5 wzc own5 gwzc kwzc
      rw [Nat.zero_add] at own5 ⊢
      rw [List.nil_append] at own5
      have hob : ∀ j, (Value.slice (some ⟨wz0.heap.size, 0, none⟩) 0 0).ownBlock = some j → j = wz0.heap.size := fun j hj => by simpa [Value.ownBlock] using hj.symm
      have hBwzc : Below w5.heap.size w5 wzc := hBwzb.grown gwzc (by omega) (fun j hj => by have := hob j hj; omega)
      have szwzc := hBwzc.size
      have stwzc := gwzc.size
      have hSwzc : (fun w' : World => w'.cell? ⟨r, 2, none⟩ = some (.slice (some ⟨G, 0, none⟩) N c) ∧ w'.cell? ⟨bx, 0, none⟩ = some (.int .i64 id) ∧ w'.cell? ⟨bx, 1, none⟩ = some (.int .i64 q0) ∧ w'.cell? ⟨bx, 2, none⟩ = some (.int .i64 un) ∧ w'.cell? ⟨bx, 3, none⟩ = some (.bool false) ∧ w'.cell? ⟨bx, 4, none⟩ = some (.slice A4 m c4)) wzc := ⟨(hBwzc.cell (p := ⟨r, 2, none⟩) (l_r)).trans d2, (hBwzc.cell (p := ⟨bx, 0, none⟩) (l_bx)).trans e0, (hBwzc.cell (p := ⟨bx, 1, none⟩) (l_bx)).trans e1, (hBwzc.cell (p := ⟨bx, 2, none⟩) (l_bx)).trans e2, (hBwzc.cell (p := ⟨bx, 3, none⟩) (l_bx)).trans e3, (hBwzc.cell (p := ⟨bx, 4, none⟩) (l_bx)).trans e4⟩
      have elsB : Els hsC 5 wzc wzc.heap.size (some ⟨wza.heap.size, 0, none⟩) [(⟨⟨id, q0, un, false, sl⟩, A4, c4⟩ : Hs)] := (elsB.off (w' := wzc) fun b2 o2 e2 hb2 => gwzc.block b2 hb2 (fun e => by have := hob b2 e.symm; injection e2 with e2; injection e2 with e2; omega)).imp stwzc fun _ _ _ _ hd => hd
      refine hK.out _ _ (fun _ => hSwzc) ?_
      clear hK K
      try simp only [Act.put, pzA, pzB, pzC]
      refine until_one 11 rfl (by kernel_rfl) rfl (fun K hK => ?_)
      simp only [Go.wp_at_zero, Go.wp_at_succ]
      refine wp_append_els (C := hsC) (k := 5) _ _ _ 60 rfl w5.heap.size 44 i0 _ 56 Tryz.underlying60 hi hz0 hz1 hz2 rfl (by decide) (.slice A5 k c5) k _ rfl own5 _ (some ⟨wza.heap.size, 0, none⟩) 1 1 [(⟨⟨id, q0, un, false, sl⟩, A4, c4⟩ : Hs)] rfl elsB rfl hsC_len hsC_one (by unfold maxLen; omega) (by omega) (by omega) ?_
      intro A7 c7 wz9 own7 g7 k7
      have hob5 : ∀ j, (Value.slice A5 k c5).ownBlock = some j → w5.heap.size ≤ j := fun j hj => (own5.lt j hj).1
      have hBwz9 : Below w5.heap.size w5 wz9 := hBwzc.grown g7 (by omega) (fun j hj => by have := hob5 j hj; omega)
      have hSwz9 : (fun w' : World => w'.cell? ⟨r, 2, none⟩ = some (.slice (some ⟨G, 0, none⟩) N c) ∧ w'.cell? ⟨bx, 0, none⟩ = some (.int .i64 id) ∧ w'.cell? ⟨bx, 1, none⟩ = some (.int .i64 q0) ∧ w'.cell? ⟨bx, 2, none⟩ = some (.int .i64 un) ∧ w'.cell? ⟨bx, 3, none⟩ = some (.bool false) ∧ w'.cell? ⟨bx, 4, none⟩ = some (.slice A4 m c4)) wz9 := ⟨(hBwz9.cell (p := ⟨r, 2, none⟩) (l_r)).trans d2, (hBwz9.cell (p := ⟨bx, 0, none⟩) (l_bx)).trans e0, (hBwz9.cell (p := ⟨bx, 1, none⟩) (l_bx)).trans e1, (hBwz9.cell (p := ⟨bx, 2, none⟩) (l_bx)).trans e2, (hBwz9.cell (p := ⟨bx, 3, none⟩) (l_bx)).trans e3, (hBwz9.cell (p := ⟨bx, 4, none⟩) (l_bx)).trans e4⟩
      refine hK.out _ _ (fun _ => hSwz9) ?_
      clear hK K
      try simp only [Act.put, pzA, pzB, pzC]
      have Own7 := Lib.hid own7
      clear own7 own5 g7 k7 hob5
      try clear hob
      try clear elsB
      try clear ElsB
      try clear Own5
      try clear OwnE
      try clear ownE
      try clear gwza kwza
      try clear gwzb kwzb
      try clear gwzc kwzc
      refine until_one 18 rfl (by kernel_rfl) rfl (fun K hK => ?_)
      simp only [Go.wp_at_zero, Go.wp_at_succ]
      have own7 := Own7.out
      have sz9 := hBwz9.size
      refine wp_append_els (C := hsC) (k := 5) _ _ _ 60 rfl w5.heap.size 44 i0 _ 56 Tryz.underlying60 hi hz0 hz1 hz2 rfl (by decide) (.slice A7 (k + 1) c7) (k + 1) _ rfl own7 _ (atHs (some ⟨G, 0, none⟩) k c) (c - k) (N - k) (L.drop k) rfl (HRk.out.keep hBwz9 hBwz9.size) HRkl.out hsC_len hsC_one (by unfold maxLen; omega) (by omega) (by omega) ?_
      intro A10 c10 w10 own10 g10 k10
      have hkN1 : k + 1 + (N - k) = N + 1 := by omega
      rw [hkN1] at own10 ⊢
      have hB10 : Below w5.heap.size w5 w10 := hBwz9.grown g10 (by omega) (fun j hj => (own7.lt j hj).1)
      have hS10 : (fun w' : World => w'.cell? ⟨r, 2, none⟩ = some (.slice (some ⟨G, 0, none⟩) N c) ∧ w'.cell? ⟨bx, 0, none⟩ = some (.int .i64 id) ∧ w'.cell? ⟨bx, 1, none⟩ = some (.int .i64 q0) ∧ w'.cell? ⟨bx, 2, none⟩ = some (.int .i64 un) ∧ w'.cell? ⟨bx, 3, none⟩ = some (.bool false) ∧ w'.cell? ⟨bx, 4, none⟩ = some (.slice A4 m c4)) w10 := ⟨(hB10.cell (p := ⟨r, 2, none⟩) (l_r)).trans d2, (hB10.cell (p := ⟨bx, 0, none⟩) (l_bx)).trans e0, (hB10.cell (p := ⟨bx, 1, none⟩) (l_bx)).trans e1, (hB10.cell (p := ⟨bx, 2, none⟩) (l_bx)).trans e2, (hB10.cell (p := ⟨bx, 3, none⟩) (l_bx)).trans e3, (hB10.cell (p := ⟨bx, 4, none⟩) (l_bx)).trans e4⟩
      have HFX := Lib.hid (HFin.out w10 A10 c10 hB10 (by rw [List.flatMap_append, List.flatMap_append]; exact own10))
      have z2 : w10.frozen? ⟨r, 2, none⟩ = false := frozen_blk ((hB10.block r l_r).trans HRW.out)
      have HR10 := Lib.hid ((hB10.block r l_r).trans HRW.out)
      refine hK.out _ _ (fun _ => hS10) ?_
      clear hK K own7 own10 g10 k10 sz9 hB10
      try simp only [Act.put, pzA, pzB, pzC]
      refine until_one 19 rfl (by kernel_rfl) rfl (fun K hK => ?_)
      go_simp
      refine hK.out _ _ (fun _ => hS10) ?_
      clear hK K
      try simp only [Act.put, pzA, pzB, pzC]
      refine until_one 20 rfl (by kernel_rfl) rfl (fun K hK => ?_)
      go_simp
      refine hK.out _ _ (fun _ => hS10) ?_
      clear hK K
      try simp only [Act.put, pzA, pzB, pzC]
      refine until_one 21 rfl (by kernel_rfl) rfl (fun K hK => ?_)
      go_simp
      refine hK.out _ _ (fun h => absurd h (by decide)) ?_
      clear hK K
      refine until_done (by kernel_rfl) ?_
      go_wp2_with fail
      refine (rdone_raw ver (blk_put (i := 2) (.slice A10 (N + 1) c10) HR10.out) (by omega)).mono ?_
      rintro e w12 ⟨rfl, rfl⟩
      go_wp2
      go_ret
      exact ⟨by first | rfl | trivial, HFX.out⟩


    ·go_simp
     obtain ⟨wza, hwza⟩ : ∃ wld9, wld9 = wz0.alloc (.cells #[.int .i64 id, .int .i64 q0, .int .i64 un, .bool false, .slice A4 m c4] 44) := ⟨_, rfl⟩
     have hBwza : Below w5.heap.size w5 wza := by rw [hwza]; exact hBz0.alloc hBz0.size _
     have szwza := hBwza.size
     have stwza : wz0.heap.size < wza.heap.size := by rw [hwza]; simp
     have bbwza : Below wz0.heap.size wz0 wza := by rw [hwza]; exact (Below.refl _ _).alloc (Nat.le_refl _) _
     have elsB : Els hsC 5 wza wza.heap.size (some ⟨wz0.heap.size, 0, none⟩) [(⟨⟨id, q0, un, false, sl⟩, A4, c4⟩ : Hs)] := HBX.out wza wz0.heap.size (by rw [hwza]; exact heap_alloc_new _ _)
     have hSwza : (fun w' : World => w'.cell? ⟨r, 2, none⟩ = some (.slice (some ⟨G, 0, none⟩) N c) ∧ w'.cell? ⟨bx, 0, none⟩ = some (.int .i64 id) ∧ w'.cell? ⟨bx, 1, none⟩ = some (.int .i64 q0) ∧ w'.cell? ⟨bx, 2, none⟩ = some (.int .i64 un) ∧ w'.cell? ⟨bx, 3, none⟩ = some (.bool false) ∧ w'.cell? ⟨bx, 4, none⟩ = some (.slice A4 m c4)) wza := ⟨(hBwza.cell (p := ⟨r, 2, none⟩) (l_r)).trans d2, (hBwza.cell (p := ⟨bx, 0, none⟩) (l_bx)).trans e0, (hBwza.cell (p := ⟨bx, 1, none⟩) (l_bx)).trans e1, (hBwza.cell (p := ⟨bx, 2, none⟩) (l_bx)).trans e2, (hBwza.cell (p := ⟨bx, 3, none⟩) (l_bx)).trans e3, (hBwza.cell (p := ⟨bx, 4, none⟩) (l_bx)).trans e4⟩
     rw [← hwza]
     refine hK.out _ _ (fun _ => hSwza) ?_
     clear hK K hwza
     try simp only [Act.put, pzA, pzB, pzC]
     have ElsB := Lib.hid elsB
     clear elsB
     refine until_one 1 rfl (by kernel_rfl) rfl (fun K hK => ?_)
     go_simp
     obtain ⟨wzb, hwzb⟩ : ∃ wld9, wld9 = wza.alloc (.cells #[] 44) := ⟨_, rfl⟩
     have hBwzb : Below w5.heap.size w5 wzb := by rw [hwzb]; exact hBwza.alloc hBwza.size _
     have szwzb := hBwzb.size
     have stwzb : wza.heap.size < wzb.heap.size := by rw [hwzb]; simp
     have bbwzb : Below wza.heap.size wza wzb := by rw [hwzb]; exact (Below.refl _ _).alloc (Nat.le_refl _) _
     have ownE : wzb.ownsRow w5.heap.size 44 5 (.slice (some ⟨wza.heap.size, 0, none⟩) 0 0) 0 [] := by rw [hwzb]; exact World.ownsRow_lit wza #[] 0 (by have := hBwza.size; omega) (by unfold maxLen; omega) rfl
     have hSwzb : (fun w' : World => w'.cell? ⟨r, 2, none⟩ = some (.slice (some ⟨G, 0, none⟩) N c) ∧ w'.cell? ⟨bx, 0, none⟩ = some (.int .i64 id) ∧ w'.cell? ⟨bx, 1, none⟩ = some (.int .i64 q0) ∧ w'.cell? ⟨bx, 2, none⟩ = some (.int .i64 un) ∧ w'.cell? ⟨bx, 3, none⟩ = some (.bool false) ∧ w'.cell? ⟨bx, 4, none⟩ = some (.slice A4 m c4)) wzb := ⟨(hBwzb.cell (p := ⟨r, 2, none⟩) (l_r)).trans d2, (hBwzb.cell (p := ⟨bx, 0, none⟩) (l_bx)).trans e0, (hBwzb.cell (p := ⟨bx, 1, none⟩) (l_bx)).trans e1, (hBwzb.cell (p := ⟨bx, 2, none⟩) (l_bx)).trans e2, (hBwzb.cell (p := ⟨bx, 3, none⟩) (l_bx)).trans e3, (hBwzb.cell (p := ⟨bx, 4, none⟩) (l_bx)).trans e4⟩
     rw [← hwzb]
     refine hK.out _ _ (fun _ => hSwzb) ?_
     clear hK K hwzb
     try simp only [Act.put, pzA, pzB, pzC]
     have elsB : Els hsC 5 wzb wzb.heap.size (some ⟨wz0.heap.size, 0, none⟩) [(⟨⟨id, q0, un, false, sl⟩, A4, c4⟩ : Hs)] := ElsB.out.keep bbwzb (by omega)
     refine until_one 8 rfl (by kernel_rfl) rfl (fun K hK => ?_)
     simp only [Go.wp_at_zero, Go.wp_at_succ]
     refine wp_append_els (C := hsC) (k := 5) _ _ _ 60 rfl w5.heap.size 44 i0 _ 56 Tryz.underlying60 hi hz0 hz1 hz2 rfl (by decide) (.slice (some ⟨wza.heap.size, 0, none⟩) 0 0) 0 [] rfl ownE w5.heap.size (atHs (some ⟨G, 0, none⟩) 0 c) c k (L.take k) rfl (Els.keep HLk.out (hBwzb) (Nat.le_refl _)) HLkl.out hsC_len hsC_one (by unfold maxLen; omega) (by omega) (by omega) ?_
     intro A5 c5 wzc own5 gwzc kwzc
     rw [Nat.zero_add] at own5 ⊢
     rw [List.nil_append] at own5
     have hob : ∀ j, (Value.slice (some ⟨wza.heap.size, 0, none⟩) 0 0).ownBlock = some j → j = wza.heap.size := fun j hj => by simpa [Value.ownBlock] using hj.symm
     have hBwzc : Below w5.heap.size w5 wzc := hBwzb.grown gwzc (by omega) (fun j hj => by have := hob j hj; omega)
     have szwzc := hBwzc.size
     have stwzc := gwzc.size
     have hSwzc : (fun w' : World => w'.cell? ⟨r, 2, none⟩ = some (.slice (some ⟨G, 0, none⟩) N c) ∧ w'.cell? ⟨bx, 0, none⟩ = some (.int .i64 id) ∧ w'.cell? ⟨bx, 1, none⟩ = some (.int .i64 q0) ∧ w'.cell? ⟨bx, 2, none⟩ = some (.int .i64 un) ∧ w'.cell? ⟨bx, 3, none⟩ = some (.bool false) ∧ w'.cell? ⟨bx, 4, none⟩ = some (.slice A4 m c4)) wzc := ⟨(hBwzc.cell (p := ⟨r, 2, none⟩) (l_r)).trans d2, (hBwzc.cell (p := ⟨bx, 0, none⟩) (l_bx)).trans e0, (hBwzc.cell (p := ⟨bx, 1, none⟩) (l_bx)).trans e1, (hBwzc.cell (p := ⟨bx, 2, none⟩) (l_bx)).trans e2, (hBwzc.cell (p := ⟨bx, 3, none⟩) (l_bx)).trans e3, (hBwzc.cell (p := ⟨bx, 4, none⟩) (l_bx)).trans e4⟩
     have elsB : Els hsC 5 wzc wzc.heap.size (some ⟨wz0.heap.size, 0, none⟩) [(⟨⟨id, q0, un, false, sl⟩, A4, c4⟩ : Hs)] := (elsB.off (w' := wzc) fun b2 o2 e2 hb2 => gwzc.block b2 hb2 (fun e => by have := hob b2 e.symm; injection e2 with e2; injection e2 with e2; omega)).imp stwzc fun _ _ _ _ hd => hd
     refine hK.out _ _ (fun _ => hSwzc) ?_
     clear hK K
     try simp only [Act.put, pzA, pzB, pzC]
     refine until_one 11 rfl (by kernel_rfl) rfl (fun K hK => ?_)
     simp only [Go.wp_at_zero, Go.wp_at_succ]
     refine wp_append_els (C := hsC) (k := 5) _ _ _ 60 rfl w5.heap.size 44 i0 _ 56 Tryz.underlying60 hi hz0 hz1 hz2 rfl (by decide) (.slice A5 k c5) k _ rfl own5 _ (some ⟨wz0.heap.size, 0, none⟩) 1 1 [(⟨⟨id, q0, un, false, sl⟩, A4, c4⟩ : Hs)] rfl elsB rfl hsC_len hsC_one (by unfold maxLen; omega) (by omega) (by omega) ?_
     intro A7 c7 wz9 own7 g7 k7
     have hob5 : ∀ j, (Value.slice A5 k c5).ownBlock = some j → w5.heap.size ≤ j := fun j hj => (own5.lt j hj).1
     have hBwz9 : Below w5.heap.size w5 wz9 := hBwzc.grown g7 (by omega) (fun j hj => by have := hob5 j hj; omega)
     have hSwz9 : (fun w' : World => w'.cell? ⟨r, 2, none⟩ = some (.slice (some ⟨G, 0, none⟩) N c) ∧ w'.cell? ⟨bx, 0, none⟩ = some (.int .i64 id) ∧ w'.cell? ⟨bx, 1, none⟩ = some (.int .i64 q0) ∧ w'.cell? ⟨bx, 2, none⟩ = some (.int .i64 un) ∧ w'.cell? ⟨bx, 3, none⟩ = some (.bool false) ∧ w'.cell? ⟨bx, 4, none⟩ = some (.slice A4 m c4)) wz9 := ⟨(hBwz9.cell (p := ⟨r, 2, none⟩) (l_r)).trans d2, (hBwz9.cell (p := ⟨bx, 0, none⟩) (l_bx)).trans e0, (hBwz9.cell (p := ⟨bx, 1, none⟩) (l_bx)).trans e1, (hBwz9.cell (p := ⟨bx, 2, none⟩) (l_bx)).trans e2, (hBwz9.cell (p := ⟨bx, 3, none⟩) (l_bx)).trans e3, (hBwz9.cell (p := ⟨bx, 4, none⟩) (l_bx)).trans e4⟩
     refine hK.out _ _ (fun _ => hSwz9) ?_
     clear hK K
     try simp only [Act.put, pzA, pzB, pzC]
     have Own7 := Lib.hid own7
     clear own7 own5 g7 k7 hob5
     try clear hob
     try clear elsB
     try clear ElsB
     try clear Own5
     try clear OwnE
     try clear ownE
     try clear gwza kwza
     try clear gwzb kwzb
     try clear gwzc kwzc
     refine until_one 18 rfl (by kernel_rfl) rfl (fun K hK => ?_)
     simp only [Go.wp_at_zero, Go.wp_at_succ]
     have own7 := Own7.out
     have sz9 := hBwz9.size
     refine wp_append_els (C := hsC) (k := 5) _ _ _ 60 rfl w5.heap.size 44 i0 _ 56 Tryz.underlying60 hi hz0 hz1 hz2 rfl (by decide) (.slice A7 (k + 1) c7) (k + 1) _ rfl own7 _ (atHs (some ⟨G, 0, none⟩) k c) (c - k) (N - k) (L.drop k) rfl (HRk.out.keep hBwz9 hBwz9.size) HRkl.out hsC_len hsC_one (by unfold maxLen; omega) (by omega) (by omega) ?_
     intro A10 c10 w10 own10 g10 k10
     have hkN1 : k + 1 + (N - k) = N + 1 := by omega
     rw [hkN1] at own10 ⊢
     have hB10 : Below w5.heap.size w5 w10 := hBwz9.grown g10 (by omega) (fun j hj => (own7.lt j hj).1)
     have hS10 : (fun w' : World => w'.cell? ⟨r, 2, none⟩ = some (.slice (some ⟨G, 0, none⟩) N c) ∧ w'.cell? ⟨bx, 0, none⟩ = some (.int .i64 id) ∧ w'.cell? ⟨bx, 1, none⟩ = some (.int .i64 q0) ∧ w'.cell? ⟨bx, 2, none⟩ = some (.int .i64 un) ∧ w'.cell? ⟨bx, 3, none⟩ = some (.bool false) ∧ w'.cell? ⟨bx, 4, none⟩ = some (.slice A4 m c4)) w10 := ⟨(hB10.cell (p := ⟨r, 2, none⟩) (l_r)).trans d2, (hB10.cell (p := ⟨bx, 0, none⟩) (l_bx)).trans e0, (hB10.cell (p := ⟨bx, 1, none⟩) (l_bx)).trans e1, (hB10.cell (p := ⟨bx, 2, none⟩) (l_bx)).trans e2, (hB10.cell (p := ⟨bx, 3, none⟩) (l_bx)).trans e3, (hB10.cell (p := ⟨bx, 4, none⟩) (l_bx)).trans e4⟩
     have HFX := Lib.hid (HFin.out w10 A10 c10 hB10 (by rw [List.flatMap_append, List.flatMap_append]; exact own10))
     have z2 : w10.frozen? ⟨r, 2, none⟩ = false := frozen_blk ((hB10.block r l_r).trans HRW.out)
     have HR10 := Lib.hid ((hB10.block r l_r).trans HRW.out)
     refine hK.out _ _ (fun _ => hS10) ?_
     clear hK K own7 own10 g10 k10 sz9 hB10
     try simp only [Act.put, pzA, pzB, pzC]
     refine until_one 19 rfl (by kernel_rfl) rfl (fun K hK => ?_)
     go_simp
     refine hK.out _ _ (fun _ => hS10) ?_
     clear hK K
     try simp only [Act.put, pzA, pzB, pzC]
     refine until_one 20 rfl (by kernel_rfl) rfl (fun K hK => ?_)
     go_simp
     refine hK.out _ _ (fun _ => hS10) ?_
     clear hK K
     try simp only [Act.put, pzA, pzB, pzC]
     refine until_one 21 rfl (by kernel_rfl) rfl (fun K hK => ?_)
     go_simp
     refine hK.out _ _ (fun h => absurd h (by decide)) ?_
     clear hK K
     refine until_done (by kernel_rfl) ?_
     go_wp2_with fail
     refine (rdone_raw ver (blk_put (i := 2) (.slice A10 (N + 1) c10) HR10.out) (by omega)).mono ?_
     rintro e w12 ⟨rfl, rfl⟩
     go_wp2
     go_ret
     exact ⟨by first | rfl | trivial, HFX.out⟩
  ·have t1x : decide (k < N) = false := decide_eq_false hlt
   have hStop := Lib.hid (show ∀ g, st.hs[k]? = some g → ¬ g.id < id from fun g hg => by
    have h9 := (List.getElem?_eq_some_iff.1 hg).1
    rw [← HHs.out, List.length_map, HLn.out] at h9
    omega)
   clear hlt
   go_wp2_with (at_builtin; refine wpList_append_els (C := slC) (k := 4) _ rfl _ _ 42 rfl w2.heap.size 41 j0 _ 32 Tryz.underlying42 gi gz0 gz1 gz2 rfl (by decide) (.slice (some ⟨w2.heap.size, 0, none⟩) 0 0) 0 [] rfl (World.ownsRow_lit w2 #[] 0 (Nat.le_refl _) (by unfold maxLen; omega) rfl) w2.heap.size A' c' m sl rfl (Els.keep (slots_els HSl2.out) ((Below.refl w2.heap.size w2).alloc (Nat.le_refl _) _) (Nat.le_refl _)) HM.out.1 slC_len1 slC_one (by unfold maxLen; omega) (by omega) (by simp) ?_; intro A4 c4 w4 own4 g4 k4; rw [Nat.zero_add, List.nil_append] at own4; rw [Nat.zero_add])
   have hB4 : Below w2.heap.size w2 w4 := ((Below.refl w2.heap.size w2).alloc (Nat.le_refl _) _).grown g4 (by simp) (fun i e => by have e : some w2.heap.size = some i := e; injection e with e; omega)
   have hs4 := hB4.size
   obtain ⟨w5, hw5⟩ : ∃ W, W = w4.alloc (.cells #[.int .i64 id, .int .i64 q0, .int .i64 un, .bool false, .slice A4 m c4] 44) := ⟨_, rfl⟩
   rw [← hw5]
   have hB5 : Below w2.heap.size w2 w5 := by rw [hw5]; exact hB4.alloc hs4 _
   have hB45 : Below w4.heap.size w4 w5 := by rw [hw5]; exact (Below.refl _ _).alloc (Nat.le_refl _) _
   have hz5 : w5.heap.size = w4.heap.size + 1 := by rw [hw5]; simp
   obtain ⟨bx, hbx⟩ : ∃ N, N = w4.heap.size := ⟨_, rfl⟩
   have hbb : w5.heap[bx]? = some (.cells #[.int .i64 id, .int .i64 q0, .int .i64 un, .bool false, .slice A4 m c4] 44 (0, 0)) := by rw [hw5, hbx]; exact heap_alloc_new w4 _
   rw [← hbx]
   obtain ⟨e0, e1, e2, e3, e4, _, _, _, _, _, l_bx⟩ := blk5 hbb
   have l_r : r < w5.heap.size := by omega
   have HRW := Lib.hid ((hB5.block r l_r0).trans HR2.out)
   replace d2 := (hB5.cell (p := ⟨r, 2, none⟩) l_r0).trans d2
   have hkc : k ≤ c := by omega
   have HLk := Lib.hid (els_hs_to ((els_own (C := hsC) hsC_len (l := L) HH2.out.row rfl).1.keep hB5 hB5.size) k c (by rw [HLn.out]; exact hNc))
   have HRk := Lib.hid (els_hs_from ((els_own (C := hsC) hsC_len (l := L) HH2.out.row rfl).1.keep hB5 hB5.size) k c (by rw [HLn.out]; exact hNc))
   have HLkl := Lib.hid (show k = (L.take k).length by rw [List.length_take, HLn.out]; omega)
   have HRkl := Lib.hid (show N - k = (L.drop k).length by rw [List.length_drop, HLn.out])
   have HBX := Lib.hid (fun (V : World) (p : Nat) (h : V.heap[p]? = some (.cells #[.int .i64 id, .int .i64 q0, .int .i64 un, .bool false, .slice A4 m c4] 44 (0, 0))) => show Els hsC 5 V V.heap.size (some ⟨p, 0, none⟩) [(⟨⟨id, q0, un, false, sl⟩, A4, c4⟩ : Hs)] from els_blk hsC_len h fun j v hj => by
    have hj : ([.int .i64 id, .int .i64 q0, .int .i64 un, .bool false, .slice A4 sl.length c4] : List Value)[j]? = some v := hj
    rw [← HM.out.1] at hj
    simpa using hj)
   have HFin := Lib.hid (show ∀ (wz : World) (A10 : Option Addr) (c10 : Nat), Below w5.heap.size w5 wz → wz.ownsRow w5.heap.size 44 5 (.slice A10 (N + 1) c10) (N + 1) ((L.take k ++ [(⟨⟨id, q0, un, false, sl⟩, A4, c4⟩ : Hs)] ++ L.drop k).flatMap hsC) →
     RNext w ((wz.setCell ⟨r, 2, none⟩ (.slice A10 (N + 1) c10)).setCell ⟨r, 3, none⟩ (.int .i64 ((ver : Int) + 1))) r D fs (LM.up { T.2 with hs := LM.ins ⟨id, q0, un, false, sl⟩ st.hs }) from fun wz A10 c10 hbz hrow => by
    have hW := HH2.out.keep hB5
    have hLl : (L.take k ++ [(⟨⟨id, q0, un, false, sl⟩, A4, c4⟩ : Hs)] ++ L.drop k).length = N + 1 := by
     rw [List.length_append, List.length_append, ← HLkl.out, ← HRkl.out]; simp; omega
    obtain ⟨W', hW'⟩ : ∃ W', W' = (wz.setCell ⟨r, 2, none⟩ (.slice A10 (N + 1) c10)).setCell ⟨r, 3, none⟩ (.int .i64 ((ver : Int) + 1)) := ⟨_, rfl⟩
    rw [← hW']
    have hfW : Foot (· = r) w5 W' := by rw [hW']; exact ((Foot.of_below hbz).setCell (F := (· = r)) (p := ⟨r, 2, none⟩) (.inl rfl) _).setCell (p := ⟨r, 3, none⟩) (.inl rfl) _
    have hA4 : ∀ g o, A4 = some ⟨g, o, none⟩ → w2.heap.size ≤ g ∧ g < w4.heap.size := fun g o e => by
     subst e
     exact own4.lt g rfl
    have hs4' : Slots w4 w4.heap.size A4 sl := own_slots (c := c4) (by rw [← HM.out.1]; exact own4)
    have hs5' := Slots.keep hs4' hB45 hB45.size
    have hsW : Slots W' W'.heap.size A4 sl := hs5'.off2 hfW.size fun g o e hg => hfW.block g hg fun e2 => by have := (hA4 g o e).1; omega
    have hA10 : ∀ g o, A10 = some ⟨g, o, none⟩ → w5.heap.size ≤ g := fun g o e => by
     subst e
     exact (hrow.lt g rfl).1
    have hno : ∀ g, w2.heap.size ≤ g → g ∉ [r, q2, al, tk2, db2, ra, a, b] := fun g hg hm => by
     have := HH2.out.lts
     simp only [List.mem_cons, List.not_mem_nil, or_false] at hm
     omega
    have hsi := H.out.2.2.2.1 HTe.out.symm
    have hls : 1 ≤ sl.length ∧ sl.length ≤ 16 := by rw [← HM.out.1]; exact hm2
    have hok : LOk (LM.up { T.2 with hs := LM.ins ⟨id, q0, un, false, sl⟩ st.hs }) := by
     have h8 := LOk.ins HH2.out.ok (g := ⟨id, q0, un, false, sl⟩) (by rw [H.out.2.2.1.1]; exact H.out.2.2.2.2.2.1) ⟨HWf.out.1, HWf.out.2.1, HWf.out.2.2, hls.1, hls.2, hsi⟩ H.out.2.2.2.2.1
     rw [H.out.2.2.1.1] at h8
     exact h8
    have h9 := hW.rowed2 (st' := LM.up { T.2 with hs := LM.ins ⟨id, q0, un, false, sl⟩ st.hs }) (w' := W') (A' := A10) (c' := c10) (L' := L.take k ++ [(⟨⟨id, q0, un, false, sl⟩, A4, c4⟩ : Hs)] ++ L.drop k) hfW (by
      have e9 : (((LM.up { T.2 with hs := LM.ins ⟨id, q0, un, false, sl⟩ st.hs }).ver : Nat) : Int) = (ver : Int) + 1 := by
       show (((T.2.ver + 1 : Nat)) : Int) = _
       rw [H.out.2.2.1.2.1, ← HM.out.2]; simp
      rw [hLl, e9, hW']
      exact blk_put (i := 3) _ (blk_put (i := 2) _ ((hbz.block r l_r).trans HRW.out))) rfl rfl rfl (by
      rw [hLl, hW']
      exact own_stays hrow fun i hi => by
       have h8 := (hrow.lt i hi).1
       exact (Below.heap_setCell _ _ _ _ (show i ≠ r by omega)).trans (Below.heap_setCell _ _ _ _ (show i ≠ r by omega))) (by
      show _ = LM.ins _ st.hs
      rw [LM.ins_at (k := k) (by rw [← HHs.out, List.length_map, HLn.out]; exact hkN) hLow.out (fun g hg => by have := hStop.out g hg; show ¬ g.id < id; omega), ← HHs.out, List.map_append, List.map_append, List.map_take, List.map_drop]
      rfl) hok (fun y hy => by
      rcases List.mem_append.1 hy with hy | hy
      ·rcases List.mem_append.1 hy with hy | hy
       ·exact .inl (List.mem_of_mem_take hy)
       ·rw [List.mem_singleton] at hy
        subst hy
        refine .inr ⟨hsW, fun g o e => ⟨hno g (hA4 g o e).1, fun o' e2 => ?_⟩⟩
        have h6 := (hA4 g o e).2
        have h7 := hA10 g o' e2
        omega
      ·exact .inl (List.mem_of_mem_drop hy)) (fun y hy => by
      rcases List.mem_append.1 hy with hy | hy
      ·rcases List.mem_append.1 hy with hy | hy
       ·exact .inl (List.mem_of_mem_take hy)
       ·rw [List.mem_singleton] at hy
        subst hy
        exact .inr (by show sl.length ≤ c4; rw [← HM.out.1]; exact own_cap own4)
      ·exact .inl (List.mem_of_mem_drop hy))
    have hD8 : ∀ i, i ∈ [r, q, al, tk, db, ra, a, b] → D i := fun i hi => H.out.2.1 i (.inl hi)
    have hs5 := hB5.size
    refine RNext.of h9 (((HF2.out.1.mono fun i hi => hD8 i (by rcases hi with rfl | rfl | rfl | rfl | rfl <;> simp)).trans (Foot.of_below (F := fun _ => False) hB5) fun i hi => hi.elim).trans hfW fun i hi => .inl (hD8 i (by rw [hi]; simp))) fun i hi => ?_
    rcases hi with hi | ⟨o, e⟩ | ⟨y, hy, o, e⟩
    ·obtain ⟨y1, y2, y3⟩ := HF2.out.2
     simp only [List.mem_cons, List.not_mem_nil, or_false] at hi
     rcases hi with rfl | rfl | rfl | rfl | rfl | rfl | rfl | rfl
     ·exact .inl (hD8 _ (by simp))
     ·rcases y1 with rfl | y1
      ·exact .inl (hD8 _ (by simp))
      ·exact .inr y1
     ·exact .inl (hD8 _ (by simp))
     ·rcases y2 with rfl | y2
      ·exact .inl (hD8 _ (by simp))
      ·exact .inr y2
     ·rcases y3 with rfl | y3
      ·exact .inl (hD8 _ (by simp))
      ·exact .inr y3
     ·exact .inl (hD8 _ (by simp))
     ·exact .inl (hD8 _ (by simp))
     ·exact .inl (hD8 _ (by simp))
    ·have := hA10 i o e
     exact .inr (by omega)
    ·rcases List.mem_append.1 hy with hy | hy
     ·rcases List.mem_append.1 hy with hy | hy
      ·exact .inl (H.out.2.1 i (.inr (.inr ⟨y, List.mem_of_mem_take hy, o, e⟩)))
      ·rw [List.mem_singleton] at hy
       subst hy
       have := (hA4 i o e).1
       exact .inr (by omega)
     ·exact .inl (H.out.2.1 i (.inr (.inr ⟨y, List.mem_of_mem_drop hy, o, e⟩))))
   have OwnS := Lib.hid own4
   clear own4 g4 k4 hB4 hB5 hB45 hbb hbx hw5
   go_wp2_with fail
   refine wp_until (fun w' : World => w'.cell? ⟨r, 2, none⟩ = some (.slice A N c) ∧ w'.cell? ⟨bx, 0, none⟩ = some (.int .i64 id) ∧ w'.cell? ⟨bx, 1, none⟩ = some (.int .i64 q0) ∧ w'.cell? ⟨bx, 2, none⟩ = some (.int .i64 un) ∧ w'.cell? ⟨bx, 3, none⟩ = some (.bool false) ∧ w'.cell? ⟨bx, 4, none⟩ = some (.slice A4 m c4)) 21 (by kernel_rfl) ?_
   have hBz0 : Below w5.heap.size w5 w5.drew := (Below.refl _ _).drew
   have hSz0 : (fun w' : World => w'.cell? ⟨r, 2, none⟩ = some (.slice A N c) ∧ w'.cell? ⟨bx, 0, none⟩ = some (.int .i64 id) ∧ w'.cell? ⟨bx, 1, none⟩ = some (.int .i64 q0) ∧ w'.cell? ⟨bx, 2, none⟩ = some (.int .i64 un) ∧ w'.cell? ⟨bx, 3, none⟩ = some (.bool false) ∧ w'.cell? ⟨bx, 4, none⟩ = some (.slice A4 m c4)) w5.drew := ⟨d2, e0, e1, e2, e3, e4⟩
   generalize w5.drew = wz0 at hBz0 hSz0 ⊢
   have szz0 := hBz0.size
   refine until_take (v := ?_) 0 83 rfl rfl (by kernel_rfl) (by kernel_rfl) (by kernel_rfl) (by kernel_rfl) (fun _ _ _ h => h) ⟨by rfl, ?_⟩ hSz0 ?_
   rotate_left
   ·intro w' hw'; obtain ⟨x0, x1, x2, x3, x4, x5⟩ := hw'; go_simp; (try with_reducible rfl)
   simp only [Act.put, pzA, pzB, pzC]
   refine until_take (v := ?_) 2 85 rfl rfl (by kernel_rfl) (by kernel_rfl) (by kernel_rfl) (by kernel_rfl) (fun _ _ _ h => h) ⟨by rfl, ?_⟩ hSz0 ?_
   rotate_left
   ·intro w' hw'; obtain ⟨x0, x1, x2, x3, x4, x5⟩ := hw'; go_simp; (try with_reducible rfl)
   simp only [Act.put, pzA, pzB, pzC]
   refine until_take (v := ?_) 3 86 rfl rfl (by kernel_rfl) (by kernel_rfl) (by kernel_rfl) (by kernel_rfl) (fun _ _ _ h => h) ⟨by rfl, ?_⟩ hSz0 ?_
   rotate_left
   ·intro w' hw'; obtain ⟨x0, x1, x2, x3, x4, x5⟩ := hw'; go_simp; (try with_reducible rfl)
   simp only [Act.put, pzA, pzB, pzC]
   refine until_take (v := ?_) 4 87 rfl rfl (by kernel_rfl) (by kernel_rfl) (by kernel_rfl) (by kernel_rfl) (fun _ _ _ h => h) ⟨by rfl, ?_⟩ hSz0 ?_
   rotate_left
   ·intro w' hw'; obtain ⟨x0, x1, x2, x3, x4, x5⟩ := hw'; go_simp; (try with_reducible rfl)
   simp only [Act.put, pzA, pzB, pzC]
   refine until_take (v := ?_) 5 88 rfl rfl (by kernel_rfl) (by kernel_rfl) (by kernel_rfl) (by kernel_rfl) (fun _ _ _ h => h) ⟨by rfl, ?_⟩ hSz0 ?_
   rotate_left
   ·intro w' hw'; obtain ⟨x0, x1, x2, x3, x4, x5⟩ := hw'; go_simp; (try with_reducible rfl)
   simp only [Act.put, pzA, pzB, pzC]
   refine until_take (v := ?_) 6 89 rfl rfl (by kernel_rfl) (by kernel_rfl) (by kernel_rfl) (by kernel_rfl) (fun _ _ _ h => h) ⟨by rfl, ?_⟩ hSz0 ?_
   rotate_left
   ·intro w' hw'; obtain ⟨x0, x1, x2, x3, x4, x5⟩ := hw'; go_simp; (try with_reducible rfl)
   simp only [Act.put, pzA, pzB, pzC]
   refine until_take (v := ?_) 7 90 rfl rfl (by kernel_rfl) (by kernel_rfl) (by kernel_rfl) (by kernel_rfl) (fun _ _ _ h => h) ⟨by rfl, ?_⟩ hSz0 ?_
   rotate_left
   ·intro w' hw'; obtain ⟨x0, x1, x2, x3, x4, x5⟩ := hw'; refine Eq.trans (run_hs_to (k := k) (by rfl) (by rfl) (by rfl) hkc) ?_; (with_reducible rfl)
   simp only [Act.put, pzA, pzB, pzC]
   refine until_take (v := ?_) 9 92 rfl rfl (by kernel_rfl) (by kernel_rfl) (by kernel_rfl) (by kernel_rfl) (fun _ _ _ h => h) ⟨by rfl, ?_⟩ hSz0 ?_
   rotate_left
   ·intro w' hw'; obtain ⟨x0, x1, x2, x3, x4, x5⟩ := hw'; refine Eq.trans (run_load_hv (by rfl) (by rfl) rfl (clsat5 x1 x2 x3 x4 x5)) ?_; (with_reducible rfl)
   simp only [Act.put, pzA, pzB, pzC]
   refine until_take (v := ?_) 12 95 rfl rfl (by kernel_rfl) (by kernel_rfl) (by kernel_rfl) (by kernel_rfl) (fun _ _ _ h => h) ⟨by rfl, ?_⟩ hSz0 ?_
   rotate_left
   ·intro w' hw'; obtain ⟨x0, x1, x2, x3, x4, x5⟩ := hw'; go_simp; (try with_reducible rfl)
   simp only [Act.put, pzA, pzB, pzC]
   refine until_take (v := ?_) 13 96 rfl rfl (by kernel_rfl) (by kernel_rfl) (by kernel_rfl) (by kernel_rfl) (fun _ _ _ h => h) ⟨by rfl, ?_⟩ hSz0 ?_
   rotate_left
   ·intro w' hw'; obtain ⟨x0, x1, x2, x3, x4, x5⟩ := hw'; go_simp; (try with_reducible rfl)
   simp only [Act.put, pzA, pzB, pzC]
   refine until_take (v := ?_) 14 97 rfl rfl (by kernel_rfl) (by kernel_rfl) (by kernel_rfl) (by kernel_rfl) (fun _ _ _ h => h) ⟨by rfl, ?_⟩ hSz0 ?_
   rotate_left
   ·intro w' hw'; obtain ⟨x0, x1, x2, x3, x4, x5⟩ := hw'; go_simp; (try with_reducible rfl)
   simp only [Act.put, pzA, pzB, pzC]
   refine until_take (v := ?_) 15 98 rfl rfl (by kernel_rfl) (by kernel_rfl) (by kernel_rfl) (by kernel_rfl) (fun _ _ _ h => h) ⟨by rfl, ?_⟩ hSz0 ?_
   rotate_left
   ·intro w' hw'; obtain ⟨x0, x1, x2, x3, x4, x5⟩ := hw'; go_simp; (try with_reducible rfl)
   simp only [Act.put, pzA, pzB, pzC]
   refine until_take (v := ?_) 16 99 rfl rfl (by kernel_rfl) (by kernel_rfl) (by kernel_rfl) (by kernel_rfl) (fun _ _ _ h => h) ⟨by rfl, ?_⟩ hSz0 ?_
   rotate_left
   ·intro w' hw'; obtain ⟨x0, x1, x2, x3, x4, x5⟩ := hw'; go_simp; (try with_reducible rfl)
   simp only [Act.put, pzA, pzB, pzC]
   refine until_take (v := ?_) 17 100 rfl rfl (by kernel_rfl) (by kernel_rfl) (by kernel_rfl) (by kernel_rfl) (fun _ _ _ h => h) ⟨by rfl, ?_⟩ hSz0 ?_
   rotate_left
   ·intro w' hw'; obtain ⟨x0, x1, x2, x3, x4, x5⟩ := hw'; refine Eq.trans (run_hs_from (k := k) (by rfl) (by rfl) (by rfl) hkN) ?_; (with_reducible rfl)
   simp only [Act.put, pzA, pzB, pzC]
   refine until_two 1 10 rfl rfl (by kernel_rfl) rfl rfl (fun K hK => ?_) (fun K hK => ?_)
   ·go_simp
    obtain ⟨wza, hwza⟩ : ∃ wld9, wld9 = wz0.alloc (.cells #[] 44) := ⟨_, rfl⟩
    have hBwza : Below w5.heap.size w5 wza := by rw [hwza]; exact hBz0.alloc hBz0.size _
    have szwza := hBwza.size
    have stwza : wz0.heap.size < wza.heap.size := by rw [hwza]; simp
    have bbwza : Below wz0.heap.size wz0 wza := by rw [hwza]; exact (Below.refl _ _).alloc (Nat.le_refl _) _
    have ownE : wza.ownsRow w5.heap.size 44 5 (.slice (some ⟨wz0.heap.size, 0, none⟩) 0 0) 0 [] := by rw [hwza]; exact World.ownsRow_lit wz0 #[] 0 (by have := hBz0.size; omega) (by unfold maxLen; omega) rfl
    have hSwza : (fun w' : World => w'.cell? ⟨r, 2, none⟩ = some (.slice A N c) ∧ w'.cell? ⟨bx, 0, none⟩ = some (.int .i64 id) ∧ w'.cell? ⟨bx, 1, none⟩ = some (.int .i64 q0) ∧ w'.cell? ⟨bx, 2, none⟩ = some (.int .i64 un) ∧ w'.cell? ⟨bx, 3, none⟩ = some (.bool false) ∧ w'.cell? ⟨bx, 4, none⟩ = some (.slice A4 m c4)) wza := ⟨(hBwza.cell (p := ⟨r, 2, none⟩) (l_r)).trans d2, (hBwza.cell (p := ⟨bx, 0, none⟩) (l_bx)).trans e0, (hBwza.cell (p := ⟨bx, 1, none⟩) (l_bx)).trans e1, (hBwza.cell (p := ⟨bx, 2, none⟩) (l_bx)).trans e2, (hBwza.cell (p := ⟨bx, 3, none⟩) (l_bx)).trans e3, (hBwza.cell (p := ⟨bx, 4, none⟩) (l_bx)).trans e4⟩
    rw [← hwza]
    refine hK.out _ _ (fun _ => hSwza) ?_
    clear hK K hwza
    try simp only [Act.put, pzA, pzB, pzC]
    refine until_two 8 10 rfl rfl (by kernel_rfl) rfl rfl (fun K hK => ?_) (fun K hK => ?_)
    ·simp only [Go.wp_at_zero, Go.wp_at_succ]
     refine wp_append_els (C := hsC) (k := 5) _ _ _ 60 rfl w5.heap.size 44 i0 _ 56 Tryz.underlying60 hi hz0 hz1 hz2 rfl (by decide) (.slice (some ⟨wz0.heap.size, 0, none⟩) 0 0) 0 [] rfl ownE w5.heap.size (atHs A 0 c) c k (L.take k) rfl (Els.keep HLk.out (hBwza) (Nat.le_refl _)) HLkl.out hsC_len hsC_one (by unfold maxLen; omega) (by omega) (by omega) ?_
     intro A5 c5 wzb own5 gwzb kwzb
     rw [Nat.zero_add] at own5 ⊢
     rw [List.nil_append] at own5
     have hob : ∀ j, (Value.slice (some ⟨wz0.heap.size, 0, none⟩) 0 0).ownBlock = some j → j = wz0.heap.size := fun j hj => by simpa [Value.ownBlock] using hj.symm
     have hBwzb : Below w5.heap.size w5 wzb := hBwza.grown gwzb (by omega) (fun j hj => by have := hob j hj; omega)
     have szwzb := hBwzb.size
     have stwzb := gwzb.size
     have hSwzb : (fun w' : World => w'.cell? ⟨r, 2, none⟩ = some (.slice A N c) ∧ w'.cell? ⟨bx, 0, none⟩ = some (.int .i64 id) ∧ w'.cell? ⟨bx, 1, none⟩ = some (.int .i64 q0) ∧ w'.cell? ⟨bx, 2, none⟩ = some (.int .i64 un) ∧ w'.cell? ⟨bx, 3, none⟩ = some (.bool false) ∧ w'.cell? ⟨bx, 4, none⟩ = some (.slice A4 m c4)) wzb := ⟨(hBwzb.cell (p := ⟨r, 2, none⟩) (l_r)).trans d2, (hBwzb.cell (p := ⟨bx, 0, none⟩) (l_bx)).trans e0, (hBwzb.cell (p := ⟨bx, 1, none⟩) (l_bx)).trans e1, (hBwzb.cell (p := ⟨bx, 2, none⟩) (l_bx)).trans e2, (hBwzb.cell (p := ⟨bx, 3, none⟩) (l_bx)).trans e3, (hBwzb.cell (p := ⟨bx, 4, none⟩) (l_bx)).trans e4⟩
     refine hK.out _ _ (fun _ => hSwzb) ?_
     clear hK K
     try simp only [Act.put, pzA, pzB, pzC]
     have Own5 := Lib.hid own5
     clear own5 gwzb kwzb hob
     refine until_one 10 rfl (by kernel_rfl) rfl (fun K hK => ?_)
     go_simp
     obtain ⟨wzc, hwzc⟩ : ∃ wld9, wld9 = wzb.alloc (.cells #[.int .i64 id, .int .i64 q0, .int .i64 un, .bool false, .slice A4 m c4] 44) := ⟨_, rfl⟩
     have hBwzc : Below w5.heap.size w5 wzc := by rw [hwzc]; exact hBwzb.alloc hBwzb.size _
     have szwzc := hBwzc.size
     have stwzc : wzb.heap.size < wzc.heap.size := by rw [hwzc]; simp
     have bbwzc : Below wzb.heap.size wzb wzc := by rw [hwzc]; exact (Below.refl _ _).alloc (Nat.le_refl _) _
     have elsB : Els hsC 5 wzc wzc.heap.size (some ⟨wzb.heap.size, 0, none⟩) [(⟨⟨id, q0, un, false, sl⟩, A4, c4⟩ : Hs)] := HBX.out wzc wzb.heap.size (by rw [hwzc]; exact heap_alloc_new _ _)
     have hSwzc : (fun w' : World => w'.cell? ⟨r, 2, none⟩ = some (.slice A N c) ∧ w'.cell? ⟨bx, 0, none⟩ = some (.int .i64 id) ∧ w'.cell? ⟨bx, 1, none⟩ = some (.int .i64 q0) ∧ w'.cell? ⟨bx, 2, none⟩ = some (.int .i64 un) ∧ w'.cell? ⟨bx, 3, none⟩ = some (.bool false) ∧ w'.cell? ⟨bx, 4, none⟩ = some (.slice A4 m c4)) wzc := ⟨(hBwzc.cell (p := ⟨r, 2, none⟩) (l_r)).trans d2, (hBwzc.cell (p := ⟨bx, 0, none⟩) (l_bx)).trans e0, (hBwzc.cell (p := ⟨bx, 1, none⟩) (l_bx)).trans e1, (hBwzc.cell (p := ⟨bx, 2, none⟩) (l_bx)).trans e2, (hBwzc.cell (p := ⟨bx, 3, none⟩) (l_bx)).trans e3, (hBwzc.cell (p := ⟨bx, 4, none⟩) (l_bx)).trans e4⟩
     rw [← hwzc]
     refine hK.out _ _ (fun _ => hSwzc) ?_
     clear hK K hwzc
     try simp only [Act.put, pzA, pzB, pzC]
     have own5 := own_keep Own5.out bbwzc
     refine until_one 11 rfl (by kernel_rfl) rfl (fun K hK => ?_)
     simp only [Go.wp_at_zero, Go.wp_at_succ]
     refine wp_append_els (C := hsC) (k := 5) _ _ _ 60 rfl w5.heap.size 44 i0 _ 56 Tryz.underlying60 hi hz0 hz1 hz2 rfl (by decide) (.slice A5 k c5) k _ rfl own5 _ (some ⟨wzb.heap.size, 0, none⟩) 1 1 [(⟨⟨id, q0, un, false, sl⟩, A4, c4⟩ : Hs)] rfl elsB rfl hsC_len hsC_one (by unfold maxLen; omega) (by omega) (by omega) ?_
     intro A7 c7 wz9 own7 g7 k7
     have hob5 : ∀ j, (Value.slice A5 k c5).ownBlock = some j → w5.heap.size ≤ j := fun j hj => (own5.lt j hj).1
     have hBwz9 : Below w5.heap.size w5 wz9 := hBwzc.grown g7 (by omega) (fun j hj => by have := hob5 j hj; omega)
     have hSwz9 : (fun w' : World => w'.cell? ⟨r, 2, none⟩ = some (.slice A N c) ∧ w'.cell? ⟨bx, 0, none⟩ = some (.int .i64 id) ∧ w'.cell? ⟨bx, 1, none⟩ = some (.int .i64 q0) ∧ w'.cell? ⟨bx, 2, none⟩ = some (.int .i64 un) ∧ w'.cell? ⟨bx, 3, none⟩ = some (.bool false) ∧ w'.cell? ⟨bx, 4, none⟩ = some (.slice A4 m c4)) wz9 := ⟨(hBwz9.cell (p := ⟨r, 2, none⟩) (l_r)).trans d2, (hBwz9.cell (p := ⟨bx, 0, none⟩) (l_bx)).trans e0, (hBwz9.cell (p := ⟨bx, 1, none⟩) (l_bx)).trans e1, (hBwz9.cell (p := ⟨bx, 2, none⟩) (l_bx)).trans e2, (hBwz9.cell (p := ⟨bx, 3, none⟩) (l_bx)).trans e3, (hBwz9.cell (p := ⟨bx, 4, none⟩) (l_bx)).trans e4⟩
     refine hK.out _ _ (fun _ => hSwz9) ?_
     clear hK K
     try simp only [Act.put, pzA, pzB, pzC]
     have Own7 := Lib.hid own7
     clear own7 own5 g7 k7 hob5
     try clear hob
     try clear elsB
     try clear ElsB
     try clear Own5
     try clear OwnE
     try clear ownE
     try clear gwza kwza
     try clear gwzb kwzb
     try clear gwzc kwzc
     refine until_one 18 rfl (by kernel_rfl) rfl (fun K hK => ?_)
     simp only [Go.wp_at_zero, Go.wp_at_succ]
     have own7 := Own7.out
     have sz9 := hBwz9.size
     refine wp_append_els (C := hsC) (k := 5) _ _ _ 60 rfl w5.heap.size 44 i0 _ 56 Tryz.underlying60 hi hz0 hz1 hz2 rfl (by decide) (.slice A7 (k + 1) c7) (k + 1) _ rfl own7 _ (atHs A k c) (c - k) (N - k) (L.drop k) rfl (HRk.out.keep hBwz9 hBwz9.size) HRkl.out hsC_len hsC_one (by unfold maxLen; omega) (by omega) (by omega) ?_
     intro A10 c10 w10 own10 g10 k10
     have hkN1 : k + 1 + (N - k) = N + 1 := by omega
     rw [hkN1] at own10 ⊢
     have hB10 : Below w5.heap.size w5 w10 := hBwz9.grown g10 (by omega) (fun j hj => (own7.lt j hj).1)
     have hS10 : (fun w' : World => w'.cell? ⟨r, 2, none⟩ = some (.slice A N c) ∧ w'.cell? ⟨bx, 0, none⟩ = some (.int .i64 id) ∧ w'.cell? ⟨bx, 1, none⟩ = some (.int .i64 q0) ∧ w'.cell? ⟨bx, 2, none⟩ = some (.int .i64 un) ∧ w'.cell? ⟨bx, 3, none⟩ = some (.bool false) ∧ w'.cell? ⟨bx, 4, none⟩ = some (.slice A4 m c4)) w10 := ⟨(hB10.cell (p := ⟨r, 2, none⟩) (l_r)).trans d2, (hB10.cell (p := ⟨bx, 0, none⟩) (l_bx)).trans e0, (hB10.cell (p := ⟨bx, 1, none⟩) (l_bx)).trans e1, (hB10.cell (p := ⟨bx, 2, none⟩) (l_bx)).trans e2, (hB10.cell (p := ⟨bx, 3, none⟩) (l_bx)).trans e3, (hB10.cell (p := ⟨bx, 4, none⟩) (l_bx)).trans e4⟩
     have HFX := Lib.hid (HFin.out w10 A10 c10 hB10 (by rw [List.flatMap_append, List.flatMap_append]; exact own10))
     have z2 : w10.frozen? ⟨r, 2, none⟩ = false := frozen_blk ((hB10.block r l_r).trans HRW.out)
     have HR10 := Lib.hid ((hB10.block r l_r).trans HRW.out)
     refine hK.out _ _ (fun _ => hS10) ?_
     clear hK K own7 own10 g10 k10 sz9 hB10
     try simp only [Act.put, pzA, pzB, pzC]
     refine until_one 19 rfl (by kernel_rfl) rfl (fun K hK => ?_)
     go_simp
     refine hK.out _ _ (fun _ => hS10) ?_
     clear hK K
     try simp only [Act.put, pzA, pzB, pzC]
     refine until_one 20 rfl (by kernel_rfl) rfl (fun K hK => ?_)
     go_simp
     refine hK.out _ _ (fun _ => hS10) ?_
     clear hK K
     try simp only [Act.put, pzA, pzB, pzC]
     refine until_one 21 rfl (by kernel_rfl) rfl (fun K hK => ?_)
     go_simp
     refine hK.out _ _ (fun h => absurd h (by decide)) ?_
     clear hK K
     refine until_done (by kernel_rfl) ?_
     go_wp2_with fail
     refine (rdone_raw ver (blk_put (i := 2) (.slice A10 (N + 1) c10) HR10.out) (by omega)).mono ?_
     rintro e w12 ⟨rfl, rfl⟩
     go_wp2
     go_ret
     exact ⟨by first | rfl | trivial, HFX.out⟩

    ·have OwnE := Lib.hid ownE
     clear ownE
     go_simp
     obtain ⟨wzb, hwzb⟩ : ∃ wld9, wld9 = wza.alloc (.cells #[.int .i64 id, .int .i64 q0, .int .i64 un, .bool false, .slice A4 m c4] 44) := ⟨_, rfl⟩
     have hBwzb : Below w5.heap.size w5 wzb := by rw [hwzb]; exact hBwza.alloc hBwza.size _
     have szwzb := hBwzb.size
     have stwzb : wza.heap.size < wzb.heap.size := by rw [hwzb]; simp
     have bbwzb : Below wza.heap.size wza wzb := by rw [hwzb]; exact (Below.refl _ _).alloc (Nat.le_refl _) _
     have elsB : Els hsC 5 wzb wzb.heap.size (some ⟨wza.heap.size, 0, none⟩) [(⟨⟨id, q0, un, false, sl⟩, A4, c4⟩ : Hs)] := HBX.out wzb wza.heap.size (by rw [hwzb]; exact heap_alloc_new _ _)
     have hSwzb : (fun w' : World => w'.cell? ⟨r, 2, none⟩ = some (.slice A N c) ∧ w'.cell? ⟨bx, 0, none⟩ = some (.int .i64 id) ∧ w'.cell? ⟨bx, 1, none⟩ = some (.int .i64 q0) ∧ w'.cell? ⟨bx, 2, none⟩ = some (.int .i64 un) ∧ w'.cell? ⟨bx, 3, none⟩ = some (.bool false) ∧ w'.cell? ⟨bx, 4, none⟩ = some (.slice A4 m c4)) wzb := ⟨(hBwzb.cell (p := ⟨r, 2, none⟩) (l_r)).trans d2, (hBwzb.cell (p := ⟨bx, 0, none⟩) (l_bx)).trans e0, (hBwzb.cell (p := ⟨bx, 1, none⟩) (l_bx)).trans e1, (hBwzb.cell (p := ⟨bx, 2, none⟩) (l_bx)).trans e2, (hBwzb.cell (p := ⟨bx, 3, none⟩) (l_bx)).trans e3, (hBwzb.cell (p := ⟨bx, 4, none⟩) (l_bx)).trans e4⟩
     rw [← hwzb]
     refine hK.out _ _ (fun _ => hSwzb) ?_
     clear hK K hwzb
     try simp only [Act.put, pzA, pzB, pzC]
     have ownE := own_keep OwnE.out bbwzb
     refine until_one 8 rfl (by kernel_rfl) rfl (fun K hK => ?_)
     simp only [Go.wp_at_zero, Go.wp_at_succ]
     refine wp_append_els (C := hsC) (k := 5) _ _ _ 60 rfl w5.heap.size 44 i0 _ 56 Tryz.underlying60 hi hz0 hz1 hz2 rfl (by decide) (.slice (some ⟨wz0.heap.size, 0, none⟩) 0 0) 0 [] rfl ownE w5.heap.size (atHs A 0 c) c k (L.take k) rfl (Els.keep HLk.out (hBwzb) (Nat.le_refl _)) HLkl.out hsC_len hsC_one (by unfold maxLen; omega) (by omega) (by omega) ?_
     intro A5 c5 wzc own5 gwzc kwzc
     rw [Nat.zero_add] at own5 ⊢
     rw [List.nil_append] at own5
     have hob : ∀ j, (Value.slice (some ⟨wz0.heap.size, 0, none⟩) 0 0).ownBlock = some j → j = wz0.heap.size := fun j hj => by simpa [Value.ownBlock] using hj.symm
     have hBwzc : Below w5.heap.size w5 wzc := hBwzb.grown gwzc (by omega) (fun j hj => by have := hob j hj; omega)
     have szwzc := hBwzc.size
     have stwzc := gwzc.size
     have hSwzc : (fun w' : World => w'.cell? ⟨r, 2, none⟩ = some (.slice A N c) ∧ w'.cell? ⟨bx, 0, none⟩ = some (.int .i64 id) ∧ w'.cell? ⟨bx, 1, none⟩ = some (.int .i64 q0) ∧ w'.cell? ⟨bx, 2, none⟩ = some (.int .i64 un) ∧ w'.cell? ⟨bx, 3, none⟩ = some (.bool false) ∧ w'.cell? ⟨bx, 4, none⟩ = some (.slice A4 m c4)) wzc := ⟨(hBwzc.cell (p := ⟨r, 2, none⟩) (l_r)).trans d2, (hBwzc.cell (p := ⟨bx, 0, none⟩) (l_bx)).trans e0, (hBwzc.cell (p := ⟨bx, 1, none⟩) (l_bx)).trans e1, (hBwzc.cell (p := ⟨bx, 2, none⟩) (l_bx)).trans e2, (hBwzc.cell (p := ⟨bx, 3, none⟩) (l_bx)).trans e3, (hBwzc.cell (p := ⟨bx, 4, none⟩) (l_bx)).trans e4⟩
     have elsB : Els hsC 5 wzc wzc.heap.size (some ⟨wza.heap.size, 0, none⟩) [(⟨⟨id, q0, un, false, sl⟩, A4, c4⟩ : Hs)] := (elsB.off (w' := wzc) fun b2 o2 e2 hb2 => gwzc.block b2 hb2 (fun e => by have := hob b2 e.symm; injection e2 with e2; injection e2 with e2; omega)).imp stwzc fun _ _ _ _ hd => hd
     refine hK.out _ _ (fun _ => hSwzc) ?_
     clear hK K
     try simp only [Act.put, pzA, pzB, pzC]
     refine until_one 11 rfl (by kernel_rfl) rfl (fun K hK => ?_)
     simp only [Go.wp_at_zero, Go.wp_at_succ]
     refine wp_append_els (C := hsC) (k := 5) _ _ _ 60 rfl w5.heap.size 44 i0 _ 56 Tryz.underlying60 hi hz0 hz1 hz2 rfl (by decide) (.slice A5 k c5) k _ rfl own5 _ (some ⟨wza.heap.size, 0, none⟩) 1 1 [(⟨⟨id, q0, un, false, sl⟩, A4, c4⟩ : Hs)] rfl elsB rfl hsC_len hsC_one (by unfold maxLen; omega) (by omega) (by omega) ?_
     intro A7 c7 wz9 own7 g7 k7
     have hob5 : ∀ j, (Value.slice A5 k c5).ownBlock = some j → w5.heap.size ≤ j := fun j hj => (own5.lt j hj).1
     have hBwz9 : Below w5.heap.size w5 wz9 := hBwzc.grown g7 (by omega) (fun j hj => by have := hob5 j hj; omega)
     have hSwz9 : (fun w' : World => w'.cell? ⟨r, 2, none⟩ = some (.slice A N c) ∧ w'.cell? ⟨bx, 0, none⟩ = some (.int .i64 id) ∧ w'.cell? ⟨bx, 1, none⟩ = some (.int .i64 q0) ∧ w'.cell? ⟨bx, 2, none⟩ = some (.int .i64 un) ∧ w'.cell? ⟨bx, 3, none⟩ = some (.bool false) ∧ w'.cell? ⟨bx, 4, none⟩ = some (.slice A4 m c4)) wz9 := ⟨(hBwz9.cell (p := ⟨r, 2, none⟩) (l_r)).trans d2, (hBwz9.cell (p := ⟨bx, 0, none⟩) (l_bx)).trans e0, (hBwz9.cell (p := ⟨bx, 1, none⟩) (l_bx)).trans e1, (hBwz9.cell (p := ⟨bx, 2, none⟩) (l_bx)).trans e2, (hBwz9.cell (p := ⟨bx, 3, none⟩) (l_bx)).trans e3, (hBwz9.cell (p := ⟨bx, 4, none⟩) (l_bx)).trans e4⟩
     refine hK.out _ _ (fun _ => hSwz9) ?_
     clear hK K
     try simp only [Act.put, pzA, pzB, pzC]
     have Own7 := Lib.hid own7
     clear own7 own5 g7 k7 hob5
     try clear hob
     try clear elsB
     try clear ElsB
     try clear Own5
     try clear OwnE
     try clear ownE
     try clear gwza kwza
     try clear gwzb kwzb
     try clear gwzc kwzc
     refine until_one 18 rfl (by kernel_rfl) rfl (fun K hK => ?_)
     simp only [Go.wp_at_zero, Go.wp_at_succ]
     have own7 := Own7.out
     have sz9 := hBwz9.size
     refine wp_append_els (C := hsC) (k := 5) _ _ _ 60 rfl w5.heap.size 44 i0 _ 56 Tryz.underlying60 hi hz0 hz1 hz2 rfl (by decide) (.slice A7 (k + 1) c7) (k + 1) _ rfl own7 _ (atHs A k c) (c - k) (N - k) (L.drop k) rfl (HRk.out.keep hBwz9 hBwz9.size) HRkl.out hsC_len hsC_one (by unfold maxLen; omega) (by omega) (by omega) ?_
     intro A10 c10 w10 own10 g10 k10
     have hkN1 : k + 1 + (N - k) = N + 1 := by omega
     rw [hkN1] at own10 ⊢
     have hB10 : Below w5.heap.size w5 w10 := hBwz9.grown g10 (by omega) (fun j hj => (own7.lt j hj).1)
     have hS10 : (fun w' : World => w'.cell? ⟨r, 2, none⟩ = some (.slice A N c) ∧ w'.cell? ⟨bx, 0, none⟩ = some (.int .i64 id) ∧ w'.cell? ⟨bx, 1, none⟩ = some (.int .i64 q0) ∧ w'.cell? ⟨bx, 2, none⟩ = some (.int .i64 un) ∧ w'.cell? ⟨bx, 3, none⟩ = some (.bool false) ∧ w'.cell? ⟨bx, 4, none⟩ = some (.slice A4 m c4)) w10 := ⟨(hB10.cell (p := ⟨r, 2, none⟩) (l_r)).trans d2, (hB10.cell (p := ⟨bx, 0, none⟩) (l_bx)).trans e0, (hB10.cell (p := ⟨bx, 1, none⟩) (l_bx)).trans e1, (hB10.cell (p := ⟨bx, 2, none⟩) (l_bx)).trans e2, (hB10.cell (p := ⟨bx, 3, none⟩) (l_bx)).trans e3, (hB10.cell (p := ⟨bx, 4, none⟩) (l_bx)).trans e4⟩
     have HFX := Lib.hid (HFin.out w10 A10 c10 hB10 (by rw [List.flatMap_append, List.flatMap_append]; exact own10))
     have z2 : w10.frozen? ⟨r, 2, none⟩ = false := frozen_blk ((hB10.block r l_r).trans HRW.out)
     have HR10 := Lib.hid ((hB10.block r l_r).trans HRW.out)
     refine hK.out _ _ (fun _ => hS10) ?_
     clear hK K own7 own10 g10 k10 sz9 hB10
     try simp only [Act.put, pzA, pzB, pzC]
     refine until_one 19 rfl (by kernel_rfl) rfl (fun K hK => ?_)
     go_simp
     refine hK.out _ _ (fun _ => hS10) ?_
     clear hK K
     try simp only [Act.put, pzA, pzB, pzC]
     refine until_one 20 rfl (by kernel_rfl) rfl (fun K hK => ?_)
     go_simp
     refine hK.out _ _ (fun _ => hS10) ?_
     clear hK K
     try simp only [Act.put, pzA, pzB, pzC]
     refine until_one 21 rfl (by kernel_rfl) rfl (fun K hK => ?_)
     go_simp
     refine hK.out _ _ (fun h => absurd h (by decide)) ?_
     clear hK K
     refine until_done (by kernel_rfl) ?_
     go_wp2_with fail
     refine (rdone_raw ver (blk_put (i := 2) (.slice A10 (N + 1) c10) HR10.out) (by omega)).mono ?_
     rintro e w12 ⟨rfl, rfl⟩
     go_wp2
     go_ret
     exact ⟨by first | rfl | trivial, HFX.out⟩


   ·go_simp
    obtain ⟨wza, hwza⟩ : ∃ wld9, wld9 = wz0.alloc (.cells #[.int .i64 id, .int .i64 q0, .int .i64 un, .bool false, .slice A4 m c4] 44) := ⟨_, rfl⟩
    have hBwza : Below w5.heap.size w5 wza := by rw [hwza]; exact hBz0.alloc hBz0.size _
    have szwza := hBwza.size
    have stwza : wz0.heap.size < wza.heap.size := by rw [hwza]; simp
    have bbwza : Below wz0.heap.size wz0 wza := by rw [hwza]; exact (Below.refl _ _).alloc (Nat.le_refl _) _
    have elsB : Els hsC 5 wza wza.heap.size (some ⟨wz0.heap.size, 0, none⟩) [(⟨⟨id, q0, un, false, sl⟩, A4, c4⟩ : Hs)] := HBX.out wza wz0.heap.size (by rw [hwza]; exact heap_alloc_new _ _)
    have hSwza : (fun w' : World => w'.cell? ⟨r, 2, none⟩ = some (.slice A N c) ∧ w'.cell? ⟨bx, 0, none⟩ = some (.int .i64 id) ∧ w'.cell? ⟨bx, 1, none⟩ = some (.int .i64 q0) ∧ w'.cell? ⟨bx, 2, none⟩ = some (.int .i64 un) ∧ w'.cell? ⟨bx, 3, none⟩ = some (.bool false) ∧ w'.cell? ⟨bx, 4, none⟩ = some (.slice A4 m c4)) wza := ⟨(hBwza.cell (p := ⟨r, 2, none⟩) (l_r)).trans d2, (hBwza.cell (p := ⟨bx, 0, none⟩) (l_bx)).trans e0, (hBwza.cell (p := ⟨bx, 1, none⟩) (l_bx)).trans e1, (hBwza.cell (p := ⟨bx, 2, none⟩) (l_bx)).trans e2, (hBwza.cell (p := ⟨bx, 3, none⟩) (l_bx)).trans e3, (hBwza.cell (p := ⟨bx, 4, none⟩) (l_bx)).trans e4⟩
    rw [← hwza]
    refine hK.out _ _ (fun _ => hSwza) ?_
    clear hK K hwza
    try simp only [Act.put, pzA, pzB, pzC]
    have ElsB := Lib.hid elsB
    clear elsB
    refine until_one 1 rfl (by kernel_rfl) rfl (fun K hK => ?_)
    go_simp
    obtain ⟨wzb, hwzb⟩ : ∃ wld9, wld9 = wza.alloc (.cells #[] 44) := ⟨_, rfl⟩
    have hBwzb : Below w5.heap.size w5 wzb := by rw [hwzb]; exact hBwza.alloc hBwza.size _
    have szwzb := hBwzb.size
    have stwzb : wza.heap.size < wzb.heap.size := by rw [hwzb]; simp
    have bbwzb : Below wza.heap.size wza wzb := by rw [hwzb]; exact (Below.refl _ _).alloc (Nat.le_refl _) _
    have ownE : wzb.ownsRow w5.heap.size 44 5 (.slice (some ⟨wza.heap.size, 0, none⟩) 0 0) 0 [] := by rw [hwzb]; exact World.ownsRow_lit wza #[] 0 (by have := hBwza.size; omega) (by unfold maxLen; omega) rfl
    have hSwzb : (fun w' : World => w'.cell? ⟨r, 2, none⟩ = some (.slice A N c) ∧ w'.cell? ⟨bx, 0, none⟩ = some (.int .i64 id) ∧ w'.cell? ⟨bx, 1, none⟩ = some (.int .i64 q0) ∧ w'.cell? ⟨bx, 2, none⟩ = some (.int .i64 un) ∧ w'.cell? ⟨bx, 3, none⟩ = some (.bool false) ∧ w'.cell? ⟨bx, 4, none⟩ = some (.slice A4 m c4)) wzb := ⟨(hBwzb.cell (p := ⟨r, 2, none⟩) (l_r)).trans d2, (hBwzb.cell (p := ⟨bx, 0, none⟩) (l_bx)).trans e0, (hBwzb.cell (p := ⟨bx, 1, none⟩) (l_bx)).trans e1, (hBwzb.cell (p := ⟨bx, 2, none⟩) (l_bx)).trans e2, (hBwzb.cell (p := ⟨bx, 3, none⟩) (l_bx)).trans e3, (hBwzb.cell (p := ⟨bx, 4, none⟩) (l_bx)).trans e4⟩
    rw [← hwzb]
    refine hK.out _ _ (fun _ => hSwzb) ?_
    clear hK K hwzb
    try simp only [Act.put, pzA, pzB, pzC]
    have elsB : Els hsC 5 wzb wzb.heap.size (some ⟨wz0.heap.size, 0, none⟩) [(⟨⟨id, q0, un, false, sl⟩, A4, c4⟩ : Hs)] := ElsB.out.keep bbwzb (by omega)
    refine until_one 8 rfl (by kernel_rfl) rfl (fun K hK => ?_)
    simp only [Go.wp_at_zero, Go.wp_at_succ]
    refine wp_append_els (C := hsC) (k := 5) _ _ _ 60 rfl w5.heap.size 44 i0 _ 56 Tryz.underlying60 hi hz0 hz1 hz2 rfl (by decide) (.slice (some ⟨wza.heap.size, 0, none⟩) 0 0) 0 [] rfl ownE w5.heap.size (atHs A 0 c) c k (L.take k) rfl (Els.keep HLk.out (hBwzb) (Nat.le_refl _)) HLkl.out hsC_len hsC_one (by unfold maxLen; omega) (by omega) (by omega) ?_
    intro A5 c5 wzc own5 gwzc kwzc
    rw [Nat.zero_add] at own5 ⊢
    rw [List.nil_append] at own5
    have hob : ∀ j, (Value.slice (some ⟨wza.heap.size, 0, none⟩) 0 0).ownBlock = some j → j = wza.heap.size := fun j hj => by simpa [Value.ownBlock] using hj.symm
    have hBwzc : Below w5.heap.size w5 wzc := hBwzb.grown gwzc (by omega) (fun j hj => by have := hob j hj; omega)
    have szwzc := hBwzc.size
    have stwzc := gwzc.size
    have hSwzc : (fun w' : World => w'.cell? ⟨r, 2, none⟩ = some (.slice A N c) ∧ w'.cell? ⟨bx, 0, none⟩ = some (.int .i64 id) ∧ w'.cell? ⟨bx, 1, none⟩ = some (.int .i64 q0) ∧ w'.cell? ⟨bx, 2, none⟩ = some (.int .i64 un) ∧ w'.cell? ⟨bx, 3, none⟩ = some (.bool false) ∧ w'.cell? ⟨bx, 4, none⟩ = some (.slice A4 m c4)) wzc := ⟨(hBwzc.cell (p := ⟨r, 2, none⟩) (l_r)).trans d2, (hBwzc.cell (p := ⟨bx, 0, none⟩) (l_bx)).trans e0, (hBwzc.cell (p := ⟨bx, 1, none⟩) (l_bx)).trans e1, (hBwzc.cell (p := ⟨bx, 2, none⟩) (l_bx)).trans e2, (hBwzc.cell (p := ⟨bx, 3, none⟩) (l_bx)).trans e3, (hBwzc.cell (p := ⟨bx, 4, none⟩) (l_bx)).trans e4⟩
    have elsB : Els hsC 5 wzc wzc.heap.size (some ⟨wz0.heap.size, 0, none⟩) [(⟨⟨id, q0, un, false, sl⟩, A4, c4⟩ : Hs)] := (elsB.off (w' := wzc) fun b2 o2 e2 hb2 => gwzc.block b2 hb2 (fun e => by have := hob b2 e.symm; injection e2 with e2; injection e2 with e2; omega)).imp stwzc fun _ _ _ _ hd => hd
    refine hK.out _ _ (fun _ => hSwzc) ?_
    clear hK K
    try simp only [Act.put, pzA, pzB, pzC]
    refine until_one 11 rfl (by kernel_rfl) rfl (fun K hK => ?_)
    simp only [Go.wp_at_zero, Go.wp_at_succ]
    refine wp_append_els (C := hsC) (k := 5) _ _ _ 60 rfl w5.heap.size 44 i0 _ 56 Tryz.underlying60 hi hz0 hz1 hz2 rfl (by decide) (.slice A5 k c5) k _ rfl own5 _ (some ⟨wz0.heap.size, 0, none⟩) 1 1 [(⟨⟨id, q0, un, false, sl⟩, A4, c4⟩ : Hs)] rfl elsB rfl hsC_len hsC_one (by unfold maxLen; omega) (by omega) (by omega) ?_
    intro A7 c7 wz9 own7 g7 k7
    have hob5 : ∀ j, (Value.slice A5 k c5).ownBlock = some j → w5.heap.size ≤ j := fun j hj => (own5.lt j hj).1
    have hBwz9 : Below w5.heap.size w5 wz9 := hBwzc.grown g7 (by omega) (fun j hj => by have := hob5 j hj; omega)
    have hSwz9 : (fun w' : World => w'.cell? ⟨r, 2, none⟩ = some (.slice A N c) ∧ w'.cell? ⟨bx, 0, none⟩ = some (.int .i64 id) ∧ w'.cell? ⟨bx, 1, none⟩ = some (.int .i64 q0) ∧ w'.cell? ⟨bx, 2, none⟩ = some (.int .i64 un) ∧ w'.cell? ⟨bx, 3, none⟩ = some (.bool false) ∧ w'.cell? ⟨bx, 4, none⟩ = some (.slice A4 m c4)) wz9 := ⟨(hBwz9.cell (p := ⟨r, 2, none⟩) (l_r)).trans d2, (hBwz9.cell (p := ⟨bx, 0, none⟩) (l_bx)).trans e0, (hBwz9.cell (p := ⟨bx, 1, none⟩) (l_bx)).trans e1, (hBwz9.cell (p := ⟨bx, 2, none⟩) (l_bx)).trans e2, (hBwz9.cell (p := ⟨bx, 3, none⟩) (l_bx)).trans e3, (hBwz9.cell (p := ⟨bx, 4, none⟩) (l_bx)).trans e4⟩
    refine hK.out _ _ (fun _ => hSwz9) ?_
    clear hK K
    try simp only [Act.put, pzA, pzB, pzC]
    have Own7 := Lib.hid own7
    clear own7 own5 g7 k7 hob5
    try clear hob
    try clear elsB
    try clear ElsB
    try clear Own5
    try clear OwnE
    try clear ownE
    try clear gwza kwza
    try clear gwzb kwzb
    try clear gwzc kwzc
    refine until_one 18 rfl (by kernel_rfl) rfl (fun K hK => ?_)
    simp only [Go.wp_at_zero, Go.wp_at_succ]
    have own7 := Own7.out
    have sz9 := hBwz9.size
    refine wp_append_els (C := hsC) (k := 5) _ _ _ 60 rfl w5.heap.size 44 i0 _ 56 Tryz.underlying60 hi hz0 hz1 hz2 rfl (by decide) (.slice A7 (k + 1) c7) (k + 1) _ rfl own7 _ (atHs A k c) (c - k) (N - k) (L.drop k) rfl (HRk.out.keep hBwz9 hBwz9.size) HRkl.out hsC_len hsC_one (by unfold maxLen; omega) (by omega) (by omega) ?_
    intro A10 c10 w10 own10 g10 k10
    have hkN1 : k + 1 + (N - k) = N + 1 := by omega
    rw [hkN1] at own10 ⊢
    have hB10 : Below w5.heap.size w5 w10 := hBwz9.grown g10 (by omega) (fun j hj => (own7.lt j hj).1)
    have hS10 : (fun w' : World => w'.cell? ⟨r, 2, none⟩ = some (.slice A N c) ∧ w'.cell? ⟨bx, 0, none⟩ = some (.int .i64 id) ∧ w'.cell? ⟨bx, 1, none⟩ = some (.int .i64 q0) ∧ w'.cell? ⟨bx, 2, none⟩ = some (.int .i64 un) ∧ w'.cell? ⟨bx, 3, none⟩ = some (.bool false) ∧ w'.cell? ⟨bx, 4, none⟩ = some (.slice A4 m c4)) w10 := ⟨(hB10.cell (p := ⟨r, 2, none⟩) (l_r)).trans d2, (hB10.cell (p := ⟨bx, 0, none⟩) (l_bx)).trans e0, (hB10.cell (p := ⟨bx, 1, none⟩) (l_bx)).trans e1, (hB10.cell (p := ⟨bx, 2, none⟩) (l_bx)).trans e2, (hB10.cell (p := ⟨bx, 3, none⟩) (l_bx)).trans e3, (hB10.cell (p := ⟨bx, 4, none⟩) (l_bx)).trans e4⟩
    have HFX := Lib.hid (HFin.out w10 A10 c10 hB10 (by rw [List.flatMap_append, List.flatMap_append]; exact own10))
    have z2 : w10.frozen? ⟨r, 2, none⟩ = false := frozen_blk ((hB10.block r l_r).trans HRW.out)
    have HR10 := Lib.hid ((hB10.block r l_r).trans HRW.out)
    refine hK.out _ _ (fun _ => hS10) ?_
    clear hK K own7 own10 g10 k10 sz9 hB10
    try simp only [Act.put, pzA, pzB, pzC]
    refine until_one 19 rfl (by kernel_rfl) rfl (fun K hK => ?_)
    go_simp
    refine hK.out _ _ (fun _ => hS10) ?_
    clear hK K
    try simp only [Act.put, pzA, pzB, pzC]
    refine until_one 20 rfl (by kernel_rfl) rfl (fun K hK => ?_)
    go_simp
    refine hK.out _ _ (fun _ => hS10) ?_
    clear hK K
    try simp only [Act.put, pzA, pzB, pzC]
    refine until_one 21 rfl (by kernel_rfl) rfl (fun K hK => ?_)
    go_simp
    refine hK.out _ _ (fun h => absurd h (by decide)) ?_
    clear hK K
    refine until_done (by kernel_rfl) ?_
    go_wp2_with fail
    refine (rdone_raw ver (blk_put (i := 2) (.slice A10 (N + 1) c10) HR10.out) (by omega)).mono ?_
    rintro e w12 ⟨rfl, rfl⟩
    go_wp2
    go_ret
    exact ⟨by first | rfl | trivial, HFX.out⟩
end
end Go.Proofs.YtgpfmlidchogcaaGreat
