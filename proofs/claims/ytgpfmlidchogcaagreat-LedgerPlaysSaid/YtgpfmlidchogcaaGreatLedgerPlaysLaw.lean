/- Whatever is reserved, committed, grown, shrunk, released, expired and drained: each call is told just as the document says; so stands the ledger behind it: the law LedgerPlays answers true, at every input. -/
import Derived.Laws.StructEq
import Derived.Test.YtgpfmlidchogcaaGreatLedActM
import Derived.Test.YtgpfmlidchogcaaGreatTopoFrame
import Derived.Test.YtgpfmlidchogcaaGreatLedRefV
import Derived.Test.YtgpfmlidchogcaaGreatLedFew
set_option linter.unusedVariables false
namespace Go.Proofs.YtgpfmlidchogcaaGreat.ledgerPlays
open Go Go.ChangeShapes Go.WideShapes Go.ChangeAt Go.RowKit
open Go.MuLone
structure LBoth (w0 w : World) (p r : Nat) (fs : List Fr) (sa sb : LS) (F D : Nat → Prop) : Prop where
 a : LObj w p F fs sa
 b : RL w r D fs sb
 hF : ∀ i, F i → w0.heap.size ≤ i
 hD : ∀ i, D i → w0.heap.size ≤ i ∧ i < w.heap.size
 ne : ∀ i, F i → ¬ D i
 bel : Below w0.heap.size w0 w
section
variable {w0 w w' : World} {p r : Nat} {fs : List Fr} {sa sb sa' sb' : LS} {F D F' : Nat → Prop}
theorem LBoth.keep (h : LBoth w0 w p r fs sa sb F D) (hb : Below w.heap.size w w') : LBoth w0 w' p r fs sa sb F D :=
 ⟨h.a.keep hb, h.b.keep hb, h.hF, fun i hi => ⟨(h.hD i hi).1, Nat.lt_of_lt_of_le (h.hD i hi).2 hb.size⟩, h.ne, h.bel.trans (hb.mono h.bel.size)⟩
theorem LBoth.stepA (h : LBoth w0 w p r fs sa sb F D) (h' : LObj w' p F' fs sa') (hf : Foot F w w') (hy : ∀ i, F' i → F i ∨ w.heap.size ≤ i) : LBoth w0 w' p r fs sa' sb F' D :=
 ⟨h', h.b.stay hf.size fun i hi hd => hf.block i hi fun hF => h.ne i hF hd, fun i hi => by rcases hy i hi with e | e; exact h.hF i e; exact Nat.le_trans h.bel.size e, fun i hi => ⟨(h.hD i hi).1, Nat.lt_of_lt_of_le (h.hD i hi).2 hf.size⟩,
  fun i hi hd => by
   rcases hy i hi with e | e
   ·exact h.ne i e hd
   ·have := (h.hD i hd).2; omega, h.bel.trans (hf.below h.bel.size h.hF)⟩
theorem LBoth.stepB (h : LBoth w0 w p r fs sa sb F D) (hn : RNext w w' r D fs sb') : ∃ D', LBoth w0 w' p r fs sa sb' F D' ∧ Foot D w w' := by
 obtain ⟨D', h1, hf, hy⟩ := hn
 have hl := h.a.lt.2
 refine ⟨D', ⟨h.a.foot hf h.ne, h1, h.hF, fun i hi => ?_, fun i hi hd => ?_, h.bel.trans (hf.below h.bel.size fun i hi => (h.hD i hi).1)⟩, hf⟩
 ·have := h.bel.size
  have := hf.size
  rcases hy i hi with e | e
  ·have := h.hD i e; omega
  ·omega
 ·rcases hy i hd with e | e
  ·exact h.ne i hi e
  ·have := hl i hi; omega
theorem LBoth.made {w1 w2 w3 : World} (h0 : Below w0.heap.size w0 w1) (ha : LObj w2 p F fs sa) (hF : ∀ i, F i → w1.heap.size ≤ i) (h1 : Below w1.heap.size w1 w2) (hb : RL w3 r D fs sb) (hD : ∀ i, D i → w2.heap.size ≤ i ∧ i < w3.heap.size) (h2 : Below w2.heap.size w2 w3) : LBoth w0 w3 p r fs sa sb F D :=
 ⟨ha.keep h2, hb, fun i hi => Nat.le_trans h0.size (hF i hi), fun i hi => ⟨by have := hD i hi; have := h0.size; have := h1.size; omega, (hD i hi).2⟩, fun i hi hd => by have := ha.lt.2 i hi; have := hD i hd; omega, below_step (below_step h0 h1) h2⟩
end
theorem act_told (fs : List Fr) (st : LS) (a : La) (h : ∀ g ∈ st.hs, g.sl.length ≤ 16) : (LM.act fs st a).1.ids.length ≤ st.hs.length ∧ (LM.act fs st a).1.hold.sl.length ≤ 16 := by
 have hid : ∀ p, (LM.idsOf st p).length ≤ st.hs.length := fun p => by unfold LM.idsOf; rw [List.length_map]; exact List.length_filter_le _ _
 have hno : LM.noHd.sl.length ≤ 16 := by simp [LM.noHd]
 unfold LM.act
 split
 ·exact ⟨Nat.zero_le _, hno⟩
 split
 ·exact ⟨Nat.zero_le _, hno⟩
 split
 ·exact ⟨Nat.zero_le _, hno⟩
 split
 ·exact ⟨Nat.zero_le _, hno⟩
 split
 ·refine ⟨Nat.zero_le _, ?_⟩
  unfold LM.release
  split
  ·exact hno
  ·rename_i g hg
   exact h g (LM.find_some hg).1
 split
 ·exact ⟨hid _, hno⟩
 split
 ·refine ⟨?_, hno⟩
  unfold LM.drain
  split
  ·exact Nat.zero_le _
  ·exact hid _
 ·exact ⟨Nat.zero_le _, hno⟩
set_option maxRecDepth 100000 in
set_option maxHeartbeats 4000000 in
theorem walk (a0 : Option Addr) (c0 : Nat) (n0 : List (List (Int × Int))) (a1 : Option Addr) (c1 : Nat) (l1 : List Un) (a2 : Option Addr) (c2 : Nat) (l2 : List La) (w : World) (w0 : Nodes w w.heap.size a0 n0) (lc0 : n0.length ≤ c0) (mc0 : c0 ≤ maxLen)
  (v1 : Uns w w.heap.size a1 l1) (q1 : ∀ a ∈ l1, UnW a) (lc1 : l1.length ≤ c1) (mc1 : c1 ≤ maxLen) (v2 : Las w w.heap.size a2 l2) (q2 : ∀ a ∈ l2, LaOk a) (lc2 : l2.length ≤ c2) (mc2 : c2 ≤ maxLen) :
  Calls Tryz.prog 3 #[.agg #[.slice a0 n0.length c0], .slice a1 l1.length c1, .slice a2 l2.length c2] w fun e w' => e = .returned (.bool true) ∧ Below w.heap.size w w' := by
 have hA := Lib.hid awake_l
 obtain ⟨m, hm⟩ : ∃ m, n0.length = m := ⟨_, rfl⟩
 obtain ⟨k1, hk1⟩ : ∃ k, l1.length = k := ⟨_, rfl⟩
 obtain ⟨n, hn⟩ : ∃ k, l2.length = k := ⟨_, rfl⟩
 have hF0 := fun W (hW : Below w.heap.size w W) => few_l a0 a1 a2 c0 c1 c2 n0 l1 l2 W (Nodes.keep w0 hW hW.size) (v1.keep hW hW.size) (v2.up hW hW.size) (Nat.le_trans lc2 mc2) (fun a ha => (q2 a ha).few)
 rw [hm, hk1, hn] at hF0
 have hN0 := fun W (hW : Below w.heap.size w W) => lnew_l a0 a1 c0 c1 n0 l1 W (Nodes.keep w0 hW hW.size) (v1.keep hW hW.size)
 rw [hm, hk1] at hN0
 rw [hm, hk1, hn]
 have k0 : (w.alloc (.cells #[.slice a0 m c0] 24)).cell? ⟨w.heap.size, 0, none⟩ = some (.slice a0 m c0) := by go_simp
 have hBa := (Below.refl w.heap.size w).alloc (Nat.le_refl _) (.cells #[.slice a0 m c0] 24)
 cases hf : few8 n0 l1 l2
 ·rw [hf] at hF0
  have hF := Lib.hid hF0
  clear hF0 hN0 w0 v1 v2 q1 q2 hm hk1 hn lc0 mc0 lc1 mc1 lc2 mc2 hf
  go_enter Tryz.func3, Tryz.ntmps3
  go_wp2_with (first
   | (go_at_call 4; refine (hA.out _).mono ?_; rintro e u2 ⟨rfl, hb2⟩; have hB2 := below_step hBa hb2; have k2 := (hb2.cell (p := ⟨w.heap.size, 0, none⟩) (by simp)).trans k0; have s2 := hb2.size; simp at s2)
   | (go_at_call 5; refine (hF.out _ hB2).mono ?_; rintro e u3 ⟨rfl, hb3⟩; have hB3 := below_step hB2 hb3; have k3 := (hb3.cell (p := ⟨w.heap.size, 0, none⟩) (show w.heap.size < _ by omega)).trans k2))
  go_ret
  exact ⟨rfl, hB3⟩
 rw [hf] at hF0
 have hF := Lib.hid hF0
 have hf2 := hf
 unfold few8 at hf2
 simp only [Bool.and_eq_true] at hf2
 obtain ⟨⟨hc, hq⟩, hfl⟩ := hf2
 have hn60 : n ≤ 60 := by unfold fewLs at hfl; simp only [Bool.and_eq_true, decide_eq_true_eq] at hfl; omega
 have hN2 := fun W hW => (hN0 W hW).mono fun e w' (hl : LNew n0 l1 W e w') => show ∃ p F, e = .returned (.tuple #[.pointer (some ⟨p, 0, none⟩), .int .i64 0]) ∧ LObj w' p F (frees n0) (LM.init n0 l1) ∧ (∀ i, F i → W.heap.size ≤ i) ∧ Below W.heap.size W w' from by
  rcases hl.2 with ⟨h2 | h2, _⟩ | ⟨_, _, p, F, he, ho, hF⟩
  ·rw [hc] at h2; cases h2
  ·rw [hq] at h2; cases h2
  ·exact ⟨p, F, he, ho, hF, hl.1⟩
 have hN := Lib.hid hN2
 have hM0 := fun W (hW : Below w.heap.size w W) => rnew8_l a0 c0 n0 a1 c1 l1 W (Nodes.keep w0 hW hW.size) hc (v1.keep hW hW.size) hq
 rw [hm, hk1] at hM0
 have h40 : ∀ a ∈ l2, a.sl.length ≤ 40 := by
  unfold fewLs at hfl
  simp only [Bool.and_eq_true, decide_eq_true_eq, List.all_eq_true] at hfl
  exact hfl.2
 have H := Lib.hid (And.intro v2 (And.intro q2 (And.intro hn h40)))
 have hver0 : (LM.init n0 l1).ver = 0 := rfl
 obtain ⟨st0, hst0⟩ : ∃ st, st = LM.init n0 l1 := ⟨_, rfl⟩
 obtain ⟨fs, hfs⟩ : ∃ fs, fs = frees n0 := ⟨_, rfl⟩
 rw [← hst0] at hver0
 simp only [← hst0, ← hfs] at hM0 hN
 have hM := Lib.hid hM0
 clear hF0 hN0 hN2 hM0 h40 w0 v1 v2 q1 q2 hm hk1 hn lc0 mc0 lc1 mc1 lc2 mc2 hf hc hq hfl hst0 hfs
 go_enter Tryz.func3, Tryz.ntmps3
 go_wp2_with (first
  | (go_at_call 4; refine (hA.out _).mono ?_; rintro e u2 ⟨rfl, hb2⟩; have hB2 := below_step hBa hb2; have k2 := (hb2.cell (p := ⟨w.heap.size, 0, none⟩) (by simp)).trans k0; have s2 := hb2.size; simp at s2)
  | (go_at_call 5; refine (hF.out _ hB2).mono ?_; rintro e u3 ⟨rfl, hb3⟩; have hB3 := below_step hB2 hb3; have k3 := (hb3.cell (p := ⟨w.heap.size, 0, none⟩) (show w.heap.size < _ by omega)).trans k2)
  | (go_at_call 6; refine (hN.out _ hB3).mono ?_; rintro e u4 ⟨p, F4, rfl, ho4, hF4, hb4⟩; have HL4 := Lib.hid (And.intro ho4 (And.intro hF4 (And.intro hb4 hB3))); have hB4 := below_step hB3 hb4; have l3 : w.heap.size < u3.heap.size := (by have := hb3.size; omega); have k4 := (hb4.cell (p := ⟨w.heap.size, 0, none⟩) l3).trans k3; clear ho4 hF4)
  | (go_at_call 7; refine (hM.out _ hB4).mono ?_; rintro e u5 ⟨r, D5, rfl, hr5, hD5, hb5⟩; have HB5 := Lib.hid (LBoth.made HL4.out.2.2.2 HL4.out.1 HL4.out.2.1 HL4.out.2.2.1 hr5 hD5 hb5); clear hr5 hD5 hb5))
 clear k0 k2 k3 k4 hBa hB2 hB3 hB4 hb2 hb3 hb4 s2 hA hF hN hM HL4 l3
 go_loopw [10] (fun i wr => ∃ k : Nat, i = .int .i64 k ∧ k ≤ n ∧ Hid (∃ F D st, LBoth w wr p r fs st st F D ∧ st.ver ≤ k)) (fun i _ => n - (intOf i).toNat)
 case atStart => exact ⟨0, rfl, by omega, Lib.hid ⟨F4, D5, st0, HB5.out, by omega⟩⟩
 case round =>
  obtain ⟨k, rfl, hk, hW⟩ := hrel
  by_cases hlt : k < n
  ·obtain ⟨F, D, st, hL, hv⟩ := hW.out
   obtain ⟨v2, q2, hn, h40⟩ := H.out
   obtain ⟨a, hx⟩ := get_lt (l := l2) (k := k) (by rw [hn]; exact hlt)
   have ha := q2 a (List.mem_of_getElem? hx)
   have ha40 := h40 a (List.mem_of_getElem? hx)
   obtain ⟨b, off, rfl, hb, hcw⟩ := v2.at_ hx
   obtain ⟨A, c, hcells, hsl⟩ := hcw k a hx
   have hX0 : ∀ W, Below w.heap.size w W → CellsAt W b (off + k * 7) (lxC ⟨a, A, c⟩) := fun W hW => CellsAt.keep (fun j u hj => hcells j u hj) hb hW
   have hv2 : st.ver ≤ 60 := by omega
   have hok := hL.a.ok
   have hvk := LM.act_ver fs st a
   have htl := act_told fs st a (fun g hg => (hok.1.ok g hg).n2)
   have hfw := hok.1.few
   have hL1 := hL.keep (Below.refl _ wr).drew
   have HD := Lib.hid (do_l A c a hL1.a (by omega) ha (Slots.keep hsl hL1.bel hL1.bel.size) (hsl.old hL1.hF))
   have HR := Lib.hid (fun w1 (s1 : LS) (F1 : Nat → Prop) (h1 : LBoth w w1 p r fs s1 st F1 D) => rdo_l A c a h1.b (fun i hi => (h1.hD i hi).2) (by omega) ha (Slots.keep hsl h1.bel h1.bel.size) (hsl.old fun i hi => (h1.hD i hi).1) (by omega))
   obtain ⟨T, hT⟩ : ∃ T, T = LM.act fs st a := ⟨_, rfl⟩
   rw [← hT] at HD HR hvk htl
   obtain ⟨⟨t1, st2⟩, hT2⟩ : ∃ X, X = T := ⟨_, rfl⟩
   rw [← hT2] at HD HR hvk htl
   simp only at HD HR hvk htl
   have HK := Lib.hid (And.intro hvk (And.intro htl (And.intro hv hfw)))
   have HX0 := Lib.hid hX0
   have HL1 := Lib.hid hL1
   have hcx := hX0 wr.drew hL1.bel
   have hcr := hX0 wr hL.bel
   obtain ⟨x, hxd⟩ : ∃ x : Lx, x = ⟨a, A, c⟩ := ⟨_, rfl⟩
   have HXD := Lib.hid hxd
   rw [← hxd] at hcx hcr
   have j1 : (k : Int) < (n : Int) := by omega
   have t1' : decide (k < n) = true := decide_eq_true hlt
   have hz : wr.drew.heap.size = wr.heap.size := rfl
   clear hT hT2 hx hcw hcells hsl ha ha40 v2 q2 hn h40 hL hL1 hv hv2 hok hvk htl hfw hW hX0 hxd hcr
   have HCX := Lib.hid hcx
   clear hcx
   go_wp2_with fail
   refine held_begin (fun w' : World => CellsAt w' b (off + k * 7) (lxC x)) (by kernel_rfl) ?_
   have hS0 : (fun w' : World => CellsAt w' b (off + k * 7) (lxC x)) wr.drew := HCX.out
   refine held_takeK (v := ?_) 0 39 rfl rfl ⟨by rfl, ?_⟩ hS0 ?_
   rotate_left
   ·intro w' hw'; go_simp; (try with_reducible rfl)
   try simp only [Act.put, pzA, pzB, pzC]
   refine held_takeK (v := ?_) 1 40 rfl rfl ⟨by rfl, ?_⟩ hS0 ?_
   rotate_left
   ·intro w' hw'; go_simp; (try with_reducible rfl)
   try simp only [Act.put, pzA, pzB, pzC]
   refine held_takeK (v := ?_) 2 41 rfl rfl ⟨by rfl, ?_⟩ hS0 ?_
   rotate_left
   ·intro w' hw'; go_simp; (try with_reducible rfl)
   try simp only [Act.put, pzA, pzB, pzC]
   refine held_takeK (v := ?_) 3 42 rfl rfl ⟨by rfl, ?_⟩ hS0 ?_
   rotate_left
   ·intro w' hw'; go_simp; (try with_reducible rfl)
   try simp only [Act.put, pzA, pzB, pzC]
   refine held_takeK (v := ?_) 4 43 rfl rfl ⟨by rfl, ?_⟩ hS0 ?_
   rotate_left
   ·intro w' hw'; refine Eq.trans (run_load_la (by rfl) (by rfl) hw') ?_; (with_reducible rfl)
   try simp only [Act.put, pzA, pzB, pzC]
   refine held_takeK (v := ?_) 6 45 rfl rfl ⟨by rfl, ?_⟩ hS0 ?_
   rotate_left
   ·intro w' hw'; go_simp; (try with_reducible rfl)
   try simp only [Act.put, pzA, pzB, pzC]
   refine held_takeK (v := ?_) 7 46 rfl rfl ⟨by rfl, ?_⟩ hS0 ?_
   rotate_left
   ·intro w' hw'; go_simp; (try with_reducible rfl)
   try simp only [Act.put, pzA, pzB, pzC]
   refine held_takeK (v := ?_) 8 47 rfl rfl ⟨by rfl, ?_⟩ hS0 ?_
   rotate_left
   ·intro w' hw'; go_simp; (try with_reducible rfl)
   try simp only [Act.put, pzA, pzB, pzC]
   refine held_takeK (v := ?_) 9 48 rfl rfl ⟨by rfl, ?_⟩ hS0 ?_
   rotate_left
   ·intro w' hw'; go_simp; (try with_reducible rfl)
   try simp only [Act.put, pzA, pzB, pzC]
   refine held_takeK (v := ?_) 10 49 rfl rfl ⟨by rfl, ?_⟩ hS0 ?_
   rotate_left
   ·intro w' hw'; refine Eq.trans (run_load_la (by rfl) (by rfl) hw') ?_; (with_reducible rfl)
   try simp only [Act.put, pzA, pzB, pzC]
   refine held_one 5 rfl (by kernel_rfl) (by rfl) (fun K hK => ?_)
   go_simp
   go_at_call 9
   rw [HXD.out]
   refine HD.out.mono ?_
   rintro e w9 ⟨v9, rfl, ⟨A1, c1', A2, c2', rfl, i1, g1, s2, g2⟩, F9, m1, m2, m3⟩
   have hB9 := HL1.out.stepA m1 m2 m3
   have hS9 : (fun w' : World => CellsAt w' b (off + k * 7) (lxC x)) w9 := by rw [HXD.out]; exact HX0.out w9 hB9.bel
   have HT9 := Lib.hid (And.intro i1 (And.intro g1 (And.intro s2 (fun bb oo ee => HL1.out.hF bb (g2 bb oo ee)))))
   have hnd : (∀ bb oo, A1 = some ⟨bb, oo, none⟩ → ¬ D bb) ∧ (∀ bb oo, A2 = some ⟨bb, oo, none⟩ → ¬ D bb) := ⟨fun bb oo ee hd => by have := g1 bb oo ee; have := (HL1.out.hD bb hd).2; omega, fun bb oo ee hd => HL1.out.ne bb (g2 bb oo ee) hd⟩
   have HND := Lib.hid hnd
   have HB9 := Lib.hid hB9
   clear i1 g1 s2 g2 m1 m2 m3 hB9 hnd
   refine hK.out _ _ hS9 ?_
   clear hK K hS0 hS9
   try simp only [Act.put, pzA, pzB, pzC]
   refine held_one 11 rfl (by kernel_rfl) (by rfl) (fun K hK => ?_)
   go_simp
   go_at_call 10
   refine (HR.out w9 _ _ HB9.out).mono ?_
   rintro e w10 ⟨v10, rfl, ⟨A3, c3', A4, c4', rfl, i3, s4⟩, hn10⟩
   obtain ⟨D9, hB10, hf10⟩ := HB9.out.stepB hn10
   have hS10 : (fun w' : World => CellsAt w' b (off + k * 7) (lxC x)) w10 := by rw [HXD.out]; exact HX0.out w10 hB10.bel
   have HT10 := Lib.hid (told_l t1 A1 A2 A3 A4 c1' c2' c3' c4' (HT9.out.1.foot2 hf10 HND.out.1) (HT9.out.2.2.1.foot hf10 fun _ => HND.out.2) i3 s4 (by have := HK.out.2.1.1; have := HK.out.2.2.2; have := HK.out.2.2.1; omega) HK.out.2.1.2)
   have HB10 := Lib.hid hB10
   clear i3 s4 hn10 hB10 hf10
   refine hK.out _ _ hS10 ?_
   clear hK K hS10
   try simp only [Act.put, pzA, pzB, pzC]
   refine held_one 12 rfl (by kernel_rfl) (by rfl) (fun K hK => ?_)
   go_simp
   go_at_call 8
   refine HT10.out.mono ?_
   rintro e w11 ⟨rfl, hy11⟩
   have hB11 := HB10.out.keep hy11
   have hS11 : (fun w' : World => CellsAt w' b (off + k * 7) (lxC x)) w11 := by rw [HXD.out]; exact HX0.out w11 hB11.bel
   have HA11 := Lib.hid (alike_l hB11.a hB11.b (by have := HK.out.1; have := HK.out.2.2.1; omega))
   have HB11 := Lib.hid hB11
   clear hy11 hB11
   refine hK.out _ _ hS11 ?_
   clear hK K
   try simp only [Act.put, pzA, pzB, pzC]
   refine held_takeK (v := ?_) 13 52 rfl rfl ⟨by rfl, ?_⟩ hS11 ?_
   rotate_left
   ·intro w' hw'; go_simp; (try with_reducible rfl)
   try simp only [Act.put, pzA, pzB, pzC]
   refine held_takeK (v := ?_) 14 53 rfl rfl ⟨by rfl, ?_⟩ hS11 ?_
   rotate_left
   ·intro w' hw'; go_simp; (try with_reducible rfl)
   try simp only [Act.put, pzA, pzB, pzC]
   refine held_takeK (v := ?_) 15 54 rfl rfl ⟨by rfl, ?_⟩ hS11 ?_
   rotate_left
   ·intro w' hw'; go_simp; (try with_reducible rfl)
   try simp only [Act.put, pzA, pzB, pzC]
   refine held_takeK (v := ?_) 16 55 rfl rfl ⟨by rfl, ?_⟩ hS11 ?_
   rotate_left
   ·intro w' hw'; go_simp; (try with_reducible rfl)
   try simp only [Act.put, pzA, pzB, pzC]
   clear hS11
   refine held_one 17 rfl (by kernel_rfl) (by rfl) (fun K hK => ?_)
   go_simp
   go_at_call 11
   refine HA11.out.mono ?_
   rintro e w12 ⟨rfl, hy12⟩
   have hB12 := HB11.out.keep hy12
   have hS12 : (fun w' : World => CellsAt w' b (off + k * 7) (lxC x)) w12 := by rw [HXD.out]; exact HX0.out w12 hB12.bel
   have HB12 := Lib.hid hB12
   clear hy12 hB12
   refine hK.out _ _ hS12 ?_
   clear hK K
   try simp only [Act.put, pzA, pzB, pzC]
   refine held_takeK (v := ?_) 18 57 rfl rfl ⟨by rfl, ?_⟩ hS12 ?_
   rotate_left
   ·intro w' hw'; go_simp; (try with_reducible rfl)
   try simp only [Act.put, pzA, pzB, pzC]
   refine held_takeK (v := ?_) 19 58 rfl rfl ⟨by rfl, ?_⟩ hS12 ?_
   rotate_left
   ·intro w' hw'; go_simp; (try with_reducible rfl)
   try simp only [Act.put, pzA, pzB, pzC]
   refine wpAnyH_done (by kernel_rfl) ?_ _
   clear hS12
   go_wp2
   go_roundw
   case rel => exact ⟨k + 1, by go_num, by omega, Lib.hid ⟨F9, D9, st2, HB12.out, by have := HK.out.1; have := HK.out.2.2.1; omega⟩⟩
   case measure => simp [intOf]; omega
  ·obtain ⟨F, D, st, hL, hv⟩ := hW.out
   have he : k = n := by omega
   have t1 : decide (k < n) = false := decide_eq_false hlt
   have HAl := Lib.hid (alike_l hL.a hL.b (by omega))
   have HBL := Lib.hid hL
   clear hL hv hlt he hW
   go_wp2_with (go_at_call 11; refine HAl.out.mono ?_; rintro e u9 ⟨rfl, hb9⟩; have HB9 := Lib.hid hb9; clear hb9)
   go_ret
   exact ⟨rfl, below_step HBL.out.bel HB9.out⟩

set_option maxRecDepth 100000 in
set_option maxHeartbeats 1000000 in
theorem lifted (os : Os) (started : os.Started) (H : Type) (enc : TypeId × Value → H) :
  ReturnsInHanded {} Tryz.checked os 3 .any (Rows.ledgerPlaysSpec.pre6 enc Tryz.prog Tryz.f3 Rows.ledgerPlaysRow.domain false) (Rows.ledgerPlaysSpec.post enc Tryz.prog Tryz.f3 false true false false) := by
 refine returnsInHanded_of_change (C := Tryz.checked) own started (by kernel_rfl) Tryz.func3
  (ChangeSpec.witness6 (enc := enc) (C := Tryz.checked) false ⟨#[], #[.agg #[.slice none 0 0], .slice none 0 0, .slice none 0 0], []⟩ 8 (by kernel_rfl) (by kernel_rfl) (by kernel_rfl) (by kernel_rfl)) ?_
 intro W base args ds gs before hval0 hW _ _
 have hval : ∀ (j : Nat) t v, Tryz.f3.params[j]? = some t → args[j]? = some v → Value.okWide Tryz.prog W .any base t v := hval0
 have hW' := hW
 obtain ⟨p, q, hA0, hV, rfl, hfz, hnd⟩ := hW
 have hA : DataW.TrodAll enc Tryz.prog W 0 (fun _ => true) true Tryz.f3.params.toList args.toList ds p := hA0
 rw [Tryz.params3] at hA hval
 obtain ⟨v0, vs0, d0, ds0, p0, q0, hargs, rfl, rfl, h0, r0⟩ := trodAll_cons hA
 obtain ⟨v1, vs1, d1, ds1, p1, q1, rfl, rfl, rfl, h1, r1⟩ := trodAll_cons r0
 obtain ⟨v2, vs2, d2, ds2, p2, q2, rfl, rfl, rfl, h2, r2⟩ := trodAll_cons r1
 obtain ⟨rfl, rfl, rfl⟩ := trodAll_nil r2
 obtain rfl : args = #[v0, v1, v2] := by cases args; simp_all
 obtain ⟨rfl, rfl⟩ := trodVars_none hV
 have k0 := h0
 have lt0 : ∀ x ∈ p0, x.block < W.heap.size := by obtain ⟨m, hm⟩ := k0; exact DataW.trod_lt m _ _ _ hm
 obtain ⟨a0, c0, n0, rfl, lc0, mc0, w0⟩ := clu_of (hval 0 24 v0 rfl rfl) h0
 have k1 := h1
 have lt1 : ∀ x ∈ p1, x.block < W.heap.size := by obtain ⟨m, hm⟩ := k1; exact DataW.trod_lt m _ _ _ hm
 obtain ⟨a1, c1, l1, rfl, lc1, mc1, v1, q1⟩ := uns_of (hval 1 25 v1 rfl rfl) h1
 have k2 := h2
 have lt2 : ∀ x ∈ p2, x.block < W.heap.size := by obtain ⟨m, hm⟩ := k2; exact DataW.trod_lt m _ _ _ hm
 obtain ⟨a2, c2, l2, rfl, lc2, mc2, v2, q2⟩ := las_of (hval 2 26 v2 rfl rfl) h2
 clear hA0 hval0
 refine (walk a0 c0 n0 a1 c1 l1 a2 c2 l2 W w0 lc0 mc0 v1 q1 lc1 mc1 v2 q2 lc2 mc2).mono fun e W' ⟨he, bel⟩ => ?_
 subst he
 exact ⟨_, rfl, _, _, _, [], _, [], hW', trodAll_mk1 (shut_bool Tryz.underlying4 _), (trodAll_cons_mk (Below.trod laidOut (by kernel_rfl) (of_decide_eq_true (by kernel_rfl)) k0 bel lt0) (trodAll_cons_mk (Below.trod laidOut (by kernel_rfl) (of_decide_eq_true (by kernel_rfl)) k1 bel lt1) (trodAll_cons_mk (Below.trod laidOut (by kernel_rfl) (of_decide_eq_true (by kernel_rfl)) k2 bel lt2) trodAll_mk0))), rfl, bel.frame _, fun h => by cases h⟩

theorem holds : Rows.LedgerPlaysSaid :=
 OpenClaim.holds_of_wide 3 Tryz.f3 rfl rfl rfl rfl rfl rfl rfl ⟨rfl, rfl, rfl, rfl, rfl⟩ rfl rfl rfl rfl rfl (by kernel_rfl) Tryz.func3 (by kernel_rfl)
  (of_decide_eq_true (by kernel_rfl)) (by unfold Func.isWrapper; first | (rw [if_pos (by decide +kernel)]; kernel_rfl) | (rw [if_neg (by decide +kernel)]; exact ⟨rfl, rfl⟩))
  (fun os started H enc _ => lifted os started H enc)
end Go.Proofs.YtgpfmlidchogcaaGreat.ledgerPlays
