/- Behind each call what is free, and what holds have, are all units; each queue uses just what its holds have, and no more than its quota: the law LedgerSums answers true, at every input. -/
import Derived.Laws.StructEq
import Derived.Test.YtfbecfikeiecmaaGreatLedActM
import Derived.Test.YtfbecfikeiecmaaGreatTopoFrame
import Derived.Test.YtfbecfikeiecmaaGreatLedSumsA
import Derived.Deep.QuietTactic
import Derived.BigQuiet
import Derived.StillTail
import Derived.StillTailTactics
import Derived.RegionTactic
import Derived.BigRegion
set_option linter.unusedVariables false
namespace Go.Proofs.YtfbecfikeiecmaaGreat.ledgerSums
open Go Go.ChangeShapes Go.WideShapes Go.ChangeAt Go.RowKit
open Go.MuLone
set_option maxRecDepth 100000 in
set_option maxHeartbeats 16000000 in
theorem walk (a0 : Option Addr) (c0 : Nat) (n0 : List (List (Int × Int))) (a1 : Option Addr) (c1 : Nat) (l1 : List Un) (a2 : Option Addr) (c2 : Nat) (l2 : List La) (w : World) (w0 : Nodes w w.heap.size a0 n0) (lc0 : n0.length ≤ c0) (mc0 : c0 ≤ maxLen)
    (v1 : Uns w w.heap.size a1 l1) (q1 : ∀ a ∈ l1, UnW a) (lc1 : l1.length ≤ c1) (mc1 : c1 ≤ maxLen) (v2 : Las w w.heap.size a2 l2) (q2 : ∀ a ∈ l2, LaOk a) (lc2 : l2.length ≤ c2) (mc2 : c2 ≤ maxLen) :
    Calls Tryz.prog 4 #[.agg #[.slice a0 n0.length c0], .slice a1 l1.length c1, .slice a2 l2.length c2] w fun e w' => e = .returned (.bool true) ∧ Below w.heap.size w w' := by
  have hA := Lib.hid awake_l
  obtain ⟨m, hm⟩ : ∃ m, n0.length = m := ⟨_, rfl⟩
  obtain ⟨k1, hk1⟩ : ∃ k, l1.length = k := ⟨_, rfl⟩
  obtain ⟨n, hn⟩ : ∃ k, l2.length = k := ⟨_, rfl⟩
  have hF0 := fun W (hW : Below w.heap.size w W) => few_l a0 a1 a2 c0 c1 c2 n0 l1 l2 W (Nodes.keep w0 hW hW.size) (v1.keep hW hW.size) (v2.up hW hW.size) (Nat.le_trans lc2 mc2) (fun a ha => (q2 a ha).few)
  rw [hm, hk1, hn] at hF0
  have hN0 := fun W (hW : Below w.heap.size w W) => lnew_l a0 a1 c0 c1 n0 l1 W (Nodes.keep w0 hW hW.size) (v1.keep hW hW.size)
  rw [hm, hk1] at hN0
  rw [hm, hk1, hn]
  have k0 : (w.alloc (.cells #[.slice a0 m c0] 24)).cell? ⟨w.heap.size, 0, none⟩ = some (.slice a0 m c0) := by go_simp
  have hBa := (Below.refl w.heap.size w).alloc (Nat.le_refl _) (.cells #[.slice a0 m c0] 24)
  cases hf : few8 n0 l1 l2
  · rw [hf] at hF0
    have hF := Lib.hid hF0
    clear hF0 hN0 w0 v1 v2 q1 q2 hm hk1 hn lc0 mc0 lc1 mc1 lc2 mc2 hf
    go_enter Tryz.func4, Tryz.ntmps4
    go_wp2_with (first
      | (go_at_call 6; refine (hA.out _).mono ?_; rintro e u2 ⟨rfl, hb2⟩; have hB2 := below_step hBa hb2; have k2 := (hb2.cell (p := ⟨w.heap.size, 0, none⟩) (by simp)).trans k0; have s2 := hb2.size; simp at s2)
      | (go_at_call 7; refine (hF.out _ hB2).mono ?_; rintro e u3 ⟨rfl, hb3⟩; have hB3 := below_step hB2 hb3; have k3 := (hb3.cell (p := ⟨w.heap.size, 0, none⟩) (show w.heap.size < _ by omega)).trans k2))
    go_ret
    exact ⟨rfl, hB3⟩
  rw [hf] at hF0
  have hF := Lib.hid hF0
  have hf2 := hf
  unfold few8 at hf2
  simp only [Bool.and_eq_true] at hf2
  obtain ⟨⟨hc, hq⟩, hfl⟩ := hf2
  have hn60 : n ≤ 60 := by unfold fewLs at hfl; simp only [Bool.and_eq_true, decide_eq_true_eq] at hfl; omega
  have hN2 := fun W hW => (hN0 W hW).mono fun e w' (hl : LNew n0 l1 W e w') => show ∃ p F, e = .returned (.tuple #[.pointer (some ⟨p, 0, none⟩), .int .i64 0]) ∧ LIn w w' p F (frees n0) (LM.init n0 l1) ∧ Below W.heap.size W w' from by
    rcases hl.2 with ⟨h2 | h2, _⟩ | ⟨_, _, p, F, he, ho, hF⟩
    · rw [hc] at h2; cases h2
    · rw [hq] at h2; cases h2
    · exact ⟨p, F, he, .made hW ho hF hl.1, hl.1⟩
  have hN := Lib.hid hN2
  have H := Lib.hid (And.intro v1 (And.intro v2 (And.intro q2 (And.intro hn hk1))))
  have hver0 : (LM.init n0 l1).ver = 0 := rfl
  have hS0 : LM.SumsS (frees n0) l1 (LM.init n0 l1) := LM.init_sums hq
  have hA0 := fun W (hW : Below w.heap.size w W) => refall_y a0 c0 n0 w W w0 hW hc
  have hfo := fsOk hc
  obtain ⟨hk8a, hk8b, _⟩ := quotasOk_iff.1 hq
  rw [hk1] at hk8a hk8b
  obtain ⟨st0, hst0⟩ : ∃ st, st = LM.init n0 l1 := ⟨_, rfl⟩
  obtain ⟨fs, hfs⟩ : ∃ fs, fs = frees n0 := ⟨_, rfl⟩
  obtain ⟨N, hNN⟩ : ∃ N, N = fs.length := ⟨_, rfl⟩
  rw [← hst0] at hver0 hN hS0
  rw [← hfs] at hN hS0 hA0 hfo
  rw [← hNN] at hA0
  rw [hm] at hA0
  have HA0 := Lib.hid hA0
  have HS0 := Lib.hid hS0
  have HFO := Lib.hid (And.intro hfo hNN)
  have hN1 : 0 < N ∧ N ≤ 1000 := by rw [hNN]; exact ⟨hfo.pos, hfo.few⟩
  obtain ⟨i0, hi, hz0, hz1, hz2⟩ := info_parts info_un
  obtain ⟨mc, hmc⟩ : ∃ mc, mc = madeCells (.agg #[.int .i64 0, .int .i64 0] : Value).cells (k1 * 2) := ⟨_, rfl⟩
  have HMC := Lib.hid (fun j (hj : j < k1 * 2) => show mc[j]? = some (.int .i64 0) by rw [hmc]; exact made_zero k1 j hj)
  have hmk : ∀ W : World, (Instr.makeSlice 25 (.int .i64 (k1 : Nat)) (.int .i64 (k1 : Nat))).run Tryz.prog W = .ok (.slice (some ⟨W.heap.size, 0, none⟩) k1 k1) (W.alloc (.cells mc 58)) := fun W => by
    have := run_make (P := Tryz.prog) W 25 58 i0 _ Tryz.underlying25 hi hz0 .i64 .i64 (k1 : Nat) (k1 : Nat) (by omega) (by omega) (by rw [hz2]; omega) (by omega)
    rw [hz1] at this
    rw [hmc]
    simpa using this
  clear hmc hF0 hN0 hN2 w0 v1 v2 q1 q2 hm hk1 hn lc0 mc0 lc1 mc1 lc2 mc2 hf hc hq hfl hst0 hfs hNN hfo hS0 hA0
  go_enter Tryz.func4, Tryz.ntmps4
  go_wp2_with fail
  refine (hA.out _).mono ?_
  rintro e u2 ⟨rfl, hb2⟩
  have hB2 := below_step hBa hb2
  have k2 := (hb2.cell (p := ⟨w.heap.size, 0, none⟩) (by simp)).trans k0
  have s2 := hb2.size
  simp at s2
  go_wp2_with fail
  refine (hF.out _ hB2).mono ?_
  rintro e u3 ⟨rfl, hb3⟩
  have hB3 := below_step hB2 hb3
  have k3 := (hb3.cell (p := ⟨w.heap.size, 0, none⟩) (show w.heap.size < _ by omega)).trans k2
  go_wp2_with fail
  refine (hN.out _ hB3).mono ?_
  rintro e u4 ⟨p, F4, rfl, hl4, hw4⟩
  have HL4 := Lib.hid hl4
  have s3 := hb3.size
  have lk3 : w.heap.size < u3.heap.size := by omega
  have k4 := (hw4.cell (p := ⟨w.heap.size, 0, none⟩) lk3).trans k3
  clear hl4 hw4 s3 lk3
  go_wp2_with fail
  refine (HA0.out u4 HL4.out.bel).mono ?_
  rintro e u5 ⟨ga, ca, rfl, hga, hra, hb5⟩
  have HL5 := Lib.hid (HL4.out.keep hb5)
  have HGA := Lib.hid (And.intro hga hra)
  clear hga hra hb5
  go_wp2
  have hver0' := Lib.hid hver0
  clear k0 k2 k3 k4 hBa hB2 hB3 hb2 hb3 s2 hA hF hN hver0
  go_loopw [10] (fun i wr => ∃ k : Nat, i = .int .i64 k ∧ k ≤ n ∧ Hid (∃ F st, LIn w wr p F fs st ∧ st.ver ≤ k ∧ LM.SumsS fs l1 st ∧ ¬ F ga ∧ RowB wr ga fs)) (fun i _ => n - (intOf i).toNat)
  case atStart => exact ⟨0, rfl, by omega, Lib.hid ⟨F4, st0, HL5.out, by have := hver0'.out; omega, HS0.out, fun h => by have := HL4.out.at_.lt.2 ga h; have := HGA.out.1; omega, HGA.out.2⟩⟩
  case round =>
    clear HL4 HL5 HGA hver0' HS0
    obtain ⟨k, rfl, hk, hW⟩ := hrel
    by_cases hlt : k < n
    · obtain ⟨F, st, hL, hv, hSu, hFa, hRa⟩ := hW.out
      have v2 := H.out.2.1
      have q2 := H.out.2.2.1
      have hn := H.out.2.2.2.1
      obtain ⟨a, hx⟩ := get_lt (l := l2) (k := k) (by rw [hn]; exact hlt)
      have ha := q2 a (List.mem_of_getElem? hx)
      obtain ⟨b, off, rfl, hb, hcw⟩ := v2.at_ hx
      obtain ⟨A, c, hcells, hsl⟩ := hcw k a hx
      have hv2 : st.ver ≤ 100000 := by omega
      have hvk := LM.act_ver fs st a
      have hsa := LM.act_sums hSu hL.at_.ok.1.asc a
      have hc4 := fun j u hj => (hL.bel.cell (p := ⟨b, off + k * 7 + j, none⟩) hb).trans (hcells j u hj)
      have HD := Lib.hid (do_l A c a hL.at_ hv2 ha (Slots.keep hsl hL.bel hL.bel.size) (hsl.old hL.hF))
      have HLo := Lib.hid hL
      have HR0 := Lib.hid (And.intro hFa hRa)
      obtain ⟨T, hT⟩ : ∃ T, T = LM.act fs st a := ⟨_, rfl⟩
      rw [← hT] at HD hvk hsa
      obtain ⟨T1, st2⟩ := T
      try simp only at hvk hsa
      have HK := Lib.hid (And.intro hv (And.intro hvk hsa))
      obtain ⟨ak, aid, aq, aun, anow, aold, asl⟩ := a
      simp only [laC] at HD
      have y0 := hc4 0 _ rfl
      rw [Nat.add_zero] at y0
      have y1 := hc4 1 _ rfl
      have y2 := hc4 2 _ rfl
      have y3 := hc4 3 _ rfl
      have y4 := hc4 4 _ rfl
      have y5 := hc4 5 _ rfl
      have y6 := hc4 6 _ rfl
      simp only at y0 y1 y2 y3 y4 y5 y6
      have j1 : (k : Int) < (n : Int) := by omega
      have t1 : decide (k < n) = true := decide_eq_true hlt
      clear hT hx hcw hcells hsl ha v2 q2 hn hL hv hv2 hvk hsa hSu hFa hRa hW hc4
      go_wp2_with fail
      refine HD.out.mono ?_
      rintro e x5 ⟨v, rfl, _, F5, s1, s2, s3⟩
      have hL5 := HLo.out.step s1 s2 s3
      try simp only at hL5
      have lga := blk_lt HR0.out.2.choose_spec.1
      have hFa5 : ¬ F5 ga := fun h => by rcases s3 ga h with e | e; exact HR0.out.1 e; omega
      have hRa5 : RowB x5 ga fs := HR0.out.2.of_block (s2.block ga lga HR0.out.1)
      obtain ⟨gu, hgu⟩ : ∃ z, z = x5.heap.size := ⟨_, rfl⟩
      obtain ⟨x6, hx6⟩ : ∃ z, z = x5.alloc (.cells mc 58) := ⟨_, rfl⟩
      have hb6 : Below x5.heap.size x5 x6 := by rw [hx6]; exact (Below.refl _ _).alloc (Nat.le_refl _) _
      have bU : x6.heap[gu]? = some (.cells mc 58 (0, 0)) := by rw [hx6, hgu]; exact heap_alloc_new x5 _
      have HL6 := Lib.hid (hL5.keep hb6)
      have HK5 := Lib.hid (And.intro hFa5 (hRa5.of_block (hb6.block ga (blk_lt hRa5.choose_spec.1))))
      have hUn : UnB x6 gu (LM.usedL k1 []) := ⟨mc, bU, fun i x hx => by
        obtain ⟨h1, rfl⟩ := LM.usedL_nil k1 i x hx
        exact ⟨HMC.out _ (by omega), HMC.out _ (by omega)⟩⟩
      have HU6 := Lib.hid hUn
      have HG6 := Lib.hid (And.intro hgu hx6)
      have hguF : Hid (¬ F5 gu) := Lib.hid fun h => by have := s1.lt.2 gu h; omega
      have hgw : w.heap.size ≤ gu := by rw [hgu]; exact hL5.bel.size
      have hguA : gu ≠ ga := by have := blk_lt hRa5.choose_spec.1; omega
      clear s1 s2 s3 hL5 hFa5 hRa5 lga hUn bU hb6 HD HLo HR0 y0 y1 y2 y3 y4 y5 y6 hx6 hgu
      go_wp2_with fail
      try rw [← HG6.out.2, ← HG6.out.1]
      refine (free_l HL6.out.at_).mono ?_
      rintro e x7 ⟨A7, c7, rfl, hh7, hG7, hy7⟩
      have efl : (PM.free fs st2.ts).length = N := by rw [PM.free_len HL6.out.at_.ok.2.2.1, HFO.out.2]
      rw [efl]
      have HL7 := Lib.hid (HL6.out.keep hy7)
      have HH7 := Lib.hid (And.intro hh7 (And.intro hG7 hy7))
      clear hh7 hG7 hy7 efl
      obtain ⟨q, hq⟩ : ∃ q, q = st2.hs.length := ⟨_, rfl⟩
      have HQ := Lib.hid hq
      have hq61 : q ≤ 61 := by have h1 := HL6.out.at_.ok.1.few; have h2 := HK.out.1; have h3 := HK.out.2.1; omega
      clear hq
      go_wp2_with fail
      refine (holds_l HL7.out.at_ (by have := HQ.out; omega)).mono ?_
      rintro e x8 ⟨A8, c8, G8, rfl, hh8, hG8, hy8⟩
      rw [← HQ.out]
      have HL8 := Lib.hid (HL7.out.keep hy8)
      have l6 := HH7.out.2.2.size
      have lu6 : gu < x6.heap.size := blk_lt HU6.out.choose_spec.1
      have hUn8 := (HU6.out.of_block (HH7.out.2.2.block gu lu6)).of_block (hy8.block gu (by omega))
      have lu8 : gu < x8.heap.size := blk_lt hUn8.choose_spec.1
      have HU8 := Lib.hid hUn8
      have HF8 := Lib.hid (And.intro (Frees.keep HH7.out.1 hy8 hy8.size) (show ∀ b off, A7 = some ⟨b, off, none⟩ → b ≠ gu from fun b off e => by have := HH7.out.2.1 b off e; omega))
      have HH8 := Lib.hid (And.intro hh8 (show ∀ i, G8 i → i ≠ gu from fun i hg => by have := hG8 i hg; omega))
      have HA8 := Lib.hid ((HK5.out.2.of_block (HH7.out.2.2.block ga (blk_lt HK5.out.2.choose_spec.1))).of_block (hy8.block ga (by have := blk_lt HK5.out.2.choose_spec.1; omega)))
      have hok8 := HL8.out.at_.ok
      have HOK := Lib.hid hok8
      clear hUn8 hh8 hG8 hy8 l6 lu6 HU6 HL6 HL7 HH7 hok8
      go_wp2
      go_loopw [12, 14] (fun fr i wr => ∃ (j : Nat) (Af : Option Addr) (cf : Nat) (tj : List Fr), fr = .slice Af N cf ∧ i = .int .i64 j ∧ j ≤ q ∧ Hid (Foot (· = gu) x8 wr) ∧ Hid (Frees wr wr.heap.size Af (PM.free fs tj) ∧ ∀ b off, Af = some ⟨b, off, none⟩ → b ≠ gu) ∧ Hid (PM.Sum fs tj (LM.slots (st2.hs.drop j))) ∧ Hid (UnB wr gu (LM.usedL k1 (st2.hs.take j)))) (fun _ i _ => q - (intOf i).toNat)
      case atStart => exact ⟨0, A7, c7, st2.ts, rfl, rfl, by omega, Lib.hid (Foot.refl _ _), HF8, Lib.hid HK.out.2.2.taken, HU8⟩
      case round =>
        clear HF8 HU8 t1 j1
        obtain ⟨j, Af, cf, tj, rfl, rfl, hj, hFt, hFr, hSm, hUs⟩ := hrel
        by_cases hjl : j < q
        · have t1 : decide (j < q) = true := decide_eq_true hjl
          have j1 : (j : Int) < (q : Int) := by omega
          obtain ⟨L, e1, l2', l3, l4, l5⟩ := HH8.out.1.foot hFt.out fun i hg e => HH8.out.2 i hg e
          obtain ⟨x, hx⟩ := get_lt (l := L) (k := j) (by have := congrArg List.length e1; rw [List.length_map, ← HQ.out] at this; omega)
          have hxj : st2.hs[j]? = some x.h := by rw [← e1, List.getElem?_map, hx]; rfl
          obtain ⟨b, off, e8, hb, hc⟩ := l2'.at_ hx
          have hbu : b ≠ gu := fun e => HH8.out.2 b (l4 b off e8) e
          have f0 := hc j x hx 0 _ rfl
          rw [Nat.add_zero] at f0
          have f1 := hc j x hx 1 _ rfl
          have f2 := hc j x hx 2 _ rfl
          have f3 := hc j x hx 3 _ rfl
          have f4 := hc j x hx 4 _ rfl
          simp only [hsV] at f4
          have hprev : j = 0 ∨ ∃ xp : Int, (∃ jm : Nat, jm + 1 = j ∧ wr.cell? ⟨b, off + jm * 5, none⟩ = some (.int .i64 xp)) ∧ xp < x.h.id := by
            rcases Nat.eq_zero_or_pos j with e | e
            · exact .inl e
            · obtain ⟨y, hy⟩ := get_lt (l := L) (k := j - 1) (by have := (List.getElem?_eq_some_iff.1 hx).1; omega)
              have g0 := hc (j - 1) y hy 0 _ rfl
              rw [Nat.add_zero] at g0
              refine .inr ⟨y.h.id, ⟨j - 1, by omega, g0⟩, ?_⟩
              have hyj : st2.hs[j - 1]? = some y.h := by rw [← e1, List.getElem?_map, hy]; rfl
              obtain ⟨q1, h1⟩ := List.getElem?_eq_some_iff.1 hyj
              obtain ⟨q2', h2⟩ := List.getElem?_eq_some_iff.1 hxj
              have := List.pairwise_iff_getElem.1 HOK.out.1.asc (j - 1) j q1 q2' (by omega)
              rw [h1, h2] at this
              exact this
          have hxm : x.h ∈ st2.hs := List.mem_of_getElem? hxj
          have hho := HOK.out.1.ok x.h hxm
          have hhq := HOK.out.1.q x.h hxm
          have hSl := l3 x (List.mem_of_getElem? hx)
          have hqk : ∃ kq : Nat, x.h.q = (kq : Int) ∧ kq < k1 := by
            unfold hasQ at hhq
            simp only [Bool.and_eq_true, decide_eq_true_eq] at hhq
            have : st2.qs.length = k1 := by have := congrArg List.length HK.out.2.2.quota; rw [List.length_map, H.out.2.2.2.2] at this; exact this
            exact ⟨x.h.q.toNat, by omega, by omega⟩
          obtain ⟨kq, hxq, hkq⟩ := hqk
          have hqs : kq < st2.qs.length := by have := congrArg List.length HK.out.2.2.quota; rw [List.length_map, H.out.2.2.2.2] at this; omega
          obtain ⟨xq0, hxq0⟩ := get_lt hqs
          have hgp := LM.gsum_part HK.out.2.2 kq j hxq0
          have hul := LM.units_le hho.sl
          have hn1 := hho.n1
          have hn2 := hho.n2
          obtain ⟨tj', htj, hsum'⟩ := LM.drop_sum hxj hSm.out
          obtain ⟨xh, exh⟩ : ∃ z, z = x.h := ⟨_, rfl⟩
          obtain ⟨xsl, exsl⟩ : ∃ z, z = x.h.sl := ⟨_, rfl⟩
          obtain ⟨m5, em5⟩ : ∃ z, z = xsl.length := ⟨_, rfl⟩
          obtain ⟨xi, exi⟩ : ∃ z, z = x.h.id := ⟨_, rfl⟩
          obtain ⟨xu, exu⟩ : ∃ z, z = x.h.un := ⟨_, rfl⟩
          obtain ⟨xr, exr⟩ : ∃ z, z = x.h.run := ⟨_, rfl⟩
          obtain ⟨xA, exA⟩ : ∃ z, z = x.A := ⟨_, rfl⟩
          obtain ⟨xc, exc⟩ : ∃ z, z = x.c := ⟨_, rfl⟩
          rw [← exi] at f0 hprev
          rw [hxq] at f1
          rw [← exu] at f2
          rw [← exr] at f3
          rw [← exA, ← exc, ← exsl, ← em5] at f4
          rw [← exsl] at hSl hul hn1 hn2 htj
          rw [← em5] at hn1 hn2 hul
          rw [← exA] at hSl
          have hsum9 := LM.usedL_next (n := k1) hxj hxq hkq
          rw [← exsl] at hsum9
          obtain ⟨ug, eug⟩ : ∃ z, z = (LM.units xsl).g := ⟨_, rfl⟩
          obtain ⟨uc, euc⟩ : ∃ z, z = (LM.units xsl).c := ⟨_, rfl⟩
          obtain ⟨G, eG⟩ : ∃ z, z = LM.gsumQ kq (st2.hs.take j) := ⟨_, rfl⟩
          obtain ⟨C, eC⟩ : ∃ z, z = LM.csumQ kq (st2.hs.take j) := ⟨_, rfl⟩
          rw [← eug, ← euc] at hul hsum9
          rw [← eG, ← eC] at hgp hsum9
          have hus := LM.usedL_at (st2.hs.take j) hkq
          rw [← eG, ← eC] at hus
          have hls := hho.sl
          rw [← exsl] at hls
          have HX := Lib.hid (And.intro hsum9 (And.intro hus (And.intro hls (And.intro hSl (And.intro htj (And.intro hsum' (And.intro em5 (And.intro eug euc))))))))
          have lb8 : b < wr.heap.size := hb
          have hxAu : ∀ b' off', xA = some ⟨b', off', none⟩ → b' ≠ gu := fun b' off' e => HH8.out.2 b' (l5 x (List.mem_of_getElem? hx) b' off' (by rw [← exA]; exact e))
          have HU9 := Lib.hid (blk_lt hUs.out.choose_spec.1)
          have HSm := hSm
          subst e8
          obtain ⟨hul1, hul2, hul3, hul4⟩ := hul
          obtain ⟨hgp1, hgp2, hgp3, hgp4⟩ := hgp
          have hul2' : ug ≤ 64 * 16 := by omega
          have hul4' : uc ≤ 1024 * 16 := by omega
          clear e1 l2' l3 l4 l5 hx hxj hc hxm hho hhq hxq hqs hxq0 htj hsum' hsum9 hus hls hSl exh exsl em5 exi exu exr exA exc eug euc eG eC hb hul2 hul4 hSm
          obtain ⟨S, hS⟩ : ∃ z, z = wr.heap.size := ⟨_, rfl⟩
          obtain ⟨W, hW⟩ : ∃ z, z = wr.alloc (.cells #[.int .i64 xi, .int .i64 kq, .int .i64 xu, .bool xr, .slice xA m5 xc] 44) := ⟨_, rfl⟩
          have bS : W.heap[S]? = some (.cells #[.int .i64 xi, .int .i64 kq, .int .i64 xu, .bool xr, .slice xA m5 xc] 44 (0, 0)) := by rw [hW, hS]; exact heap_alloc_new wr _
          have hbW : Below wr.heap.size wr W := by rw [hW]; exact (Below.refl _ _).alloc (Nat.le_refl _) _
          have e0 : W.cell? ⟨S, 0, none⟩ = some (.int .i64 xi) := cell_blk (i := 0) bS rfl
          have e1 : W.cell? ⟨S, 1, none⟩ = some (.int .i64 kq) := cell_blk (i := 1) bS rfl
          have e4 : W.cell? ⟨S, 4, none⟩ = some (.slice xA m5 xc) := cell_blk (i := 4) bS rfl
          have lS : S < W.heap.size := blk_lt bS
          have HS := Lib.hid (And.intro bS hbW)
          have HWS := Lib.hid (And.intro hW hS)
          have t2 : decide ((kq : Int) < 0) = false := decide_eq_false (by omega)
          have t3 : decide ((k1 : Int) ≤ (kq : Int)) = false := decide_eq_false (by omega)
          have t3b : decide ((kq : Int) ≥ (k1 : Int)) = false := decide_eq_false (by omega)
          have t3c : decide (k1 ≤ kq) = false := decide_eq_false (by omega)
          have t4 : decide ((m5 : Int) < 1) = false := decide_eq_false (by omega)
          have t5 : decide ((16 : Int) < (m5 : Int)) = false := decide_eq_false (by omega)
          have t5b : decide ((m5 : Int) > 16) = false := decide_eq_false (by omega)
          have hprev2 : (j = 0) ∨ (0 < j ∧ ∃ jm xp, jm + 1 = j ∧ W.cell? ⟨b, off + jm * 5, none⟩ = some (.int .i64 xp) ∧ xp < xi) := by
            rcases hprev with e | ⟨xp, ⟨jm, h1, h2⟩, h3⟩
            · exact .inl e
            · exact .inr ⟨by omega, jm, xp, h1, (hbW.cell (p := ⟨b, off + jm * 5, none⟩) lb8).trans h2, h3⟩
          clear hprev hW hS bS hbW
          have hSU : S ≠ gu := fun e => by have h1 := HU9.out; have h2 := HWS.out.2; omega
          go_wp2
          try rw [← HWS.out.1]
          try rw [← HWS.out.2]
          rcases hprev2 with hj0 | ⟨hj0, jm, xp, hjm, g0, hxp⟩
          · have t6 : decide ((j : Int) > 0) = false := decide_eq_false (by omega)
            have t6b : decide (0 < (j : Int)) = false := decide_eq_false (by omega)
            have t6c : decide (0 < j) = false := decide_eq_false (by omega)
            clear hj0
            go_quiet (fail)
            have hbW2 : Below wr.heap.size wr (W.drewN nq) := below_drewN HS.out.2 nq
            have bS2 : (W.drewN nq).heap[S]? = some (.cells #[.int .i64 xi, .int .i64 kq, .int .i64 xu, .bool xr, .slice xA m5 xc] 44 (0, 0)) := HS.out.1
            clear e0 e1 e4 f0 f1 f2 f3 f4 t2 t3 t3b t3c t4 t5 t5b t6 t6b t6c
            generalize W.drewN nq = W2 at hbW2 bS2 ⊢
            have e1 : W2.cell? ⟨S, 1, none⟩ = some (.int .i64 kq) := cell_blk (i := 1) bS2 rfl
            have e4 : W2.cell? ⟨S, 4, none⟩ = some (.slice xA m5 xc) := cell_blk (i := 4) bS2 rfl
            have hU0 := refunits8_any xA xc xsl W2 (Slots.keep HX.out.2.2.2.1 hbW2 hbW2.size) HX.out.2.2.1 (by rw [← HX.out.2.2.2.2.2.2.1]; omega)
            rw [← HX.out.2.2.2.2.2.2.1] at hU0
            have HU0 := Lib.hid hU0
            have HW2 := Lib.hid (And.intro hbW2 bS2)
            have lS2 : S < W2.heap.size := blk_lt bS2
            clear hU0 hbW2 bS2 HS HWS
            go_wp2_with fail
            refine HU0.out.mono ?_
            rintro e x9 ⟨rfl, hb9⟩
            simp only [unV]
            rw [← HX.out.2.2.2.2.2.2.2.1, ← HX.out.2.2.2.2.2.2.2.2]
            obtain ⟨U, hU⟩ : ∃ z, z = x9.heap.size := ⟨_, rfl⟩
            obtain ⟨Y, hY⟩ : ∃ z, z = x9.alloc (.cells #[.int .i64 ug, .int .i64 uc] 58) := ⟨_, rfl⟩
            have hbY : Below wr.heap.size wr Y := by rw [hY]; exact (below_step HW2.out.1 hb9).alloc ((below_step HW2.out.1 hb9).size) _
            have bUY : Y.heap[U]? = some (.cells #[.int .i64 ug, .int .i64 uc] 58 (0, 0)) := by rw [hY, hU]; exact heap_alloc_new x9 _
            have bSY : Y.heap[S]? = some (.cells #[.int .i64 xi, .int .i64 kq, .int .i64 xu, .bool xr, .slice xA m5 xc] 44 (0, 0)) := by rw [hY]; exact (Below.heap_alloc _ _ _ (Nat.lt_of_lt_of_le lS2 hb9.size)).trans ((hb9.block S lS2).trans HW2.out.2)
            have lur : gu < wr.heap.size := blk_lt hUs.out.choose_spec.1
            have hUY : UnB Y gu (LM.usedL k1 (st2.hs.take j)) := hUs.out.of_block (hbY.block gu lur)
            have hUU : U ≠ gu := fun e => by have h1 := HW2.out.1.size; have h2 := hb9.size; omega
            have u0 : Y.cell? ⟨gu, kq * 2, none⟩ = some (.int .i64 G) := by
              obtain ⟨cur, h1, h2⟩ := hUY
              exact cell_blk h1 (h2 kq _ HX.out.2.1).1
            have z0 : Y.frozen? ⟨gu, kq * 2, none⟩ = false := frozen_blk hUY.choose_spec.1
            have e1 : Y.cell? ⟨S, 1, none⟩ = some (.int .i64 kq) := cell_blk (i := 1) bSY rfl
            have v0 : Y.cell? ⟨U, 0, none⟩ = some (.int .i64 ug) := cell_blk (i := 0) bUY rfl
            have wG : IntKind.i64.wrap (G + ug) = G + ug := IntWalk.i64_in _ (by omega)
            have wC : IntKind.i64.wrap (C + uc) = C + uc := IntWalk.i64_in _ (by omega)
            have lY1 : S < Y.heap.size := blk_lt bSY
            have lY2 : U < Y.heap.size := blk_lt bUY
            have lY3 : gu < Y.heap.size := blk_lt hUY.choose_spec.1
            have j3 : (kq : Int) < (k1 : Int) := by omega
            have HY := Lib.hid (And.intro hbY (And.intro bUY (And.intro bSY hUY)))
            have HYY := Lib.hid (And.intro hY hU)
            clear e4 hY hU hbY bUY bSY hUY hb9 HU0 HW2
            go_wp2
            try rw [← HYY.out.1]
            try rw [← HYY.out.2]
            go_still_tail 14, (by kernel_rfl)
            change wpList _ _ _ _ _ Y.drew
            go_wp2
            obtain ⟨Z, hZ⟩ : ∃ Z, Z = (Y.setCell ⟨gu, kq * 2, none⟩ (.int .i64 (G + ug))).drew := ⟨_, rfl⟩
            rw [← hZ]
            have hfZ : Foot (· = gu) wr Z := by rw [hZ]; exact (Foot.setCell (F := (· = gu)) (Foot.of_below HY.out.1) (p := ⟨gu, kq * 2, none⟩) (.inl rfl) _).drew
            have hUZ : UnB Z gu ((LM.usedL k1 (st2.hs.take j)).set kq ⟨G + ug, C⟩) := by rw [hZ]; exact (HY.out.2.2.2.setG HX.out.2.1 (G + ug)).of_block rfl
            have bUZ : Z.heap[U]? = some (.cells #[.int .i64 ug, .int .i64 uc] 58 (0, 0)) := by rw [hZ]; exact (Below.heap_setCell _ _ _ _ (by simpa using hUU)).trans HY.out.2.1
            have bSZ : Z.heap[S]? = some (.cells #[.int .i64 xi, .int .i64 kq, .int .i64 xu, .bool xr, .slice xA m5 xc] 44 (0, 0)) := by rw [hZ]; exact (Below.heap_setCell _ _ _ _ (by simpa using hSU)).trans HY.out.2.2.1
            have hset : ((LM.usedL k1 (st2.hs.take j)).set kq ⟨G + ug, C⟩)[kq]? = some ⟨G + ug, C⟩ := List.getElem?_set_self (by rw [LM.usedL_len]; exact hkq)
            have u1 : Z.cell? ⟨gu, kq * 2 + 1, none⟩ = some (.int .i64 C) := by
              obtain ⟨cur, h1, h2⟩ := hUZ
              exact cell_blk h1 (h2 kq _ hset).2
            have z1 : Z.frozen? ⟨gu, kq * 2 + 1, none⟩ = false := frozen_blk hUZ.choose_spec.1
            have e1 : Z.cell? ⟨S, 1, none⟩ = some (.int .i64 kq) := cell_blk (i := 1) bSZ rfl
            have v1 : Z.cell? ⟨U, 1, none⟩ = some (.int .i64 uc) := cell_blk (i := 1) bUZ rfl
            have lZ1 : S < Z.heap.size := blk_lt bSZ
            have lZ2 : U < Z.heap.size := blk_lt bUZ
            have lZ3 : gu < Z.heap.size := blk_lt hUZ.choose_spec.1
            have HZ := Lib.hid (And.intro hfZ (And.intro hUZ (And.intro bSZ hset)))
            clear hZ hfZ hUZ bUZ bSZ hset u0 z0 v0 HY HYY lY1 lY2 lY3
            go_still_tail 14, (by kernel_rfl)
            change wpList _ _ _ _ _ Z.drew
            obtain ⟨V, hV⟩ : ∃ V, V = (Z.setCell ⟨gu, kq * 2 + 1, none⟩ (.int .i64 (C + uc))).drew := ⟨_, rfl⟩
            have hfV : Foot (· = gu) wr V := by rw [hV]; exact (Foot.setCell (F := (· = gu)) HZ.out.1 (p := ⟨gu, kq * 2 + 1, none⟩) (.inl rfl) _).drew
            have hUV : UnB V gu (LM.usedL k1 (st2.hs.take (j + 1))) := by
              rw [HX.out.1, hV]
              have h9 := HZ.out.2.1.setC HZ.out.2.2.2 (C + uc)
              rw [List.set_set] at h9
              exact h9.of_block rfl
            have bSV : V.heap[S]? = some (.cells #[.int .i64 xi, .int .i64 kq, .int .i64 xu, .bool xr, .slice xA m5 xc] 44 (0, 0)) := by rw [hV]; exact (Below.heap_setCell _ _ _ _ (by simpa using hSU)).trans HZ.out.2.2.1
            have e4z : Z.cell? ⟨S, 4, none⟩ = some (.slice xA m5 xc) := cell_blk (i := 4) HZ.out.2.2.1 rfl
            have hFV : Frees V V.heap.size Af (PM.free fs tj) := hFr.out.1.off hfV.size fun b' off' e hb' => hfV.block b' hb' (hFr.out.2 b' off' e)
            have hSV : Slots V V.heap.size xA xsl := Slots.off2 HX.out.2.2.2.1 hfV.size fun b' off' e hb' => hfV.block b' hb' (hxAu b' off' e)
            have hM0 := refmore_any Af xA cf xc st2.dr.length fs tj tj' xsl V hFV hSV HOK.out.2.1 HSm.out.inv HX.out.2.2.2.2.1 (by rw [← HX.out.2.2.2.2.2.2.1]; omega) (fun s hs => (HX.out.2.2.1 s hs).ok.m)
            rw [← HX.out.2.2.2.2.2.2.1, ← HFO.out.2] at hM0
            have HM0 := Lib.hid hM0
            have HV := Lib.hid (And.intro hV (And.intro hfV (And.intro hUV bSV)))
            clear hV hfV hUV bSV hFV hSV hM0
            go_wp2_with fail
            rw [← HV.out.1]
            refine HM0.out.mono ?_
            rintro e y1 ⟨g2, c2, rfl, hr2, hg2, hb2⟩
            have lgV : gu < V.heap.size := blk_lt HV.out.2.2.1.choose_spec.1
            have HR2 := Lib.hid (And.intro hr2.frees (show ∀ b off, (some ⟨g2, 0, none⟩ : Option Addr) = some ⟨b, off, none⟩ → b ≠ gu from fun b off e => by injection e with e; injection e with e; omega))
            have HY2 := Lib.hid (And.intro (HV.out.2.1.trans (Foot.of_below (F := fun _ => False) hb2) fun i hi => hi.elim) (HV.out.2.2.1.of_block (hb2.block gu lgV)))
            clear hr2 hg2 hb2 u1 z1 e1 v1 e4z
            go_wp2
            go_roundw
            case rel => exact ⟨j + 1, _, c2, tj', rfl, by go_num, by omega, Lib.hid (hFt.out.trans HY2.out.1 fun i hi => .inl hi), HR2, Lib.hid HX.out.2.2.2.2.2.1, Lib.hid HY2.out.2⟩
            case measure => simp [intOf]; omega
          · have t6 : decide ((j : Int) > 0) = true := decide_eq_true (by omega)
            have t6b : decide (0 < (j : Int)) = true := decide_eq_true (by omega)
            have t6c : decide (0 < j) = true := decide_eq_true (by omega)
            have wj : IntKind.i64.wrap ((j : Int) - 1) = (jm : Int) := by rw [IntWalk.i64_in _ (by omega)]; omega
            have j2 : (jm : Int) < (q : Int) := by omega
            have t7 : decide (xi ≤ xp) = false := decide_eq_false (by omega)
            have lbW : b < W.heap.size := Nat.lt_of_lt_of_le lb8 HS.out.2.size
            clear hj0 hjm hxp
            go_quiet (fail)
            have hbW2 : Below wr.heap.size wr (W.drewN nq) := below_drewN HS.out.2 nq
            have bS2 : (W.drewN nq).heap[S]? = some (.cells #[.int .i64 xi, .int .i64 kq, .int .i64 xu, .bool xr, .slice xA m5 xc] 44 (0, 0)) := HS.out.1
            clear e0 e1 e4 f0 f1 f2 f3 f4 t2 t3 t3b t3c t4 t5 t5b t6 t6b t6c
            generalize W.drewN nq = W2 at hbW2 bS2 ⊢
            have e1 : W2.cell? ⟨S, 1, none⟩ = some (.int .i64 kq) := cell_blk (i := 1) bS2 rfl
            have e4 : W2.cell? ⟨S, 4, none⟩ = some (.slice xA m5 xc) := cell_blk (i := 4) bS2 rfl
            have hU0 := refunits8_any xA xc xsl W2 (Slots.keep HX.out.2.2.2.1 hbW2 hbW2.size) HX.out.2.2.1 (by rw [← HX.out.2.2.2.2.2.2.1]; omega)
            rw [← HX.out.2.2.2.2.2.2.1] at hU0
            have HU0 := Lib.hid hU0
            have HW2 := Lib.hid (And.intro hbW2 bS2)
            have lS2 : S < W2.heap.size := blk_lt bS2
            clear hU0 hbW2 bS2 HS HWS
            go_wp2_with fail
            refine HU0.out.mono ?_
            rintro e x9 ⟨rfl, hb9⟩
            simp only [unV]
            rw [← HX.out.2.2.2.2.2.2.2.1, ← HX.out.2.2.2.2.2.2.2.2]
            obtain ⟨U, hU⟩ : ∃ z, z = x9.heap.size := ⟨_, rfl⟩
            obtain ⟨Y, hY⟩ : ∃ z, z = x9.alloc (.cells #[.int .i64 ug, .int .i64 uc] 58) := ⟨_, rfl⟩
            have hbY : Below wr.heap.size wr Y := by rw [hY]; exact (below_step HW2.out.1 hb9).alloc ((below_step HW2.out.1 hb9).size) _
            have bUY : Y.heap[U]? = some (.cells #[.int .i64 ug, .int .i64 uc] 58 (0, 0)) := by rw [hY, hU]; exact heap_alloc_new x9 _
            have bSY : Y.heap[S]? = some (.cells #[.int .i64 xi, .int .i64 kq, .int .i64 xu, .bool xr, .slice xA m5 xc] 44 (0, 0)) := by rw [hY]; exact (Below.heap_alloc _ _ _ (Nat.lt_of_lt_of_le lS2 hb9.size)).trans ((hb9.block S lS2).trans HW2.out.2)
            have lur : gu < wr.heap.size := blk_lt hUs.out.choose_spec.1
            have hUY : UnB Y gu (LM.usedL k1 (st2.hs.take j)) := hUs.out.of_block (hbY.block gu lur)
            have hUU : U ≠ gu := fun e => by have h1 := HW2.out.1.size; have h2 := hb9.size; omega
            have u0 : Y.cell? ⟨gu, kq * 2, none⟩ = some (.int .i64 G) := by
              obtain ⟨cur, h1, h2⟩ := hUY
              exact cell_blk h1 (h2 kq _ HX.out.2.1).1
            have z0 : Y.frozen? ⟨gu, kq * 2, none⟩ = false := frozen_blk hUY.choose_spec.1
            have e1 : Y.cell? ⟨S, 1, none⟩ = some (.int .i64 kq) := cell_blk (i := 1) bSY rfl
            have v0 : Y.cell? ⟨U, 0, none⟩ = some (.int .i64 ug) := cell_blk (i := 0) bUY rfl
            have wG : IntKind.i64.wrap (G + ug) = G + ug := IntWalk.i64_in _ (by omega)
            have wC : IntKind.i64.wrap (C + uc) = C + uc := IntWalk.i64_in _ (by omega)
            have lY1 : S < Y.heap.size := blk_lt bSY
            have lY2 : U < Y.heap.size := blk_lt bUY
            have lY3 : gu < Y.heap.size := blk_lt hUY.choose_spec.1
            have j3 : (kq : Int) < (k1 : Int) := by omega
            have HY := Lib.hid (And.intro hbY (And.intro bUY (And.intro bSY hUY)))
            have HYY := Lib.hid (And.intro hY hU)
            clear e4 hY hU hbY bUY bSY hUY hb9 HU0 HW2
            go_wp2
            try rw [← HYY.out.1]
            try rw [← HYY.out.2]
            go_still_tail 14, (by kernel_rfl)
            change wpList _ _ _ _ _ Y.drew
            go_wp2
            obtain ⟨Z, hZ⟩ : ∃ Z, Z = (Y.setCell ⟨gu, kq * 2, none⟩ (.int .i64 (G + ug))).drew := ⟨_, rfl⟩
            rw [← hZ]
            have hfZ : Foot (· = gu) wr Z := by rw [hZ]; exact (Foot.setCell (F := (· = gu)) (Foot.of_below HY.out.1) (p := ⟨gu, kq * 2, none⟩) (.inl rfl) _).drew
            have hUZ : UnB Z gu ((LM.usedL k1 (st2.hs.take j)).set kq ⟨G + ug, C⟩) := by rw [hZ]; exact (HY.out.2.2.2.setG HX.out.2.1 (G + ug)).of_block rfl
            have bUZ : Z.heap[U]? = some (.cells #[.int .i64 ug, .int .i64 uc] 58 (0, 0)) := by rw [hZ]; exact (Below.heap_setCell _ _ _ _ (by simpa using hUU)).trans HY.out.2.1
            have bSZ : Z.heap[S]? = some (.cells #[.int .i64 xi, .int .i64 kq, .int .i64 xu, .bool xr, .slice xA m5 xc] 44 (0, 0)) := by rw [hZ]; exact (Below.heap_setCell _ _ _ _ (by simpa using hSU)).trans HY.out.2.2.1
            have hset : ((LM.usedL k1 (st2.hs.take j)).set kq ⟨G + ug, C⟩)[kq]? = some ⟨G + ug, C⟩ := List.getElem?_set_self (by rw [LM.usedL_len]; exact hkq)
            have u1 : Z.cell? ⟨gu, kq * 2 + 1, none⟩ = some (.int .i64 C) := by
              obtain ⟨cur, h1, h2⟩ := hUZ
              exact cell_blk h1 (h2 kq _ hset).2
            have z1 : Z.frozen? ⟨gu, kq * 2 + 1, none⟩ = false := frozen_blk hUZ.choose_spec.1
            have e1 : Z.cell? ⟨S, 1, none⟩ = some (.int .i64 kq) := cell_blk (i := 1) bSZ rfl
            have v1 : Z.cell? ⟨U, 1, none⟩ = some (.int .i64 uc) := cell_blk (i := 1) bUZ rfl
            have lZ1 : S < Z.heap.size := blk_lt bSZ
            have lZ2 : U < Z.heap.size := blk_lt bUZ
            have lZ3 : gu < Z.heap.size := blk_lt hUZ.choose_spec.1
            have HZ := Lib.hid (And.intro hfZ (And.intro hUZ (And.intro bSZ hset)))
            clear hZ hfZ hUZ bUZ bSZ hset u0 z0 v0 HY HYY lY1 lY2 lY3
            go_still_tail 14, (by kernel_rfl)
            change wpList _ _ _ _ _ Z.drew
            obtain ⟨V, hV⟩ : ∃ V, V = (Z.setCell ⟨gu, kq * 2 + 1, none⟩ (.int .i64 (C + uc))).drew := ⟨_, rfl⟩
            have hfV : Foot (· = gu) wr V := by rw [hV]; exact (Foot.setCell (F := (· = gu)) HZ.out.1 (p := ⟨gu, kq * 2 + 1, none⟩) (.inl rfl) _).drew
            have hUV : UnB V gu (LM.usedL k1 (st2.hs.take (j + 1))) := by
              rw [HX.out.1, hV]
              have h9 := HZ.out.2.1.setC HZ.out.2.2.2 (C + uc)
              rw [List.set_set] at h9
              exact h9.of_block rfl
            have bSV : V.heap[S]? = some (.cells #[.int .i64 xi, .int .i64 kq, .int .i64 xu, .bool xr, .slice xA m5 xc] 44 (0, 0)) := by rw [hV]; exact (Below.heap_setCell _ _ _ _ (by simpa using hSU)).trans HZ.out.2.2.1
            have e4z : Z.cell? ⟨S, 4, none⟩ = some (.slice xA m5 xc) := cell_blk (i := 4) HZ.out.2.2.1 rfl
            have hFV : Frees V V.heap.size Af (PM.free fs tj) := hFr.out.1.off hfV.size fun b' off' e hb' => hfV.block b' hb' (hFr.out.2 b' off' e)
            have hSV : Slots V V.heap.size xA xsl := Slots.off2 HX.out.2.2.2.1 hfV.size fun b' off' e hb' => hfV.block b' hb' (hxAu b' off' e)
            have hM0 := refmore_any Af xA cf xc st2.dr.length fs tj tj' xsl V hFV hSV HOK.out.2.1 HSm.out.inv HX.out.2.2.2.2.1 (by rw [← HX.out.2.2.2.2.2.2.1]; omega) (fun s hs => (HX.out.2.2.1 s hs).ok.m)
            rw [← HX.out.2.2.2.2.2.2.1, ← HFO.out.2] at hM0
            have HM0 := Lib.hid hM0
            have HV := Lib.hid (And.intro hV (And.intro hfV (And.intro hUV bSV)))
            clear hV hfV hUV bSV hFV hSV hM0
            go_wp2_with fail
            rw [← HV.out.1]
            refine HM0.out.mono ?_
            rintro e y1 ⟨g2, c2, rfl, hr2, hg2, hb2⟩
            have lgV : gu < V.heap.size := blk_lt HV.out.2.2.1.choose_spec.1
            have HR2 := Lib.hid (And.intro hr2.frees (show ∀ b off, (some ⟨g2, 0, none⟩ : Option Addr) = some ⟨b, off, none⟩ → b ≠ gu from fun b off e => by injection e with e; injection e with e; omega))
            have HY2 := Lib.hid (And.intro (HV.out.2.1.trans (Foot.of_below (F := fun _ => False) hb2) fun i hi => hi.elim) (HV.out.2.2.1.of_block (hb2.block gu lgV)))
            clear hr2 hg2 hb2 u1 z1 e1 v1 e4z
            go_wp2
            go_roundw
            case rel => exact ⟨j + 1, _, c2, tj', rfl, by go_num, by omega, Lib.hid (hFt.out.trans HY2.out.1 fun i hi => .inl hi), HR2, Lib.hid HX.out.2.2.2.2.2.1, Lib.hid HY2.out.2⟩
            case measure => simp [intOf]; omega
        · obtain rfl : j = q := by omega
          have t1 : decide (j < j) = false := decide_eq_false (by omega)
          have htz : PM.free fs tj = fs := by
            have h1 := hSm.out
            have e : st2.hs.drop j = [] := List.drop_eq_nil_of_le (by rw [← HQ.out]; exact Nat.le_refl _)
            rw [e] at h1
            rw [PM.Sum.none h1, PM.free_zero]
          have h1 := hFr.out.1
          rw [htz] at h1
          have hgaw := HA8.out.of_block (hFt.out.block ga (blk_lt HA8.out.choose_spec.1) (fun e => hguA e.symm))
          have hLr : LIn w wr p F5 fs st2 := ⟨HL8.out.at_.foot hFt.out fun i hi e => hguF.out (e ▸ hi), HL8.out.hF, HL8.out.bel.trans (hFt.out.below HL8.out.bel.size fun i e => by rw [e]; exact hgw)⟩
          have hql : st2.qs.length = k1 := by have := congrArg List.length HK.out.2.2.quota; rw [List.length_map, H.out.2.2.2.2] at this; exact this
          have hua := LM.usedL_all HK.out.2.2
          rw [hql] at hua
          have hus := hUs.out
          rw [List.take_of_length_le (by rw [← HQ.out]; exact Nat.le_refl _), hua] at hus
          have hsame := same_any Af (some ⟨ga, 0, none⟩) cf ca fs wr h1 hgaw.frees (by rw [← HFO.out.2]; exact hN1.2)
          rw [← HFO.out.2] at hsame
          have HSA := Lib.hid hsame
          have HLr := Lib.hid hLr
          have HUS := Lib.hid (And.intro hus (And.intro hgaw hql))
          clear hjl hSm htz h1 hgaw hLr hql hua hus hsame hFr hUs
          go_wp2_with fail
          refine HSA.out.mono ?_
          rintro e z1 ⟨rfl, hz1⟩
          have HL1 := Lib.hid (HLr.out.keep hz1)
          have HU1 := Lib.hid (And.intro (HUS.out.1.of_block (hz1.block gu (blk_lt HUS.out.1.choose_spec.1))) (HUS.out.2.1.of_block (hz1.block ga (blk_lt HUS.out.2.1.choose_spec.1))))
          clear hz1 HSA
          go_wp2_with fail
          refine (used_l HL1.out.at_).mono ?_
          rintro e z2 ⟨A9, c9, rfl, hh9, _, hz2⟩
          rw [HUS.out.2.2]
          have HL2 := Lib.hid (HL1.out.keep hz2)
          have HU2 := Lib.hid (And.intro (HU1.out.1.of_block (hz2.block gu (blk_lt HU1.out.1.choose_spec.1))) (HU1.out.2.of_block (hz2.block ga (blk_lt HU1.out.2.choose_spec.1))))
          have hsu := same_u (some ⟨gu, 0, none⟩) A9 k1 c9 (st2.qs.map (·.u)) (st2.qs.map (·.u)) z2 HU2.out.1.uns hh9 (by rw [List.length_map, HUS.out.2.2]; omega)
          rw [List.length_map, HUS.out.2.2, decide_eq_true (rfl : st2.qs.map (·.u) = st2.qs.map (·.u))] at hsu
          have HSU := Lib.hid hsu
          clear hz2 hh9 hsu
          go_wp2_with fail
          refine HSU.out.mono ?_
          rintro e z3 ⟨rfl, hz3⟩
          have HL3 := Lib.hid (HL2.out.keep hz3)
          have HU3 := Lib.hid (And.intro (HU2.out.1.of_block (hz3.block gu (blk_lt HU2.out.1.choose_spec.1))) (HU2.out.2.of_block (hz3.block ga (blk_lt HU2.out.2.choose_spec.1))))
          clear hz3 HSU HL1 HL2 HU1 HU2
          go_wp2
          go_loopw [19] (fun i wr => ∃ m : Nat, i = .int .i64 m ∧ m ≤ k1 ∧ Hid (∃ z, wr = z3.drewN z)) (fun i _ => k1 - (intOf i).toNat)
          case atStart => exact ⟨0, rfl, by omega, Lib.hid ⟨0, rfl⟩⟩
          case round =>
            clear t1
            obtain ⟨m, rfl, hm, hD⟩ := hrel
            by_cases hml : m < k1
            · have t1 : decide (m < k1) = true := decide_eq_true hml
              have j1 : (m : Int) < (k1 : Int) := by omega
              obtain ⟨xq, hxq⟩ := get_lt (l := st2.qs) (k := m) (by rw [HUS.out.2.2]; exact hml)
              have hum : (st2.qs.map (·.u))[m]? = some xq.u := by rw [List.getElem?_map, hxq]; rfl
              have hqm : l1[m]? = some xq.m := by rw [← HK.out.2.2.quota, List.getElem?_map, hxq]; rfl
              have hokq := HK.out.2.2.ok xq (List.mem_of_getElem? hxq)
              obtain ⟨b, off, rfl, hb, hc⟩ := H.out.1.at_ hqm
              have q0 := (HL3.out.bel.cell (p := ⟨b, off + m * 2 + 0, none⟩) hb).trans (hc m _ hqm 0 _ rfl)
              have q1 := (HL3.out.bel.cell (p := ⟨b, off + m * 2 + 1, none⟩) hb).trans (hc m _ hqm 1 _ rfl)
              rw [Nat.add_zero] at q0
              obtain ⟨u0, u1⟩ : z3.cell? ⟨gu, m * 2, none⟩ = some (.int .i64 xq.u.g) ∧ z3.cell? ⟨gu, m * 2 + 1, none⟩ = some (.int .i64 xq.u.c) := by
                obtain ⟨cur, h1, h2⟩ := HU3.out.1
                exact ⟨cell_blk h1 (h2 m _ hum).1, cell_blk h1 (h2 m _ hum).2⟩
              obtain ⟨zD, hzD⟩ := hD.out
              have q0 : wr.cell? ⟨b, off + m * 2, none⟩ = some (.int .i64 xq.m.g) := by rw [hzD]; exact q0
              have q1 : wr.cell? ⟨b, off + m * 2 + 1, none⟩ = some (.int .i64 xq.m.c) := by rw [hzD]; exact q1
              have u0 : wr.cell? ⟨gu, m * 2, none⟩ = some (.int .i64 xq.u.g) := by rw [hzD]; exact u0
              have u1 : wr.cell? ⟨gu, m * 2 + 1, none⟩ = some (.int .i64 xq.u.c) := by rw [hzD]; exact u1
              obtain ⟨ag, eag⟩ : ∃ z, z = xq.m.g := ⟨_, rfl⟩
              obtain ⟨ac, eac⟩ : ∃ z, z = xq.m.c := ⟨_, rfl⟩
              obtain ⟨bg, ebg⟩ : ∃ z, z = xq.u.g := ⟨_, rfl⟩
              obtain ⟨bc, ebc⟩ : ∃ z, z = xq.u.c := ⟨_, rfl⟩
              rw [← eag] at q0
              rw [← eac] at q1
              rw [← ebg] at u0
              rw [← ebc] at u1
              have t2 : decide (bg > ag) = false := decide_eq_false (by have := hokq.g.2; omega)
              have t2b : decide (ag < bg) = false := decide_eq_false (by have := hokq.g.2; omega)
              have t3 : decide (bc > ac) = false := decide_eq_false (by have := hokq.c.2; omega)
              have t3b : decide (ac < bc) = false := decide_eq_false (by have := hokq.c.2; omega)
              have HZD := Lib.hid hzD
              clear hxq hum hqm hokq hc hb hzD eag eac ebg ebc hD
              go_wp2_with fail
              go_quiet (fail)
              have hD2 : Hid (∃ z, wr.drewN nq = z3.drewN z) := Lib.hid ⟨zD + nq, by rw [HZD.out, World.drewN_drewN]⟩
              clear q0 q1 u0 u1 t2 t2b t3 t3b HZD
              generalize wr.drewN nq = W2 at hD2 ⊢
              go_wp2
              go_roundw
              case rel => exact ⟨m + 1, by go_num, by omega, hD2⟩
              case measure => simp [intOf]; omega
            · obtain rfl : m = k1 := by omega
              have t1 : decide (m < m) = false := decide_eq_false (by omega)
              have HE : Hid (LIn w wr p F5 fs st2 ∧ RowB wr ga fs) := Lib.hid (by
                obtain ⟨z, e⟩ := hD.out
                rw [e]
                exact ⟨HL3.out.keep ⟨rfl, rfl, rfl, Nat.le_refl _, fun _ _ => rfl⟩, HU3.out.2.of_block rfl⟩)
              clear hml hD
              go_wp2
              go_roundw
              case rel => exact ⟨k + 1, by go_num, by omega, Lib.hid ⟨F5, st2, HE.out.1, by have := HK.out.1; have := HK.out.2.1; omega, HK.out.2.2, HK5.out.1, HE.out.2⟩⟩
              case measure => simp [intOf]; omega
    · obtain rfl : k = n := by omega
      have t1 : decide (k < k) = false := decide_eq_false (by omega)
      obtain ⟨F, st, hL, _⟩ := hW.out
      have HB := Lib.hid hL.bel
      clear hlt hW hL
      go_wp2
      go_ret
      exact ⟨rfl, HB.out⟩

set_option maxRecDepth 100000 in
set_option maxHeartbeats 1000000 in
theorem lifted (os : Os) (started : os.Started) (H : Type) (enc : TypeId × Value → H) :
    ReturnsInHanded {} Tryz.checked os 4 .any (Rows.ledgerSumsSpec.pre6 enc Tryz.prog Tryz.f4 Rows.ledgerSumsRow.domain false) (Rows.ledgerSumsSpec.post enc Tryz.prog Tryz.f4 false true false false) := by
  refine returnsInHanded_of_change (C := Tryz.checked) own started (by kernel_rfl) Tryz.func4
    (ChangeSpec.witness6 (enc := enc) (C := Tryz.checked) false ⟨#[], #[.agg #[.slice none 0 0], .slice none 0 0, .slice none 0 0], []⟩ 8 (by kernel_rfl) (by kernel_rfl) (by kernel_rfl) (by kernel_rfl)) ?_
  intro W base args ds gs before hval0 hW _ _
  have hval : ∀ (j : Nat) t v, Tryz.f4.params[j]? = some t → args[j]? = some v → Value.okWide Tryz.prog W .any base t v := hval0
  have hW' := hW
  obtain ⟨p, q, hA0, hV, rfl, hfz, hnd⟩ := hW
  have hA : DataW.TrodAll enc Tryz.prog W 0 (fun _ => true) true Tryz.f4.params.toList args.toList ds p := hA0
  rw [Tryz.params4] at hA hval
  obtain ⟨v0, vs0, d0, ds0, p0, q0, hargs, rfl, rfl, h0, r0⟩ := trodAll_cons hA
  obtain ⟨v1, vs1, d1, ds1, p1, q1, rfl, rfl, rfl, h1, r1⟩ := trodAll_cons r0
  obtain ⟨v2, vs2, d2, ds2, p2, q2, rfl, rfl, rfl, h2, r2⟩ := trodAll_cons r1
  obtain ⟨rfl, rfl, rfl⟩ := trodAll_nil r2
  obtain rfl : args = #[v0, v1, v2] := by cases args; simp_all
  obtain ⟨rfl, rfl⟩ := trodVars_none hV
  have k0 := h0
  have lt0 : ∀ x ∈ p0, x.block < W.heap.size := by obtain ⟨m, hm⟩ := k0; exact DataW.trod_lt m _ _ _ hm
  obtain ⟨a0, c0, n0, rfl, lc0, mc0, w0⟩ := clu_of (hval 0 24 v0 rfl rfl) h0
  have k1 := h1
  have lt1 : ∀ x ∈ p1, x.block < W.heap.size := by obtain ⟨m, hm⟩ := k1; exact DataW.trod_lt m _ _ _ hm
  obtain ⟨a1, c1, l1, rfl, lc1, mc1, v1, q1⟩ := uns_of (hval 1 25 v1 rfl rfl) h1
  have k2 := h2
  have lt2 : ∀ x ∈ p2, x.block < W.heap.size := by obtain ⟨m, hm⟩ := k2; exact DataW.trod_lt m _ _ _ hm
  obtain ⟨a2, c2, l2, rfl, lc2, mc2, v2, q2⟩ := las_of (hval 2 26 v2 rfl rfl) h2
  clear hA0 hval0
  refine (walk a0 c0 n0 a1 c1 l1 a2 c2 l2 W w0 lc0 mc0 v1 q1 lc1 mc1 v2 q2 lc2 mc2).mono fun e W' ⟨he, bel⟩ => ?_
  subst he
  exact ⟨_, rfl, _, _, _, [], _, [], hW', trodAll_mk1 (shut_bool Tryz.underlying4 _), (trodAll_cons_mk (Below.trod laidOut (by kernel_rfl) (of_decide_eq_true (by kernel_rfl)) k0 bel lt0) (trodAll_cons_mk (Below.trod laidOut (by kernel_rfl) (of_decide_eq_true (by kernel_rfl)) k1 bel lt1) (trodAll_cons_mk (Below.trod laidOut (by kernel_rfl) (of_decide_eq_true (by kernel_rfl)) k2 bel lt2) trodAll_mk0))), rfl, bel.frame _, fun h => by cases h⟩

/-- THE STATEMENT. -/
theorem holds : Rows.LedgerSumsSaid :=
  OpenClaim.holds_of_wide 4 Tryz.f4 rfl rfl rfl rfl rfl rfl rfl ⟨rfl, rfl, rfl, rfl, rfl⟩ rfl rfl rfl rfl rfl (by kernel_rfl) Tryz.func4 (by kernel_rfl)
    (of_decide_eq_true (by kernel_rfl)) (by unfold Func.isWrapper; first | (rw [if_pos (by decide +kernel)]; kernel_rfl) | (rw [if_neg (by decide +kernel)]; exact ⟨rfl, rfl⟩))
    (fun os started H enc _ => lifted os started H enc)
end Go.Proofs.YtfbecfikeiecmaaGreat.ledgerSums
