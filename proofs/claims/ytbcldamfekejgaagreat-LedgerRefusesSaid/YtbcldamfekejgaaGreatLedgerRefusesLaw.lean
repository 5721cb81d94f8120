/- What is refused changes nothing; what is done is one version more: the law LedgerRefuses answers true, at every input. -/
import Derived.Laws.StructEq
import Derived.Test.YtbcldamfekejgaaGreatLedActM
import Derived.Test.YtbcldamfekejgaaGreatTopoFrame
import Derived.Test.YtbcldamfekejgaaGreatLedSame
set_option linter.unusedVariables false
namespace Go.Proofs.YtbcldamfekejgaaGreat.ledgerRefuses
open Go Go.ChangeShapes Go.WideShapes Go.ChangeAt Go.RowKit
open Go.MuLone
set_option maxRecDepth 100000 in
set_option maxHeartbeats 4000000 in
theorem walk (a0 : Option Addr) (c0 : Nat) (n0 : List (List (Int × Int))) (a1 : Option Addr) (c1 : Nat) (l1 : List Un) (a2 : Option Addr) (c2 : Nat) (l2 : List La) (w : World) (w0 : Nodes w w.heap.size a0 n0) (lc0 : n0.length ≤ c0) (mc0 : c0 ≤ maxLen)
    (v1 : Uns w w.heap.size a1 l1) (q1 : ∀ a ∈ l1, UnW a) (lc1 : l1.length ≤ c1) (mc1 : c1 ≤ maxLen) (v2 : Las w w.heap.size a2 l2) (q2 : ∀ a ∈ l2, LaOk a) (lc2 : l2.length ≤ c2) (mc2 : c2 ≤ maxLen) :
    Calls Tryz.prog 5 #[.agg #[.slice a0 n0.length c0], .slice a1 l1.length c1, .slice a2 l2.length c2] w fun e w' => e = .returned (.bool true) ∧ Below w.heap.size w w' := by
  have hA := Lib.hid awake_l
  obtain ⟨m, hm⟩ : ∃ m, n0.length = m := ⟨_, rfl⟩
  obtain ⟨k1, hk1⟩ : ∃ k, l1.length = k := ⟨_, rfl⟩
  obtain ⟨n, hn⟩ : ∃ k, l2.length = k := ⟨_, rfl⟩
  have hF0 := fun W (hW : Below w.heap.size w W) => few_l a0 a1 a2 c0 c1 c2 n0 l1 l2 W (Nodes.keep w0 hW hW.size) (v1.keep hW hW.size) (v2.up hW hW.size) (Nat.le_trans lc2 mc2) (fun a ha => (q2 a ha).few)
  rw [hm, hk1, hn] at hF0
  have hN0 := fun W (hW : Below w.heap.size w W) => lnew_l a0 a1 c0 c1 n0 l1 W (Nodes.keep w0 hW hW.size) (v1.keep hW hW.size)
  rw [hm, hk1] at hN0
  rw [hm, hk1, hn]
  have k0 : (w.alloc (.cells #[.slice a0 m c0] 24)).cell? ⟨w.heap.size, 0, none⟩ = some (.slice a0 m c0) := by go_simp
  have hBa := (Below.refl w.heap.size w).alloc (Nat.le_refl _) (.cells #[.slice a0 m c0] 24)
  cases hf : few8 n0 l1 l2
  · rw [hf] at hF0
    have hF := Lib.hid hF0
    clear hF0 hN0 w0 v1 v2 q1 q2 hm hk1 hn lc0 mc0 lc1 mc1 lc2 mc2 hf
    go_enter Tryz.func5, Tryz.ntmps5
    go_wp2_with (first
      | (go_at_call 10; refine (hA.out _).mono ?_; rintro e u2 ⟨rfl, hb2⟩; have hB2 := below_step hBa hb2; have k2 := (hb2.cell (p := ⟨w.heap.size, 0, none⟩) (by simp)).trans k0; have s2 := hb2.size; simp at s2)
      | (go_at_call 11; refine (hF.out _ hB2).mono ?_; rintro e u3 ⟨rfl, hb3⟩; have hB3 := below_step hB2 hb3; have k3 := (hb3.cell (p := ⟨w.heap.size, 0, none⟩) (show w.heap.size < _ by omega)).trans k2))
    go_ret
    exact ⟨rfl, hB3⟩
  rw [hf] at hF0
  have hF := Lib.hid hF0
  have hf2 := hf
  unfold few8 at hf2
  simp only [Bool.and_eq_true] at hf2
  obtain ⟨⟨hc, hq⟩, hfl⟩ := hf2
  have hn60 : n ≤ 60 := by unfold fewLs at hfl; simp only [Bool.and_eq_true, decide_eq_true_eq] at hfl; omega
  have hN2 := fun W hW => (hN0 W hW).mono fun e w' (hl : LNew n0 l1 W e w') => show ∃ p F, e = .returned (.tuple #[.pointer (some ⟨p, 0, none⟩), .int .i64 0]) ∧ LIn w w' p F (frees n0) (LM.init n0 l1) from by
    rcases hl.2 with ⟨h2 | h2, _⟩ | ⟨_, _, p, F, he, ho, hF⟩
    · rw [hc] at h2; cases h2
    · rw [hq] at h2; cases h2
    · exact ⟨p, F, he, .made hW ho hF hl.1⟩
  have hN := Lib.hid hN2
  have H := Lib.hid (And.intro v2 (And.intro q2 hn))
  have hver0 : (LM.init n0 l1).ver = 0 := rfl
  obtain ⟨st0, hst0⟩ : ∃ st, st = LM.init n0 l1 := ⟨_, rfl⟩
  obtain ⟨fs, hfs⟩ : ∃ fs, fs = frees n0 := ⟨_, rfl⟩
  rw [← hst0] at hver0 hN
  rw [← hfs] at hN
  clear hF0 hN0 hN2 w0 v1 v2 q1 q2 hm hk1 hn lc0 mc0 lc1 mc1 lc2 mc2 hf hc hq hfl hst0 hfs
  go_enter Tryz.func5, Tryz.ntmps5
  go_wp2_with (first
    | (go_at_call 10; refine (hA.out _).mono ?_; rintro e u2 ⟨rfl, hb2⟩; have hB2 := below_step hBa hb2; have k2 := (hb2.cell (p := ⟨w.heap.size, 0, none⟩) (by simp)).trans k0; have s2 := hb2.size; simp at s2)
    | (go_at_call 11; refine (hF.out _ hB2).mono ?_; rintro e u3 ⟨rfl, hb3⟩; have hB3 := below_step hB2 hb3; have k3 := (hb3.cell (p := ⟨w.heap.size, 0, none⟩) (show w.heap.size < _ by omega)).trans k2)
    | (go_at_call 12; refine (hN.out _ hB3).mono ?_; rintro e u4 ⟨p, F4, rfl, hl4⟩; have HL4 := Lib.hid hl4; clear hl4))
  clear k0 k2 k3 hBa hB2 hB3 hb2 hb3 s2 hA hF hN
  go_loopw [9] (fun i wr => ∃ k : Nat, i = .int .i64 k ∧ k ≤ n ∧ Hid (∃ F st, LIn w wr p F fs st ∧ st.ver ≤ k)) (fun i _ => n - (intOf i).toNat)
  case atStart => exact ⟨0, rfl, by omega, Lib.hid ⟨F4, st0, HL4.out, by omega⟩⟩
  case round =>
    obtain ⟨k, rfl, hk, hW⟩ := hrel
    by_cases hlt : k < n
    · obtain ⟨F, st, hL, hv⟩ := hW.out
      obtain ⟨v2, q2, hn⟩ := H.out
      obtain ⟨a, hx⟩ := get_lt (l := l2) (k := k) (by rw [hn]; exact hlt)
      have ha := q2 a (List.mem_of_getElem? hx)
      obtain ⟨b, off, rfl, hb, hcw⟩ := v2.at_ hx
      obtain ⟨A, c, hcells, hsl⟩ := hcw k a hx
      have HX := Lib.hid (And.intro hcells (And.intro hsl (And.intro ha hb)))
      have hv2 : st.ver ≤ 100000 := by omega
      have hok := hL.at_.ok
      have hvk := LM.act_ver fs st a
      have hsteps := LM.act_steps fs st a
      have HD := Lib.hid (fun w1 (h1 : LIn w w1 p F fs st) => do_l A c a h1.at_ hv2 ha (Slots.keep hsl h1.bel h1.bel.size) (hsl.old h1.hF))
      have HK := Lib.hid (And.intro hok (And.intro hv hvk))
      obtain ⟨T, hT⟩ : ∃ T, T = LM.act fs st a := ⟨_, rfl⟩
      have HLo := Lib.hid hL
      rw [← hT] at HD HK hsteps
      obtain ⟨ver, hverd⟩ : ∃ v, v = st.ver := ⟨_, rfl⟩
      have hver60 : ver ≤ 60 := by omega
      have HV := Lib.hid hverd
      obtain ⟨⟨⟨te, tids, tsl, thd⟩, st2⟩, hT2⟩ : ∃ X, X = T := ⟨_, rfl⟩
      rw [← hT2] at HD HK hsteps
      simp only [LM.Steps, LM.idle] at hsteps
      have HST := Lib.hid hsteps
      obtain ⟨ak, aid, aq, aun, anow, aold, asl⟩ := a
      simp only [laC] at HD HX
      have j1 : (k : Int) < (n : Int) := by omega
      have t1 : decide (k < n) = true := decide_eq_true hlt
      have hcl : ∀ j u, (laC ⟨ak, aid, aq, aun, anow, aold, asl⟩ A c)[j]? = some u → wr.cell? ⟨b, off + k * 7 + j, none⟩ = some u := fun j u hj => (hL.bel.cell (p := ⟨b, off + k * 7 + j, none⟩) hb).trans (hcells j u hj)
      have hlw := hL.bel.size
      have hF0 := hL.hF
      have HFF := Lib.hid hF0
      clear hT hT2 hsteps hverd hx hcw hcells hsl ha v2 q2 hn hL hv hv2 hok hvk hW hcl hF0
      go_wp2_with (first
        | (go_at_call 26; refine (version_l HLo.out.at_).mono ?_; rintro e x1 ⟨rfl, hy1⟩; have HL1 := Lib.hid (HLo.out.keep hy1); have HY1 := Lib.hid hy1; clear hy1; rw [← HV.out])
        | (go_at_call 20; refine (holds_l HL1.out.at_ (by have := HK.out.1.1.few; have := HK.out.2.1; omega)).mono ?_; rintro e x2 ⟨A2, c2_, G2, rfl, hh2, hG2, hy2⟩; have HL2 := Lib.hid (HL1.out.keep hy2); have HH2 := Lib.hid (And.intro hh2 (And.intro hG2 hy2)); clear hy2 hh2 hG2)
        | (go_at_call 19; refine (free_l HL2.out.at_).mono ?_; rintro e x3 ⟨A3, c3, rfl, hh3, hG3, hy3⟩; have HL3 := Lib.hid (HL2.out.keep hy3); have HH3 := Lib.hid (And.intro hh3 (And.intro hG3 hy3)); clear hy3 hh3 hG3)
        | (go_at_call 27; refine (drained_l HL3.out.at_).mono ?_; rintro e x4 ⟨A4, c4, rfl, hh4, hG4, hy4⟩; have HL4b := Lib.hid (HL3.out.keep hy4); have HH4 := Lib.hid (And.intro hh4 (And.intro hG4 hy4)); have hc4 := fun j u hj => (HL4b.out.bel.cell (p := ⟨b, off + k * 7 + j, none⟩) HX.out.2.2.2).trans (HX.out.1 j u hj); have y0 := hc4 0 _ rfl; rw [Nat.add_zero] at y0; have y1 := hc4 1 _ rfl; have y2 := hc4 2 _ rfl; have y3 := hc4 3 _ rfl; have y4 := hc4 4 _ rfl; have y5 := hc4 5 _ rfl; have y6 := hc4 6 _ rfl; clear hy4 hh4 hG4 hc4))
      refine (HD.out x4 HL4b.out).mono ?_
      rintro e x5 ⟨v, rfl, ⟨A1, cc1, A6, c6, rfl, hh5, hA5, _, _⟩, F5, s1, s2, s3⟩
      simp only [tlV]
      have hL5 := HL4b.out.step s1 s2 s3
      have hltF := HLo.out.at_.lt.2
      have z1 := HY1.out.size
      have z2 := HH2.out.2.2.size
      have z3 := HH3.out.2.2.size
      have z4 := HH4.out.2.2.size
      have o2 : HL x5 G2 A2 st.hs := (HH2.out.1.keep (below_step HH3.out.2.2 HH4.out.2.2)).foot s2 fun i hg hf => by have := hltF i hf; have := (HH2.out.2.1 i hg).1; omega
      have o3 : Frees x5 x5.heap.size A3 (PM.free fs st.ts) := (Frees.keep HH3.out.1 HH4.out.2.2 HH4.out.2.2.size).off s2.size fun b off e hb => s2.block b hb fun hf => by have := hltF b hf; have := (HH3.out.2.1 b off e).1; omega
      have o4 : Bls x5 x5.heap.size A4 st.dr := HH4.out.1.foot2 s2 fun b off e hf => by have := hltF b hf; have := (HH4.out.2.1 b off e).1; omega
      have u0 : x5.cell? ⟨b, off + k * 7, none⟩ = some (.int .i64 ak) := by have h9 := (hL5.bel.cell (p := ⟨b, off + k * 7 + 0, none⟩) HX.out.2.2.2).trans (HX.out.1 0 _ rfl); simpa using h9
      have lb5 : b < x5.heap.size := Nat.lt_of_lt_of_le HX.out.2.2.2 hL5.bel.size
      have hid5 : tids = [] ∨ tids ≠ [] := Classical.em _
      have HL5 := Lib.hid hL5
      have HO := Lib.hid (And.intro o2 (And.intro o3 o4))
      clear hL5 o2 o3 o4 s1 s2 s3 hh5 hA5 y0 y1 y2 y3 y4 y5 y6 z1 z2 z3 z4 hltF
      obtain ⟨nid, hnid⟩ : ∃ m, m = tids.length := ⟨_, rfl⟩
      rw [← hnid]
      have HNI := Lib.hid hnid
      clear hnid
      by_cases hte : te ≠ 0
      · have e1 : (te == 0) = false := beq_eq_false_iff_ne.2 hte
        have e2 : (te != 0) = true := by rw [bne_iff_ne]; exact hte
        have hst : st2 = st := by rcases HST.out with ⟨_, h9⟩ | ⟨h9, _⟩; exact h9; simp [hte] at h9
        subst hst
        have HL6 := Lib.hid (HL5.out.keep ((Below.refl x5.heap.size x5).alloc (Nat.le_refl _) (.cells #[.int .i64 te, .slice A1 nid cc1, .int .i64 tsl.n, .int .i64 tsl.d, .int .u64 (tsl.m : Nat), .int .i64 tsl.c, .int .i64 thd.id, .int .i64 thd.q, .int .i64 thd.un, .bool thd.run, .slice A6 thd.sl.length c6] 46)))
        have HB6 := Lib.hid ((Below.refl x5.heap.size x5).alloc (Nat.le_refl _) (.cells #[.int .i64 te, .slice A1 nid cc1, .int .i64 tsl.n, .int .i64 tsl.d, .int .u64 (tsl.m : Nat), .int .i64 tsl.c, .int .i64 thd.id, .int .i64 thd.q, .int .i64 thd.un, .bool thd.run, .slice A6 thd.sl.length c6] 46))
        clear hte hid5
        go_wp2_with (first
          | (go_at_call 26; refine (version_l HL6.out.at_).mono ?_; rintro e x7 ⟨rfl, hy7⟩; have HL7 := Lib.hid (HL6.out.keep hy7); have HB7 := Lib.hid (below_step HB6.out hy7); clear hy7; rw [← HV.out])
          | (go_at_call 20; refine (holds_l HL7.out.at_ (by have := HK.out.1.1.few; have := HK.out.2.1; omega)).mono ?_; rintro e x8 ⟨A8, c8, G8, rfl, hh8, _, hy8⟩; have HL8 := Lib.hid (HL7.out.keep hy8); have HB8 := Lib.hid (And.intro (below_step HB7.out hy8) hh8); clear hy8 hh8)
          | (go_at_call 28; refine (same_holds A8 A2 c8 c2_ G8 G2 st2.hs x8 HB8.out.2 (HO.out.1.keep HB8.out.1) (by have := HK.out.1.1.few; have := HK.out.2.1; omega) (fun g hg => (HK.out.1.1.ok g hg).n2)).mono ?_; rintro e x9 ⟨rfl, hy9⟩; have HL9 := Lib.hid (HL8.out.keep hy9); have HB9 := Lib.hid (below_step HB8.out.1 hy9); clear hy9)
          | (go_at_call 19; refine (free_l HL9.out.at_).mono ?_; rintro e x10 ⟨A10, c10, rfl, hh10, _, hy10⟩; have HL10 := Lib.hid (HL9.out.keep hy10); have HB10 := Lib.hid (And.intro (below_step HB9.out hy10) hh10); clear hy10 hh10)
          | (go_at_call 23; refine (same_any A10 A3 c10 c3 (PM.free fs st2.ts) x10 HB10.out.2 (HO.out.2.1.keep HB10.out.1 HB10.out.1.size) (by rw [PM.free_len HK.out.1.2.2.1]; exact HK.out.1.2.1.few)).mono ?_; rintro e x11 ⟨rfl, hy11⟩; have HL11 := Lib.hid (HL10.out.keep hy11); have HB11 := Lib.hid (below_step HB10.out.1 hy11); clear hy11)
          | (go_at_call 27; refine (drained_l HL11.out.at_).mono ?_; rintro e x12 ⟨A12, c12, rfl, hh12, _, hy12⟩; have HL12 := Lib.hid (HL11.out.keep hy12); have HB12 := Lib.hid (And.intro (below_step HB11.out hy12) hh12); clear hy12 hh12)
          | (go_at_call 29; refine (bools_any A12 A4 c12 c4 x12.heap.size x12.heap.size st2.dr st2.dr x12 HB12.out.2 (HO.out.2.2.keep HB12.out.1 HB12.out.1.size) (Nat.le_refl _) (Nat.le_refl _) (by have := HK.out.1.2.1.nodes; omega)).mono ?_; rintro e x13 ⟨rfl, hy13⟩; have HL13 := Lib.hid (HL12.out.keep hy13); clear hy13; have hdd : decide (st2.dr = st2.dr) = true := decide_eq_true rfl; rw [hdd]))
        go_roundw
        case rel => exact ⟨k + 1, by go_num, by omega, Lib.hid ⟨F5, st2, HL13.out, by have := HK.out.2.1; omega⟩⟩
        case measure => simp [intOf]; omega
      have hte0 : te = 0 := Classical.not_not.1 hte
      subst hte0
      by_cases h5 : ak = 5
      · have e3 : (ak == 5) = true := by rw [beq_iff_eq]; exact h5
        rcases hid5 with hnil | hnil
        · have hst : st2 = st := by rcases HST.out with ⟨_, h9⟩ | ⟨h9, _⟩; exact h9; simp [hnil, h5] at h9
          have hn0 : nid = 0 := by rw [HNI.out, hnil]; rfl
          subst hn0
          subst hst
          have HL6 := Lib.hid (HL5.out.keep ((Below.refl x5.heap.size x5).alloc (Nat.le_refl _) (.cells #[.int .i64 0, .slice A1 0 cc1, .int .i64 tsl.n, .int .i64 tsl.d, .int .u64 (tsl.m : Nat), .int .i64 tsl.c, .int .i64 thd.id, .int .i64 thd.q, .int .i64 thd.un, .bool thd.run, .slice A6 thd.sl.length c6] 46)))
          have HB6 := Lib.hid ((Below.refl x5.heap.size x5).alloc (Nat.le_refl _) (.cells #[.int .i64 0, .slice A1 0 cc1, .int .i64 tsl.n, .int .i64 tsl.d, .int .u64 (tsl.m : Nat), .int .i64 tsl.c, .int .i64 thd.id, .int .i64 thd.q, .int .i64 thd.un, .bool thd.run, .slice A6 thd.sl.length c6] 46))
          clear hnil hte h5
          go_wp2_with (first
            | (go_at_call 26; refine (version_l HL6.out.at_).mono ?_; rintro e x7 ⟨rfl, hy7⟩; have HL7 := Lib.hid (HL6.out.keep hy7); have HB7 := Lib.hid (below_step HB6.out hy7); clear hy7; rw [← HV.out])
            | (go_at_call 20; refine (holds_l HL7.out.at_ (by have := HK.out.1.1.few; have := HK.out.2.1; omega)).mono ?_; rintro e x8 ⟨A8, c8, G8, rfl, hh8, _, hy8⟩; have HL8 := Lib.hid (HL7.out.keep hy8); have HB8 := Lib.hid (And.intro (below_step HB7.out hy8) hh8); clear hy8 hh8)
            | (go_at_call 28; refine (same_holds A8 A2 c8 c2_ G8 G2 st2.hs x8 HB8.out.2 (HO.out.1.keep HB8.out.1) (by have := HK.out.1.1.few; have := HK.out.2.1; omega) (fun g hg => (HK.out.1.1.ok g hg).n2)).mono ?_; rintro e x9 ⟨rfl, hy9⟩; have HL9 := Lib.hid (HL8.out.keep hy9); have HB9 := Lib.hid (below_step HB8.out.1 hy9); clear hy9)
            | (go_at_call 19; refine (free_l HL9.out.at_).mono ?_; rintro e x10 ⟨A10, c10, rfl, hh10, _, hy10⟩; have HL10 := Lib.hid (HL9.out.keep hy10); have HB10 := Lib.hid (And.intro (below_step HB9.out hy10) hh10); clear hy10 hh10)
            | (go_at_call 23; refine (same_any A10 A3 c10 c3 (PM.free fs st2.ts) x10 HB10.out.2 (HO.out.2.1.keep HB10.out.1 HB10.out.1.size) (by rw [PM.free_len HK.out.1.2.2.1]; exact HK.out.1.2.1.few)).mono ?_; rintro e x11 ⟨rfl, hy11⟩; have HL11 := Lib.hid (HL10.out.keep hy11); have HB11 := Lib.hid (below_step HB10.out.1 hy11); clear hy11)
            | (go_at_call 27; refine (drained_l HL11.out.at_).mono ?_; rintro e x12 ⟨A12, c12, rfl, hh12, _, hy12⟩; have HL12 := Lib.hid (HL11.out.keep hy12); have HB12 := Lib.hid (And.intro (below_step HB11.out hy12) hh12); clear hy12 hh12)
            | (go_at_call 29; refine (bools_any A12 A4 c12 c4 x12.heap.size x12.heap.size st2.dr st2.dr x12 HB12.out.2 (HO.out.2.2.keep HB12.out.1 HB12.out.1.size) (Nat.le_refl _) (Nat.le_refl _) (by have := HK.out.1.2.1.nodes; omega)).mono ?_; rintro e x13 ⟨rfl, hy13⟩; have HL13 := Lib.hid (HL12.out.keep hy13); clear hy13; have hdd : decide (st2.dr = st2.dr) = true := decide_eq_true rfl; rw [hdd]))
          go_roundw
          case rel => exact ⟨k + 1, by go_num, by omega, Lib.hid ⟨F5, st2, HL13.out, by have := HK.out.2.1; omega⟩⟩
          case measure => simp [intOf]; omega
        · have hvv : ((st2.ver : Nat) : Int) = (ver : Int) + 1 := by rcases HST.out with ⟨h9, _⟩ | ⟨_, h9⟩; simp [hnil] at h9; rw [h9, HV.out]; simp
          have hn1 : nid ≠ 0 := by rw [HNI.out]; exact fun e => hnil (List.length_eq_zero_iff.1 e)
          have e4 : ((nid : Int) == 0) = false := beq_eq_false_iff_ne.2 (by omega)
          have e5 : (nid == 0) = false := beq_eq_false_iff_ne.2 hn1
          have HL6 := Lib.hid (HL5.out.keep ((Below.refl x5.heap.size x5).alloc (Nat.le_refl _) (.cells #[.int .i64 0, .slice A1 nid cc1, .int .i64 tsl.n, .int .i64 tsl.d, .int .u64 (tsl.m : Nat), .int .i64 tsl.c, .int .i64 thd.id, .int .i64 thd.q, .int .i64 thd.un, .bool thd.run, .slice A6 thd.sl.length c6] 46)))
          have n9 : ((ver : Int) + 1 != (ver : Int) + 1) = false := by simp
          have HVV := Lib.hid hvv
          clear hvv hnil hte h5 hn1
          go_wp2_with (first
            | (go_at_call 26; refine (version_l HL6.out.at_).mono ?_; rintro e x7 ⟨rfl, hy7⟩; have HL7 := Lib.hid (HL6.out.keep hy7); clear hy7; rw [HVV.out]))
          go_roundw
          case rel => exact ⟨k + 1, by go_num, by omega, Lib.hid ⟨F5, st2, HL7.out, by have := HK.out.2.2; have := HK.out.2.1; omega⟩⟩
          case measure => simp [intOf]; omega
      · have e3 : (ak == 5) = false := beq_eq_false_iff_ne.2 h5
        have hvv : ((st2.ver : Nat) : Int) = (ver : Int) + 1 := by rcases HST.out with ⟨h9, _⟩ | ⟨_, h9⟩; simp [h5] at h9; rw [h9, HV.out]; simp
        have HL6 := Lib.hid (HL5.out.keep ((Below.refl x5.heap.size x5).alloc (Nat.le_refl _) (.cells #[.int .i64 0, .slice A1 nid cc1, .int .i64 tsl.n, .int .i64 tsl.d, .int .u64 (tsl.m : Nat), .int .i64 tsl.c, .int .i64 thd.id, .int .i64 thd.q, .int .i64 thd.un, .bool thd.run, .slice A6 thd.sl.length c6] 46)))
        have n9 : ((ver : Int) + 1 != (ver : Int) + 1) = false := by simp
        have HVV := Lib.hid hvv
        clear hvv hte h5 hid5
        go_wp2_with (first
          | (go_at_call 26; refine (version_l HL6.out.at_).mono ?_; rintro e x7 ⟨rfl, hy7⟩; have HL7 := Lib.hid (HL6.out.keep hy7); clear hy7; rw [HVV.out]))
        go_roundw
        case rel => exact ⟨k + 1, by go_num, by omega, Lib.hid ⟨F5, st2, HL7.out, by have := HK.out.2.2; have := HK.out.2.1; omega⟩⟩
        case measure => simp [intOf]; omega
    · obtain rfl : k = n := by omega
      have t1 : decide (k < k) = false := decide_eq_false (by omega)
      obtain ⟨F, st, hL, hv⟩ := hW.out
      have HB := Lib.hid hL.bel
      clear hlt hW hL
      go_wp2
      go_ret
      exact ⟨rfl, HB.out⟩

set_option maxRecDepth 100000 in
set_option maxHeartbeats 1000000 in
theorem lifted (os : Os) (started : os.Started) (H : Type) (enc : TypeId × Value → H) :
    ReturnsInHanded {} Tryz.checked os 5 .any (Rows.ledgerRefusesSpec.pre6 enc Tryz.prog Tryz.f5 Rows.ledgerRefusesRow.domain false) (Rows.ledgerRefusesSpec.post enc Tryz.prog Tryz.f5 false true false false) := by
  refine returnsInHanded_of_change (C := Tryz.checked) own started (by kernel_rfl) Tryz.func5
    (ChangeSpec.witness6 (enc := enc) (C := Tryz.checked) false ⟨#[], #[.agg #[.slice none 0 0], .slice none 0 0, .slice none 0 0], []⟩ 8 (by kernel_rfl) (by kernel_rfl) (by kernel_rfl) (by kernel_rfl)) ?_
  intro W base args ds gs before hval0 hW _ _
  have hval : ∀ (j : Nat) t v, Tryz.f5.params[j]? = some t → args[j]? = some v → Value.okWide Tryz.prog W .any base t v := hval0
  have hW' := hW
  obtain ⟨p, q, hA0, hV, rfl, hfz, hnd⟩ := hW
  have hA : DataW.TrodAll enc Tryz.prog W 0 (fun _ => true) true Tryz.f5.params.toList args.toList ds p := hA0
  rw [Tryz.params5] at hA hval
  obtain ⟨v0, vs0, d0, ds0, p0, q0, hargs, rfl, rfl, h0, r0⟩ := trodAll_cons hA
  obtain ⟨v1, vs1, d1, ds1, p1, q1, rfl, rfl, rfl, h1, r1⟩ := trodAll_cons r0
  obtain ⟨v2, vs2, d2, ds2, p2, q2, rfl, rfl, rfl, h2, r2⟩ := trodAll_cons r1
  obtain ⟨rfl, rfl, rfl⟩ := trodAll_nil r2
  obtain rfl : args = #[v0, v1, v2] := by cases args; simp_all
  obtain ⟨rfl, rfl⟩ := trodVars_none hV
  have k0 := h0
  have lt0 : ∀ x ∈ p0, x.block < W.heap.size := by obtain ⟨m, hm⟩ := k0; exact DataW.trod_lt m _ _ _ hm
  obtain ⟨a0, c0, n0, rfl, lc0, mc0, w0⟩ := clu_of (hval 0 24 v0 rfl rfl) h0
  have k1 := h1
  have lt1 : ∀ x ∈ p1, x.block < W.heap.size := by obtain ⟨m, hm⟩ := k1; exact DataW.trod_lt m _ _ _ hm
  obtain ⟨a1, c1, l1, rfl, lc1, mc1, v1, q1⟩ := uns_of (hval 1 25 v1 rfl rfl) h1
  have k2 := h2
  have lt2 : ∀ x ∈ p2, x.block < W.heap.size := by obtain ⟨m, hm⟩ := k2; exact DataW.trod_lt m _ _ _ hm
  obtain ⟨a2, c2, l2, rfl, lc2, mc2, v2, q2⟩ := las_of (hval 2 26 v2 rfl rfl) h2
  clear hA0 hval0
  refine (walk a0 c0 n0 a1 c1 l1 a2 c2 l2 W w0 lc0 mc0 v1 q1 lc1 mc1 v2 q2 lc2 mc2).mono fun e W' ⟨he, bel⟩ => ?_
  subst he
  exact ⟨_, rfl, _, _, _, [], _, [], hW', trodAll_mk1 (shut_bool Tryz.underlying4 _), (trodAll_cons_mk (Below.trod laidOut (by kernel_rfl) (of_decide_eq_true (by kernel_rfl)) k0 bel lt0) (trodAll_cons_mk (Below.trod laidOut (by kernel_rfl) (of_decide_eq_true (by kernel_rfl)) k1 bel lt1) (trodAll_cons_mk (Below.trod laidOut (by kernel_rfl) (of_decide_eq_true (by kernel_rfl)) k2 bel lt2) trodAll_mk0))), rfl, bel.frame _, fun h => by cases h⟩

/-- THE STATEMENT. -/
theorem holds : Rows.LedgerRefusesSaid :=
  OpenClaim.holds_of_wide 5 Tryz.f5 rfl rfl rfl rfl rfl rfl rfl ⟨rfl, rfl, rfl, rfl, rfl⟩ rfl rfl rfl rfl rfl (by kernel_rfl) Tryz.func5 (by kernel_rfl)
    (of_decide_eq_true (by kernel_rfl)) (by unfold Func.isWrapper; first | (rw [if_pos (by decide +kernel)]; kernel_rfl) | (rw [if_neg (by decide +kernel)]; exact ⟨rfl, rfl⟩))
    (fun os started H enc _ => lifted os started H enc)
end Go.Proofs.YtbcldamfekejgaaGreat.ledgerRefuses
