/- Behind an expiry no hold that is not running is late; the others are as they were: the law LedgerExpires answers true, at every input. -/
import Derived.Laws.StructEq
import Derived.Test.YtbcldamfekejgaaGreatLedActM
import Derived.Test.YtbcldamfekejgaaGreatTopoFrame
import Derived.Test.YtbcldamfekejgaaGreatLedSame
import Derived.Deep.AppendLies
import Derived.RegionTactic
import Derived.BigRegion
set_option linter.unusedVariables false
namespace Go.Proofs.YtbcldamfekejgaaGreat.ledgerExpires
open Go Go.ChangeShapes Go.WideShapes Go.ChangeAt Go.RowKit
open Go.MuLone

theorem foldl_hs {fs : List Fr} : ∀ (l : List Hd) (st : LS), (l.foldl (LM.letGo fs) st).hs = st.hs.filter (fun g => l.all fun x => g.id != x.id)
  | [], st => by simp only [List.foldl_nil, List.all_nil]; exact (List.filter_eq_self.2 fun _ _ => rfl).symm
  | x :: l, st => by
    rw [List.foldl_cons, foldl_hs l]
    show (LM.del x.id st.hs).filter _ = _
    unfold LM.del
    rw [List.filter_filter]
    refine List.filter_congr fun g _ => ?_
    rw [List.all_cons, Bool.and_comm]
theorem allGo_hs {fs : List Fr} {st : LS} {p : Hd → Bool} (ha : LM.Asc st.hs) : (LM.allGo fs st p).hs = st.hs.filter fun g => !p g := by
  unfold LM.allGo
  rw [foldl_hs]
  refine List.filter_congr fun g hg => ?_
  cases hp : p g
  · simp only [Bool.not_false, List.all_eq_true, bne_iff_ne]
    intro x hx e
    rw [List.mem_filter] at hx
    have := LM.asc_inj ha hg hx.1 e
    rw [this, hx.2] at hp; cases hp
  · simp only [Bool.not_true]
    rw [← Bool.not_eq_true, List.all_eq_true]
    intro h
    have := h g (List.mem_filter.2 ⟨hg, hp⟩)
    simp at this
theorem expire_hs {fs : List Fr} {st : LS} {now : Int} (ha : LM.Asc st.hs) : (LM.expire fs st now).2.hs = st.hs.filter fun g => !LM.late now g := by
  unfold LM.expire
  simp only
  split
  · rename_i h
    unfold LM.idsOf at h
    rw [List.map_eq_nil_iff, List.filter_eq_nil_iff] at h
    symm
    rw [List.filter_eq_self]
    intro g hg
    simpa using h g hg
  · exact allGo_hs ha
theorem expire_none {fs : List Fr} {st : LS} {now : Int} (h : ∀ g ∈ st.hs, LM.late now g = false) : (LM.expire fs st now).1 = [] := by
  unfold LM.expire LM.idsOf
  simp only
  rw [List.map_eq_nil_iff, List.filter_eq_nil_iff]
  intro g hg; rw [h g hg]; simp
theorem filter_at {α : Type} {p : α → Bool} {L : List α} {k : Nat} {x : α} (hx : L[k]? = some x) (hp : p x = true) : (L.filter p)[((L.take k).filter p).length]? = some x := by
  have hk := (List.getElem?_eq_some_iff.1 hx).1
  have e : L = L.take k ++ x :: L.drop (k + 1) := by
    have h1 := (List.getElem?_eq_some_iff.1 hx).2
    have h2 := List.drop_eq_getElem_cons hk
    rw [h1] at h2
    rw [← h2, List.take_append_drop]
  have e2 : L.filter p = (L.take k).filter p ++ x :: (L.drop (k + 1)).filter p := by
    conv => lhs; rw [e]
    rw [List.filter_append, List.filter_cons_of_pos hp]
  rw [e2, List.getElem?_append_right (Nat.le_refl _), Nat.sub_self]; rfl
theorem filter_step {α : Type} {p : α → Bool} {L : List α} {k : Nat} {x : α} (hx : L[k]? = some x) : (L.take (k + 1)).filter p = (L.take k).filter p ++ (if p x = true then [x] else []) := by
  rw [take_next hx, List.filter_append]
  by_cases e : p x = true
  · rw [if_pos e, List.filter_cons_of_pos e]; rfl
  · rw [if_neg e, List.filter_cons_of_neg e]; rfl
set_option maxRecDepth 100000 in
set_option maxHeartbeats 4000000 in
theorem walk (a0 : Option Addr) (c0 : Nat) (n0 : List (List (Int × Int))) (a1 : Option Addr) (c1 : Nat) (l1 : List Un) (a2 : Option Addr) (c2 : Nat) (l2 : List La) (a3 : Int) (w : World) (w0 : Nodes w w.heap.size a0 n0) (lc0 : n0.length ≤ c0) (mc0 : c0 ≤ maxLen)
    (v1 : Uns w w.heap.size a1 l1) (q1 : ∀ a ∈ l1, UnW a) (lc1 : l1.length ≤ c1) (mc1 : c1 ≤ maxLen) (v2 : Las w w.heap.size a2 l2) (q2 : ∀ a ∈ l2, LaOk a) (lc2 : l2.length ≤ c2) (mc2 : c2 ≤ maxLen) (w3 : (Lit.int .i64 a3).wf = true) :
    Calls Tryz.prog 6 #[.agg #[.slice a0 n0.length c0], .slice a1 l1.length c1, .slice a2 l2.length c2, .int .i64 a3] w fun e w' => e = .returned (.bool true) ∧ Below w.heap.size w w' := by
  have hA := Lib.hid awake_l
  obtain ⟨m, hm⟩ : ∃ m, n0.length = m := ⟨_, rfl⟩
  obtain ⟨k1, hk1⟩ : ∃ k, l1.length = k := ⟨_, rfl⟩
  obtain ⟨n, hn⟩ : ∃ k, l2.length = k := ⟨_, rfl⟩
  have hF0 := fun W (hW : Below w.heap.size w W) => few_l a0 a1 a2 c0 c1 c2 n0 l1 l2 W (Nodes.keep w0 hW hW.size) (v1.keep hW hW.size) (v2.up hW hW.size) (Nat.le_trans lc2 mc2) (fun a ha => (q2 a ha).few)
  rw [hm, hk1, hn] at hF0
  have hN0 := fun W (hW : Below w.heap.size w W) => lnew_l a0 a1 c0 c1 n0 l1 W (Nodes.keep w0 hW hW.size) (v1.keep hW hW.size)
  rw [hm, hk1] at hN0
  rw [hm, hk1, hn]
  have k0 : (w.alloc (.cells #[.slice a0 m c0] 24)).cell? ⟨w.heap.size, 0, none⟩ = some (.slice a0 m c0) := by go_simp
  have hBa := (Below.refl w.heap.size w).alloc (Nat.le_refl _) (.cells #[.slice a0 m c0] 24)
  cases hf : few8 n0 l1 l2
  · rw [hf] at hF0
    have hF := Lib.hid hF0
    clear hF0 hN0 w0 v1 v2 q1 q2 hm hk1 hn lc0 mc0 lc1 mc1 lc2 mc2 hf
    go_enter Tryz.func6, Tryz.ntmps6
    go_wp2_with (first
      | (go_at_call 10; refine (hA.out _).mono ?_; rintro e u2 ⟨rfl, hb2⟩; have hB2 := below_step hBa hb2; have k2 := (hb2.cell (p := ⟨w.heap.size, 0, none⟩) (by simp)).trans k0; have s2 := hb2.size; simp at s2)
      | (go_at_call 11; refine (hF.out _ hB2).mono ?_; rintro e u3 ⟨rfl, hb3⟩; have hB3 := below_step hB2 hb3; have k3 := (hb3.cell (p := ⟨w.heap.size, 0, none⟩) (show w.heap.size < _ by omega)).trans k2))
    go_ret
    exact ⟨rfl, hB3⟩
  rw [hf] at hF0
  have hF := Lib.hid hF0
  have hf2 := hf
  unfold few8 at hf2
  simp only [Bool.and_eq_true] at hf2
  obtain ⟨⟨hc, hq⟩, hfl⟩ := hf2
  have hn60 : n ≤ 60 := by unfold fewLs at hfl; simp only [Bool.and_eq_true, decide_eq_true_eq] at hfl; omega
  have hN2 := fun W hW => (hN0 W hW).mono fun e w' (hl : LNew n0 l1 W e w') => show ∃ p F, e = .returned (.tuple #[.pointer (some ⟨p, 0, none⟩), .int .i64 0]) ∧ LIn w w' p F (frees n0) (LM.init n0 l1) from by
    rcases hl.2 with ⟨h2 | h2, _⟩ | ⟨_, _, p, F, he, ho, hF⟩
    · rw [hc] at h2; cases h2
    · rw [hq] at h2; cases h2
    · exact ⟨p, F, he, .made hW ho hF hl.1⟩
  have hN := Lib.hid hN2
  have H := Lib.hid (And.intro v2 (And.intro q2 hn))
  have hver0 : (LM.init n0 l1).ver = 0 := rfl
  obtain ⟨st0, hst0⟩ : ∃ st, st = LM.init n0 l1 := ⟨_, rfl⟩
  obtain ⟨fs, hfs⟩ : ∃ fs, fs = frees n0 := ⟨_, rfl⟩
  rw [← hst0] at hver0 hN
  rw [← hfs] at hN
  clear hF0 hN0 hN2 w0 v1 v2 q1 q2 hm hk1 hn lc0 mc0 lc1 mc1 lc2 mc2 hf hc hq hfl hst0 hfs
  go_enter Tryz.func6, Tryz.ntmps6
  go_wp2_with (first
    | (go_at_call 10; refine (hA.out _).mono ?_; rintro e u2 ⟨rfl, hb2⟩; have hB2 := below_step hBa hb2; have k2 := (hb2.cell (p := ⟨w.heap.size, 0, none⟩) (by simp)).trans k0; have s2 := hb2.size; simp at s2)
    | (go_at_call 11; refine (hF.out _ hB2).mono ?_; rintro e u3 ⟨rfl, hb3⟩; have hB3 := below_step hB2 hb3; have k3 := (hb3.cell (p := ⟨w.heap.size, 0, none⟩) (show w.heap.size < _ by omega)).trans k2)
    | (go_at_call 12; refine (hN.out _ hB3).mono ?_; rintro e u4 ⟨p, F4, rfl, hl4⟩; have HL4 := Lib.hid hl4; clear hl4))
  clear k0 k2 k3 hBa hB2 hB3 hb2 hb3 s2 hA hF hN
  go_loopw [11] (fun i wr => ∃ k : Nat, i = .int .i64 k ∧ k ≤ n ∧ Hid (∃ F st, LIn w wr p F fs st ∧ st.ver ≤ k)) (fun i _ => n - (intOf i).toNat)
  case atStart => exact ⟨0, rfl, by omega, Lib.hid ⟨F4, st0, HL4.out, by omega⟩⟩
  case round =>
    obtain ⟨k, rfl, hk, hW⟩ := hrel
    by_cases hlt : k < n
    · obtain ⟨F, st, hL, hv⟩ := hW.out
      obtain ⟨v2, q2, hn⟩ := H.out
      obtain ⟨a, hx⟩ := get_lt (l := l2) (k := k) (by rw [hn]; exact hlt)
      have ha := q2 a (List.mem_of_getElem? hx)
      obtain ⟨b, off, rfl, hb, hcw⟩ := v2.at_ hx
      obtain ⟨A, c, hcells, hsl⟩ := hcw k a hx
      have hv2 : st.ver ≤ 100000 := by omega
      have hvk := LM.act_ver fs st a
      have hc4 := fun j u hj => (hL.bel.cell (p := ⟨b, off + k * 7 + j, none⟩) hb).trans (hcells j u hj)
      have HD := Lib.hid (do_l A c a hL.at_ hv2 ha (Slots.keep hsl hL.bel hL.bel.size) (hsl.old hL.hF))
      have HK := Lib.hid (And.intro hv hvk)
      have HLo := Lib.hid hL
      obtain ⟨T, hT⟩ : ∃ T, T = LM.act fs st a := ⟨_, rfl⟩
      rw [← hT] at HD HK
      obtain ⟨ak, aid, aq, aun, anow, aold, asl⟩ := a
      simp only [laC] at HD
      have y0 := hc4 0 _ rfl
      rw [Nat.add_zero] at y0
      have y1 := hc4 1 _ rfl
      have y2 := hc4 2 _ rfl
      have y3 := hc4 3 _ rfl
      have y4 := hc4 4 _ rfl
      have y5 := hc4 5 _ rfl
      have y6 := hc4 6 _ rfl
      simp only at y0 y1 y2 y3 y4 y5 y6
      have j1 : (k : Int) < (n : Int) := by omega
      have t1 : decide (k < n) = true := decide_eq_true hlt
      clear hT hx hcw hcells hsl ha v2 q2 hn hL hv hv2 hvk hW hc4
      go_wp2_with (first
        | (go_at_call 15; refine HD.out.mono ?_; rintro e x5 ⟨v, rfl, _, F5, s1, s2, s3⟩; have HL5 := Lib.hid (HLo.out.step s1 s2 s3); clear s1 s2 s3))
      go_roundw
      case rel => exact ⟨k + 1, by go_num, by omega, Lib.hid ⟨F5, _, HL5.out, by have := HK.out.2; have := HK.out.1; omega⟩⟩
      case measure => simp [intOf]; omega
    · obtain rfl : k = n := by omega
      have t1 : decide (k < k) = false := decide_eq_false (by omega)
      obtain ⟨F, st, hL, hv⟩ := hW.out
      have hok := hL.at_.ok.1
      have hfew : st.hs.length ≤ 60 := by have := hok.few; omega
      have HLo := Lib.hid hL
      have HK := Lib.hid (And.intro hok hv)
      have HE := Lib.hid (fun w1 F1 (h1 : LIn w w1 p F1 fs st) => expire_l a3 h1.at_ (by omega))
      obtain ⟨q, hq⟩ : ∃ q, q = st.hs.length := ⟨_, rfl⟩
      have HQ := Lib.hid hq
      rw [← hq] at hfew
      clear hlt hW hL hok hv hq
      go_wp2_with (first
        | (go_at_call 20; refine (holds_l HLo.out.at_ (by rw [← HQ.out]; omega)).mono ?_; rintro e x6 ⟨A6, c6, G6, rfl, hh6, hG6, hy6⟩; have HL6 := Lib.hid (HLo.out.keep hy6); have HH6 := Lib.hid (And.intro hh6 (And.intro hG6 hy6)); clear hh6 hG6 hy6; rw [← HQ.out])
        | (go_at_call 30; refine (HE.out x6 F HL6.out).mono ?_; rintro e x7 ⟨⟨A7, c7, rfl, ho7⟩, F7, s1, s2, s3⟩; have HX7 := Lib.hid (And.intro ho7 (And.intro s1 (And.intro s2 s3))); clear ho7 s1 s2 s3))
      obtain ⟨ids, hids⟩ : ∃ ids, ids = (LM.expire fs st a3).1 := ⟨_, rfl⟩
      have HI := Lib.hid hids
      rw [← hids] at HX7 ⊢
      obtain ⟨ni, hni⟩ : ∃ m, m = ids.length := ⟨_, rfl⟩
      have HNI := Lib.hid hni
      rw [← hni]
      have hE7 := (els_own (C := numC) numC_len (l := ids) (show x7.ownsRow x6.heap.size 3 1 (.slice A7 ids.length c7) ids.length (ids.flatMap numC) by rw [← map_numC]; exact HX7.out.1) rfl).1
      have hG6 := HH6.out.2.1
      have hltF := HLo.out.at_.lt.2
      have hH7 : HL x7 G6 A6 st.hs := HH6.out.1.foot HX7.out.2.2.1 fun i hg hf => by have := hltF i hf; have := (hG6 i hg).1; omega
      obtain ⟨L, e1, l2', l3, _, _⟩ := hH7
      have hLq : L.length = q := by rw [HQ.out, ← e1, List.length_map]
      have hidx : ∀ k x, L[k]? = some x → LM.late a3 x.h = true → ids[((L.take k).filter (fun x => LM.late a3 x.h)).length]? = some x.h.id := fun k x hx hp => by
        have h1 := filter_at (p := fun x : Hs => LM.late a3 x.h) hx hp
        have h2 : ids = (L.filter (fun x => LM.late a3 x.h)).map fun x => x.h.id := by
          rw [hids]
          unfold LM.expire LM.idsOf
          simp only
          rw [← e1, List.filter_map, List.map_map]
          rfl
        rw [h2, List.getElem?_map, h1]; rfl
      have hLL := HLo.out
      have HS := Lib.hid (And.intro hE7 (And.intro e1 (And.intro l2' (And.intro l3 (And.intro hLq hidx)))))
      have hi0 := info_parts info_hold
      clear hids hni hE7 hG6 hltF e1 l2' l3 hLq hidx hLL
      obtain ⟨i0, hi, hz0, hz1, hz2⟩ := hi0
      go_loopw [14, 15, 16] (fun v j i wr => ∃ (k nl cp jn : Nat) (A : Option Addr) (WL : List Hs), v = .slice A nl cp ∧ j = .int .i64 jn ∧ i = .int .i64 k ∧ k ≤ q ∧ nl ≤ k ∧ jn ≤ k ∧ Hid (WL = (L.take k).filter (fun x => !LM.late a3 x.h) ∧ nl = WL.length ∧ jn = ((L.take k).filter (fun x => LM.late a3 x.h)).length) ∧ Hid (wr.ownsRow x7.heap.size 44 5 (.slice A nl cp) nl (WL.flatMap hsC) ∧ Below x7.heap.size x7 wr)) (fun _ _ i _ => q - (intOf i).toNat)
      case atStart => exact ⟨0, 0, 0, 0, none, [], rfl, rfl, rfl, by omega, by omega, by omega, Lib.hid ⟨rfl, rfl, rfl⟩, Lib.hid ⟨World.ownsRow_nil _ _ _ _, Below.refl _ _⟩⟩
      case round =>
        obtain ⟨k, nl, cp, jn, A, WL, rfl, rfl, rfl, hkq, hnl, hjn, hWL, hROW⟩ := hrel
        by_cases hlt : k < q
        · obtain ⟨x, hx⟩ := get_lt (l := L) (k := k) (by rw [HS.out.2.2.2.2.1]; exact hlt)
          obtain ⟨b, off, rfl, hb, hc⟩ := HS.out.2.2.1.at_ hx
          have hcw : ∀ j u, (hsC x)[j]? = some u → wr.cell? ⟨b, off + k * 5 + j, none⟩ = some u := fun j u hj => (hROW.out.2.cell (p := ⟨b, off + k * 5 + j, none⟩) hb).trans (hc k x hx j u hj)
          have f0 := hcw 0 _ rfl
          rw [Nat.add_zero] at f0
          have f1 := hcw 1 _ rfl
          have f2 := hcw 2 _ rfl
          have f3 := hcw 3 _ rfl
          have f4 := hcw 4 _ rfl
          simp only [hsV] at f4
          have lbw : b < wr.heap.size := Nat.lt_of_lt_of_le hb hROW.out.2.size
          have j1 : (k : Int) < (q : Int) := by omega
          have t1 : decide (k < q) = true := decide_eq_true hlt
          have hsk : (L.take (k + 1)).filter (fun x => !LM.late a3 x.h) = WL ++ (if (!LM.late a3 x.h) = true then [x] else []) := by rw [hWL.out.1, filter_step hx]
          have hsj : ((L.take (k + 1)).filter (fun x => LM.late a3 x.h)).length = jn + (if LM.late a3 x.h = true then [x] else []).length := by rw [hWL.out.2.2, filter_step hx, List.length_append]
          have hix := HS.out.2.2.2.2.2 k x hx
          rw [← hWL.out.2.2] at hix
          obtain ⟨xi, e3⟩ : ∃ v, v = x.h.id := ⟨_, rfl⟩
          obtain ⟨xq, e4⟩ : ∃ v, v = x.h.q := ⟨_, rfl⟩
          obtain ⟨xu, e5⟩ : ∃ v, v = x.h.un := ⟨_, rfl⟩
          obtain ⟨xr, e6⟩ : ∃ v, v = x.h.run := ⟨_, rfl⟩
          obtain ⟨xA, e7⟩ : ∃ v, v = x.A := ⟨_, rfl⟩
          obtain ⟨xc, e9⟩ : ∃ v, v = x.c := ⟨_, rfl⟩
          obtain ⟨m5, e8⟩ : ∃ v, v = x.h.sl.length := ⟨_, rfl⟩
          have hxC : hsC x = [.int .i64 xi, .int .i64 xq, .int .i64 xu, .bool xr, .slice xA m5 xc] := by simp only [hsC, hsV, ← e3, ← e4, ← e5, ← e6, ← e7, ← e8, ← e9]
          have hll : LM.late a3 x.h = (!xr && decide (xu < a3)) := by unfold LM.late; rw [← e5, ← e6]
          rw [← e3] at f0
          rw [← e4] at f1
          rw [← e5] at f2
          rw [← e6] at f3
          rw [← e7, ← e8, ← e9] at f4
          rw [← e3] at hix
          have HXC := Lib.hid hxC
          clear hx hc hcw e3 e4 e5 e6 e7 e8 e9 hxC
          by_cases hlate : (!xr && decide (xu < a3)) = true
          · rw [hlate] at hll
            rw [hll] at hsk hsj
            simp only [Bool.not_true, Bool.false_eq_true, if_false, if_true, List.append_nil, List.length_singleton] at hsk hsj
            have hxr : xr = false := by simp only [Bool.and_eq_true, Bool.not_eq_true'] at hlate; exact hlate.1
            have hxu : xu < a3 := by simp only [Bool.and_eq_true, decide_eq_true_eq] at hlate; exact hlate.2
            subst hxr
            have t2 : decide (a3 ≤ xu) = false := decide_eq_false (by omega)
            have t3 : decide (xu ≥ a3) = false := decide_eq_false (by omega)
            have hi1 := hix hll
            obtain ⟨bi, oi, rfl, hbi, hci⟩ := HS.out.1.at_ hi1
            have g0 := (hROW.out.2.cell (p := ⟨bi, oi + jn * 1 + 0, none⟩) hbi).trans (hci jn xi hi1 0 (.int .i64 xi) rfl)
            rw [Nat.mul_one, Nat.add_zero] at g0
            have hjl : jn < ni := by rw [HNI.out]; exact (List.getElem?_eq_some_iff.1 hi1).1
            have t4 : decide ((ni : Int) ≤ (jn : Int)) = false := decide_eq_false (by omega)
            have t5 : decide ((jn : Int) ≥ (ni : Int)) = false := decide_eq_false (by omega)
            have t6 : decide (ni ≤ jn) = false := decide_eq_false (by omega)
            have t7 : decide (jn < ni) = true := decide_eq_true hjl
            have j2 : (jn : Int) < (ni : Int) := by omega
            have t8 : (xi != xi) = false := by simp
            have lbi : bi < wr.heap.size := Nat.lt_of_lt_of_le hbi hROW.out.2.size
            have N := Lib.hid (And.intro hsk hsj)
            clear hsk hsj hll hix hi1 hci hlate hxu
            go_wp2
            go_region
            go_wp2
            go_roundw
            case rel => exact ⟨k + 1, nl, cp, jn + 1, A, WL, rfl, by go_num, by go_num, by omega, by omega, by omega, Lib.hid ⟨N.out.1.symm, hWL.out.2.1, N.out.2.symm⟩, Lib.hid ⟨own_stays hROW.out.1 fun i hi => rfl, hROW.out.2.drew⟩⟩
            case measure => simp [intOf]; omega
          · rw [Bool.not_eq_true] at hlate
            rw [hlate] at hll
            rw [hll] at hsk hsj
            simp only [Bool.not_false, Bool.false_eq_true, if_false, if_true, List.length_nil, Nat.add_zero] at hsk hsj
            have N := Lib.hid (And.intro hsk hsj)
            have hcond : xr = true ∨ (xr = false ∧ a3 ≤ xu) := by
              cases xr
              · right; simp only [Bool.not_false, Bool.true_and, decide_eq_false_iff_not] at hlate; exact ⟨rfl, by omega⟩
              · left; rfl
            clear hsk hsj hll hix hlate
            rcases hcond with rfl | ⟨rfl, hxu⟩
            · go_wp2_with (at_builtin; refine wpList_append_lies _ rfl _ _ 55 rfl x7.heap.size 44 i0 _ 5 56 Tryz.underlying55 hi hz0 hz1 hz2 rfl (by decide) (.slice A nl cp) nl (WL.flatMap hsC) rfl (hROW.out.1.alloc _) ⟨wr.heap.size, 0, none⟩ 1 1 [.int .i64 xi, .int .i64 xq, .int .i64 xu, .bool true, .slice xA m5 xc] rfl rfl (World.news_of_block (cs := #[.int .i64 xi, .int .i64 xq, .int .i64 xu, .bool true, .slice xA m5 xc]) (t := 44) (fr := (0, 0)) (heap_alloc_new wr _)) (by simp [Value.oneCell']) (by omega) (by unfold maxLen; omega) (by omega) (by have := hROW.out.2.size; simp; omega) (wr.heap.size + 1) (by simp) ?_; intro gg cap' w9 hown9 hgrow9 hat9 hlt9)
              have hB9 : Below x7.heap.size x7 w9 := (hROW.out.2.alloc hROW.out.2.size (.cells #[.int .i64 xi, .int .i64 xq, .int .i64 xu, .bool true, .slice xA m5 xc] 44)).grown hgrow9 (by have := hROW.out.2.size; simp; omega) fun i hi => ((hROW.out.1.alloc (.cells #[.int .i64 xi, .int .i64 xq, .int .i64 xu, .bool true, .slice xA m5 xc] 44)).lt i hi).1
              have hrow9 : w9.ownsRow x7.heap.size 44 5 (.slice (some ⟨gg, 0, none⟩) (nl + 1) cap') (nl + 1) ((WL ++ [x]).flatMap hsC) := by rw [List.flatMap_append, List.flatMap_singleton, HXC.out]; exact hown9
              have HR9 := Lib.hid (And.intro hrow9 hB9)
              clear hrow9 hB9 hown9 hgrow9 hat9 hlt9
              go_wp2
              go_roundw
              case rel => exact ⟨k + 1, nl + 1, cap', jn, some ⟨gg, 0, none⟩, WL ++ [x], rfl, rfl, by go_num, by omega, by omega, by omega, Lib.hid ⟨N.out.1.symm, by rw [List.length_append, ← hWL.out.2.1]; rfl, N.out.2.symm⟩, HR9⟩
              case measure => simp [intOf]; omega
            · have t2 : decide (a3 ≤ xu) = true := decide_eq_true hxu
              have t3 : decide (xu ≥ a3) = true := decide_eq_true hxu
              clear hxu
              go_wp2_with (at_builtin; refine wpList_append_lies _ rfl _ _ 55 rfl x7.heap.size 44 i0 _ 5 56 Tryz.underlying55 hi hz0 hz1 hz2 rfl (by decide) (.slice A nl cp) nl (WL.flatMap hsC) rfl (hROW.out.1.alloc _) ⟨wr.heap.size, 0, none⟩ 1 1 [.int .i64 xi, .int .i64 xq, .int .i64 xu, .bool false, .slice xA m5 xc] rfl rfl (World.news_of_block (cs := #[.int .i64 xi, .int .i64 xq, .int .i64 xu, .bool false, .slice xA m5 xc]) (t := 44) (fr := (0, 0)) (heap_alloc_new wr _)) (by simp [Value.oneCell']) (by omega) (by unfold maxLen; omega) (by omega) (by have := hROW.out.2.size; simp; omega) (wr.heap.size + 1) (by simp) ?_; intro gg cap' w9 hown9 hgrow9 hat9 hlt9)
              have hB9 : Below x7.heap.size x7 w9 := (hROW.out.2.alloc hROW.out.2.size (.cells #[.int .i64 xi, .int .i64 xq, .int .i64 xu, .bool false, .slice xA m5 xc] 44)).grown hgrow9 (by have := hROW.out.2.size; simp; omega) fun i hi => ((hROW.out.1.alloc (.cells #[.int .i64 xi, .int .i64 xq, .int .i64 xu, .bool false, .slice xA m5 xc] 44)).lt i hi).1
              have hrow9 : w9.ownsRow x7.heap.size 44 5 (.slice (some ⟨gg, 0, none⟩) (nl + 1) cap') (nl + 1) ((WL ++ [x]).flatMap hsC) := by rw [List.flatMap_append, List.flatMap_singleton, HXC.out]; exact hown9
              have HR9 := Lib.hid (And.intro hrow9 hB9)
              clear hrow9 hB9 hown9 hgrow9 hat9 hlt9
              go_wp2
              go_roundw
              case rel => exact ⟨k + 1, nl + 1, cap', jn, some ⟨gg, 0, none⟩, WL ++ [x], rfl, rfl, by go_num, by omega, by omega, by omega, Lib.hid ⟨N.out.1.symm, by rw [List.length_append, ← hWL.out.2.1]; rfl, N.out.2.symm⟩, HR9⟩
              case measure => simp [intOf]; omega
        · obtain rfl : k = q := by omega
          have t1 : decide (k < k) = false := decide_eq_false (by omega)
          clear hlt
          have hWLf : WL = L.filter (fun x => !LM.late a3 x.h) := by rw [hWL.out.1, ← HS.out.2.2.2.2.1, List.take_length]
          have hjf : jn = ni := by
            rw [hWL.out.2.2, ← HS.out.2.2.2.2.1, List.take_length, HNI.out, HI.out]
            unfold LM.expire LM.idsOf
            simp only
            rw [← HS.out.2.1, List.filter_map, List.length_map, List.length_map]
            rfl
          subst hjf
          have hL7 := (HL6.out.step HX7.out.2.1 HX7.out.2.2.1 HX7.out.2.2.2).keep hROW.out.2
          have hst2 : (LM.expire fs st a3).2.hs = WL.map (·.h) := by
            rw [expire_hs HK.out.1.asc, ← HS.out.2.1, List.filter_map, hWLf]; rfl
          have hne := expire_none (fs := fs) (st := (LM.expire fs st a3).2) (now := a3) (fun g hg => by
            rw [expire_hs HK.out.1.asc, List.mem_filter] at hg
            simpa using hg.2)
          have hok2 := hL7.at_.ok.1
          have hv2 : (LM.expire fs st a3).2.ver ≤ 100 := by
            have := LM.expire_steps fs st a3
            have := HK.out.2
            rcases LM.expire_steps fs st a3 with ⟨_, h⟩ | ⟨_, h⟩
            · rw [h]; omega
            · omega
          have hWn : WL.length = nl := hWL.out.2.1.symm
          have hwant : HL wr (fun _ => True) A (WL.map (·.h)) := by
            have hel := (els_own (C := hsC) hsC_len (l := WL) hROW.out.1 hWn).1
            refine ⟨WL, rfl, hel, fun x hx => ?_, fun _ _ _ => trivial, fun _ _ _ _ _ => trivial⟩
            rw [hWLf] at hx
            exact Slots.keep (HS.out.2.2.2.1 x (List.mem_filter.1 hx).1) hROW.out.2 hROW.out.2.size
          obtain ⟨st2, hst⟩ : ∃ s, s = (LM.expire fs st a3).2 := ⟨_, rfl⟩
          rw [← hst] at hL7 hst2 hne hok2 hv2
          have hlen2 : st2.hs.length = nl := by rw [hst2, List.length_map, hWn]
          rw [← hst2] at hwant
          have hfew2 := hok2.few
          have HL7 := Lib.hid hL7
          have HF2 := Lib.hid (And.intro hwant (And.intro hne (And.intro hok2 (And.intro hv2 hlen2))))
          clear hL7 hst2 hne hok2 hv2 hWn hwant hst hlen2 hWLf
          have hbools : ((jn : Int) == (jn : Int)) = true := by simp
          go_wp2_with (first
            | (go_at_call 20; refine (holds_l HL7.out.at_ (by have := HF2.out.2.2.2.1; omega)).mono ?_; rintro e y8 ⟨A8, c8, G8, rfl, hh8, _, hy8⟩; have HL8 := Lib.hid (HL7.out.keep hy8); have HH8 := Lib.hid (And.intro hh8 hy8); clear hh8 hy8; rw [HF2.out.2.2.2.2])
            | (go_at_call 28; refine (show Calls _ _ _ _ _ by have h9 := same_holds A8 A c8 cp G8 (fun _ => True) st2.hs y8 HH8.out.1 (HF2.out.1.keep HH8.out.2) (by have := HF2.out.2.2.2.1; omega) (fun g hg => (HF2.out.2.2.1.ok g hg).n2); rw [HF2.out.2.2.2.2] at h9; exact h9).mono ?_; rintro e y9 ⟨rfl, hy9⟩; have HL9 := Lib.hid (HL8.out.keep hy9); clear hy9)
            | (go_at_call 30; refine (expire_l a3 HL9.out.at_ (by have := HF2.out.2.2.2.1; omega)).mono ?_; rintro e y10 ⟨⟨A10, c10, rfl, _⟩, F10, s1, s2, s3⟩; have HL10 := Lib.hid (HL9.out.step s1 s2 s3); clear s1 s2 s3; rw [HF2.out.2.1]))
          go_ret
          exact ⟨by simp, HL10.out.bel⟩

set_option maxRecDepth 100000 in
set_option maxHeartbeats 1000000 in
theorem lifted (os : Os) (started : os.Started) (H : Type) (enc : TypeId × Value → H) :
    ReturnsInHanded {} Tryz.checked os 6 .any (Rows.ledgerExpiresSpec.pre6 enc Tryz.prog Tryz.f6 Rows.ledgerExpiresRow.domain false) (Rows.ledgerExpiresSpec.post enc Tryz.prog Tryz.f6 false true false false) := by
  refine returnsInHanded_of_change (C := Tryz.checked) own started (by kernel_rfl) Tryz.func6
    (ChangeSpec.witness6 (enc := enc) (C := Tryz.checked) false ⟨#[], #[.agg #[.slice none 0 0], .slice none 0 0, .slice none 0 0, .int .i64 0], []⟩ 8 (by kernel_rfl) (by kernel_rfl) (by kernel_rfl) (by kernel_rfl)) ?_
  intro W base args ds gs before hval0 hW _ _
  have hval : ∀ (j : Nat) t v, Tryz.f6.params[j]? = some t → args[j]? = some v → Value.okWide Tryz.prog W .any base t v := hval0
  have hW' := hW
  obtain ⟨p, q, hA0, hV, rfl, hfz, hnd⟩ := hW
  have hA : DataW.TrodAll enc Tryz.prog W 0 (fun _ => true) true Tryz.f6.params.toList args.toList ds p := hA0
  rw [Tryz.params6] at hA hval
  obtain ⟨v0, vs0, d0, ds0, p0, q0, hargs, rfl, rfl, h0, r0⟩ := trodAll_cons hA
  obtain ⟨v1, vs1, d1, ds1, p1, q1, rfl, rfl, rfl, h1, r1⟩ := trodAll_cons r0
  obtain ⟨v2, vs2, d2, ds2, p2, q2, rfl, rfl, rfl, h2, r2⟩ := trodAll_cons r1
  obtain ⟨v3, vs3, d3, ds3, p3, q3, rfl, rfl, rfl, h3, r3⟩ := trodAll_cons r2
  obtain ⟨rfl, rfl, rfl⟩ := trodAll_nil r3
  obtain rfl : args = #[v0, v1, v2, v3] := by cases args; simp_all
  obtain ⟨rfl, rfl⟩ := trodVars_none hV
  have k0 := h0
  have lt0 : ∀ x ∈ p0, x.block < W.heap.size := by obtain ⟨m, hm⟩ := k0; exact DataW.trod_lt m _ _ _ hm
  obtain ⟨a0, c0, n0, rfl, lc0, mc0, w0⟩ := clu_of (hval 0 24 v0 rfl rfl) h0
  have k1 := h1
  have lt1 : ∀ x ∈ p1, x.block < W.heap.size := by obtain ⟨m, hm⟩ := k1; exact DataW.trod_lt m _ _ _ hm
  obtain ⟨a1, c1, l1, rfl, lc1, mc1, v1, q1⟩ := uns_of (hval 1 25 v1 rfl rfl) h1
  have k2 := h2
  have lt2 : ∀ x ∈ p2, x.block < W.heap.size := by obtain ⟨m, hm⟩ := k2; exact DataW.trod_lt m _ _ _ hm
  obtain ⟨a2, c2, l2, rfl, lc2, mc2, v2, q2⟩ := las_of (hval 2 26 v2 rfl rfl) h2
  have k3 := h3
  have lt3 : ∀ x ∈ p3, x.block < W.heap.size := by obtain ⟨m, hm⟩ := k3; exact DataW.trod_lt m _ _ _ hm
  obtain ⟨a3, rfl, _, _, w3⟩ := open_int Tryz.underlying3 (hval 3 3 v3 rfl rfl) h3
  clear hA0 hval0
  refine (walk a0 c0 n0 a1 c1 l1 a2 c2 l2 a3 W w0 lc0 mc0 v1 q1 lc1 mc1 v2 q2 lc2 mc2 w3).mono fun e W' ⟨he, bel⟩ => ?_
  subst he
  exact ⟨_, rfl, _, _, _, [], _, [], hW', trodAll_mk1 (shut_bool Tryz.underlying4 _), (trodAll_cons_mk (Below.trod laidOut (by kernel_rfl) (of_decide_eq_true (by kernel_rfl)) k0 bel lt0) (trodAll_cons_mk (Below.trod laidOut (by kernel_rfl) (of_decide_eq_true (by kernel_rfl)) k1 bel lt1) (trodAll_cons_mk (Below.trod laidOut (by kernel_rfl) (of_decide_eq_true (by kernel_rfl)) k2 bel lt2) (trodAll_cons_mk (Below.trod laidOut (by kernel_rfl) (of_decide_eq_true (by kernel_rfl)) k3 bel lt3) trodAll_mk0)))), rfl, bel.frame _, fun h => by cases h⟩

/-- THE STATEMENT. -/
theorem holds : Rows.LedgerExpiresSaid :=
  OpenClaim.holds_of_wide 6 Tryz.f6 rfl rfl rfl rfl rfl rfl rfl ⟨rfl, rfl, rfl, rfl, rfl⟩ rfl rfl rfl rfl rfl (by kernel_rfl) Tryz.func6 (by kernel_rfl)
    (of_decide_eq_true (by kernel_rfl)) (by unfold Func.isWrapper; first | (rw [if_pos (by decide +kernel)]; kernel_rfl) | (rw [if_neg (by decide +kernel)]; exact ⟨rfl, rfl⟩))
    (fun os started H enc _ => lifted os started H enc)
end Go.Proofs.YtbcldamfekejgaaGreat.ledgerExpires
