/- Units that are added in two parts are used as if they were added at once: the law QuotaParts answers true, at every input. -/
import Derived.Test.YtfbmjpihdjcedaaFrame
import Derived.Test.YtfbmjpihdjcedaaQuotaAwake
set_option linter.unusedVariables false
namespace Go.Proofs.Ytfbmjpihdjcedaa.quotaParts
open Go Go.ChangeShapes Go.WideShapes Go.ChangeAt Go.RowKit
/-- Twice, or at once. -/
theorem parts {L : List Qa} {q : Int} {u v : Un} (hL : ∀ x ∈ L, QaOk x) (u1 : 0 ≤ u.g) (u2 : u.g ≤ 500000) (u3 : 0 ≤ u.c) (u4 : u.c ≤ 500000) (v1 : 0 ≤ v.g) (v2 : v.g ≤ 500000) (v3 : 0 ≤ v.c) (v4 : v.c ≤ 500000) :
    ((qAdd L q u).1 ≠ 0 ∧ (qAdd L q (addU u v)).1 = (qAdd L q u).1) ∨ ((qAdd L q u).1 = 0 ∧ (qAdd (qAdd L q u).2 q v).1 = (qAdd L q (addU u v)).1 ∧ ((qAdd L q (addU u v)).1 = 0 → (qAdd (qAdd L q u).2 q v).2 = (qAdd L q (addU u v)).2)) := by
  cases h : hasQ L q
  · have e : ∀ y, qAdd L q y = (3, L) := fun y => by unfold qAdd; rw [h, if_pos rfl]
    rw [e, e]
    exact .inl ⟨by simp, rfl⟩
  · obtain ⟨k, x, rfl, hk, hx⟩ := hasQ_at h
    have ok := hL x (List.mem_of_getElem? hx)
    obtain ⟨m1, m2, m3, m4⟩ := mayU_iff.1 ok.m
    obtain ⟨g1, g2⟩ := ok.g
    obtain ⟨c1, c2⟩ := ok.c
    have hu : mayU u = true := mayU_iff.2 ⟨u1, by omega, u3, by omega⟩
    have hv : mayU v = true := mayU_iff.2 ⟨v1, by omega, v3, by omega⟩
    have huv : mayU (addU u v) = true := mayU_iff.2 (by simp only [addU]; omega)
    have e : ∀ y, mayU y = true → qAdd L (k : Int) y = if leU y (subU x.m x.u) = false then (6, L) else (0, L.set k ⟨x.m, addU x.u y⟩) := fun y hy => by
      unfold qAdd; rw [h, if_neg (by simp), hy, if_neg (by simp)]; simp [hx]
    rw [e u hu, e _ huv]
    cases hl : leU u (subU x.m x.u)
    · have hl2 : leU (addU u v) (subU x.m x.u) = false := by
        cases hc : leU (addU u v) (subU x.m x.u)
        · rfl
        · obtain ⟨p1, p2⟩ := leU_iff.1 hc
          have : leU u (subU x.m x.u) = true := leU_iff.2 (by simp only [addU] at p1 p2; omega)
          rw [hl] at this; cases this
      rw [hl2]
      exact .inl ⟨by simp, rfl⟩
    · rw [if_neg (by simp)]
      have h2 : hasQ (L.set k ⟨x.m, addU x.u u⟩) (k : Int) = true := by unfold hasQ at h ⊢; rw [List.length_set]; exact h
      have e2 : qAdd (L.set k ⟨x.m, addU x.u u⟩) (k : Int) v = if leU v (subU x.m (addU x.u u)) = false then (6, L.set k ⟨x.m, addU x.u u⟩) else (0, L.set k ⟨x.m, addU (addU x.u u) v⟩) := by
        unfold qAdd; rw [h2, if_neg (by simp), hv, if_neg (by simp)]
        simp [List.getElem?_set_self hk, List.set_set]
      refine .inr ⟨rfl, ?_⟩
      simp only
      rw [e2]
      have hs : leU v (subU x.m (addU x.u u)) = leU (addU u v) (subU x.m x.u) := by
        rw [Bool.eq_iff_iff, leU_iff, leU_iff]; simp only [addU, subU]; omega
      rw [hs]
      have ha : addU (addU x.u u) v = addU x.u (addU u v) := by simp only [addU]; congr 1 <;> omega
      rw [ha]
      cases leU (addU u v) (subU x.m x.u)
      · exact ⟨by simp, by simp⟩
      · exact ⟨by simp, by simp⟩
set_option maxRecDepth 100000 in
set_option maxHeartbeats 4000000 in
theorem walk (a0 : Option Addr) (c0 : Nat) (l0 : List Un) (a1 : Option Addr) (c1 : Nat) (l1 : List Qc) (q : Int) (u v : Un) (w : World) (v0 : Uns w w.heap.size a0 l0) (q0 : ∀ a ∈ l0, UnW a) (lc0 : l0.length ≤ c0) (mc0 : c0 ≤ maxLen) (v1 : Qcs w w.heap.size a1 l1) (q1 : ∀ a ∈ l1, QcOk a) (lc1 : l1.length ≤ c1) (mc1 : c1 ≤ maxLen) (wq : (Lit.int .i64 q).wf = true) (wu : UnW u) (wv : UnW v) :
    Calls Try.prog 6 #[.slice a0 l0.length c0, .slice a1 l1.length c1, .int .i64 q, unV u, unV v] w fun e w' => e = .returned (.bool true) ∧ Below w.heap.size w w' := by
  have hug := bounds_i64 wu.g
  have huc := bounds_i64 wu.c
  have hvg := bounds_i64 wv.g
  have hvc := bounds_i64 wv.c
  have hbx := heap_alloc_new w (.cells #[.int .i64 u.g, .int .i64 u.c] 34)
  have hby := heap_alloc_new (w.alloc (.cells #[.int .i64 u.g, .int .i64 u.c] 34)) (.cells #[.int .i64 v.g, .int .i64 v.c] 34)
  have hbx := (Below.heap_alloc (w.alloc (.cells #[.int .i64 u.g, .int .i64 u.c] 34)) (.cells #[.int .i64 v.g, .int .i64 v.c] 34) w.heap.size (by simp)).trans hbx
  rw [World.size_alloc] at hby
  obtain ⟨n, hn⟩ : ∃ n, n = l0.length := ⟨_, rfl⟩
  obtain ⟨m, hm⟩ : ∃ m, m = l1.length := ⟨_, rfl⟩
  have hA := Lib.hid (fun W => awake_q W)
  unfold unV
  obtain ⟨wb, hwb⟩ : ∃ wb, wb = (w.alloc (.cells #[.int .i64 u.g, .int .i64 u.c] 34)).alloc (.cells #[.int .i64 v.g, .int .i64 v.c] 34) := ⟨_, rfl⟩
  have hBb : Below w.heap.size w wb := by rw [hwb]; exact ((Below.refl w.heap.size w).alloc (Nat.le_refl _) _).alloc (by simp) _
  have hsb := hBb.size
  have HNew := Lib.hid (fun W (hW : Below wb.heap.size wb W) => new_q a0 c0 w.heap.size l0 W (v0.keep (hBb.trans (hW.mono hsb)) (Nat.le_refl _)) (by have := hW.size; omega))
  have HWb := Lib.hid hwb
  rw [← hwb] at hbx hby
  have hlw := blk_lt hbx
  have hlw2 := blk_lt hby
  have Hbx := Lib.hid (And.intro hbx hby)
  clear hbx hby
  have HBb := Lib.hid hBb
  rw [← hn] at HNew ⊢
  rw [← hm]
  unfold maxLen at mc0 mc1
  rw [← hn] at lc0
  rw [← hm] at lc1
  have HV := Lib.hid (And.intro v0 (And.intro v1 (And.intro hn hm)))
  clear hwb hBb v0 v1 hn hm
  have hbr := Lib.hid (Below.refl wb.heap.size wb)
  rcases Bool.eq_false_or_eq_true (decide ((100 : Int) < (n : Int))) with t0 | t0
  · go_enter Try.func6, Try.ntmps6
    go_wp2_with fail
    rw [← HWb.out]
    refine (hA.out _).mono ?_
    rintro e w2 ⟨rfl, hb2⟩
    obtain ⟨y0, y1, _, _, hl_u⟩ := pair_at ((hb2.block _ hlw).trans Hbx.out.1)
    obtain ⟨y2, y3, _, _, hl_v⟩ := pair_at ((hb2.block _ hlw2).trans Hbx.out.2)
    go_wp2
    go_ret
    exact ⟨rfl, HBb.out.trans (hb2.mono hsb)⟩
  rcases Bool.eq_false_or_eq_true (decide ((100 : Int) < (m : Int))) with t1 | t1
  · go_enter Try.func6, Try.ntmps6
    go_wp2_with fail
    rw [← HWb.out]
    refine (hA.out _).mono ?_
    rintro e w2 ⟨rfl, hb2⟩
    obtain ⟨y0, y1, _, _, hl_u⟩ := pair_at ((hb2.block _ hlw).trans Hbx.out.1)
    obtain ⟨y2, y3, _, _, hl_v⟩ := pair_at ((hb2.block _ hlw2).trans Hbx.out.2)
    go_wp2
    go_ret
    exact ⟨rfl, HBb.out.trans (hb2.mono hsb)⟩
  rcases Bool.eq_false_or_eq_true (decide (u.g < 0)) with t2 | t2
  · go_enter Try.func6, Try.ntmps6
    go_wp2_with fail
    rw [← HWb.out]
    refine (hA.out _).mono ?_
    rintro e w2 ⟨rfl, hb2⟩
    obtain ⟨y0, y1, _, _, hl_u⟩ := pair_at ((hb2.block _ hlw).trans Hbx.out.1)
    obtain ⟨y2, y3, _, _, hl_v⟩ := pair_at ((hb2.block _ hlw2).trans Hbx.out.2)
    go_wp2
    go_ret
    exact ⟨rfl, HBb.out.trans (hb2.mono hsb)⟩
  rcases Bool.eq_false_or_eq_true (decide (u.c < 0)) with t3 | t3
  · go_enter Try.func6, Try.ntmps6
    go_wp2_with fail
    rw [← HWb.out]
    refine (hA.out _).mono ?_
    rintro e w2 ⟨rfl, hb2⟩
    obtain ⟨y0, y1, _, _, hl_u⟩ := pair_at ((hb2.block _ hlw).trans Hbx.out.1)
    obtain ⟨y2, y3, _, _, hl_v⟩ := pair_at ((hb2.block _ hlw2).trans Hbx.out.2)
    go_wp2
    go_ret
    exact ⟨rfl, HBb.out.trans (hb2.mono hsb)⟩
  rcases Bool.eq_false_or_eq_true (decide (v.g < 0)) with t4 | t4
  · go_enter Try.func6, Try.ntmps6
    go_wp2_with fail
    rw [← HWb.out]
    refine (hA.out _).mono ?_
    rintro e w2 ⟨rfl, hb2⟩
    obtain ⟨y0, y1, _, _, hl_u⟩ := pair_at ((hb2.block _ hlw).trans Hbx.out.1)
    obtain ⟨y2, y3, _, _, hl_v⟩ := pair_at ((hb2.block _ hlw2).trans Hbx.out.2)
    go_wp2
    go_ret
    exact ⟨rfl, HBb.out.trans (hb2.mono hsb)⟩
  rcases Bool.eq_false_or_eq_true (decide (v.c < 0)) with t5 | t5
  · go_enter Try.func6, Try.ntmps6
    go_wp2_with fail
    rw [← HWb.out]
    refine (hA.out _).mono ?_
    rintro e w2 ⟨rfl, hb2⟩
    obtain ⟨y0, y1, _, _, hl_u⟩ := pair_at ((hb2.block _ hlw).trans Hbx.out.1)
    obtain ⟨y2, y3, _, _, hl_v⟩ := pair_at ((hb2.block _ hlw2).trans Hbx.out.2)
    go_wp2
    go_ret
    exact ⟨rfl, HBb.out.trans (hb2.mono hsb)⟩
  rcases Bool.eq_false_or_eq_true (decide (500000 < u.g)) with t6 | t6
  · go_enter Try.func6, Try.ntmps6
    go_wp2_with fail
    rw [← HWb.out]
    refine (hA.out _).mono ?_
    rintro e w2 ⟨rfl, hb2⟩
    obtain ⟨y0, y1, _, _, hl_u⟩ := pair_at ((hb2.block _ hlw).trans Hbx.out.1)
    obtain ⟨y2, y3, _, _, hl_v⟩ := pair_at ((hb2.block _ hlw2).trans Hbx.out.2)
    go_wp2
    go_ret
    exact ⟨rfl, HBb.out.trans (hb2.mono hsb)⟩
  rcases Bool.eq_false_or_eq_true (decide (500000 < u.c)) with t7 | t7
  · go_enter Try.func6, Try.ntmps6
    go_wp2_with fail
    rw [← HWb.out]
    refine (hA.out _).mono ?_
    rintro e w2 ⟨rfl, hb2⟩
    obtain ⟨y0, y1, _, _, hl_u⟩ := pair_at ((hb2.block _ hlw).trans Hbx.out.1)
    obtain ⟨y2, y3, _, _, hl_v⟩ := pair_at ((hb2.block _ hlw2).trans Hbx.out.2)
    go_wp2
    go_ret
    exact ⟨rfl, HBb.out.trans (hb2.mono hsb)⟩
  rcases Bool.eq_false_or_eq_true (decide (500000 < v.g)) with t8 | t8
  · go_enter Try.func6, Try.ntmps6
    go_wp2_with fail
    rw [← HWb.out]
    refine (hA.out _).mono ?_
    rintro e w2 ⟨rfl, hb2⟩
    obtain ⟨y0, y1, _, _, hl_u⟩ := pair_at ((hb2.block _ hlw).trans Hbx.out.1)
    obtain ⟨y2, y3, _, _, hl_v⟩ := pair_at ((hb2.block _ hlw2).trans Hbx.out.2)
    go_wp2
    go_ret
    exact ⟨rfl, HBb.out.trans (hb2.mono hsb)⟩
  rcases Bool.eq_false_or_eq_true (decide (500000 < v.c)) with t9 | t9
  · go_enter Try.func6, Try.ntmps6
    go_wp2_with fail
    rw [← HWb.out]
    refine (hA.out _).mono ?_
    rintro e w2 ⟨rfl, hb2⟩
    obtain ⟨y0, y1, _, _, hl_u⟩ := pair_at ((hb2.block _ hlw).trans Hbx.out.1)
    obtain ⟨y2, y3, _, _, hl_v⟩ := pair_at ((hb2.block _ hlw2).trans Hbx.out.2)
    go_wp2
    go_ret
    exact ⟨rfl, HBb.out.trans (hb2.mono hsb)⟩
  have r0 := of_decide_eq_false t0
  have r1 := of_decide_eq_false t1
  have r2 := of_decide_eq_false t2
  have r3 := of_decide_eq_false t3
  have r4 := of_decide_eq_false t4
  have r5 := of_decide_eq_false t5
  have r6 := of_decide_eq_false t6
  have r7 := of_decide_eq_false t7
  have r8 := of_decide_eq_false t8
  have r9 := of_decide_eq_false t9
  have hn100 : n ≤ 100 := by omega
  have hm100 : m ≤ 100 := by omega
  go_enter Try.func6, Try.ntmps6
  go_wp2_with fail
  rw [← HWb.out]
  refine (hA.out _).mono ?_
  rintro e w2 ⟨rfl, hb2⟩
  obtain ⟨y0, y1, _, _, hl_u⟩ := pair_at ((hb2.block _ hlw).trans Hbx.out.1)
  obtain ⟨y2, y3, _, _, hl_v⟩ := pair_at ((hb2.block _ hlw2).trans Hbx.out.2)
  go_wp2_with fail
  refine (HNew.out _ hb2).mono ?_
  rintro e w3 hq3
  rcases hq3 with ⟨hb3, ⟨hq, rfl⟩ | ⟨hq, p, g, c, rfl, hQ, hp, hg⟩⟩
  · have hb23 := hb2.trans (hb3.mono hb2.size)
    go_wp2_with fail
    refine (HNew.out _ hb23).mono ?_
    rintro e w4 hq4
    rcases hq4 with ⟨hb4, ⟨hq4, rfl⟩ | ⟨hq4, _⟩⟩
    · go_wp2
      go_ret
      exact ⟨rfl, HBb.out.trans ((hb23.trans (hb4.mono hb23.size)).mono hsb)⟩
    · rw [hq] at hq4; cases hq4
  have HQ := Lib.hid (QIn.made hb2 hQ hp hg hb3)
  have hlen := (quotasOk_iff.1 hq).2.1
  clear hb2 hb3 hQ hp hg
  clear y0 y1 y2 y3
  have hpg := HQ.out.at_.lt
  go_wp2_with fail
  refine (HNew.out _ HQ.out.bel).mono ?_
  rintro e w4 hq4
  rcases hq4 with ⟨hb4, ⟨hq4, rfl⟩ | ⟨hq4, p', g', c', rfl, hQ', hp', hg'⟩⟩
  · rw [hq] at hq4; cases hq4
  have HQ1 := Lib.hid (HQ.out.keep hb4)
  have HQ2 := Lib.hid (QIn.made HQ.out.bel hQ' hp' hg' hb4)
  have hne1 : g ≠ p' ∧ g ≠ g' ∧ g' ≠ p ∧ g' ≠ g := by omega
  clear hb4 hQ' hq4 hp' hg' hpg
  go_wp2_with fail
  go_loopw [15] (fun i wr => ∃ k : Nat, i = .int .i64 k ∧ k ≤ m ∧ Hid (∃ L, QIn wb wr p g c L ∧ QIn wb wr p' g' c' L)) (fun i _ => m - (intOf i).toNat)
  case atStart => exact ⟨0, rfl, by omega, Lib.hid ⟨newL l0, HQ1.out, HQ2.out⟩⟩
  case round =>
    obtain ⟨k, rfl, hk, hin⟩ := hrel
    obtain ⟨L, hQ, hQ'⟩ := hin.out
    by_cases hlt : k < m
    · obtain ⟨x, hx⟩ := get_lt (l := l1) (k := k) (by rw [← HV.out.2.2.2]; exact hlt)
      obtain ⟨b, off, rfl, hb, hc⟩ := HV.out.2.1.at_ hx
      have hbel := HBb.out.trans (hQ.bel.mono hsb)
      have hcx := (hc k _ hx).keep hb hbel
      have z0 : wr.cell? ⟨b, off + k * 4, none⟩ = some (.bool x.sub) := hcx 0 _ rfl
      have z1 : wr.cell? ⟨b, off + k * 4 + 1, none⟩ = some (.int .i64 x.q) := hcx 1 _ rfl
      have z2 : wr.cell? ⟨b, off + k * 4 + 2, none⟩ = some (.int .i64 x.u.g) := hcx 2 _ rfl
      have z3 : wr.cell? ⟨b, off + k * 4 + 3, none⟩ = some (.int .i64 x.u.c) := hcx 3 _ rfl
      have t2 : decide (k < m) = true := decide_eq_true hlt
      have HD := Lib.hid (do_q p g c L x wr hQ.at_)
      have HX := Lib.hid (And.intro hQ hQ')
      have Hx := Lib.hid hx
      have HD' := Lib.hid (fun W (h : QAt W p' g' c' L) => do_q p' g' c' L x W h)
      have hlb := lt_of_cell z0
      have hgl : b ≠ g := by have := HQ1.out.hg; have := hsb; omega
      clear hx hc hcx hbel hQ hQ' hin
      unfold qcV at HD'
      unfold qcV at HD
      go_wp2_with fail
      refine HD.out.mono ?_
      rintro e w5 ⟨rfl, hq5, hf5⟩
      have z0 := (hf5.cell (p := ⟨b, off + k * 4, none⟩) hlb hgl).trans z0
      have z1 := (hf5.cell (p := ⟨b, off + k * 4 + 1, none⟩) hlb hgl).trans z1
      have z2 := (hf5.cell (p := ⟨b, off + k * 4 + 2, none⟩) hlb hgl).trans z2
      have z3 := (hf5.cell (p := ⟨b, off + k * 4 + 3, none⟩) hlb hgl).trans z3
      have H5 := Lib.hid (And.intro (HX.out.1.foot hq5 hf5) (HX.out.2.at_.foot hf5 (by rintro i rfl; exact ⟨hne1.1, hne1.2.1⟩)))
      have H6 := Lib.hid hf5
      clear hq5 hf5
      go_wp2_with fail
      refine (HD'.out _ H5.out.2).mono ?_
      rintro e w6 ⟨rfl, hq6, hf6⟩
      go_wp2
      go_roundw
      case rel =>
        refine ⟨k + 1, by go_num, by omega, Lib.hid ⟨(qDo L x).2, ?_, ?_⟩⟩
        · have h7 := H5.out.1
          exact ⟨h7.at_.foot hf6 (by rintro i rfl; exact ⟨hne1.2.2.1, hne1.2.2.2⟩), h7.hp, h7.hg, h7.bel.trans (hf6.below h7.bel.size fun i hi => by rw [hi]; exact HX.out.2.hg)⟩
        · have h7 := H5.out.1
          exact ⟨hq6, HX.out.2.hp, HX.out.2.hg, h7.bel.trans (hf6.below h7.bel.size fun i hi => by rw [hi]; exact HX.out.2.hg)⟩
      case measure => simp [intOf]; omega
    · obtain rfl : k = m := by omega
      have HX := Lib.hid (And.intro hQ hQ')
      have hT := parts (L := L) (q := q) (u := u) (v := v) hQ.at_.ok (by omega) (by omega) (by omega) (by omega) (by omega) (by omega) (by omega) (by omega)
      have HA1 := Lib.hid (add_q p g c L q (addU u v) wr hQ.at_)
      have HA2 := Lib.hid (fun W (h : QAt W p' g' c' L) => add_q p' g' c' L q u W h)
      have HA3 := Lib.hid (fun W (h : QAt W p' g' c' (qAdd L q u).2) => add_q p' g' c' _ q v W h)
      have HU1 := Lib.hid (fun W (h : QAt W p g c (qAdd L q (addU u v)).2) => used_q p g c _ W h)
      have HU2 := Lib.hid (fun W (h : QAt W p' g' c' (qAdd (qAdd L q u).2 q v).2) => used_q p' g' c' _ W h)
      obtain ⟨y0, y1, _, _, hl_u⟩ := pair_at ((hQ.bel.block _ hlw).trans Hbx.out.1)
      obtain ⟨y2, y3, _, _, hl_v⟩ := pair_at ((hQ.bel.block _ hlw2).trans Hbx.out.2)
      have hgw := hQ.hg
      have hgw' := hQ'.hg
      clear hlt hin hQ hQ'
      unfold unV at HA1 HA2 HA3
      obtain ⟨E, hE⟩ : ∃ E, E = qAdd L q (addU u v) := ⟨_, rfl⟩
      obtain ⟨E1, hE1⟩ : ∃ E, E = qAdd L q u := ⟨_, rfl⟩
      rw [← hE] at hT HA1 HU1
      rw [← hE1] at hT HA2 HA3 HU2
      obtain ⟨E2, hE2⟩ : ∃ E, E = qAdd E1.2 q v := ⟨_, rfl⟩
      rw [← hE2] at hT HA3 HU2
      clear hE hE1 hE2
      simp only [addU] at HA1
      obtain ⟨ug, uc⟩ := u
      obtain ⟨vg, vc⟩ := v
      simp only at *
      go_wp2_with fail
      refine HA1.out.mono ?_
      rintro e w6 ⟨rfl, hq6, hf6⟩
      have H6 := Lib.hid (And.intro (HX.out.1.foot hq6 hf6) (HX.out.2.at_.foot hf6 (by rintro i rfl; exact ⟨hne1.1, hne1.2.1⟩)))
      obtain ⟨y0, y1, _, _, hl_u⟩ := pair_at ((H6.out.1.bel.block _ hlw).trans Hbx.out.1)
      obtain ⟨y2, y3, _, _, hl_v⟩ := pair_at ((H6.out.1.bel.block _ hlw2).trans Hbx.out.2)
      clear hq6 hf6
      go_wp2_with fail
      refine (HA2.out _ H6.out.2).mono ?_
      rintro e w7 ⟨rfl, hq7, hf7⟩
      have HB7 := Lib.hid (H6.out.1.bel.trans (hf7.below H6.out.1.bel.size fun i hi => by rw [hi]; exact hgw'))
      have H7 := Lib.hid (And.intro (H6.out.1.at_.foot hf7 (by rintro i rfl; exact ⟨hne1.2.2.1, hne1.2.2.2⟩)) hq7)
      obtain ⟨y0, y1, _, _, hl_u⟩ := pair_at ((HB7.out.block _ hlw).trans Hbx.out.1)
      obtain ⟨y2, y3, _, _, hl_v⟩ := pair_at ((HB7.out.block _ hlw2).trans Hbx.out.2)
      clear hq7 hf7
      rcases hT with ⟨n0, e1⟩ | ⟨n0, e1, e2⟩
      · have x1 : (E1.1 == 0) = false := by simpa using n0
        have x2 : (E.1 == E1.1) = true := by rw [e1]; simp
        have x3 : (E.1 != 0) = true := by rw [e1]; simpa using n0
        clear n0 e1
        go_wp2
        go_ret
        exact ⟨by simp, HBb.out.trans (HB7.out.mono hsb)⟩
      · have x1 : (E1.1 == 0) = true := by rw [n0]; rfl
        have x2 : (E.1 == E2.1) = true := by rw [e1]; simp
        go_wp2_with fail
        refine (HA3.out _ H7.out.2).mono ?_
        rintro e w8 ⟨rfl, hq8, hf8⟩
        have HB8 := Lib.hid (HB7.out.trans (hf8.below HB7.out.size fun i hi => by rw [hi]; exact hgw'))
        have H8 := Lib.hid (And.intro (H7.out.1.foot hf8 (by rintro i rfl; exact ⟨hne1.2.2.1, hne1.2.2.2⟩)) hq8)
        clear hq8 hf8
        by_cases h0 : E.1 = 0
        · have x3 : (E.1 != 0) = false := by rw [h0]; rfl
          have hL := e2 h0
          have hfw := H8.out.1.few
          clear e1 e2 h0 n0
          go_wp2_with fail
          refine (HU1.out _ H8.out.1).mono ?_
          rintro e w9 ⟨A9, c9, rfl, hu9, hA9, hb9⟩
          have H9 := Lib.hid (And.intro hu9 (And.intro hb9 (And.intro (H8.out.2.keep hb9) (HB8.out.trans (hb9.mono HB8.out.size)))))
          clear hu9 hA9 hb9
          go_wp2_with fail
          refine (HU2.out _ H9.out.2.2.1).mono ?_
          rintro e w10 ⟨A10, c10, rfl, hu10, hA10, hb10⟩
          have HS := Lib.hid (same_u A9 A10 c9 c10 _ _ w10 (H9.out.1.keep hb10 hb10.size) hu10 (by rw [List.length_map]; omega))
          have H10 := Lib.hid (H9.out.2.2.2.trans (hb10.mono H9.out.2.2.2.size))
          rw [hL, decide_eq_true rfl, List.length_map] at HS
          rw [hL]
          clear hu10 hA10 hb10 hL
          go_wp2_with fail
          refine HS.out.mono ?_
          rintro e w11 ⟨rfl, hb11⟩
          go_wp2
          go_ret
          exact ⟨by simp, HBb.out.trans ((H10.out.trans (hb11.mono H10.out.size)).mono hsb)⟩
        · have x3 : (E.1 != 0) = true := by simpa using h0
          clear e1 e2 h0 n0
          go_wp2
          go_ret
          exact ⟨by simp, HBb.out.trans (HB8.out.mono hsb)⟩

set_option maxRecDepth 100000 in
set_option maxHeartbeats 1000000 in
theorem lifted (os : Os) (started : os.Started) (H : Type) (enc : TypeId × Value → H) :
    ReturnsInHanded {} Try.checked os 6 .any (Rows.quotaPartsSpec.pre6 enc Try.prog Try.f6 Rows.quotaPartsRow.domain false) (Rows.quotaPartsSpec.post enc Try.prog Try.f6 false true false false) := by
  refine returnsInHanded_of_change (C := Try.checked) own started (by kernel_rfl) Try.func6
    (ChangeSpec.witness6 (enc := enc) (C := Try.checked) false ⟨#[], #[.slice none 0 0, .slice none 0 0, .int .i64 0, .agg #[.int .i64 0, .int .i64 0], .agg #[.int .i64 0, .int .i64 0]], []⟩ 8 (by kernel_rfl) (by kernel_rfl) (by kernel_rfl) (by kernel_rfl)) ?_
  intro W base args ds gs before hval0 hW _ _
  have hval : ∀ (j : Nat) t v, Try.f6.params[j]? = some t → args[j]? = some v → Value.okWide Try.prog W .any base t v := hval0
  have hW' := hW
  obtain ⟨p, q, hA0, hV, rfl, hfz, hnd⟩ := hW
  have hA : DataW.TrodAll enc Try.prog W 0 (fun _ => true) true Try.f6.params.toList args.toList ds p := hA0
  rw [Try.params6] at hA hval
  obtain ⟨v0, vs0, d0, ds0, p0, q0, hargs, rfl, rfl, h0, r0⟩ := trodAll_cons hA
  obtain ⟨v1, vs1, d1, ds1, p1, q1, rfl, rfl, rfl, h1, r1⟩ := trodAll_cons r0
  obtain ⟨v2, vs2, d2, ds2, p2, q2, rfl, rfl, rfl, h2, r2⟩ := trodAll_cons r1
  obtain ⟨v3, vs3, d3, ds3, p3, q3, rfl, rfl, rfl, h3, r3⟩ := trodAll_cons r2
  obtain ⟨v4, vs4, d4, ds4, p4, q4, rfl, rfl, rfl, h4, r4⟩ := trodAll_cons r3
  obtain ⟨rfl, rfl, rfl⟩ := trodAll_nil r4
  obtain rfl : args = #[v0, v1, v2, v3, v4] := by cases args; simp_all
  obtain ⟨rfl, rfl⟩ := trodVars_none hV
  have k0 := h0
  have lt0 : ∀ x ∈ p0, x.block < W.heap.size := by obtain ⟨m, hm⟩ := k0; exact DataW.trod_lt m _ _ _ hm
  obtain ⟨a0, c0, l0, rfl, lc0, mc0, v0, q0⟩ := uns_of (hval 0 22 v0 rfl rfl) h0
  have k1 := h1
  have lt1 : ∀ x ∈ p1, x.block < W.heap.size := by obtain ⟨m, hm⟩ := k1; exact DataW.trod_lt m _ _ _ hm
  obtain ⟨a1, c1, l1, rfl, lc1, mc1, v1, q1⟩ := qcs_of (hval 1 23 v1 rfl rfl) h1
  have k2 := h2
  have lt2 : ∀ x ∈ p2, x.block < W.heap.size := by obtain ⟨m, hm⟩ := k2; exact DataW.trod_lt m _ _ _ hm
  obtain ⟨a2, rfl, _, _, w2⟩ := open_int Try.underlying3 (hval 2 3 v2 rfl rfl) h2
  have k3 := h3
  have lt3 : ∀ x ∈ p3, x.block < W.heap.size := by obtain ⟨m, hm⟩ := k3; exact DataW.trod_lt m _ _ _ hm
  obtain ⟨u3, rfl, w3⟩ := un_of (hval 3 34 v3 rfl rfl) h3
  have k4 := h4
  have lt4 : ∀ x ∈ p4, x.block < W.heap.size := by obtain ⟨m, hm⟩ := k4; exact DataW.trod_lt m _ _ _ hm
  obtain ⟨u4, rfl, w4⟩ := un_of (hval 4 34 v4 rfl rfl) h4
  clear hA0 hval0
  refine (walk a0 c0 l0 a1 c1 l1 a2 u3 u4 W v0 q0 lc0 mc0 v1 q1 lc1 mc1 w2 w3 w4).mono fun e W' ⟨he, bel⟩ => ?_
  subst he
  exact ⟨_, rfl, _, _, _, [], _, [], hW', trodAll_mk1 (shut_bool Try.underlying4 _), (trodAll_cons_mk (Below.trod laidOut (by kernel_rfl) (of_decide_eq_true (by kernel_rfl)) k0 bel lt0) (trodAll_cons_mk (Below.trod laidOut (by kernel_rfl) (of_decide_eq_true (by kernel_rfl)) k1 bel lt1) (trodAll_cons_mk (Below.trod laidOut (by kernel_rfl) (of_decide_eq_true (by kernel_rfl)) k2 bel lt2) (trodAll_cons_mk (Below.trod laidOut (by kernel_rfl) (of_decide_eq_true (by kernel_rfl)) k3 bel lt3) (trodAll_cons_mk (Below.trod laidOut (by kernel_rfl) (of_decide_eq_true (by kernel_rfl)) k4 bel lt4) trodAll_mk0))))), rfl, bel.frame _, fun h => by cases h⟩

/-- THE STATEMENT. -/
theorem holds : Rows.QuotaPartsSaid :=
  OpenClaim.holds_of_wide 6 Try.f6 rfl rfl rfl rfl rfl rfl rfl ⟨rfl, rfl, rfl, rfl, rfl⟩ rfl rfl rfl rfl rfl (by kernel_rfl) Try.func6 (by kernel_rfl)
    (of_decide_eq_true (by kernel_rfl)) (by unfold Func.isWrapper; first | (rw [if_pos (by decide +kernel)]; kernel_rfl) | (rw [if_neg (by decide +kernel)]; exact ⟨rfl, rfl⟩))
    (fun os started H enc _ => lifted os started H enc)
end Go.Proofs.Ytfbmjpihdjcedaa.quotaParts
