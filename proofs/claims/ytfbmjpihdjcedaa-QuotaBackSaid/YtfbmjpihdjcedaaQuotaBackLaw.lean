/- What is added can be taken away, and leaves all as it was; so does what is refused: the law QuotaBack answers true, at every input. -/
import Derived.Test.YtfbmjpihdjcedaaFrame
import Derived.Test.YtfbmjpihdjcedaaQuotaAwake
set_option linter.unusedVariables false
namespace Go.Proofs.Ytfbmjpihdjcedaa.quotaBack
open Go Go.ChangeShapes Go.WideShapes Go.ChangeAt Go.RowKit
theorem set_back {L : List Qa} {k : Nat} {x y : Qa} (hx : L[k]? = some x) : (L.set k y).set k x = L := by
  rw [List.set_set]
  obtain ⟨hk, rfl⟩ := List.getElem?_eq_some_iff.1 hx
  exact List.set_getElem_self hk
/-- There and back. -/
theorem back {L : List Qa} {x : Qc} (hL : ∀ x ∈ L, QaOk x) : ((qDo L x).1 ≠ 0 ∧ (qDo L x).2 = L) ∨ ((qDo L x).1 = 0 ∧ qDo (qDo L x).2 ⟨!x.sub, x.q, x.u⟩ = (0, L)) := by
  obtain ⟨s, q, u⟩ := x
  cases h : hasQ L q
  · have e : qDo L ⟨s, q, u⟩ = (3, L) := by
      unfold qDo qAdd qSub; simp only; rw [h]; simp
    rw [e]; exact .inl ⟨by simp, rfl⟩
  · cases hm : mayU u
    · have e : qDo L ⟨s, q, u⟩ = (1, L) := by
        unfold qDo qAdd qSub; simp only; rw [h, hm]; simp
      rw [e]; exact .inl ⟨by simp, rfl⟩
    · obtain ⟨k, x, rfl, hk, hx⟩ := hasQ_at h
      have ok := hL x (List.mem_of_getElem? hx)
      obtain ⟨g1, g2⟩ := ok.g
      obtain ⟨c1, c2⟩ := ok.c
      obtain ⟨u1, u2, u3, u4⟩ := mayU_iff.1 hm
      have h2 : ∀ y, hasQ (L.set k y) (k : Int) = true := fun y => by unfold hasQ at h ⊢; rw [List.length_set]; exact h
      have eA : ∀ M y, hasQ M (k : Int) = true → M[k]? = some y → qAdd M (k : Int) u = if leU u (subU y.m y.u) = false then (6, M) else (0, M.set k ⟨y.m, addU y.u u⟩) := fun M y hM hy => by
        unfold qAdd; rw [hM, if_neg (by simp), hm, if_neg (by simp)]; simp [hy]
      have eS : ∀ M y, hasQ M (k : Int) = true → M[k]? = some y → qSub M (k : Int) u = if leU u y.u = false then (13, M) else (0, M.set k ⟨y.m, subU y.u u⟩) := fun M y hM hy => by
        unfold qSub; rw [hM, if_neg (by simp), hm, if_neg (by simp)]; simp [hy]
      cases s
      · have e : qDo L ⟨false, (k : Int), u⟩ = qAdd L (k : Int) u := by unfold qDo; simp
        rw [e, eA L x h hx]
        cases hl : leU u (subU x.m x.u)
        · exact .inl ⟨by simp, by simp⟩
        · refine .inr ⟨by simp, ?_⟩
          simp only [Bool.true_eq_false, if_false, Bool.not_false]
          have e2 : qDo (L.set k ⟨x.m, addU x.u u⟩) ⟨true, (k : Int), u⟩ = qSub (L.set k ⟨x.m, addU x.u u⟩) (k : Int) u := by unfold qDo; simp
          rw [e2, eS _ _ (h2 _) (List.getElem?_set_self hk)]
          have hle : leU u (addU x.u u) = true := leU_iff.2 (by simp only [addU]; omega)
          simp only
          rw [hle, if_neg (by simp)]
          have hu : subU (addU x.u u) u = x.u := by obtain ⟨_, ⟨a, b⟩⟩ := x; simp only [addU, subU]; congr 1 <;> omega
          rw [hu]
          exact congrArg (Prod.mk 0) (set_back hx)
      · have e : qDo L ⟨true, (k : Int), u⟩ = qSub L (k : Int) u := by unfold qDo; simp
        rw [e, eS L x h hx]
        cases hl : leU u x.u
        · exact .inl ⟨by simp, by simp⟩
        · refine .inr ⟨by simp, ?_⟩
          obtain ⟨l1, l2⟩ := leU_iff.1 hl
          simp only [Bool.true_eq_false, if_false, Bool.not_true]
          have e2 : qDo (L.set k ⟨x.m, subU x.u u⟩) ⟨false, (k : Int), u⟩ = qAdd (L.set k ⟨x.m, subU x.u u⟩) (k : Int) u := by unfold qDo; simp
          rw [e2, eA _ _ (h2 _) (List.getElem?_set_self hk)]
          have hle : leU u (subU x.m (subU x.u u)) = true := leU_iff.2 (by simp only [subU]; omega)
          simp only
          rw [hle, if_neg (by simp)]
          have hu : addU (subU x.u u) u = x.u := by obtain ⟨_, ⟨a, b⟩⟩ := x; simp only [addU, subU]; congr 1 <;> omega
          rw [hu]
          exact congrArg (Prod.mk 0) (set_back hx)
set_option maxRecDepth 100000 in
set_option maxHeartbeats 4000000 in
theorem walk (a0 : Option Addr) (c0 : Nat) (l0 : List Un) (a1 : Option Addr) (c1 : Nat) (l1 : List Qc) (x : Qc) (w : World) (v0 : Uns w w.heap.size a0 l0) (q0 : ∀ a ∈ l0, UnW a) (lc0 : l0.length ≤ c0) (mc0 : c0 ≤ maxLen) (v1 : Qcs w w.heap.size a1 l1) (q1 : ∀ a ∈ l1, QcOk a) (lc1 : l1.length ≤ c1) (mc1 : c1 ≤ maxLen) (wx : QcOk x) :
    Calls Try.prog 5 #[.slice a0 l0.length c0, .slice a1 l1.length c1, qcV x] w fun e w' => e = .returned (.bool true) ∧ Below w.heap.size w w' := by
  have hbx := heap_alloc_new w (.cells #[.bool x.sub, .int .i64 x.q, .int .i64 x.u.g, .int .i64 x.u.c] 36)
  obtain ⟨n, hn⟩ : ∃ n, n = l0.length := ⟨_, rfl⟩
  obtain ⟨m, hm⟩ : ∃ m, m = l1.length := ⟨_, rfl⟩
  have hA := Lib.hid (fun W => awake_q W)
  unfold qcV
  obtain ⟨wb, hwb⟩ : ∃ wb, wb = w.alloc (.cells #[.bool x.sub, .int .i64 x.q, .int .i64 x.u.g, .int .i64 x.u.c] 36) := ⟨_, rfl⟩
  have hBb : Below w.heap.size w wb := by rw [hwb]; exact (Below.refl w.heap.size w).alloc (Nat.le_refl _) _
  have hsb := hBb.size
  have HNew := Lib.hid (fun W (hW : Below wb.heap.size wb W) => new_q a0 c0 w.heap.size l0 W (v0.keep (hBb.trans (hW.mono hsb)) (Nat.le_refl _)) (by have := hW.size; omega))
  have HWb := Lib.hid hwb
  rw [← hwb] at hbx
  have hlw := blk_lt hbx
  have Hbx := Lib.hid hbx
  clear hbx
  have HBb := Lib.hid hBb
  rw [← hn] at HNew ⊢
  rw [← hm]
  unfold maxLen at mc0 mc1
  rw [← hn] at lc0
  rw [← hm] at lc1
  have HV := Lib.hid (And.intro v0 (And.intro v1 (And.intro hn hm)))
  clear hwb hBb v0 v1 hn hm
  have hbr := Lib.hid (Below.refl wb.heap.size wb)
  by_cases h100 : 100 < n ∨ 100 < m
  · have t0 : decide ((100 : Int) < (n : Int)) = true ∨ (decide ((100 : Int) < (n : Int)) = false ∧ decide ((100 : Int) < (m : Int)) = true) := by
      by_cases h : 100 < n
      · exact .inl (decide_eq_true (by omega))
      · exact .inr ⟨decide_eq_false (by omega), decide_eq_true (by omega)⟩
    clear h100
    rcases t0 with t0 | ⟨t0, t1⟩
    all_goals
      go_enter Try.func5, Try.ntmps5
      go_wp2_with (go_at_call 8; refine (hA.out _).mono ?_; rintro e w2 ⟨rfl, hb2⟩)
      go_ret
      rw [← HWb.out] at hb2
      exact ⟨rfl, HBb.out.trans (hb2.mono hsb)⟩
  have t0 : decide ((100 : Int) < (n : Int)) = false := decide_eq_false (by omega)
  have t1 : decide ((100 : Int) < (m : Int)) = false := decide_eq_false (by omega)
  have hn100 : n ≤ 100 := by omega
  have hm100 : m ≤ 100 := by omega
  clear h100
  go_enter Try.func5, Try.ntmps5
  go_wp2_with fail
  rw [← HWb.out]
  refine (hA.out _).mono ?_
  rintro e w2 ⟨rfl, hb2⟩
  go_wp2_with fail
  refine (HNew.out _ hb2).mono ?_
  rintro e w3 hq3
  rcases hq3 with ⟨hb3, ⟨hq, rfl⟩ | ⟨hq, p, g, c, rfl, hQ, hp, hg⟩⟩
  · clear hq
    go_wp2
    go_ret
    exact ⟨rfl, HBb.out.trans ((hb2.trans (hb3.mono hb2.size)).mono hsb)⟩
  have HQ := Lib.hid (QIn.made hb2 hQ hp hg hb3)
  have hlen := (quotasOk_iff.1 hq).2.1
  clear hb2 hb3 hQ hp hg
  go_wp2_with fail
  go_loopw [9] (fun i wr => ∃ k : Nat, i = .int .i64 k ∧ k ≤ m ∧ Hid (∃ L, QIn wb wr p g c L ∧ L.map (·.m) = l0)) (fun i _ => m - (intOf i).toNat)
  case atStart => exact ⟨0, rfl, by omega, Lib.hid ⟨newL l0, HQ.out, newL_m l0⟩⟩
  case round =>
    obtain ⟨k, rfl, hk, hin⟩ := hrel
    obtain ⟨L, hQ, hLm⟩ := hin.out
    by_cases hlt : k < m
    · obtain ⟨y, hx⟩ := get_lt (l := l1) (k := k) (by rw [← HV.out.2.2.2]; exact hlt)
      obtain ⟨b, off, rfl, hb, hc⟩ := HV.out.2.1.at_ hx
      have hbel := HBb.out.trans (hQ.bel.mono hsb)
      have hcx := (hc k _ hx).keep hb hbel
      have z0 : wr.cell? ⟨b, off + k * 4, none⟩ = some (.bool y.sub) := hcx 0 _ rfl
      have z1 : wr.cell? ⟨b, off + k * 4 + 1, none⟩ = some (.int .i64 y.q) := hcx 1 _ rfl
      have z2 : wr.cell? ⟨b, off + k * 4 + 2, none⟩ = some (.int .i64 y.u.g) := hcx 2 _ rfl
      have z3 : wr.cell? ⟨b, off + k * 4 + 3, none⟩ = some (.int .i64 y.u.c) := hcx 3 _ rfl
      have t2 : decide (k < m) = true := decide_eq_true hlt
      have HD := Lib.hid (do_q p g c L y wr hQ.at_)
      have HX := Lib.hid (And.intro hQ hLm)
      have Hx := Lib.hid hx
      clear hx hc hcx hbel hQ hin
      unfold qcV at HD
      go_wp2_with fail
      refine HD.out.mono ?_
      rintro e w5 ⟨rfl, hq5, hf5⟩
      go_wp2
      go_roundw
      case rel =>
        obtain ⟨hQ, hLm⟩ := HX.out
        exact ⟨k + 1, by go_num, by omega, Lib.hid ⟨(qDo L y).2, hQ.foot hq5 hf5, (qDo_m L y).trans hLm⟩⟩
      case measure => simp [intOf]; omega
    · obtain rfl : k = m := by omega
      have HQ2 := Lib.hid (show QIn w wr p g c L from ⟨hQ.at_, by have := hQ.hp; omega, by have := hQ.hg; omega, HBb.out.trans (hQ.bel.mono hsb)⟩)
      have hT := back (x := x) hQ.at_.ok
      have Bx := Lib.hid ((hQ.bel.block _ hlw).trans Hbx.out)
      have hne : p ≠ w.heap.size ∧ g ≠ w.heap.size := by have := hQ.hp; have := hQ.hg; omega
      have HU := Lib.hid (used_q p g c L wr hQ.at_)
      have HD1 := Lib.hid (fun W (h : QAt W p g c L) => do_q p g c L x W h)
      have HD2 := Lib.hid (fun W (h : QAt W p g c (qDo L x).2) => do_q p g c _ ⟨!x.sub, x.q, x.u⟩ W h)
      obtain ⟨E, hE⟩ : ∃ E, E = qDo L x := ⟨_, rfl⟩
      rw [← hE] at hT HD1 HD2
      unfold qcV at HD1 HD2
      simp only at HD2
      clear hlt hin hQ hE
      go_wp2_with fail
      refine HU.out.mono ?_
      rintro e w6 ⟨A6, c6, rfl, hu6, hA6, hb6⟩
      have H6 := Lib.hid (And.intro hu6 (HQ2.out.keep hb6))
      have B6 := (hb6.block _ (blk_lt Bx.out)).trans Bx.out
      have hl6 := blk_lt B6
      have y0 : w6.cell? ⟨w.heap.size, 0, none⟩ = some (.bool x.sub) := cell_blk (i := 0) B6 rfl
      have y1 : w6.cell? ⟨w.heap.size, 1, none⟩ = some (.int .i64 x.q) := cell_blk (i := 1) B6 rfl
      have y2 : w6.cell? ⟨w.heap.size, 2, none⟩ = some (.int .i64 x.u.g) := cell_blk (i := 2) B6 rfl
      have y3 : w6.cell? ⟨w.heap.size, 3, none⟩ = some (.int .i64 x.u.c) := cell_blk (i := 3) B6 rfl
      have HA6 := Lib.hid (show ∀ b off, A6 = some ⟨b, off, none⟩ → b ≠ g ∧ b ≠ w.heap.size ∧ b < w6.heap.size from fun b off e => by
        obtain ⟨h1, h2⟩ := hA6 b off e
        have h3 := HQ2.out.at_.lt.2
        have h4 := blk_lt Bx.out
        omega)
      have hfw := H6.out.2.at_.few
      clear hu6 hA6 hb6
      go_wp2_with fail
      refine (HD1.out _ H6.out.2.at_).mono ?_
      rintro e w7 ⟨rfl, hq7, hf7⟩
      have H7 := Lib.hid (And.intro (H6.out.2.foot hq7 hf7) (And.intro ((hf7.block _ hl6 (Ne.symm hne.2)).trans B6) (show Uns w7 w7.heap.size A6 (L.map (·.u)) from (H6.out.1.off fun b off e _ => hf7.block b (HA6.out b off e).2.2 (HA6.out b off e).1).imp hf7.size fun _ _ _ _ h => h)))
      have hs7 := hf7.size
      clear hq7 hf7 B6 y0 y1 y2 y3
      rcases hT with ⟨n0, eL⟩ | ⟨n0, eB⟩
      · have x1 : (E.1 == 0) = false := by simpa using n0
        rw [eL] at H7
        have HU2 := Lib.hid (used_q p g c L w7 H7.out.1.at_)
        clear n0 eL
        go_wp2_with fail
        refine HU2.out.mono ?_
        rintro e w8 ⟨A8, c8, rfl, hu8, hA8, hb8⟩
        have HS := Lib.hid (same_u A8 A6 c8 c6 _ _ w8 hu8 (H7.out.2.2.keep hb8 hb8.size) (by rw [List.length_map]; omega))
        have H8 := Lib.hid (H7.out.1.keep hb8)
        rw [decide_eq_true rfl, List.length_map] at HS
        clear hu8 hA8 hb8
        go_wp2_with fail
        refine HS.out.mono ?_
        rintro e w9 ⟨rfl, hb9⟩
        go_wp2
        go_ret
        exact ⟨rfl, H8.out.bel.trans (hb9.mono H8.out.bel.size)⟩
      · have x1 : (E.1 == 0) = true := by rw [n0]; rfl
        rw [eB] at HD2
        simp only at HD2
        have B7 := H7.out.2.1
        have y0 : w7.cell? ⟨w.heap.size, 0, none⟩ = some (.bool x.sub) := cell_blk (i := 0) B7 rfl
        have y1 : w7.cell? ⟨w.heap.size, 1, none⟩ = some (.int .i64 x.q) := cell_blk (i := 1) B7 rfl
        have y2 : w7.cell? ⟨w.heap.size, 2, none⟩ = some (.int .i64 x.u.g) := cell_blk (i := 2) B7 rfl
        have y3 : w7.cell? ⟨w.heap.size, 3, none⟩ = some (.int .i64 x.u.c) := cell_blk (i := 3) B7 rfl
        have z0 : w7.frozen? ⟨w.heap.size, 0, none⟩ = false := frozen_blk B7
        have hfx : Foot (· = w.heap.size) w7 (w7.setCell ⟨w.heap.size, 0, none⟩ (.bool !x.sub)) := by
          refine Foot.setCell (F := (· = w.heap.size)) (p := ⟨w.heap.size, 0, none⟩) (Foot.refl _ _) (.inl ?_) _; rfl
        have Hfx := Lib.hid hfx
        have HQx := Lib.hid (show QIn w (w7.setCell ⟨w.heap.size, 0, none⟩ (.bool !x.sub)) p g c E.2 from ⟨H7.out.1.at_.foot hfx (by rintro i rfl; exact ⟨Ne.symm hne.1, Ne.symm hne.2⟩), H7.out.1.hp, H7.out.1.hg, H7.out.1.bel.setCell (p := ⟨w.heap.size, 0, none⟩) (Nat.le_refl _) _⟩)
        have HUx := Lib.hid (show Uns (w7.setCell ⟨w.heap.size, 0, none⟩ (.bool !x.sub)) w7.heap.size A6 (L.map (·.u)) from H7.out.2.2.off fun b off e hb => hfx.block b (by have := (HA6.out b off e).2.2; omega) (HA6.out b off e).2.1)
        clear n0 eB B7 hfx
        go_wp2_with fail
        refine (HD2.out _ HQx.out.at_).mono ?_
        rintro e w8 ⟨rfl, hq8, hf8⟩
        have H8 := Lib.hid (HQx.out.foot hq8 hf8)
        have hs8 := hf8.size
        simp at hs8
        have HU8 := Lib.hid (show Uns w8 w8.heap.size A6 (L.map (·.u)) from (HUx.out.off fun b off e hb => hf8.block b (by simp; have := (HA6.out b off e).2.2; omega) (HA6.out b off e).1).imp hs8 fun _ _ _ _ h => h)
        have HU2 := Lib.hid (used_q p g c L w8 H8.out.at_)
        clear hq8 hf8 y0 y1 y2 y3 z0
        go_wp2_with fail
        refine HU2.out.mono ?_
        rintro e w9 ⟨A9, c9, rfl, hu9, hA9, hb9⟩
        have HS := Lib.hid (same_u A9 A6 c9 c6 _ _ w9 hu9 (HU8.out.keep hb9 hb9.size) (by rw [List.length_map]; omega))
        have H9 := Lib.hid (H8.out.keep hb9)
        rw [decide_eq_true rfl, List.length_map] at HS
        clear hu9 hA9 hb9
        go_wp2_with fail
        refine HS.out.mono ?_
        rintro e w10 ⟨rfl, hb10⟩
        go_wp2
        go_ret
        exact ⟨rfl, H9.out.bel.trans (hb10.mono H9.out.bel.size)⟩

set_option maxRecDepth 100000 in
set_option maxHeartbeats 1000000 in
theorem lifted (os : Os) (started : os.Started) (H : Type) (enc : TypeId × Value → H) :
    ReturnsInHanded {} Try.checked os 5 .any (Rows.quotaBackSpec.pre6 enc Try.prog Try.f5 Rows.quotaBackRow.domain false) (Rows.quotaBackSpec.post enc Try.prog Try.f5 false true false false) := by
  refine returnsInHanded_of_change (C := Try.checked) own started (by kernel_rfl) Try.func5
    (ChangeSpec.witness6 (enc := enc) (C := Try.checked) false ⟨#[], #[.slice none 0 0, .slice none 0 0, .agg #[.bool false, .int .i64 0, .int .i64 0, .int .i64 0]], []⟩ 8 (by kernel_rfl) (by kernel_rfl) (by kernel_rfl) (by kernel_rfl)) ?_
  intro W base args ds gs before hval0 hW _ _
  have hval : ∀ (j : Nat) t v, Try.f5.params[j]? = some t → args[j]? = some v → Value.okWide Try.prog W .any base t v := hval0
  have hW' := hW
  obtain ⟨p, q, hA0, hV, rfl, hfz, hnd⟩ := hW
  have hA : DataW.TrodAll enc Try.prog W 0 (fun _ => true) true Try.f5.params.toList args.toList ds p := hA0
  rw [Try.params5] at hA hval
  obtain ⟨v0, vs0, d0, ds0, p0, q0, hargs, rfl, rfl, h0, r0⟩ := trodAll_cons hA
  obtain ⟨v1, vs1, d1, ds1, p1, q1, rfl, rfl, rfl, h1, r1⟩ := trodAll_cons r0
  obtain ⟨v2, vs2, d2, ds2, p2, q2, rfl, rfl, rfl, h2, r2⟩ := trodAll_cons r1
  obtain ⟨rfl, rfl, rfl⟩ := trodAll_nil r2
  obtain rfl : args = #[v0, v1, v2] := by cases args; simp_all
  obtain ⟨rfl, rfl⟩ := trodVars_none hV
  have k0 := h0
  have lt0 : ∀ x ∈ p0, x.block < W.heap.size := by obtain ⟨m, hm⟩ := k0; exact DataW.trod_lt m _ _ _ hm
  obtain ⟨a0, c0, l0, rfl, lc0, mc0, v0, q0⟩ := uns_of (hval 0 22 v0 rfl rfl) h0
  have k1 := h1
  have lt1 : ∀ x ∈ p1, x.block < W.heap.size := by obtain ⟨m, hm⟩ := k1; exact DataW.trod_lt m _ _ _ hm
  obtain ⟨a1, c1, l1, rfl, lc1, mc1, v1, q1⟩ := qcs_of (hval 1 23 v1 rfl rfl) h1
  have k2 := h2
  have lt2 : ∀ x ∈ p2, x.block < W.heap.size := by obtain ⟨m, hm⟩ := k2; exact DataW.trod_lt m _ _ _ hm
  obtain ⟨x2, rfl, w2⟩ := qc_of (hval 2 36 v2 rfl rfl) h2
  clear hA0 hval0
  refine (walk a0 c0 l0 a1 c1 l1 x2 W v0 q0 lc0 mc0 v1 q1 lc1 mc1 w2).mono fun e W' ⟨he, bel⟩ => ?_
  subst he
  exact ⟨_, rfl, _, _, _, [], _, [], hW', trodAll_mk1 (shut_bool Try.underlying4 _), (trodAll_cons_mk (Below.trod laidOut (by kernel_rfl) (of_decide_eq_true (by kernel_rfl)) k0 bel lt0) (trodAll_cons_mk (Below.trod laidOut (by kernel_rfl) (of_decide_eq_true (by kernel_rfl)) k1 bel lt1) (trodAll_cons_mk (Below.trod laidOut (by kernel_rfl) (of_decide_eq_true (by kernel_rfl)) k2 bel lt2) trodAll_mk0))), rfl, bel.frame _, fun h => by cases h⟩

/-- THE STATEMENT. -/
theorem holds : Rows.QuotaBackSaid :=
  OpenClaim.holds_of_wide 5 Try.f5 rfl rfl rfl rfl rfl rfl rfl ⟨rfl, rfl, rfl, rfl, rfl⟩ rfl rfl rfl rfl rfl (by kernel_rfl) Try.func5 (by kernel_rfl)
    (of_decide_eq_true (by kernel_rfl)) (by unfold Func.isWrapper; first | (rw [if_pos (by decide +kernel)]; kernel_rfl) | (rw [if_neg (by decide +kernel)]; exact ⟨rfl, rfl⟩))
    (fun os started H enc _ => lifted os started H enc)
end Go.Proofs.Ytfbmjpihdjcedaa.quotaBack
