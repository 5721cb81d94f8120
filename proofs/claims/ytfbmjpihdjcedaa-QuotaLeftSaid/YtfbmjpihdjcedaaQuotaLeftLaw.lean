/- What is added is missing from what is left; what is more than that is refused: the law QuotaLeft answers true, at every input. -/
import Derived.Test.YtfbmjpihdjcedaaFrame
import Derived.Test.YtfbmjpihdjcedaaQuotaAwake
set_option linter.unusedVariables false
namespace Go.Proofs.Ytfbmjpihdjcedaa.quotaLeft
open Go Go.ChangeShapes Go.WideShapes Go.ChangeAt Go.RowKit
theorem unV_eq (u v : Un) (W : World) : (binOp .eql 34 (.agg #[.int .i64 u.g, .int .i64 u.c]) (.agg #[.int .i64 v.g, .int .i64 v.c])).run Try.prog W = .ok (.bool (decide (u = v))) W := by
  obtain ⟨a, b⟩ := u
  obtain ⟨c, d⟩ := v
  go_simp
  by_cases h1 : a = c <;> by_cases h2 : b = d <;> simp [h1, h2]
/-- What Left, Add and Left say. -/
theorem told {L : List Qa} {q : Int} {u : Un} (hL : ∀ x ∈ L, QaOk x) : (hasQ L q = false ∧ qLeft L q = (⟨0, 0⟩, 3) ∧ qAdd L q u = (3, L)) ∨
    ∃ x : Un, qLeft L q = (x, 0) ∧ 0 ≤ x.g ∧ x.g ≤ 1048576 ∧ 0 ≤ x.c ∧ x.c ≤ 1048576 ∧ (((qAdd L q u).1 ≠ 0 ∧ (qAdd L q u).1 < 100 ∧ 0 ≤ (qAdd L q u).1 ∧ qLeft (qAdd L q u).2 q = (x, 0) ∧ (u.g < 0 ∨ u.c < 0 ∨ x.g < u.g ∨ x.c < u.c)) ∨
      ((qAdd L q u).1 = 0 ∧ qLeft (qAdd L q u).2 q = (subU x u, 0) ∧ 0 ≤ u.g ∧ u.g ≤ x.g ∧ 0 ≤ u.c ∧ u.c ≤ x.c)) := by
  cases h : hasQ L q
  · exact .inl ⟨rfl, by unfold qLeft; rw [h, if_pos rfl], by unfold qAdd; rw [h, if_pos rfl]⟩
  · obtain ⟨k, x, rfl, hk, hx⟩ := hasQ_at h
    have ok := hL x (List.mem_of_getElem? hx)
    obtain ⟨m1, m2, m3, m4⟩ := mayU_iff.1 ok.m
    obtain ⟨g1, g2⟩ := ok.g
    obtain ⟨c1, c2⟩ := ok.c
    have e0 : qLeft L (k : Int) = (subU x.m x.u, 0) := by unfold qLeft; rw [h, if_neg (by simp)]; simp [hx]
    refine .inr ⟨subU x.m x.u, e0, by simp [subU]; omega, by simp [subU]; omega, by simp [subU]; omega, by simp [subU]; omega, ?_⟩
    cases hm : mayU u
    · have e1 : qAdd L (k : Int) u = (1, L) := by unfold qAdd; rw [h, if_neg (by simp), hm, if_pos rfl]
      rw [e1]
      refine .inl ⟨by simp, by simp, by simp, e0, ?_⟩
      simp only [subU]
      by_cases hh : u.g < 0 ∨ u.c < 0 ∨ x.m.g - x.u.g < u.g ∨ x.m.c - x.u.c < u.c
      · exact hh
      · exact absurd (mayU_iff.2 (show 0 ≤ u.g ∧ u.g ≤ 1048576 ∧ 0 ≤ u.c ∧ u.c ≤ 1048576 by omega)) (by rw [hm]; simp)
    · obtain ⟨u1, u2, u3, u4⟩ := mayU_iff.1 hm
      cases hl : leU u (subU x.m x.u)
      · have e1 : qAdd L (k : Int) u = (6, L) := by unfold qAdd; rw [h, if_neg (by simp), hm, if_neg (by simp)]; simp [hx, hl]
        rw [e1]
        refine .inl ⟨by simp, by simp, by simp, e0, ?_⟩
        by_cases hh : u.g < 0 ∨ u.c < 0 ∨ (subU x.m x.u).g < u.g ∨ (subU x.m x.u).c < u.c
        · exact hh
        · exact absurd (leU_iff.2 (show u.g ≤ (subU x.m x.u).g ∧ u.c ≤ (subU x.m x.u).c by omega)) (by rw [hl]; simp)
      · obtain ⟨l1, l2⟩ := leU_iff.1 hl
        have e1 : qAdd L (k : Int) u = (0, L.set k ⟨x.m, addU x.u u⟩) := by unfold qAdd; rw [h, if_neg (by simp), hm, if_neg (by simp)]; simp [hx, hl]
        have h2 : hasQ (L.set k ⟨x.m, addU x.u u⟩) (k : Int) = true := by unfold hasQ at h ⊢; rw [List.length_set]; exact h
        rw [e1]
        refine .inr ⟨rfl, ?_, u1, l1, u3, l2⟩
        unfold qLeft
        rw [h2, if_neg (by simp)]
        simp only [Int.toNat_natCast, List.getElem?_set_self hk]
        simp only [subU, addU]
        congr 1
        congr 1 <;> omega
set_option maxRecDepth 100000 in
set_option maxHeartbeats 4000000 in
theorem walk (a0 : Option Addr) (c0 : Nat) (l0 : List Un) (a1 : Option Addr) (c1 : Nat) (l1 : List Qc) (q : Int) (u : Un) (w : World) (v0 : Uns w w.heap.size a0 l0) (q0 : ∀ a ∈ l0, UnW a) (lc0 : l0.length ≤ c0) (mc0 : c0 ≤ maxLen) (v1 : Qcs w w.heap.size a1 l1) (q1 : ∀ a ∈ l1, QcOk a) (lc1 : l1.length ≤ c1) (mc1 : c1 ≤ maxLen) (wq : (Lit.int .i64 q).wf = true) (wu : UnW u) :
    Calls Try.prog 7 #[.slice a0 l0.length c0, .slice a1 l1.length c1, .int .i64 q, unV u] w fun e w' => e = .returned (.bool true) ∧ Below w.heap.size w w' := by
  have hug := bounds_i64 wu.g
  have huc := bounds_i64 wu.c
  have hbx := heap_alloc_new w (.cells #[.int .i64 u.g, .int .i64 u.c] 34)
  obtain ⟨n, hn⟩ : ∃ n, n = l0.length := ⟨_, rfl⟩
  obtain ⟨m, hm⟩ : ∃ m, m = l1.length := ⟨_, rfl⟩
  have hA := Lib.hid (fun W => awake_q W)
  unfold unV
  obtain ⟨wb, hwb⟩ : ∃ wb, wb = w.alloc (.cells #[.int .i64 u.g, .int .i64 u.c] 34) := ⟨_, rfl⟩
  have hBb : Below w.heap.size w wb := by rw [hwb]; exact (Below.refl w.heap.size w).alloc (Nat.le_refl _) _
  have hsb := hBb.size
  have HNew := Lib.hid (fun W (hW : Below wb.heap.size wb W) => new_q a0 c0 w.heap.size l0 W (v0.keep (hBb.trans (hW.mono hsb)) (Nat.le_refl _)) (by have := hW.size; omega))
  have HWb := Lib.hid hwb
  rw [← hwb] at hbx
  have hlw := blk_lt hbx
  have Hbx := Lib.hid hbx
  clear hbx
  have HBb := Lib.hid hBb
  rw [← hn] at HNew ⊢
  rw [← hm]
  unfold maxLen at mc0 mc1
  rw [← hn] at lc0
  rw [← hm] at lc1
  have HV := Lib.hid (And.intro v0 (And.intro v1 (And.intro hn hm)))
  clear hwb hBb v0 v1 hn hm
  have hbr := Lib.hid (Below.refl wb.heap.size wb)
  by_cases h100 : 100 < n ∨ 100 < m
  · have t0 : decide ((100 : Int) < (n : Int)) = true ∨ (decide ((100 : Int) < (n : Int)) = false ∧ decide ((100 : Int) < (m : Int)) = true) := by
      by_cases h : 100 < n
      · exact .inl (decide_eq_true (by omega))
      · exact .inr ⟨decide_eq_false (by omega), decide_eq_true (by omega)⟩
    clear h100
    rcases t0 with t0 | ⟨t0, t1⟩
    all_goals
      go_enter Try.func7, Try.ntmps7
      go_wp2_with (go_at_call 8; refine (hA.out _).mono ?_; rintro e w2 ⟨rfl, hb2⟩)
      go_ret
      rw [← HWb.out] at hb2
      exact ⟨rfl, HBb.out.trans (hb2.mono hsb)⟩
  have t0 : decide ((100 : Int) < (n : Int)) = false := decide_eq_false (by omega)
  have t1 : decide ((100 : Int) < (m : Int)) = false := decide_eq_false (by omega)
  have hn100 : n ≤ 100 := by omega
  have hm100 : m ≤ 100 := by omega
  clear h100
  go_enter Try.func7, Try.ntmps7
  go_wp2_with fail
  rw [← HWb.out]
  refine (hA.out _).mono ?_
  rintro e w2 ⟨rfl, hb2⟩
  go_wp2_with fail
  refine (HNew.out _ hb2).mono ?_
  rintro e w3 hq3
  rcases hq3 with ⟨hb3, ⟨hq, rfl⟩ | ⟨hq, p, g, c, rfl, hQ, hp, hg⟩⟩
  · clear hq
    go_wp2
    go_ret
    exact ⟨rfl, HBb.out.trans ((hb2.trans (hb3.mono hb2.size)).mono hsb)⟩
  have HQ := Lib.hid (QIn.made hb2 hQ hp hg hb3)
  have hlen := (quotasOk_iff.1 hq).2.1
  clear hb2 hb3 hQ hp hg
  go_wp2_with fail
  go_loopw [11] (fun i wr => ∃ k : Nat, i = .int .i64 k ∧ k ≤ m ∧ Hid (∃ L, QIn wb wr p g c L ∧ L.map (·.m) = l0)) (fun i _ => m - (intOf i).toNat)
  case atStart => exact ⟨0, rfl, by omega, Lib.hid ⟨newL l0, HQ.out, newL_m l0⟩⟩
  case round =>
    obtain ⟨k, rfl, hk, hin⟩ := hrel
    obtain ⟨L, hQ, hLm⟩ := hin.out
    by_cases hlt : k < m
    · obtain ⟨x, hx⟩ := get_lt (l := l1) (k := k) (by rw [← HV.out.2.2.2]; exact hlt)
      obtain ⟨b, off, rfl, hb, hc⟩ := HV.out.2.1.at_ hx
      have hbel := HBb.out.trans (hQ.bel.mono hsb)
      have hcx := (hc k _ hx).keep hb hbel
      have z0 : wr.cell? ⟨b, off + k * 4, none⟩ = some (.bool x.sub) := hcx 0 _ rfl
      have z1 : wr.cell? ⟨b, off + k * 4 + 1, none⟩ = some (.int .i64 x.q) := hcx 1 _ rfl
      have z2 : wr.cell? ⟨b, off + k * 4 + 2, none⟩ = some (.int .i64 x.u.g) := hcx 2 _ rfl
      have z3 : wr.cell? ⟨b, off + k * 4 + 3, none⟩ = some (.int .i64 x.u.c) := hcx 3 _ rfl
      have t2 : decide (k < m) = true := decide_eq_true hlt
      have HD := Lib.hid (do_q p g c L x wr hQ.at_)
      have HX := Lib.hid (And.intro hQ hLm)
      have Hx := Lib.hid hx
      clear hx hc hcx hbel hQ hin
      unfold qcV at HD
      go_wp2_with fail
      refine HD.out.mono ?_
      rintro e w5 ⟨rfl, hq5, hf5⟩
      go_wp2
      go_roundw
      case rel =>
        obtain ⟨hQ, hLm⟩ := HX.out
        exact ⟨k + 1, by go_num, by omega, Lib.hid ⟨(qDo L x).2, hQ.foot hq5 hf5, (qDo_m L x).trans hLm⟩⟩
      case measure => simp [intOf]; omega
    · obtain rfl : k = m := by omega
      have HQ2 := Lib.hid hQ
      have hT := told (q := q) (u := u) hQ.at_.ok
      have HLf := Lib.hid (left_q p g c L q wr hQ.at_)
      have HAd := Lib.hid (fun W (h : QAt W p g c L) => add_q p g c L q u W h)
      have HL2 := Lib.hid (fun W (h : QAt W p g c (qAdd L q u).2) => left_q p g c _ q W h)
      clear hlt hin hQ
      unfold unV at HLf HAd HL2
      rcases hT with ⟨hh, e1, e2⟩ | ⟨x, e1, x1, x2, x3, x4, hT⟩
      · rw [e1] at HLf
        rw [e2] at HAd HL2
        simp only [e1] at HL2
        go_wp2_with fail
        refine HLf.out.mono ?_
        rintro e w6 ⟨rfl, hb6⟩
        have HQ6 := Lib.hid (HQ2.out.keep hb6)
        have hs6 := HQ6.out.bel.size
        obtain ⟨y0, y1, _, _, hl6⟩ := pair_at ((HQ6.out.bel.block _ hlw).trans Hbx.out)
        have hlw6 : w.heap.size < w6.heap.size := by omega
        go_wp2_with fail
        refine (HAd.out _ (HQ6.out.keep ((Below.refl w6.heap.size w6).alloc (Nat.le_refl _) _)).at_).mono ?_
        rintro e w7 ⟨rfl, hq7, hf7⟩
        have HQ7 := Lib.hid ((HQ6.out.keep ((Below.refl w6.heap.size w6).alloc (Nat.le_refl _) _)).foot hq7 hf7)
        go_wp2_with fail
        refine (HL2.out _ HQ7.out.at_).mono ?_
        rintro e w8 ⟨rfl, hb8⟩
        have HQ8 := Lib.hid (HQ7.out.keep hb8)
        go_wp2
        go_ret
        have h9 := HQ8.out.bel
        exact ⟨by simp, HBb.out.trans ((h9.alloc h9.size _).mono hsb)⟩
      · obtain ⟨E, hE⟩ : ∃ E, E = qAdd L q u := ⟨_, rfl⟩
        rw [← hE] at hT HAd HL2
        rw [e1] at HLf
        have HE := Lib.hid hE
        clear hE e1
        simp only at HLf
        rcases hT with ⟨hn0, hn1, hn2, e3, hor⟩ | ⟨h0, e3, u1, u2, u3, u4⟩
        all_goals
          rw [e3] at HL2
          simp only at HL2
          have E3 := Lib.hid e3
          clear e3
          go_wp2_with fail
          refine HLf.out.mono ?_
          rintro e w6 ⟨rfl, hb6⟩
          have HQ6 := Lib.hid (HQ2.out.keep hb6)
          have hs6 := HQ6.out.bel.size
          obtain ⟨y0, y1, _, _, hl6⟩ := pair_at ((HQ6.out.bel.block _ hlw).trans Hbx.out)
          have hlw6 : w.heap.size < w6.heap.size := by omega
          have hg6 := HQ6.out.at_.lt.2
          go_wp2_with fail
          refine (HAd.out _ (HQ6.out.keep ((Below.refl w6.heap.size w6).alloc (Nat.le_refl _) _)).at_).mono ?_
          rintro e w7 ⟨rfl, hq7, hf7⟩
          have HQ7 := Lib.hid ((HQ6.out.keep ((Below.refl w6.heap.size w6).alloc (Nat.le_refl _) _)).foot hq7 hf7)
          have b7 := (hf7.block w6.heap.size (by simp) (by omega)).trans (heap_alloc_new w6 _)
          have hl7 := blk_lt b7
          go_wp2_with fail
          refine (HL2.out _ HQ7.out.at_).mono ?_
          rintro e w8 ⟨rfl, hb8⟩
          have HQ8 := Lib.hid (HQ7.out.keep hb8)
          have b8 := (hb8.block _ hl7).trans b7
          obtain ⟨o0, o1, _, _, hl8⟩ := pair_at b8
          obtain ⟨y0, y1, _, _, hl9⟩ := pair_at ((HQ8.out.bel.block _ hlw).trans Hbx.out)
          clear b7 b8 hb8 hq7 hf7 hb6 hg6
        · have tE : (E.1 != 0) = true := by simpa using hn0
          have hxx : decide (x = x) = true := decide_eq_true rfl
          have hQQ := unV_eq x x
          rw [hxx] at hQQ
          clear hxx
          obtain ⟨xg, xc⟩ := x
          obtain ⟨ug, uc⟩ := u
          simp only at hor hQQ
          have ho4 : ug < 0 ∨ (¬ ug < 0 ∧ uc < 0) ∨ (¬ ug < 0 ∧ ¬ uc < 0 ∧ xg < ug) ∨ (¬ ug < 0 ∧ ¬ uc < 0 ∧ ¬ xg < ug ∧ xc < uc) := by omega
          clear hor
          rcases ho4 with o | ⟨o, p1⟩ | ⟨o, p1, p2⟩ | ⟨o, p1, p2, p3⟩
          · have s0 : decide (ug < 0) = true := decide_eq_true o
            go_wp2
            go_ret
            have h9 := HQ8.out.bel
            exact ⟨by simp, HBb.out.trans ((h9.alloc h9.size _).mono hsb)⟩
          · have s0 : decide (ug < 0) = false := decide_eq_false o
            have s1 : decide (uc < 0) = true := decide_eq_true p1
            go_wp2
            go_ret
            have h9 := HQ8.out.bel
            exact ⟨by simp, HBb.out.trans ((h9.alloc h9.size _).mono hsb)⟩
          · have s0 : decide (ug < 0) = false := decide_eq_false o
            have s1 : decide (uc < 0) = false := decide_eq_false p1
            have s2 : decide (xg < ug) = true := decide_eq_true p2
            go_wp2
            go_ret
            have h9 := HQ8.out.bel
            exact ⟨by simp, HBb.out.trans ((h9.alloc h9.size _).mono hsb)⟩
          · have s0 : decide (ug < 0) = false := decide_eq_false o
            have s1 : decide (uc < 0) = false := decide_eq_false p1
            have s2 : decide (xg < ug) = false := decide_eq_false p2
            have s3 : decide (xc < uc) = true := decide_eq_true p3
            go_wp2
            go_ret
            have h9 := HQ8.out.bel
            exact ⟨by simp, HBb.out.trans ((h9.alloc h9.size _).mono hsb)⟩
        · have tE : (E.1 != 0) = false := by rw [h0]; rfl
          obtain ⟨xg, xc⟩ := x
          obtain ⟨ug, uc⟩ := u
          simp only [subU] at *
          have s0 : (xg - ug == xg - ug) = true := by simp
          have s1 : (xc - uc == xc - uc) = true := by simp
          have s2 : decide (0 ≤ xg - ug) = true := decide_eq_true (by omega)
          have s3 : decide (0 ≤ xc - uc) = true := decide_eq_true (by omega)
          go_wp2
          go_ret
          have h9 := HQ8.out.bel
          exact ⟨by simp, HBb.out.trans ((h9.alloc h9.size _).mono hsb)⟩

set_option maxRecDepth 100000 in
set_option maxHeartbeats 1000000 in
theorem lifted (os : Os) (started : os.Started) (H : Type) (enc : TypeId × Value → H) :
    ReturnsInHanded {} Try.checked os 7 .any (Rows.quotaLeftSpec.pre6 enc Try.prog Try.f7 Rows.quotaLeftRow.domain false) (Rows.quotaLeftSpec.post enc Try.prog Try.f7 false true false false) := by
  refine returnsInHanded_of_change (C := Try.checked) own started (by kernel_rfl) Try.func7
    (ChangeSpec.witness6 (enc := enc) (C := Try.checked) false ⟨#[], #[.slice none 0 0, .slice none 0 0, .int .i64 0, .agg #[.int .i64 0, .int .i64 0]], []⟩ 8 (by kernel_rfl) (by kernel_rfl) (by kernel_rfl) (by kernel_rfl)) ?_
  intro W base args ds gs before hval0 hW _ _
  have hval : ∀ (j : Nat) t v, Try.f7.params[j]? = some t → args[j]? = some v → Value.okWide Try.prog W .any base t v := hval0
  have hW' := hW
  obtain ⟨p, q, hA0, hV, rfl, hfz, hnd⟩ := hW
  have hA : DataW.TrodAll enc Try.prog W 0 (fun _ => true) true Try.f7.params.toList args.toList ds p := hA0
  rw [Try.params7] at hA hval
  obtain ⟨v0, vs0, d0, ds0, p0, q0, hargs, rfl, rfl, h0, r0⟩ := trodAll_cons hA
  obtain ⟨v1, vs1, d1, ds1, p1, q1, rfl, rfl, rfl, h1, r1⟩ := trodAll_cons r0
  obtain ⟨v2, vs2, d2, ds2, p2, q2, rfl, rfl, rfl, h2, r2⟩ := trodAll_cons r1
  obtain ⟨v3, vs3, d3, ds3, p3, q3, rfl, rfl, rfl, h3, r3⟩ := trodAll_cons r2
  obtain ⟨rfl, rfl, rfl⟩ := trodAll_nil r3
  obtain rfl : args = #[v0, v1, v2, v3] := by cases args; simp_all
  obtain ⟨rfl, rfl⟩ := trodVars_none hV
  have k0 := h0
  have lt0 : ∀ x ∈ p0, x.block < W.heap.size := by obtain ⟨m, hm⟩ := k0; exact DataW.trod_lt m _ _ _ hm
  obtain ⟨a0, c0, l0, rfl, lc0, mc0, v0, q0⟩ := uns_of (hval 0 22 v0 rfl rfl) h0
  have k1 := h1
  have lt1 : ∀ x ∈ p1, x.block < W.heap.size := by obtain ⟨m, hm⟩ := k1; exact DataW.trod_lt m _ _ _ hm
  obtain ⟨a1, c1, l1, rfl, lc1, mc1, v1, q1⟩ := qcs_of (hval 1 23 v1 rfl rfl) h1
  have k2 := h2
  have lt2 : ∀ x ∈ p2, x.block < W.heap.size := by obtain ⟨m, hm⟩ := k2; exact DataW.trod_lt m _ _ _ hm
  obtain ⟨a2, rfl, _, _, w2⟩ := open_int Try.underlying3 (hval 2 3 v2 rfl rfl) h2
  have k3 := h3
  have lt3 : ∀ x ∈ p3, x.block < W.heap.size := by obtain ⟨m, hm⟩ := k3; exact DataW.trod_lt m _ _ _ hm
  obtain ⟨u3, rfl, w3⟩ := un_of (hval 3 34 v3 rfl rfl) h3
  clear hA0 hval0
  refine (walk a0 c0 l0 a1 c1 l1 a2 u3 W v0 q0 lc0 mc0 v1 q1 lc1 mc1 w2 w3).mono fun e W' ⟨he, bel⟩ => ?_
  subst he
  exact ⟨_, rfl, _, _, _, [], _, [], hW', trodAll_mk1 (shut_bool Try.underlying4 _), (trodAll_cons_mk (Below.trod laidOut (by kernel_rfl) (of_decide_eq_true (by kernel_rfl)) k0 bel lt0) (trodAll_cons_mk (Below.trod laidOut (by kernel_rfl) (of_decide_eq_true (by kernel_rfl)) k1 bel lt1) (trodAll_cons_mk (Below.trod laidOut (by kernel_rfl) (of_decide_eq_true (by kernel_rfl)) k2 bel lt2) (trodAll_cons_mk (Below.trod laidOut (by kernel_rfl) (of_decide_eq_true (by kernel_rfl)) k3 bel lt3) trodAll_mk0)))), rfl, bel.frame _, fun h => by cases h⟩

/-- THE STATEMENT. -/
theorem holds : Rows.QuotaLeftSaid :=
  OpenClaim.holds_of_wide 7 Try.f7 rfl rfl rfl rfl rfl rfl rfl ⟨rfl, rfl, rfl, rfl, rfl⟩ rfl rfl rfl rfl rfl (by kernel_rfl) Try.func7 (by kernel_rfl)
    (of_decide_eq_true (by kernel_rfl)) (by unfold Func.isWrapper; first | (rw [if_pos (by decide +kernel)]; kernel_rfl) | (rw [if_neg (by decide +kernel)]; exact ⟨rfl, rfl⟩))
    (fun os started H enc _ => lifted os started H enc)
end Go.Proofs.Ytfbmjpihdjcedaa.quotaLeft
