/- No queue uses more than its quota, or less than nothing; a call of one changes no other: the law QuotaBounds answers true, at every input. -/
import Derived.Test.YtfbmjpihdjcedaaFrame
import Derived.Test.YtfbmjpihdjcedaaQuotaAwake
set_option linter.unusedVariables false
namespace Go.Proofs.Ytfbmjpihdjcedaa.quotaBounds
open Go Go.ChangeShapes Go.WideShapes Go.ChangeAt Go.RowKit
theorem qDo_far (L : List Qa) (x : Qc) (j : Nat) (h : (j : Int) ≠ x.q) : (qDo L x).2[j]? = L[j]? := by
  have key : ∀ (M : List Qa) y, hasQ L x.q = true → M = L.set x.q.toNat y → M[j]? = L[j]? := fun M y hq e => by
    rw [e, List.getElem?_set_ne]
    have := (hasQ_iff.1 hq).1
    omega
  unfold qDo qAdd qSub
  cases hq : hasQ L x.q
  · simp
  · simp only [Bool.true_eq_false, if_false]
    split
    · split
      · rfl
      · split
        · rfl
        · split
          · rfl
          · exact key _ _ hq rfl
    · split
      · rfl
      · split
        · rfl
        · split
          · rfl
          · exact key _ _ hq rfl
theorem qDo_len (L : List Qa) (x : Qc) : (qDo L x).2.length = L.length := by
  have := congrArg List.length (qDo_m L x)
  simpa using this
set_option maxRecDepth 100000 in
set_option maxHeartbeats 4000000 in
theorem walk (a0 : Option Addr) (c0 : Nat) (l0 : List Un) (a1 : Option Addr) (c1 : Nat) (l1 : List Qc) (w : World) (v0 : Uns w w.heap.size a0 l0) (q0 : ∀ a ∈ l0, UnW a) (lc0 : l0.length ≤ c0) (mc0 : c0 ≤ maxLen) (v1 : Qcs w w.heap.size a1 l1) (q1 : ∀ a ∈ l1, QcOk a) (lc1 : l1.length ≤ c1) (mc1 : c1 ≤ maxLen) :
    Calls Try.prog 4 #[.slice a0 l0.length c0, .slice a1 l1.length c1] w fun e w' => e = .returned (.bool true) ∧ Below w.heap.size w w' := by
  obtain ⟨n, hn⟩ : ∃ n, n = l0.length := ⟨_, rfl⟩
  obtain ⟨m, hm⟩ : ∃ m, m = l1.length := ⟨_, rfl⟩
  have hA := Lib.hid (fun W => awake_q W)
  have hBb : Below w.heap.size w w := Below.refl _ _
  have hsb := hBb.size
  have HNew := Lib.hid (fun W (hW : Below w.heap.size w W) => new_q a0 c0 w.heap.size l0 W (v0.keep (hBb.trans (hW.mono hsb)) (Nat.le_refl _)) (by have := hW.size; omega))
  have HBb := Lib.hid hBb
  rw [← hn] at HNew ⊢
  rw [← hm]
  unfold maxLen at mc0 mc1
  rw [← hn] at lc0
  rw [← hm] at lc1
  have HV := Lib.hid (And.intro v0 (And.intro v1 (And.intro hn hm)))
  clear hBb v0 v1 hn hm
  have hbr := Lib.hid (Below.refl w.heap.size w)
  by_cases h100 : 100 < n ∨ 100 < m
  · have t0 : decide ((100 : Int) < (n : Int)) = true ∨ (decide ((100 : Int) < (n : Int)) = false ∧ decide ((100 : Int) < (m : Int)) = true) := by
      by_cases h : 100 < n
      · exact .inl (decide_eq_true (by omega))
      · exact .inr ⟨decide_eq_false (by omega), decide_eq_true (by omega)⟩
    clear h100
    rcases t0 with t0 | ⟨t0, t1⟩
    all_goals
      go_enter Try.func4, Try.ntmps4
      go_wp2_with (go_at_call 8; refine (hA.out _).mono ?_; rintro e w2 ⟨rfl, hb2⟩)
      go_ret
      skip
      exact ⟨rfl, HBb.out.trans (hb2.mono hsb)⟩
  have t0 : decide ((100 : Int) < (n : Int)) = false := decide_eq_false (by omega)
  have t1 : decide ((100 : Int) < (m : Int)) = false := decide_eq_false (by omega)
  have hn100 : n ≤ 100 := by omega
  have hm100 : m ≤ 100 := by omega
  clear h100
  go_enter Try.func4, Try.ntmps4
  go_wp2_with fail
  refine (hA.out _).mono ?_
  rintro e w2 ⟨rfl, hb2⟩
  go_wp2_with fail
  refine (HNew.out _ hb2).mono ?_
  rintro e w3 hq3
  rcases hq3 with ⟨hb3, ⟨hq, rfl⟩ | ⟨hq, p, g, c, rfl, hQ, hp, hg⟩⟩
  · clear hq
    go_wp2
    go_ret
    exact ⟨by simp, HBb.out.trans ((hb2.trans (hb3.mono hb2.size)).mono hsb)⟩
  have HQ := Lib.hid (QIn.made hb2 hQ hp hg hb3)
  have hlen := (quotasOk_iff.1 hq).2.1
  clear hb2 hb3 hQ hp hg
  have hnl : (newL l0).length = n := by unfold newL; rw [List.length_map]; exact HV.out.2.2.1.symm
  have HU0 := Lib.hid (used_q p g c (newL l0) w3 HQ.out.at_)
  rw [hnl] at HU0
  clear hnl
  go_wp2_with fail
  refine HU0.out.mono ?_
  rintro e w4 ⟨A4, c4, rfl, hu4, hA4, hb4⟩
  have HQ4 := Lib.hid (HQ.out.keep hb4)
  have H4 := Lib.hid (And.intro hu4 (show ∀ b off, A4 = some ⟨b, off, none⟩ → b ≠ g ∧ w.heap.size ≤ b ∧ b < w4.heap.size from fun b off e => by
    obtain ⟨h1, h2⟩ := hA4 b off e
    have h3 := HQ.out.at_.lt.2
    have h5 := HQ.out.bel.size
    omega))
  clear hu4 hA4 hb4
  go_wp2_with fail
  go_loopw [7, 8] (fun v i wr => ∃ (k : Nat) (A : Option Addr) (cw : Nat), i = .int .i64 k ∧ v = .slice A n cw ∧ k ≤ m ∧ Hid (∃ L, QIn w wr p g c L ∧ L.map (·.m) = l0 ∧ Uns wr wr.heap.size A (L.map (·.u)) ∧ ∀ b off, A = some ⟨b, off, none⟩ → b ≠ g ∧ w.heap.size ≤ b ∧ b < wr.heap.size)) (fun _ i _ => m - (intOf i).toNat)
  case atStart => exact ⟨0, A4, c4, rfl, rfl, by omega, Lib.hid ⟨newL l0, HQ4.out, newL_m l0, H4.out.1, H4.out.2⟩⟩
  case round =>
    obtain ⟨k, A, cw, rfl, rfl, hk, hin⟩ := hrel
    obtain ⟨L, hQ, hLm, hU, hUA⟩ := hin.out
    by_cases hlt : k < m
    · obtain ⟨x, hx⟩ := get_lt (l := l1) (k := k) (by rw [← HV.out.2.2.2]; exact hlt)
      obtain ⟨b, off, rfl, hb, hc⟩ := HV.out.2.1.at_ hx
      have hbel := HBb.out.trans (hQ.bel.mono hsb)
      have hcx := (hc k _ hx).keep hb hbel
      have z0 : wr.cell? ⟨b, off + k * 4, none⟩ = some (.bool x.sub) := hcx 0 _ rfl
      have z1 : wr.cell? ⟨b, off + k * 4 + 1, none⟩ = some (.int .i64 x.q) := hcx 1 _ rfl
      have z2 : wr.cell? ⟨b, off + k * 4 + 2, none⟩ = some (.int .i64 x.u.g) := hcx 2 _ rfl
      have z3 : wr.cell? ⟨b, off + k * 4 + 3, none⟩ = some (.int .i64 x.u.c) := hcx 3 _ rfl
      have t2 : decide (k < m) = true := decide_eq_true hlt
      have HD := Lib.hid (do_q p g c L x wr hQ.at_)
      have HX := Lib.hid (And.intro hQ (And.intro hLm (And.intro hU hUA)))
      have Hx := Lib.hid hx
      have hlb := lt_of_cell z0
      have hbw : b < w.heap.size := hb
      clear hx hc hcx hbel hQ hLm hU hUA hin
      unfold qcV at HD
      go_wp2_with fail
      refine HD.out.mono ?_
      rintro e w5 ⟨rfl, hq5, hf5⟩
      obtain ⟨L2, hL2⟩ : ∃ L2, L2 = (qDo L x).2 := ⟨_, rfl⟩
      rw [← hL2] at hq5
      have hlen2 : L2.length = n := by
        rw [hL2, qDo_len]
        have := congrArg List.length HX.out.2.1
        rw [List.length_map] at this
        rw [this]; exact HV.out.2.2.1.symm
      have H5 := Lib.hid (And.intro (HX.out.1.foot hq5 hf5) (And.intro (show Uns w5 w5.heap.size A (L.map (·.u)) from (HX.out.2.2.1.off fun b off e _ => hf5.block b (HX.out.2.2.2 b off e).2.2 (HX.out.2.2.2 b off e).1).imp hf5.size fun _ _ _ _ h => h) hf5.size))
      have HU5 := Lib.hid (used_q p g c L2 w5 hq5)
      rw [hlen2] at HU5
      have HL2 := Lib.hid (And.intro hL2 hlen2)
      clear hq5 hf5 z0 z1 z2 z3 hL2 hlen2
      go_wp2_with fail
      refine HU5.out.mono ?_
      rintro e w6 ⟨A6, c6, rfl, hu6, hA6, hb6⟩
      have H6 := Lib.hid (And.intro (H5.out.1.keep hb6) (And.intro (H5.out.2.1.keep hb6 hb6.size) (And.intro hu6 hA6)))
      have hs6 := H6.out.1.bel.size
      have tn : ((n : Int) != (n : Int)) = false := by simp
      clear hu6 hA6 hb6
      go_wp2_with fail
      go_loopw [10] (fun j wj => ∃ t : Nat, j = .int .i64 t ∧ t ≤ n ∧ Hid (Below w6.heap.size w6 wj)) (fun j _ => n - (intOf j).toNat)
      case atStart => exact ⟨0, rfl, by omega, Lib.hid (Below.refl _ _)⟩
      case round =>
        obtain ⟨t, rfl, ht, hbj⟩ := hrel
        by_cases hlj : t < n
        · obtain ⟨y, hy⟩ := get_lt (l := L2) (k := t) (by rw [HL2.out.2]; exact hlj)
          have hQj := H6.out.1.keep hbj.out
          have hm2 : l0[t]? = some y.m := by
            have e : L2.map (·.m) = l0 := by rw [HL2.out.1]; exact (qDo_m L x).trans HX.out.2.1
            rw [← e, List.getElem?_map, hy]; rfl
          have hu2 : (L2.map (·.u))[t]? = some y.u := by rw [List.getElem?_map, hy]; rfl
          obtain ⟨z, hz⟩ := get_lt (l := L) (k := t) (by rw [← qDo_len L x, ← HL2.out.1, HL2.out.2]; exact hlj)
          have hu1 : (L.map (·.u))[t]? = some z.u := by rw [List.getElem?_map, hz]; rfl
          have ok := hQj.at_.ok y (List.mem_of_getElem? hy)
          obtain ⟨m1, m2, m3, m4⟩ := mayU_iff.1 ok.m
          obtain ⟨g1, g2⟩ := ok.g
          obtain ⟨c1', c2'⟩ := ok.c
          have eL : qLeft L2 (t : Int) = (subU y.m y.u, 0) := by
            have h : hasQ L2 (t : Int) = true := hasQ_iff.2 ⟨by omega, by rw [HL2.out.2]; omega⟩
            unfold qLeft; rw [h, if_neg (by simp)]; simp [hy]
          have HLt := left_q p g c L2 (t : Int) wr hQj.at_
          rw [eL] at HLt
          simp only [unV, subU] at HLt
          have HLf := Lib.hid HLt
          have t3 : decide (t < n) = true := decide_eq_true hlj
          have HJ := Lib.hid (And.intro hy (And.intro hQj (And.intro hm2 (And.intro hu2 (And.intro hu1 hz)))))
          obtain ⟨X, hX⟩ : ∃ X, X = y.m.g - y.u.g := ⟨_, rfl⟩
          obtain ⟨Y, hY⟩ : ∃ Y, Y = y.m.c - y.u.c := ⟨_, rfl⟩
          rw [← hX, ← hY] at HLf
          have HXY := Lib.hid (And.intro hX hY)
          clear hX hY
          clear hy hQj hm2 hu2 hu1 hz ok eL HLt
          go_wp2_with fail
          refine HLf.out.mono ?_
          rintro e w7 ⟨rfl, hb7⟩
          obtain ⟨w8, hw8⟩ : ∃ w8, w8 = w7.alloc (.cells #[.int .i64 X, .int .i64 Y] 34) := ⟨_, rfl⟩
          have hb8 : Below wr.heap.size wr w8 := by rw [hw8]; exact hb7.alloc hb7.size _
          have bl8 : w8.heap[w7.heap.size]? = some (.cells #[.int .i64 X, .int .i64 Y] 34 (0, 0)) := by rw [hw8]; exact heap_alloc_new w7 _
          obtain ⟨s0, s1, _, _, hl8⟩ := pair_at bl8
          have hb68 := below_step hbj.out hb8
          have hw08 := H6.out.1.bel.trans (hb68.mono hs6)
          -- the act's queue, the quota, now, was
          obtain ⟨hy, hQj, hm2, hu2, hu1, hz⟩ := HJ.out
          obtain ⟨b0, o0, e0, hb0, hc0⟩ := Rows.at_ HV.out.1 hm2
          have hcq := (hc0 t _ hm2).keep hb0 hw08
          have d0 : w8.cell? ⟨b0, o0 + t * 2, none⟩ = some (.int .i64 y.m.g) := hcq 0 _ rfl
          have d1 : w8.cell? ⟨b0, o0 + t * 2 + 1, none⟩ = some (.int .i64 y.m.c) := hcq 1 _ rfl
          obtain ⟨b6, o6, e6, hb6', hc6⟩ := Rows.at_ H6.out.2.2.1 hu2
          have hcn := (hc6 t _ hu2).keep hb6' hb68
          have n0 : w8.cell? ⟨b6, o6 + t * 2, none⟩ = some (.int .i64 y.u.g) := hcn 0 _ rfl
          have n1 : w8.cell? ⟨b6, o6 + t * 2 + 1, none⟩ = some (.int .i64 y.u.c) := hcn 1 _ rfl
          obtain ⟨bw, ow, ew, hbw', hcw⟩ := Rows.at_ H6.out.2.1 hu1
          have hcv := (hcw t _ hu1).keep hbw' hb68
          have v0 : w8.cell? ⟨bw, ow + t * 2, none⟩ = some (.int .i64 z.u.g) := hcv 0 _ rfl
          have v1 : w8.cell? ⟨bw, ow + t * 2 + 1, none⟩ = some (.int .i64 z.u.c) := hcv 1 _ rfl
          have hxa := (HV.out.2.1.at_ Hx.out)
          have a1' : w8.cell? ⟨b, off + k * 4 + 1, none⟩ = some (.int .i64 x.q) := by
            obtain ⟨b', off', e', hb', hc'⟩ := hxa
            cases e'
            exact ((hc' k _ Hx.out).keep hb' hw08) 1 _ rfl
          subst e6 ew e0
          obtain ⟨hX, hY⟩ := HXY.out
          have hX0 : 0 ≤ X ∧ X ≤ 1048576 := by omega
          have hY0 : 0 ≤ Y ∧ Y ≤ 1048576 := by omega
          obtain ⟨hX1, hX2⟩ := hX0
          obtain ⟨hY1, hY2⟩ := hY0
          have x0 : decide (y.u.g < 0) = false := decide_eq_false (by omega)
          have x1 : decide (y.u.c < 0) = false := decide_eq_false (by omega)
          have x2 : ((y.u.g + X) != y.m.g) = false := by simp; omega
          have x3 : ((y.u.c + Y) != y.m.c) = false := by simp; omega
          have x4 : decide (X < 0) = false := decide_eq_false (by omega)
          have x5 : decide (Y < 0) = false := decide_eq_false (by omega)
          have hT := Lib.hid (show (t : Int) ≠ x.q → z.u = y.u from fun hne => by
            have h9 := qDo_far L x t hne
            rw [← HL2.out.1, hy, hz] at h9
            injection h9 with h9
            rw [h9])
          have H8 := Lib.hid (And.intro hb68 hw08)
          have hlt8 : w7.heap.size < w8.heap.size := by omega
          have Hw8 := Lib.hid hw8
          clear hX hY hy hQj hm2 hu2 hu1 hz hcq hc0 hcn hc6 hcv hcw hxa hb7 hb8 bl8 hb68 hw08 hw8 hb0 hb6' hbw'
          by_cases hj : (t : Int) = x.q
          · have x6 : ((t : Int) != x.q) = false := by simpa using hj
            clear hj
            go_wp2
            rw [← Hw8.out]
            go_quiet (fail)
            go_wp2
            go_quiet (fail)
            go_wp2
            go_roundw
            case rel => exact ⟨t + 1, by go_num, by omega, Lib.hid (below_drewN H8.out.1 _)⟩
            case measure => simp [intOf]; omega
          · have x6 : ((t : Int) != x.q) = true := by simpa using hj
            have hne := unV_ne y.u z.u
            rw [hT.out hj, decide_eq_true rfl] at hne
            rw [hT.out hj] at v0 v1
            simp only [Bool.not_true] at hne
            go_wp2
            rw [← Hw8.out]
            go_quiet (fail)
            go_wp2
            go_quiet (fail)
            go_wp2
            go_roundw
            case rel => exact ⟨t + 1, by go_num, by omega, Lib.hid (below_drewN H8.out.1 _)⟩
            case measure => simp [intOf]; omega
        · obtain rfl : t = n := by omega
          have HB := Lib.hid hbj.out
          clear hlj hbj
          go_wp2
          go_roundw
          case rel =>
            refine ⟨k + 1, A6, c6, by go_num, rfl, by omega, Lib.hid ⟨L2, H6.out.1.keep HB.out, ?_, H6.out.2.2.1.keep HB.out HB.out.size, fun b off e => ?_⟩⟩
            · rw [HL2.out.1]; exact (qDo_m L x).trans HX.out.2.1
            · obtain ⟨h1, h2⟩ := H6.out.2.2.2 b off e
              have h3 := H5.out.1.at_.lt.2
              have h4 := H5.out.1.bel.size
              have h5 := HB.out.size
              omega
          case measure => simp [intOf]; omega
    · obtain rfl : k = m := by omega
      have HB := Lib.hid hQ.bel
      clear hlt hQ hin hU hUA
      go_wp2
      go_ret
      exact ⟨rfl, HB.out⟩

set_option maxRecDepth 100000 in
set_option maxHeartbeats 1000000 in
theorem lifted (os : Os) (started : os.Started) (H : Type) (enc : TypeId × Value → H) :
    ReturnsInHanded {} Try.checked os 4 .any (Rows.quotaBoundsSpec.pre6 enc Try.prog Try.f4 Rows.quotaBoundsRow.domain false) (Rows.quotaBoundsSpec.post enc Try.prog Try.f4 false true false false) := by
  refine returnsInHanded_of_change (C := Try.checked) own started (by kernel_rfl) Try.func4
    (ChangeSpec.witness6 (enc := enc) (C := Try.checked) false ⟨#[], #[.slice none 0 0, .slice none 0 0], []⟩ 8 (by kernel_rfl) (by kernel_rfl) (by kernel_rfl) (by kernel_rfl)) ?_
  intro W base args ds gs before hval0 hW _ _
  have hval : ∀ (j : Nat) t v, Try.f4.params[j]? = some t → args[j]? = some v → Value.okWide Try.prog W .any base t v := hval0
  have hW' := hW
  obtain ⟨p, q, hA0, hV, rfl, hfz, hnd⟩ := hW
  have hA : DataW.TrodAll enc Try.prog W 0 (fun _ => true) true Try.f4.params.toList args.toList ds p := hA0
  rw [Try.params4] at hA hval
  obtain ⟨v0, vs0, d0, ds0, p0, q0, hargs, rfl, rfl, h0, r0⟩ := trodAll_cons hA
  obtain ⟨v1, vs1, d1, ds1, p1, q1, rfl, rfl, rfl, h1, r1⟩ := trodAll_cons r0
  obtain ⟨rfl, rfl, rfl⟩ := trodAll_nil r1
  obtain rfl : args = #[v0, v1] := by cases args; simp_all
  obtain ⟨rfl, rfl⟩ := trodVars_none hV
  have k0 := h0
  have lt0 : ∀ x ∈ p0, x.block < W.heap.size := by obtain ⟨m, hm⟩ := k0; exact DataW.trod_lt m _ _ _ hm
  obtain ⟨a0, c0, l0, rfl, lc0, mc0, v0, q0⟩ := uns_of (hval 0 22 v0 rfl rfl) h0
  have k1 := h1
  have lt1 : ∀ x ∈ p1, x.block < W.heap.size := by obtain ⟨m, hm⟩ := k1; exact DataW.trod_lt m _ _ _ hm
  obtain ⟨a1, c1, l1, rfl, lc1, mc1, v1, q1⟩ := qcs_of (hval 1 23 v1 rfl rfl) h1
  clear hA0 hval0
  refine (walk a0 c0 l0 a1 c1 l1 W v0 q0 lc0 mc0 v1 q1 lc1 mc1).mono fun e W' ⟨he, bel⟩ => ?_
  subst he
  exact ⟨_, rfl, _, _, _, [], _, [], hW', trodAll_mk1 (shut_bool Try.underlying4 _), (trodAll_cons_mk (Below.trod laidOut (by kernel_rfl) (of_decide_eq_true (by kernel_rfl)) k0 bel lt0) (trodAll_cons_mk (Below.trod laidOut (by kernel_rfl) (of_decide_eq_true (by kernel_rfl)) k1 bel lt1) trodAll_mk0)), rfl, bel.frame _, fun h => by cases h⟩

/-- THE STATEMENT. -/
theorem holds : Rows.QuotaBoundsSaid :=
  OpenClaim.holds_of_wide 4 Try.f4 rfl rfl rfl rfl rfl rfl rfl ⟨rfl, rfl, rfl, rfl, rfl⟩ rfl rfl rfl rfl rfl (by kernel_rfl) Try.func4 (by kernel_rfl)
    (of_decide_eq_true (by kernel_rfl)) (by unfold Func.isWrapper; first | (rw [if_pos (by decide +kernel)]; kernel_rfl) | (rw [if_neg (by decide +kernel)]; exact ⟨rfl, rfl⟩))
    (fun os started H enc _ => lifted os started H enc)
end Go.Proofs.Ytfbmjpihdjcedaa.quotaBounds
