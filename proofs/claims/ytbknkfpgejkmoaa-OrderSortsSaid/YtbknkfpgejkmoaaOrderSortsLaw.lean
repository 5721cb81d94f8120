/- Any waits are sorted as the document says, or refused: the law OrderSorts answers true, at every input. -/
import Derived.Test.YtbknkfpgejkmoaaFrame
import Derived.Test.YtbknkfpgejkmoaaOrdIn
import Derived.Test.YtbknkfpgejkmoaaOrdAwake
import Derived.Test.YtbknkfpgejkmoaaOrdRefS
import Derived.Test.YtbknkfpgejkmoaaOrdSame
set_option linter.unusedVariables false
namespace Go.Proofs.Ytbknkfpgejkmoaa.orderSorts
open Go Go.ChangeShapes Go.WideShapes Go.ChangeAt Go.RowKit
set_option maxRecDepth 100000 in
set_option maxHeartbeats 4000000 in
theorem walk (A : Option Addr) (c : Nat) (l : List Wt) (now age : Int) (w : World) (hv : Wts w w.heap.size A l) (hq : ∀ a ∈ l, WtW a) (lc : l.length ≤ c) (mc : c ≤ maxLen) (wn : (Lit.int .i64 now).wf = true) (wa : (Lit.int .i64 age).wf = true) :
    Calls Try.prog 4 #[.slice A l.length c, .int .i64 now, .int .i64 age] w fun e w' => e = .returned (.bool true) ∧ Below w.heap.size w w' := by
  have AW := Lib.hid (fun W => awake_o W)
  obtain ⟨n, hl⟩ : ∃ n, n = l.length := ⟨_, rfl⟩
  have HP := Lib.hid (fun W (hW : Below w.heap.size w W) (h60 : n ≤ 60) => psort_any A c l now age W (hv.keep hW hW.size) (by omega))
  have HRS := Lib.hid (fun W (hW : Below w.heap.size w W) (h60 : n ≤ 60) (h : (mayA now age && l.all mayW) = true) => by
    rw [Bool.and_eq_true, mayA_iff] at h
    exact refsort_any A c l now age W (hv.keep hW hW.size) (by omega) h.1.1 (by omega) h.1.2.2.1 h.1.2.2.2 h.2)
  have HT := Lib.hid (fun W => reftime_any now age W)
  have HL := Lib.hid (And.intro hl hv)
  rw [← hl] at HP HRS lc ⊢
  unfold maxLen at mc
  clear hl hv hq wn wa
  by_cases h60 : 60 < n
  · have t0 : decide (60 < n) = true := decide_eq_true h60
    have t0' : decide ((60 : Int) < (n : Int)) = true := decide_eq_true (by omega)
    clear HP HRS HT
    go_enter Try.func4, Try.ntmps4
    go_wp2_with fail
    refine (AW.out _).mono ?_
    rintro e w1 ⟨rfl, hb1⟩
    go_wp2
    go_ret
    exact ⟨by first | rfl | (simp; done), hb1⟩
  · have t0' : decide ((60 : Int) < (n : Int)) = false := decide_eq_false (by omega)
    have h60' : n ≤ 60 := by omega
    clear h60
    go_enter Try.func4, Try.ntmps4
    go_wp2_with fail
    refine (AW.out _).mono ?_
    rintro e w1 ⟨rfl, hb1⟩
    have HB1 := Lib.hid hb1
    have hP := HP.out w1 hb1 h60'
    clear hb1 HP
    go_wp2_with fail
    refine hP.mono ?_
    rintro e w2 ⟨hb2, (⟨hm, rfl⟩ | ⟨hm, v, D, rfl, hS⟩)⟩
    · have HBw := Lib.hid (below_step HB1.out hb2)
      have HM := Lib.hid hm
      clear hP hb2 hm HRS
      go_wp2_with fail
      refine (HT.out _).mono ?_
      rintro e w3 ⟨rfl, rfl⟩
      have HB3 := Lib.hid (Below.refl w2.heap.size w2)
      have HO0 : Hid (mayA now age = (mayA now age && (l.take 0).all mayW)) := Lib.hid (by simp)
      clear HT
      go_wp2
      go_loopw [9, 10] (fun vo vi wr => ∃ (i : Nat) (o : Bool), vo = .bool o ∧ vi = .int .i64 (i : Nat) ∧ i ≤ n ∧ Hid (Below w2.heap.size w2 wr) ∧ Hid (o = (mayA now age && (l.take i).all mayW))) (fun _ vi _ => n - (intOf vi).toNat)
      case atStart => exact ⟨0, _, rfl, rfl, by omega, HB3, HO0⟩
      case round =>
        clear HB3 HO0
        obtain ⟨i, o, rfl, rfl, hin, hB, hO⟩ := hrel
        by_cases hlt : i < n
        · obtain ⟨x, hx⟩ := get_lt (l := l) (k := i) (by rw [← HL.out.1]; exact hlt)
          have t1 : decide (i < n) = true := decide_eq_true hlt
          cases o
          · have HN : Hid (false = (mayA now age && (l.take (i + 1)).all mayW)) := Lib.hid (by
              rw [take_next hx, List.all_append, ← Bool.and_assoc, ← hO.out]; rfl)
            clear hO hx
            go_wp2
            go_roundw
            case rel => exact ⟨i + 1, _, rfl, by go_num, by omega, hB, HN⟩
            case measure => simp [intOf]; omega
          · obtain ⟨b, off, rfl, hb, hc⟩ := HL.out.2.at_ hx
            have hcx := (hc i x hx).keep hb (HBw.out.trans (hB.out.mono HBw.out.size))
            have hR := Lib.hid (refright_any x wr)
            have HN : Hid (mayW x = (mayA now age && (l.take (i + 1)).all mayW)) := Lib.hid (by
              rw [take_next hx, List.all_append, ← Bool.and_assoc, ← hO.out]; simp)
            obtain ⟨u, hu⟩ : ∃ u, u = mayW x := ⟨_, rfl⟩
            rw [← hu] at hR HN
            simp only [wtV, wtA] at hR
            have c0 : wr.cell? ⟨b, off + i * 10, none⟩ = some (.int .i64 x.id) := hcx 0 _ rfl
            have c1 : wr.cell? ⟨b, off + i * 10 + 1, none⟩ = some (.int .i64 x.q) := hcx 1 _ rfl
            have c2 : wr.cell? ⟨b, off + i * 10 + 2, none⟩ = some (.int .i64 x.p) := hcx 2 _ rfl
            have c3 : wr.cell? ⟨b, off + i * 10 + 3, none⟩ = some (.int .i64 x.r) := hcx 3 _ rfl
            have c4 : wr.cell? ⟨b, off + i * 10 + 4, none⟩ = some (.int .i64 x.g) := hcx 4 _ rfl
            have c5 : wr.cell? ⟨b, off + i * 10 + 5, none⟩ = some (.int .i64 x.c) := hcx 5 _ rfl
            have c6 : wr.cell? ⟨b, off + i * 10 + 6, none⟩ = some (.int .i64 x.mn) := hcx 6 _ rfl
            have c7 : wr.cell? ⟨b, off + i * 10 + 7, none⟩ = some (.int .i64 x.mx) := hcx 7 _ rfl
            have c8 : wr.cell? ⟨b, off + i * 10 + 8, none⟩ = some (.int .i64 x.s) := hcx 8 _ rfl
            have c9 : wr.cell? ⟨b, off + i * 10 + 9, none⟩ = some (.int .i64 x.n) := hcx 9 _ rfl
            clear hO hx hc hcx hu hb
            go_wp2_with (go_at_call 15; refine hR.out.mono ?_; rintro e w4 ⟨rfl, hb4⟩)
            have HB4 := Lib.hid (below_step hB.out hb4)
            clear hB hb4 hR c0 c1 c2 c3 c4 c5 c6 c7 c8 c9
            go_roundw
            case rel => exact ⟨i + 1, _, rfl, by go_num, by omega, HB4, HN⟩
            case measure => simp [intOf]; omega
        · obtain rfl : i = n := by omega
          have HE := Lib.hid (show o = (mayA now age && l.all mayW) by rw [hO.out, HL.out.1, List.take_length])
          have t1 : decide (i < i) = false := decide_eq_false hlt
          clear hO hlt

          obtain rfl : o = false := by rw [HE.out]; exact HM.out
          go_wp2
          go_ret
          exact ⟨by first | rfl | (simp; done), HBw.out.trans (hB.out.mono HBw.out.size)⟩
    · have HBw := Lib.hid (below_step HB1.out hb2)
      have HM := Lib.hid hm
      obtain ⟨A', c', rfl, hw', _⟩ := hS.row
      rw [← HL.out.1]
      have HS := Lib.hid (And.intro hS hw')
      clear hP hb2 hm hS hw'
      go_wp2_with fail
      refine (HT.out _).mono ?_
      rintro e w3 ⟨rfl, rfl⟩
      have HB3 := Lib.hid (Below.refl w2.heap.size w2)
      have HO0 : Hid (mayA now age = (mayA now age && (l.take 0).all mayW)) := Lib.hid (by simp)
      clear HT
      go_wp2
      go_loopw [9, 10] (fun vo vi wr => ∃ (i : Nat) (o : Bool), vo = .bool o ∧ vi = .int .i64 (i : Nat) ∧ i ≤ n ∧ Hid (Below w2.heap.size w2 wr) ∧ Hid (o = (mayA now age && (l.take i).all mayW))) (fun _ vi _ => n - (intOf vi).toNat)
      case atStart => exact ⟨0, _, rfl, rfl, by omega, HB3, HO0⟩
      case round =>
        clear HB3 HO0
        obtain ⟨i, o, rfl, rfl, hin, hB, hO⟩ := hrel
        by_cases hlt : i < n
        · obtain ⟨x, hx⟩ := get_lt (l := l) (k := i) (by rw [← HL.out.1]; exact hlt)
          have t1 : decide (i < n) = true := decide_eq_true hlt
          cases o
          · have HN : Hid (false = (mayA now age && (l.take (i + 1)).all mayW)) := Lib.hid (by
              rw [take_next hx, List.all_append, ← Bool.and_assoc, ← hO.out]; rfl)
            clear hO hx
            go_wp2
            go_roundw
            case rel => exact ⟨i + 1, _, rfl, by go_num, by omega, hB, HN⟩
            case measure => simp [intOf]; omega
          · obtain ⟨b, off, rfl, hb, hc⟩ := HL.out.2.at_ hx
            have hcx := (hc i x hx).keep hb (HBw.out.trans (hB.out.mono HBw.out.size))
            have hR := Lib.hid (refright_any x wr)
            have HN : Hid (mayW x = (mayA now age && (l.take (i + 1)).all mayW)) := Lib.hid (by
              rw [take_next hx, List.all_append, ← Bool.and_assoc, ← hO.out]; simp)
            obtain ⟨u, hu⟩ : ∃ u, u = mayW x := ⟨_, rfl⟩
            rw [← hu] at hR HN
            simp only [wtV, wtA] at hR
            have c0 : wr.cell? ⟨b, off + i * 10, none⟩ = some (.int .i64 x.id) := hcx 0 _ rfl
            have c1 : wr.cell? ⟨b, off + i * 10 + 1, none⟩ = some (.int .i64 x.q) := hcx 1 _ rfl
            have c2 : wr.cell? ⟨b, off + i * 10 + 2, none⟩ = some (.int .i64 x.p) := hcx 2 _ rfl
            have c3 : wr.cell? ⟨b, off + i * 10 + 3, none⟩ = some (.int .i64 x.r) := hcx 3 _ rfl
            have c4 : wr.cell? ⟨b, off + i * 10 + 4, none⟩ = some (.int .i64 x.g) := hcx 4 _ rfl
            have c5 : wr.cell? ⟨b, off + i * 10 + 5, none⟩ = some (.int .i64 x.c) := hcx 5 _ rfl
            have c6 : wr.cell? ⟨b, off + i * 10 + 6, none⟩ = some (.int .i64 x.mn) := hcx 6 _ rfl
            have c7 : wr.cell? ⟨b, off + i * 10 + 7, none⟩ = some (.int .i64 x.mx) := hcx 7 _ rfl
            have c8 : wr.cell? ⟨b, off + i * 10 + 8, none⟩ = some (.int .i64 x.s) := hcx 8 _ rfl
            have c9 : wr.cell? ⟨b, off + i * 10 + 9, none⟩ = some (.int .i64 x.n) := hcx 9 _ rfl
            clear hO hx hc hcx hu hb
            go_wp2_with (go_at_call 15; refine hR.out.mono ?_; rintro e w4 ⟨rfl, hb4⟩)
            have HB4 := Lib.hid (below_step hB.out hb4)
            clear hB hb4 hR c0 c1 c2 c3 c4 c5 c6 c7 c8 c9
            go_roundw
            case rel => exact ⟨i + 1, _, rfl, by go_num, by omega, HB4, HN⟩
            case measure => simp [intOf]; omega
        · obtain rfl : i = n := by omega
          have HE := Lib.hid (show o = (mayA now age && l.all mayW) by rw [hO.out, HL.out.1, List.take_length])
          have t1 : decide (i < i) = false := decide_eq_false hlt
          clear hO hlt

          obtain rfl : o = true := by rw [HE.out]; exact HM.out
          have hRS := HRS.out wr (HBw.out.trans (hB.out.mono HBw.out.size)) h60' HM.out
          clear HRS
          go_wp2_with fail
          refine hRS.mono ?_
          rintro e w5 ⟨v5, D5, rfl, hS5, hb5⟩
          obtain ⟨A5, c5, rfl, hw5, _⟩ := hS5.row
          have hSame := refsame_eq A' A5 c' c5 (D.map (eW l)) w5 (HS.out.2.keep (hB.out.trans (hb5.mono hB.out.size)) (Nat.le_trans hB.out.size hb5.size)) (by rw [HS.out.1.same hS5]; exact hw5) (by have := HS.out.1.perm.length_eq; rw [List.length_range] at this; rw [List.length_map, this, ← HL.out.1]; omega)
          rw [List.length_map, show D.length = i by have := HS.out.1.perm.length_eq; rw [List.length_range] at this; rw [this, ← HL.out.1]] at hSame
          rw [← HL.out.1]
          have HB5 := Lib.hid ((HBw.out.trans (hB.out.mono HBw.out.size)).trans (hb5.mono (Nat.le_trans HBw.out.size hB.out.size)))
          clear hRS hS5 hw5 hb5
          go_wp2_with fail
          refine hSame.mono ?_
          rintro e w6 ⟨rfl, hb6⟩
          have HB6 := Lib.hid (below_step HB5.out hb6)
          clear hb6 hSame
          go_wp2
          go_ret
          exact ⟨by first | rfl | (simp; done), HB6.out⟩

set_option maxRecDepth 100000 in
set_option maxHeartbeats 1000000 in
theorem lifted (os : Os) (started : os.Started) (H : Type) (enc : TypeId × Value → H) :
    ReturnsInHanded {} Try.checked os 4 .any (Rows.orderSortsSpec.pre6 enc Try.prog Try.f4 Rows.orderSortsRow.domain false) (Rows.orderSortsSpec.post enc Try.prog Try.f4 false true false false) := by
  refine returnsInHanded_of_change (C := Try.checked) own started (by kernel_rfl) Try.func4
    (ChangeSpec.witness6 (enc := enc) (C := Try.checked) false ⟨#[], #[.slice none 0 0, .int .i64 0, .int .i64 0], []⟩ 8 (by kernel_rfl) (by kernel_rfl) (by kernel_rfl) (by kernel_rfl)) ?_
  intro W base args ds gs before hval0 hW _ _
  have hval : ∀ (j : Nat) t v, Try.f4.params[j]? = some t → args[j]? = some v → Value.okWide Try.prog W .any base t v := hval0
  have hW' := hW
  obtain ⟨p, q, hA0, hV, rfl, hfz, hnd⟩ := hW
  have hA : DataW.TrodAll enc Try.prog W 0 (fun _ => true) true Try.f4.params.toList args.toList ds p := hA0
  rw [Try.params4] at hA hval
  obtain ⟨v0, vs0, d0, ds0, p0, q0, hargs, rfl, rfl, h0, r0⟩ := trodAll_cons hA
  obtain ⟨v1, vs1, d1, ds1, p1, q1, rfl, rfl, rfl, h1, r1⟩ := trodAll_cons r0
  obtain ⟨v2, vs2, d2, ds2, p2, q2, rfl, rfl, rfl, h2, r2⟩ := trodAll_cons r1
  obtain ⟨rfl, rfl, rfl⟩ := trodAll_nil r2
  obtain rfl : args = #[v0, v1, v2] := by cases args; simp_all
  obtain ⟨rfl, rfl⟩ := trodVars_none hV
  have k0 := h0
  have lt0 : ∀ x ∈ p0, x.block < W.heap.size := by obtain ⟨m, hm⟩ := k0; exact DataW.trod_lt m _ _ _ hm
  obtain ⟨a0, c0, l0, rfl, lc0, mc0, v0, q0⟩ := wts_of (hval 0 38 v0 rfl rfl) h0
  have k1 := h1
  have lt1 : ∀ x ∈ p1, x.block < W.heap.size := by obtain ⟨m, hm⟩ := k1; exact DataW.trod_lt m _ _ _ hm
  obtain ⟨a1, rfl, _, _, w1⟩ := open_int Try.underlying3 (hval 1 3 v1 rfl rfl) h1
  have k2 := h2
  have lt2 : ∀ x ∈ p2, x.block < W.heap.size := by obtain ⟨m, hm⟩ := k2; exact DataW.trod_lt m _ _ _ hm
  obtain ⟨a2, rfl, _, _, w2⟩ := open_int Try.underlying3 (hval 2 3 v2 rfl rfl) h2
  clear hA0 hval0
  refine (walk a0 c0 l0 a1 a2 W v0 q0 lc0 mc0 w1 w2).mono fun e W' ⟨he, bel⟩ => ?_
  subst he
  exact ⟨_, rfl, _, _, _, [], _, [], hW', trodAll_mk1 (shut_bool Try.underlying4 _), (trodAll_cons_mk (Below.trod laidOut (by kernel_rfl) (of_decide_eq_true (by kernel_rfl)) k0 bel lt0) (trodAll_cons_mk (Below.trod laidOut (by kernel_rfl) (of_decide_eq_true (by kernel_rfl)) k1 bel lt1) (trodAll_cons_mk (Below.trod laidOut (by kernel_rfl) (of_decide_eq_true (by kernel_rfl)) k2 bel lt2) trodAll_mk0))), rfl, bel.frame _, fun h => by cases h⟩

/-- THE STATEMENT. -/
theorem holds : Rows.OrderSortsSaid :=
  OpenClaim.holds_of_wide 4 Try.f4 rfl rfl rfl rfl rfl rfl rfl ⟨rfl, rfl, rfl, rfl, rfl⟩ rfl rfl rfl rfl rfl (by kernel_rfl) Try.func4 (by kernel_rfl)
    (of_decide_eq_true (by kernel_rfl)) (by unfold Func.isWrapper; first | (rw [if_pos (by decide +kernel)]; kernel_rfl) | (rw [if_neg (by decide +kernel)]; exact ⟨rfl, rfl⟩))
    (fun os started H enc _ => lifted os started H enc)
end Go.Proofs.Ytbknkfpgejkmoaa.orderSorts
