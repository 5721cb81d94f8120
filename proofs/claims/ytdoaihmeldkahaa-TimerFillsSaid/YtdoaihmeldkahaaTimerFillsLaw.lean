/- As many entries as may be are taken, one more is refused, but one of an id that is there; they are due in order: the law TimerFills answers true, at every input. -/
import Derived.Test.YtdoaihmeldkahaaFrame
import Derived.Test.YtdoaihmeldkahaaTimerIn
set_option linter.unusedVariables false
namespace Go.Proofs.Ytdoaihmeldkahaa.timerFills
open Go Go.ChangeShapes Go.WideShapes Go.ChangeAt Go.RowKit
/-- Entries that were filled in: so many ids from f on, each at its tick. -/
structure Fil (f s : Int) (k : Nat) (L : List En) : Prop where
  len : L.length = k
  all : ∀ x ∈ L, ∃ j : Nat, j < k ∧ x.i = f + j ∧ x.k = ((j : Int) * s).tmod 4096
  has : ∀ j : Nat, j < k → ∃ x ∈ L, x.i = f + j
theorem Fil.fresh {f s : Int} {k : Nat} {L : List En} (h : Fil f s k L) : TM.findL (f + (k : Int)) L = none := TM.findL_none.2 fun x hx => by
  obtain ⟨j, hj, e, _⟩ := h.all x hx
  omega
theorem tick_small (j : Nat) (s : Int) (h0 : 0 ≤ s) : 0 ≤ ((j : Int) * s).tmod 4096 ∧ ((j : Int) * s).tmod 4096 < 4096 := by
  have : 0 ≤ (j : Int) * s := Int.mul_nonneg (by omega) h0
  exact ⟨Int.tmod_nonneg _ this, Int.tmod_lt_of_pos _ (by decide)⟩
theorem mul_wrap (k s : Nat) (h : k * s ≤ 500000) : wrap64 ((k : Int) * (s : Int)) = (k : Int) * (s : Int) := by
  have e : (k : Int) * (s : Int) = ((k * s : Nat) : Int) := (Int.natCast_mul _ _).symm
  rw [e]
  exact IntWalk.wrap64_in _ (by omega)
theorem Fil.next {f s : Int} {k : Nat} {L : List En} (h : Fil f s k L) (h0 : 0 ≤ s) (hk : k < 4096) : ∃ M, TM.tSet L (f + k) (((k : Int) * s).tmod 4096) = (0, M) ∧ Fil f s (k + 1) M := by
  obtain ⟨h1, h2⟩ := tick_small k s h0
  refine ⟨TM.insL ⟨((k : Int) * s).tmod 4096, f + k⟩ L, ?_, ?_, ?_, ?_⟩
  · unfold TM.tSet
    rw [if_neg (by omega), if_neg (by rw [h.len]; omega), TM.remL_none h.fresh]
  · rw [TM.insL_len, h.len]
  · intro x hx
    rcases TM.mem_insL.1 hx with rfl | hx
    · exact ⟨k, by omega, rfl, rfl⟩
    · obtain ⟨j, hj, e1, e2⟩ := h.all x hx
      exact ⟨j, by omega, e1, e2⟩
  · intro j hj
    by_cases e : j = k
    · subst e; exact ⟨_, TM.mem_insL.2 (.inl rfl), rfl⟩
    · obtain ⟨x, hx, e1⟩ := h.has j (by omega)
      exact ⟨x, TM.mem_insL.2 (.inr hx), e1⟩
theorem ins_last {x : En} : ∀ {l : List En}, (∀ y ∈ l, TM.ltB y x = true) → TM.insL x l = l ++ [x]
  | [], _ => rfl
  | y :: l, h => by
    unfold TM.insL
    rw [if_pos (h y (List.mem_cons_self ..)), ins_last fun z hz => h z (List.mem_cons_of_mem _ hz)]
    rfl
/-- What is due in the end. -/
theorem Fil.last {f s : Int} {L : List En} (h : Fil f s 4096 L) (h0 : 0 ≤ s) (hT : TM.TS L) : TM.tSet L (f - 1) 0 = (2, L) ∧ ∃ M, TM.tSet L f 5000 = (0, M ++ [⟨5000, f⟩]) ∧ M.length = 4095 ∧ TM.dueL 4096 (M ++ [⟨5000, f⟩]) = M.map (·.i) ∧ TM.restL 4096 (M ++ [⟨5000, f⟩]) = [⟨5000, f⟩] ∧
    (M.Pairwise fun a b => TM.ltB a b = true) ∧ ∀ x ∈ M, ∃ j : Nat, j < 4096 ∧ x.i = f + j ∧ x.k = ((j : Int) * s).tmod 4096 := by
  have hk : ∀ x ∈ L, x.k < 4096 := fun x hx => by
    obtain ⟨j, hj, e1, e2⟩ := h.all x hx
    have := tick_small j s h0
    omega
  refine ⟨?_, TM.remL f L, ?_⟩
  · have e : TM.findL (f - 1) L = none := TM.findL_none.2 fun x hx => by
      obtain ⟨j, hj, e, _⟩ := h.all x hx
      omega
    unfold TM.tSet
    rw [if_neg (by omega), if_pos ⟨e, by rw [h.len]; omega⟩]
  · obtain ⟨x0, hx0, e0⟩ := h.has 0 (by omega)
    have e1 : TM.findL f L = some x0 := by
      have := TM.findL_mem hT.ids hx0
      rw [e0] at this
      simpa using this
    have hsub : ∀ x ∈ TM.remL f L, x ∈ L := fun x hx => (TM.remL_sub f L).subset hx
    have hw : ∀ x ∈ TM.remL f L, decide (x.k ≤ 4096) = true := fun x hx => decide_eq_true (by have := hk x (hsub x hx); omega)
    have hrl := TM.rem_len e1
    refine ⟨?_, by rw [h.len] at hrl; omega, ?_, ?_, hT.asc.sublist (TM.remL_sub f L), fun x hx => h.all x (hsub x hx)⟩
    · unfold TM.tSet
      rw [if_neg (by omega), if_neg (by rw [e1]; simp), ins_last fun y hy => TM.ltB_iff.2 (.inl (by have := hk y (hsub y hy); show y.k < 5000; omega))]
    · unfold TM.dueL
      rw [List.takeWhile_append_of_pos hw]
      simp
    · unfold TM.restL
      rw [List.dropWhile_append_of_pos hw]
      simp
set_option maxRecDepth 100000 in
set_option maxHeartbeats 4000000 in
theorem walk (f : Int) (b : Int) (w : World) (wf : (Lit.int .i16 f).wf = true) (wb : (Lit.int .u8 b).wf = true) :
    Calls Try.prog 4 #[.int .i16 f, .int .u8 b] w fun e w' => e = .returned (.bool true) ∧ Below w.heap.size w w' := by
  have hA := Lib.hid (fun W => awake_t W)
  have hNew := Lib.hid (fun W => new_t W)
  obtain ⟨hf0, hf1⟩ := bounds_i16 wf
  obtain ⟨hb0, hb1⟩ := bounds_u8 wb
  obtain ⟨s, hs⟩ : ∃ s : Nat, (s : Int) = 2 * (b % 50) + 1 := ⟨(2 * (b % 50) + 1).toNat, by omega⟩
  have hs1 : s ≤ 99 := by omega
  have Hs := Lib.hid hs
  clear hs
  go_enter Try.func4, Try.ntmps4
  go_wp2_with fail
  refine (hA.out _).mono ?_
  rintro e w2 ⟨rfl, hb2⟩
  go_wp2_with fail
  refine (hNew.out _).mono ?_
  rintro e w3 ⟨p, F3, rfl, h3, hb3, hy3⟩
  have T3 := Lib.hid (TIn.made hb2 h3 hb3 hy3)
  clear hb2 h3 hb3 hy3
  go_wp2_with fail
  rw [← Hs.out]
  clear Hs
  go_loopw [7] (fun i wr => ∃ k : Nat, i = .int .i64 k ∧ k ≤ 4096 ∧ Hid (∃ F L, TIn w wr p F L ∧ Fil f s k L)) (fun i _ => 4096 - (intOf i).toNat)
  case atStart => exact ⟨0, rfl, by omega, Lib.hid ⟨F3, [], T3.out, rfl, (fun x hx => by cases hx), fun j hj => by omega⟩⟩
  case round =>
    clear T3
    obtain ⟨k, rfl, hk, hin⟩ := hrel
    obtain ⟨F, L, hT, hL⟩ := hin.out
    by_cases hlt : k < 4096
    · have t2 : decide (k < 4096) = true := decide_eq_true hlt
      obtain ⟨M, hM, hM2⟩ := hL.next (by omega) hlt
      have HS := Lib.hid (set_t p F L (f + k) (((k : Int) * s).tmod 4096) wr hT.at_ (Go.WalkArith.wf_i64 ⟨by omega, by omega⟩))
      rw [hM] at HS
      have HT := Lib.hid (And.intro hT hM2)
      have hsm := tick_small k s (by omega)
      have hw := mul_wrap k s (Nat.le_trans (Nat.mul_le_mul (show k ≤ 4096 by omega) hs1) (by decide))
      have Hw := Lib.hid hw
      clear hT hL hin hM hM2 hsm hw
      go_wp2_with fail
      rw [Hw.out]
      refine HS.out.mono ?_
      rintro e w5 ⟨rfl, F5, h5, hf5, hy5⟩
      have HT5 := Lib.hid (HT.out.1.foot h5 hf5 hy5)
      clear h5 hf5 hy5
      go_wp2_with fail
      go_roundw
      case rel => exact ⟨k + 1, by go_num, by omega, Lib.hid ⟨F5, M, HT5.out, HT.out.2⟩⟩
      case measure => simp [intOf]; omega
    · obtain rfl : k = 4096 := by omega
      obtain ⟨e1, M, e2, e3, e4, e5, hAs, hAl⟩ := hL.last (by omega) hT.at_.ok
      have hfw : (Lit.int .i64 f).wf = true := Go.WalkArith.wf_i64 ⟨by omega, by omega⟩
      have HS1 := set_t p F L (f - 1) 0 wr hT.at_ (Go.WalkArith.wf_i64 ⟨by omega, by omega⟩)
      rw [e1] at HS1
      have HS1 := Lib.hid HS1
      have HS2 := fun G W h => set_t p G L f 5000 W h hfw
      rw [e2] at HS2
      have HS2 := Lib.hid HS2
      have HT := Lib.hid hT
      have HM := Lib.hid (And.intro e3 (And.intro e4 (And.intro e5 (And.intro hAs hAl))))
      clear hT hL hin e1 e2 e3 e4 e5 hAs hAl hlt
      go_wp2_with fail
      refine HS1.out.mono ?_
      rintro e w5 ⟨rfl, F5, h5, hf5, hy5⟩
      have HT5 := Lib.hid (HT.out.foot h5 hf5 hy5)
      clear h5 hf5 hy5
      go_wp2_with fail
      refine (HS2.out F5 w5 HT5.out.at_).mono ?_
      rintro e w6 ⟨rfl, F6, h6, hf6, hy6⟩
      have HT6 := Lib.hid (HT5.out.foot h6 hf6 hy6)
      have HL6 := len_t p F6 _ w6 h6
      rw [List.length_append, HM.out.1] at HL6
      have HL6 := Lib.hid HL6
      clear h6 hf6 hy6
      go_wp2_with fail
      refine HL6.out.mono ?_
      rintro e w7 ⟨rfl, rfl⟩
      have HD := due_t p F6 _ 4096 w6 HT6.out.at_
      have HD := Lib.hid HD
      go_wp2_with fail
      refine HD.out.mono ?_
      rintro e w7 hq
      unfold DueQ at hq
      rw [HM.out.2.1, HM.out.2.2.1] at hq
      obtain ⟨v7, F7, rfl, hown7, h7, hf7, hy7, _⟩ := hq
      obtain ⟨A7, c7, rfl, hu7, _⟩ := nums_own hown7 rfl
      have HT7 := Lib.hid (HT6.out.foot h7 hf7 hy7)
      have hlm : (M.map (·.i)).length = 4095 := by rw [List.length_map]; exact HM.out.1
      rw [hlm]
      have HU7 := Lib.hid hu7
      clear hown7 h7 hf7 hy7 hu7 hlm
      go_wp2_with fail
      go_loopw [9] (fun i wr => ∃ kp : Nat, i = .int .i64 ((kp : Int) + 1) ∧ kp + 1 ≤ 4095 ∧ Below w7.heap.size w7 wr) (fun i _ => 4095 - (intOf i).toNat)
      case atStart => exact ⟨0, rfl, by omega, Below.refl _ _⟩
      case round =>
        obtain ⟨kp, rfl, hkp, hBl⟩ := hrel
        by_cases hlt : kp + 1 < 4095
        · obtain ⟨x, hx⟩ := get_lt (l := M) (k := kp + 1) (by rw [HM.out.1]; exact hlt)
          obtain ⟨y, hy⟩ := get_lt (l := M) (k := kp) (by rw [HM.out.1]; omega)
          obtain ⟨jx, hjx, ex1, ex2⟩ := HM.out.2.2.2.2 x (List.mem_of_getElem? hx)
          obtain ⟨jy, hjy, ey1, ey2⟩ := HM.out.2.2.2.2 y (List.mem_of_getElem? hy)
          have hxm : (M.map (·.i))[kp + 1]? = some (f + jx) := by rw [List.getElem?_map, hx, ← ex1]; rfl
          have hym : (M.map (·.i))[kp]? = some (f + jy) := by rw [List.getElem?_map, hy, ← ey1]; rfl
          obtain ⟨bb, off, rfl, hb, hc⟩ := HU7.out.at_ hxm
          have hcx := (hc _ _ hxm).keep hb hBl
          have hcy := (hc _ _ hym).keep hb hBl
          obtain ⟨ax, hax⟩ : ∃ ax, ax = f + (jx : Int) := ⟨_, rfl⟩
          obtain ⟨ay, hay⟩ : ∃ ay, ay = f + (jy : Int) := ⟨_, rfl⟩
          rw [← hax] at hcx
          rw [← hay] at hcy
          have z0 : wr.cell? ⟨bb, off + (kp + 1), none⟩ = some (.int .i64 ax) := by have := hcx 0 _ rfl; simpa using this
          have z1 : wr.cell? ⟨bb, off + kp, none⟩ = some (.int .i64 ay) := by have := hcy 0 _ rfl; simpa using this
          have eax : ax - f = (jx : Int) := by omega
          have eay : ay - f = (jy : Int) := by omega
          have hax1 : -40000 ≤ ax ∧ ax ≤ 40000 := by omega
          have hay1 : -40000 ≤ ay ∧ ay ≤ 40000 := by omega
          obtain ⟨hax2, hax3⟩ := hax1
          obtain ⟨hay2, hay3⟩ := hay1
          have tL : decide ((wrap64 ((jx : Int) * (s : Int))).tmod 4096 < (wrap64 ((jy : Int) * (s : Int))).tmod 4096) = false := by
            rw [mul_wrap jx s (Nat.le_trans (Nat.mul_le_mul (show jx ≤ 4096 by omega) hs1) (by decide)), mul_wrap jy s (Nat.le_trans (Nat.mul_le_mul (show jy ≤ 4096 by omega) hs1) (by decide)), ← ex2, ← ey2]
            obtain ⟨hx1, hx2⟩ := List.getElem?_eq_some_iff.1 hx
            obtain ⟨hy1, hy2⟩ := List.getElem?_eq_some_iff.1 hy
            have h := List.pairwise_iff_getElem.1 HM.out.2.2.2.1 kp (kp + 1) hy1 hx1 (by omega)
            rw [hx2, hy2, TM.ltB_iff] at h
            exact decide_eq_false (by omega)
          have t5 : decide (kp + 1 < 4095) = true := decide_eq_true hlt
          have HB := Lib.hid hBl
          clear hcx hcy hc hxm hym hax hay hx hy ex1 ex2 ey1 ey2 hBl
          go_wp2
          go_quiet (fail)
          go_wp2
          go_roundw
          case rel => exact ⟨kp + 1, by go_num, by omega, below_drewN HB.out _⟩
          case measure => simp [intOf]; omega
        · obtain rfl : kp = 4094 := by omega
          have HT8 := Lib.hid (HT7.out.keep hBl)
          have HL8 := Lib.hid (len_t p F7 _ wr HT8.out.at_)
          clear hBl hlt
          go_wp2_with fail
          refine HL8.out.mono ?_
          rintro e w9 ⟨rfl, rfl⟩
          go_wp2_with fail
          go_ret
          exact ⟨by simp, HT8.out.bel⟩

set_option maxRecDepth 100000 in
set_option maxHeartbeats 1000000 in
theorem lifted (os : Os) (started : os.Started) (H : Type) (enc : TypeId × Value → H) :
    ReturnsInHanded {} Try.checked os 4 .any (Rows.timerFillsSpec.pre6 enc Try.prog Try.f4 Rows.timerFillsRow.domain false) (Rows.timerFillsSpec.post enc Try.prog Try.f4 false true false false) := by
  refine returnsInHanded_of_change (C := Try.checked) own started (by kernel_rfl) Try.func4
    (ChangeSpec.witness6 (enc := enc) (C := Try.checked) false ⟨#[], #[.int .i16 0, .int .u8 0], []⟩ 8 (by kernel_rfl) (by kernel_rfl) (by kernel_rfl) (by kernel_rfl)) ?_
  intro W base args ds gs before hval0 hW _ _
  have hval : ∀ (j : Nat) t v, Try.f4.params[j]? = some t → args[j]? = some v → Value.okWide Try.prog W .any base t v := hval0
  have hW' := hW
  obtain ⟨p, q, hA0, hV, rfl, hfz, hnd⟩ := hW
  have hA : DataW.TrodAll enc Try.prog W 0 (fun _ => true) true Try.f4.params.toList args.toList ds p := hA0
  rw [Try.params4] at hA hval
  obtain ⟨v0, vs0, d0, ds0, p0, q0, hargs, rfl, rfl, h0, r0⟩ := trodAll_cons hA
  obtain ⟨v1, vs1, d1, ds1, p1, q1, rfl, rfl, rfl, h1, r1⟩ := trodAll_cons r0
  obtain ⟨rfl, rfl, rfl⟩ := trodAll_nil r1
  obtain rfl : args = #[v0, v1] := by cases args; simp_all
  obtain ⟨rfl, rfl⟩ := trodVars_none hV
  have k0 := h0
  have lt0 : ∀ x ∈ p0, x.block < W.heap.size := by obtain ⟨m, hm⟩ := k0; exact DataW.trod_lt m _ _ _ hm
  obtain ⟨a0, rfl, _, _, w0⟩ := open_int Try.underlying50 (hval 0 50 v0 rfl rfl) h0
  have k1 := h1
  have lt1 : ∀ x ∈ p1, x.block < W.heap.size := by obtain ⟨m, hm⟩ := k1; exact DataW.trod_lt m _ _ _ hm
  obtain ⟨a1, rfl, _, _, w1⟩ := open_int Try.underlying5 (hval 1 5 v1 rfl rfl) h1
  clear hA0 hval0
  refine (walk a0 a1 W w0 w1).mono fun e W' ⟨he, bel⟩ => ?_
  subst he
  exact ⟨_, rfl, _, _, _, [], _, [], hW', trodAll_mk1 (shut_bool Try.underlying4 _), (trodAll_cons_mk (Below.trod laidOut (by kernel_rfl) (of_decide_eq_true (by kernel_rfl)) k0 bel lt0) (trodAll_cons_mk (Below.trod laidOut (by kernel_rfl) (of_decide_eq_true (by kernel_rfl)) k1 bel lt1) trodAll_mk0)), rfl, bel.frame _, fun h => by cases h⟩

/-- THE STATEMENT. -/
theorem holds : Rows.TimerFillsSaid :=
  OpenClaim.holds_of_wide 4 Try.f4 rfl rfl rfl rfl rfl rfl rfl ⟨rfl, rfl, rfl, rfl, rfl⟩ rfl rfl rfl rfl rfl (by kernel_rfl) Try.func4 (by kernel_rfl)
    (of_decide_eq_true (by kernel_rfl)) (by unfold Func.isWrapper; first | (rw [if_pos (by decide +kernel)]; kernel_rfl) | (rw [if_neg (by decide +kernel)]; exact ⟨rfl, rfl⟩))
    (fun os started H enc _ => lifted os started H enc)
end Go.Proofs.Ytdoaihmeldkahaa.timerFills
