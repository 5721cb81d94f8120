/- Whatever mask: the lowest unit, taken off again and again, tells all units, rising: the law MaskSteps answers true, at every input. The library's table of lowest units is as the program's text lays it (tied). -/
import Derived.Deep.QuietTactic
import Derived.BigQuiet
import Derived.Test.YtldameiggeibnaaDoorMaskAwake
import Derived.SevenTiedAt
import Derived.Test.YtldameiggeibnaaDoorTie
import Derived.Test.YtldameiggeibnaaDoorCards
namespace Go.Proofs.YtldameiggeibnaaDoor.maskSteps
open Go Go.ChangeShapes Go.WideShapes Go.ChangeAt Go.RowKit
/-- One step. -/
theorem step {r : Nat} (h0 : r ≠ 0) (hr : r < 18446744073709551616) : MM.units (MM.low r 1) = [Lib.ctz 64 r] ∧ MM.units (MM.sub r (MM.low r 1)) = (MM.units r).drop 1 ∧ 1 ≤ MM.cnt r := by
  refine ⟨?_, MM.units_rest r 1, ?_⟩
  · rw [MM.units_low, MM.units_step h0 hr]; rfl
  · unfold MM.cnt; rw [MM.units_step h0 hr]; simp
theorem at_drop {l m : List Nat} {j t : Nat} (h : l.drop j = t :: m) : l[j]?.getD 0 = t := by
  have := congrArg (·[0]?) h
  simp [List.getElem?_drop] at this
  simp [this]
set_option maxRecDepth 100000 in
set_option maxHeartbeats 2000000 in
theorem walk (a0 : Int) (w : World) (w0 : (Lit.int .u64 a0).wf = true) (hT : Tab w) :
    Calls Tryd.prog 9 #[.int .u64 a0] w fun e w' => e = .returned (.bool true) ∧ Below w.heap.size w w' := by
  obtain ⟨l0, g0⟩ := bounds_u64 w0
  clear w0
  obtain ⟨x, rfl⟩ : ∃ x : Nat, a0 = x := ⟨a0.toNat, by omega⟩
  have hx : x < 18446744073709551616 := by omega
  clear l0 g0
  have hA := Lib.hid (awake_t w hT)
  have hU := Lib.hid (units_t x hx)
  have hc := MM.cnt_le x
  clear hT
  go_enter Tryd.func9, Tryd.ntmps9
  go_wp2_with (first
    | (go_at_call 10; refine hA.out.mono ?_; rintro e w1 ⟨rfl, hs1, hT1⟩)
    | (go_at_call 20; refine (hU.out _ (by assumption)).mono ?_; rintro e w2 ⟨a, cap, rfl, hrow, hs2, hT2⟩; have HR := Lib.hid hrow; clear hrow))
  go_loopw [4, 5] (fun rest i wr => ∃ r j : Nat, rest = .int .u64 r ∧ i = .int .i64 j ∧ j ≤ MM.cnt x ∧ r < 18446744073709551616 ∧ MM.units r = (MM.units x).drop j ∧ Row wr a (MM.units x) ∧ Stays w wr ∧ Tab wr) (fun _ i _ => MM.cnt x - (intOf i).toNat)
  case atStart => exact ⟨x, 0, rfl, rfl, Nat.zero_le _, hx, rfl, HR.out, hs1.trans hs2, hT2⟩
  case round =>
    obtain ⟨r, j, rfl, rfl, hj, hr, hun, hrw, hsr, hTr⟩ := hrel
    by_cases hlt : j < MM.cnt x
    · have hr0 : r ≠ 0 := by
        intro h
        rw [h, MM.units_zero] at hun
        have := congrArg List.length hun
        rw [List.length_drop] at this
        simp at this
        unfold MM.cnt at hlt
        omega
      obtain ⟨s1, s2, s3⟩ := step hr0 hr
      have hat : (MM.units x)[j]?.getD 0 = Lib.ctz 64 r := by
        rw [MM.units_step hr0 hr] at hun
        exact at_drop hun.symm
      have hnx : MM.units (MM.sub r (MM.low r 1)) = (MM.units x).drop (j + 1) := by rw [s2, hun, List.drop_drop]
      have hpl := MM.low_lt r 1
      have C1 := lowest_t r hr 1 s3
      have C2 := units_t _ hpl
      have hc1 : MM.cnt (MM.low r 1) = 1 := MM.cnt_low s3
      rw [s1, hc1] at C2
      have nn := not_u64 r _ hr hpl
      have hsl := MM.sub_lt (MM.low r 1) hr
      generalize MM.sub r (MM.low r 1) = r' at *
      generalize MM.low r 1 = p at *
      generalize Lib.ctz 64 r = t at *
      have hcell : ∃ g, a = some ⟨g, 0, none⟩ ∧ g < wr.heap.size ∧ wr.cell? ⟨g, j, none⟩ = some (.int .i64 (t : Int)) := by
        rcases hrw with h | ⟨g, ha, hg, hcc⟩
        · exfalso; unfold MM.cnt at hlt; rw [h] at hlt; simp at hlt
        · refine ⟨g, ha, hg, ?_⟩
          have := hcc j hlt
          rwa [hat] at this
      obtain ⟨g, rfl, hg, hcl⟩ := hcell
      have D1 := Lib.hid C1
      have D2 := Lib.hid C2
      have HN := Lib.hid hnx
      have HX := Lib.hid hrw
      clear C1 C2 hnx hrw hun s1 s2 s3 hat hc1 hr0
      go_wp2_with (first
        | (go_at_call 11; refine (D1.out _ (by assumption)).mono ?_; rintro e w3 ⟨rfl, hs3, hT3⟩)
        | (go_at_call 20; refine (D2.out _ (by assumption)).mono ?_; rintro e w4 ⟨a4, cap4, rfl, hrow4, hs4, hT4⟩))
      have hg3 : g < w3.heap.size := Nat.lt_of_lt_of_le hg hs3.below.size
      have hcl4 : w4.cell? ⟨g, j, none⟩ = some (.int .i64 (t : Int)) := ((hs4.below.cell (p := ⟨g, j, none⟩) hg3).trans ((hs3.below.cell (p := ⟨g, j, none⟩) hg).trans hcl))
      have hu4 : ∃ g4, a4 = some ⟨g4, 0, none⟩ ∧ w4.cell? ⟨g4, 0, none⟩ = some (.int .i64 (t : Int)) := by
        rcases hrow4 with h | ⟨g4, ha, _, hcc⟩
        · cases h
        · exact ⟨g4, ha, hcc 0 (by simp)⟩
      obtain ⟨g4, rfl, hc4⟩ := hu4
      have ST := Lib.hid ((hsr.trans hs3).trans hs4)
      have RX := Lib.hid ((HX.out.stays hs3).stays hs4)
      have t0 : (0 : Int) < 1 := by decide
      clear hcl hg hg3 hrow4 hs3 hs4 hsr hTr hT3
      go_quiet (fail)
      go_wp2
      refine ⟨⟨r', j + 1, rfl, by go_num, by omega, hsl, HN.out, RX.out, ⟨Below.drewN ST.out.below nq, hT4⟩, hT4⟩, by simp [intOf]; omega⟩
    · have hj' : j = MM.cnt x := by omega
      have hr0 : r = 0 := by
        rw [hj'] at hun
        unfold MM.cnt at hun
        rw [List.drop_length] at hun
        exact MM.units_inj hr (by decide) (hun.trans MM.units_zero.symm)
      subst hr0
      have HS := Lib.hid hsr
      clear hun hrw hj' hsr
      go_wp2_with (go_at_call 17; refine (count_any _ (by assumption) _).mono ?_; rintro e w' ⟨rfl, rfl⟩)
      go_ret
      exact ⟨rfl, HS.out.below⟩

set_option maxRecDepth 100000 in
theorem lifted (os : Os) (started : os.Started) (H : Type) (enc : TypeId × Value → H) :
    ReturnsInHanded {} Tryd.checked os 9 .any (fun w args => (Rows.maskStepsSpec.pre enc Tryd.prog Tryd.f9 [] false w args ∧ laidMetH Tryd.prog laid1 w) ∧ sizedMet enc Tryd.prog Tryd.f9 (OpenSpec.ofChange Rows.maskStepsSpec) false w args)
      (Rows.maskStepsSpec.post enc Tryd.prog Tryd.f9 false true false false) := by
  refine returnsInHanded_of_change_and (C := Tryd.checked) (X := fun w _ => laidMetH Tryd.prog laid1 w) (fun _ _ _ hh h => h.of_heap hh) own started (by kernel_rfl) Tryd.func9
    (ChangeSpec.witness_shaped (enc := enc) (C := Tryd.checked) (os := os) (X := fun w _ => laidMetH Tryd.prog laid1 w) false (World.doorLaid Tryd.prog 400 os) #[.int .u64 0] 8 rfl (World.shaped_of_RefB (by kernel_rfl) (by kernel_rfl)) (by kernel_rfl) (by kernel_rfl) (by kernel_rfl) (door_met os _)) ?_
  intro W base args ds gs before hval0 hW _ _ hL _
  have hval : ∀ (j : Nat) t v, Tryd.f9.params[j]? = some t → args[j]? = some v → Value.okWide Tryd.prog W .any base t v := hval0
  have hW' := hW
  obtain ⟨p, q, hA0, hV, rfl, hfz, hnd⟩ := hW
  have hA : DataW.TrodAll enc Tryd.prog W 0 (fun _ => true) true Tryd.f9.params.toList args.toList ds p := hA0
  rw [Tryd.params9] at hA hval
  obtain ⟨v0, vs0, d0, ds0, p0, q0, hargs, rfl, rfl, h0, r0⟩ := trodAll_cons hA
  obtain ⟨rfl, rfl, rfl⟩ := trodAll_nil r0
  obtain rfl : args = #[v0] := by cases args; simp_all
  obtain ⟨rfl, rfl⟩ := trodVars_none hV
  obtain ⟨a0, rfl, rfl, rfl, w0⟩ := open_int Tryd.underlying22 (hval 0 22 v0 rfl rfl) h0
  have hT := of_laid hL
  clear hA0 hval0 hL
  refine (walk a0 W w0 hT).mono fun e W' ⟨he, bel⟩ => ?_
  subst he
  exact ⟨_, rfl, _, _, _, [], _, [], hW', trodAll_mk1 (shut_bool Tryd.underlying4 _), (trodAll_cons_mk (shut_int Tryd.underlying22 w0) trodAll_mk0), rfl, bel.frame _, fun h => by cases h⟩

theorem row_holds : Rows.MaskStepsSaid :=
  OpenClaim.holds_of_wide 9 Tryd.f9 rfl rfl rfl rfl rfl rfl rfl ⟨rfl, rfl, rfl, rfl, rfl⟩ rfl rfl rfl rfl rfl (by kernel_rfl) Tryd.func9 (by kernel_rfl)
    (of_decide_eq_true (by kernel_rfl)) (by unfold Func.isWrapper; first | (rw [if_pos (by decide +kernel)]; kernel_rfl) | (rw [if_neg (by decide +kernel)]; exact ⟨rfl, rfl⟩))
    (fun os started H enc _ => lifted os started H enc)

/-- THE STATEMENT. -/
theorem card_holds : Rows.MaskStepsCardSaid :=
  Claim7.holds_tied_plain_at .later [] [.data] true (true, Rows.maskStepsCard.stood.harness.2) false
    row_holds (fun _ h => by cases h) (by kernel_rfl) (fun _ h => by cases h) maskSteps_row_tie rfl ⟨rfl, rfl⟩ (by kernel_rfl) rfl
    (fun f fn hf hfn => by
      obtain rfl : f = 9 := Option.some.inj ((show Tryd.prog.funcNamed Rows.maskStepsRow.func = some 9 by kernel_rfl).symm.trans hf) |>.symm
      obtain rfl : fn = Tryd.f9 := (Option.some.inj (Tryd.func9.symm.trans hfn)).symm
      exact ⟨by kernel_rfl, fun j t ht => by
        rw [Tryd.params9] at ht
        have hm : t ∈ [22] := by simpa using Array.mem_of_getElem? ht
        have hall : ([22].all fun u => !Tryd.prog.wantsStandIn u) = true := by kernel_rfl
        exact (show Tryd.prog.wantsStandIn t = false by simpa using List.all_eq_true.1 hall t hm)⟩)
    (by kernel_rfl)

end Go.Proofs.YtldameiggeibnaaDoor.maskSteps
