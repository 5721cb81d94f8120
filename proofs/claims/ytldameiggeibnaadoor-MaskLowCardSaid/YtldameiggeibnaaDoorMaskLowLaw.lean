/- Whatever mask and whatever count: the lowest units are of the mask, as many as asked, and below all others of it; all of them are the mask: the law MaskLow answers true, at every input. The library's table of lowest units is as the program's text lays it (tied). -/
import Derived.Test.YtldameiggeibnaaDoorMaskAwake
import Derived.SevenTiedAt
import Derived.Test.YtldameiggeibnaaDoorTie
import Derived.Test.YtldameiggeibnaaDoorCards
namespace Go.Proofs.YtldameiggeibnaaDoor.maskLow
open Go Go.ChangeShapes Go.WideShapes Go.ChangeAt Go.RowKit
/-- What a mask's lowest units are not lies above them. -/
theorem low_sub (x k : Nat) : MM.sub (MM.low x k) x = 0 := by
  apply Nat.eq_of_testBit_eq
  intro i
  rw [MM.testBit_sub, Nat.zero_testBit]
  unfold MM.low
  rw [MM.testBit_ofu]
  by_cases h : i ∈ (MM.units x).take k
  · have := (MM.units_mem.1 (List.mem_of_mem_take h)).2
    simp [this]
  · simp [h]
theorem lowest_gt (x k r : Nat) (hx : x < 18446744073709551616) (hr : r = MM.sub x (MM.low x k)) (h0 : r ≠ 0) : MM.low x k < r &&& (18446744073709551616 - r) := by
  have hrl : r < 18446744073709551616 := by rw [hr]; exact MM.sub_lt _ hx
  obtain ⟨hl, hk⟩ := Lib.lowest_bit 64 r h0 hrl
  have hl' : r &&& (18446744073709551616 - r) = 2 ^ Lib.ctz 64 r := hl
  rw [hl']
  have hmem : Lib.ctz 64 r ∈ MM.units r := by rw [MM.units_step h0 hrl]; simp
  have hb := (MM.units_mem.1 hmem).2
  rw [hr, MM.testBit_sub] at hb
  rw [← hr] at hb
  simp at hb
  obtain ⟨hb1, hb2⟩ := hb
  have hin : Lib.ctz 64 r ∈ MM.units x := MM.units_mem.2 ⟨hk, hb1⟩
  apply Nat.lt_pow_two_of_testBit
  intro i hi
  unfold MM.low at hb2 ⊢
  rw [MM.testBit_ofu] at hb2 ⊢
  simp only [decide_eq_false_iff_not] at hb2 ⊢
  intro hc
  apply hb2
  -- what is below a unit that is taken is taken
  have hs := MM.units_sorted x
  rw [← List.take_append_drop k (MM.units x)] at hs hin
  rcases List.mem_append.1 hin with h | h
  · exact h
  · have := (List.pairwise_append.1 hs).2.2 i hc _ h
    omega
set_option maxRecDepth 100000 in
set_option maxHeartbeats 1000000 in
theorem walk (a0 : Int) (a1 : Int) (w : World) (w0 : (Lit.int .u64 a0).wf = true) (w1 : (Lit.int .u8 a1).wf = true) (hT : Tab w) :
    Calls Tryd.prog 5 #[.int .u64 a0, .int .u8 a1] w fun e w' => e = .returned (.bool true) ∧ Below w.heap.size w w' := by
  obtain ⟨l0, g0⟩ := bounds_u64 w0
  obtain ⟨l1, g1⟩ := bounds_u8 w1
  clear w0 w1
  obtain ⟨x, rfl⟩ : ∃ x : Nat, a0 = x := ⟨a0.toNat, by omega⟩
  obtain ⟨q, rfl⟩ : ∃ q : Nat, a1 = q := ⟨a1.toNat, by omega⟩
  have hx : x < 18446744073709551616 := by omega
  have hq : q ≤ 255 := by omega
  clear l0 g0 l1 g1
  obtain ⟨k, hk⟩ : ∃ k, q % 70 = k := ⟨_, rfl⟩
  have hk70 : k < 70 := by omega
  have e1 : (q : Int) % 70 = (k : Int) := by omega
  have hA := Lib.hid (awake_t w hT)
  have hc64 := MM.cnt_le x
  clear hT hk
  by_cases h : MM.cnt x < k
  · have t : decide ((MM.cnt x : Int) < (k : Int)) = true := by simpa using h
    go_enter Tryd.func5, Tryd.ntmps5
    go_wp2_with (first
      | (go_at_call 10; refine hA.out.mono ?_; rintro e w1 ⟨rfl, hs1, hT1⟩)
      | (go_at_call 17; refine (count_any _ (by assumption) _).mono ?_; rintro e w' ⟨rfl, rfl⟩)
      | (go_at_call 11; refine (full_t x hx k h _ (by assumption)).mono ?_; rintro e w2 ⟨rfl, hs2, hT2⟩))
    go_ret
    exact ⟨rfl, (hs1.trans hs2).below⟩
  · have h' : k ≤ MM.cnt x := by omega
    have t : decide (MM.cnt x < k) = false := by simp; omega
    have hlx := MM.low_lt x k
    have n1 := not_u64 x (MM.low x k) hx hlx
    have n2 := not_u64 (MM.low x k) x hlx hx
    rw [low_sub] at n2
    have hcl := MM.cnt_low h'
    have q1 : ((MM.cnt (MM.low x k) : Int) == (k : Int)) = true := by rw [hcl]; simp
    clear hcl h
    have hgt := lowest_gt x k _ hx rfl
    have hrl := MM.sub_lt (MM.low x k) hx
    have hlo := lowest_t x hx k h'
    generalize hp : MM.low x k = p at n1 n2 hgt hrl q1 hlx hlo
    generalize hr : MM.sub x p = r at n1 hgt hrl
    clear hp hr h'
    have HL := Lib.hid hlo
    have HX := Lib.hid (all_t x hx)
    clear hlo
    by_cases hp0 : p = 0
    · have z1 : ((p : Int) == 0) = true := by rw [hp0]; rfl
      clear hp0 hgt
      go_enter Tryd.func5, Tryd.ntmps5
      go_wp2_with (first
        | (go_at_call 10; refine hA.out.mono ?_; rintro e w1 ⟨rfl, hs1, hT1⟩)
        | (go_at_call 17; refine (count_any _ (by assumption) _).mono ?_; rintro e w' ⟨rfl, rfl⟩)
        | (go_at_call 11; with_reducible refine (HL.out _ (by assumption)).mono ?_; rintro e w2 ⟨rfl, hs2, hT2⟩)
        | (go_at_call 11; with_reducible refine (HX.out _ (by assumption)).mono ?_; rintro e w3 ⟨rfl, hs3, hT3⟩))
      go_ret
      exact ⟨rfl, ((hs1.trans hs2).trans hs3).below⟩
    · have z1 : ((p : Int) == 0) = false := by simp; omega
      by_cases hr0 : r = 0
      · have z2 : ((r : Int) == 0) = true := by rw [hr0]; rfl
        clear hr0 hp0 hgt
        go_enter Tryd.func5, Tryd.ntmps5
        go_wp2_with (first
          | (go_at_call 10; refine hA.out.mono ?_; rintro e w1 ⟨rfl, hs1, hT1⟩)
          | (go_at_call 17; refine (count_any _ (by assumption) _).mono ?_; rintro e w' ⟨rfl, rfl⟩)
          | (go_at_call 11; with_reducible refine (HL.out _ (by assumption)).mono ?_; rintro e w2 ⟨rfl, hs2, hT2⟩)
          | (go_at_call 11; with_reducible refine (HX.out _ (by assumption)).mono ?_; rintro e w3 ⟨rfl, hs3, hT3⟩))
        go_ret
        exact ⟨rfl, ((hs1.trans hs2).trans hs3).below⟩
      · have z2 : ((r : Int) == 0) = false := by simp; omega
        have hpv := hgt hr0
        have hneg : bits BinOp.and IntKind.u64 (r : Int) (IntKind.u64.wrap (-(r : Int))) = ((r &&& (18446744073709551616 - r) : Nat) : Int) := by
          rw [show IntKind.u64.wrap (-(r : Int)) = ((18446744073709551616 - r : Nat) : Int) from by rw [IntKind.wrap_u64]; omega]
          exact and_u64 r _ hrl (by omega)
        generalize r &&& (18446744073709551616 - r) = v at hpv hneg
        clear hr0 hp0 hgt
        go_enter Tryd.func5, Tryd.ntmps5
        go_wp2_with (first
          | (go_at_call 10; refine hA.out.mono ?_; rintro e w1 ⟨rfl, hs1, hT1⟩)
          | (go_at_call 17; refine (count_any _ (by assumption) _).mono ?_; rintro e w' ⟨rfl, rfl⟩)
          | (go_at_call 11; with_reducible refine (HL.out _ (by assumption)).mono ?_; rintro e w2 ⟨rfl, hs2, hT2⟩)
          | (go_at_call 11; with_reducible refine (HX.out _ (by assumption)).mono ?_; rintro e w3 ⟨rfl, hs3, hT3⟩))
        go_ret
        exact ⟨rfl, ((hs1.trans hs2).trans hs3).below⟩

set_option maxRecDepth 100000 in
theorem lifted (os : Os) (started : os.Started) (H : Type) (enc : TypeId × Value → H) :
    ReturnsInHanded {} Tryd.checked os 5 .any (fun w args => (Rows.maskLowSpec.pre enc Tryd.prog Tryd.f5 [] false w args ∧ laidMetH Tryd.prog laid1 w) ∧ sizedMet enc Tryd.prog Tryd.f5 (OpenSpec.ofChange Rows.maskLowSpec) false w args)
      (Rows.maskLowSpec.post enc Tryd.prog Tryd.f5 false true false false) := by
  refine returnsInHanded_of_change_and (C := Tryd.checked) (X := fun w _ => laidMetH Tryd.prog laid1 w) (fun _ _ _ hh h => h.of_heap hh) own started (by kernel_rfl) Tryd.func5
    (ChangeSpec.witness_shaped (enc := enc) (C := Tryd.checked) (os := os) (X := fun w _ => laidMetH Tryd.prog laid1 w) false (World.doorLaid Tryd.prog 400 os) #[.int .u64 0, .int .u8 0] 8 rfl (World.shaped_of_RefB (by kernel_rfl) (by kernel_rfl)) (by kernel_rfl) (by kernel_rfl) (by kernel_rfl) (door_met os _)) ?_
  intro W base args ds gs before hval0 hW _ _ hL _
  have hval : ∀ (j : Nat) t v, Tryd.f5.params[j]? = some t → args[j]? = some v → Value.okWide Tryd.prog W .any base t v := hval0
  have hW' := hW
  obtain ⟨p, q, hA0, hV, rfl, hfz, hnd⟩ := hW
  have hA : DataW.TrodAll enc Tryd.prog W 0 (fun _ => true) true Tryd.f5.params.toList args.toList ds p := hA0
  rw [Tryd.params5] at hA hval
  obtain ⟨v0, vs0, d0, ds0, p0, q0, hargs, rfl, rfl, h0, r0⟩ := trodAll_cons hA
  obtain ⟨v1, vs1, d1, ds1, p1, q1, rfl, rfl, rfl, h1, r1⟩ := trodAll_cons r0
  obtain ⟨rfl, rfl, rfl⟩ := trodAll_nil r1
  obtain rfl : args = #[v0, v1] := by cases args; simp_all
  obtain ⟨rfl, rfl⟩ := trodVars_none hV
  obtain ⟨a0, rfl, rfl, rfl, w0⟩ := open_int Tryd.underlying22 (hval 0 22 v0 rfl rfl) h0
  obtain ⟨a1, rfl, rfl, rfl, w1⟩ := open_int Tryd.underlying5 (hval 1 5 v1 rfl rfl) h1
  have hT := of_laid hL
  clear hA0 hval0 hL
  refine (walk a0 a1 W w0 w1 hT).mono fun e W' ⟨he, bel⟩ => ?_
  subst he
  exact ⟨_, rfl, _, _, _, [], _, [], hW', trodAll_mk1 (shut_bool Tryd.underlying4 _), (trodAll_cons_mk (shut_int Tryd.underlying22 w0) (trodAll_cons_mk (shut_int Tryd.underlying5 w1) trodAll_mk0)), rfl, bel.frame _, fun h => by cases h⟩

theorem row_holds : Rows.MaskLowSaid :=
  OpenClaim.holds_of_wide 5 Tryd.f5 rfl rfl rfl rfl rfl rfl rfl ⟨rfl, rfl, rfl, rfl, rfl⟩ rfl rfl rfl rfl rfl (by kernel_rfl) Tryd.func5 (by kernel_rfl)
    (of_decide_eq_true (by kernel_rfl)) (by unfold Func.isWrapper; first | (rw [if_pos (by decide +kernel)]; kernel_rfl) | (rw [if_neg (by decide +kernel)]; exact ⟨rfl, rfl⟩))
    (fun os started H enc _ => lifted os started H enc)

/-- THE STATEMENT. -/
theorem card_holds : Rows.MaskLowCardSaid :=
  Claim7.holds_tied_plain_at .later [] [.data] true (true, Rows.maskLowCard.stood.harness.2) false
    row_holds (fun _ h => by cases h) (by kernel_rfl) (fun _ h => by cases h) maskLow_row_tie rfl ⟨rfl, rfl⟩ (by kernel_rfl) rfl
    (fun f fn hf hfn => by
      obtain rfl : f = 5 := Option.some.inj ((show Tryd.prog.funcNamed Rows.maskLowRow.func = some 5 by kernel_rfl).symm.trans hf) |>.symm
      obtain rfl : fn = Tryd.f5 := (Option.some.inj (Tryd.func5.symm.trans hfn)).symm
      exact ⟨by kernel_rfl, fun j t ht => by
        rw [Tryd.params5] at ht
        have hm : t ∈ [22, 5] := by simpa using Array.mem_of_getElem? ht
        have hall : ([22, 5].all fun u => !Tryd.prog.wantsStandIn u) = true := by kernel_rfl
        exact (show Tryd.prog.wantsStandIn t = false by simpa using List.all_eq_true.1 hall t hm)⟩)
    (by kernel_rfl)

end Go.Proofs.YtldameiggeibnaaDoor.maskLow
