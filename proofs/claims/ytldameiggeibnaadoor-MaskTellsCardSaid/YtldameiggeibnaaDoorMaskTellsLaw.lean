/- Whatever mask, whatever count and whatever list of numbers (one of more than 100 is let go by the law's own guard): First, Count, Lowest, Units and Of are told just as the document says, as its own answer reckons them unit by unit: the law MaskTells answers true, at every input. The library's table of lowest units is as the program's text lays it (tied). -/
import Derived.Test.YtldameiggeibnaaDoorMaskRefL
import Derived.SevenTiedAt
import Derived.Test.YtldameiggeibnaaDoorTie
import Derived.Test.YtldameiggeibnaaDoorCards
namespace Go.Proofs.YtldameiggeibnaaDoor.maskTells
open Go Go.ChangeShapes Go.WideShapes Go.ChangeAt Go.RowKit
/-- The lowest units, and the document's answer for them: the same. -/
theorem low_both (x : Nat) (hx : x < 18446744073709551616) (n : Int) : ∃ (r : Nat) (e : Int),
    Hid (∀ w, Tab w → Calls Tryd.prog 11 #[.int .u64 x, .int .i64 n] w fun o w' => o = .returned (.tuple #[.int .u64 r, .int .i64 e]) ∧ Stays w w' ∧ Tab w') ∧
    Hid (∀ w, Tab w → Calls Tryd.prog 12 #[.int .u64 x, .int .i64 n] w fun o w' => o = .returned (.tuple #[.int .u64 r, .int .i64 e]) ∧ Stays w w' ∧ Tab w') := by
  by_cases h : n < 0
  · exact ⟨0, 1, Lib.hid (fun w hT => (lowest_low x n h w).mono fun _ _ h => ⟨h.1, .of hT h.2, (Stays.of hT h.2).tab⟩),
      Lib.hid (fun w hT => (reflow_low x n h w).mono fun _ _ h => ⟨h.1, h.2 ▸ .of hT (Below.refl _ _), h.2 ▸ hT⟩)⟩
  · obtain ⟨k, rfl⟩ : ∃ k : Nat, n = k := ⟨n.toNat, by omega⟩
    by_cases hk : MM.cnt x < k
    · exact ⟨0, 2, Lib.hid (fun w hT => full_t x hx k hk w hT), Lib.hid (fun w hT => reflow_full x hx k hk w hT)⟩
    · exact ⟨MM.low x k, 0, Lib.hid (fun w hT => lowest_t x hx k (by omega) w hT), Lib.hid (fun w hT => reflow_t x hx k (by omega) w hT)⟩
set_option maxRecDepth 100000 in
set_option maxHeartbeats 2000000 in
theorem walk (a0 : Int) (a1 : Int) (a2 : Option Addr) (len2 cap2 : Nat) (z2 : List Int) (w : World) (w0 : (Lit.int .u64 a0).wf = true) (_ : (Lit.int .i64 a1).wf = true) (w2 : IsRow .i64 w a2 len2 cap2 z2) (hT : Tab w) :
    Calls Tryd.prog 3 #[.int .u64 a0, .int .i64 a1, .slice a2 len2 cap2] w fun e w' => e = .returned (.bool true) ∧ Below w.heap.size w w' := by
  obtain ⟨l0, g0⟩ := bounds_u64 w0
  obtain ⟨l, rfl, hin⟩ := in_of w2
  clear w0 w2
  obtain ⟨x, rfl⟩ : ∃ x : Nat, a0 = x := ⟨a0.toNat, by omega⟩
  have hx : x < 18446744073709551616 := by omega
  clear l0 g0
  have hA := Lib.hid (awake_t w hT)
  clear hT
  by_cases hbig : 100 < l.length
  · clear hin
    go_enter Tryd.func3, Tryd.ntmps3
    go_wp2_with (go_at_call 10; refine hA.out.mono ?_; rintro e w1 ⟨rfl, hs1, hT1⟩)
    go_ret
    exact ⟨rfl, hs1.below⟩
  · have hlen : l.length ≤ 100 := by omega
    obtain ⟨r, e, hL, hM⟩ := low_both x hx a1
    have hO := Lib.hid (fun w h => of_in a2 cap2 l w h (by omega))
    have hP := Lib.hid (fun w h => refof_in a2 cap2 l w h (by omega))
    have hU := Lib.hid (units_t x hx)
    have hV := Lib.hid (refunits_t x hx)
    have hI : Hid (∀ (a1 a2 : Option Addr) (c1 c2 : Nat) (w : World), Row w a1 (MM.units x) → Row w a2 (MM.units x) → Calls Tryd.prog 19 #[.slice a1 (MM.cnt x) c1, .slice a2 (MM.cnt x) c2] w fun e w' => e = .returned (.bool true) ∧ ∃ n, w' = w.drewN n) :=
      Lib.hid fun a1 a2 c1 c2 w h1 h2 => ints_any a1 a2 c1 c2 _ (Nat.lt_of_le_of_lt (MM.cnt_le x) (by decide)) w h1 h2
    have hF := first_any a1
    have hG := reffirst_any a1
    have hc := MM.cnt_le x
    generalize 2 ^ clamp a1 - 1 = m at hF hG
    generalize (MM.ofr 0 l).1 = b at hO hP
    generalize (MM.ofr 0 l).2 = f at hO hP
    have HF := Lib.hid hF
    have HG := Lib.hid hG
    have HIN := Lib.hid hin
    clear hF hG hin
    go_enter Tryd.func3, Tryd.ntmps3
    go_wp2_with (first
      | (go_at_call 10; refine hA.out.mono ?_; rintro e w1 ⟨rfl, hs1, hT1⟩)
      | (go_at_call 11; with_reducible refine (hL.out _ (by assumption)).mono ?_; rintro e w2 ⟨rfl, hs2, hT2⟩)
      | (go_at_call 12; with_reducible refine (hM.out _ (by assumption)).mono ?_; rintro e w3 ⟨rfl, hs3, hT3⟩; have HIN := Lib.hid (((HIN.out.stays hs1).stays hs2).stays hs3))
      | (go_at_call 13; with_reducible refine (hO.out _ HIN.out).mono ?_; rintro e w' ⟨rfl, rfl⟩)
      | (go_at_call 14; with_reducible refine (hP.out _ HIN.out).mono ?_; rintro e w' ⟨rfl, rfl⟩)
      | (go_at_call 15; with_reducible refine (HF.out _).mono ?_; rintro e w' ⟨rfl, rfl⟩)
      | (go_at_call 16; with_reducible refine (HG.out _).mono ?_; rintro e w' ⟨rfl, rfl⟩)
      | (go_at_call 17; with_reducible refine (count_any _ (by assumption) _).mono ?_; rintro e w' ⟨rfl, rfl⟩))
    refine (hV.out _ hT3).mono ?_
    rintro e w4 ⟨a4, c4, rfl, hr4, hs4, hT4⟩
    clear hr4
    go_wp2_with (go_at_call 20; with_reducible refine (hU.out _ hT4).mono ?_; rintro e w5 ⟨a5, c5, rfl, hr5, hs5, hT5⟩; have R5 := Lib.hid hr5; clear hr5)
    refine (hV.out _ hT5).mono ?_
    rintro e w6 ⟨a6, c6, rfl, hr6, hs6, hT6⟩
    have R6 := Lib.hid hr6
    have R5' := Lib.hid (R5.out.stays hs6)
    clear hr6
    go_wp2_with (go_at_call 19; refine (hI.out _ _ _ _ _ R5'.out R6.out).mono ?_; rintro e w' ⟨rfl, n, rfl⟩)
    go_ret
    exact ⟨rfl, Below.drewN (hs1.trans (hs2.trans (hs3.trans (hs4.trans (hs5.trans hs6))))).below _⟩

set_option maxRecDepth 100000 in
theorem lifted (os : Os) (started : os.Started) (H : Type) (enc : TypeId × Value → H) :
    ReturnsInHanded {} Tryd.checked os 3 .any (fun w args => (Rows.maskTellsSpec.pre enc Tryd.prog Tryd.f3 [] false w args ∧ laidMetH Tryd.prog laid1 w) ∧ sizedMet enc Tryd.prog Tryd.f3 (OpenSpec.ofChange Rows.maskTellsSpec) false w args)
      (Rows.maskTellsSpec.post enc Tryd.prog Tryd.f3 false true false false) := by
  refine returnsInHanded_of_change_and (C := Tryd.checked) (X := fun w _ => laidMetH Tryd.prog laid1 w) (fun _ _ _ hh h => h.of_heap hh) own started (by kernel_rfl) Tryd.func3
    (ChangeSpec.witness_shaped (enc := enc) (C := Tryd.checked) (os := os) (X := fun w _ => laidMetH Tryd.prog laid1 w) false (World.doorLaid Tryd.prog 400 os) #[.int .u64 0, .int .i64 0, .slice none 0 0] 8 rfl (World.shaped_of_RefB (by kernel_rfl) (by kernel_rfl)) (by kernel_rfl) (by kernel_rfl) (by kernel_rfl) (door_met os _)) ?_
  intro W base args ds gs before hval0 hW _ _ hL _
  have hval : ∀ (j : Nat) t v, Tryd.f3.params[j]? = some t → args[j]? = some v → Value.okWide Tryd.prog W .any base t v := hval0
  have hW' := hW
  obtain ⟨p, q, hA0, hV, rfl, hfz, hnd⟩ := hW
  have hA : DataW.TrodAll enc Tryd.prog W 0 (fun _ => true) true Tryd.f3.params.toList args.toList ds p := hA0
  rw [Tryd.params3] at hA hval
  obtain ⟨v0, vs0, d0, ds0, p0, q0, hargs, rfl, rfl, h0, r0⟩ := trodAll_cons hA
  obtain ⟨v1, vs1, d1, ds1, p1, q1, rfl, rfl, rfl, h1, r1⟩ := trodAll_cons r0
  obtain ⟨v2, vs2, d2, ds2, p2, q2, rfl, rfl, rfl, h2, r2⟩ := trodAll_cons r1
  obtain ⟨rfl, rfl, rfl⟩ := trodAll_nil r2
  obtain rfl : args = #[v0, v1, v2] := by cases args; simp_all
  obtain ⟨rfl, rfl⟩ := trodVars_none hV
  obtain ⟨a0, rfl, rfl, rfl, w0⟩ := open_int Tryd.underlying22 (hval 0 22 v0 rfl rfl) h0
  obtain ⟨a1, rfl, rfl, rfl, w1⟩ := open_int Tryd.underlying3 (hval 1 3 v1 rfl rfl) h1
  obtain ⟨a2, len2, cap2, rfl⟩ := okWide_slice Tryd.underlying23 (hval 2 23 v2 rfl rfl)
  have k2 := h2
  have lt2 : ∀ x ∈ p2, x.block < W.heap.size := by obtain ⟨m, hm⟩ := k2; exact DataW.trod_lt m _ _ _ hm
  obtain ⟨z2, w2⟩ : ∃ zs, IsRow .i64 W a2 len2 cap2 zs := by
    obtain ⟨fuel, hf⟩ := h2
    rcases open_ints Tryd.underlying23 Tryd.underlying3 (by kernel_rfl) hf with ⟨hcs, _⟩ | ⟨x, l, c, zs, hcs, _, hl, hm, hz, _, hcell, hwz⟩
    · simp [Value.cells] at hcs
      obtain ⟨rfl, rfl, rfl⟩ := hcs
      exact ⟨[], .inl ⟨rfl, rfl, rfl, rfl⟩⟩
    · simp [Value.cells] at hcs
      obtain ⟨rfl, rfl, rfl⟩ := hcs
      exact ⟨zs, .inr ⟨_, rfl, hl, hm, by simpa using hz, hcell, hwz⟩⟩
  have hT := of_laid hL
  clear hA0 hval0 hL
  refine (walk a0 a1 a2 len2 cap2 z2 W w0 w1 w2 hT).mono fun e W' ⟨he, bel⟩ => ?_
  subst he
  exact ⟨_, rfl, _, _, _, [], _, [], hW', trodAll_mk1 (shut_bool Tryd.underlying4 _), (trodAll_cons_mk (shut_int Tryd.underlying22 w0) (trodAll_cons_mk (shut_int Tryd.underlying3 w1) (trodAll_cons_mk (Below.trod laidOut (by kernel_rfl) (of_decide_eq_true (by kernel_rfl)) k2 bel lt2) trodAll_mk0))), rfl, bel.frame _, fun h => by cases h⟩

theorem row_holds : Rows.MaskTellsSaid :=
  OpenClaim.holds_of_wide 3 Tryd.f3 rfl rfl rfl rfl rfl rfl rfl ⟨rfl, rfl, rfl, rfl, rfl⟩ rfl rfl rfl rfl rfl (by kernel_rfl) Tryd.func3 (by kernel_rfl)
    (of_decide_eq_true (by kernel_rfl)) (by unfold Func.isWrapper; first | (rw [if_pos (by decide +kernel)]; kernel_rfl) | (rw [if_neg (by decide +kernel)]; exact ⟨rfl, rfl⟩))
    (fun os started H enc _ => lifted os started H enc)

/-- THE STATEMENT. -/
theorem card_holds : Rows.MaskTellsCardSaid :=
  Claim7.holds_tied_plain_at .later [] [.data] true (true, Rows.maskTellsCard.stood.harness.2) false
    row_holds (fun _ h => by cases h) (by kernel_rfl) (fun _ h => by cases h) maskTells_row_tie rfl ⟨rfl, rfl⟩ (by kernel_rfl) rfl
    (fun f fn hf hfn => by
      obtain rfl : f = 3 := Option.some.inj ((show Tryd.prog.funcNamed Rows.maskTellsRow.func = some 3 by kernel_rfl).symm.trans hf) |>.symm
      obtain rfl : fn = Tryd.f3 := (Option.some.inj (Tryd.func3.symm.trans hfn)).symm
      exact ⟨by kernel_rfl, fun j t ht => by
        rw [Tryd.params3] at ht
        have hm : t ∈ [22, 3, 23] := by simpa using Array.mem_of_getElem? ht
        have hall : ([22, 3, 23].all fun u => !Tryd.prog.wantsStandIn u) = true := by kernel_rfl
        exact (show Tryd.prog.wantsStandIn t = false by simpa using List.all_eq_true.1 hall t hm)⟩)
    (by kernel_rfl)

end Go.Proofs.YtldameiggeibnaaDoor.maskTells
