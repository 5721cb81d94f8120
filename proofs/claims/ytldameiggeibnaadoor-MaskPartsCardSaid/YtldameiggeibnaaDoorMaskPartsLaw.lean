/- Whatever two masks and whatever count: units are counted part by part, and of a number of first units there are so many: the law MaskParts answers true, at every input. The library's table of lowest units is as the program's text lays it (tied). -/
import Derived.Test.YtldameiggeibnaaDoorMaskAwake
import Derived.SevenTiedAt
import Derived.Test.YtldameiggeibnaaDoorTie
import Derived.Test.YtldameiggeibnaaDoorCards
namespace Go.Proofs.YtldameiggeibnaaDoor.maskParts
open Go Go.ChangeShapes Go.WideShapes Go.ChangeAt Go.RowKit
theorem shr_first (n : Nat) : ((2 ^ n - 1 : Nat) : Int) / ((2 ^ n : Nat) : Int) = 0 := by
  have := Nat.two_pow_pos n
  rw [← Int.natCast_ediv, Nat.div_eq_of_lt (by omega)]
  rfl
set_option maxRecDepth 100000 in
set_option maxHeartbeats 1000000 in
theorem walk (a0 : Int) (a1 : Int) (a2 : Int) (w : World) (w0 : (Lit.int .u64 a0).wf = true) (w1 : (Lit.int .u64 a1).wf = true) (_ : (Lit.int .i64 a2).wf = true) (hT : Tab w) :
    Calls Tryd.prog 6 #[.int .u64 a0, .int .u64 a1, .int .i64 a2] w fun e w' => e = .returned (.bool true) ∧ Below w.heap.size w w' := by
  obtain ⟨l0, g0⟩ := bounds_u64 w0
  obtain ⟨l1, g1⟩ := bounds_u64 w1
  clear w0 w1
  obtain ⟨x, rfl⟩ : ∃ x : Nat, a0 = x := ⟨a0.toNat, by omega⟩
  obtain ⟨y, rfl⟩ : ∃ y : Nat, a1 = y := ⟨a1.toNat, by omega⟩
  have hx : x < 18446744073709551616 := by omega
  have hy : y < 18446744073709551616 := by omega
  clear l0 g0 l1 g1
  have hA := Lib.hid (awake_any w hT)
  have hxo := MM.or_lt hx hy
  have hxa := MM.and_lt x y hx
  have hor := or_u64 x y hx hy
  have han := and_u64 x y hx hy
  have heq : ((MM.cnt x : Int) + (MM.cnt y : Int) == (MM.cnt (x ||| y) : Int) + (MM.cnt (x &&& y) : Int)) = true := by
    have := MM.cnt_add x y
    rw [beq_iff_eq]; omega
  have b1 := MM.cnt_le x
  have b2 := MM.cnt_le y
  have b3 := MM.cnt_le (x ||| y)
  have b4 := MM.cnt_le (x &&& y)
  have ff := first_any a2
  have hm := first_lt (clamp_le a2)
  have hcm := MM.cnt_first (clamp_le a2)
  have hs := shr_first (clamp a2)
  have h64 := clamp_le a2
  obtain ⟨k, hk⟩ : ∃ k, clamp a2 = k := ⟨_, rfl⟩
  rw [hk] at ff hm hcm hs h64
  generalize 2 ^ k - 1 = m at ff hm hcm hs
  have F := Lib.hid ff
  clear ff
  by_cases h1 : a2 < 0
  · have hc : k = 0 := by rw [← hk]; unfold clamp; rw [if_pos h1]
    subst hc
    have q : ((MM.cnt m : Int) == 0) = true := by rw [hcm]; rfl
    have z : ((m : Int) == 0) = true := by
      have : (m : Int) / 1 = 0 := hs
      rw [beq_iff_eq]; omega
    clear hk hcm hs
    have t1 : decide (a2 < 0) = true := by simpa using h1
    have t2 : decide (64 < a2) = false := by simp; omega
    go_enter Tryd.func6, Tryd.ntmps6
    go_wp2_with (first
      | (go_at_call 10; refine hA.out.mono ?_; rintro e w1 ⟨rfl, hb⟩)
      | (go_at_call 17; refine (count_any _ (by assumption) _).mono ?_; rintro e w' ⟨rfl, rfl⟩)
      | (go_at_call 15; refine (F.out _).mono ?_; rintro e w' ⟨rfl, rfl⟩))
    go_ret
    exact ⟨rfl, hb⟩
  · by_cases h2 : 64 < a2
    · have hc : k = 64 := by rw [← hk]; unfold clamp; rw [if_neg h1, if_pos h2]
      subst hc
      have q : ((MM.cnt m : Int) == 64) = true := by rw [hcm]; rfl
      clear hk hcm hs
      have t1 : decide (a2 < 0) = false := by simpa using h1
      have t2 : decide (64 < a2) = true := by simpa using h2
      go_enter Tryd.func6, Tryd.ntmps6
      go_wp2_with (first
        | (go_at_call 10; refine hA.out.mono ?_; rintro e w1 ⟨rfl, hb⟩)
        | (go_at_call 17; refine (count_any _ (by assumption) _).mono ?_; rintro e w' ⟨rfl, rfl⟩)
        | (go_at_call 15; refine (F.out _).mono ?_; rintro e w' ⟨rfl, rfl⟩))
      go_ret
      exact ⟨rfl, hb⟩
    · have hc : a2 = (k : Int) := by rw [← hk]; unfold clamp; rw [if_neg h1, if_neg h2]; omega
      subst hc
      clear hk
      have q : ((MM.cnt m : Int) == (k : Int)) = true := by rw [hcm]; simp
      clear hcm
      have t1 : decide ((k : Int) < 0) = false := by simp
      have t2 : decide (64 < (k : Int)) = false := by simp; omega
      by_cases h3 : k = 64
      · have t3 : ((k : Int) == 64) = true := by rw [h3]; rfl
        clear h3 hs
        go_enter Tryd.func6, Tryd.ntmps6
        go_wp2_with (first
          | (go_at_call 10; refine hA.out.mono ?_; rintro e w1 ⟨rfl, hb⟩)
          | (go_at_call 17; refine (count_any _ (by assumption) _).mono ?_; rintro e w' ⟨rfl, rfl⟩)
          | (go_at_call 15; refine (F.out _).mono ?_; rintro e w' ⟨rfl, rfl⟩))
        go_ret
        exact ⟨rfl, hb⟩
      · have t3 : ((k : Int) == 64) = false := by simp; omega
        have z : ((m : Int) / 2 ^ k == 0) = true := by
          have e : ((2 ^ k : Nat) : Int) = 2 ^ k := by simp
          rw [← e, hs]; rfl
        clear h3 hs
        go_enter Tryd.func6, Tryd.ntmps6
        go_wp2_with (first
          | (go_at_call 10; refine hA.out.mono ?_; rintro e w1 ⟨rfl, hb⟩)
          | (go_at_call 17; refine (count_any _ (by assumption) _).mono ?_; rintro e w' ⟨rfl, rfl⟩)
          | (go_at_call 15; refine (F.out _).mono ?_; rintro e w' ⟨rfl, rfl⟩))
        go_ret
        exact ⟨rfl, hb⟩

set_option maxRecDepth 100000 in
theorem lifted (os : Os) (started : os.Started) (H : Type) (enc : TypeId × Value → H) :
    ReturnsInHanded {} Tryd.checked os 6 .any (fun w args => (Rows.maskPartsSpec.pre enc Tryd.prog Tryd.f6 [] false w args ∧ laidMetH Tryd.prog laid1 w) ∧ sizedMet enc Tryd.prog Tryd.f6 (OpenSpec.ofChange Rows.maskPartsSpec) false w args)
      (Rows.maskPartsSpec.post enc Tryd.prog Tryd.f6 false true false false) := by
  refine returnsInHanded_of_change_and (C := Tryd.checked) (X := fun w _ => laidMetH Tryd.prog laid1 w) (fun _ _ _ hh h => h.of_heap hh) own started (by kernel_rfl) Tryd.func6
    (ChangeSpec.witness_shaped (enc := enc) (C := Tryd.checked) (os := os) (X := fun w _ => laidMetH Tryd.prog laid1 w) false (World.doorLaid Tryd.prog 400 os) #[.int .u64 0, .int .u64 0, .int .i64 0] 8 rfl (World.shaped_of_RefB (by kernel_rfl) (by kernel_rfl)) (by kernel_rfl) (by kernel_rfl) (by kernel_rfl) (door_met os _)) ?_
  intro W base args ds gs before hval0 hW _ _ hL _
  have hval : ∀ (j : Nat) t v, Tryd.f6.params[j]? = some t → args[j]? = some v → Value.okWide Tryd.prog W .any base t v := hval0
  have hW' := hW
  obtain ⟨p, q, hA0, hV, rfl, hfz, hnd⟩ := hW
  have hA : DataW.TrodAll enc Tryd.prog W 0 (fun _ => true) true Tryd.f6.params.toList args.toList ds p := hA0
  rw [Tryd.params6] at hA hval
  obtain ⟨v0, vs0, d0, ds0, p0, q0, hargs, rfl, rfl, h0, r0⟩ := trodAll_cons hA
  obtain ⟨v1, vs1, d1, ds1, p1, q1, rfl, rfl, rfl, h1, r1⟩ := trodAll_cons r0
  obtain ⟨v2, vs2, d2, ds2, p2, q2, rfl, rfl, rfl, h2, r2⟩ := trodAll_cons r1
  obtain ⟨rfl, rfl, rfl⟩ := trodAll_nil r2
  obtain rfl : args = #[v0, v1, v2] := by cases args; simp_all
  obtain ⟨rfl, rfl⟩ := trodVars_none hV
  obtain ⟨a0, rfl, rfl, rfl, w0⟩ := open_int Tryd.underlying22 (hval 0 22 v0 rfl rfl) h0
  obtain ⟨a1, rfl, rfl, rfl, w1⟩ := open_int Tryd.underlying22 (hval 1 22 v1 rfl rfl) h1
  obtain ⟨a2, rfl, rfl, rfl, w2⟩ := open_int Tryd.underlying3 (hval 2 3 v2 rfl rfl) h2
  have hT := of_laid hL
  clear hA0 hval0 hL
  refine (walk a0 a1 a2 W w0 w1 w2 hT).mono fun e W' ⟨he, bel⟩ => ?_
  subst he
  exact ⟨_, rfl, _, _, _, [], _, [], hW', trodAll_mk1 (shut_bool Tryd.underlying4 _), (trodAll_cons_mk (shut_int Tryd.underlying22 w0) (trodAll_cons_mk (shut_int Tryd.underlying22 w1) (trodAll_cons_mk (shut_int Tryd.underlying3 w2) trodAll_mk0))), rfl, bel.frame _, fun h => by cases h⟩

theorem row_holds : Rows.MaskPartsSaid :=
  OpenClaim.holds_of_wide 6 Tryd.f6 rfl rfl rfl rfl rfl rfl rfl ⟨rfl, rfl, rfl, rfl, rfl⟩ rfl rfl rfl rfl rfl (by kernel_rfl) Tryd.func6 (by kernel_rfl)
    (of_decide_eq_true (by kernel_rfl)) (by unfold Func.isWrapper; first | (rw [if_pos (by decide +kernel)]; kernel_rfl) | (rw [if_neg (by decide +kernel)]; exact ⟨rfl, rfl⟩))
    (fun os started H enc _ => lifted os started H enc)

/-- THE STATEMENT. -/
theorem card_holds : Rows.MaskPartsCardSaid :=
  Claim7.holds_tied_plain_at .later [] [.data] true (true, Rows.maskPartsCard.stood.harness.2) false
    row_holds (fun _ h => by cases h) (by kernel_rfl) (fun _ h => by cases h) maskParts_row_tie rfl ⟨rfl, rfl⟩ (by kernel_rfl) rfl
    (fun f fn hf hfn => by
      obtain rfl : f = 6 := Option.some.inj ((show Tryd.prog.funcNamed Rows.maskPartsRow.func = some 6 by kernel_rfl).symm.trans hf) |>.symm
      obtain rfl : fn = Tryd.f6 := (Option.some.inj (Tryd.func6.symm.trans hfn)).symm
      exact ⟨by kernel_rfl, fun j t ht => by
        rw [Tryd.params6] at ht
        have hm : t ∈ [22, 22, 3] := by simpa using Array.mem_of_getElem? ht
        have hall : ([22, 22, 3].all fun u => !Tryd.prog.wantsStandIn u) = true := by kernel_rfl
        exact (show Tryd.prog.wantsStandIn t = false by simpa using List.all_eq_true.1 hall t hm)⟩)
    (by kernel_rfl)

end Go.Proofs.YtldameiggeibnaaDoor.maskParts
