/- Whatever count and whatever mask: the units of the first so many are 0 and on, each once; those below a unit of a mask, and those from it on, are the mask: the law MaskFirsts answers true, at every input. The library's table of lowest units is as the program's text lays it (tied). -/
import Derived.Test.YtldameiggeibnaaDoorMaskAwake
import Derived.SevenTiedAt
import Derived.Test.YtldameiggeibnaaDoorTie
import Derived.Test.YtldameiggeibnaaDoorCards
namespace Go.Proofs.YtldameiggeibnaaDoor.maskFirsts
open Go Go.ChangeShapes Go.WideShapes Go.ChangeAt Go.RowKit
theorem bit_first (k i : Nat) : (2 ^ k - 1).testBit i = decide (i < k) := Nat.testBit_two_pow_sub_one k i
theorem units_first {k : Nat} (h : k ≤ 64) : MM.units (2 ^ k - 1) = List.range k := by
  refine MM.eq_of_sorted _ _ (MM.units_sorted _) (List.pairwise_lt_range) fun i => ?_
  rw [MM.units_mem, bit_first, List.mem_range]
  simp; omega
theorem pc_parts : ∀ (f a b : Nat), MM.pc f (a &&& b) + MM.pc f (MM.sub a b) = MM.pc f a
  | 0, _, _ => rfl
  | f + 1, a, b => by
    have ih := pc_parts f (a / 2) (b / 2)
    have e : MM.sub a b / 2 = MM.sub (a / 2) (b / 2) := by
      apply Nat.eq_of_testBit_eq
      intro i
      rw [← Nat.testBit_add_one, MM.testBit_sub, MM.testBit_sub, Nat.testBit_add_one, Nat.testBit_add_one]
    have h2 := @Nat.and_mod_two_eq_one a b
    have h3 : MM.sub a b % 2 = 1 ↔ a % 2 = 1 ∧ ¬ b % 2 = 1 := by
      rw [Nat.mod_two_eq_one_iff_testBit_zero, MM.testBit_sub, Nat.mod_two_eq_one_iff_testBit_zero, Nat.mod_two_eq_one_iff_testBit_zero]
      cases a.testBit 0 <;> cases b.testBit 0 <;> simp
    unfold MM.pc
    rw [Nat.and_div_two, e]
    omega
theorem cnt_parts (a b : Nat) : MM.cnt (a &&& b) + MM.cnt (MM.sub a b) = MM.cnt a := by simp only [MM.cnt_pc]; exact pc_parts 64 a b
theorem pc_below : ∀ (f k a : Nat), MM.pc f (a &&& (2 ^ k - 1)) ≤ k
  | 0, _, _ => Nat.zero_le _
  | f + 1, 0, a => by
    show MM.pc (f + 1) (a &&& (2 ^ 0 - 1)) ≤ 0
    have := pc_below f 0 a
    simp at this ⊢
    unfold MM.pc
    simpa using this
  | f + 1, k + 1, a => by
    have ih := pc_below f k (a / 2)
    have hp := Nat.two_pow_pos k
    unfold MM.pc
    rw [Nat.and_div_two, show (2 ^ (k + 1) - 1) / 2 = 2 ^ k - 1 from by rw [Nat.pow_succ]; omega]
    omega
theorem cnt_below (k a : Nat) : MM.cnt (a &&& (2 ^ k - 1)) ≤ k := by rw [MM.cnt_pc]; exact pc_below 64 k a
theorem clamp_nat {k : Nat} (h : k ≤ 64) : clamp (k : Int) = k := by unfold clamp; rw [if_neg (by omega), if_neg (by omega)]; rfl
set_option maxRecDepth 100000 in
set_option maxHeartbeats 1000000 in
theorem walk (a0 : Int) (a1 : Int) (w : World) (w0 : (Lit.int .u8 a0).wf = true) (w1 : (Lit.int .u64 a1).wf = true) (hT : Tab w) :
    Calls Tryd.prog 8 #[.int .u8 a0, .int .u64 a1] w fun e w' => e = .returned (.bool true) ∧ Below w.heap.size w w' := by
  obtain ⟨l0, g0⟩ := bounds_u8 w0
  obtain ⟨l1, g1⟩ := bounds_u64 w1
  clear w0 w1
  obtain ⟨q, rfl⟩ : ∃ q : Nat, a0 = q := ⟨a0.toNat, by omega⟩
  obtain ⟨x, rfl⟩ : ∃ x : Nat, a1 = x := ⟨a1.toNat, by omega⟩
  have hx : x < 18446744073709551616 := by omega
  have hq : q ≤ 255 := by omega
  clear l0 g0 l1 g1
  obtain ⟨k, hk⟩ : ∃ k, q % 65 = k := ⟨_, rfl⟩
  have hk65 : k ≤ 64 := by omega
  have e1 : (q : Int) % 65 = (k : Int) := by omega
  have ff := first_any k
  rw [clamp_nat hk65] at ff
  have hm := first_lt hk65
  have hu := units_first hk65
  have hcm := MM.cnt_first hk65
  have p1 := cnt_parts x (2 ^ k - 1)
  have p2 := cnt_below k x
  have C := units_t _ hm
  rw [hcm, hu] at C
  have n1 := and_u64 x _ hx hm
  have n2 := not_u64 x _ hx hm
  have b1 := MM.and_lt x (2 ^ k - 1) hx
  have b2 := MM.sub_lt (2 ^ k - 1) hx
  generalize 2 ^ k - 1 = m at *
  have hA := Lib.hid (awake_t w hT)
  have F := Lib.hid ff
  have D := Lib.hid C
  have c1 := MM.cnt_le (x &&& m)
  have c2 := MM.cnt_le (MM.sub x m)
  have z1 : ((MM.cnt (x &&& m) : Int) + (MM.cnt (MM.sub x m) : Int) == (MM.cnt x : Int)) = true := by rw [beq_iff_eq]; omega
  have hr : ∀ j, j < k → ((List.range k)[j]?.getD 0) = j := fun j hj => by simp [hj]
  have hlr : (List.range k).length = k := List.length_range
  generalize List.range k = l at D hr hlr
  have L := Lib.hid hlr
  have R := Lib.hid hr
  clear hT hk ff hu hcm p1 C hlr hr
  go_enter Tryd.func8, Tryd.ntmps8
  go_wp2_with (first
    | (go_at_call 10; refine hA.out.mono ?_; rintro e w1 ⟨rfl, hs1, hT1⟩)
    | (go_at_call 15; refine (F.out _).mono ?_; rintro e w' ⟨rfl, rfl⟩)
    | (go_at_call 20; refine (D.out _ (by assumption)).mono ?_; rintro e w2 ⟨a, cap, rfl, hrow, hs2, hT2⟩; have HR := Lib.hid hrow; clear hrow))
  go_loop [7] (fun i => ∃ j : Nat, j ≤ k ∧ i = .int .i64 j) (fun i => k - (intOf i).toNat)
  case atStart => exact ⟨0, Nat.zero_le _, rfl⟩
  case round =>
    obtain ⟨j, hj, rfl⟩ := hrel
    by_cases hlt : j < k
    · have hcell : ∃ g, a = some ⟨g, 0, none⟩ ∧ w2.cell? ⟨g, j, none⟩ = some (.int .i64 (j : Int)) := by
        have hL := L.out
        rcases HR.out with h | ⟨g, ha, _, hc⟩
        · rw [h] at hL; simp at hL; omega
        · refine ⟨g, ha, ?_⟩
          have := hc j (by omega)
          rwa [R.out j hlt] at this
      obtain ⟨g, rfl, hc⟩ := hcell
      go_wp2
      exact ⟨⟨j + 1, by omega, by go_num⟩, by simp [intOf]; omega⟩
    · go_wp2_with (first
        | (go_at_call 15; refine (F.out _).mono ?_; rintro e w' ⟨rfl, rfl⟩)
        | (go_at_call 17; refine (count_any _ (by assumption) _).mono ?_; rintro e w' ⟨rfl, rfl⟩))
      go_ret
      exact ⟨rfl, (hs1.trans hs2).below⟩

set_option maxRecDepth 100000 in
theorem lifted (os : Os) (started : os.Started) (H : Type) (enc : TypeId × Value → H) :
    ReturnsInHanded {} Tryd.checked os 8 .any (fun w args => (Rows.maskFirstsSpec.pre enc Tryd.prog Tryd.f8 [] false w args ∧ laidMetH Tryd.prog laid1 w) ∧ sizedMet enc Tryd.prog Tryd.f8 (OpenSpec.ofChange Rows.maskFirstsSpec) false w args)
      (Rows.maskFirstsSpec.post enc Tryd.prog Tryd.f8 false true false false) := by
  refine returnsInHanded_of_change_and (C := Tryd.checked) (X := fun w _ => laidMetH Tryd.prog laid1 w) (fun _ _ _ hh h => h.of_heap hh) own started (by kernel_rfl) Tryd.func8
    (ChangeSpec.witness_shaped (enc := enc) (C := Tryd.checked) (os := os) (X := fun w _ => laidMetH Tryd.prog laid1 w) false (World.doorLaid Tryd.prog 400 os) #[.int .u8 0, .int .u64 0] 8 rfl (World.shaped_of_RefB (by kernel_rfl) (by kernel_rfl)) (by kernel_rfl) (by kernel_rfl) (by kernel_rfl) (door_met os _)) ?_
  intro W base args ds gs before hval0 hW _ _ hL _
  have hval : ∀ (j : Nat) t v, Tryd.f8.params[j]? = some t → args[j]? = some v → Value.okWide Tryd.prog W .any base t v := hval0
  have hW' := hW
  obtain ⟨p, q, hA0, hV, rfl, hfz, hnd⟩ := hW
  have hA : DataW.TrodAll enc Tryd.prog W 0 (fun _ => true) true Tryd.f8.params.toList args.toList ds p := hA0
  rw [Tryd.params8] at hA hval
  obtain ⟨v0, vs0, d0, ds0, p0, q0, hargs, rfl, rfl, h0, r0⟩ := trodAll_cons hA
  obtain ⟨v1, vs1, d1, ds1, p1, q1, rfl, rfl, rfl, h1, r1⟩ := trodAll_cons r0
  obtain ⟨rfl, rfl, rfl⟩ := trodAll_nil r1
  obtain rfl : args = #[v0, v1] := by cases args; simp_all
  obtain ⟨rfl, rfl⟩ := trodVars_none hV
  obtain ⟨a0, rfl, rfl, rfl, w0⟩ := open_int Tryd.underlying5 (hval 0 5 v0 rfl rfl) h0
  obtain ⟨a1, rfl, rfl, rfl, w1⟩ := open_int Tryd.underlying22 (hval 1 22 v1 rfl rfl) h1
  have hT := of_laid hL
  clear hA0 hval0 hL
  refine (walk a0 a1 W w0 w1 hT).mono fun e W' ⟨he, bel⟩ => ?_
  subst he
  exact ⟨_, rfl, _, _, _, [], _, [], hW', trodAll_mk1 (shut_bool Tryd.underlying4 _), (trodAll_cons_mk (shut_int Tryd.underlying5 w0) (trodAll_cons_mk (shut_int Tryd.underlying22 w1) trodAll_mk0)), rfl, bel.frame _, fun h => by cases h⟩

theorem row_holds : Rows.MaskFirstsSaid :=
  OpenClaim.holds_of_wide 8 Tryd.f8 rfl rfl rfl rfl rfl rfl rfl ⟨rfl, rfl, rfl, rfl, rfl⟩ rfl rfl rfl rfl rfl (by kernel_rfl) Tryd.func8 (by kernel_rfl)
    (of_decide_eq_true (by kernel_rfl)) (by unfold Func.isWrapper; first | (rw [if_pos (by decide +kernel)]; kernel_rfl) | (rw [if_neg (by decide +kernel)]; exact ⟨rfl, rfl⟩))
    (fun os started H enc _ => lifted os started H enc)

/-- THE STATEMENT. -/
theorem card_holds : Rows.MaskFirstsCardSaid :=
  Claim7.holds_tied_plain_at .later [] [.data] true (true, Rows.maskFirstsCard.stood.harness.2) false
    row_holds (fun _ h => by cases h) (by kernel_rfl) (fun _ h => by cases h) maskFirsts_row_tie rfl ⟨rfl, rfl⟩ (by kernel_rfl) rfl
    (fun f fn hf hfn => by
      obtain rfl : f = 8 := Option.some.inj ((show Tryd.prog.funcNamed Rows.maskFirstsRow.func = some 8 by kernel_rfl).symm.trans hf) |>.symm
      obtain rfl : fn = Tryd.f8 := (Option.some.inj (Tryd.func8.symm.trans hfn)).symm
      exact ⟨by kernel_rfl, fun j t ht => by
        rw [Tryd.params8] at ht
        have hm : t ∈ [5, 22] := by simpa using Array.mem_of_getElem? ht
        have hall : ([5, 22].all fun u => !Tryd.prog.wantsStandIn u) = true := by kernel_rfl
        exact (show Tryd.prog.wantsStandIn t = false by simpa using List.all_eq_true.1 hall t hm)⟩)
    (by kernel_rfl)

end Go.Proofs.YtldameiggeibnaaDoor.maskFirsts
