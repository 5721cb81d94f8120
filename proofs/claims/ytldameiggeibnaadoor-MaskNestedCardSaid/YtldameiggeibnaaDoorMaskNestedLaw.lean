/- Whatever mask and whatever two counts: the lowest few of a mask are among its lowest more, and the lowest of the rest are above these: the law MaskNested answers true, at every input. The library's table of lowest units is as the program's text lays it (tied). -/
import Derived.Deep.QuietTactic
import Derived.BigQuiet
import Derived.Test.YtldameiggeibnaaDoorMaskAwake
import Derived.SevenTiedAt
import Derived.Test.YtldameiggeibnaaDoorTie
import Derived.Test.YtldameiggeibnaaDoorCards
namespace Go.Proofs.YtldameiggeibnaaDoor.maskNested
open Go Go.ChangeShapes Go.WideShapes Go.ChangeAt Go.RowKit
theorem take_split {l : List Nat} {s t : Nat} (h : s ≤ t) : l.take t = l.take s ++ (l.drop s).take (t - s) := by
  have := List.take_add (l := l) (i := s) (j := t - s)
  rwa [show s + (t - s) = t from by omega] at this
theorem nested (x s t : Nat) (hst : s ≤ t) (p q r : Nat) (hp : p = MM.low x s) (hq : q = MM.low x t) (hr : r = MM.low (MM.sub x p) (t - s)) :
    MM.sub p q = 0 ∧ p ||| r = q ∧ p &&& r = 0 := by
  have er : r = MM.ofu (((MM.units x).drop s).take (t - s)) := by
    rw [hr, hp]
    show MM.ofu ((MM.units (MM.sub x (MM.low x s))).take (t - s)) = _
    rw [MM.units_rest]
  have bp : ∀ i, p.testBit i = decide (i ∈ (MM.units x).take s) := fun i => by rw [hp]; exact MM.testBit_ofu _ _
  have bq : ∀ i, q.testBit i = (decide (i ∈ (MM.units x).take s) || decide (i ∈ ((MM.units x).drop s).take (t - s))) := fun i => by
    rw [hq]; unfold MM.low; rw [MM.testBit_ofu, take_split hst]; simp
  have br : ∀ i, r.testBit i = decide (i ∈ ((MM.units x).drop s).take (t - s)) := fun i => by rw [er]; exact MM.testBit_ofu _ _
  have hnd := MM.units_nodup x
  rw [← List.take_append_drop s (MM.units x)] at hnd
  have hd := (List.nodup_append.1 hnd).2.2
  refine ⟨?_, ?_, ?_⟩
  · apply Nat.eq_of_testBit_eq; intro i
    rw [MM.testBit_sub, bp, bq, Nat.zero_testBit]
    cases decide (i ∈ (MM.units x).take s) <;> simp
  · apply Nat.eq_of_testBit_eq; intro i
    rw [Nat.testBit_or, bp, bq, br]
  · apply Nat.eq_of_testBit_eq; intro i
    rw [Nat.testBit_and, bp, br, Nat.zero_testBit]
    by_cases h : i ∈ (MM.units x).take s
    · have : ¬ i ∈ ((MM.units x).drop s).take (t - s) := fun h' => hd _ h _ (List.mem_of_mem_take h') rfl
      simp [this]
    · simp [h]
/-- All that the walk is told of two counts, the lower one first. -/
theorem setup (x s t : Nat) (hx : x < 18446744073709551616) (hst : s ≤ t) (ht : t ≤ MM.cnt x) : ∃ p q r y : Nat,
    bits BinOp.andNot IntKind.u64 (x : Int) (p : Int) = (y : Int) ∧ bits BinOp.andNot IntKind.u64 (p : Int) (q : Int) = 0 ∧ bits BinOp.or IntKind.u64 (p : Int) (r : Int) = (q : Int) ∧ bits BinOp.and IntKind.u64 (p : Int) (r : Int) = 0 ∧
    (t : Int) - (s : Int) = ((t - s : Nat) : Int) ∧
    Hid (∀ w, Tab w → Calls Tryd.prog 11 #[.int .u64 x, .int .i64 s] w fun e w' => e = .returned (.tuple #[.int .u64 p, .int .i64 0]) ∧ Stays w w' ∧ Tab w') ∧
    Hid (∀ w, Tab w → Calls Tryd.prog 11 #[.int .u64 x, .int .i64 t] w fun e w' => e = .returned (.tuple #[.int .u64 q, .int .i64 0]) ∧ Stays w w' ∧ Tab w') ∧
    Hid (∀ w, Tab w → Calls Tryd.prog 11 #[.int .u64 y, .int .i64 ((t - s : Nat) : Int)] w fun e w' => e = .returned (.tuple #[.int .u64 r, .int .i64 0]) ∧ Stays w w' ∧ Tab w') := by
  have hs : s ≤ MM.cnt x := by omega
  obtain ⟨f1, f2, f3⟩ := nested x s t hst _ _ _ rfl rfl rfl
  have hpl := MM.low_lt x s
  have hql := MM.low_lt x t
  have hrl := MM.low_lt (MM.sub x (MM.low x s)) (t - s)
  have hsl := MM.sub_lt (MM.low x s) hx
  refine ⟨MM.low x s, MM.low x t, MM.low (MM.sub x (MM.low x s)) (t - s), MM.sub x (MM.low x s), not_u64 _ _ hx hpl, ?_, ?_, ?_, by omega, Lib.hid (lowest_t x hx s hs), Lib.hid (lowest_t x hx t ht), Lib.hid (lowest_t _ hsl _ (by rw [MM.cnt_rest]; omega))⟩
  · rw [not_u64 _ _ hpl hql, f1]; rfl
  · rw [or_u64 _ _ hpl hrl, f2]
  · rw [and_u64 _ _ hpl hrl, f3]; rfl
set_option maxRecDepth 100000 in
set_option maxHeartbeats 1000000 in
theorem walk (a0 : Int) (a1 : Int) (a2 : Int) (w : World) (w0 : (Lit.int .u64 a0).wf = true) (w1 : (Lit.int .u8 a1).wf = true) (w2 : (Lit.int .u8 a2).wf = true) (hT : Tab w) :
    Calls Tryd.prog 7 #[.int .u64 a0, .int .u8 a1, .int .u8 a2] w fun e w' => e = .returned (.bool true) ∧ Below w.heap.size w w' := by
  obtain ⟨l0, g0⟩ := bounds_u64 w0
  obtain ⟨l1, g1⟩ := bounds_u8 w1
  obtain ⟨l2, g2⟩ := bounds_u8 w2
  clear w0 w1 w2
  obtain ⟨x, rfl⟩ : ∃ x : Nat, a0 = x := ⟨a0.toNat, by omega⟩
  obtain ⟨qa, rfl⟩ : ∃ q : Nat, a1 = q := ⟨a1.toNat, by omega⟩
  obtain ⟨qb, rfl⟩ : ∃ q : Nat, a2 = q := ⟨a2.toNat, by omega⟩
  have hx : x < 18446744073709551616 := by omega
  have ha : qa ≤ 255 := by omega
  have hb : qb ≤ 255 := by omega
  clear l0 g0 l1 g1 l2 g2
  have hc64 := MM.cnt_le x
  obtain ⟨u, hu⟩ : ∃ u, qa % (MM.cnt x + 1) = u := ⟨_, rfl⟩
  obtain ⟨v, hv⟩ : ∃ v, qb % (MM.cnt x + 1) = v := ⟨_, rfl⟩
  have hu1 : u ≤ MM.cnt x := by have := Nat.mod_lt qa (show 0 < MM.cnt x + 1 by omega); omega
  have hv1 : v ≤ MM.cnt x := by have := Nat.mod_lt qb (show 0 < MM.cnt x + 1 by omega); omega
  have e1 : (qa : Int) % ((MM.cnt x : Int) + 1) = (u : Int) := by rw [← hu]; simp
  have e2 : (qb : Int) % ((MM.cnt x : Int) + 1) = (v : Int) := by rw [← hv]; simp
  have hA := Lib.hid (awake_t w hT)
  clear hT hu hv
  by_cases h : v < u
  · obtain ⟨p, q, r, y, n0, n1, n2, n3, d, D1, D2, D3⟩ := setup x v u hx (by omega) hu1
    have t : decide (v < u) = true := by simp; omega
    have E1 := Lib.hid e1
    have E2 := Lib.hid e2
    clear h e1 e2
    go_enter Tryd.func7, Tryd.ntmps7
    go_wp2_with (first
      | (go_at_call 10; refine hA.out.mono ?_; rintro e w1 ⟨rfl, hs1, hT1⟩)
      | (go_at_call 17; refine (count_any _ (by assumption) _).mono ?_; rintro e w' ⟨rfl, rfl⟩))
    go_quiet (fail)
    have hT1' : Tab (w1.drewN nq) := hT1
    have hs1' : Stays w (w1.drewN nq) := ⟨Below.drewN hs1.below nq, hT1⟩
    clear hT1 hs1
    rw [E1.out, E2.out]
    go_wp2_with (first
      | (go_at_call 11; with_reducible refine (D1.out _ (by assumption)).mono ?_; rintro e w2 ⟨rfl, hs2, hT2⟩)
      | (go_at_call 11; with_reducible refine (D2.out _ (by assumption)).mono ?_; rintro e w3 ⟨rfl, hs3, hT3⟩)
      | (go_at_call 11; with_reducible refine (D3.out _ (by assumption)).mono ?_; rintro e w4 ⟨rfl, hs4, hT4⟩))
    go_ret
    exact ⟨rfl, (((hs1'.trans hs2).trans hs3).trans hs4).below⟩
  · obtain ⟨p, q, r, y, n0, n1, n2, n3, d, D1, D2, D3⟩ := setup x u v hx (by omega) hv1
    have t : decide (v < u) = false := by simp; omega
    have E1 := Lib.hid e1
    have E2 := Lib.hid e2
    clear h e1 e2
    go_enter Tryd.func7, Tryd.ntmps7
    go_wp2_with (first
      | (go_at_call 10; refine hA.out.mono ?_; rintro e w1 ⟨rfl, hs1, hT1⟩)
      | (go_at_call 17; refine (count_any _ (by assumption) _).mono ?_; rintro e w' ⟨rfl, rfl⟩))
    go_quiet (fail)
    have hT1' : Tab (w1.drewN nq) := hT1
    have hs1' : Stays w (w1.drewN nq) := ⟨Below.drewN hs1.below nq, hT1⟩
    clear hT1 hs1
    rw [E1.out, E2.out]
    go_wp2_with (first
      | (go_at_call 11; with_reducible refine (D1.out _ (by assumption)).mono ?_; rintro e w2 ⟨rfl, hs2, hT2⟩)
      | (go_at_call 11; with_reducible refine (D2.out _ (by assumption)).mono ?_; rintro e w3 ⟨rfl, hs3, hT3⟩)
      | (go_at_call 11; with_reducible refine (D3.out _ (by assumption)).mono ?_; rintro e w4 ⟨rfl, hs4, hT4⟩))
    go_ret
    exact ⟨rfl, (((hs1'.trans hs2).trans hs3).trans hs4).below⟩

set_option maxRecDepth 100000 in
theorem lifted (os : Os) (started : os.Started) (H : Type) (enc : TypeId × Value → H) :
    ReturnsInHanded {} Tryd.checked os 7 .any (fun w args => (Rows.maskNestedSpec.pre enc Tryd.prog Tryd.f7 [] false w args ∧ laidMetH Tryd.prog laid1 w) ∧ sizedMet enc Tryd.prog Tryd.f7 (OpenSpec.ofChange Rows.maskNestedSpec) false w args)
      (Rows.maskNestedSpec.post enc Tryd.prog Tryd.f7 false true false false) := by
  refine returnsInHanded_of_change_and (C := Tryd.checked) (X := fun w _ => laidMetH Tryd.prog laid1 w) (fun _ _ _ hh h => h.of_heap hh) own started (by kernel_rfl) Tryd.func7
    (ChangeSpec.witness_shaped (enc := enc) (C := Tryd.checked) (os := os) (X := fun w _ => laidMetH Tryd.prog laid1 w) false (World.doorLaid Tryd.prog 400 os) #[.int .u64 0, .int .u8 0, .int .u8 0] 8 rfl (World.shaped_of_RefB (by kernel_rfl) (by kernel_rfl)) (by kernel_rfl) (by kernel_rfl) (by kernel_rfl) (door_met os _)) ?_
  intro W base args ds gs before hval0 hW _ _ hL _
  have hval : ∀ (j : Nat) t v, Tryd.f7.params[j]? = some t → args[j]? = some v → Value.okWide Tryd.prog W .any base t v := hval0
  have hW' := hW
  obtain ⟨p, q, hA0, hV, rfl, hfz, hnd⟩ := hW
  have hA : DataW.TrodAll enc Tryd.prog W 0 (fun _ => true) true Tryd.f7.params.toList args.toList ds p := hA0
  rw [Tryd.params7] at hA hval
  obtain ⟨v0, vs0, d0, ds0, p0, q0, hargs, rfl, rfl, h0, r0⟩ := trodAll_cons hA
  obtain ⟨v1, vs1, d1, ds1, p1, q1, rfl, rfl, rfl, h1, r1⟩ := trodAll_cons r0
  obtain ⟨v2, vs2, d2, ds2, p2, q2, rfl, rfl, rfl, h2, r2⟩ := trodAll_cons r1
  obtain ⟨rfl, rfl, rfl⟩ := trodAll_nil r2
  obtain rfl : args = #[v0, v1, v2] := by cases args; simp_all
  obtain ⟨rfl, rfl⟩ := trodVars_none hV
  obtain ⟨a0, rfl, rfl, rfl, w0⟩ := open_int Tryd.underlying22 (hval 0 22 v0 rfl rfl) h0
  obtain ⟨a1, rfl, rfl, rfl, w1⟩ := open_int Tryd.underlying5 (hval 1 5 v1 rfl rfl) h1
  obtain ⟨a2, rfl, rfl, rfl, w2⟩ := open_int Tryd.underlying5 (hval 2 5 v2 rfl rfl) h2
  have hT := of_laid hL
  clear hA0 hval0 hL
  refine (walk a0 a1 a2 W w0 w1 w2 hT).mono fun e W' ⟨he, bel⟩ => ?_
  subst he
  exact ⟨_, rfl, _, _, _, [], _, [], hW', trodAll_mk1 (shut_bool Tryd.underlying4 _), (trodAll_cons_mk (shut_int Tryd.underlying22 w0) (trodAll_cons_mk (shut_int Tryd.underlying5 w1) (trodAll_cons_mk (shut_int Tryd.underlying5 w2) trodAll_mk0))), rfl, bel.frame _, fun h => by cases h⟩

theorem row_holds : Rows.MaskNestedSaid :=
  OpenClaim.holds_of_wide 7 Tryd.f7 rfl rfl rfl rfl rfl rfl rfl ⟨rfl, rfl, rfl, rfl, rfl⟩ rfl rfl rfl rfl rfl (by kernel_rfl) Tryd.func7 (by kernel_rfl)
    (of_decide_eq_true (by kernel_rfl)) (by unfold Func.isWrapper; first | (rw [if_pos (by decide +kernel)]; kernel_rfl) | (rw [if_neg (by decide +kernel)]; exact ⟨rfl, rfl⟩))
    (fun os started H enc _ => lifted os started H enc)

/-- THE STATEMENT. -/
theorem card_holds : Rows.MaskNestedCardSaid :=
  Claim7.holds_tied_plain_at .later [] [.data] true (true, Rows.maskNestedCard.stood.harness.2) false
    row_holds (fun _ h => by cases h) (by kernel_rfl) (fun _ h => by cases h) maskNested_row_tie rfl ⟨rfl, rfl⟩ (by kernel_rfl) rfl
    (fun f fn hf hfn => by
      obtain rfl : f = 7 := Option.some.inj ((show Tryd.prog.funcNamed Rows.maskNestedRow.func = some 7 by kernel_rfl).symm.trans hf) |>.symm
      obtain rfl : fn = Tryd.f7 := (Option.some.inj (Tryd.func7.symm.trans hfn)).symm
      exact ⟨by kernel_rfl, fun j t ht => by
        rw [Tryd.params7] at ht
        have hm : t ∈ [22, 5, 5] := by simpa using Array.mem_of_getElem? ht
        have hall : ([22, 5, 5].all fun u => !Tryd.prog.wantsStandIn u) = true := by kernel_rfl
        exact (show Tryd.prog.wantsStandIn t = false by simpa using List.all_eq_true.1 hall t hm)⟩)
    (by kernel_rfl)

end Go.Proofs.YtldameiggeibnaaDoor.maskNested
