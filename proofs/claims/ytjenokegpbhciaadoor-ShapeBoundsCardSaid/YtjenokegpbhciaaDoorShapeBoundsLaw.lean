/- Each bound of a shape is taken; one more, or less, is refused: the law ShapeBounds answers true, at every input. The library's table of lowest units is as the program's text lays it (tied). -/
import Derived.RegionTactic
import Derived.BigRegion
import Derived.Test.YtjenokegpbhciaaDoorShapeIn
import Derived.SevenTiedAt
import Derived.Test.YtjenokegpbhciaaDoorTie
import Derived.Test.YtjenokegpbhciaaDoorCards
set_option linter.unusedVariables false
namespace Go.Proofs.YtjenokegpbhciaaDoor.shapeBounds
open Go Go.ChangeShapes Go.WideShapes Go.ChangeAt Go.RowKit
set_option maxRecDepth 100000 in
set_option maxHeartbeats 4000000 in
theorem walk (a0 : Int) (a1 : Bool) (w : World) (w0 : (Lit.int .u8 a0).wf = true) (hT : Tab w) :
    Calls Tryd.prog 7 #[.int .u8 a0, .bool a1] w fun e w' => e = .returned (.bool true) ∧ Below w.heap.size w w' := by
  have hA := Lib.hid (awake_any w hT)
  obtain ⟨b1, b2⟩ := bounds_u8 w0
  clear w0 hT
  obtain ⟨r, hr⟩ : ∃ r, a0 % 8 = r := ⟨_, rfl⟩
  have hr8 : r = 0 ∨ r = 1 ∨ r = 2 ∨ r = 3 ∨ r = 4 ∨ r = 5 ∨ r = 6 ∨ r = 7 := by omega
  have HR := Lib.hid (And.intro hr hr8)
  clear hr hr8
  cases a1
  all_goals
    go_enter Tryd.func7, Tryd.ntmps7
    go_wp2_with (first
      | (go_at_call 8; refine hA.out.mono ?_; rintro e w1 ⟨rfl, hb1⟩))
    have c0 : (w1.alloc (.cells #[.int .i64 1, .int .i64 1, .int .i64 1, .int .i64 1] 23)).cell? ⟨w1.heap.size, 0, none⟩ = some (.int .i64 1) := by go_simp
    have c1 : (w1.alloc (.cells #[.int .i64 1, .int .i64 1, .int .i64 1, .int .i64 1] 23)).cell? ⟨w1.heap.size, 1, none⟩ = some (.int .i64 1) := by go_simp
    have c2 : (w1.alloc (.cells #[.int .i64 1, .int .i64 1, .int .i64 1, .int .i64 1] 23)).cell? ⟨w1.heap.size, 2, none⟩ = some (.int .i64 1) := by go_simp
    have c3 : (w1.alloc (.cells #[.int .i64 1, .int .i64 1, .int .i64 1, .int .i64 1] 23)).cell? ⟨w1.heap.size, 3, none⟩ = some (.int .i64 1) := by go_simp
    have hbW := hb1.alloc (by have := hb1.size; omega) (.cells #[.int .i64 1, .int .i64 1, .int .i64 1, .int .i64 1] 23)
    have hzW : w1.heap.size < (w1.alloc (.cells #[.int .i64 1, .int .i64 1, .int .i64 1, .int .i64 1] 23)).heap.size := by simp
    obtain ⟨B, hB⟩ : ∃ B, B = w1.heap.size := ⟨_, rfl⟩
    have hwB : w.heap.size ≤ B := by have := hb1.size; omega
    rw [← hB] at c0 c1 c2 c3 hzW ⊢
    clear hB
    generalize (w1.alloc (.cells #[.int .i64 1, .int .i64 1, .int .i64 1, .int .i64 1] 23)) = W at *
    clear hb1 hA
    go_region
    all_goals
      clear c0 c1 c2 c3
      have HBW := Lib.hid hbW
      have hsW := hbW.size
      clear hbW
      obtain ⟨hr, hr8⟩ := HR.out
      rcases hr8 with rfl | rfl | rfl | rfl | rfl | rfl | rfl | rfl
      all_goals
        clear HR
        go_wp2_with (first
          | (go_at_call 12; refine (check_ok _ _ _ _ _ ⟨by decide, by decide, by decide, by decide⟩ (by decide)).mono ?_; rintro e w2 ⟨rfl, hb2⟩; have hc2 := fun b o (h : b < _) => hb2.cell (p := ⟨b, o, none⟩) h)
          | (go_at_call 12; refine (check_no _ _ _ _ _ ⟨by decide, by decide, by decide, by decide⟩ (by decide)).mono ?_; rintro e w3 ⟨rfl, hb3⟩))
        go_ret
        refine ⟨rfl, ((?_ : Below w.heap.size w _).trans (hb2.mono ?_)).trans (hb3.mono ?_)⟩
        · repeat (first | exact HBW.out | refine Below.drew ?_ | refine Below.setCell ?_ (by first | omega | (simp <;> omega)) _ | refine Below.alloc ?_ (by first | omega | (simp <;> omega)) _)
        · simp <;> omega
        · have := hb2.size; simp at this; omega

set_option maxRecDepth 100000 in
theorem lifted (os : Os) (started : os.Started) (H : Type) (enc : TypeId × Value → H) :
    ReturnsInHanded {} Tryd.checked os 7 .any (fun w args => (Rows.shapeBoundsSpec.pre enc Tryd.prog Tryd.f7 [] false w args ∧ laidMetH Tryd.prog laid1 w) ∧ sizedMet enc Tryd.prog Tryd.f7 (OpenSpec.ofChange Rows.shapeBoundsSpec) false w args)
      (Rows.shapeBoundsSpec.post enc Tryd.prog Tryd.f7 false true false false) := by
  refine returnsInHanded_of_change_and (C := Tryd.checked) (X := fun w _ => laidMetH Tryd.prog laid1 w) (fun _ _ _ hh h => h.of_heap hh) own started (by kernel_rfl) Tryd.func7
    (ChangeSpec.witness_shaped (enc := enc) (C := Tryd.checked) (os := os) (X := fun w _ => laidMetH Tryd.prog laid1 w) false (World.doorLaid Tryd.prog 400 os) #[.int .u8 0, .bool false] 8 rfl (World.shaped_of_RefB (by kernel_rfl) (by kernel_rfl)) (by kernel_rfl) (by kernel_rfl) (by kernel_rfl) (door_met os _)) ?_
  intro W base args ds gs before hval0 hW _ _ hL _
  have hval : ∀ (j : Nat) t v, Tryd.f7.params[j]? = some t → args[j]? = some v → Value.okWide Tryd.prog W .any base t v := hval0
  have hW' := hW
  obtain ⟨p, q, hA0, hV, rfl, hfz, hnd⟩ := hW
  have hA : DataW.TrodAll enc Tryd.prog W 0 (fun _ => true) true Tryd.f7.params.toList args.toList ds p := hA0
  rw [Tryd.params7] at hA hval
  obtain ⟨v0, vs0, d0, ds0, p0, q0, hargs, rfl, rfl, h0, r0⟩ := trodAll_cons hA
  obtain ⟨v1, vs1, d1, ds1, p1, q1, rfl, rfl, rfl, h1, r1⟩ := trodAll_cons r0
  obtain ⟨rfl, rfl, rfl⟩ := trodAll_nil r1
  obtain rfl : args = #[v0, v1] := by cases args; simp_all
  obtain ⟨rfl, rfl⟩ := trodVars_none hV
  have k0 := h0
  have lt0 : ∀ x ∈ p0, x.block < W.heap.size := by obtain ⟨m, hm⟩ := k0; exact DataW.trod_lt m _ _ _ hm
  obtain ⟨a0, rfl, _, _, w0⟩ := open_int Tryd.underlying5 (hval 0 5 v0 rfl rfl) h0
  have k1 := h1
  have lt1 : ∀ x ∈ p1, x.block < W.heap.size := by obtain ⟨m, hm⟩ := k1; exact DataW.trod_lt m _ _ _ hm
  obtain ⟨a1, rfl, _, _⟩ := open_bool Tryd.underlying4 (hval 1 4 v1 rfl rfl) h1
  have hT := of_laid hL
  clear hL
  clear hA0 hval0
  refine (walk a0 a1 W w0 hT).mono fun e W' ⟨he, bel⟩ => ?_
  subst he
  exact ⟨_, rfl, _, _, _, [], _, [], hW', trodAll_mk1 (shut_bool Tryd.underlying4 _), (trodAll_cons_mk (Below.trod laidOut (by kernel_rfl) (of_decide_eq_true (by kernel_rfl)) k0 bel lt0) (trodAll_cons_mk (Below.trod laidOut (by kernel_rfl) (of_decide_eq_true (by kernel_rfl)) k1 bel lt1) trodAll_mk0)), rfl, bel.frame _, fun h => by cases h⟩

/-- THE ROW. -/
theorem row_holds : Rows.ShapeBoundsSaid :=
  OpenClaim.holds_of_wide 7 Tryd.f7 rfl rfl rfl rfl rfl rfl rfl ⟨rfl, rfl, rfl, rfl, rfl⟩ rfl rfl rfl rfl rfl (by kernel_rfl) Tryd.func7 (by kernel_rfl)
    (of_decide_eq_true (by kernel_rfl)) (by unfold Func.isWrapper; first | (rw [if_pos (by decide +kernel)]; kernel_rfl) | (rw [if_neg (by decide +kernel)]; exact ⟨rfl, rfl⟩))
    (fun os started H enc _ => lifted os started H enc)

/-- THE STATEMENT. -/
theorem card_holds : Rows.ShapeBoundsCardSaid :=
  Claim7.holds_tied_plain_at .later [] [.data] true (true, Rows.shapeBoundsCard.stood.harness.2) false
    row_holds (fun _ h => by cases h) (by kernel_rfl) (fun _ h => by cases h) shapeBounds_row_tie rfl ⟨rfl, rfl⟩ (by kernel_rfl) rfl
    (fun f fn hf hfn => by
      obtain rfl : f = 7 := Option.some.inj ((show Tryd.prog.funcNamed Rows.shapeBoundsRow.func = some 7 by kernel_rfl).symm.trans hf) |>.symm
      obtain rfl : fn = Tryd.f7 := (Option.some.inj (Tryd.func7.symm.trans hfn)).symm
      exact ⟨by kernel_rfl, fun j t ht => by
        rw [Tryd.params7] at ht
        have hm : t ∈ [5, 4] := by simpa using Array.mem_of_getElem? ht
        have hall : ([5, 4].all fun u => !Tryd.prog.wantsStandIn u) = true := by kernel_rfl
        exact (show Tryd.prog.wantsStandIn t = false by simpa using List.all_eq_true.1 hall t hm)⟩)
    (by kernel_rfl)
end Go.Proofs.YtjenokegpbhciaaDoor.shapeBounds
