/- To what anything leads, from any state, is just as the table says, or refused; what is over stays so: the law GangNext answers true, at every input. -/
import Derived.Test.YtbomdannlcclkaaFrame
import Derived.Test.YtbomdannlcclkaaGaIn
set_option linter.unusedVariables false
namespace Go.Proofs.Ytbomdannlcclkaa.gangNext
open Go Go.ChangeShapes Go.WideShapes Go.ChangeAt Go.RowKit
set_option maxRecDepth 100000 in
set_option maxHeartbeats 4000000 in
theorem walk (s v : Int) (w : World) (ws : (Lit.int .i64 s).wf = true) (wv : (Lit.int .i64 v).wf = true) :
    Calls Try.prog 3 #[.int .i64 s, .int .i64 v] w fun e w' => e = .returned (.bool true) ∧ Below w.heap.size w w' := by
  have HA := Lib.hid (awake_any w)
  obtain ⟨a, ha⟩ : ∃ a, a = GL.nextS s v := ⟨_, rfl⟩
  obtain ⟨d, hd⟩ : ∃ d, d = GL.nextE s v := ⟨_, rfl⟩
  have H1 : Hid (∀ W, Calls Try.prog 10 #[.int .i64 s, .int .i64 v] W fun e w' => e = .returned (.tuple #[.int .i64 a, .int .i64 d]) ∧ Below W.heap.size W w') := Lib.hid (fun W => by rw [ha, hd]; exact next_any s v W)
  have H2 : Hid (∀ W, Calls Try.prog 11 #[.int .i64 s, .int .i64 v] W fun e w' => e = .returned (.tuple #[.int .i64 a, .int .i64 d]) ∧ W = w') := Lib.hid (fun W => by rw [ha, hd]; exact rnext_any s v W)
  obtain ⟨o, ho⟩ : ∃ o, o = GL.overB s := ⟨_, rfl⟩
  have H3 : Hid (∀ W, Calls Try.prog 12 #[.int .i64 s] W fun e w' => e = .returned (.bool o) ∧ W = w') := Lib.hid (fun W => by rw [ho]; exact over_any s W)
  have hod : o = (decide (4 ≤ s) && decide (s ≤ 6)) := by
    rw [ho]; unfold GL.overB
    rw [Bool.eq_iff_iff]; simp; omega
  have hde : o = true → d ≠ 0 := fun h h0 => by
    rw [hod] at h
    simp at h
    have := GL.lead_or (hd ▸ h0)
    omega
  clear ha hd ho
  go_enter Try.func3, Try.ntmps3
  go_wp2_with fail
  refine HA.out.mono ?_
  rintro e w1 ⟨rfl, hb1⟩
  have HB1 := Lib.hid hb1
  clear hb1 HA
  have K1 := H1.out w1
  go_wp2_with fail
  refine K1.mono ?_
  rintro e w2 ⟨rfl, hb2⟩
  have HB2 := Lib.hid (below_step HB1.out hb2)
  have K2 := H2.out w2
  clear K1 hb2
  go_wp2_with fail
  refine K2.mono ?_
  rintro e w3 ⟨rfl, rfl⟩
  have K3 := H3.out w2
  clear K2
  cases o
  · by_cases h1 : 4 ≤ s
    · have t1 : decide (4 ≤ s) = true := decide_eq_true h1
      have t2 : decide (s ≤ 6) = false := by rw [t1] at hod; simpa using hod.symm
      clear hod hde h1
      go_wp2_with fail
      refine K3.mono ?_
      rintro e w4 ⟨rfl, rfl⟩
      go_wp2
      go_ret
      exact ⟨by simp, HB2.out⟩
    · have t1 : decide (4 ≤ s) = false := decide_eq_false h1
      clear hod hde h1
      go_wp2_with fail
      refine K3.mono ?_
      rintro e w4 ⟨rfl, rfl⟩
      go_wp2
      go_ret
      exact ⟨by simp, HB2.out⟩
  · have t1 : decide (4 ≤ s) = true := by
      cases h : decide (4 ≤ s)
      · rw [h] at hod; simp at hod
      · rfl
    have t2 : decide (s ≤ 6) = true := by
      cases h : decide (s ≤ 6)
      · rw [h] at hod; simp at hod
      · rfl
    have t3 : (d != 0) = true := by simpa using hde rfl
    clear hod hde
    go_wp2_with fail
    refine K3.mono ?_
    rintro e w4 ⟨rfl, rfl⟩
    go_wp2
    go_ret
    exact ⟨by simp, HB2.out⟩

set_option maxRecDepth 100000 in
set_option maxHeartbeats 1000000 in
theorem lifted (os : Os) (started : os.Started) (H : Type) (enc : TypeId × Value → H) :
    ReturnsInHanded {} Try.checked os 3 .any (Rows.gangNextSpec.pre6 enc Try.prog Try.f3 Rows.gangNextRow.domain false) (Rows.gangNextSpec.post enc Try.prog Try.f3 false true false false) := by
  refine returnsInHanded_of_change (C := Try.checked) own started (by kernel_rfl) Try.func3
    (ChangeSpec.witness6 (enc := enc) (C := Try.checked) false ⟨#[], #[.int .i64 0, .int .i64 0], []⟩ 8 (by kernel_rfl) (by kernel_rfl) (by kernel_rfl) (by kernel_rfl)) ?_
  intro W base args ds gs before hval0 hW _ _
  have hval : ∀ (j : Nat) t v, Try.f3.params[j]? = some t → args[j]? = some v → Value.okWide Try.prog W .any base t v := hval0
  have hW' := hW
  obtain ⟨p, q, hA0, hV, rfl, hfz, hnd⟩ := hW
  have hA : DataW.TrodAll enc Try.prog W 0 (fun _ => true) true Try.f3.params.toList args.toList ds p := hA0
  rw [Try.params3] at hA hval
  obtain ⟨v0, vs0, d0, ds0, p0, q0, hargs, rfl, rfl, h0, r0⟩ := trodAll_cons hA
  obtain ⟨v1, vs1, d1, ds1, p1, q1, rfl, rfl, rfl, h1, r1⟩ := trodAll_cons r0
  obtain ⟨rfl, rfl, rfl⟩ := trodAll_nil r1
  obtain rfl : args = #[v0, v1] := by cases args; simp_all
  obtain ⟨rfl, rfl⟩ := trodVars_none hV
  have k0 := h0
  have lt0 : ∀ x ∈ p0, x.block < W.heap.size := by obtain ⟨m, hm⟩ := k0; exact DataW.trod_lt m _ _ _ hm
  obtain ⟨a0, rfl, _, _, w0⟩ := open_int Try.underlying3 (hval 0 3 v0 rfl rfl) h0
  have k1 := h1
  have lt1 : ∀ x ∈ p1, x.block < W.heap.size := by obtain ⟨m, hm⟩ := k1; exact DataW.trod_lt m _ _ _ hm
  obtain ⟨a1, rfl, _, _, w1⟩ := open_int Try.underlying3 (hval 1 3 v1 rfl rfl) h1
  clear hA0 hval0
  refine (walk a0 a1 W w0 w1).mono fun e W' ⟨he, bel⟩ => ?_
  subst he
  exact ⟨_, rfl, _, _, _, [], _, [], hW', trodAll_mk1 (shut_bool Try.underlying4 _), (trodAll_cons_mk (Below.trod laidOut (by kernel_rfl) (of_decide_eq_true (by kernel_rfl)) k0 bel lt0) (trodAll_cons_mk (Below.trod laidOut (by kernel_rfl) (of_decide_eq_true (by kernel_rfl)) k1 bel lt1) trodAll_mk0)), rfl, bel.frame _, fun h => by cases h⟩

/-- THE STATEMENT. -/
theorem holds : Rows.GangNextSaid :=
  OpenClaim.holds_of_wide 3 Try.f3 rfl rfl rfl rfl rfl rfl rfl ⟨rfl, rfl, rfl, rfl, rfl⟩ rfl rfl rfl rfl rfl (by kernel_rfl) Try.func3 (by kernel_rfl)
    (of_decide_eq_true (by kernel_rfl)) (by unfold Func.isWrapper; first | (rw [if_pos (by decide +kernel)]; kernel_rfl) | (rw [if_neg (by decide +kernel)]; exact ⟨rfl, rfl⟩))
    (fun os started H enc _ => lifted os started H enc)
end Go.Proofs.Ytbomdannlcclkaa.gangNext
