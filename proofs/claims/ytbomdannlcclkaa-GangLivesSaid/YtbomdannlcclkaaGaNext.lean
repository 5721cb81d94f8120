/- Gangs: what leads where. -/
import Derived.Deep.QuietTactic
import Derived.BigQuiet
import Derived.Lib.Hide
import Derived.Test.YtbomdannlcclkaaGaMap
namespace Go.Proofs.Ytbomdannlcclkaa
open Go.RowKit
theorem held_of_any {P : Program} {ops : Array Oper} {Q : Exit → Act → World → Prop} {md : Region.Mode} : ∀ (f : Nat) (listed : Array Bool) (a : Act) (w : World), wpAny P md ops Q f listed a w → wpAnyH P md ops Q (fun _ => True) f listed a w
  | 0, _, _, _, h => h
  | f + 1, _, _, _, h => ⟨h.1, fun i hi => wpOp_mono (fun a' w' k => ⟨trivial, held_of_any f _ a' w' k⟩) (h.2 i hi)⟩
theorem ops_lt {ops : Array Oper} {i : Nat} {o : Oper} (h : ops[i]? = some o) : i < ops.size := (Array.getElem?_eq_some_iff.1 h).1

def leadL : Prs := [((1, 1), 2), ((1, 6), 6), ((2, 2), 3), ((2, 3), 1), ((2, 5), 5), ((2, 6), 6), ((3, 4), 4), ((3, 5), 5), ((3, 6), 6)]
def leadE (i : Nat) : (Int × Int) × Int := leadL.getD (i / 2 - 1) ((0, 0), 0)
theorem leadL_nodup : (leadL.map (·.1)).Nodup := by decide
theorem leadL_small : ∀ s ∈ leadL, (Lit.int .i64 s.1.1).wf = true ∧ (Lit.int .i64 s.1.2).wf = true := by decide
theorem pairAt_zero {m : Nat} {en : Prs} {W : World} (h : PairAt W m en) : m < W.heap.size := h.lt
set_option maxRecDepth 100000 in
set_option maxHeartbeats 4000000 in
theorem leads_any (w : World) : Calls Try.prog 27 #[] w fun e w' => ∃ en, e = .returned (.map (some w.heap.size)) ∧ PairAt w' w.heap.size en ∧ en.Perm leadL ∧ Below w.heap.size w w' := by
  go_enter Try.func27, Try.ntmps27
  go_wp2_with fail
  refine held_begin (fun _ => True) (by kernel_rfl) ?_
  have hB0 : Below w.heap.size w w.drew := (Below.refl _ _).drew
  obtain ⟨wd, hwd⟩ : ∃ wd, wd = w.drew := ⟨_, rfl⟩
  obtain ⟨M, hM⟩ : ∃ M, M = wd.heap.size := ⟨_, rfl⟩
  have hMw : M = w.heap.size := by rw [hM, hwd]; rfl
  rw [← hwd] at hB0 ⊢
  clear hwd
  have HMw := Lib.hid hMw
  clear hMw
  refine held_take (v := ?_) 1 2 rfl rfl (by kernel_rfl) (by kernel_rfl) (by kernel_rfl) (fun _ _ _ h => h) ⟨by rfl, ?_⟩ trivial ?_
  rotate_left
  · intro w' hw'; go_simp; (try with_reducible rfl)
  simp only [Act.put, List.setIfInBounds_toArray, List.set_cons_zero, List.set_cons_succ]
  refine held_take (v := ?_) 3 3 rfl rfl (by kernel_rfl) (by kernel_rfl) (by kernel_rfl) (fun _ _ _ h => h) ⟨by rfl, ?_⟩ trivial ?_
  rotate_left
  · intro w' hw'; go_simp; (try with_reducible rfl)
  simp only [Act.put, List.setIfInBounds_toArray, List.set_cons_zero, List.set_cons_succ]
  refine held_take (v := ?_) 5 4 rfl rfl (by kernel_rfl) (by kernel_rfl) (by kernel_rfl) (fun _ _ _ h => h) ⟨by rfl, ?_⟩ trivial ?_
  rotate_left
  · intro w' hw'; go_simp; (try with_reducible rfl)
  simp only [Act.put, List.setIfInBounds_toArray, List.set_cons_zero, List.set_cons_succ]
  refine held_take (v := ?_) 7 5 rfl rfl (by kernel_rfl) (by kernel_rfl) (by kernel_rfl) (fun _ _ _ h => h) ⟨by rfl, ?_⟩ trivial ?_
  rotate_left
  · intro w' hw'; go_simp; (try with_reducible rfl)
  simp only [Act.put, List.setIfInBounds_toArray, List.set_cons_zero, List.set_cons_succ]
  refine held_take (v := ?_) 9 6 rfl rfl (by kernel_rfl) (by kernel_rfl) (by kernel_rfl) (fun _ _ _ h => h) ⟨by rfl, ?_⟩ trivial ?_
  rotate_left
  · intro w' hw'; go_simp; (try with_reducible rfl)
  simp only [Act.put, List.setIfInBounds_toArray, List.set_cons_zero, List.set_cons_succ]
  refine held_take (v := ?_) 11 7 rfl rfl (by kernel_rfl) (by kernel_rfl) (by kernel_rfl) (fun _ _ _ h => h) ⟨by rfl, ?_⟩ trivial ?_
  rotate_left
  · intro w' hw'; go_simp; (try with_reducible rfl)
  simp only [Act.put, List.setIfInBounds_toArray, List.set_cons_zero, List.set_cons_succ]
  refine held_take (v := ?_) 13 8 rfl rfl (by kernel_rfl) (by kernel_rfl) (by kernel_rfl) (fun _ _ _ h => h) ⟨by rfl, ?_⟩ trivial ?_
  rotate_left
  · intro w' hw'; go_simp; (try with_reducible rfl)
  simp only [Act.put, List.setIfInBounds_toArray, List.set_cons_zero, List.set_cons_succ]
  refine held_take (v := ?_) 15 9 rfl rfl (by kernel_rfl) (by kernel_rfl) (by kernel_rfl) (fun _ _ _ h => h) ⟨by rfl, ?_⟩ trivial ?_
  rotate_left
  · intro w' hw'; go_simp; (try with_reducible rfl)
  simp only [Act.put, List.setIfInBounds_toArray, List.set_cons_zero, List.set_cons_succ]
  refine held_take (v := ?_) 17 10 rfl rfl (by kernel_rfl) (by kernel_rfl) (by kernel_rfl) (fun _ _ _ h => h) ⟨by rfl, ?_⟩ trivial ?_
  rotate_left
  · intro w' hw'; go_simp; (try with_reducible rfl)
  simp only [Act.put, List.setIfInBounds_toArray, List.set_cons_zero, List.set_cons_succ]
  refine held_one 0 rfl (by kernel_rfl) (by rfl) (fun K hK => ?_)
  go_simp
  refine hK.out _ (wd.alloc (.map #[] 0)) trivial ?_
  clear hK K
  rw [← hM]
  simp only [Act.put, List.setIfInBounds_toArray, List.set_cons_zero, List.set_cons_succ]
  have hP0 : PairAt (wd.alloc (.map #[] 0)) M [] := by rw [hM]; exact PairAt.new wd
  have hB1 : Below w.heap.size w (wd.alloc (.map #[] 0)) := hB0.alloc (by have := HMw.out; omega) _
  clear hM
  generalize wd.alloc (.map #[] 0) = w1 at hP0 hB1 ⊢
  refine held_of_any _ _ _ _ ?_
  refine puts_any (m := M) (N := 19) leadE [2, 4, 6, 8, 10, 12, 14, 16, 18] ?_ ?_ (by decide) rfl (by decide) 9 [2, 4, 6, 8, 10, 12, 14, 16, 18] [] _ _ rfl (by decide) (fun _ h => h) rfl (by decide) hP0 (by simp) ?_
  · intro i hi
    simp only [List.mem_cons, List.not_mem_nil, or_false] at hi
    rcases hi with rfl | rfl | rfl | rfl | rfl | rfl | rfl | rfl | rfl
    · refine ⟨_, rfl, rfl, by decide, fun W en hP hno K hK => ?_⟩
      obtain ⟨w', hr, hP', hg⟩ := hP.put (s := (1, 1)) 2 (by decide) (by decide) hno
      have hr2 : (Instr.mapUpdate 64 (.map (some M)) (.agg #[.int .i64 1, .int .i64 1]) (.int .i64 2)).run Try.prog W = .ok () w' := hr
      have hk2 : K _ w' := hK w' hP' hg
      clear hr hK hP' hg hP hno
      unfold Oper.wp
      go_simp
      exact hk2
    · refine ⟨_, rfl, rfl, by decide, fun W en hP hno K hK => ?_⟩
      obtain ⟨w', hr, hP', hg⟩ := hP.put (s := (1, 6)) 6 (by decide) (by decide) hno
      have hr2 : (Instr.mapUpdate 64 (.map (some M)) (.agg #[.int .i64 1, .int .i64 6]) (.int .i64 6)).run Try.prog W = .ok () w' := hr
      have hk2 : K _ w' := hK w' hP' hg
      clear hr hK hP' hg hP hno
      unfold Oper.wp
      go_simp
      exact hk2
    · refine ⟨_, rfl, rfl, by decide, fun W en hP hno K hK => ?_⟩
      obtain ⟨w', hr, hP', hg⟩ := hP.put (s := (2, 2)) 3 (by decide) (by decide) hno
      have hr2 : (Instr.mapUpdate 64 (.map (some M)) (.agg #[.int .i64 2, .int .i64 2]) (.int .i64 3)).run Try.prog W = .ok () w' := hr
      have hk2 : K _ w' := hK w' hP' hg
      clear hr hK hP' hg hP hno
      unfold Oper.wp
      go_simp
      exact hk2
    · refine ⟨_, rfl, rfl, by decide, fun W en hP hno K hK => ?_⟩
      obtain ⟨w', hr, hP', hg⟩ := hP.put (s := (2, 3)) 1 (by decide) (by decide) hno
      have hr2 : (Instr.mapUpdate 64 (.map (some M)) (.agg #[.int .i64 2, .int .i64 3]) (.int .i64 1)).run Try.prog W = .ok () w' := hr
      have hk2 : K _ w' := hK w' hP' hg
      clear hr hK hP' hg hP hno
      unfold Oper.wp
      go_simp
      exact hk2
    · refine ⟨_, rfl, rfl, by decide, fun W en hP hno K hK => ?_⟩
      obtain ⟨w', hr, hP', hg⟩ := hP.put (s := (2, 5)) 5 (by decide) (by decide) hno
      have hr2 : (Instr.mapUpdate 64 (.map (some M)) (.agg #[.int .i64 2, .int .i64 5]) (.int .i64 5)).run Try.prog W = .ok () w' := hr
      have hk2 : K _ w' := hK w' hP' hg
      clear hr hK hP' hg hP hno
      unfold Oper.wp
      go_simp
      exact hk2
    · refine ⟨_, rfl, rfl, by decide, fun W en hP hno K hK => ?_⟩
      obtain ⟨w', hr, hP', hg⟩ := hP.put (s := (2, 6)) 6 (by decide) (by decide) hno
      have hr2 : (Instr.mapUpdate 64 (.map (some M)) (.agg #[.int .i64 2, .int .i64 6]) (.int .i64 6)).run Try.prog W = .ok () w' := hr
      have hk2 : K _ w' := hK w' hP' hg
      clear hr hK hP' hg hP hno
      unfold Oper.wp
      go_simp
      exact hk2
    · refine ⟨_, rfl, rfl, by decide, fun W en hP hno K hK => ?_⟩
      obtain ⟨w', hr, hP', hg⟩ := hP.put (s := (3, 4)) 4 (by decide) (by decide) hno
      have hr2 : (Instr.mapUpdate 64 (.map (some M)) (.agg #[.int .i64 3, .int .i64 4]) (.int .i64 4)).run Try.prog W = .ok () w' := hr
      have hk2 : K _ w' := hK w' hP' hg
      clear hr hK hP' hg hP hno
      unfold Oper.wp
      go_simp
      exact hk2
    · refine ⟨_, rfl, rfl, by decide, fun W en hP hno K hK => ?_⟩
      obtain ⟨w', hr, hP', hg⟩ := hP.put (s := (3, 5)) 5 (by decide) (by decide) hno
      have hr2 : (Instr.mapUpdate 64 (.map (some M)) (.agg #[.int .i64 3, .int .i64 5]) (.int .i64 5)).run Try.prog W = .ok () w' := hr
      have hk2 : K _ w' := hK w' hP' hg
      clear hr hK hP' hg hP hno
      unfold Oper.wp
      go_simp
      exact hk2
    · refine ⟨_, rfl, rfl, by decide, fun W en hP hno K hK => ?_⟩
      obtain ⟨w', hr, hP', hg⟩ := hP.put (s := (3, 6)) 6 (by decide) (by decide) hno
      have hr2 : (Instr.mapUpdate 64 (.map (some M)) (.agg #[.int .i64 3, .int .i64 6]) (.int .i64 6)).run Try.prog W = .ok () w' := hr
      have hk2 : K _ w' := hK w' hP' hg
      clear hr hK hP' hg hP hno
      unfold Oper.wp
      go_simp
      exact hk2
  · intro i o ho h1 h2 r hr
    simp only [List.mem_cons, List.not_mem_nil, or_false] at hr
    obtain rfl | rfl : i = 19 ∨ i = 20 := by omega
    · cases ho
      exact ⟨{ on := r, ground := Ground.data }, by rcases hr with rfl | rfl | rfl | rfl | rfl | rfl | rfl | rfl | rfl <;> simp, by rfl, rfl⟩
    · cases ho
      exact ⟨{ on := r, ground := Ground.phase }, by rcases hr with rfl | rfl | rfl | rfl | rfl | rfl | rfl | rfl | rfl <;> simp, by rfl, rfl⟩
  · intro w2 en2 l2 hs2 hl2 hP2 hp2 hg2
    obtain ⟨AA, hAA⟩ : ∃ AA : Array Bool, AA = #[true, true, true, true, true, true, true, true, true, true, true, true, true, true, true, true, true, true, true, false, false] := ⟨_, rfl⟩
    have hd : ∀ j, j < 21 → (AA.getD j true = false ↔ j = 19 ∨ j = 20) := by rw [hAA]; decide
    have hAs : AA.size = 21 := by rw [hAA]; rfl
    have : l2 = AA := by
      refine Array.ext (by rw [hs2, hAs]) fun j h1 h2 => ?_
      have e := (hl2 j (by omega)).trans (hd j (by omega)).symm
      simp [h1, h2] at e
      cases h3 : l2[j] <;> cases h4 : AA[j] <;> simp_all
    rw [this, hAA]
    clear hl2 hs2 hd hAs this hAA
    have hB2 : Below w.heap.size w w2 := hB1.grown hg2 (by rw [← HMw.out]; exact Nat.le_of_lt hP0.lt) (fun k e => by cases e; rw [HMw.out]; exact Nat.le_refl _)
    refine wpAny_all (rs := [19]) (by kernel_rfl) (by simp) fun i hi => ?_
    rw [List.mem_singleton] at hi
    subst hi
    unfold wpOp
    refine .inl ?_
    go_simp
    refine wpAny_all (rs := [20]) (by kernel_rfl) (by simp) fun i hi => ?_
    rw [List.mem_singleton] at hi
    subst hi
    unfold wpOp
    refine .inl ?_
    go_simp
    refine ⟨by kernel_rfl, ?_⟩
    go_wp2
    go_ret
    rw [HMw.out] at *
    exact ⟨en2, rfl, hP2, by simpa [leadE, leadL] using hp2, hB2⟩


theorem lead_hit {s v : Int} (h : GL.toS s v ≠ 0) : ((s, v), GL.toS s v) ∈ leadL := by
  rcases GL.toS_or s v with e | ⟨rfl, rfl, _⟩ | ⟨rfl, rfl, _⟩ | ⟨rfl, rfl, _⟩ | ⟨rfl, rfl, _⟩ | ⟨rfl, e, _⟩ | ⟨rfl, e1, e2, _⟩
  · exact absurd e h
  · decide
  · decide
  · decide
  · decide
  · rcases e with rfl | rfl <;> decide
  · obtain rfl | rfl | rfl : s = 1 ∨ s = 2 ∨ s = 3 := by omega
    all_goals decide
theorem lead_miss {s v : Int} (h : GL.toS s v = 0) : ∀ x ∈ leadL, ¬ (x.1.1 = s ∧ x.1.2 = v) := by
  rintro x hx ⟨rfl, rfl⟩
  have h2 : ∀ x ∈ leadL, GL.toS x.1.1 x.1.2 ≠ 0 := by decide
  exact h2 x hx h
set_option maxRecDepth 100000 in
set_option maxHeartbeats 4000000 in
theorem next_any (s v : Int) (w : World) : Calls Try.prog 10 #[.int .i64 s, .int .i64 v] w fun e w' => e = .returned (.tuple #[.int .i64 (GL.nextS s v), .int .i64 (GL.nextE s v)]) ∧ Below w.heap.size w w' := by
  cases hm : GL.may s v
  · have hS : GL.nextS s v = 0 := by unfold GL.nextS; rw [hm]; rfl
    have hE : GL.nextE s v = 1 := by unfold GL.nextE; rw [hm]; rfl
    rw [hS, hE]
    have hn : ¬ (1 ≤ s ∧ s ≤ 6 ∧ 1 ≤ v ∧ v ≤ 6) := fun h => by rw [GL.may_iff.2 h] at hm; cases hm
    clear hm hS hE
    by_cases h1 : s < 1
    · have t1 : decide (s < 1) = true := by simpa using h1
      clear hn h1
      go_enter Try.func10, Try.ntmps10
      go_wp2
      go_ret2
      exact ⟨rfl, Below.refl _ _⟩
    · have t1 : decide (s < 1) = false := by simpa using h1
      by_cases h2 : 6 < s
      · have t2 : decide (6 < s) = true := by simpa using h2
        clear hn h1 h2
        go_enter Try.func10, Try.ntmps10
        go_wp2
        go_ret2
        exact ⟨rfl, Below.refl _ _⟩
      · have t2 : decide (6 < s) = false := by simpa using h2
        by_cases h3 : v < 1
        · have t3 : decide (v < 1) = true := by simpa using h3
          clear hn h1 h2 h3
          go_enter Try.func10, Try.ntmps10
          go_wp2
          go_ret2
          exact ⟨rfl, Below.refl _ _⟩
        · have t3 : decide (v < 1) = false := by simpa using h3
          have t4 : decide (6 < v) = true := by simp; omega
          clear hn h1 h2 h3
          go_enter Try.func10, Try.ntmps10
          go_wp2
          go_ret2
          exact ⟨rfl, Below.refl _ _⟩
  · have hr := GL.may_iff.1 hm
    have wfs : (Lit.int .i64 s).wf = true := WalkArith.wf_i64 (by omega)
    have wfv : (Lit.int .i64 v).wf = true := WalkArith.wf_i64 (by omega)
    have t1 : decide (s < 1) = false := by simp; omega
    have t2 : decide (6 < s) = false := by simp; omega
    have t3 : decide (v < 1) = false := by simp; omega
    have t4 : decide (6 < v) = false := by simp; omega
    have hS : GL.nextS s v = GL.toS s v := by unfold GL.nextS; rw [hm]; rfl
    by_cases h0 : GL.toS s v = 0
    · have hE : GL.nextE s v = 8 := by unfold GL.nextE; rw [hm]; simp [h0]
      rw [hS, hE, h0]
      have HM := Lib.hid (lead_miss h0)
      clear hm hr hS hE h0
      go_enter Try.func10, Try.ntmps10
      go_wp2_with fail
      refine (leads_any w).mono ?_
      rintro e w2 ⟨en, rfl, hP, hp, hb⟩
      have hl := hP.miss wfs wfv (fun x hx => HM.out x (hp.mem_iff.1 hx))
      have HB := Lib.hid hb
      clear hP hp hb wfs wfv
      go_wp2
      go_ret2
      exact ⟨rfl, HB.out⟩
    · have hE : GL.nextE s v = 0 := by unfold GL.nextE; rw [hm]; simp [h0]
      rw [hS, hE]
      have HM := Lib.hid (lead_hit h0)
      obtain ⟨n, hn⟩ : ∃ n, n = GL.toS s v := ⟨_, rfl⟩
      rw [← hn] at HM ⊢
      clear hm hr hS hE h0 hn
      go_enter Try.func10, Try.ntmps10
      go_wp2_with fail
      refine (leads_any w).mono ?_
      rintro e w2 ⟨en, rfl, hP, hp, hb⟩
      obtain ⟨i, hi⟩ := List.getElem?_of_mem (hp.mem_iff.2 HM.out)
      have hl := hP.hit hi ((hp.map _).nodup_iff.2 leadL_nodup)
      simp only at hl
      have HB := Lib.hid hb
      clear hP hp hb wfs wfv hi
      go_wp2
      go_ret2
      exact ⟨rfl, HB.out⟩
theorem over_any (s : Int) (w : World) : Calls Try.prog 12 #[.int .i64 s] w fun e w' => e = .returned (.bool (GL.overB s)) ∧ w = w' := by
  unfold GL.overB
  obtain ⟨x, hx⟩ : ∃ x, x = decide (s = 4) := ⟨_, rfl⟩
  obtain ⟨y, hy⟩ : ∃ x, x = decide (s = 5) := ⟨_, rfl⟩
  obtain ⟨z, hz⟩ : ∃ x, x = decide (s = 6) := ⟨_, rfl⟩
  rw [← hx, ← hy, ← hz]
  have e4 : (s == 4) = x := by rw [hx]; rfl
  have e5 : (s == 5) = y := by rw [hy]; rfl
  have e6 : (s == 6) = z := by rw [hz]; rfl
  clear hx hy hz
  cases x <;> cases y <;> cases z
  all_goals (
    go_enter Try.func12, Try.ntmps12
    go_wp2
    go_ret
    exact ⟨by simp, rfl⟩)

end Go.Proofs.Ytbomdannlcclkaa
