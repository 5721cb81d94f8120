/- An id that is set anew has its new tick alone: it is due then, once; one that is dropped is never due: the law TimerMoves answers true, at every input. -/
import Derived.Test.YtdoaihmeldkahaaFrame
import Derived.Test.YtdoaihmeldkahaaTimerIn
set_option linter.unusedVariables false
namespace Go.Proofs.Ytdoaihmeldkahaa.timerMoves
open Go Go.ChangeShapes Go.WideShapes Go.ChangeAt Go.RowKit
theorem low_bits (x : Int) : ∃ y, bits .and .i64 x 1048575 = y ∧ 0 ≤ y ∧ y ≤ 1048575 := by
  refine ⟨_, rfl, ?_⟩
  have h1 : (BitVec.ofInt 64 x &&& BitVec.ofInt 64 1048575).toNat ≤ 1048575 := by
    rw [BitVec.toNat_and]
    exact Nat.and_le_right
  have e : bits .and .i64 x 1048575 = IntKind.i64.wrap ((BitVec.ofInt 64 x &&& BitVec.ofInt 64 1048575).toNat : Int) := rfl
  rw [e, IntWalk.i64_in _ (by omega)]
  omega
theorem wf_y {y : Int} (h : 0 ≤ y ∧ y ≤ 1048575) : (Lit.int .i64 y).wf = true := Go.WalkArith.wf_i64 ⟨by omega, by omega⟩
def stL (k : Nat) (y id : Int) : List En := if k = 0 then [] else [⟨y, id⟩]
theorem set_one (k : Nat) (y z id : Int) (h : 0 ≤ z ∧ z ≤ 1048575) : TM.tSet (stL k y id) id z = (0, [⟨z, id⟩]) := by
  unfold stL TM.tSet
  rw [if_neg (by omega)]
  split
  · rw [if_neg (by simp)]; rfl
  · have e1 : TM.findL id [(⟨y, id⟩ : En)] = some ⟨y, id⟩ := by simp [TM.findL]
    rw [e1, if_neg (by simp)]
    have e2 : TM.remL id [(⟨y, id⟩ : En)] = [] := by simp [TM.remL]
    rw [e2]; rfl
theorem drop_one (y id : Int) : TM.tDrop [⟨y, id⟩] id = (0, []) := by
  unfold TM.tDrop
  have e1 : TM.findL id [(⟨y, id⟩ : En)] = some ⟨y, id⟩ := by simp [TM.findL]
  have e2 : TM.remL id [(⟨y, id⟩ : En)] = [] := by simp [TM.remL]
  rw [e1, e2, if_neg (by simp)]
theorem at_one (y id : Int) : TM.atL [⟨y, id⟩] id = (y, 0) := by
  unfold TM.atL
  have e1 : TM.findL id [(⟨y, id⟩ : En)] = some ⟨y, id⟩ := by simp [TM.findL]
  rw [e1]
theorem due_no (y id : Int) : TM.dueL (y - 1) [⟨y, id⟩] = [] ∧ TM.restL (y - 1) [⟨y, id⟩] = [⟨y, id⟩] := by
  have e : decide (y ≤ y - 1) = false := decide_eq_false (by omega)
  unfold TM.dueL TM.restL
  rw [List.takeWhile_cons, List.dropWhile_cons]
  simp only [e]
  simp
/-- Due, its slice's form. -/
theorem due_f (p : Nat) (F : Nat → Prop) (L : List En) (now : Int) (w : World) (h : TObj w p F L) (D : List Int) (hD : TM.dueL now L = D) (R : List En) (hR : TM.restL now L = R) :
    Calls Try.prog 14 #[.pointer (some ⟨p, 0, none⟩), .int .i64 now] w fun e w' => ∃ A c F', e = .returned (.slice A D.length c) ∧ TObj w' p F' R ∧ Foot F w w' ∧ (∀ j, F' j → F j ∨ w.heap.size ≤ j) ∧ Nums w' w'.heap.size A D :=
  (due_t p F L now w h).mono fun e w' hq => by
    obtain ⟨v, F', rfl, hown, h1, h2, h3, _⟩ := hq
    rw [hD] at hown
    rw [hR] at h1
    obtain ⟨A, c, rfl, hu, _⟩ := nums_own hown rfl
    exact ⟨A, c, F', rfl, h1, h2, h3, hu⟩
set_option maxRecDepth 100000 in
set_option maxHeartbeats 4000000 in
theorem walk (a0 : Int) (a1 : Option Addr) (c1 : Nat) (l1 : List Int) (a2 : Bool) (w : World) (w0 : (Lit.int .i64 a0).wf = true) (v1 : Nums w w.heap.size a1 l1) (q1 : ∀ a ∈ l1, (Lit.int .i64 a).wf = true) (lc1 : l1.length ≤ c1) (mc1 : c1 ≤ maxLen) :
    Calls Try.prog 6 #[.int .i64 a0, .slice a1 l1.length c1, .bool a2] w fun e w' => e = .returned (.bool true) ∧ Below w.heap.size w w' := by
  have hA := Lib.hid (fun W => awake_t W)
  have hNew := Lib.hid (fun W => new_t W)
  have HI := Lib.hid w0
  obtain ⟨n, hn⟩ : ∃ n, n = l1.length := ⟨_, rfl⟩
  have HV := Lib.hid (And.intro v1 hn)
  unfold maxLen at mc1
  rw [← hn] at lc1 ⊢
  clear v1 q1 hn w0
  by_cases h60 : 60 < n
  · have t0 : decide ((60 : Int) < (n : Int)) = true := decide_eq_true (by omega)
    go_enter Try.func6, Try.ntmps6
    go_wp2_with (go_at_call 7; refine (hA.out _).mono ?_; rintro e w2 ⟨rfl, hb2⟩)
    go_ret
    exact ⟨rfl, hb2⟩
  have t0 : decide ((60 : Int) < (n : Int)) = false := decide_eq_false (by omega)
  by_cases hz : n = 0
  · subst hz
    go_enter Try.func6, Try.ntmps6
    go_wp2_with (go_at_call 7; refine (hA.out _).mono ?_; rintro e w2 ⟨rfl, hb2⟩)
    go_ret
    exact ⟨rfl, hb2⟩
  have t1 : ((n : Int) == 0) = false := by simp; omega
  go_enter Try.func6, Try.ntmps6
  go_wp2_with fail
  refine (hA.out _).mono ?_
  rintro e w2 ⟨rfl, hb2⟩
  go_wp2_with fail
  refine (hNew.out _).mono ?_
  rintro e w3 ⟨p, F3, rfl, h3, hb3, hy3⟩
  have T3 := Lib.hid (TIn.made hb2 h3 hb3 hy3)
  clear hb2 h3 hb3 hy3
  go_wp2_with fail
  go_loopw [8, 9, 10] (fun la i _ wr => ∃ (k : Nat) (y : Int), i = .int .i64 k ∧ la = .int .i64 y ∧ k ≤ n ∧ 0 ≤ y ∧ y ≤ 1048575 ∧ Hid (∃ F, TIn w wr p F (stL k y a0))) (fun _ i _ _ => n - (intOf i).toNat)
  case atStart => exact ⟨0, 0, rfl, rfl, by omega, by omega, by omega, Lib.hid ⟨F3, T3.out⟩⟩
  case round =>
    clear T3
    obtain ⟨k, y, rfl, rfl, hk, hy0, hy1, hin⟩ := hrel
    obtain ⟨F, T⟩ := hin.out
    by_cases hlt : k < n
    · obtain ⟨x, hx⟩ := get_lt (l := l1) (k := k) (by rw [← HV.out.2]; exact hlt)
      obtain ⟨b, off, rfl, hb, hc⟩ := HV.out.1.at_ hx
      have hcx := (hc k _ hx).keep hb T.bel
      have z0 : wr.cell? ⟨b, off + k, none⟩ = some (.int .i64 x) := by have := hcx 0 _ rfl; simpa using this
      obtain ⟨z, hz1, hz2, hz3⟩ := low_bits x
      have t2 : decide (k < n) = true := decide_eq_true hlt
      have HS := Lib.hid (set_t p F _ a0 z wr T.at_ HI.out)
      rw [set_one k y z a0 ⟨hz2, hz3⟩] at HS
      have HT := Lib.hid T
      clear hcx hc hx T hin
      go_wp2_with fail
      refine HS.out.mono ?_
      rintro e w5 ⟨rfl, F5, h5, hf5, hy5⟩
      have HT5 := Lib.hid (HT.out.foot h5 hf5 hy5)
      have HL := Lib.hid (len_t p F5 _ w5 h5)
      simp only [List.length_cons, List.length_nil] at HL
      clear h5 hf5 hy5
      go_wp2_with (go_at_call 17; refine HL.out.mono ?_; rintro e w6 ⟨rfl, rfl⟩)
      go_roundw
      case rel => exact ⟨k + 1, z, by go_num, rfl, by omega, hz2, hz3, Lib.hid ⟨F5, by unfold stL; rw [if_neg (by omega)]; exact HT5.out⟩⟩
      case measure => simp [intOf]; omega
    · obtain rfl : k = n := by omega
      have e0 : stL k y a0 = [⟨y, a0⟩] := by unfold stL; rw [if_neg hz]
      rw [e0] at T
      have HT := Lib.hid T
      have ty : (y == y) = true := by simp
      clear hlt hin e0
      cases a2
      · have HAt := Lib.hid (at_t p F _ a0 wr T.at_ HI.out)
        rw [at_one] at HAt
        clear T
        have tn : (y != y) = false := by simp
        go_wp2_with fail
        refine HAt.out.mono ?_
        rintro e w5 ⟨rfl, rfl⟩
        have HD := Lib.hid (due_f p F _ (y - 1) wr HT.out.at_ [] (due_no y a0).1 [⟨y, a0⟩] (due_no y a0).2)
        go_wp2_with fail
        refine HD.out.mono ?_
        rintro e w6 ⟨A6, c6, F6, rfl, h6, hf6, hy6, _⟩
        have HT6 := Lib.hid (HT.out.foot h6 hf6 hy6)
        clear h6 hf6 hy6
        go_wp2_with fail
        have HD2 := Lib.hid (due_f p F6 _ y w6 HT6.out.at_ [a0] (by simp [TM.dueL]) [] (by simp [TM.restL]))
        refine HD2.out.mono ?_
        rintro e w7 ⟨A7, c7, F7, rfl, h7, hf7, hy7, hu7⟩
        have HT7 := Lib.hid (HT6.out.foot h7 hf7 hy7)
        have HU7 := Lib.hid hu7
        clear h7 hf7 hy7 hu7
        go_wp2_with fail
        have hB8 := (Below.refl w7.heap.size w7).alloc (Nat.le_refl _) (.cells #[.int .i64 a0] 3)
        have hU8 : Nums (w7.alloc (.cells #[.int .i64 a0] 3)) (w7.alloc (.cells #[.int .i64 a0] 3)).heap.size (some ⟨w7.heap.size, 0, none⟩) [a0] :=
          els_blk intC_len (heap_alloc_new w7 _) (fun j v hj => by simpa [intC] using hj)
        have HT8 := Lib.hid (HT7.out.keep hB8)
        refine (ints_any A7 _ c7 1 _ _ [a0] [a0] _ (HU7.out.keep hB8 (Nat.le_refl _)) hU8 hB8.size (Nat.le_refl _) (by simp)).mono ?_
        rintro e w9 ⟨rfl, hb9⟩
        have HT9 := Lib.hid (HT8.out.keep hb9)
        clear hb9 hB8 hU8
        rw [decide_eq_true rfl]
        go_wp2_with fail
        have HD3 := Lib.hid (due_f p F7 _ 1073741824 w9 HT9.out.at_ [] rfl [] rfl)
        refine HD3.out.mono ?_
        rintro e w10 ⟨A10, c10, F10, rfl, h10, hf10, hy10, _⟩
        have HT10 := Lib.hid (HT9.out.foot h10 hf10 hy10)
        clear h10 hf10 hy10
        go_wp2_with fail
        go_ret
        exact ⟨by simp, HT10.out.bel⟩
      · have HDr := Lib.hid (drop_t p F _ a0 wr T.at_ HI.out)
        rw [drop_one] at HDr
        clear T
        go_wp2_with fail
        refine HDr.out.mono ?_
        rintro e w5 ⟨rfl, h5, hf5⟩
        have HT5 := Lib.hid (HT.out.foot h5 hf5 (fun j hj => .inl hj))
        clear h5 hf5
        go_wp2_with fail
        have HD3 := Lib.hid (due_f p F _ 1073741824 w5 HT5.out.at_ [] rfl [] rfl)
        refine HD3.out.mono ?_
        rintro e w10 ⟨A10, c10, F10, rfl, h10, hf10, hy10, _⟩
        have HT10 := Lib.hid (HT5.out.foot h10 hf10 hy10)
        clear h10 hf10 hy10
        have HL := Lib.hid (len_t p F10 _ w10 HT10.out.at_)
        simp only [List.length_nil] at HL ⊢
        go_wp2_with (go_at_call 17; refine HL.out.mono ?_; rintro e w6 ⟨rfl, rfl⟩)
        go_ret
        exact ⟨by simp, HT10.out.bel⟩

set_option maxRecDepth 100000 in
set_option maxHeartbeats 1000000 in
theorem lifted (os : Os) (started : os.Started) (H : Type) (enc : TypeId × Value → H) :
    ReturnsInHanded {} Try.checked os 6 .any (Rows.timerMovesSpec.pre6 enc Try.prog Try.f6 Rows.timerMovesRow.domain false) (Rows.timerMovesSpec.post enc Try.prog Try.f6 false true false false) := by
  refine returnsInHanded_of_change (C := Try.checked) own started (by kernel_rfl) Try.func6
    (ChangeSpec.witness6 (enc := enc) (C := Try.checked) false ⟨#[], #[.int .i64 0, .slice none 0 0, .bool false], []⟩ 8 (by kernel_rfl) (by kernel_rfl) (by kernel_rfl) (by kernel_rfl)) ?_
  intro W base args ds gs before hval0 hW _ _
  have hval : ∀ (j : Nat) t v, Try.f6.params[j]? = some t → args[j]? = some v → Value.okWide Try.prog W .any base t v := hval0
  have hW' := hW
  obtain ⟨p, q, hA0, hV, rfl, hfz, hnd⟩ := hW
  have hA : DataW.TrodAll enc Try.prog W 0 (fun _ => true) true Try.f6.params.toList args.toList ds p := hA0
  rw [Try.params6] at hA hval
  obtain ⟨v0, vs0, d0, ds0, p0, q0, hargs, rfl, rfl, h0, r0⟩ := trodAll_cons hA
  obtain ⟨v1, vs1, d1, ds1, p1, q1, rfl, rfl, rfl, h1, r1⟩ := trodAll_cons r0
  obtain ⟨v2, vs2, d2, ds2, p2, q2, rfl, rfl, rfl, h2, r2⟩ := trodAll_cons r1
  obtain ⟨rfl, rfl, rfl⟩ := trodAll_nil r2
  obtain rfl : args = #[v0, v1, v2] := by cases args; simp_all
  obtain ⟨rfl, rfl⟩ := trodVars_none hV
  have k0 := h0
  have lt0 : ∀ x ∈ p0, x.block < W.heap.size := by obtain ⟨m, hm⟩ := k0; exact DataW.trod_lt m _ _ _ hm
  obtain ⟨a0, rfl, _, _, w0⟩ := open_int Try.underlying3 (hval 0 3 v0 rfl rfl) h0
  have k1 := h1
  have lt1 : ∀ x ∈ p1, x.block < W.heap.size := by obtain ⟨m, hm⟩ := k1; exact DataW.trod_lt m _ _ _ hm
  obtain ⟨a1, c1, l1, rfl, lc1, mc1, v1, q1⟩ := nums_of (hval 1 38 v1 rfl rfl) h1
  have k2 := h2
  have lt2 : ∀ x ∈ p2, x.block < W.heap.size := by obtain ⟨m, hm⟩ := k2; exact DataW.trod_lt m _ _ _ hm
  obtain ⟨a2, rfl, _, _⟩ := open_bool Try.underlying4 (hval 2 4 v2 rfl rfl) h2
  clear hA0 hval0
  refine (walk a0 a1 c1 l1 a2 W w0 v1 q1 lc1 mc1).mono fun e W' ⟨he, bel⟩ => ?_
  subst he
  exact ⟨_, rfl, _, _, _, [], _, [], hW', trodAll_mk1 (shut_bool Try.underlying4 _), (trodAll_cons_mk (Below.trod laidOut (by kernel_rfl) (of_decide_eq_true (by kernel_rfl)) k0 bel lt0) (trodAll_cons_mk (Below.trod laidOut (by kernel_rfl) (of_decide_eq_true (by kernel_rfl)) k1 bel lt1) (trodAll_cons_mk (Below.trod laidOut (by kernel_rfl) (of_decide_eq_true (by kernel_rfl)) k2 bel lt2) trodAll_mk0))), rfl, bel.frame _, fun h => by cases h⟩

/-- THE STATEMENT. -/
theorem holds : Rows.TimerMovesSaid :=
  OpenClaim.holds_of_wide 6 Try.f6 rfl rfl rfl rfl rfl rfl rfl ⟨rfl, rfl, rfl, rfl, rfl⟩ rfl rfl rfl rfl rfl (by kernel_rfl) Try.func6 (by kernel_rfl)
    (of_decide_eq_true (by kernel_rfl)) (by unfold Func.isWrapper; first | (rw [if_pos (by decide +kernel)]; kernel_rfl) | (rw [if_neg (by decide +kernel)]; exact ⟨rfl, rfl⟩))
    (fun os started H enc _ => lifted os started H enc)
end Go.Proofs.Ytdoaihmeldkahaa.timerMoves
