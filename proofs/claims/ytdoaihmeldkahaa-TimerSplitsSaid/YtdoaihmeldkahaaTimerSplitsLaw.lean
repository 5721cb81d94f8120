/- What is due at one tick, and then at a later one, is what is due at the later one alone; what isn't due stays: the law TimerSplits answers true, at every input. -/
import Derived.Test.YtdoaihmeldkahaaFrame
import Derived.Test.YtdoaihmeldkahaaElsApp
import Derived.Test.YtdoaihmeldkahaaTimerTwo
set_option linter.unusedVariables false
namespace Go.Proofs.Ytdoaihmeldkahaa.timerSplits
open Go Go.ChangeShapes Go.WideShapes Go.ChangeAt Go.RowKit
theorem due_len (now : Int) (L : List En) : (TM.dueL now L).length ≤ L.length ∧ (TM.restL now L).length ≤ L.length := by
  refine ⟨?_, (List.dropWhile_sublist _).length_le⟩
  unfold TM.dueL
  rw [List.length_map]
  exact (List.takeWhile_sublist _).length_le
theorem next_rest (b : Int) (L : List En) : (TM.nextL (TM.restL b L)).2 = false ∨ ((TM.nextL (TM.restL b L)).2 = true ∧ b < (TM.nextL (TM.restL b L)).1) := by
  induction L with
  | nil => exact .inl rfl
  | cons x l ih =>
    unfold TM.restL at *
    rw [List.dropWhile_cons]
    by_cases h : x.k ≤ b
    · rw [if_pos (decide_eq_true h)]; exact ih
    · rw [if_neg (by simpa using h)]
      exact .inr ⟨rfl, by show b < x.k; omega⟩
set_option maxRecDepth 100000 in
set_option maxHeartbeats 4000000 in
theorem walk (a0 : Option Addr) (c0 : Nat) (l0 : List Ta) (a1 a2 : Int) (w : World) (v0 : Tas w w.heap.size a0 l0) (q0 : ∀ a ∈ l0, TaOk a) (lc0 : l0.length ≤ c0) (mc0 : c0 ≤ maxLen) (wa1 : (Lit.int .i64 a1).wf = true) (wa2 : (Lit.int .i64 a2).wf = true) :
    Calls Try.prog 5 #[.slice a0 l0.length c0, .int .i64 a1, .int .i64 a2] w fun e w' => e = .returned (.bool true) ∧ Below w.heap.size w w' := by
  obtain ⟨i0, hi, hz0, hz1, hz2⟩ := info_parts info_intT
  have hA := Lib.hid (fun W => awake_t W)
  have hNew := Lib.hid (fun W => new_t W)
  obtain ⟨n, hn⟩ : ∃ n, n = l0.length := ⟨_, rfl⟩
  have HV := Lib.hid (And.intro v0 (And.intro hn q0))
  unfold maxLen at mc0
  rw [← hn] at lc0 ⊢
  clear v0 q0 hn wa1 wa2
  by_cases h200 : 200 < n
  · have t0 : decide ((200 : Int) < (n : Int)) = true := decide_eq_true (by omega)
    go_enter Try.func5, Try.ntmps5
    go_wp2_with (go_at_call 7; refine (hA.out _).mono ?_; rintro e w2 ⟨rfl, hb2⟩)
    go_ret
    exact ⟨rfl, hb2⟩
  have t0 : decide ((200 : Int) < (n : Int)) = false := decide_eq_false (by omega)
  by_cases hab : a2 < a1
  · have t1 : decide (a2 < a1) = true := decide_eq_true hab
    go_enter Try.func5, Try.ntmps5
    go_wp2_with (go_at_call 7; refine (hA.out _).mono ?_; rintro e w2 ⟨rfl, hb2⟩)
    go_ret
    exact ⟨rfl, hb2⟩
  have t1 : decide (a2 < a1) = false := decide_eq_false hab
  go_enter Try.func5, Try.ntmps5
  go_wp2_with fail
  refine (hA.out _).mono ?_
  rintro e w2 ⟨rfl, hb2⟩
  go_wp2_with fail
  refine (hNew.out _).mono ?_
  rintro e w3 ⟨p, F3, rfl, h3, hb3, hy3⟩
  have T3 := TIn.made hb2 h3 hb3 hy3
  go_wp2_with fail
  refine (hNew.out _).mono ?_
  rintro e w4 ⟨q, G4, rfl, h4, hb4, hy4⟩
  have T4 := Lib.hid (TwoT.made T3 hb4 h4 hy4)
  clear hb2 h3 hb3 hy3 T3 h4 hb4 hy4
  go_wp2_with fail
  go_loopw [9] (fun i wr => ∃ k : Nat, i = .int .i64 k ∧ k ≤ n ∧ Hid (∃ F G L, TwoT w wr p F L q G L)) (fun i _ => n - (intOf i).toNat)
  case atStart => exact ⟨0, rfl, by omega, Lib.hid ⟨F3, G4, [], T4.out⟩⟩
  case round =>
    clear T4
    obtain ⟨k, rfl, hk, hin⟩ := hrel
    obtain ⟨F, G, L, T⟩ := hin.out
    by_cases hlt : k < n
    · obtain ⟨x, hx⟩ := get_lt (l := l0) (k := k) (by rw [← HV.out.2.1]; exact hlt)
      have xok := HV.out.2.2 x (List.mem_of_getElem? hx)
      obtain ⟨bb, off, rfl, hb, hc⟩ := HV.out.1.at_ hx
      have hcx := (hc k _ hx).keep hb T.s.bel
      have z0 : wr.cell? ⟨bb, off + k * 3, none⟩ = some (.int .i64 x.a) := by have := hcx 0 _ rfl; simpa using this
      have z1 : wr.cell? ⟨bb, off + k * 3 + 1, none⟩ = some (.int .i64 x.i) := hcx 1 _ rfl
      have z2 : wr.cell? ⟨bb, off + k * 3 + 2, none⟩ = some (.int .i64 x.k) := hcx 2 _ rfl
      have t2 : decide (k < n) = true := decide_eq_true hlt
      have hbF : ¬ F bb := fun hf => by have := T.s.yg bb hf; omega
      have hbG : ¬ G bb := fun hf => by have := T.t.yg bb hf; omega
      have hbw : bb < wr.heap.size := by have := T.s.bel.size; omega
      have HT := Lib.hid T
      have XI := Lib.hid xok.i
      clear hcx hc hx T hin xok
      by_cases h1 : x.a = 1
      · have t3 : (x.a == 1) = true := by simp [h1]
        have HD1 := Lib.hid (fun W hW => drop_t p F L x.i W hW XI.out)
        have HD2 := Lib.hid (fun W hW => drop_t q G L x.i W hW XI.out)
        go_wp2_with fail
        refine (HD1.out _ HT.out.s.at_).mono ?_
        rintro e w5 ⟨rfl, h5, hf5⟩
        have HT5 := Lib.hid (HT.out.left h5 hf5 (fun j hj => .inl hj))
        have y1 := (hf5.cell (p := ⟨bb, off + k * 3 + 1, none⟩) hbw hbF).trans z1
        have hs5 := hf5.size
        clear h5 hf5 z0 z1 z2
        go_wp2_with fail
        refine (HD2.out _ HT5.out.t.at_).mono ?_
        rintro e w6 ⟨rfl, h6, hf6⟩
        have HT6 := Lib.hid (HT5.out.right h6 hf6 (fun j hj => .inl hj))
        clear h6 hf6 y1
        go_wp2_with fail
        go_roundw
        case rel => exact ⟨k + 1, by go_num, by omega, Lib.hid ⟨_, _, _, HT6.out⟩⟩
        case measure => simp [intOf]; omega
      · have t3 : (x.a == 1) = false := by simpa using h1
        have HS1 := Lib.hid (fun W hW => set_t p F L x.i x.k W hW XI.out)
        have HS2 := Lib.hid (fun W hW => set_t q G L x.i x.k W hW XI.out)
        have HTd := Lib.hid (HT.out.keep (Below.refl wr.heap.size wr).drew)
        have hfd : Foot F wr wr.drew := (Foot.refl F wr).drew
        go_wp2_with fail
        refine held_begin (fun w' : World => w'.cell? ⟨bb, off + k * 3 + 1, none⟩ = some (.int .i64 x.i) ∧ w'.cell? ⟨bb, off + k * 3 + 2, none⟩ = some (.int .i64 x.k)) (by kernel_rfl) ?_
        have hBu0 : Foot F wr wr.drew := (Foot.refl _ _).drew
        have hSu0 : (fun w' : World => w'.cell? ⟨bb, off + k * 3 + 1, none⟩ = some (.int .i64 x.i) ∧ w'.cell? ⟨bb, off + k * 3 + 2, none⟩ = some (.int .i64 x.k)) wr.drew := ⟨z1, z2⟩
        refine held_take (v := ?_) 0 58 rfl rfl (by kernel_rfl) (by kernel_rfl) (by kernel_rfl) (fun _ _ _ h => h) ⟨by rfl, ?_⟩ hSu0 ?_
        rotate_left
        · intro w' hw'; obtain ⟨x0, x1⟩ := hw'; go_simp; (try with_reducible rfl)
        simp only [Act.put, List.setIfInBounds_toArray, List.set_cons_zero, List.set_cons_succ]
        refine held_take (v := ?_) 1 59 rfl rfl (by kernel_rfl) (by kernel_rfl) (by kernel_rfl) (fun _ _ _ h => h) ⟨by rfl, ?_⟩ hSu0 ?_
        rotate_left
        · intro w' hw'; obtain ⟨x0, x1⟩ := hw'; go_simp; (try with_reducible rfl)
        simp only [Act.put, List.setIfInBounds_toArray, List.set_cons_zero, List.set_cons_succ]
        refine held_take (v := ?_) 2 60 rfl rfl (by kernel_rfl) (by kernel_rfl) (by kernel_rfl) (fun _ _ _ h => h) ⟨by rfl, ?_⟩ hSu0 ?_
        rotate_left
        · intro w' hw'; obtain ⟨x0, x1⟩ := hw'; go_simp; (try with_reducible rfl)
        simp only [Act.put, List.setIfInBounds_toArray, List.set_cons_zero, List.set_cons_succ]
        refine held_take (v := ?_) 3 61 rfl rfl (by kernel_rfl) (by kernel_rfl) (by kernel_rfl) (fun _ _ _ h => h) ⟨by rfl, ?_⟩ hSu0 ?_
        rotate_left
        · intro w' hw'; obtain ⟨x0, x1⟩ := hw'; go_simp; (try with_reducible rfl)
        simp only [Act.put, List.setIfInBounds_toArray, List.set_cons_zero, List.set_cons_succ]
        refine held_take (v := ?_) 4 62 rfl rfl (by kernel_rfl) (by kernel_rfl) (by kernel_rfl) (fun _ _ _ h => h) ⟨by rfl, ?_⟩ hSu0 ?_
        rotate_left
        · intro w' hw'; obtain ⟨x0, x1⟩ := hw'; go_simp; (try with_reducible rfl)
        simp only [Act.put, List.setIfInBounds_toArray, List.set_cons_zero, List.set_cons_succ]
        refine held_take (v := ?_) 5 63 rfl rfl (by kernel_rfl) (by kernel_rfl) (by kernel_rfl) (fun _ _ _ h => h) ⟨by rfl, ?_⟩ hSu0 ?_
        rotate_left
        · intro w' hw'; obtain ⟨x0, x1⟩ := hw'; go_simp; (try with_reducible rfl)
        simp only [Act.put, List.setIfInBounds_toArray, List.set_cons_zero, List.set_cons_succ]
        refine held_take (v := ?_) 6 64 rfl rfl (by kernel_rfl) (by kernel_rfl) (by kernel_rfl) (fun _ _ _ h => h) ⟨by rfl, ?_⟩ hSu0 ?_
        rotate_left
        · intro w' hw'; obtain ⟨x0, x1⟩ := hw'; go_simp; (try with_reducible rfl)
        simp only [Act.put, List.setIfInBounds_toArray, List.set_cons_zero, List.set_cons_succ]
        refine held_take (v := ?_) 7 65 rfl rfl (by kernel_rfl) (by kernel_rfl) (by kernel_rfl) (fun _ _ _ h => h) ⟨by rfl, ?_⟩ hSu0 ?_
        rotate_left
        · intro w' hw'; obtain ⟨x0, x1⟩ := hw'; go_simp; (try with_reducible rfl)
        simp only [Act.put, List.setIfInBounds_toArray, List.set_cons_zero, List.set_cons_succ]
        refine held_take (v := ?_) 8 66 rfl rfl (by kernel_rfl) (by kernel_rfl) (by kernel_rfl) (fun _ _ _ h => h) ⟨by rfl, ?_⟩ hSu0 ?_
        rotate_left
        · intro w' hw'; obtain ⟨x0, x1⟩ := hw'; go_simp; (try with_reducible rfl)
        simp only [Act.put, List.setIfInBounds_toArray, List.set_cons_zero, List.set_cons_succ]
        refine held_take (v := ?_) 9 67 rfl rfl (by kernel_rfl) (by kernel_rfl) (by kernel_rfl) (fun _ _ _ h => h) ⟨by rfl, ?_⟩ hSu0 ?_
        rotate_left
        · intro w' hw'; obtain ⟨x0, x1⟩ := hw'; go_simp; (try with_reducible rfl)
        simp only [Act.put, List.setIfInBounds_toArray, List.set_cons_zero, List.set_cons_succ]
        refine held_take (v := ?_) 10 68 rfl rfl (by kernel_rfl) (by kernel_rfl) (by kernel_rfl) (fun _ _ _ h => h) ⟨by rfl, ?_⟩ hSu0 ?_
        rotate_left
        · intro w' hw'; obtain ⟨x0, x1⟩ := hw'; go_simp; (try with_reducible rfl)
        simp only [Act.put, List.setIfInBounds_toArray, List.set_cons_zero, List.set_cons_succ]
        refine held_one 11 rfl (by kernel_rfl) (by rfl) (fun K hK => ?_)
        go_simp
        go_at_call 9
        refine (HS1.out wr.drew HTd.out.s.at_).mono ?_
        rintro e wu1 ⟨rfl, Fu, hOu, hbu1, hyu⟩
        have hBu1 : Foot F wr wu1 := hBu0.trans hbu1 (fun i hi => .inl hi)
        have hSu1 : (fun w' : World => w'.cell? ⟨bb, off + k * 3 + 1, none⟩ = some (.int .i64 x.i) ∧ w'.cell? ⟨bb, off + k * 3 + 2, none⟩ = some (.int .i64 x.k)) wu1 := ⟨(hBu1.cell (p := ⟨bb, off + k * 3 + 1, none⟩) (show bb < wr.heap.size by omega) (hbF)).trans z1, (hBu1.cell (p := ⟨bb, off + k * 3 + 2, none⟩) (show bb < wr.heap.size by omega) (hbF)).trans z2⟩
        refine hK.out _ _ hSu1 ?_
        clear hK K
        refine wpAnyH_done (by kernel_rfl) ?_ _
        have hfq := hBu1
        have HT5 := Lib.hid (show TwoT w wu1 p Fu _ q G L from HTd.out.left hOu hbu1 hyu)
        have y1 := (hfq.cell (p := ⟨bb, off + k * 3 + 1, none⟩) hbw hbF).trans z1
        have y2 := (hfq.cell (p := ⟨bb, off + k * 3 + 2, none⟩) hbw hbF).trans z2
        have hs5 := hfq.size
        have HTe := Lib.hid (HT5.out.keep (Below.refl wu1.heap.size wu1).drew)
        clear hOu hyu hfq hfd hbu1 hBu1 hSu1 hBu0 hSu0 z0 z1 z2
        go_wp2_with fail
        refine held_begin (fun w' : World => w'.cell? ⟨bb, off + k * 3 + 1, none⟩ = some (.int .i64 x.i) ∧ w'.cell? ⟨bb, off + k * 3 + 2, none⟩ = some (.int .i64 x.k)) (by kernel_rfl) ?_
        have hBv0 : Foot G wu1 wu1.drew := (Foot.refl _ _).drew
        have hSv0 : (fun w' : World => w'.cell? ⟨bb, off + k * 3 + 1, none⟩ = some (.int .i64 x.i) ∧ w'.cell? ⟨bb, off + k * 3 + 2, none⟩ = some (.int .i64 x.k)) wu1.drew := ⟨y1, y2⟩
        refine held_take (v := ?_) 0 70 rfl rfl (by kernel_rfl) (by kernel_rfl) (by kernel_rfl) (fun _ _ _ h => h) ⟨by rfl, ?_⟩ hSv0 ?_
        rotate_left
        · intro w' hw'; obtain ⟨x0, x1⟩ := hw'; go_simp; (try with_reducible rfl)
        simp only [Act.put, List.setIfInBounds_toArray, List.set_cons_zero, List.set_cons_succ]
        refine held_take (v := ?_) 1 71 rfl rfl (by kernel_rfl) (by kernel_rfl) (by kernel_rfl) (fun _ _ _ h => h) ⟨by rfl, ?_⟩ hSv0 ?_
        rotate_left
        · intro w' hw'; obtain ⟨x0, x1⟩ := hw'; go_simp; (try with_reducible rfl)
        simp only [Act.put, List.setIfInBounds_toArray, List.set_cons_zero, List.set_cons_succ]
        refine held_take (v := ?_) 2 72 rfl rfl (by kernel_rfl) (by kernel_rfl) (by kernel_rfl) (fun _ _ _ h => h) ⟨by rfl, ?_⟩ hSv0 ?_
        rotate_left
        · intro w' hw'; obtain ⟨x0, x1⟩ := hw'; go_simp; (try with_reducible rfl)
        simp only [Act.put, List.setIfInBounds_toArray, List.set_cons_zero, List.set_cons_succ]
        refine held_take (v := ?_) 3 73 rfl rfl (by kernel_rfl) (by kernel_rfl) (by kernel_rfl) (fun _ _ _ h => h) ⟨by rfl, ?_⟩ hSv0 ?_
        rotate_left
        · intro w' hw'; obtain ⟨x0, x1⟩ := hw'; go_simp; (try with_reducible rfl)
        simp only [Act.put, List.setIfInBounds_toArray, List.set_cons_zero, List.set_cons_succ]
        refine held_take (v := ?_) 4 74 rfl rfl (by kernel_rfl) (by kernel_rfl) (by kernel_rfl) (fun _ _ _ h => h) ⟨by rfl, ?_⟩ hSv0 ?_
        rotate_left
        · intro w' hw'; obtain ⟨x0, x1⟩ := hw'; go_simp; (try with_reducible rfl)
        simp only [Act.put, List.setIfInBounds_toArray, List.set_cons_zero, List.set_cons_succ]
        refine held_take (v := ?_) 5 75 rfl rfl (by kernel_rfl) (by kernel_rfl) (by kernel_rfl) (fun _ _ _ h => h) ⟨by rfl, ?_⟩ hSv0 ?_
        rotate_left
        · intro w' hw'; obtain ⟨x0, x1⟩ := hw'; go_simp; (try with_reducible rfl)
        simp only [Act.put, List.setIfInBounds_toArray, List.set_cons_zero, List.set_cons_succ]
        refine held_take (v := ?_) 6 76 rfl rfl (by kernel_rfl) (by kernel_rfl) (by kernel_rfl) (fun _ _ _ h => h) ⟨by rfl, ?_⟩ hSv0 ?_
        rotate_left
        · intro w' hw'; obtain ⟨x0, x1⟩ := hw'; go_simp; (try with_reducible rfl)
        simp only [Act.put, List.setIfInBounds_toArray, List.set_cons_zero, List.set_cons_succ]
        refine held_take (v := ?_) 7 77 rfl rfl (by kernel_rfl) (by kernel_rfl) (by kernel_rfl) (fun _ _ _ h => h) ⟨by rfl, ?_⟩ hSv0 ?_
        rotate_left
        · intro w' hw'; obtain ⟨x0, x1⟩ := hw'; go_simp; (try with_reducible rfl)
        simp only [Act.put, List.setIfInBounds_toArray, List.set_cons_zero, List.set_cons_succ]
        refine held_take (v := ?_) 8 78 rfl rfl (by kernel_rfl) (by kernel_rfl) (by kernel_rfl) (fun _ _ _ h => h) ⟨by rfl, ?_⟩ hSv0 ?_
        rotate_left
        · intro w' hw'; obtain ⟨x0, x1⟩ := hw'; go_simp; (try with_reducible rfl)
        simp only [Act.put, List.setIfInBounds_toArray, List.set_cons_zero, List.set_cons_succ]
        refine held_take (v := ?_) 9 79 rfl rfl (by kernel_rfl) (by kernel_rfl) (by kernel_rfl) (fun _ _ _ h => h) ⟨by rfl, ?_⟩ hSv0 ?_
        rotate_left
        · intro w' hw'; obtain ⟨x0, x1⟩ := hw'; go_simp; (try with_reducible rfl)
        simp only [Act.put, List.setIfInBounds_toArray, List.set_cons_zero, List.set_cons_succ]
        refine held_take (v := ?_) 10 80 rfl rfl (by kernel_rfl) (by kernel_rfl) (by kernel_rfl) (fun _ _ _ h => h) ⟨by rfl, ?_⟩ hSv0 ?_
        rotate_left
        · intro w' hw'; obtain ⟨x0, x1⟩ := hw'; go_simp; (try with_reducible rfl)
        simp only [Act.put, List.setIfInBounds_toArray, List.set_cons_zero, List.set_cons_succ]
        refine held_one 11 rfl (by kernel_rfl) (by rfl) (fun K hK => ?_)
        go_simp
        go_at_call 9
        refine (HS2.out wu1.drew HTe.out.t.at_).mono ?_
        rintro e wv1 ⟨rfl, Fv, hOv, hbv1, hyv⟩
        have hBv1 : Foot G wu1 wv1 := hBv0.trans hbv1 (fun i hi => .inl hi)
        have hSv1 : (fun w' : World => w'.cell? ⟨bb, off + k * 3 + 1, none⟩ = some (.int .i64 x.i) ∧ w'.cell? ⟨bb, off + k * 3 + 2, none⟩ = some (.int .i64 x.k)) wv1 := ⟨(hBv1.cell (p := ⟨bb, off + k * 3 + 1, none⟩) (show bb < wu1.heap.size by omega) (hbG)).trans y1, (hBv1.cell (p := ⟨bb, off + k * 3 + 2, none⟩) (show bb < wu1.heap.size by omega) (hbG)).trans y2⟩
        refine hK.out _ _ hSv1 ?_
        clear hK K
        refine wpAnyH_done (by kernel_rfl) ?_ _
        have HT6 := Lib.hid (show TwoT w wv1 p Fu _ q Fv _ from HTe.out.right hOv hbv1 hyv)
        clear hOv hyv hbv1 hBv1 hSv1 hBv0 hSv0 y1 y2
        go_wp2_with fail
        go_roundw
        case rel => exact ⟨k + 1, by go_num, by omega, Lib.hid ⟨_, _, _, HT6.out⟩⟩
        case measure => simp [intOf]; omega
    · obtain rfl : k = n := by omega
      have HT := Lib.hid T
      clear hin T hlt
      have HD1 := Lib.hid (due_t p F L a1 wr HT.out.s.at_)
      go_wp2_with fail
      refine HD1.out.mono ?_
      rintro e w5 hq5
      obtain ⟨v5, F5, rfl, hown5, h5, hf5, hy5, hap5⟩ := hq5
      have HT5 := Lib.hid (HT.out.left h5 hf5 hy5)
      have HD2 := Lib.hid (due_t p F5 _ a2 w5 h5)
      have HO5 := Lib.hid (And.intro hown5 hap5)
      have hs5 := hf5.size
      clear hown5 h5 hf5 hy5 hap5
      go_wp2_with fail
      refine HD2.out.mono ?_
      rintro e w6 hq6
      obtain ⟨v6, F6, rfl, hown6, h6, hf6, hy6, hap6⟩ := hq6
      have HT6 := Lib.hid (HT5.out.left h6 hf6 hy6)
      have hown5 := own_stays HO5.out.1 fun i hi => hf6.block i (HO5.out.1.lt i hi).2 (HO5.out.2 i hi)
      obtain ⟨A6, cc6, rfl, hu6, _⟩ := nums_own hown6 rfl
      have hs6 := hf6.size
      have hTS := HT.out.s.at_.ok
      have hl1 := due_len a1 L
      have hl2 := due_len a2 (TM.restL a1 L)
      have hl0 := hTS.len
      obtain ⟨A5, cc5, rfl⟩ := own_formT hown5
      have hl3 : (TM.dueL a1 L).length + (TM.dueL a2 (TM.restL a1 L)).length ≤ 9000 := by omega
      go_wp2_with (at_builtin; refine wpList_append_els w6 rfl _ _ 38 rfl wr.heap.size 3 i0 (.int .i64 0) 8 Try.underlying38 hi hz0 hz1 hz2 rfl (by decide) (.slice A5 (TM.dueL a1 L).length cc5) _ _ rfl hown5 _ A6 cc6 _ _ rfl hu6 rfl intC_len intC_one (by unfold maxLen; omega) (by omega) (by omega) ?_; intro A7 c7 w7 hown7 hg7 hb7)
      have hf7 : Foot (vB (.slice A5 (TM.dueL a1 L).length cc5)) w6 w7 := (Foot.refl _ w6).grown hg7 fun j hj => .inl hj
      have hbv : ∀ j, (Value.slice A5 (TM.dueL a1 L).length cc5).ownBlock = some j → wr.heap.size ≤ j ∧ j < w5.heap.size ∧ ¬ F5 j := fun j hj => ⟨(hown5.lt j hj).1, (HO5.out.1.lt j hj).2, HO5.out.2 j hj⟩
      have hwr := HT.out.s.bel.size
      have HT7 := Lib.hid (HT6.out.foot hf7 (fun j hj hv => by
          obtain ⟨e1, e2, e3⟩ := hbv j hv
          rcases hy6 j hj with e | e
          · exact e3 e
          · omega) (fun j hj hv => by
          obtain ⟨e1, e2, e3⟩ := hbv j hv
          have := HT.out.t.at_.lt.2.2 j hj; omega) (fun j hv => by
          obtain ⟨e1, e2, e3⟩ := hbv j hv
          omega))
      have hs7 := hg7.size
      have HO7 := Lib.hid hown7
      have hd := TM.due_two (l := L) (a := a1) (b := a2) (by omega)
      have HDu := Lib.hid hd
      have HD8 := Lib.hid (due_t q G L a2 w7 HT7.out.t.at_)
      have HGs := Lib.hid HT.out.t.at_.lt.2.2
      have hlen6 : (TM.dueL a1 L).length + (TM.dueL a2 (TM.restL a1 L)).length ≤ 9000 := by omega
      clear hown5 hu6 hown6 h6 hf6 hy6 hap6 hown7 hg7 hf7 hbv hd hTS hl1 hl2 hl0
      refine HD8.out.mono ?_
      rintro e w8 hq8
      obtain ⟨v8, G8, rfl, hown8, h8, hf8, hy8, hap8⟩ := hq8
      have HT8 := Lib.hid (HT7.out.right h8 hf8 hy8)
      have HO8 := Lib.hid (own_stays HO7.out fun i hi => hf8.block i (HO7.out.lt i hi).2 fun hg => by
        have := HGs.out i hg; have := (HO7.out.lt i hi).1; omega)
      have HY8 := Lib.hid hown8
      have HX8 := Lib.hid (next_t q G8 _ w8 h8)
      have hnx := next_rest a2 L
      obtain ⟨⟨nk, nb⟩, hN⟩ : ∃ N, N = TM.nextL (TM.restL a2 L) := ⟨_, rfl⟩
      rw [← hN] at HX8 hnx
      have hs8 := hf8.size
      simp only at hnx HX8
      clear hown8 h8 hf8 hy8 hap8 hN
      go_wp2_with fail
      refine HX8.out.mono ?_
      rintro e w9 ⟨rfl, hb9⟩
      have HT9 := Lib.hid (HT8.out.keep hb9)
      have ho9 := own_keep HO8.out hb9
      have hy9 := own_keep HY8.out hb9
      obtain ⟨Ay, cy, rfl, huy, _⟩ := nums_own hy9 rfl
      have hux := (els_own intC_len (l := TM.dueL a1 L ++ TM.dueL a2 (TM.restL a1 L)) (by rw [List.flatMap_append]; exact ho9) (by rw [List.length_append])).1
      have HIn := ints_any A7 Ay c7 cy _ _ (TM.dueL a1 L ++ TM.dueL a2 (TM.restL a1 L)) (TM.dueL a2 L) w9 hux huy (Nat.le_refl _) (Nat.le_refl _) (by rw [HDu.out.1]; have := (due_len a2 L).1; have := HT.out.s.at_.ok.len; omega)
      rw [decide_eq_true HDu.out.1, List.length_append] at HIn
      have HIn := Lib.hid HIn
      clear hb9 ho9 hy9 huy hux
      have HL1 := Lib.hid (fun W hW => len_t p F6 (TM.restL a2 (TM.restL a1 L)) W hW)
      have HL2 := Lib.hid (fun W hW => len_t q G8 (TM.restL a2 L) W hW)
      rw [HDu.out.2] at HL1
      obtain ⟨rl, hrl⟩ : ∃ rl, rl = (TM.restL a2 L).length := ⟨_, rfl⟩
      rw [← hrl] at HL1 HL2
      clear hrl
      have hrr : ((rl : Int) == (rl : Int)) = true := by simp
      go_wp2_with fail
      refine HIn.out.mono ?_
      rintro e w10 ⟨rfl, hb10⟩
      have HT10 := Lib.hid (HT9.out.keep hb10)
      clear hb10
      have hS10 := HT10.out.s.at_
      rw [HDu.out.2] at hS10
      have HL1 := Lib.hid (HL1.out _ hS10)
      have HL2 := Lib.hid (HL2.out _ HT10.out.t.at_)
      clear hS10
      rcases hnx with rfl | ⟨rfl, hnx⟩
      · go_wp2_with fail
        refine HL1.out.mono ?_
        rintro e w11 ⟨rfl, rfl⟩
        go_wp2_with fail
        refine HL2.out.mono ?_
        rintro e w11 ⟨rfl, rfl⟩
        go_wp2_with fail
        go_ret
        exact ⟨by simp, HT10.out.s.bel⟩
      · have tx : decide (a2 < nk) = true := decide_eq_true hnx
        go_wp2_with fail
        refine HL1.out.mono ?_
        rintro e w11 ⟨rfl, rfl⟩
        go_wp2_with fail
        refine HL2.out.mono ?_
        rintro e w11 ⟨rfl, rfl⟩
        go_wp2_with fail
        go_ret
        exact ⟨by simp, HT10.out.s.bel⟩

set_option maxRecDepth 100000 in
set_option maxHeartbeats 1000000 in
theorem lifted (os : Os) (started : os.Started) (H : Type) (enc : TypeId × Value → H) :
    ReturnsInHanded {} Try.checked os 5 .any (Rows.timerSplitsSpec.pre6 enc Try.prog Try.f5 Rows.timerSplitsRow.domain false) (Rows.timerSplitsSpec.post enc Try.prog Try.f5 false true false false) := by
  refine returnsInHanded_of_change (C := Try.checked) own started (by kernel_rfl) Try.func5
    (ChangeSpec.witness6 (enc := enc) (C := Try.checked) false ⟨#[], #[.slice none 0 0, .int .i64 0, .int .i64 0], []⟩ 8 (by kernel_rfl) (by kernel_rfl) (by kernel_rfl) (by kernel_rfl)) ?_
  intro W base args ds gs before hval0 hW _ _
  have hval : ∀ (j : Nat) t v, Try.f5.params[j]? = some t → args[j]? = some v → Value.okWide Try.prog W .any base t v := hval0
  have hW' := hW
  obtain ⟨p, q, hA0, hV, rfl, hfz, hnd⟩ := hW
  have hA : DataW.TrodAll enc Try.prog W 0 (fun _ => true) true Try.f5.params.toList args.toList ds p := hA0
  rw [Try.params5] at hA hval
  obtain ⟨v0, vs0, d0, ds0, p0, q0, hargs, rfl, rfl, h0, r0⟩ := trodAll_cons hA
  obtain ⟨v1, vs1, d1, ds1, p1, q1, rfl, rfl, rfl, h1, r1⟩ := trodAll_cons r0
  obtain ⟨v2, vs2, d2, ds2, p2, q2, rfl, rfl, rfl, h2, r2⟩ := trodAll_cons r1
  obtain ⟨rfl, rfl, rfl⟩ := trodAll_nil r2
  obtain rfl : args = #[v0, v1, v2] := by cases args; simp_all
  obtain ⟨rfl, rfl⟩ := trodVars_none hV
  have k0 := h0
  have lt0 : ∀ x ∈ p0, x.block < W.heap.size := by obtain ⟨m, hm⟩ := k0; exact DataW.trod_lt m _ _ _ hm
  obtain ⟨a0, c0, l0, rfl, lc0, mc0, v0, q0⟩ := tas_of (hval 0 22 v0 rfl rfl) h0
  have k1 := h1
  have lt1 : ∀ x ∈ p1, x.block < W.heap.size := by obtain ⟨m, hm⟩ := k1; exact DataW.trod_lt m _ _ _ hm
  obtain ⟨a1, rfl, _, _, w1⟩ := open_int Try.underlying3 (hval 1 3 v1 rfl rfl) h1
  have k2 := h2
  have lt2 : ∀ x ∈ p2, x.block < W.heap.size := by obtain ⟨m, hm⟩ := k2; exact DataW.trod_lt m _ _ _ hm
  obtain ⟨a2, rfl, _, _, w2⟩ := open_int Try.underlying3 (hval 2 3 v2 rfl rfl) h2
  clear hA0 hval0
  refine (walk a0 c0 l0 a1 a2 W v0 q0 lc0 mc0 w1 w2).mono fun e W' ⟨he, bel⟩ => ?_
  subst he
  exact ⟨_, rfl, _, _, _, [], _, [], hW', trodAll_mk1 (shut_bool Try.underlying4 _), (trodAll_cons_mk (Below.trod laidOut (by kernel_rfl) (of_decide_eq_true (by kernel_rfl)) k0 bel lt0) (trodAll_cons_mk (Below.trod laidOut (by kernel_rfl) (of_decide_eq_true (by kernel_rfl)) k1 bel lt1) (trodAll_cons_mk (Below.trod laidOut (by kernel_rfl) (of_decide_eq_true (by kernel_rfl)) k2 bel lt2) trodAll_mk0))), rfl, bel.frame _, fun h => by cases h⟩

/-- THE STATEMENT. -/
theorem holds : Rows.TimerSplitsSaid :=
  OpenClaim.holds_of_wide 5 Try.f5 rfl rfl rfl rfl rfl rfl rfl ⟨rfl, rfl, rfl, rfl, rfl⟩ rfl rfl rfl rfl rfl (by kernel_rfl) Try.func5 (by kernel_rfl)
    (of_decide_eq_true (by kernel_rfl)) (by unfold Func.isWrapper; first | (rw [if_pos (by decide +kernel)]; kernel_rfl) | (rw [if_neg (by decide +kernel)]; exact ⟨rfl, rfl⟩))
    (fun os started H enc _ => lifted os started H enc)
end Go.Proofs.Ytdoaihmeldkahaa.timerSplits
