/- symMergeCmpFunc of package slices, at waits in one block: two sorted rows, each of the first ahead of each of the second where their keys are alike, become one. -/
import Derived.RegionTactic
import Derived.BigRegion
import Derived.BigQuiet
import Derived.Deep.QuietTactic
import Derived.Test.YtdeniikaddlifaaOrdSwap
namespace Go.Proofs.Ytdeniikaddlifaa
open Go.RowKit
namespace WK
open PK
def ltC (cv : Nat → Nat → Int) (x y : Nat) : Bool := decide (cv x y < 0)
theorem get_pre {P X S : List Nat} {k i : Nat} (h : i = P.length + k) (hk : k < X.length) : (P ++ X ++ S)[i]? = X[k]? := by
  subst h
  rw [List.append_assoc, List.getElem?_append_right (by omega), Nat.add_sub_cancel_left, List.getElem?_append_left hk]
theorem foot_then {g : Nat} {w W V : World} (h : Foot (· = g) w W) (k : Below W.heap.size W V) : Foot (· = g) w V := h.trans (Foot.of_below (F := fun _ => False) k) fun _ hf => hf.elim
theorem mem_of_get {L : List Nat} {i x : Nat} (h : L[i]? = some x) : x ∈ L := List.mem_of_getElem? h
end WK
open PK WK
set_option maxRecDepth 100000 in
set_option maxHeartbeats 2000000 in
theorem wsym_left (E : Nat → Wt) (cp : Nat) (key : Nat → Nat) (g N n a m b : Nat) (v0 : Value) (cv : Nat → Nat → Int) (w0 : World) (P Y S : List Nat) (x : Nat) (w : World) (hC : CmpW E g n v0 cv w0) (hF0 : Foot (· = g) w0 w) (hx : x < n) (hYn : ∀ y ∈ Y, y < n)
    (hr : Rel key (ltC cv) [x] Y) (hY : Asc key Y) (ha : P.length = a) (hm : P.length + 1 = m) (hb : P.length + 1 + Y.length = b) (hN : P.length + 1 + Y.length + S.length = N) (hNl : N ≤ 1000000) (hB : WBlk E w g (P ++ [x] ++ Y ++ S)) :
    Calls Try.prog 55 #[.slice (some ⟨g, 0, none⟩) N cp, .int .i64 (a : Nat), .int .i64 (m : Nat), .int .i64 (b : Nat), .func (.func 52) #[] #[v0]] w fun e w' =>
      e = .returned (.tuple #[]) ∧ Foot (· = g) w w' ∧ Hid (∃ Z, WBlk E w' g (P ++ Z ++ S) ∧ Z.Perm ([x] ++ Y) ∧ Asc key Z) := by
  have H := Lib.hid (And.intro hC (And.intro hF0 (And.intro hx (And.intro hYn (And.intro hr (And.intro hY (And.intro ha (And.intro hm (And.intro hb hN)))))))))
  have HB := Lib.hid hB
  have HF := Lib.hid (Foot.refl (· = g) w)
  have hma : m = a + 1 := by omega
  have hmb : m ≤ b := by omega
  have hNb : b ≤ N := by omega
  have t0 : ((m : Int) - (a : Int) == 1) = true := beq_iff_eq.2 (by omega)
  clear hC hF0 hx hYn hr hY ha hm hb hN hB
  have Hma := Lib.hid hma
  have hma2 : a < m := by omega
  clear hma
  go_enter Try.func55, Try.ntmps55
  go_wp2
  go_loopw [10, 11] (fun vi vj wr => ∃ i j : Nat, vi = .int .i64 (i : Nat) ∧ vj = .int .i64 (j : Nat) ∧ m ≤ i ∧ i ≤ j ∧ j ≤ b ∧ Hid (Foot (· = g) w wr) ∧ Hid (WBlk E wr g (P ++ [x] ++ Y ++ S)) ∧ Hid ((i = m ∨ ∀ y, Y[i - m - 1]? = some y → key y ≤ key x) ∧ (j = b ∨ ∀ y, Y[j - m]? = some y → key x ≤ key y))) (fun vi vj _ => (intOf vj).toNat - (intOf vi).toNat)
  case atStart => exact ⟨m, b, rfl, rfl, Nat.le_refl _, hmb, Nat.le_refl _, HF, HB, Lib.hid ⟨.inl rfl, .inl rfl⟩⟩
  case round =>
    clear HB HF
    obtain ⟨i, j, rfl, rfl, hmi, hij, hjb, hF, hBk, hI⟩ := hrel
    by_cases hlt : i < j
    · obtain ⟨h, hh⟩ : ∃ h, h = (i + j) / 2 := ⟨_, rfl⟩
      have em : ((i : Int) + (j : Int)) / 2 = (h : Int) := by omega
      have h1 : i ≤ h := by omega
      have h2 : h < j := by omega
      have h3 : h < b := by omega
      obtain ⟨y, hy⟩ := get_of_lt (L := Y) (k := h - m) (by have := H.out; omega)
      have hLy : (P ++ [x] ++ Y ++ S)[h]? = some y := by
        rw [get_pre (P := P ++ [x]) (k := h - m) (by have := H.out.2.2.2.2.2.2.2.1; simp; omega) (lt_of_get hy)]; exact hy
      have hLx : (P ++ [x] ++ Y ++ S)[a]? = some x := by
        rw [show a = P.length from H.out.2.2.2.2.2.2.1.symm]; simp
      have c1 := hBk.out.at_ hLy
      have c2 := hBk.out.at_ hLx
      have hc := fun W (hb : Below wr.heap.size wr W) => H.out.1.at_ H.out.2.1 (foot_then hF.out hb) (H.out.2.2.2.1 y (mem_of_get hy)) H.out.2.2.1
      have lg := hBk.out.lt
      have hrel := H.out.2.2.2.2.1 x (by simp) y (mem_of_get hy)
      have j1 : (h : Int) < (N : Int) := by omega
      have j2 : (a : Int) < (N : Int) := by omega
      have t1 : decide ((i : Int) < (j : Int)) = true := decide_eq_true (by omega)
      clear hh
      clear hLx hLy
      go_wp2_with fail
      (try simp only [em])
      clear em
      cases hd : decide (cv y x < 0) with
      | true =>
        have hk : key y ≤ key x := by unfold ltC at hrel; rw [hd] at hrel; have := of_decide_eq_true hrel.symm; omega
        have HK := Lib.hid (show ∀ y', Y[h + 1 - m - 1]? = some y' → key y' ≤ key x by
          intro y' hy'
          rw [show h + 1 - m - 1 = h - m by omega, hy] at hy'; cases hy'; exact hk)
        clear hrel hy hk
        refine held_begin (fun w' : World => WtAt w' g (h * 10) (E y) ∧ WtAt w' g (a * 10) (E x)) (by kernel_rfl) ?_
        have hBq0 : Below wr.heap.size wr wr.drew := (Below.refl _ _).drew
        have hSq0 : (fun w' : World => WtAt w' g (h * 10) (E y) ∧ WtAt w' g (a * 10) (E x)) wr.drew := ⟨c1, c2⟩
        refine held_take (v := ?_) 0 40 rfl rfl (by kernel_rfl) (by kernel_rfl) (by kernel_rfl) (fun _ _ _ h => h) ⟨by rfl, ?_⟩ hSq0 ?_
        rotate_left
        · intro w' hw'; obtain ⟨x0, x1⟩ := hw'; go_simp; (try with_reducible rfl)
        simp only [Act.put, List.setIfInBounds_toArray, List.set_cons_zero, List.set_cons_succ]
        refine held_take (v := ?_) 1 41 rfl rfl (by kernel_rfl) (by kernel_rfl) (by kernel_rfl) (fun _ _ _ h => h) ⟨by rfl, ?_⟩ hSq0 ?_
        rotate_left
        · intro w' hw'; obtain ⟨x0, x1⟩ := hw'; go_simp; (try with_reducible rfl)
        simp only [Act.put, List.setIfInBounds_toArray, List.set_cons_zero, List.set_cons_succ]
        refine held_take (v := ?_) 2 42 rfl rfl (by kernel_rfl) (by kernel_rfl) (by kernel_rfl) (fun _ _ _ h => h) ⟨by rfl, ?_⟩ hSq0 ?_
        rotate_left
        · intro w' hw'; obtain ⟨x0, x1⟩ := hw'; go_simp; (try with_reducible rfl)
        simp only [Act.put, List.setIfInBounds_toArray, List.set_cons_zero, List.set_cons_succ]
        refine held_take (v := ?_) 3 43 rfl rfl (by kernel_rfl) (by kernel_rfl) (by kernel_rfl) (fun _ _ _ h => h) ⟨by rfl, ?_⟩ hSq0 ?_
        rotate_left
        · intro w' hw'; obtain ⟨x0, x1⟩ := hw'; go_simp; (try with_reducible rfl)
        simp only [Act.put, List.setIfInBounds_toArray, List.set_cons_zero, List.set_cons_succ]
        refine held_take (v := ?_) 4 44 rfl rfl (by kernel_rfl) (by kernel_rfl) (by kernel_rfl) (fun _ _ _ h => h) ⟨by rfl, ?_⟩ hSq0 ?_
        rotate_left
        · intro w' hw'; obtain ⟨x0, x1⟩ := hw'; refine Eq.trans (run_load_wt (by rfl) (by rfl) x0) ?_; (with_reducible rfl)
        simp only [Act.put, List.setIfInBounds_toArray, List.set_cons_zero, List.set_cons_succ]
        refine held_take (v := ?_) 5 45 rfl rfl (by kernel_rfl) (by kernel_rfl) (by kernel_rfl) (fun _ _ _ h => h) ⟨by rfl, ?_⟩ hSq0 ?_
        rotate_left
        · intro w' hw'; obtain ⟨x0, x1⟩ := hw'; go_simp; (try with_reducible rfl)
        simp only [Act.put, List.setIfInBounds_toArray, List.set_cons_zero, List.set_cons_succ]
        refine held_take (v := ?_) 6 46 rfl rfl (by kernel_rfl) (by kernel_rfl) (by kernel_rfl) (fun _ _ _ h => h) ⟨by rfl, ?_⟩ hSq0 ?_
        rotate_left
        · intro w' hw'; obtain ⟨x0, x1⟩ := hw'; go_simp; (try with_reducible rfl)
        simp only [Act.put, List.setIfInBounds_toArray, List.set_cons_zero, List.set_cons_succ]
        refine held_take (v := ?_) 7 47 rfl rfl (by kernel_rfl) (by kernel_rfl) (by kernel_rfl) (fun _ _ _ h => h) ⟨by rfl, ?_⟩ hSq0 ?_
        rotate_left
        · intro w' hw'; obtain ⟨x0, x1⟩ := hw'; go_simp; (try with_reducible rfl)
        simp only [Act.put, List.setIfInBounds_toArray, List.set_cons_zero, List.set_cons_succ]
        refine held_take (v := ?_) 8 48 rfl rfl (by kernel_rfl) (by kernel_rfl) (by kernel_rfl) (fun _ _ _ h => h) ⟨by rfl, ?_⟩ hSq0 ?_
        rotate_left
        · intro w' hw'; obtain ⟨x0, x1⟩ := hw'; refine Eq.trans (run_load_wt (by rfl) (by rfl) x1) ?_; (with_reducible rfl)
        simp only [Act.put, List.setIfInBounds_toArray, List.set_cons_zero, List.set_cons_succ]
        refine held_one 9 rfl (by kernel_rfl) (by rfl) (fun K hK => ?_)
        go_simp
        go_at_call 52
        refine (hc wr.drew hBq0).mono ?_
        rintro e wq1 ⟨rfl, hbq1⟩
        have hBq1 : Below wr.heap.size wr wq1 := below_step hBq0 hbq1
        have hSq1 : (fun w' : World => WtAt w' g (h * 10) (E y) ∧ WtAt w' g (a * 10) (E x)) wq1 := ⟨c1.keep lg hBq1, c2.keep lg hBq1⟩
        refine hK.out _ _ hSq1 ?_
        clear hK K
        refine held_take (v := ?_) 10 50 rfl rfl (by kernel_rfl) (by kernel_rfl) (by kernel_rfl) (fun _ _ _ h => h) ⟨by rfl, ?_⟩ hSq1 ?_
        rotate_left
        · intro w' hw'; obtain ⟨x0, x1⟩ := hw'; go_simp; (try with_reducible rfl)
        simp only [Act.put, List.setIfInBounds_toArray, List.set_cons_zero, List.set_cons_succ]
        refine wpAnyH_done (by kernel_rfl) ?_ _
        have hF1 : Hid (Foot (· = g) w wq1) := Lib.hid (foot_then hF.out hBq1)
        have hB1 : Hid (WBlk E wq1 g (P ++ [x] ++ Y ++ S)) := Lib.hid (hBk.out.keep lg hBq1)
        clear c1 c2 hc hd hF hBk lg hBq0 hSq0 hbq1 hBq1 hSq1
        go_wp2
        go_roundw
        case rel => exact ⟨h + 1, j, by go_num, rfl, by omega, by omega, hjb, hF1, hB1, Lib.hid ⟨.inr HK.out, hI.out.2⟩⟩
        case measure => simp [intOf]; omega
      | false =>
        have hk : key x ≤ key y := by unfold ltC at hrel; rw [hd] at hrel; have := of_decide_eq_false hrel.symm; omega
        have HK := Lib.hid (show ∀ y', Y[h - m]? = some y' → key x ≤ key y' by
          intro y' hy'
          rw [hy] at hy'; cases hy'; exact hk)
        clear hrel hy hk
        refine held_begin (fun w' : World => WtAt w' g (h * 10) (E y) ∧ WtAt w' g (a * 10) (E x)) (by kernel_rfl) ?_
        have hBq0 : Below wr.heap.size wr wr.drew := (Below.refl _ _).drew
        have hSq0 : (fun w' : World => WtAt w' g (h * 10) (E y) ∧ WtAt w' g (a * 10) (E x)) wr.drew := ⟨c1, c2⟩
        refine held_take (v := ?_) 0 40 rfl rfl (by kernel_rfl) (by kernel_rfl) (by kernel_rfl) (fun _ _ _ h => h) ⟨by rfl, ?_⟩ hSq0 ?_
        rotate_left
        · intro w' hw'; obtain ⟨x0, x1⟩ := hw'; go_simp; (try with_reducible rfl)
        simp only [Act.put, List.setIfInBounds_toArray, List.set_cons_zero, List.set_cons_succ]
        refine held_take (v := ?_) 1 41 rfl rfl (by kernel_rfl) (by kernel_rfl) (by kernel_rfl) (fun _ _ _ h => h) ⟨by rfl, ?_⟩ hSq0 ?_
        rotate_left
        · intro w' hw'; obtain ⟨x0, x1⟩ := hw'; go_simp; (try with_reducible rfl)
        simp only [Act.put, List.setIfInBounds_toArray, List.set_cons_zero, List.set_cons_succ]
        refine held_take (v := ?_) 2 42 rfl rfl (by kernel_rfl) (by kernel_rfl) (by kernel_rfl) (fun _ _ _ h => h) ⟨by rfl, ?_⟩ hSq0 ?_
        rotate_left
        · intro w' hw'; obtain ⟨x0, x1⟩ := hw'; go_simp; (try with_reducible rfl)
        simp only [Act.put, List.setIfInBounds_toArray, List.set_cons_zero, List.set_cons_succ]
        refine held_take (v := ?_) 3 43 rfl rfl (by kernel_rfl) (by kernel_rfl) (by kernel_rfl) (fun _ _ _ h => h) ⟨by rfl, ?_⟩ hSq0 ?_
        rotate_left
        · intro w' hw'; obtain ⟨x0, x1⟩ := hw'; go_simp; (try with_reducible rfl)
        simp only [Act.put, List.setIfInBounds_toArray, List.set_cons_zero, List.set_cons_succ]
        refine held_take (v := ?_) 4 44 rfl rfl (by kernel_rfl) (by kernel_rfl) (by kernel_rfl) (fun _ _ _ h => h) ⟨by rfl, ?_⟩ hSq0 ?_
        rotate_left
        · intro w' hw'; obtain ⟨x0, x1⟩ := hw'; refine Eq.trans (run_load_wt (by rfl) (by rfl) x0) ?_; (with_reducible rfl)
        simp only [Act.put, List.setIfInBounds_toArray, List.set_cons_zero, List.set_cons_succ]
        refine held_take (v := ?_) 5 45 rfl rfl (by kernel_rfl) (by kernel_rfl) (by kernel_rfl) (fun _ _ _ h => h) ⟨by rfl, ?_⟩ hSq0 ?_
        rotate_left
        · intro w' hw'; obtain ⟨x0, x1⟩ := hw'; go_simp; (try with_reducible rfl)
        simp only [Act.put, List.setIfInBounds_toArray, List.set_cons_zero, List.set_cons_succ]
        refine held_take (v := ?_) 6 46 rfl rfl (by kernel_rfl) (by kernel_rfl) (by kernel_rfl) (fun _ _ _ h => h) ⟨by rfl, ?_⟩ hSq0 ?_
        rotate_left
        · intro w' hw'; obtain ⟨x0, x1⟩ := hw'; go_simp; (try with_reducible rfl)
        simp only [Act.put, List.setIfInBounds_toArray, List.set_cons_zero, List.set_cons_succ]
        refine held_take (v := ?_) 7 47 rfl rfl (by kernel_rfl) (by kernel_rfl) (by kernel_rfl) (fun _ _ _ h => h) ⟨by rfl, ?_⟩ hSq0 ?_
        rotate_left
        · intro w' hw'; obtain ⟨x0, x1⟩ := hw'; go_simp; (try with_reducible rfl)
        simp only [Act.put, List.setIfInBounds_toArray, List.set_cons_zero, List.set_cons_succ]
        refine held_take (v := ?_) 8 48 rfl rfl (by kernel_rfl) (by kernel_rfl) (by kernel_rfl) (fun _ _ _ h => h) ⟨by rfl, ?_⟩ hSq0 ?_
        rotate_left
        · intro w' hw'; obtain ⟨x0, x1⟩ := hw'; refine Eq.trans (run_load_wt (by rfl) (by rfl) x1) ?_; (with_reducible rfl)
        simp only [Act.put, List.setIfInBounds_toArray, List.set_cons_zero, List.set_cons_succ]
        refine held_one 9 rfl (by kernel_rfl) (by rfl) (fun K hK => ?_)
        go_simp
        go_at_call 52
        refine (hc wr.drew hBq0).mono ?_
        rintro e wq1 ⟨rfl, hbq1⟩
        have hBq1 : Below wr.heap.size wr wq1 := below_step hBq0 hbq1
        have hSq1 : (fun w' : World => WtAt w' g (h * 10) (E y) ∧ WtAt w' g (a * 10) (E x)) wq1 := ⟨c1.keep lg hBq1, c2.keep lg hBq1⟩
        refine hK.out _ _ hSq1 ?_
        clear hK K
        refine held_take (v := ?_) 10 50 rfl rfl (by kernel_rfl) (by kernel_rfl) (by kernel_rfl) (fun _ _ _ h => h) ⟨by rfl, ?_⟩ hSq1 ?_
        rotate_left
        · intro w' hw'; obtain ⟨x0, x1⟩ := hw'; go_simp; (try with_reducible rfl)
        simp only [Act.put, List.setIfInBounds_toArray, List.set_cons_zero, List.set_cons_succ]
        refine wpAnyH_done (by kernel_rfl) ?_ _
        have hF1 : Hid (Foot (· = g) w wq1) := Lib.hid (foot_then hF.out hBq1)
        have hB1 : Hid (WBlk E wq1 g (P ++ [x] ++ Y ++ S)) := Lib.hid (hBk.out.keep lg hBq1)
        clear c1 c2 hc hd hF hBk lg hBq0 hSq0 hbq1 hBq1 hSq1
        go_wp2
        go_roundw
        case rel => exact ⟨i, h, rfl, rfl, hmi, h1, by omega, hF1, hB1, Lib.hid ⟨hI.out.1, .inr HK.out⟩⟩
        case measure => simp [intOf]; omega
    · obtain rfl : i = j := by omega
      clear hlt hij
      have HR : Hid (Asc key (Y.take (i - m) ++ x :: Y.drop (i - m))) := Lib.hid (by
        have hy := H.out
        refine asc_put hy.2.2.2.2.2.1 (by omega) ?_ ?_
        · rcases hI.out.1 with e | e
          · exact .inl (by omega)
          · exact .inr e
        · rcases hI.out.2 with e | e
          · exact .inl (by omega)
          · exact .inr e)
      clear hI
      have hF0 := hF
      have hB0 : Hid (WBlk E wr g (P ++ (Y.take (a - a) ++ x :: Y.drop (a - a)) ++ S)) := Lib.hid (by have := hBk.out; simpa using this)
      clear hF hBk
      go_wp2
      go_loopw [13] (fun vk wr => ∃ k : Nat, vk = .int .i64 (k : Nat) ∧ a ≤ k ∧ k + 1 ≤ i ∧ Hid (Foot (· = g) w wr) ∧ Hid (WBlk E wr g (P ++ (Y.take (k - a) ++ x :: Y.drop (k - a)) ++ S))) (fun vk _ => i - (intOf vk).toNat)
      case atStart => exact ⟨a, rfl, Nat.le_refl _, by omega, hF0, hB0⟩
      case round =>
        clear hF0 hB0
        obtain ⟨k, rfl, hak, hki, hF, hBk⟩ := hrel
        by_cases hlt : k + 1 < i
        · obtain ⟨y, hy⟩ := get_of_lt (L := Y) (k := k - a) (by have := H.out; have := Hma.out; omega)
          have hfm : P ++ (Y.take (k - a) ++ x :: Y.drop (k - a)) ++ S = (P ++ Y.take (k - a)) ++ x :: y :: (Y.drop (k - a + 1) ++ S) := by rw [drop_at hy]; simp
          have hlen : (P ++ Y.take (k - a)).length = k := by have := H.out; have := lt_of_get hy; rw [List.length_append, List.length_take]; omega
          have hnx : P ++ (Y.take (k + 1 - a) ++ x :: Y.drop (k + 1 - a)) ++ S = (P ++ Y.take (k - a)) ++ y :: x :: (Y.drop (k - a + 1) ++ S) := by
            rw [show k + 1 - a = k - a + 1 by omega, take_at hy]; simp
          obtain ⟨k1, hk1⟩ : ∃ q, q = k + 1 := ⟨_, rfl⟩
          have hBk' := hBk.out
          rw [hfm] at hBk'
          obtain ⟨s1, s2, s3⟩ := next_st (x := x) (y := y) (C := Y.drop (k - a + 1) ++ S) hlen
          rw [← hk1] at s2 s3
          have c1 := hBk'.at_ s1
          have c2 := hBk'.at_ s2
          have l1 := lt_of_get s1
          have l2 := lt_of_get s2
          have wk : IntKind.i64.wrap ((k : Int) + 1) = (k1 : Int) := by rw [IntWalk.i64_in _ (by omega)]; omega
          have lk : k < N := by omega
          have lk1 : k1 < N := by omega
          have HBW := hBk'
          have HFW := hF.out
          have N1 : Hid (∀ w', WBlk E w' g ((((P ++ Y.take (k - a)) ++ x :: y :: (Y.drop (k - a + 1) ++ S)).set k y).set k1 x) → WBlk E w' g (P ++ (Y.take (k + 1 - a) ++ x :: Y.drop (k + 1 - a)) ++ S)) := Lib.hid (fun w' h => by rw [s3] at h; rw [hnx]; exact h)
          have ea : ((k : Int) + 1).toNat = k1 := by omega
          have p1 : (0 : Int) ≤ (k : Int) + 1 := by omega
          have p2 : (k : Int) + 1 < (N : Int) := by omega
          have p3 : (k : Int) < (N : Int) := by omega
          have t1 : decide ((k : Int) < (i : Int) - 1) = true := decide_eq_true (by omega)
          clear s1 s2 s3 hy hfm hlen hnx hk1 hBk' hBk hF
          go_wp2_with fail
          refine wp_until (fun w' : World => WtAt w' g (k * 10) (E x) ∧ WtAt w' g (k1 * 10) (E y)) 15 (by kernel_rfl) ?_
          have hS0 : (fun w' : World => WtAt w' g (k * 10) (E x) ∧ WtAt w' g (k1 * 10) (E y)) wr.drew := ⟨c1, c2⟩
          refine until_free (v := ?_) 0 61 rfl rfl (by kernel_rfl) (by kernel_rfl) (by kernel_rfl) (by kernel_rfl) (fun _ _ _ h => h) ⟨by rfl, ?_⟩ (fun _ => hS0) ?_
          rotate_left
          · intro w'; go_simp; (try with_reducible rfl)
          simp only [Act.put, List.setIfInBounds_toArray, List.set_cons_zero, List.set_cons_succ]
          refine until_free (v := ?_) 1 62 rfl rfl (by kernel_rfl) (by kernel_rfl) (by kernel_rfl) (by kernel_rfl) (fun _ _ _ h => h) ⟨by rfl, ?_⟩ (fun _ => hS0) ?_
          rotate_left
          · intro w'; go_simp; (try with_reducible rfl)
          simp only [Act.put, List.setIfInBounds_toArray, List.set_cons_zero, List.set_cons_succ]
          refine until_free (v := ?_) 2 63 rfl rfl (by kernel_rfl) (by kernel_rfl) (by kernel_rfl) (by kernel_rfl) (fun _ _ _ h => h) ⟨by rfl, ?_⟩ (fun _ => hS0) ?_
          rotate_left
          · intro w'; go_simp; (try with_reducible rfl)
          simp only [Act.put, List.setIfInBounds_toArray, List.set_cons_zero, List.set_cons_succ]
          refine until_free (v := ?_) 3 64 rfl rfl (by kernel_rfl) (by kernel_rfl) (by kernel_rfl) (by kernel_rfl) (fun _ _ _ h => h) ⟨by rfl, ?_⟩ (fun _ => hS0) ?_
          rotate_left
          · intro w'; go_simp; (try with_reducible rfl)
          simp only [Act.put, List.setIfInBounds_toArray, List.set_cons_zero, List.set_cons_succ]
          refine until_free (v := ?_) 4 65 rfl rfl (by kernel_rfl) (by kernel_rfl) (by kernel_rfl) (by kernel_rfl) (fun _ _ _ h => h) ⟨by rfl, ?_⟩ (fun _ => hS0) ?_
          rotate_left
          · intro w'; go_simp; (try with_reducible rfl)
          simp only [Act.put, List.setIfInBounds_toArray, List.set_cons_zero, List.set_cons_succ]
          refine until_free (v := ?_) 5 66 rfl rfl (by kernel_rfl) (by kernel_rfl) (by kernel_rfl) (by kernel_rfl) (fun _ _ _ h => h) ⟨by rfl, ?_⟩ (fun _ => hS0) ?_
          rotate_left
          · intro w'; go_simp; (try with_reducible rfl)
          simp only [Act.put, List.setIfInBounds_toArray, List.set_cons_zero, List.set_cons_succ]
          refine until_free (v := ?_) 6 67 rfl rfl (by kernel_rfl) (by kernel_rfl) (by kernel_rfl) (by kernel_rfl) (fun _ _ _ h => h) ⟨by rfl, ?_⟩ (fun _ => hS0) ?_
          rotate_left
          · intro w'; go_simp; (try with_reducible rfl)
          simp only [Act.put, List.setIfInBounds_toArray, List.set_cons_zero, List.set_cons_succ]
          refine until_free (v := ?_) 7 68 rfl rfl (by kernel_rfl) (by kernel_rfl) (by kernel_rfl) (by kernel_rfl) (fun _ _ _ h => h) ⟨by rfl, ?_⟩ (fun _ => hS0) ?_
          rotate_left
          · intro w'; go_simp; (try with_reducible rfl)
          simp only [Act.put, List.setIfInBounds_toArray, List.set_cons_zero, List.set_cons_succ]
          refine until_free (v := ?_) 8 69 rfl rfl (by kernel_rfl) (by kernel_rfl) (by kernel_rfl) (by kernel_rfl) (fun _ _ _ h => h) ⟨by rfl, ?_⟩ (fun _ => hS0) ?_
          rotate_left
          · intro w'; go_simp; (try with_reducible rfl)
          simp only [Act.put, List.setIfInBounds_toArray, List.set_cons_zero, List.set_cons_succ]
          refine until_take (v := ?_) 9 70 rfl rfl (by kernel_rfl) (by kernel_rfl) (by kernel_rfl) (by kernel_rfl) (fun _ _ _ h => h) ⟨by rfl, ?_⟩ hS0 ?_
          rotate_left
          · intro w' hw'; obtain ⟨x0, x1⟩ := hw'; refine Eq.trans (run_load_wt (by rfl) (by rfl) x1) ?_; (with_reducible rfl)
          simp only [Act.put, List.setIfInBounds_toArray, List.set_cons_zero, List.set_cons_succ]
          refine until_free (v := ?_) 10 71 rfl rfl (by kernel_rfl) (by kernel_rfl) (by kernel_rfl) (by kernel_rfl) (fun _ _ _ h => h) ⟨by rfl, ?_⟩ (fun _ => hS0) ?_
          rotate_left
          · intro w'; go_simp; (try with_reducible rfl)
          simp only [Act.put, List.setIfInBounds_toArray, List.set_cons_zero, List.set_cons_succ]
          refine until_free (v := ?_) 11 72 rfl rfl (by kernel_rfl) (by kernel_rfl) (by kernel_rfl) (by kernel_rfl) (fun _ _ _ h => h) ⟨by rfl, ?_⟩ (fun _ => hS0) ?_
          rotate_left
          · intro w'; go_simp; (try with_reducible rfl)
          simp only [Act.put, List.setIfInBounds_toArray, List.set_cons_zero, List.set_cons_succ]
          refine until_free (v := ?_) 12 73 rfl rfl (by kernel_rfl) (by kernel_rfl) (by kernel_rfl) (by kernel_rfl) (fun _ _ _ h => h) ⟨by rfl, ?_⟩ (fun _ => hS0) ?_
          rotate_left
          · intro w'; go_simp; (try with_reducible rfl)
          simp only [Act.put, List.setIfInBounds_toArray, List.set_cons_zero, List.set_cons_succ]
          refine until_take (v := ?_) 13 74 rfl rfl (by kernel_rfl) (by kernel_rfl) (by kernel_rfl) (by kernel_rfl) (fun _ _ _ h => h) ⟨by rfl, ?_⟩ hS0 ?_
          rotate_left
          · intro w' hw'; obtain ⟨x0, x1⟩ := hw'; refine Eq.trans (run_load_wt (by rfl) (by rfl) x0) ?_; (with_reducible rfl)
          simp only [Act.put, List.setIfInBounds_toArray, List.set_cons_zero, List.set_cons_succ]
          refine until_free (v := ?_) 14 75 rfl rfl (by kernel_rfl) (by kernel_rfl) (by kernel_rfl) (by kernel_rfl) (fun _ _ _ h => h) ⟨by rfl, ?_⟩ (fun _ => hS0) ?_
          rotate_left
          · intro w'; go_simp; (try with_reducible rfl)
          simp only [Act.put, List.setIfInBounds_toArray, List.set_cons_zero, List.set_cons_succ]
          refine until_one 15 rfl (by kernel_rfl) rfl (fun K hK => ?_)
          refine wp_store_wt (x := y) rfl (by rfl) (by rfl) HBW l1 (fun ws1 hBs1 hFs1 => ?_)
          refine hK.out _ _ (fun h => absurd h (by decide)) ?_
          clear hK K
          try simp only [Act.put]
          refine until_one 16 rfl (by kernel_rfl) rfl (fun K hK => ?_)
          go_simp
          refine hK.out _ _ (fun h => absurd h (by decide)) ?_
          clear hK K
          try simp only [Act.put, List.setIfInBounds_toArray, List.set_cons_zero, List.set_cons_succ]
          refine until_one 17 rfl (by kernel_rfl) rfl (fun K hK => ?_)
          refine wp_store_wt (x := x) rfl (by rfl) (by rfl) hBs1 (by rw [List.length_set]; exact l2) (fun W hBs2 hFs2 => ?_)
          refine hK.out _ _ (fun h => absurd h (by decide)) ?_
          clear hK K
          try simp only [Act.put]
          refine until_done (by kernel_rfl) ?_
          have N1' : Hid (WBlk E W g (P ++ (Y.take (k + 1 - a) ++ x :: Y.drop (k + 1 - a)) ++ S)) := Lib.hid (N1.out _ hBs2)
          have N2' : Hid (Foot (· = g) w W) := Lib.hid ((HFW.drew.trans hFs1 fun _ h => .inl h).trans hFs2 fun _ h => .inl h)
          clear N1 hBs2 hBs1 hFs1 hFs2 HBW HFW c1 c2 hS0 l1 l2
          go_wp2
          go_roundw
          case rel => exact ⟨k + 1, by go_num, by omega, by omega, N2', N1'⟩
          case measure => simp [intOf]; omega
        · have t1 : decide ((k : Int) < (i : Int) - 1) = false := decide_eq_false (by omega)
          have HZ : Hid (∃ Z, WBlk E wr g (P ++ Z ++ S) ∧ Z.Perm ([x] ++ Y) ∧ Asc key Z) := Lib.hid ⟨_, hBk.out, by
            have e : Y.take (k - a) ++ Y.drop (k - a) = Y := List.take_append_drop _ _
            have := (List.perm_middle (a := x) (l₁ := Y.take (k - a)) (l₂ := Y.drop (k - a)))
            rw [e] at this
            exact this, by
            have e : k - a = i - m := by have := Hma.out; omega
            rw [e]; exact HR.out⟩
          clear hlt hBk HR
          go_wp2
          (try simp only [Exit.inBlock, Exit.then])
          refine bodyPost_ret (results_none rfl _ _ _) rfl ?_
          exact ⟨rfl, hF.out, HZ⟩
set_option maxRecDepth 100000 in
set_option maxHeartbeats 2000000 in
theorem wsym_right (E : Nat → Wt) (cp : Nat) (key : Nat → Nat) (g N n a m b : Nat) (v0 : Value) (cv : Nat → Nat → Int) (w0 : World) (P X S : List Nat) (y : Nat) (w : World) (hC : CmpW E g n v0 cv w0) (hF0 : Foot (· = g) w0 w) (hy : y < n) (hXn : ∀ x ∈ X, x < n)
    (hr : Rel key (ltC cv) X [y]) (hX : Asc key X) (hX2 : 2 ≤ X.length) (ha : P.length = a) (hm : P.length + X.length = m) (hb : P.length + X.length + 1 = b) (hN : P.length + X.length + 1 + S.length = N) (hNl : N ≤ 1000000) (hB : WBlk E w g (P ++ X ++ [y] ++ S)) :
    Calls Try.prog 55 #[.slice (some ⟨g, 0, none⟩) N cp, .int .i64 (a : Nat), .int .i64 (m : Nat), .int .i64 (b : Nat), .func (.func 52) #[] #[v0]] w fun e w' =>
      e = .returned (.tuple #[]) ∧ Foot (· = g) w w' ∧ Hid (∃ Z, WBlk E w' g (P ++ Z ++ S) ∧ Z.Perm (X ++ [y]) ∧ Asc key Z) := by
  have H := Lib.hid (And.intro hC (And.intro hF0 (And.intro hy (And.intro hXn (And.intro hr (And.intro hX (And.intro ha (And.intro hm (And.intro hb hN)))))))))
  have HB := Lib.hid hB
  have HF := Lib.hid (Foot.refl (· = g) w)
  have hma : a + 2 ≤ m := by omega
  have hmb : m < b := by omega
  have hNb : b ≤ N := by omega
  have t0 : ((m : Int) - (a : Int) == 1) = false := beq_eq_false_iff_ne.2 (by omega)
  have t0' : ((b : Int) - (m : Int) == 1) = true := beq_iff_eq.2 (by omega)
  clear hC hF0 hy hXn hr hX ha hm hb hN hB hX2
  go_enter Try.func55, Try.ntmps55
  go_wp2
  go_loopw [14, 15] (fun vi vj wr => ∃ i j : Nat, vi = .int .i64 (i : Nat) ∧ vj = .int .i64 (j : Nat) ∧ a ≤ i ∧ i ≤ j ∧ j ≤ m ∧ Hid (Foot (· = g) w wr) ∧ Hid (WBlk E wr g (P ++ X ++ [y] ++ S)) ∧ Hid ((i = a ∨ ∀ x, X[i - a - 1]? = some x → key x ≤ key y) ∧ (j = m ∨ ∀ x, X[j - a]? = some x → key y ≤ key x))) (fun vi vj _ => (intOf vj).toNat - (intOf vi).toNat)
  case atStart => exact ⟨a, m, rfl, rfl, Nat.le_refl _, by omega, Nat.le_refl _, HF, HB, Lib.hid ⟨.inl rfl, .inl rfl⟩⟩
  case round =>
    clear HB HF
    obtain ⟨i, j, rfl, rfl, hai, hij, hjm, hF, hBk, hI⟩ := hrel
    by_cases hlt : i < j
    · obtain ⟨h, hh⟩ : ∃ h, h = (i + j) / 2 := ⟨_, rfl⟩
      have em : ((i : Int) + (j : Int)) / 2 = (h : Int) := by omega
      have h1 : i ≤ h := by omega
      have h2 : h < j := by omega
      have h3 : h < b := by omega
      obtain ⟨x, hx⟩ := get_of_lt (L := X) (k := h - a) (by have := H.out; omega)
      have hLx : (P ++ X ++ [y] ++ S)[h]? = some x := by
        rw [List.append_assoc (P ++ X), get_pre (P := P) (k := h - a) (by have := H.out; omega) (lt_of_get hx)]; exact hx
      have hLy : (P ++ X ++ [y] ++ S)[m]? = some y := by
        rw [get_pre (P := P ++ X) (k := 0) (by have := H.out; simp; omega) (by simp)]; rfl
      have c1 := hBk.out.at_ hLx
      have c2 := hBk.out.at_ hLy
      have hc := fun W (hb : Below wr.heap.size wr W) => H.out.1.at_ H.out.2.1 (foot_then hF.out hb) H.out.2.2.1 (H.out.2.2.2.1 x (mem_of_get hx))
      have lg := hBk.out.lt
      have hrel := H.out.2.2.2.2.1 x (mem_of_get hx) y (by simp)
      have j1 : (h : Int) < (N : Int) := by omega
      have j2 : (m : Int) < (N : Int) := by omega
      have t1 : decide ((i : Int) < (j : Int)) = true := decide_eq_true (by omega)
      clear hh
      clear hLx hLy
      go_wp2_with fail
      (try simp only [em])
      clear em
      cases hd : decide (cv y x < 0) with
      | true =>
        have hk : key y ≤ key x := by unfold ltC at hrel; rw [hd] at hrel; have := of_decide_eq_true hrel.symm; omega
        have HK := Lib.hid (show ∀ x', X[h - a]? = some x' → key y ≤ key x' by
          intro x' hx'
          rw [hx] at hx'; cases hx'; exact hk)
        clear hrel hx hk
        refine held_begin (fun w' : World => WtAt w' g (h * 10) (E x) ∧ WtAt w' g (m * 10) (E y)) (by kernel_rfl) ?_
        have hBq0 : Below wr.heap.size wr wr.drew := (Below.refl _ _).drew
        have hSq0 : (fun w' : World => WtAt w' g (h * 10) (E x) ∧ WtAt w' g (m * 10) (E y)) wr.drew := ⟨c1, c2⟩
        refine held_take (v := ?_) 0 92 rfl rfl (by kernel_rfl) (by kernel_rfl) (by kernel_rfl) (fun _ _ _ h => h) ⟨by rfl, ?_⟩ hSq0 ?_
        rotate_left
        · intro w' hw'; obtain ⟨x0, x1⟩ := hw'; go_simp; (try with_reducible rfl)
        simp only [Act.put, List.setIfInBounds_toArray, List.set_cons_zero, List.set_cons_succ]
        refine held_take (v := ?_) 1 93 rfl rfl (by kernel_rfl) (by kernel_rfl) (by kernel_rfl) (fun _ _ _ h => h) ⟨by rfl, ?_⟩ hSq0 ?_
        rotate_left
        · intro w' hw'; obtain ⟨x0, x1⟩ := hw'; go_simp; (try with_reducible rfl)
        simp only [Act.put, List.setIfInBounds_toArray, List.set_cons_zero, List.set_cons_succ]
        refine held_take (v := ?_) 2 94 rfl rfl (by kernel_rfl) (by kernel_rfl) (by kernel_rfl) (fun _ _ _ h => h) ⟨by rfl, ?_⟩ hSq0 ?_
        rotate_left
        · intro w' hw'; obtain ⟨x0, x1⟩ := hw'; go_simp; (try with_reducible rfl)
        simp only [Act.put, List.setIfInBounds_toArray, List.set_cons_zero, List.set_cons_succ]
        refine held_take (v := ?_) 3 95 rfl rfl (by kernel_rfl) (by kernel_rfl) (by kernel_rfl) (fun _ _ _ h => h) ⟨by rfl, ?_⟩ hSq0 ?_
        rotate_left
        · intro w' hw'; obtain ⟨x0, x1⟩ := hw'; go_simp; (try with_reducible rfl)
        simp only [Act.put, List.setIfInBounds_toArray, List.set_cons_zero, List.set_cons_succ]
        refine held_take (v := ?_) 4 96 rfl rfl (by kernel_rfl) (by kernel_rfl) (by kernel_rfl) (fun _ _ _ h => h) ⟨by rfl, ?_⟩ hSq0 ?_
        rotate_left
        · intro w' hw'; obtain ⟨x0, x1⟩ := hw'; refine Eq.trans (run_load_wt (by rfl) (by rfl) x1) ?_; (with_reducible rfl)
        simp only [Act.put, List.setIfInBounds_toArray, List.set_cons_zero, List.set_cons_succ]
        refine held_take (v := ?_) 5 97 rfl rfl (by kernel_rfl) (by kernel_rfl) (by kernel_rfl) (fun _ _ _ h => h) ⟨by rfl, ?_⟩ hSq0 ?_
        rotate_left
        · intro w' hw'; obtain ⟨x0, x1⟩ := hw'; go_simp; (try with_reducible rfl)
        simp only [Act.put, List.setIfInBounds_toArray, List.set_cons_zero, List.set_cons_succ]
        refine held_take (v := ?_) 6 98 rfl rfl (by kernel_rfl) (by kernel_rfl) (by kernel_rfl) (fun _ _ _ h => h) ⟨by rfl, ?_⟩ hSq0 ?_
        rotate_left
        · intro w' hw'; obtain ⟨x0, x1⟩ := hw'; go_simp; (try with_reducible rfl)
        simp only [Act.put, List.setIfInBounds_toArray, List.set_cons_zero, List.set_cons_succ]
        refine held_take (v := ?_) 7 99 rfl rfl (by kernel_rfl) (by kernel_rfl) (by kernel_rfl) (fun _ _ _ h => h) ⟨by rfl, ?_⟩ hSq0 ?_
        rotate_left
        · intro w' hw'; obtain ⟨x0, x1⟩ := hw'; go_simp; (try with_reducible rfl)
        simp only [Act.put, List.setIfInBounds_toArray, List.set_cons_zero, List.set_cons_succ]
        refine held_take (v := ?_) 8 100 rfl rfl (by kernel_rfl) (by kernel_rfl) (by kernel_rfl) (fun _ _ _ h => h) ⟨by rfl, ?_⟩ hSq0 ?_
        rotate_left
        · intro w' hw'; obtain ⟨x0, x1⟩ := hw'; refine Eq.trans (run_load_wt (by rfl) (by rfl) x0) ?_; (with_reducible rfl)
        simp only [Act.put, List.setIfInBounds_toArray, List.set_cons_zero, List.set_cons_succ]
        refine held_one 9 rfl (by kernel_rfl) (by rfl) (fun K hK => ?_)
        go_simp
        go_at_call 52
        refine (hc wr.drew hBq0).mono ?_
        rintro e wq1 ⟨rfl, hbq1⟩
        have hBq1 : Below wr.heap.size wr wq1 := below_step hBq0 hbq1
        have hSq1 : (fun w' : World => WtAt w' g (h * 10) (E x) ∧ WtAt w' g (m * 10) (E y)) wq1 := ⟨c1.keep lg hBq1, c2.keep lg hBq1⟩
        refine hK.out _ _ hSq1 ?_
        clear hK K
        refine held_take (v := ?_) 10 102 rfl rfl (by kernel_rfl) (by kernel_rfl) (by kernel_rfl) (fun _ _ _ h => h) ⟨by rfl, ?_⟩ hSq1 ?_
        rotate_left
        · intro w' hw'; obtain ⟨x0, x1⟩ := hw'; go_simp; (try with_reducible rfl)
        simp only [Act.put, List.setIfInBounds_toArray, List.set_cons_zero, List.set_cons_succ]
        refine held_take (v := ?_) 11 103 rfl rfl (by kernel_rfl) (by kernel_rfl) (by kernel_rfl) (fun _ _ _ h => h) ⟨by rfl, ?_⟩ hSq1 ?_
        rotate_left
        · intro w' hw'; obtain ⟨x0, x1⟩ := hw'; go_simp; (try with_reducible rfl)
        simp only [Act.put, List.setIfInBounds_toArray, List.set_cons_zero, List.set_cons_succ]
        refine wpAnyH_done (by kernel_rfl) ?_ _
        have hF1 : Hid (Foot (· = g) w wq1) := Lib.hid (foot_then hF.out hBq1)
        have hB1 : Hid (WBlk E wq1 g (P ++ X ++ [y] ++ S)) := Lib.hid (hBk.out.keep lg hBq1)
        clear c1 c2 hc hd hF hBk lg hBq0 hSq0 hbq1 hBq1 hSq1
        go_wp2
        go_roundw
        case rel => exact ⟨i, h, rfl, rfl, hai, h1, by omega, hF1, hB1, Lib.hid ⟨hI.out.1, .inr HK.out⟩⟩
        case measure => simp [intOf]; omega
      | false =>
        have hk : key x ≤ key y := by unfold ltC at hrel; rw [hd] at hrel; have := of_decide_eq_false hrel.symm; omega
        have HK := Lib.hid (show ∀ x', X[h + 1 - a - 1]? = some x' → key x' ≤ key y by
          intro x' hx'
          rw [show h + 1 - a - 1 = h - a by omega, hx] at hx'; cases hx'; exact hk)
        clear hrel hx hk
        refine held_begin (fun w' : World => WtAt w' g (h * 10) (E x) ∧ WtAt w' g (m * 10) (E y)) (by kernel_rfl) ?_
        have hBq0 : Below wr.heap.size wr wr.drew := (Below.refl _ _).drew
        have hSq0 : (fun w' : World => WtAt w' g (h * 10) (E x) ∧ WtAt w' g (m * 10) (E y)) wr.drew := ⟨c1, c2⟩
        refine held_take (v := ?_) 0 92 rfl rfl (by kernel_rfl) (by kernel_rfl) (by kernel_rfl) (fun _ _ _ h => h) ⟨by rfl, ?_⟩ hSq0 ?_
        rotate_left
        · intro w' hw'; obtain ⟨x0, x1⟩ := hw'; go_simp; (try with_reducible rfl)
        simp only [Act.put, List.setIfInBounds_toArray, List.set_cons_zero, List.set_cons_succ]
        refine held_take (v := ?_) 1 93 rfl rfl (by kernel_rfl) (by kernel_rfl) (by kernel_rfl) (fun _ _ _ h => h) ⟨by rfl, ?_⟩ hSq0 ?_
        rotate_left
        · intro w' hw'; obtain ⟨x0, x1⟩ := hw'; go_simp; (try with_reducible rfl)
        simp only [Act.put, List.setIfInBounds_toArray, List.set_cons_zero, List.set_cons_succ]
        refine held_take (v := ?_) 2 94 rfl rfl (by kernel_rfl) (by kernel_rfl) (by kernel_rfl) (fun _ _ _ h => h) ⟨by rfl, ?_⟩ hSq0 ?_
        rotate_left
        · intro w' hw'; obtain ⟨x0, x1⟩ := hw'; go_simp; (try with_reducible rfl)
        simp only [Act.put, List.setIfInBounds_toArray, List.set_cons_zero, List.set_cons_succ]
        refine held_take (v := ?_) 3 95 rfl rfl (by kernel_rfl) (by kernel_rfl) (by kernel_rfl) (fun _ _ _ h => h) ⟨by rfl, ?_⟩ hSq0 ?_
        rotate_left
        · intro w' hw'; obtain ⟨x0, x1⟩ := hw'; go_simp; (try with_reducible rfl)
        simp only [Act.put, List.setIfInBounds_toArray, List.set_cons_zero, List.set_cons_succ]
        refine held_take (v := ?_) 4 96 rfl rfl (by kernel_rfl) (by kernel_rfl) (by kernel_rfl) (fun _ _ _ h => h) ⟨by rfl, ?_⟩ hSq0 ?_
        rotate_left
        · intro w' hw'; obtain ⟨x0, x1⟩ := hw'; refine Eq.trans (run_load_wt (by rfl) (by rfl) x1) ?_; (with_reducible rfl)
        simp only [Act.put, List.setIfInBounds_toArray, List.set_cons_zero, List.set_cons_succ]
        refine held_take (v := ?_) 5 97 rfl rfl (by kernel_rfl) (by kernel_rfl) (by kernel_rfl) (fun _ _ _ h => h) ⟨by rfl, ?_⟩ hSq0 ?_
        rotate_left
        · intro w' hw'; obtain ⟨x0, x1⟩ := hw'; go_simp; (try with_reducible rfl)
        simp only [Act.put, List.setIfInBounds_toArray, List.set_cons_zero, List.set_cons_succ]
        refine held_take (v := ?_) 6 98 rfl rfl (by kernel_rfl) (by kernel_rfl) (by kernel_rfl) (fun _ _ _ h => h) ⟨by rfl, ?_⟩ hSq0 ?_
        rotate_left
        · intro w' hw'; obtain ⟨x0, x1⟩ := hw'; go_simp; (try with_reducible rfl)
        simp only [Act.put, List.setIfInBounds_toArray, List.set_cons_zero, List.set_cons_succ]
        refine held_take (v := ?_) 7 99 rfl rfl (by kernel_rfl) (by kernel_rfl) (by kernel_rfl) (fun _ _ _ h => h) ⟨by rfl, ?_⟩ hSq0 ?_
        rotate_left
        · intro w' hw'; obtain ⟨x0, x1⟩ := hw'; go_simp; (try with_reducible rfl)
        simp only [Act.put, List.setIfInBounds_toArray, List.set_cons_zero, List.set_cons_succ]
        refine held_take (v := ?_) 8 100 rfl rfl (by kernel_rfl) (by kernel_rfl) (by kernel_rfl) (fun _ _ _ h => h) ⟨by rfl, ?_⟩ hSq0 ?_
        rotate_left
        · intro w' hw'; obtain ⟨x0, x1⟩ := hw'; refine Eq.trans (run_load_wt (by rfl) (by rfl) x0) ?_; (with_reducible rfl)
        simp only [Act.put, List.setIfInBounds_toArray, List.set_cons_zero, List.set_cons_succ]
        refine held_one 9 rfl (by kernel_rfl) (by rfl) (fun K hK => ?_)
        go_simp
        go_at_call 52
        refine (hc wr.drew hBq0).mono ?_
        rintro e wq1 ⟨rfl, hbq1⟩
        have hBq1 : Below wr.heap.size wr wq1 := below_step hBq0 hbq1
        have hSq1 : (fun w' : World => WtAt w' g (h * 10) (E x) ∧ WtAt w' g (m * 10) (E y)) wq1 := ⟨c1.keep lg hBq1, c2.keep lg hBq1⟩
        refine hK.out _ _ hSq1 ?_
        clear hK K
        refine held_take (v := ?_) 10 102 rfl rfl (by kernel_rfl) (by kernel_rfl) (by kernel_rfl) (fun _ _ _ h => h) ⟨by rfl, ?_⟩ hSq1 ?_
        rotate_left
        · intro w' hw'; obtain ⟨x0, x1⟩ := hw'; go_simp; (try with_reducible rfl)
        simp only [Act.put, List.setIfInBounds_toArray, List.set_cons_zero, List.set_cons_succ]
        refine held_take (v := ?_) 11 103 rfl rfl (by kernel_rfl) (by kernel_rfl) (by kernel_rfl) (fun _ _ _ h => h) ⟨by rfl, ?_⟩ hSq1 ?_
        rotate_left
        · intro w' hw'; obtain ⟨x0, x1⟩ := hw'; go_simp; (try with_reducible rfl)
        simp only [Act.put, List.setIfInBounds_toArray, List.set_cons_zero, List.set_cons_succ]
        refine wpAnyH_done (by kernel_rfl) ?_ _
        have hF1 : Hid (Foot (· = g) w wq1) := Lib.hid (foot_then hF.out hBq1)
        have hB1 : Hid (WBlk E wq1 g (P ++ X ++ [y] ++ S)) := Lib.hid (hBk.out.keep lg hBq1)
        clear c1 c2 hc hd hF hBk lg hBq0 hSq0 hbq1 hBq1 hSq1
        go_wp2
        go_roundw
        case rel => exact ⟨h + 1, j, by go_num, rfl, by omega, by omega, hjm, hF1, hB1, Lib.hid ⟨.inr HK.out, hI.out.2⟩⟩
        case measure => simp [intOf]; omega
    · obtain rfl : i = j := by omega
      clear hlt hij
      have HR : Hid (Asc key (X.take (i - a) ++ y :: X.drop (i - a))) := Lib.hid (by
        have hy := H.out
        refine asc_put hy.2.2.2.2.2.1 (by omega) ?_ ?_
        · rcases hI.out.1 with e | e
          · exact .inl (by omega)
          · exact .inr e
        · rcases hI.out.2 with e | e
          · exact .inl (by omega)
          · exact .inr e)
      clear hI
      have hF0 := hF
      have hB0 : Hid (WBlk E wr g (P ++ (X.take (m - a) ++ y :: X.drop (m - a)) ++ S)) := Lib.hid (by have := hBk.out; rw [show m - a = X.length by have := H.out; omega]; simpa using this)
      clear hF hBk
      go_wp2
      go_loopw [17] (fun vk wr => ∃ k : Nat, vk = .int .i64 (k : Nat) ∧ i ≤ k ∧ k ≤ m ∧ Hid (Foot (· = g) w wr) ∧ Hid (WBlk E wr g (P ++ (X.take (k - a) ++ y :: X.drop (k - a)) ++ S))) (fun vk _ => (intOf vk).toNat)
      case atStart => exact ⟨m, rfl, by omega, Nat.le_refl _, hF0, hB0⟩
      case round =>
        clear hF0 hB0
        obtain ⟨k, rfl, hik, hkm, hF, hBk⟩ := hrel
        by_cases hlt : i < k
        · obtain ⟨kp, rfl⟩ : ∃ q, k = q + 1 := ⟨k - 1, by omega⟩
          obtain ⟨x, hx⟩ := get_of_lt (L := X) (k := kp - a) (by have := H.out; omega)
          have hfm : P ++ (X.take (kp + 1 - a) ++ y :: X.drop (kp + 1 - a)) ++ S = (P ++ X.take (kp - a)) ++ x :: y :: (X.drop (kp - a + 1) ++ S) := by
            rw [show kp + 1 - a = kp - a + 1 by omega, take_at hx]; simp
          have hlen : (P ++ X.take (kp - a)).length = kp := by have := H.out; have := lt_of_get hx; rw [List.length_append, List.length_take]; omega
          have hnx : P ++ (X.take (kp - a) ++ y :: X.drop (kp - a)) ++ S = (P ++ X.take (kp - a)) ++ y :: x :: (X.drop (kp - a + 1) ++ S) := by rw [drop_at hx]; simp
          obtain ⟨k1, hk1⟩ : ∃ q, q = kp + 1 := ⟨_, rfl⟩
          have hBk' := hBk.out
          rw [hfm] at hBk'
          obtain ⟨s1, s2, _⟩ := next_st (x := x) (y := y) (C := X.drop (kp - a + 1) ++ S) hlen
          have s3 := next_ts (x := x) (y := y) (C := X.drop (kp - a + 1) ++ S) hlen
          rw [← hk1] at s2 s3
          have c1 := hBk'.at_ s1
          have c2 := hBk'.at_ s2
          have l1 := lt_of_get s1
          have l2 := lt_of_get s2
          have wk : IntKind.i64.wrap (kp : Int) = (kp : Int) := IntWalk.i64_in _ (by omega)
          have lk : kp < N := by omega
          have lk1 : k1 < N := by omega
          have HBW := hBk'
          have HFW := hF.out
          have N1 : Hid (∀ w', WBlk E w' g ((((P ++ X.take (kp - a)) ++ x :: y :: (X.drop (kp - a + 1) ++ S)).set k1 x).set kp y) → WBlk E w' g (P ++ (X.take (kp - a) ++ y :: X.drop (kp - a)) ++ S)) := Lib.hid (fun w' h => by rw [s3] at h; rw [hnx]; exact h)
          have ea : ((kp : Int) + 1).toNat = k1 := by omega
          have p1 : (0 : Int) ≤ (kp : Int) + 1 := by omega
          have p2 : (kp : Int) + 1 < (N : Int) := by omega
          have p3 : (kp : Int) < (N : Int) := by omega
          have t1 : decide ((i : Int) < (kp : Int) + 1) = true := decide_eq_true (by omega)
          clear s1 s2 s3 hx hfm hlen hnx hk1 hBk' hBk hF
          go_wp2_with fail
          refine wp_until (fun w' : World => WtAt w' g (kp * 10) (E x) ∧ WtAt w' g (k1 * 10) (E y)) 15 (by kernel_rfl) ?_
          have hS0 : (fun w' : World => WtAt w' g (kp * 10) (E x) ∧ WtAt w' g (k1 * 10) (E y)) wr.drew := ⟨c1, c2⟩
          refine until_free (v := ?_) 0 113 rfl rfl (by kernel_rfl) (by kernel_rfl) (by kernel_rfl) (by kernel_rfl) (fun _ _ _ h => h) ⟨by rfl, ?_⟩ (fun _ => hS0) ?_
          rotate_left
          · intro w'; go_simp; (try with_reducible rfl)
          simp only [Act.put, List.setIfInBounds_toArray, List.set_cons_zero, List.set_cons_succ]
          refine until_free (v := ?_) 1 114 rfl rfl (by kernel_rfl) (by kernel_rfl) (by kernel_rfl) (by kernel_rfl) (fun _ _ _ h => h) ⟨by rfl, ?_⟩ (fun _ => hS0) ?_
          rotate_left
          · intro w'; go_simp; (try with_reducible rfl)
          simp only [Act.put, List.setIfInBounds_toArray, List.set_cons_zero, List.set_cons_succ]
          refine until_free (v := ?_) 2 115 rfl rfl (by kernel_rfl) (by kernel_rfl) (by kernel_rfl) (by kernel_rfl) (fun _ _ _ h => h) ⟨by rfl, ?_⟩ (fun _ => hS0) ?_
          rotate_left
          · intro w'; go_simp; (try with_reducible rfl)
          simp only [Act.put, List.setIfInBounds_toArray, List.set_cons_zero, List.set_cons_succ]
          refine until_free (v := ?_) 3 116 rfl rfl (by kernel_rfl) (by kernel_rfl) (by kernel_rfl) (by kernel_rfl) (fun _ _ _ h => h) ⟨by rfl, ?_⟩ (fun _ => hS0) ?_
          rotate_left
          · intro w'; go_simp; (try with_reducible rfl)
          simp only [Act.put, List.setIfInBounds_toArray, List.set_cons_zero, List.set_cons_succ]
          refine until_free (v := ?_) 4 117 rfl rfl (by kernel_rfl) (by kernel_rfl) (by kernel_rfl) (by kernel_rfl) (fun _ _ _ h => h) ⟨by rfl, ?_⟩ (fun _ => hS0) ?_
          rotate_left
          · intro w'; go_simp; (try with_reducible rfl)
          simp only [Act.put, List.setIfInBounds_toArray, List.set_cons_zero, List.set_cons_succ]
          refine until_free (v := ?_) 5 118 rfl rfl (by kernel_rfl) (by kernel_rfl) (by kernel_rfl) (by kernel_rfl) (fun _ _ _ h => h) ⟨by rfl, ?_⟩ (fun _ => hS0) ?_
          rotate_left
          · intro w'; go_simp; (try with_reducible rfl)
          simp only [Act.put, List.setIfInBounds_toArray, List.set_cons_zero, List.set_cons_succ]
          refine until_free (v := ?_) 6 119 rfl rfl (by kernel_rfl) (by kernel_rfl) (by kernel_rfl) (by kernel_rfl) (fun _ _ _ h => h) ⟨by rfl, ?_⟩ (fun _ => hS0) ?_
          rotate_left
          · intro w'; go_simp; (try with_reducible rfl)
          simp only [Act.put, List.setIfInBounds_toArray, List.set_cons_zero, List.set_cons_succ]
          refine until_free (v := ?_) 7 120 rfl rfl (by kernel_rfl) (by kernel_rfl) (by kernel_rfl) (by kernel_rfl) (fun _ _ _ h => h) ⟨by rfl, ?_⟩ (fun _ => hS0) ?_
          rotate_left
          · intro w'; go_simp; (try with_reducible rfl)
          simp only [Act.put, List.setIfInBounds_toArray, List.set_cons_zero, List.set_cons_succ]
          refine until_free (v := ?_) 8 121 rfl rfl (by kernel_rfl) (by kernel_rfl) (by kernel_rfl) (by kernel_rfl) (fun _ _ _ h => h) ⟨by rfl, ?_⟩ (fun _ => hS0) ?_
          rotate_left
          · intro w'; go_simp; (try with_reducible rfl)
          simp only [Act.put, List.setIfInBounds_toArray, List.set_cons_zero, List.set_cons_succ]
          refine until_take (v := ?_) 9 122 rfl rfl (by kernel_rfl) (by kernel_rfl) (by kernel_rfl) (by kernel_rfl) (fun _ _ _ h => h) ⟨by rfl, ?_⟩ hS0 ?_
          rotate_left
          · intro w' hw'; obtain ⟨x0, x1⟩ := hw'; refine Eq.trans (run_load_wt (by rfl) (by rfl) x0) ?_; (with_reducible rfl)
          simp only [Act.put, List.setIfInBounds_toArray, List.set_cons_zero, List.set_cons_succ]
          refine until_free (v := ?_) 10 123 rfl rfl (by kernel_rfl) (by kernel_rfl) (by kernel_rfl) (by kernel_rfl) (fun _ _ _ h => h) ⟨by rfl, ?_⟩ (fun _ => hS0) ?_
          rotate_left
          · intro w'; go_simp; (try with_reducible rfl)
          simp only [Act.put, List.setIfInBounds_toArray, List.set_cons_zero, List.set_cons_succ]
          refine until_free (v := ?_) 11 124 rfl rfl (by kernel_rfl) (by kernel_rfl) (by kernel_rfl) (by kernel_rfl) (fun _ _ _ h => h) ⟨by rfl, ?_⟩ (fun _ => hS0) ?_
          rotate_left
          · intro w'; go_simp; (try with_reducible rfl)
          simp only [Act.put, List.setIfInBounds_toArray, List.set_cons_zero, List.set_cons_succ]
          refine until_free (v := ?_) 12 125 rfl rfl (by kernel_rfl) (by kernel_rfl) (by kernel_rfl) (by kernel_rfl) (fun _ _ _ h => h) ⟨by rfl, ?_⟩ (fun _ => hS0) ?_
          rotate_left
          · intro w'; go_simp; (try with_reducible rfl)
          simp only [Act.put, List.setIfInBounds_toArray, List.set_cons_zero, List.set_cons_succ]
          refine until_take (v := ?_) 13 126 rfl rfl (by kernel_rfl) (by kernel_rfl) (by kernel_rfl) (by kernel_rfl) (fun _ _ _ h => h) ⟨by rfl, ?_⟩ hS0 ?_
          rotate_left
          · intro w' hw'; obtain ⟨x0, x1⟩ := hw'; refine Eq.trans (run_load_wt (by rfl) (by rfl) x1) ?_; (with_reducible rfl)
          simp only [Act.put, List.setIfInBounds_toArray, List.set_cons_zero, List.set_cons_succ]
          refine until_free (v := ?_) 14 127 rfl rfl (by kernel_rfl) (by kernel_rfl) (by kernel_rfl) (by kernel_rfl) (fun _ _ _ h => h) ⟨by rfl, ?_⟩ (fun _ => hS0) ?_
          rotate_left
          · intro w'; go_simp; (try with_reducible rfl)
          simp only [Act.put, List.setIfInBounds_toArray, List.set_cons_zero, List.set_cons_succ]
          refine until_one 15 rfl (by kernel_rfl) rfl (fun K hK => ?_)
          refine wp_store_wt (x := x) rfl (by rfl) (by rfl) HBW l2 (fun ws1 hBs1 hFs1 => ?_)
          refine hK.out _ _ (fun h => absurd h (by decide)) ?_
          clear hK K
          try simp only [Act.put]
          refine until_one 16 rfl (by kernel_rfl) rfl (fun K hK => ?_)
          go_simp
          refine hK.out _ _ (fun h => absurd h (by decide)) ?_
          clear hK K
          try simp only [Act.put, List.setIfInBounds_toArray, List.set_cons_zero, List.set_cons_succ]
          refine until_one 17 rfl (by kernel_rfl) rfl (fun K hK => ?_)
          refine wp_store_wt (x := y) rfl (by rfl) (by rfl) hBs1 (by rw [List.length_set]; exact l1) (fun W hBs2 hFs2 => ?_)
          refine hK.out _ _ (fun h => absurd h (by decide)) ?_
          clear hK K
          try simp only [Act.put]
          refine until_done (by kernel_rfl) ?_
          have N1' : Hid (WBlk E W g (P ++ (X.take (kp - a) ++ y :: X.drop (kp - a)) ++ S)) := Lib.hid (N1.out _ hBs2)
          have N2' : Hid (Foot (· = g) w W) := Lib.hid ((HFW.drew.trans hFs1 fun _ h => .inl h).trans hFs2 fun _ h => .inl h)
          clear N1 hBs2 hBs1 hFs1 hFs2 HBW HFW c1 c2 hS0 l1 l2
          go_wp2
          go_roundw
          case rel => exact ⟨kp, by go_num, by omega, by omega, N2', N1'⟩
          case measure => simp [intOf]
        · have t1 : decide (i < k) = false := decide_eq_false (by omega)
          have HZ : Hid (∃ Z, WBlk E wr g (P ++ Z ++ S) ∧ Z.Perm (X ++ [y]) ∧ Asc key Z) := Lib.hid ⟨_, hBk.out, by
            have e : X.take (k - a) ++ X.drop (k - a) = X := List.take_append_drop _ _
            have := (List.perm_middle (a := y) (l₁ := X.take (k - a)) (l₂ := X.drop (k - a)))
            rw [e] at this
            exact this.trans (List.perm_append_comm (l₁ := [y]) (l₂ := X)), by
            have e : k = i := by omega
            rw [e]; exact HR.out⟩
          clear hlt hBk HR
          go_wp2
          (try simp only [Exit.inBlock, Exit.then])
          refine bodyPost_ret (results_none rfl _ _ _) rfl ?_
          exact ⟨rfl, hF.out, HZ⟩
end Go.Proofs.Ytdeniikaddlifaa
