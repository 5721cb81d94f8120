/- symMergeCmpFunc of package slices, at numbers in one block: two sorted rows, each of the first ahead of each of the second where their keys are alike, become one. -/
import Derived.RegionTactic
import Derived.BigRegion
import Derived.BigQuiet
import Derived.Deep.QuietTactic
import Derived.Test.YteflblcbmkcidaaDoorPackSwap
namespace Go.Proofs.YteflblcbmkcidaaDoor
open Go.RowKit
namespace PK
theorem Blk.drewN {w : World} {g : Nat} {L : List Nat} (h : Blk w g L) (n : Nat) : Blk (w.drewN n) g L := h
/-- The closure of the sort: what it answers of two numbers, in whatever world the sort passes through. -/
def Cmp (g n : Nat) (v0 : Value) (cv : Nat → Nat → Int) (w0 : World) : Prop :=
  ∀ W, Foot (· = g) w0 W → ∀ x y, x < n → y < n → Calls Tryd.prog 23 #[.int .i64 (x : Nat), .int .i64 (y : Nat), v0] W fun e w' => e = .returned (.int .i64 (cv x y)) ∧ ∃ q, w' = W.drewN q
def ltC (cv : Nat → Nat → Int) (x y : Nat) : Bool := decide (cv x y < 0)
theorem get_pre {P X S : List Nat} {k i : Nat} (h : i = P.length + k) (hk : k < X.length) : (P ++ X ++ S)[i]? = X[k]? := by
  subst h
  rw [List.append_assoc, List.getElem?_append_right (by omega), Nat.add_sub_cancel_left, List.getElem?_append_left hk]
theorem Cmp.at_ {g n : Nat} {v0 : Value} {cv : Nat → Nat → Int} {w0 w W : World} (h : Cmp g n v0 cv w0) (h0 : Foot (· = g) w0 w) (hW : Foot (· = g) w W) {x y : Nat} (hx : x < n) (hy : y < n) (q : Nat) :
    Calls Tryd.prog 23 #[.int .i64 (x : Nat), .int .i64 (y : Nat), v0] (W.drewN q) fun e w' => e = .returned (.int .i64 (cv x y)) ∧ ∃ m, w' = W.drewN m :=
  Calls.quiet_of (h _ ((h0.trans hW fun _ h => .inl h).drewN q) x y hx hy)
theorem mem_of_get {L : List Nat} {i x : Nat} (h : L[i]? = some x) : x ∈ L := List.mem_of_getElem? h
end PK
open PK
set_option maxRecDepth 100000 in
set_option maxHeartbeats 2000000 in
theorem sym_left (key : Nat → Nat) (g N n a m b : Nat) (v0 : Value) (cv : Nat → Nat → Int) (w0 : World) (P Y S : List Nat) (x : Nat) (w : World) (hC : Cmp g n v0 cv w0) (hF0 : Foot (· = g) w0 w) (hx : x < n) (hYn : ∀ y ∈ Y, y < n)
    (hr : Rel key (ltC cv) [x] Y) (hY : Asc key Y) (ha : P.length = a) (hm : P.length + 1 = m) (hb : P.length + 1 + Y.length = b) (hN : P.length + 1 + Y.length + S.length = N) (hNl : N ≤ 1000000) (hB : Blk w g (P ++ [x] ++ Y ++ S)) :
    Calls Tryd.prog 38 #[.slice (some ⟨g, 0, none⟩) N N, .int .i64 (a : Nat), .int .i64 (m : Nat), .int .i64 (b : Nat), .func (.func 23) #[] #[v0]] w fun e w' =>
      e = .returned (.tuple #[]) ∧ Foot (· = g) w w' ∧ Hid (∃ Z, Blk w' g (P ++ Z ++ S) ∧ Z.Perm ([x] ++ Y) ∧ Asc key Z) := by
  have H := Lib.hid (And.intro hC (And.intro hF0 (And.intro hx (And.intro hYn (And.intro hr (And.intro hY (And.intro ha (And.intro hm (And.intro hb hN)))))))))
  have HB := Lib.hid hB
  have HF := Lib.hid (Foot.refl (· = g) w)
  have hma : m = a + 1 := by omega
  have hmb : m ≤ b := by omega
  have hNb : b ≤ N := by omega
  have t0 : ((m : Int) - (a : Int) == 1) = true := beq_iff_eq.2 (by omega)
  clear hC hF0 hx hYn hr hY ha hm hb hN hB
  have Hma := Lib.hid hma
  have hma2 : a < m := by omega
  clear hma
  go_enter Tryd.func38, Tryd.ntmps38
  go_wp2
  go_loopw [10, 11] (fun vi vj wr => ∃ i j : Nat, vi = .int .i64 (i : Nat) ∧ vj = .int .i64 (j : Nat) ∧ m ≤ i ∧ i ≤ j ∧ j ≤ b ∧ Hid (Foot (· = g) w wr) ∧ Hid (Blk wr g (P ++ [x] ++ Y ++ S)) ∧ Hid ((i = m ∨ ∀ y, Y[i - m - 1]? = some y → key y ≤ key x) ∧ (j = b ∨ ∀ y, Y[j - m]? = some y → key x ≤ key y))) (fun vi vj _ => (intOf vj).toNat - (intOf vi).toNat)
  case atStart => exact ⟨m, b, rfl, rfl, Nat.le_refl _, hmb, Nat.le_refl _, HF, HB, Lib.hid ⟨.inl rfl, .inl rfl⟩⟩
  case round =>
    clear HB HF
    obtain ⟨i, j, rfl, rfl, hmi, hij, hjb, hF, hBk, hI⟩ := hrel
    by_cases hlt : i < j
    · obtain ⟨h, hh⟩ : ∃ h, h = (i + j) / 2 := ⟨_, rfl⟩
      have em : ((i : Int) + (j : Int)) / 2 = (h : Int) := by omega
      have h1 : i ≤ h := by omega
      have h2 : h < j := by omega
      have h3 : h < b := by omega
      obtain ⟨y, hy⟩ := get_of_lt (L := Y) (k := h - m) (by have := H.out; omega)
      have hLy : (P ++ [x] ++ Y ++ S)[h]? = some y := by
        rw [get_pre (P := P ++ [x]) (k := h - m) (by have := H.out.2.2.2.2.2.2.2.1; simp; omega) (lt_of_get hy)]; exact hy
      have hLx : (P ++ [x] ++ Y ++ S)[a]? = some x := by
        rw [show a = P.length from H.out.2.2.2.2.2.2.1.symm]; simp
      have c1 := hBk.out.cell hLy
      have c2 := hBk.out.cell hLx
      have hc := fun q => H.out.1.at_ H.out.2.1 hF.out (H.out.2.2.2.1 y (mem_of_get hy)) H.out.2.2.1 q
      have hrel := H.out.2.2.2.2.1 x (by simp) y (mem_of_get hy)
      have j1 : (h : Int) < (N : Int) := by omega
      have j2 : (a : Int) < (N : Int) := by omega
      have t1 : decide ((i : Int) < (j : Int)) = true := decide_eq_true (by omega)
      clear hh
      clear hLx hLy
      go_wp2_with fail
      (try simp only [em])
      clear em
      cases hd : decide (cv y x < 0) with
      | true =>
        have hk : key y ≤ key x := by unfold ltC at hrel; rw [hd] at hrel; have := of_decide_eq_true hrel.symm; omega
        have HK := Lib.hid (show ∀ y', Y[h + 1 - m - 1]? = some y' → key y' ≤ key x by
          intro y' hy'
          rw [show h + 1 - m - 1 = h - m by omega, hy] at hy'; cases hy'; exact hk)
        clear hrel hy hk
        go_quiet (first | (go_at_call 23; exact hc _))
        have hF1 : Hid (Foot (· = g) w (wr.drewN nq)) := Lib.hid (hF.out.drewN nq)
        have hB1 : Hid (Blk (wr.drewN nq) g (P ++ [x] ++ Y ++ S)) := Lib.hid (hBk.out.drewN nq)
        clear c1 c2 hc hd hF hBk
        generalize wr.drewN nq = W at hF1 hB1 ⊢
        go_wp2
        go_roundw
        case rel => exact ⟨h + 1, j, by go_num, rfl, by omega, by omega, hjb, hF1, hB1, Lib.hid ⟨.inr HK.out, hI.out.2⟩⟩
        case measure => simp [intOf]; omega
      | false =>
        have hk : key x ≤ key y := by unfold ltC at hrel; rw [hd] at hrel; have := of_decide_eq_false hrel.symm; omega
        have HK := Lib.hid (show ∀ y', Y[h - m]? = some y' → key x ≤ key y' by
          intro y' hy'
          rw [hy] at hy'; cases hy'; exact hk)
        clear hrel hy hk
        go_quiet (first | (go_at_call 23; exact hc _))
        have hF1 : Hid (Foot (· = g) w (wr.drewN nq)) := Lib.hid (hF.out.drewN nq)
        have hB1 : Hid (Blk (wr.drewN nq) g (P ++ [x] ++ Y ++ S)) := Lib.hid (hBk.out.drewN nq)
        clear c1 c2 hc hd hF hBk
        generalize wr.drewN nq = W at hF1 hB1 ⊢
        go_wp2
        go_roundw
        case rel => exact ⟨i, h, rfl, rfl, hmi, h1, by omega, hF1, hB1, Lib.hid ⟨hI.out.1, .inr HK.out⟩⟩
        case measure => simp [intOf]; omega
    · obtain rfl : i = j := by omega
      clear hlt hij
      have HR : Hid (Asc key (Y.take (i - m) ++ x :: Y.drop (i - m))) := Lib.hid (by
        have hy := H.out
        refine asc_put hy.2.2.2.2.2.1 (by omega) ?_ ?_
        · rcases hI.out.1 with e | e
          · exact .inl (by omega)
          · exact .inr e
        · rcases hI.out.2 with e | e
          · exact .inl (by omega)
          · exact .inr e)
      clear hI
      have hF0 := hF
      have hB0 : Hid (Blk wr g (P ++ (Y.take (a - a) ++ x :: Y.drop (a - a)) ++ S)) := Lib.hid (by have := hBk.out; simpa using this)
      clear hF hBk
      go_wp2
      go_loopw [13] (fun vk wr => ∃ k : Nat, vk = .int .i64 (k : Nat) ∧ a ≤ k ∧ k + 1 ≤ i ∧ Hid (Foot (· = g) w wr) ∧ Hid (Blk wr g (P ++ (Y.take (k - a) ++ x :: Y.drop (k - a)) ++ S))) (fun vk _ => i - (intOf vk).toNat)
      case atStart => exact ⟨a, rfl, Nat.le_refl _, by omega, hF0, hB0⟩
      case round =>
        clear hF0 hB0
        obtain ⟨k, rfl, hak, hki, hF, hBk⟩ := hrel
        by_cases hlt : k + 1 < i
        · obtain ⟨y, hy⟩ := get_of_lt (L := Y) (k := k - a) (by have := H.out; have := Hma.out; omega)
          have hfm : P ++ (Y.take (k - a) ++ x :: Y.drop (k - a)) ++ S = (P ++ Y.take (k - a)) ++ x :: y :: (Y.drop (k - a + 1) ++ S) := by rw [drop_at hy]; simp
          have hlen : (P ++ Y.take (k - a)).length = k := by have := H.out; have := lt_of_get hy; rw [List.length_append, List.length_take]; omega
          have hnx : P ++ (Y.take (k + 1 - a) ++ x :: Y.drop (k + 1 - a)) ++ S = (P ++ Y.take (k - a)) ++ y :: x :: (Y.drop (k - a + 1) ++ S) := by
            rw [show k + 1 - a = k - a + 1 by omega, take_at hy]; simp
          obtain ⟨k1, hk1⟩ : ∃ q, q = k + 1 := ⟨_, rfl⟩
          have hBk' := hBk.out
          rw [hfm] at hBk'
          obtain ⟨s1, s2, s3⟩ := next_st (x := x) (y := y) (C := Y.drop (k - a + 1) ++ S) hlen
          rw [← hk1] at s2 s3
          have c1 : wr.cell? ⟨g, k, none⟩ = some (.int .i64 (x : Int)) := hBk'.cell s1
          have c2 : wr.cell? ⟨g, k1, none⟩ = some (.int .i64 (y : Int)) := hBk'.cell s2
          have z1 : wr.frozen? ⟨g, k, none⟩ = false := hBk'.frozen
          have z2 : wr.frozen? ⟨g, k1, none⟩ = false := hBk'.frozen
          obtain ⟨u, c3⟩ := hBk'.cell2 (i := k) s2 y
          have N1 : Hid (Blk ((wr.setCell ⟨g, k, none⟩ (.int .i64 (y : Int))).setCell ⟨g, k1, none⟩ (.int .i64 (x : Int))) g (P ++ (Y.take (k + 1 - a) ++ x :: Y.drop (k + 1 - a)) ++ S)) := Lib.hid (by
            rw [hnx, ← s3]; exact (hBk'.put y).put x)
          have N2 : Hid (Foot (· = g) w ((wr.setCell ⟨g, k, none⟩ (.int .i64 (y : Int))).setCell ⟨g, k1, none⟩ (.int .i64 (x : Int)))) := Lib.hid ((hF.out.setCell (p := ⟨g, k, none⟩) (.inl rfl) _).setCell (p := ⟨g, k1, none⟩) (.inl rfl) _)
          have ea : ((k : Int) + 1).toNat = k1 := by omega
          have p1 : (0 : Int) ≤ (k : Int) + 1 := by omega
          have p2 : (k : Int) + 1 < (N : Int) := by omega
          have p3 : (k : Int) < (N : Int) := by omega
          have t1 : decide ((k : Int) < (i : Int) - 1) = true := decide_eq_true (by omega)
          clear s1 s2 s3 hy hfm hlen hnx hk1 hBk' hBk hF
          go_wp2_with fail
          go_region
          clear c1 c2 c3 z1 z2
          have N1' : Hid (Blk ((wr.setCell ⟨g, k, none⟩ (.int .i64 (y : Int))).setCell ⟨g, k1, none⟩ (.int .i64 (x : Int))).drew g (P ++ (Y.take (k + 1 - a) ++ x :: Y.drop (k + 1 - a)) ++ S)) := N1
          have N2' : Hid (Foot (· = g) w ((wr.setCell ⟨g, k, none⟩ (.int .i64 (y : Int))).setCell ⟨g, k1, none⟩ (.int .i64 (x : Int))).drew) := Lib.hid N2.out.drew
          clear N1 N2
          generalize ((wr.setCell ⟨g, k, none⟩ (.int .i64 (y : Int))).setCell ⟨g, k1, none⟩ (.int .i64 (x : Int))).drew = W at N1' N2' ⊢
          go_wp2
          go_roundw
          case rel => exact ⟨k + 1, by go_num, by omega, by omega, N2', N1'⟩
          case measure => simp [intOf]; omega
        · have t1 : decide ((k : Int) < (i : Int) - 1) = false := decide_eq_false (by omega)
          have HZ : Hid (∃ Z, Blk wr g (P ++ Z ++ S) ∧ Z.Perm ([x] ++ Y) ∧ Asc key Z) := Lib.hid ⟨_, hBk.out, by
            have e : Y.take (k - a) ++ Y.drop (k - a) = Y := List.take_append_drop _ _
            have := (List.perm_middle (a := x) (l₁ := Y.take (k - a)) (l₂ := Y.drop (k - a)))
            rw [e] at this
            exact this, by
            have e : k - a = i - m := by have := Hma.out; omega
            rw [e]; exact HR.out⟩
          clear hlt hBk HR
          go_wp2
          (try simp only [Exit.inBlock, Exit.then])
          refine bodyPost_ret (results_none rfl _ _ _) rfl ?_
          exact ⟨rfl, hF.out, HZ⟩
set_option maxRecDepth 100000 in
set_option maxHeartbeats 2000000 in
theorem sym_right (key : Nat → Nat) (g N n a m b : Nat) (v0 : Value) (cv : Nat → Nat → Int) (w0 : World) (P X S : List Nat) (y : Nat) (w : World) (hC : Cmp g n v0 cv w0) (hF0 : Foot (· = g) w0 w) (hy : y < n) (hXn : ∀ x ∈ X, x < n)
    (hr : Rel key (ltC cv) X [y]) (hX : Asc key X) (hX2 : 2 ≤ X.length) (ha : P.length = a) (hm : P.length + X.length = m) (hb : P.length + X.length + 1 = b) (hN : P.length + X.length + 1 + S.length = N) (hNl : N ≤ 1000000) (hB : Blk w g (P ++ X ++ [y] ++ S)) :
    Calls Tryd.prog 38 #[.slice (some ⟨g, 0, none⟩) N N, .int .i64 (a : Nat), .int .i64 (m : Nat), .int .i64 (b : Nat), .func (.func 23) #[] #[v0]] w fun e w' =>
      e = .returned (.tuple #[]) ∧ Foot (· = g) w w' ∧ Hid (∃ Z, Blk w' g (P ++ Z ++ S) ∧ Z.Perm (X ++ [y]) ∧ Asc key Z) := by
  have H := Lib.hid (And.intro hC (And.intro hF0 (And.intro hy (And.intro hXn (And.intro hr (And.intro hX (And.intro ha (And.intro hm (And.intro hb hN)))))))))
  have HB := Lib.hid hB
  have HF := Lib.hid (Foot.refl (· = g) w)
  have hma : a + 2 ≤ m := by omega
  have hmb : m < b := by omega
  have hNb : b ≤ N := by omega
  have t0 : ((m : Int) - (a : Int) == 1) = false := beq_eq_false_iff_ne.2 (by omega)
  have t0' : ((b : Int) - (m : Int) == 1) = true := beq_iff_eq.2 (by omega)
  clear hC hF0 hy hXn hr hX ha hm hb hN hB hX2
  go_enter Tryd.func38, Tryd.ntmps38
  go_wp2
  go_loopw [14, 15] (fun vi vj wr => ∃ i j : Nat, vi = .int .i64 (i : Nat) ∧ vj = .int .i64 (j : Nat) ∧ a ≤ i ∧ i ≤ j ∧ j ≤ m ∧ Hid (Foot (· = g) w wr) ∧ Hid (Blk wr g (P ++ X ++ [y] ++ S)) ∧ Hid ((i = a ∨ ∀ x, X[i - a - 1]? = some x → key x ≤ key y) ∧ (j = m ∨ ∀ x, X[j - a]? = some x → key y ≤ key x))) (fun vi vj _ => (intOf vj).toNat - (intOf vi).toNat)
  case atStart => exact ⟨a, m, rfl, rfl, Nat.le_refl _, by omega, Nat.le_refl _, HF, HB, Lib.hid ⟨.inl rfl, .inl rfl⟩⟩
  case round =>
    clear HB HF
    obtain ⟨i, j, rfl, rfl, hai, hij, hjm, hF, hBk, hI⟩ := hrel
    by_cases hlt : i < j
    · obtain ⟨h, hh⟩ : ∃ h, h = (i + j) / 2 := ⟨_, rfl⟩
      have em : ((i : Int) + (j : Int)) / 2 = (h : Int) := by omega
      have h1 : i ≤ h := by omega
      have h2 : h < j := by omega
      have h3 : h < b := by omega
      obtain ⟨x, hx⟩ := get_of_lt (L := X) (k := h - a) (by have := H.out; omega)
      have hLx : (P ++ X ++ [y] ++ S)[h]? = some x := by
        rw [List.append_assoc (P ++ X), get_pre (P := P) (k := h - a) (by have := H.out; omega) (lt_of_get hx)]; exact hx
      have hLy : (P ++ X ++ [y] ++ S)[m]? = some y := by
        rw [get_pre (P := P ++ X) (k := 0) (by have := H.out; simp; omega) (by simp)]; rfl
      have c1 := hBk.out.cell hLx
      have c2 := hBk.out.cell hLy
      have hc := fun q => H.out.1.at_ H.out.2.1 hF.out H.out.2.2.1 (H.out.2.2.2.1 x (mem_of_get hx)) q
      have hrel := H.out.2.2.2.2.1 x (mem_of_get hx) y (by simp)
      have j1 : (h : Int) < (N : Int) := by omega
      have j2 : (m : Int) < (N : Int) := by omega
      have t1 : decide ((i : Int) < (j : Int)) = true := decide_eq_true (by omega)
      clear hh
      clear hLx hLy
      go_wp2_with fail
      (try simp only [em])
      clear em
      cases hd : decide (cv y x < 0) with
      | true =>
        have hk : key y ≤ key x := by unfold ltC at hrel; rw [hd] at hrel; have := of_decide_eq_true hrel.symm; omega
        have HK := Lib.hid (show ∀ x', X[h - a]? = some x' → key y ≤ key x' by
          intro x' hx'
          rw [hx] at hx'; cases hx'; exact hk)
        clear hrel hx hk
        go_quiet (first | (go_at_call 23; exact hc _))
        have hF1 : Hid (Foot (· = g) w (wr.drewN nq)) := Lib.hid (hF.out.drewN nq)
        have hB1 : Hid (Blk (wr.drewN nq) g (P ++ X ++ [y] ++ S)) := Lib.hid (hBk.out.drewN nq)
        clear c1 c2 hc hd hF hBk
        generalize wr.drewN nq = W at hF1 hB1 ⊢
        go_wp2
        go_roundw
        case rel => exact ⟨i, h, rfl, rfl, hai, h1, by omega, hF1, hB1, Lib.hid ⟨hI.out.1, .inr HK.out⟩⟩
        case measure => simp [intOf]; omega
      | false =>
        have hk : key x ≤ key y := by unfold ltC at hrel; rw [hd] at hrel; have := of_decide_eq_false hrel.symm; omega
        have HK := Lib.hid (show ∀ x', X[h + 1 - a - 1]? = some x' → key x' ≤ key y by
          intro x' hx'
          rw [show h + 1 - a - 1 = h - a by omega, hx] at hx'; cases hx'; exact hk)
        clear hrel hx hk
        go_quiet (first | (go_at_call 23; exact hc _))
        have hF1 : Hid (Foot (· = g) w (wr.drewN nq)) := Lib.hid (hF.out.drewN nq)
        have hB1 : Hid (Blk (wr.drewN nq) g (P ++ X ++ [y] ++ S)) := Lib.hid (hBk.out.drewN nq)
        clear c1 c2 hc hd hF hBk
        generalize wr.drewN nq = W at hF1 hB1 ⊢
        go_wp2
        go_roundw
        case rel => exact ⟨h + 1, j, by go_num, rfl, by omega, by omega, hjm, hF1, hB1, Lib.hid ⟨.inr HK.out, hI.out.2⟩⟩
        case measure => simp [intOf]; omega
    · obtain rfl : i = j := by omega
      clear hlt hij
      have HR : Hid (Asc key (X.take (i - a) ++ y :: X.drop (i - a))) := Lib.hid (by
        have hy := H.out
        refine asc_put hy.2.2.2.2.2.1 (by omega) ?_ ?_
        · rcases hI.out.1 with e | e
          · exact .inl (by omega)
          · exact .inr e
        · rcases hI.out.2 with e | e
          · exact .inl (by omega)
          · exact .inr e)
      clear hI
      have hF0 := hF
      have hB0 : Hid (Blk wr g (P ++ (X.take (m - a) ++ y :: X.drop (m - a)) ++ S)) := Lib.hid (by have := hBk.out; rw [show m - a = X.length by have := H.out; omega]; simpa using this)
      clear hF hBk
      go_wp2
      go_loopw [17] (fun vk wr => ∃ k : Nat, vk = .int .i64 (k : Nat) ∧ i ≤ k ∧ k ≤ m ∧ Hid (Foot (· = g) w wr) ∧ Hid (Blk wr g (P ++ (X.take (k - a) ++ y :: X.drop (k - a)) ++ S))) (fun vk _ => (intOf vk).toNat)
      case atStart => exact ⟨m, rfl, by omega, Nat.le_refl _, hF0, hB0⟩
      case round =>
        clear hF0 hB0
        obtain ⟨k, rfl, hik, hkm, hF, hBk⟩ := hrel
        by_cases hlt : i < k
        · obtain ⟨kp, rfl⟩ : ∃ q, k = q + 1 := ⟨k - 1, by omega⟩
          obtain ⟨x, hx⟩ := get_of_lt (L := X) (k := kp - a) (by have := H.out; omega)
          have hfm : P ++ (X.take (kp + 1 - a) ++ y :: X.drop (kp + 1 - a)) ++ S = (P ++ X.take (kp - a)) ++ x :: y :: (X.drop (kp - a + 1) ++ S) := by
            rw [show kp + 1 - a = kp - a + 1 by omega, take_at hx]; simp
          have hlen : (P ++ X.take (kp - a)).length = kp := by have := H.out; have := lt_of_get hx; rw [List.length_append, List.length_take]; omega
          have hnx : P ++ (X.take (kp - a) ++ y :: X.drop (kp - a)) ++ S = (P ++ X.take (kp - a)) ++ y :: x :: (X.drop (kp - a + 1) ++ S) := by rw [drop_at hx]; simp
          obtain ⟨k1, hk1⟩ : ∃ q, q = kp + 1 := ⟨_, rfl⟩
          have hBk' := hBk.out
          rw [hfm] at hBk'
          obtain ⟨s1, s2, _⟩ := next_st (x := x) (y := y) (C := X.drop (kp - a + 1) ++ S) hlen
          have s3 := next_ts (x := x) (y := y) (C := X.drop (kp - a + 1) ++ S) hlen
          rw [← hk1] at s2 s3
          have c1 : wr.cell? ⟨g, kp, none⟩ = some (.int .i64 (x : Int)) := hBk'.cell s1
          have c2 : wr.cell? ⟨g, k1, none⟩ = some (.int .i64 (y : Int)) := hBk'.cell s2
          have z1 : wr.frozen? ⟨g, kp, none⟩ = false := hBk'.frozen
          have z2 : wr.frozen? ⟨g, k1, none⟩ = false := hBk'.frozen
          obtain ⟨u, c3⟩ := hBk'.cell2 (i := k1) s1 x
          have N1 : Hid (Blk ((wr.setCell ⟨g, k1, none⟩ (.int .i64 (x : Int))).setCell ⟨g, kp, none⟩ (.int .i64 (y : Int))) g (P ++ (X.take (kp - a) ++ y :: X.drop (kp - a)) ++ S)) := Lib.hid (by
            rw [hnx, ← s3]; exact (hBk'.put x).put y)
          have N2 : Hid (Foot (· = g) w ((wr.setCell ⟨g, k1, none⟩ (.int .i64 (x : Int))).setCell ⟨g, kp, none⟩ (.int .i64 (y : Int)))) := Lib.hid ((hF.out.setCell (p := ⟨g, k1, none⟩) (.inl rfl) _).setCell (p := ⟨g, kp, none⟩) (.inl rfl) _)
          have ea : ((kp : Int) + 1).toNat = k1 := by omega
          have p1 : (0 : Int) ≤ (kp : Int) + 1 := by omega
          have p2 : (kp : Int) + 1 < (N : Int) := by omega
          have p3 : (kp : Int) < (N : Int) := by omega
          have t1 : decide ((i : Int) < (kp : Int) + 1) = true := decide_eq_true (by omega)
          clear s1 s2 s3 hx hfm hlen hnx hk1 hBk' hBk hF
          go_wp2_with fail
          go_region
          clear c1 c2 c3 z1 z2
          have N1' : Hid (Blk ((wr.setCell ⟨g, k1, none⟩ (.int .i64 (x : Int))).setCell ⟨g, kp, none⟩ (.int .i64 (y : Int))).drew g (P ++ (X.take (kp - a) ++ y :: X.drop (kp - a)) ++ S)) := N1
          have N2' : Hid (Foot (· = g) w ((wr.setCell ⟨g, k1, none⟩ (.int .i64 (x : Int))).setCell ⟨g, kp, none⟩ (.int .i64 (y : Int))).drew) := Lib.hid N2.out.drew
          clear N1 N2
          generalize ((wr.setCell ⟨g, k1, none⟩ (.int .i64 (x : Int))).setCell ⟨g, kp, none⟩ (.int .i64 (y : Int))).drew = W at N1' N2' ⊢
          go_wp2
          go_roundw
          case rel => exact ⟨kp, by go_num, by omega, by omega, N2', N1'⟩
          case measure => simp [intOf]
        · have t1 : decide (i < k) = false := decide_eq_false (by omega)
          have HZ : Hid (∃ Z, Blk wr g (P ++ Z ++ S) ∧ Z.Perm (X ++ [y]) ∧ Asc key Z) := Lib.hid ⟨_, hBk.out, by
            have e : X.take (k - a) ++ X.drop (k - a) = X := List.take_append_drop _ _
            have := (List.perm_middle (a := y) (l₁ := X.take (k - a)) (l₂ := X.drop (k - a)))
            rw [e] at this
            exact this.trans (List.perm_append_comm (l₁ := [y]) (l₂ := X)), by
            have e : k = i := by omega
            rw [e]; exact HR.out⟩
          clear hlt hBk HR
          go_wp2
          (try simp only [Exit.inBlock, Exit.then])
          refine bodyPost_ret (results_none rfl _ _ _) rfl ?_
          exact ⟨rfl, hF.out, HZ⟩
end Go.Proofs.YteflblcbmkcidaaDoor
