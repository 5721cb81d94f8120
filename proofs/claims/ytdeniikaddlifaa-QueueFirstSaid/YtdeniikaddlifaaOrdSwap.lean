/- swapRangeCmpFunc and rotateCmpFunc of package slices, at waits in one block. -/
import Derived.RegionTactic
import Derived.BigRegion
import Derived.BigQuiet
import Derived.Deep.QuietTactic
import Derived.Test.YtdeniikaddlifaaOrdBlk
namespace Go.Proofs.Ytdeniikaddlifaa
open Go.RowKit
open PK
set_option maxRecDepth 100000 in
set_option maxHeartbeats 2000000 in
theorem wswaprange_any (E : Nat → Wt) (cp : Nat) (g N a b n : Nat) (P X M Y S : List Nat) (fv : Value) (w : World) (hX : X.length = n) (hY : Y.length = n) (ha : P.length = a) (hb : P.length + X.length + M.length = b) (hN : P.length + X.length + M.length + Y.length + S.length = N) (hNl : N ≤ 1000000) (hB : WBlk E w g (P ++ X ++ M ++ Y ++ S)) :
    Calls Try.prog 58 #[.slice (some ⟨g, 0, none⟩) N cp, .int .i64 (a : Nat), .int .i64 (b : Nat), .int .i64 (n : Nat), fv] w fun e w' => e = .returned (.tuple #[]) ∧ Foot (· = g) w w' ∧ WBlk E w' g (P ++ Y ++ M ++ X ++ S) := by
  have H := Lib.hid (And.intro hX (And.intro hY (And.intro ha (And.intro hb hN))))
  have hab : a + n ≤ N := by omega
  have hbn : b + n ≤ N := by omega
  have hB0 : WBlk E w g (swapSt P X M Y S 0) := by rw [swapSt_zero]; exact hB
  have HB := Lib.hid hB0
  have HF := Lib.hid (Foot.refl (· = g) w)
  clear hX hY ha hb hN hB hB0
  go_enter Try.func58, Try.ntmps58
  go_wp2
  go_loopw [10] (fun i wr => ∃ k : Nat, i = .int .i64 k ∧ k ≤ n ∧ Hid (Foot (· = g) w wr) ∧ Hid (WBlk E wr g (swapSt P X M Y S k))) (fun i _ => n - (intOf i).toNat)
  case atStart => exact ⟨0, rfl, by omega, HF, HB⟩
  case round =>
    clear HB HF
    obtain ⟨k, rfl, hk, hF, hBk⟩ := hrel
    by_cases hlt : k < n
    · obtain ⟨x, hx⟩ := get_of_lt (L := X) (k := k) (by rw [H.out.1]; exact hlt)
      obtain ⟨y, hy⟩ := get_of_lt (L := Y) (k := k) (by rw [H.out.2.1]; exact hlt)
      obtain ⟨ia, hia⟩ : ∃ q, q = a + k := ⟨_, rfl⟩
      obtain ⟨ib, hib⟩ : ∃ q, q = b + k := ⟨_, rfl⟩
      obtain ⟨s1, s2, s3⟩ := swapSt_step (P := P) (M := M) (S := S) (a := ia) (b := ib) hx hy (by have := H.out; omega) (by have := H.out; omega)
      have c1 := hBk.out.at_ s1
      have c2 := hBk.out.at_ s2
      have l1 := lt_of_get s1
      have l2 := lt_of_get s2
      have wa : IntKind.i64.wrap ((a : Int) + (k : Int)) = (ia : Int) := by rw [IntWalk.i64_in _ (by omega)]; omega
      have wb : IntKind.i64.wrap ((b : Int) + (k : Int)) = (ib : Int) := by rw [IntWalk.i64_in _ (by omega)]; omega
      have la : ia < N := by omega
      have lb : ib < N := by omega
      have HBW := hBk.out
      have HFW := hF.out
      have N1 : Hid (∀ w', WBlk E w' g (((swapSt P X M Y S k).set ia y).set ib x) → WBlk E w' g (swapSt P X M Y S (k + 1))) := Lib.hid (fun w' h => by rw [← s3]; exact h)
      have ea : ((a : Int) + (k : Int)).toNat = ia := by omega
      have eb : ((b : Int) + (k : Int)).toNat = ib := by omega
      have p1 : (0 : Int) ≤ (a : Int) + (k : Int) := by omega
      have p2 : (a : Int) + (k : Int) < (N : Int) := by omega
      have p3 : (0 : Int) ≤ (b : Int) + (k : Int) := by omega
      have p4 : (b : Int) + (k : Int) < (N : Int) := by omega
      have t1 : decide (k < n) = true := by simpa using hlt
      clear s1 s2 s3 hx hy hia hib hBk hF
      go_wp2_with fail
      refine wp_until (fun w' : World => WtAt w' g (ia * 10) (E x) ∧ WtAt w' g (ib * 10) (E y)) 21 (by kernel_rfl) ?_
      have hS0 : (fun w' : World => WtAt w' g (ia * 10) (E x) ∧ WtAt w' g (ib * 10) (E y)) wr.drew := ⟨c1, c2⟩
      refine until_free (v := ?_) 0 16 rfl rfl (by kernel_rfl) (by kernel_rfl) (by kernel_rfl) (by kernel_rfl) (fun _ _ _ h => h) ⟨by rfl, ?_⟩ (fun _ => hS0) ?_
      rotate_left
      · intro w'; go_simp; (try with_reducible rfl)
      simp only [Act.put, List.setIfInBounds_toArray, List.set_cons_zero, List.set_cons_succ]
      refine until_free (v := ?_) 1 17 rfl rfl (by kernel_rfl) (by kernel_rfl) (by kernel_rfl) (by kernel_rfl) (fun _ _ _ h => h) ⟨by rfl, ?_⟩ (fun _ => hS0) ?_
      rotate_left
      · intro w'; go_simp; (try with_reducible rfl)
      simp only [Act.put, List.setIfInBounds_toArray, List.set_cons_zero, List.set_cons_succ]
      refine until_free (v := ?_) 2 18 rfl rfl (by kernel_rfl) (by kernel_rfl) (by kernel_rfl) (by kernel_rfl) (fun _ _ _ h => h) ⟨by rfl, ?_⟩ (fun _ => hS0) ?_
      rotate_left
      · intro w'; go_simp; (try with_reducible rfl)
      simp only [Act.put, List.setIfInBounds_toArray, List.set_cons_zero, List.set_cons_succ]
      refine until_free (v := ?_) 3 19 rfl rfl (by kernel_rfl) (by kernel_rfl) (by kernel_rfl) (by kernel_rfl) (fun _ _ _ h => h) ⟨by rfl, ?_⟩ (fun _ => hS0) ?_
      rotate_left
      · intro w'; go_simp; (try with_reducible rfl)
      simp only [Act.put, List.setIfInBounds_toArray, List.set_cons_zero, List.set_cons_succ]
      refine until_free (v := ?_) 4 20 rfl rfl (by kernel_rfl) (by kernel_rfl) (by kernel_rfl) (by kernel_rfl) (fun _ _ _ h => h) ⟨by rfl, ?_⟩ (fun _ => hS0) ?_
      rotate_left
      · intro w'; go_simp; (try with_reducible rfl)
      simp only [Act.put, List.setIfInBounds_toArray, List.set_cons_zero, List.set_cons_succ]
      refine until_free (v := ?_) 5 21 rfl rfl (by kernel_rfl) (by kernel_rfl) (by kernel_rfl) (by kernel_rfl) (fun _ _ _ h => h) ⟨by rfl, ?_⟩ (fun _ => hS0) ?_
      rotate_left
      · intro w'; go_simp; (try with_reducible rfl)
      simp only [Act.put, List.setIfInBounds_toArray, List.set_cons_zero, List.set_cons_succ]
      refine until_free (v := ?_) 6 22 rfl rfl (by kernel_rfl) (by kernel_rfl) (by kernel_rfl) (by kernel_rfl) (fun _ _ _ h => h) ⟨by rfl, ?_⟩ (fun _ => hS0) ?_
      rotate_left
      · intro w'; go_simp; (try with_reducible rfl)
      simp only [Act.put, List.setIfInBounds_toArray, List.set_cons_zero, List.set_cons_succ]
      refine until_free (v := ?_) 7 23 rfl rfl (by kernel_rfl) (by kernel_rfl) (by kernel_rfl) (by kernel_rfl) (fun _ _ _ h => h) ⟨by rfl, ?_⟩ (fun _ => hS0) ?_
      rotate_left
      · intro w'; go_simp; (try with_reducible rfl)
      simp only [Act.put, List.setIfInBounds_toArray, List.set_cons_zero, List.set_cons_succ]
      refine until_free (v := ?_) 8 24 rfl rfl (by kernel_rfl) (by kernel_rfl) (by kernel_rfl) (by kernel_rfl) (fun _ _ _ h => h) ⟨by rfl, ?_⟩ (fun _ => hS0) ?_
      rotate_left
      · intro w'; go_simp; (try with_reducible rfl)
      simp only [Act.put, List.setIfInBounds_toArray, List.set_cons_zero, List.set_cons_succ]
      refine until_free (v := ?_) 9 25 rfl rfl (by kernel_rfl) (by kernel_rfl) (by kernel_rfl) (by kernel_rfl) (fun _ _ _ h => h) ⟨by rfl, ?_⟩ (fun _ => hS0) ?_
      rotate_left
      · intro w'; go_simp; (try with_reducible rfl)
      simp only [Act.put, List.setIfInBounds_toArray, List.set_cons_zero, List.set_cons_succ]
      refine until_free (v := ?_) 10 26 rfl rfl (by kernel_rfl) (by kernel_rfl) (by kernel_rfl) (by kernel_rfl) (fun _ _ _ h => h) ⟨by rfl, ?_⟩ (fun _ => hS0) ?_
      rotate_left
      · intro w'; go_simp; (try with_reducible rfl)
      simp only [Act.put, List.setIfInBounds_toArray, List.set_cons_zero, List.set_cons_succ]
      refine until_free (v := ?_) 11 27 rfl rfl (by kernel_rfl) (by kernel_rfl) (by kernel_rfl) (by kernel_rfl) (fun _ _ _ h => h) ⟨by rfl, ?_⟩ (fun _ => hS0) ?_
      rotate_left
      · intro w'; go_simp; (try with_reducible rfl)
      simp only [Act.put, List.setIfInBounds_toArray, List.set_cons_zero, List.set_cons_succ]
      refine until_free (v := ?_) 12 28 rfl rfl (by kernel_rfl) (by kernel_rfl) (by kernel_rfl) (by kernel_rfl) (fun _ _ _ h => h) ⟨by rfl, ?_⟩ (fun _ => hS0) ?_
      rotate_left
      · intro w'; go_simp; (try with_reducible rfl)
      simp only [Act.put, List.setIfInBounds_toArray, List.set_cons_zero, List.set_cons_succ]
      refine until_take (v := ?_) 13 29 rfl rfl (by kernel_rfl) (by kernel_rfl) (by kernel_rfl) (by kernel_rfl) (fun _ _ _ h => h) ⟨by rfl, ?_⟩ hS0 ?_
      rotate_left
      · intro w' hw'; obtain ⟨x0, x1⟩ := hw'; refine Eq.trans (run_load_wt (by rfl) (by rfl) x1) ?_; (with_reducible rfl)
      simp only [Act.put, List.setIfInBounds_toArray, List.set_cons_zero, List.set_cons_succ]
      refine until_free (v := ?_) 14 30 rfl rfl (by kernel_rfl) (by kernel_rfl) (by kernel_rfl) (by kernel_rfl) (fun _ _ _ h => h) ⟨by rfl, ?_⟩ (fun _ => hS0) ?_
      rotate_left
      · intro w'; go_simp; (try with_reducible rfl)
      simp only [Act.put, List.setIfInBounds_toArray, List.set_cons_zero, List.set_cons_succ]
      refine until_free (v := ?_) 15 31 rfl rfl (by kernel_rfl) (by kernel_rfl) (by kernel_rfl) (by kernel_rfl) (fun _ _ _ h => h) ⟨by rfl, ?_⟩ (fun _ => hS0) ?_
      rotate_left
      · intro w'; go_simp; (try with_reducible rfl)
      simp only [Act.put, List.setIfInBounds_toArray, List.set_cons_zero, List.set_cons_succ]
      refine until_free (v := ?_) 16 32 rfl rfl (by kernel_rfl) (by kernel_rfl) (by kernel_rfl) (by kernel_rfl) (fun _ _ _ h => h) ⟨by rfl, ?_⟩ (fun _ => hS0) ?_
      rotate_left
      · intro w'; go_simp; (try with_reducible rfl)
      simp only [Act.put, List.setIfInBounds_toArray, List.set_cons_zero, List.set_cons_succ]
      refine until_free (v := ?_) 17 33 rfl rfl (by kernel_rfl) (by kernel_rfl) (by kernel_rfl) (by kernel_rfl) (fun _ _ _ h => h) ⟨by rfl, ?_⟩ (fun _ => hS0) ?_
      rotate_left
      · intro w'; go_simp; (try with_reducible rfl)
      simp only [Act.put, List.setIfInBounds_toArray, List.set_cons_zero, List.set_cons_succ]
      refine until_free (v := ?_) 18 34 rfl rfl (by kernel_rfl) (by kernel_rfl) (by kernel_rfl) (by kernel_rfl) (fun _ _ _ h => h) ⟨by rfl, ?_⟩ (fun _ => hS0) ?_
      rotate_left
      · intro w'; go_simp; (try with_reducible rfl)
      simp only [Act.put, List.setIfInBounds_toArray, List.set_cons_zero, List.set_cons_succ]
      refine until_take (v := ?_) 19 35 rfl rfl (by kernel_rfl) (by kernel_rfl) (by kernel_rfl) (by kernel_rfl) (fun _ _ _ h => h) ⟨by rfl, ?_⟩ hS0 ?_
      rotate_left
      · intro w' hw'; obtain ⟨x0, x1⟩ := hw'; refine Eq.trans (run_load_wt (by rfl) (by rfl) x0) ?_; (with_reducible rfl)
      simp only [Act.put, List.setIfInBounds_toArray, List.set_cons_zero, List.set_cons_succ]
      refine until_free (v := ?_) 20 36 rfl rfl (by kernel_rfl) (by kernel_rfl) (by kernel_rfl) (by kernel_rfl) (fun _ _ _ h => h) ⟨by rfl, ?_⟩ (fun _ => hS0) ?_
      rotate_left
      · intro w'; go_simp; (try with_reducible rfl)
      simp only [Act.put, List.setIfInBounds_toArray, List.set_cons_zero, List.set_cons_succ]
      refine until_one 21 rfl (by kernel_rfl) rfl (fun K hK => ?_)
      refine wp_store_wt (x := y) rfl (by rfl) (by rfl) HBW l1 (fun ws1 hBs1 hFs1 => ?_)
      refine hK.out _ _ (fun h => absurd h (by decide)) ?_
      clear hK K
      try simp only [Act.put]
      refine until_one 22 rfl (by kernel_rfl) rfl (fun K hK => ?_)
      go_simp
      refine hK.out _ _ (fun h => absurd h (by decide)) ?_
      clear hK K
      try simp only [Act.put, List.setIfInBounds_toArray, List.set_cons_zero, List.set_cons_succ]
      refine until_one 23 rfl (by kernel_rfl) rfl (fun K hK => ?_)
      refine wp_store_wt (x := x) rfl (by rfl) (by rfl) hBs1 (by rw [List.length_set]; exact l2) (fun W hBs2 hFs2 => ?_)
      refine hK.out _ _ (fun h => absurd h (by decide)) ?_
      clear hK K
      try simp only [Act.put]
      refine until_done (by kernel_rfl) ?_
      have N1' : Hid (WBlk E W g (swapSt P X M Y S (k + 1))) := Lib.hid (N1.out _ hBs2)
      have N2' : Hid (Foot (· = g) w W) := Lib.hid ((HFW.drew.trans hFs1 fun _ h => .inl h).trans hFs2 fun _ h => .inl h)
      clear N1 hBs2 hBs1 hFs1 hFs2 HBW HFW c1 c2 hS0 l1 l2
      go_wp2
      go_roundw
      case rel => exact ⟨k + 1, by go_num, by omega, N2', N1'⟩
      case measure => simp [intOf]; omega
    · obtain rfl : k = n := by omega
      clear hlt
      go_wp2
      go_end0
      refine ⟨rfl, hF.out, ?_⟩
      have := hBk.out
      rw [← H.out.2.1, swapSt_all (by rw [H.out.1, H.out.2.1])] at this
      exact this
set_option maxRecDepth 100000 in
set_option maxHeartbeats 2000000 in
theorem wrotate_any (E : Nat → Wt) (cp : Nat) (g N a m b : Nat) (P X Y S : List Nat) (fv : Value) (w : World) (hX : 0 < X.length) (hY : 0 < Y.length) (ha : P.length = a) (hm : P.length + X.length = m) (hb : P.length + X.length + Y.length = b) (hN : P.length + X.length + Y.length + S.length = N) (hNl : N ≤ 1000000) (hB : WBlk E w g (P ++ X ++ Y ++ S)) :
    Calls Try.prog 57 #[.slice (some ⟨g, 0, none⟩) N cp, .int .i64 (a : Nat), .int .i64 (m : Nat), .int .i64 (b : Nat), fv] w fun e w' => e = .returned (.tuple #[]) ∧ Foot (· = g) w w' ∧ WBlk E w' g (P ++ Y ++ X ++ S) := by
  obtain ⟨T, hT⟩ : ∃ T, T = P ++ Y ++ X ++ S := ⟨_, rfl⟩
  rw [← hT]
  have HST : Hid (∃ P' X' Y' S' : List Nat, WBlk E w g (P' ++ X' ++ Y' ++ S') ∧ P'.length + X'.length = m ∧ X'.length = m - a ∧ Y'.length = b - m ∧ m + Y'.length + S'.length = N ∧ P' ++ Y' ++ X' ++ S' = T) := Lib.hid ⟨P, X, Y, S, hB, hm, by omega, by omega, by omega, hT.symm⟩
  have hma : a < m := by omega
  have hmb : m < b := by omega
  have hbN : b ≤ N := by omega
  have e1 : (m : Int) - (a : Int) = ((m - a : Nat) : Int) := by omega
  have e2 : (b : Int) - (m : Int) = ((b - m : Nat) : Int) := by omega
  obtain ⟨i0, hi0⟩ : ∃ q, q = m - a := ⟨_, rfl⟩
  obtain ⟨j0, hj0⟩ : ∃ q, q = b - m := ⟨_, rfl⟩
  rw [← hi0] at e1 HST
  rw [← hj0] at e2 HST
  have q1 : 0 < i0 := by omega
  have q2 : 0 < j0 := by omega
  have q3 : i0 ≤ m := by omega
  have q4 : m + j0 ≤ N := by omega
  have HF := Lib.hid (Foot.refl (· = g) w)
  have HS := Lib.hid (fun (a b n : Nat) P X M Y S W => wswaprange_any E cp g N a b n P X M Y S fv W)
  clear hT hX hY ha hm hb hN hB hi0 hj0 hma hmb hbN
  go_enter Try.func57, Try.ntmps57
  go_wp2
  go_loopw [10, 11] (fun vi vj wr => ∃ i j : Nat, vi = .int .i64 i ∧ vj = .int .i64 j ∧ 0 < i ∧ 0 < j ∧ i ≤ m ∧ m + j ≤ N ∧ Hid (Foot (· = g) w wr) ∧ Hid (∃ P' X' Y' S' : List Nat, WBlk E wr g (P' ++ X' ++ Y' ++ S') ∧ P'.length + X'.length = m ∧ X'.length = i ∧ Y'.length = j ∧ m + Y'.length + S'.length = N ∧ P' ++ Y' ++ X' ++ S' = T)) (fun vi vj _ => (intOf vi).toNat + (intOf vj).toNat)
  case atStart => exact ⟨i0, j0, by go_num, by go_num, q1, q2, q3, q4, HF, HST⟩
  case round =>
    clear HF HST
    obtain ⟨i, j, rfl, rfl, hi, hj, him, hjm, hF, hS⟩ := hrel
    have r1 : (m : Int) - (i : Int) = ((m - i : Nat) : Int) := by omega
    rcases Nat.lt_trichotomy i j with hij | hij | hij
    · have r2 : (m : Int) + (j : Int) - (i : Int) = ((m + j - i : Nat) : Int) := by omega
      have r3 : (j : Int) - (i : Int) = ((j - i : Nat) : Int) := by omega
      obtain ⟨mi, hmi⟩ : ∃ q, q = m - i := ⟨_, rfl⟩
      obtain ⟨mj, hmj⟩ : ∃ q, q = m + j - i := ⟨_, rfl⟩
      obtain ⟨ji, hji⟩ : ∃ q, q = j - i := ⟨_, rfl⟩
      rw [← hmi] at r1
      rw [← hmj] at r2
      rw [← hji] at r3
      have hC : Hid (Calls Try.prog 58 #[.slice (some ⟨g, 0, none⟩) N cp, .int .i64 (mi : Nat), .int .i64 (mj : Nat), .int .i64 (i : Nat), fv] wr fun e w' => e = .returned (.tuple #[]) ∧ Foot (· = g) wr w' ∧ Hid (∃ P' X' Y' S' : List Nat, WBlk E w' g (P' ++ X' ++ Y' ++ S') ∧ P'.length + X'.length = m ∧ X'.length = i ∧ Y'.length = ji ∧ m + Y'.length + S'.length = N ∧ P' ++ Y' ++ X' ++ S' = T)) := Lib.hid (by
        obtain ⟨P', X', Y', S', h1, h2, h3, h4, h5, h6⟩ := hS.out
        have hy : Y'.take ji ++ Y'.drop ji = Y' := List.take_append_drop _ _
        have l1 : (Y'.take ji).length = ji := by rw [List.length_take]; omega
        have l2 : (Y'.drop ji).length = i := by rw [List.length_drop]; omega
        refine (HS.out mi mj i P' X' (Y'.take ji) (Y'.drop ji) S' wr h3 l2 (by omega) (by omega) (by omega) hNl (by rw [List.append_assoc (P' ++ X'), hy]; exact h1)).mono ?_
        rintro e w' ⟨he, hf, hb⟩
        refine ⟨he, hf, Lib.hid ⟨P', Y'.drop ji, Y'.take ji, X' ++ S', by simpa using hb, by omega, l2, l1, by rw [List.length_append]; omega, ?_⟩⟩
        rw [← h6, List.append_assoc P' (Y'.take ji), hy]; simp)
      clear hS hmi hmj
      have t1 : decide ((j : Int) < (i : Int)) = false := decide_eq_false (by omega)
      have t2 : ((i : Int) == (j : Int)) = false := beq_eq_false_iff_ne.2 (by omega)
      go_wp2_with (go_at_call 58; refine hC.out.mono ?_; rintro e w1 ⟨rfl, hf1, hs1⟩)
      go_roundw
      case rel => exact ⟨i, ji, rfl, by go_num, by omega, by omega, by omega, by omega, Lib.hid (hF.out.trans hf1 fun _ h => .inl h), hs1⟩
      case measure => simp [intOf]; omega
    · subst hij
      have hC : Hid (Calls Try.prog 58 #[.slice (some ⟨g, 0, none⟩) N cp, .int .i64 ((m - i : Nat) : Int), .int .i64 (m : Nat), .int .i64 (i : Nat), fv] wr fun e w' => e = .returned (.tuple #[]) ∧ Foot (· = g) wr w' ∧ WBlk E w' g T) := Lib.hid (by
        obtain ⟨P', X', Y', S', h1, h2, h3, h4, h5, h6⟩ := hS.out
        refine (HS.out (m - i) m i P' X' [] Y' S' wr h3 h4 (by omega) (by simp; omega) (by simp; omega) hNl (by simpa using h1)).mono ?_
        rintro e w' ⟨he, hf, hb⟩
        exact ⟨he, hf, by rw [← h6]; simpa using hb⟩)
      obtain ⟨mi, hmi⟩ : ∃ q, q = m - i := ⟨_, rfl⟩
      rw [← hmi] at hC r1
      clear hS hmi
      go_wp2_with (go_at_call 58; refine hC.out.mono ?_; rintro e w1 ⟨rfl, hf1, hs1⟩)
      go_end0
      exact ⟨rfl, hF.out.trans hf1 fun _ h => .inl h, hs1⟩
    · have r3 : (i : Int) - (j : Int) = ((i - j : Nat) : Int) := by omega
      obtain ⟨mi, hmi⟩ : ∃ q, q = m - i := ⟨_, rfl⟩
      obtain ⟨ji, hji⟩ : ∃ q, q = i - j := ⟨_, rfl⟩
      rw [← hmi] at r1
      rw [← hji] at r3
      have hC : Hid (Calls Try.prog 58 #[.slice (some ⟨g, 0, none⟩) N cp, .int .i64 (mi : Nat), .int .i64 (m : Nat), .int .i64 (j : Nat), fv] wr fun e w' => e = .returned (.tuple #[]) ∧ Foot (· = g) wr w' ∧ Hid (∃ P' X' Y' S' : List Nat, WBlk E w' g (P' ++ X' ++ Y' ++ S') ∧ P'.length + X'.length = m ∧ X'.length = ji ∧ Y'.length = j ∧ m + Y'.length + S'.length = N ∧ P' ++ Y' ++ X' ++ S' = T)) := Lib.hid (by
        obtain ⟨P', X', Y', S', h1, h2, h3, h4, h5, h6⟩ := hS.out
        have hx : X'.take j ++ X'.drop j = X' := List.take_append_drop _ _
        have l1 : (X'.take j).length = j := by rw [List.length_take]; omega
        have l2 : (X'.drop j).length = ji := by rw [List.length_drop]; omega
        refine (HS.out mi m j P' (X'.take j) (X'.drop j) Y' S' wr l1 h4 (by omega) (by omega) (by omega) hNl (by rw [List.append_assoc P', hx]; exact h1)).mono ?_
        rintro e w' ⟨he, hf, hb⟩
        refine ⟨he, hf, Lib.hid ⟨P' ++ Y', X'.drop j, X'.take j, S', hb, by rw [List.length_append]; omega, l2, l1, by omega, ?_⟩⟩
        rw [← h6]
        conv => rhs; rw [← hx]
        simp)
      clear hS hmi
      have t1 : decide ((j : Int) < (i : Int)) = true := decide_eq_true (by omega)
      have t2 : ((i : Int) == (j : Int)) = false := beq_eq_false_iff_ne.2 (by omega)
      go_wp2_with (go_at_call 58; refine hC.out.mono ?_; rintro e w1 ⟨rfl, hf1, hs1⟩)
      go_roundw
      case rel => exact ⟨ji, j, by go_num, rfl, by omega, by omega, by omega, by omega, Lib.hid (hF.out.trans hf1 fun _ h => .inl h), hs1⟩
      case measure => simp [intOf]; omega
end Go.Proofs.Ytdeniikaddlifaa
