import Derived.Test.YtkkkhonjcbhelaaGreatDoorProSym
set_option maxRecDepth 100000
set_option linter.unusedVariables false
namespace Go.Proofs.YtkkkhonjcbhelaaGreatDoor
section
open Go.RowKit
namespace HK
open PK
theorem asc_cons_mid {key : Nat → Nat} {A B : List Nat} {z : Nat} (h : Asc key (A ++ B)) (h1 : A = [] ∨ ∀ x, A.getLast? = some x → key x ≤ key z) (h2 : ∀ x ∈ B, key z ≤ key x) : Asc key (A ++ z :: B) := by
 obtain ⟨a1, a2, a3⟩ := List.pairwise_append.1 h;refine List.pairwise_append.2 ⟨a1, List.pairwise_cons.2 ⟨h2, a2⟩, fun a ha b hb => ?_⟩;have hz : key a ≤ key z := by
  rcases h1 with e | h1
  ·subst e; cases ha
  ·obtain ⟨i, hi⟩ := List.mem_iff_getElem?.1 ha;have hl := lt_of_get hi;obtain ⟨y, hy⟩ := get_of_lt (L := A) (k := A.length - 1) (by omega);exact Nat.le_trans (Asc.get a1 (by omega) hi hy) (h1 y (by rw [List.getLast?_eq_getElem?]; exact hy))
 rcases List.mem_cons.1 hb with rfl | hb
 ·exact hz
 ·exact a3 a ha b hb
abbrev Rise (key : Nat → Nat) (lt : Nat → Nat → Bool) (Q : List Nat) : Prop := Q.Pairwise (fun x y => lt y x = decide (key y < key x))
end HK
open PK HK
set_option maxRecDepth 100000 in
set_option maxHeartbeats 4000000 in
theorem hins_any (E : Nat → Ho) (cp : Nat) (key : Nat → Nat) (g N n a b : Nat) (v0 : Value) (cv : Nat → Nat → Int) (w0 : World) (P Q S : List Nat) (w : World) (hC : CmpH E g n v0 cv w0) (hF0 : Foot (· = g) w0 w) (hQn : ∀ z ∈ Q, z < n)
  (hr : Rise key (ltC cv) Q) (ha : P.length = a) (hb : P.length + Q.length = b) (hN : P.length + Q.length + S.length = N) (hNl : N ≤ 1000000) (hB : HBlk E w g (P ++ Q ++ S)) :
  Calls Tryz.prog 118 #[.slice (some ⟨g, 0, none⟩) N cp, .int .i64 (a : Nat), .int .i64 (b : Nat), .func (.func 109) #[] #[]] w fun e w' =>
   e = .returned (.tuple #[]) ∧ Foot (· = g) w w' ∧ Hid (∃ Z, HBlk E w' g (P ++ Z ++ S) ∧ Z.Perm Q ∧ Asc key Z) := by
 have hab : a ≤ b := by omega
 have hbN : b ≤ N := by omega
 have H := Hq (Ai hC (Ai hF0 (Ai hQn (Ai hr (Ai ha (Ai hb hN))))));have HB := Hq hB;have HF := Hq (Foot.refl (· = g) w);clear hC hF0 hQn hr ha hb hN hB;go_enter Tryz.func118, Tryz.ntmps118;go_wp2;go_loopw [8] (fun vi wr => ∃ i : Nat, vi = .int .i64 (i : Nat) ∧ a + 1 ≤ i ∧ i ≤ b + 1 ∧ Hid (Foot (· = g) w wr) ∧ Hid (∃ Z, HBlk E wr g (P ++ (Z ++ Q.drop (i - a)) ++ S) ∧ Z.Perm (Q.take (i - a)) ∧ Asc key Z)) (fun vi _ => b + 1 - (intOf vi).toNat)
 case atStart =>
  refine ⟨a + 1, by go_num, Nat.le_refl _, by omega, HF, Hq ⟨Q.take 1, ?_, ?_, ?_⟩⟩
  ·rw [show a + 1 - a = 1 by omega, List.take_append_drop]; exact HB.out
  ·rw [show a + 1 - a = 1 by omega]
  ·match Q with
   | [] => exact List.Pairwise.nil
   | x :: Q => exact List.pairwise_singleton _ _
 case round =>
  clear HB HF;obtain ⟨i, rfl, hai, hib, hF, hZ⟩ := hrel;by_cases hlt : i < b
  ·obtain ⟨Z, hBk, hp, hz⟩ := hZ.out;obtain ⟨x, hx⟩ := get_of_lt (L := Q) (k := i - a) (by have := H.out; omega);have hzl : Z.length = i - a := by have := hp.length_eq; rw [List.length_take] at this; have := H.out; have := lt_of_get hx; omega
   -- all of Z stand ahead of x
   have hzx : Hid (∀ z ∈ Z, z < n ∧ ltC cv x z = decide (key x < key z)) := Hq (by
    intro z hzm;have h1 := hp.mem_iff.1 hzm;obtain ⟨k, hk, hkz⟩ := mem_take h1;refine ⟨H.out.2.2.1 z (mem_of_get hkz), ?_⟩;obtain ⟨l1, rfl⟩ := List.getElem?_eq_some_iff.1 hkz;obtain ⟨l2, rfl⟩ := List.getElem?_eq_some_iff.1 hx;exact List.pairwise_iff_getElem.1 H.out.2.2.2.1 k (i - a) l1 l2 hk)
   have hxn : x < n := H.out.2.2.1 x (mem_of_get hx);have hB0 : Hid (HBlk E wr g (P ++ Z ++ x :: (Q.drop (i - a + 1) ++ S))) := Hq (by rw [drop_at hx] at hBk; simpa using hBk);have HP := Hq (show ∀ Z' : List Nat, Z'.Perm (x :: Z) → Z'.Perm (Q.take (i + 1 - a)) from fun Z' h => by
    rw [show i + 1 - a = i - a + 1 by omega, take_at hx];exact h.trans ((List.Perm.cons x hp).trans (List.perm_append_comm (l₁ := [x]) (l₂ := Q.take (i - a)))))
   have HZ := Hq (Ai hz hzl);have hF0 := hF;have t9 : decide (i < b) = true := decide_eq_true hlt;clear hBk hp hz hzl hx hZ hF;go_wp2;go_loopw [9] (fun vj wr => ∃ j : Nat, vj = .int .i64 (j : Nat) ∧ a ≤ j ∧ j ≤ i ∧ Hid (Foot (· = g) w wr) ∧ Hid (∃ Z1 Z2, HBlk E wr g (P ++ Z1 ++ x :: (Z2 ++ (Q.drop (i - a + 1) ++ S))) ∧ Z1 ++ Z2 = Z ∧ Z1.length = j - a ∧ ∀ z ∈ Z2, key x ≤ key z)) (fun vj _ => (intOf vj).toNat)
   case atStart => exact ⟨i, rfl, by omega, Nat.le_refl _, hF0, Hq ⟨Z, [], by simpa using hB0.out, by simp, HZ.out.2, by simp⟩⟩
   case round =>
    clear hF0 hB0;obtain ⟨j, rfl, haj, hji, hF, hI⟩ := hrel;by_cases hja : a < j
    ·obtain ⟨jp, rfl⟩ : ∃ q, j = q + 1 := ⟨j - 1, by omega⟩
     obtain ⟨Z1, Z2, hBk, he, hl, hk2⟩ := hI.out;obtain ⟨z, hzz⟩ := get_of_lt (L := Z1) (k := jp - a) (by omega);have hZ1 : Z1 = Z1.take (jp - a) ++ [z] := by
      have := take_at hzz;rw [show jp - a + 1 = Z1.length by omega, List.take_length] at this;exact this
     have hlen : (P ++ Z1.take (jp - a)).length = jp := by have := H.out; rw [List.length_append, List.length_take]; omega
     have hBk' := hBk;rw [hZ1] at hBk';rw [show P ++ (Z1.take (jp - a) ++ [z]) ++ x :: (Z2 ++ (Q.drop (i - a + 1) ++ S)) = (P ++ Z1.take (jp - a)) ++ z :: x :: (Z2 ++ (Q.drop (i - a + 1) ++ S)) by simp] at hBk';obtain ⟨s1, s2, _⟩ := next_st (x := z) (y := x) (C := Z2 ++ (Q.drop (i - a + 1) ++ S)) hlen;have s3 := next_ts (x := z) (y := x) (C := Z2 ++ (Q.drop (i - a + 1) ++ S)) hlen;obtain ⟨k1, hk1⟩ := nx (jp + 1);rw [← hk1] at s2 s3;have c1 := hBk'.at_ s1;have c2 := hBk'.at_ s2;have hzx' := hzx.out z (by rw [← he]; exact List.mem_append_left _ (mem_of_get hzz));have hc := fun W (hb : Below wr.heap.size wr W) => H.out.1.at_ H.out.2.1 (foot_then hF.out hb) hxn hzx'.1
     have lg := hBk.lt;have wk : IntKind.i64.wrap (jp : Int) = (jp : Int) := IntWalk.i64_in _ (by omega);have lk : jp < N := (by omega);have lk1 : k1 < N := (by omega);have ea : ((jp : Int) + 1).toNat = k1 := (by omega);have p1 : (0 : Int) ≤ (jp : Int) + 1 := (by omega);have p2 : (jp : Int) + 1 < (N : Int) := (by omega);have p3 : (jp : Int) < (N : Int) := (by omega);have t1 : decide ((a : Int) < (jp : Int) + 1) = true := decide_eq_true (by omega)
     cases hd : decide (cv x z < 0) with
     | true =>
      have hk : key x ≤ key z := by have h9 := hzx'.2; unfold ltC at h9; rw [hd] at h9; have := of_decide_eq_true h9.symm; omega
      have N1 : Hid (∀ w', HBlk E w' g ((((P ++ Z1.take (jp - a)) ++ z :: x :: (Z2 ++ (Q.drop (i - a + 1) ++ S))).set k1 z).set jp x) → HBlk E w' g (P ++ Z1.take (jp - a) ++ x :: ((z :: Z2) ++ (Q.drop (i - a + 1) ++ S)))) := Hq (fun w' h => by rw [s3] at h; exact h);have l1 := lt_of_get s1;have l2 := lt_of_get s2;have HX : Hid (Z1.take (jp - a) ++ (z :: Z2) = Z ∧ (Z1.take (jp - a)).length = jp - a ∧ ∀ z' ∈ z :: Z2, key x ≤ key z') := Hq ⟨by rw [← he]; conv => rhs; rw [hZ1]; simp, by rw [List.length_take]; omega, fun z' hz' => by
       rcases List.mem_cons.1 hz' with rfl | hz'
       ·exact hk
       ·exact hk2 z' hz'⟩
      have HB := Hq hBk';have S2 := Hq s2;have S1 := Hq s1;clear s1 s2 s3 hZ1 hlen hBk' hBk he hl hk2 hzz hzx' hk1 hk hI;go_wp2_with fail;refine held_begin (fun w' : World => HoAt w' g (jp * 5) (E z) ∧ HoAt w' g (k1 * 5) (E x)) (by kernel_rfl) ?_;have hBq0 : Below wr.heap.size wr wr.drew := (Below.refl _ _).drew;have hSq0 := Ai c1 c2;refine tkA 0 18 hSq0 ?_;refine tkA 1 19 hSq0 ?_;refine tkA 2 20 hSq0 ?_;refine tkA 3 21 hSq0 ?_;refine tkA 4 22 hSq0 ?_;refine tkA 5 23 hSq0 ?_;refine tkA 6 24 hSq0 ?_;refine tkA 7 25 hSq0 ?_;refine tkH ?_ 8 26 ?_ hSq0 ?_;rotate_left
      ·rintro w' ⟨x0, x1⟩;refine Eq.trans (run_load_ho (by rfl) (by rfl) x1) ?_;(with_reducible rfl)
      simp only [Act.put, pzA, pzB, pzC];refine tkA 9 27 hSq0 ?_;refine tkA 10 28 hSq0 ?_;refine tkA 11 29 hSq0 ?_;refine tkA 12 30 hSq0 ?_;refine tkH ?_ 13 31 ?_ hSq0 ?_;rotate_left
      ·rintro w' ⟨x0, x1⟩;refine Eq.trans (run_load_ho (by rfl) (by rfl) x0) ?_;(with_reducible rfl)
      simp only [Act.put, pzA, pzB, pzC];refine held_one 14 rfl (by kernel_rfl) (by rfl) (fun K hK => ?_);go_simp
      go_at_call 109
      refine (hc wr.drew hBq0).mono ?_;rintro e wq1 ⟨rfl, hbq1⟩;have hBq1 : Below wr.heap.size wr wq1 := below_step hBq0 hbq1;have hSq1 := Ai (c1.keep lg hBq1) (c2.keep lg hBq1);refine hK.out _ _ hSq1 ?_;clear hK K;refine tkA 15 33 hSq1 ?_;refine tkA 16 34 hSq1 ?_;refine wpAnyH_done (by kernel_rfl) ?_ _;have HFW : Foot (· = g) w wq1 := foot_then hF.out hBq1;have HBW := HB.out.keep lg hBq1;clear c1 c2 hc hd hF HB lg hBq0 hSq0 hbq1 hBq1 hSq1;generalize wq1 = V at HFW HBW ⊢;have c1 : HoAt V g (jp * 5) (E z) := HBW.at_ S1.out;have c2 : HoAt V g (k1 * 5) (E x) := HBW.at_ S2.out;clear S1 S2;go_wp2_with fail;refine wp_until (fun w' : World => HoAt w' g (jp * 5) (E z) ∧ HoAt w' g (k1 * 5) (E x)) 15 (by kernel_rfl) ?_;have hS0 := Ai c1 c2;refine until_free (v := ?_) 0 37 rfl rfl (by kernel_rfl) (by kernel_rfl) (by kernel_rfl) (by kernel_rfl) (fun _ _ _ h => h) ⟨by rfl, ?_⟩ (fun _ => hS0) ?_;rotate_left
      ·intro w'; go_simp; (try with_reducible rfl)
      simp only [Act.put, pzA, pzB, pzC];refine until_free (v := ?_) 1 38 rfl rfl (by kernel_rfl) (by kernel_rfl) (by kernel_rfl) (by kernel_rfl) (fun _ _ _ h => h) ⟨by rfl, ?_⟩ (fun _ => hS0) ?_;rotate_left
      ·intro w'; go_simp; (try with_reducible rfl)
      simp only [Act.put, pzA, pzB, pzC];refine until_free (v := ?_) 2 39 rfl rfl (by kernel_rfl) (by kernel_rfl) (by kernel_rfl) (by kernel_rfl) (fun _ _ _ h => h) ⟨by rfl, ?_⟩ (fun _ => hS0) ?_;rotate_left
      ·intro w'; go_simp; (try with_reducible rfl)
      simp only [Act.put, pzA, pzB, pzC];refine until_free (v := ?_) 3 40 rfl rfl (by kernel_rfl) (by kernel_rfl) (by kernel_rfl) (by kernel_rfl) (fun _ _ _ h => h) ⟨by rfl, ?_⟩ (fun _ => hS0) ?_;rotate_left
      ·intro w'; go_simp; (try with_reducible rfl)
      simp only [Act.put, pzA, pzB, pzC];refine until_free (v := ?_) 4 41 rfl rfl (by kernel_rfl) (by kernel_rfl) (by kernel_rfl) (by kernel_rfl) (fun _ _ _ h => h) ⟨by rfl, ?_⟩ (fun _ => hS0) ?_;rotate_left
      ·intro w'; go_simp; (try with_reducible rfl)
      simp only [Act.put, pzA, pzB, pzC];refine until_free (v := ?_) 5 42 rfl rfl (by kernel_rfl) (by kernel_rfl) (by kernel_rfl) (by kernel_rfl) (fun _ _ _ h => h) ⟨by rfl, ?_⟩ (fun _ => hS0) ?_;rotate_left
      ·intro w'; go_simp; (try with_reducible rfl)
      simp only [Act.put, pzA, pzB, pzC];refine until_free (v := ?_) 6 43 rfl rfl (by kernel_rfl) (by kernel_rfl) (by kernel_rfl) (by kernel_rfl) (fun _ _ _ h => h) ⟨by rfl, ?_⟩ (fun _ => hS0) ?_;rotate_left
      ·intro w'; go_simp; (try with_reducible rfl)
      simp only [Act.put, pzA, pzB, pzC];refine until_free (v := ?_) 7 44 rfl rfl (by kernel_rfl) (by kernel_rfl) (by kernel_rfl) (by kernel_rfl) (fun _ _ _ h => h) ⟨by rfl, ?_⟩ (fun _ => hS0) ?_;rotate_left
      ·intro w'; go_simp; (try with_reducible rfl)
      simp only [Act.put, pzA, pzB, pzC];refine until_free (v := ?_) 8 45 rfl rfl (by kernel_rfl) (by kernel_rfl) (by kernel_rfl) (by kernel_rfl) (fun _ _ _ h => h) ⟨by rfl, ?_⟩ (fun _ => hS0) ?_;rotate_left
      ·intro w'; go_simp; (try with_reducible rfl)
      simp only [Act.put, pzA, pzB, pzC];refine tkU ?_ 9 46 ?_ hS0 ?_;rotate_left
      ·rintro w' ⟨x0, x1⟩;refine Eq.trans (run_load_ho (by rfl) (by rfl) x0) ?_;(with_reducible rfl)
      simp only [Act.put, pzA, pzB, pzC];refine until_free (v := ?_) 10 47 rfl rfl (by kernel_rfl) (by kernel_rfl) (by kernel_rfl) (by kernel_rfl) (fun _ _ _ h => h) ⟨by rfl, ?_⟩ (fun _ => hS0) ?_;rotate_left
      ·intro w'; go_simp; (try with_reducible rfl)
      simp only [Act.put, pzA, pzB, pzC];refine until_free (v := ?_) 11 48 rfl rfl (by kernel_rfl) (by kernel_rfl) (by kernel_rfl) (by kernel_rfl) (fun _ _ _ h => h) ⟨by rfl, ?_⟩ (fun _ => hS0) ?_;rotate_left
      ·intro w'; go_simp; (try with_reducible rfl)
      simp only [Act.put, pzA, pzB, pzC];refine until_free (v := ?_) 12 49 rfl rfl (by kernel_rfl) (by kernel_rfl) (by kernel_rfl) (by kernel_rfl) (fun _ _ _ h => h) ⟨by rfl, ?_⟩ (fun _ => hS0) ?_;rotate_left
      ·intro w'; go_simp; (try with_reducible rfl)
      simp only [Act.put, pzA, pzB, pzC];refine tkU ?_ 13 50 ?_ hS0 ?_;rotate_left
      ·rintro w' ⟨x0, x1⟩;refine Eq.trans (run_load_ho (by rfl) (by rfl) x1) ?_;(with_reducible rfl)
      simp only [Act.put, pzA, pzB, pzC];refine until_free (v := ?_) 14 51 rfl rfl (by kernel_rfl) (by kernel_rfl) (by kernel_rfl) (by kernel_rfl) (fun _ _ _ h => h) ⟨by rfl, ?_⟩ (fun _ => hS0) ?_;rotate_left
      ·intro w'; go_simp; (try with_reducible rfl)
      simp only [Act.put, pzA, pzB, pzC];refine until_one 15 rfl (by kernel_rfl) rfl (fun K hK => ?_);refine wp_store_ho (x := z) rfl (by rfl) (by rfl) HBW l2 (fun ws1 hBs1 hFs1 => ?_);refine hK.out _ _ (fun h => absurd h (by decide)) ?_;clear hK K;try simp only [Act.put]
      refine until_one 16 rfl (by kernel_rfl) rfl (fun K hK => ?_);go_simp;refine hK.out _ _ (fun h => absurd h (by decide)) ?_;clear hK K;try simp only [Act.put, pzA, pzB, pzC]
      refine until_one 17 rfl (by kernel_rfl) rfl (fun K hK => ?_);refine wp_store_ho (x := x) rfl (by rfl) (by rfl) hBs1 (by rw [List.length_set]; exact l1) (fun W hBs2 hFs2 => ?_);refine hK.out _ _ (fun h => absurd h (by decide)) ?_;clear hK K;try simp only [Act.put]
      refine until_done (by kernel_rfl) ?_;have N2' : Hid (HBlk E W g (P ++ Z1.take (jp - a) ++ x :: ((z :: Z2) ++ (Q.drop (i - a + 1) ++ S)))) := Hq (N1.out _ hBs2);have N3' : Hid (Foot (· = g) w W) := Hq ((HFW.drew.trans hFs1 fun _ h => .inl h).trans hFs2 fun _ h => .inl h);clear N1 hBs2 hBs1 hFs1 hFs2 HBW HFW c1 c2 hS0 l1 l2;go_wp2
      go_roundw
      case rel => exact ⟨jp, by go_num, by omega, by omega, N3', Hq ⟨_, _, N2'.out, HX.out⟩⟩
      case measure => simp [intOf]
     | false =>
      have hk : key z ≤ key x := by have h9 := hzx'.2; unfold ltC at h9; rw [hd] at h9; have := of_decide_eq_false h9.symm; omega
      have HX : Hid (∀ W, HBlk E W g (P ++ Z1 ++ x :: (Z2 ++ (Q.drop (i - a + 1) ++ S))) → ∃ Z, HBlk E W g (P ++ (Z ++ Q.drop (i + 1 - a)) ++ S) ∧ Z.Perm (Q.take (i + 1 - a)) ∧ Asc key Z) := Hq (fun W hW => by
       refine ⟨Z1 ++ x :: Z2, by rw [show i + 1 - a = i - a + 1 by omega]; simpa using hW, HP.out _ ?_, ?_⟩
       ·rw [← he]; exact List.perm_middle
       ·refine asc_cons_mid (by rw [he]; exact HZ.out.1) (.inr fun y hy => ?_) hk2;rw [hZ1, List.getLast?_append] at hy;simp at hy;subst hy;exact hk)
      have HB := Hq hBk;clear s1 s2 s3 hZ1 hlen hBk' hBk he hl hk2 hzz hzx' hk1 hk hI;go_wp2_with fail;refine held_begin (fun w' : World => HoAt w' g (jp * 5) (E z) ∧ HoAt w' g (k1 * 5) (E x)) (by kernel_rfl) ?_;have hBq0 : Below wr.heap.size wr wr.drew := (Below.refl _ _).drew;have hSq0 := Ai c1 c2;refine tkA 0 18 hSq0 ?_;refine tkA 1 19 hSq0 ?_;refine tkA 2 20 hSq0 ?_;refine tkA 3 21 hSq0 ?_;refine tkA 4 22 hSq0 ?_;refine tkA 5 23 hSq0 ?_;refine tkA 6 24 hSq0 ?_;refine tkA 7 25 hSq0 ?_;refine tkH ?_ 8 26 ?_ hSq0 ?_;rotate_left
      ·rintro w' ⟨x0, x1⟩;refine Eq.trans (run_load_ho (by rfl) (by rfl) x1) ?_;(with_reducible rfl)
      simp only [Act.put, pzA, pzB, pzC];refine tkA 9 27 hSq0 ?_;refine tkA 10 28 hSq0 ?_;refine tkA 11 29 hSq0 ?_;refine tkA 12 30 hSq0 ?_;refine tkH ?_ 13 31 ?_ hSq0 ?_;rotate_left
      ·rintro w' ⟨x0, x1⟩;refine Eq.trans (run_load_ho (by rfl) (by rfl) x0) ?_;(with_reducible rfl)
      simp only [Act.put, pzA, pzB, pzC];refine held_one 14 rfl (by kernel_rfl) (by rfl) (fun K hK => ?_);go_simp
      go_at_call 109
      refine (hc wr.drew hBq0).mono ?_;rintro e wq1 ⟨rfl, hbq1⟩;have hBq1 : Below wr.heap.size wr wq1 := below_step hBq0 hbq1;have hSq1 := Ai (c1.keep lg hBq1) (c2.keep lg hBq1);refine hK.out _ _ hSq1 ?_;clear hK K;refine tkA 15 33 hSq1 ?_;refine tkA 16 34 hSq1 ?_;refine wpAnyH_done (by kernel_rfl) ?_ _;have hF1 : Hid (Foot (· = g) w wq1) := Hq (foot_then hF.out hBq1);have hB1 := Hq (HX.out _ (HB.out.keep lg hBq1));clear c1 c2 hc hd hF HB HX lg hBq0 hSq0 hbq1 hBq1 hSq1;go_wp2
      go_roundw
      case rel => exact ⟨i + 1, by go_num, by omega, by omega, hF1, hB1⟩
      case measure => simp [intOf]; omega
    ·obtain rfl : j = a := by omega
     have t1 : decide (j < j) = false := decide_eq_false (by omega);obtain ⟨Z1, Z2, hBk, he, hl, hk2⟩ := hI.out;obtain rfl : Z1 = [] := List.length_eq_zero_iff.1 (by omega);have HX : Hid (∃ Z, HBlk E wr g (P ++ (Z ++ Q.drop (i + 1 - j)) ++ S) ∧ Z.Perm (Q.take (i + 1 - j)) ∧ Asc key Z) := Hq (by
      refine ⟨x :: Z2, by rw [show i + 1 - j = i - j + 1 by omega]; simpa using hBk, HP.out _ (by rw [← he]; exact List.Perm.refl _), ?_⟩;refine asc_cons_mid (A := []) (by rw [he]; exact HZ.out.1) (.inl rfl) hk2)
     clear hBk he hl hk2 hI hja;go_wp2_with fail;go_region;have hF1 : Hid (Foot (· = g) w wr.drew) := Hq hF.out.drew;have hX1 : Hid (∃ Z, HBlk E wr.drew g (P ++ (Z ++ Q.drop (i + 1 - j)) ++ S) ∧ Z.Perm (Q.take (i + 1 - j)) ∧ Asc key Z) := HX;clear HX hF;generalize wr.drew = W at hF1 hX1 ⊢;go_wp2
     go_roundw
     case rel => exact ⟨i + 1, by go_num, by omega, by omega, hF1, hX1⟩
     case measure => simp [intOf]; omega
  ·have HX : Hid (∃ Z, HBlk E wr g (P ++ Z ++ S) ∧ Z.Perm Q ∧ Asc key Z) := Hq (by
    obtain ⟨Z, h1, h2, h3⟩ := hZ.out;have hh := H.out;rw [List.drop_eq_nil_of_le (by omega), List.append_nil] at h1;rw [List.take_of_length_le (by omega)] at h2;exact ⟨Z, h1, h2, h3⟩)
   have t1 : decide (i < b) = false := decide_eq_false hlt;clear hZ hlt;go_wp2
   go_end0
   exact ⟨rfl, hF.out, HX⟩
end
set_option linter.unusedVariables false
section
open Go.RowKit
open PK HK
set_option maxRecDepth 100000 in
set_option maxHeartbeats 4000000 in
theorem hstable_any (E : Nat → Ho) (cp : Nat) (key : Nat → Nat) (g n : Nat) (v0 : Value) (cv : Nat → Nat → Int) (w : World) (hC : CmpH E g n v0 cv w) (hr : ∀ x y, x < y → y < n → ltC cv y x = decide (key y < key x)) (hn : n ≤ 500000) (hB : HBlk E w g (List.range n)) :
  Calls Tryz.prog 117 #[.slice (some ⟨g, 0, none⟩) n cp, .int .i64 (n : Nat), .func (.func 109) #[] #[]] w fun e w' =>
   e = .returned (.tuple #[]) ∧ Foot (· = g) w w' ∧ Hid (∃ Z, HBlk E w' g Z ∧ Z.Perm (List.range n) ∧ Asc key Z) := by
 obtain ⟨R, hR⟩ := nx (List.range n);rw [← hR] at hB ⊢;have hRl : R.length = n := by rw [hR, List.length_range]
 have hRise : Rise key (ltC cv) R := by
  rw [hR];refine List.pairwise_iff_getElem.2 fun i j hi hj hij => ?_
  simp at hi hj ⊢;exact hr i j hij hj
 have HI := Hq (fun (a b : Nat) (P Q S : List Nat) (W : World) (hF : Foot (· = g) w W) (hQ : Q.Sublist R) => hins_any E cp key g n n a b v0 cv w P Q S W hC hF (fun z hz => by have := hQ.subset hz; rw [hR] at this; simpa using this) (hRise.sublist hQ));have HM := Hq (fun (P S L : List Nat) (s q : Nat) (hT : Tiled key s R L) (h1 : 0 < (tile s (2 * q) L).length) (h2 : 0 < (tile s (2 * q + 1) L).length) =>
  hsym_any E cp key g n n v0 cv w hC (by omega) _ P (tile s (2 * q) L) (tile s (2 * q + 1) L) S (Nat.le_refl _) h1 h2 (two_rel hr (hR ▸ hT)) (hT.asc _) (hT.asc _) (tile_lt (hR ▸ hT)) (tile_lt (hR ▸ hT)))
 have H0 := Hq hRl;have HB : Hid (∃ q D, HBlk E w g (D ++ R.drop 0) ∧ Part key 20 R D q ∧ 0 = q * 20) := Hq ⟨0, [], hB, Part.nil, rfl⟩;have HF := Hq (Foot.refl (· = g) w);clear hC hr hR hRl hRise hB;go_enter Tryz.func117, Tryz.ntmps117;go_wp2;go_loopw [7, 8] (fun va vb wr => ∃ a b : Nat, va = .int .i64 (a : Nat) ∧ vb = .int .i64 (b : Nat) ∧ b = a + 20 ∧ a ≤ n ∧ Hid (Foot (· = g) w wr) ∧ Hid (∃ q D, HBlk E wr g (D ++ R.drop a) ∧ Part key 20 R D q ∧ a = q * 20)) (fun va _ _ => n - (intOf va).toNat)
 case atStart => exact ⟨0, 20, rfl, rfl, rfl, by omega, HF, HB⟩
 case round =>
  clear HB HF;obtain ⟨a, b, rfl, rfl, hab, han, hF, hI⟩ := hrel;by_cases hle : b ≤ n
  ·have hC : Hid (Calls Tryz.prog 118 #[.slice (some ⟨g, 0, none⟩) n cp, .int .i64 (a : Nat), .int .i64 (b : Nat), .func (.func 109) #[] #[]] wr fun e w' =>
     e = .returned (.tuple #[]) ∧ Foot (· = g) wr w' ∧ Hid (∃ q D, HBlk E w' g (D ++ R.drop b) ∧ Part key 20 R D q ∧ b = q * 20)) := Hq (by
    obtain ⟨q, D, hb, hp, ha⟩ := hI.out;have hn := H0.out;have et : tile 20 q R = (R.drop a).take 20 := by unfold tile; rw [ha]
    have ed : R.drop b = (R.drop a).drop 20 := (by rw [List.drop_drop, hab]);have el : ((R.drop a).take 20).length = 20 := by rw [List.length_take, List.length_drop]; omega
    refine (HI.out a b D ((R.drop a).take 20) (R.drop b) wr hF.out ((List.take_sublist _ _).trans (List.drop_sublist _ _)) (by rw [hp.len]; omega) (by rw [hp.len, el]; omega) (by rw [hp.len, el, List.length_drop]; omega) (by omega) (by rw [ed, List.append_assoc, List.take_append_drop]; exact hb)).mono ?_;rintro e w' ⟨he, hf, hz⟩;obtain ⟨Z, z1, z2, z3⟩ := hz.out;exact ⟨he, hf, Hq ⟨q + 1, D ++ Z, z1, hp.step (by rw [et]; exact z2) z3 (by rw [z2.length_eq, el]), by omega⟩⟩)
   have t1 : decide (b ≤ n) = true := decide_eq_true hle;have Hab := Hq hab;have hab' : a < b := (by omega);clear hI hab;go_wp2_with fail;refine hC.out.mono ?_;rintro e w1 ⟨rfl, hf1, hI1⟩;have hF1 := Hq (hF.out.trans hf1 fun _ h => .inl h);clear hC hF hf1;go_wp2
   go_roundw
   case rel => exact ⟨b, b + 20, rfl, by go_num, rfl, hle, hF1, hI1⟩
   case measure => simp [intOf]; omega
  ·have hC : Hid (Calls Tryz.prog 118 #[.slice (some ⟨g, 0, none⟩) n cp, .int .i64 (a : Nat), .int .i64 (n : Nat), .func (.func 109) #[] #[]] wr fun e w' =>
     e = .returned (.tuple #[]) ∧ Foot (· = g) wr w' ∧ Hid (∃ L, HBlk E w' g L ∧ Tiled key 20 R L)) := Hq (by
    obtain ⟨q, D, hb, hp, ha⟩ := hI.out;have hn := H0.out;have et : tile 20 q R = R.drop a := by unfold tile; rw [← ha, List.take_of_length_le (by rw [List.length_drop]; omega)]
    refine (HI.out a n D (R.drop a) [] wr hF.out (List.drop_sublist _ _) (by rw [hp.len]; omega) (by rw [hp.len, List.length_drop]; omega) (by rw [hp.len, List.length_drop]; simp; omega) (by omega) (by rw [List.append_nil]; exact hb)).mono ?_;rintro e w' ⟨he, hf, hz⟩;obtain ⟨Z, z1, z2, z3⟩ := hz.out;exact ⟨he, hf, Hq ⟨D ++ Z, by simpa using z1, hp.done (by rw [et]; exact z2) z3 (by omega) (by omega)⟩⟩)
   have t1 : decide (b ≤ n) = false := decide_eq_false hle;clear hI hab hle;go_wp2_with fail;refine hC.out.mono ?_;rintro e w1 ⟨rfl, hf1, hI1⟩;have hF1 := Hq (hF.out.trans hf1 fun _ h => .inl h);have HT : Hid (∃ L, HBlk E w1 g L ∧ Tiled key 20 R L) := hI1;clear hC hF hf1 hI1 t1 han;go_wp2;go_loopw [6, 7, 8, 9] (fun vs v7 v8 v9 wr => ∃ s : Nat, vs = .int .i64 (s : Nat) ∧ 20 ≤ s ∧ s ≤ 1000000 ∧ Hid (Foot (· = g) w wr) ∧ Hid (∃ L, HBlk E wr g L ∧ Tiled key s R L)) (fun vs _ _ _ _ => n - (intOf vs).toNat)
   case atStart => exact ⟨20, rfl, by omega, by omega, hF1, HT⟩
   case round =>
    clear hF1 HT;obtain ⟨s, rfl, hs20, hs1, hF, hT⟩ := hrel;by_cases hsn : s < n
    ·obtain ⟨L, hBk, hTl⟩ := hT.out;have HTL := Hq hTl;have HLl : Hid (L.length = n) := Hq (by rw [hTl.len]; exact H0.out);have HI0 : Hid (∃ q D, HBlk E wr g (D ++ L.drop 0) ∧ Part key (2 * s) R D q ∧ 0 = q * (2 * s)) := Hq ⟨0, [], by simpa using hBk, Part.nil, by simp⟩;have hF0 := hF;have t1 : decide (s < n) = true := decide_eq_true hsn;clear hT hBk hTl hF;go_wp2;go_loopw [7, 8] (fun va vb wr => ∃ a b : Nat, va = .int .i64 (a : Nat) ∧ vb = .int .i64 (b : Nat) ∧ b = a + 2 * s ∧ a ≤ n ∧ Hid (Foot (· = g) w wr) ∧ Hid (∃ q D, HBlk E wr g (D ++ L.drop a) ∧ Part key (2 * s) R D q ∧ a = q * (2 * s))) (fun va _ _ => n - (intOf va).toNat)
     case atStart => exact ⟨0, 2 * s, rfl, by go_num, by omega, by omega, hF0, HI0⟩
     case round =>
      clear hF0 HI0;obtain ⟨a, b, rfl, rfl, hab, han, hF, hI⟩ := hrel;obtain ⟨m, hm⟩ := nx (a + s);have em : (a : Int) + (s : Int) = (m : Int) := (by omega);have hmb : m < b := (by omega);have ham : a < m := (by omega);by_cases hle : b ≤ n
      ·have hC : Hid (Calls Tryz.prog 119 #[.slice (some ⟨g, 0, none⟩) n cp, .int .i64 (a : Nat), .int .i64 (m : Nat), .int .i64 (b : Nat), .func (.func 109) #[] #[]] wr fun e w' =>
        e = .returned (.tuple #[]) ∧ Foot (· = g) wr w' ∧ Hid (∃ q D, HBlk E w' g (D ++ L.drop b) ∧ Part key (2 * s) R D q ∧ b = q * (2 * s))) := Hq (by
        obtain ⟨q, D, hb, hp, ha⟩ := hI.out;have hn := HLl.out;obtain ⟨c1, c2, c3, c4⟩ := two_cut ha HTL.out;have l1 : (tile s (2 * q) L).length = s := (by omega);have l2 : (tile s (2 * q + 1) L).length = s := (by omega);have ed : L.drop b = (L.drop a).drop (2 * s) := (by rw [List.drop_drop, hab]);have hpl := hp.len;rw [← ha] at hpl;refine (HM.out D (L.drop b) L s q HTL.out (by omega) (by omega) wr a m b hF.out (by
         rw [List.append_assoc D, ← c1, ed, List.append_assoc, List.take_append_drop]; exact hb) hpl (by omega) (by omega) (by rw [List.length_drop]; omega)).mono ?_
        rintro e w' ⟨he, hf, hz⟩;obtain ⟨Z, z1, z2, z3⟩ := hz.out;exact ⟨he, hf, Hq ⟨q + 1, D ++ Z, z1, hp.step (c4 Z z2) z3 (by rw [z2.length_eq, List.length_append]; omega), by rw [Nat.succ_mul]; omega⟩⟩)
       have t2 : decide (b ≤ n) = true := decide_eq_true hle;have Hab := Hq (Ai hab hm);have hab2 : a < b := (by omega);clear hI hab hm;go_wp2_with fail;refine hC.out.mono ?_;rintro e w1 ⟨rfl, hf1, hI1⟩;have hF1 := Hq (hF.out.trans hf1 fun _ h => .inl h);clear hC hF hf1;go_wp2
       go_roundw
       case rel => exact ⟨b, b + 2 * s, rfl, by go_num, rfl, hle, hF1, hI1⟩
       case measure => simp [intOf]; omega
      ·have t2 : decide (b ≤ n) = false := decide_eq_false hle;by_cases hmn : m < n
       ·have hC : Hid (Calls Tryz.prog 119 #[.slice (some ⟨g, 0, none⟩) n cp, .int .i64 (a : Nat), .int .i64 (m : Nat), .int .i64 (n : Nat), .func (.func 109) #[] #[]] wr fun e w' =>
        e = .returned (.tuple #[]) ∧ Foot (· = g) wr w' ∧ Hid (∃ L, HBlk E w' g L ∧ Tiled key (2 * s) R L)) := Hq (by
         obtain ⟨q, D, hb, hp, ha⟩ := hI.out;have hn := HLl.out;have hRl := H0.out;obtain ⟨c1, c2, c3, c4⟩ := two_cut ha HTL.out;have hpl := hp.len;rw [← ha] at hpl;have ed : L.drop a = tile s (2 * q) L ++ tile s (2 * q + 1) L := by rw [← c1, List.take_of_length_le (by rw [List.length_drop]; omega)]
         refine (HM.out D [] L s q HTL.out (by omega) (by omega) wr a m n hF.out (by
          rw [List.append_nil, List.append_assoc D, ← ed]; exact hb) hpl (by omega) (by omega) (by simp; omega)).mono ?_
         rintro e w' ⟨he, hf, hz⟩;obtain ⟨Z, z1, z2, z3⟩ := hz.out;exact ⟨he, hf, Hq ⟨D ++ Z, by simpa using z1, hp.done (c4 Z z2) z3 (by omega) (by rw [Nat.succ_mul]; omega)⟩⟩)
        have t3 : decide (m < n) = true := decide_eq_true hmn;clear hI hab hm hle;go_wp2_with fail;refine hC.out.mono ?_;rintro e w1 ⟨rfl, hf1, hI1⟩;have hF1 := Hq (hF.out.trans hf1 fun _ h => .inl h);clear hC hF hf1;go_wp2
        go_roundw
        case rel => exact ⟨2 * s, by go_num, by omega, by omega, hF1, hI1⟩
        case measure => simp [intOf]; omega
       ·have hI1 : Hid (∃ L, HBlk E wr g L ∧ Tiled key (2 * s) R L) := Hq (by
         obtain ⟨q, D, hb, hp, ha⟩ := hI.out;have hn := HLl.out;have hRl := H0.out;obtain ⟨c1, c2, c3, c4⟩ := two_cut ha HTL.out;have ed : L.drop a = tile s (2 * q) L ++ tile s (2 * q + 1) L := by rw [← c1, List.take_of_length_le (by rw [List.length_drop]; omega)]
         have e0 : tile s (2 * q + 1) L = [] := List.length_eq_zero_iff.1 (by omega);refine ⟨D ++ L.drop a, hb, hp.done (c4 _ (by rw [ed])) ?_ (by omega) (by rw [Nat.succ_mul]; omega)⟩;rw [ed, e0, List.append_nil];exact HTL.out.asc _)
        have t3 : decide (m < n) = false := decide_eq_false hmn;have hF1 := hF;clear hI hab hm hle hF;go_wp2
        go_roundw
        case rel => exact ⟨2 * s, by go_num, by omega, by omega, hF1, hI1⟩
        case measure => simp [intOf]; omega
    ·have hR : Hid (∃ Z, HBlk E wr g Z ∧ Z.Perm R ∧ Asc key Z) := Hq (by
      obtain ⟨L, h1, h2⟩ := hT.out;obtain ⟨h3, h4⟩ := h2.one (by have := H0.out; omega);exact ⟨L, h1, h3, h4⟩)
     have t1 : decide (s < n) = false := decide_eq_false hsn;clear hT hsn;go_wp2
     go_end0
     exact ⟨rfl, hF.out, hR⟩
set_option maxRecDepth 100000 in
theorem hsortstable_any (E : Nat → Ho) (cp : Nat) (key : Nat → Nat) (g n : Nat) (v0 : Value) (cv : Nat → Nat → Int) (w : World) (hC : CmpH E g n v0 cv w) (hr : ∀ x y, x < y → y < n → ltC cv y x = decide (key y < key x)) (hn : n ≤ 500000) (hB : HBlk E w g (List.range n)) :
  Calls Tryz.prog 108 #[.slice (some ⟨g, 0, none⟩) n cp, .func (.func 109) #[] #[]] w fun e w' =>
   e = .returned (.tuple #[]) ∧ Foot (· = g) w w' ∧ Hid (∃ Z, HBlk E w' g Z ∧ Z.Perm (List.range n) ∧ Asc key Z) := by
 have hS := Hq (hstable_any E cp key g n v0 cv w hC hr hn hB);clear hC hr hB;go_enter Tryz.func108, Tryz.ntmps108;go_wp2_with fail;refine hS.out.mono ?_;rintro e w1 ⟨rfl, hf1, hI1⟩;go_wp2
 go_end0
 exact ⟨rfl, hf1, hI1⟩
end
end Go.Proofs.YtkkkhonjcbhelaaGreatDoor
