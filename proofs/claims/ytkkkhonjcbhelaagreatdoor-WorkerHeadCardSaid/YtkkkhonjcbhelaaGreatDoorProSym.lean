import Derived.Test.YtkkkhonjcbhelaaGreatDoorProP
set_option linter.unusedVariables false
namespace Go.Proofs.YtkkkhonjcbhelaaGreatDoor
open Go.RowKit
namespace HK
open PK
theorem sym_join {key : Nat → Nat} {X Y Z1 Z2 : List Nat} {u v : Nat} (h1 : Z1.Perm (X.take u ++ Y.take v)) (h2 : Z2.Perm (X.drop u ++ Y.drop v)) (a1 : Asc key Z1) (a2 : Asc key Z2)
  (hc : ∀ z ∈ X.take u ++ Y.take v, ∀ z' ∈ X.drop u ++ Y.drop v, key z ≤ key z') : (Z1 ++ Z2).Perm (X ++ Y) ∧ Asc key (Z1 ++ Z2) := by
 refine ⟨(h1.append h2).trans ?_, List.pairwise_append.2 ⟨a1, a2, fun z hz z' hz' => hc z (h1.mem_iff.1 hz) z' (h2.mem_iff.1 hz')⟩⟩;have e : X ++ Y = (X.take u ++ X.drop u) ++ (Y.take v ++ Y.drop v) := by rw [List.take_append_drop, List.take_append_drop]
 rw [e, List.append_assoc, List.append_assoc];refine List.Perm.append_left _ ?_;rw [← List.append_assoc, ← List.append_assoc];exact (List.perm_append_comm).append_right _
def SymAtH (E : Nat → Ho) (cp : Nat) (key : Nat → Nat) (g N : Nat) (v0 : Value) (w0 : World) (P X Y S : List Nat) : Prop :=
 ∀ (w : World) (a m b : Nat), Foot (· = g) w0 w → HBlk E w g (P ++ X ++ Y ++ S) → P.length = a → P.length + X.length = m → P.length + X.length + Y.length = b → P.length + X.length + Y.length + S.length = N →
  Calls Tryz.prog 119 #[.slice (some ⟨g, 0, none⟩) N cp, .int .i64 (a : Nat), .int .i64 (m : Nat), .int .i64 (b : Nat), .func (.func 109) #[] #[]] w fun e w' =>
   e = .returned (.tuple #[]) ∧ Foot (· = g) w w' ∧ Hid (∃ Z, HBlk E w' g (P ++ Z ++ S) ∧ Z.Perm (X ++ Y) ∧ Asc key Z)
end HK
open PK HK
set_option maxRecDepth 100000 in
set_option maxHeartbeats 40000000 in
theorem hsym_any (E : Nat → Ho) (cp : Nat) (key : Nat → Nat) (g N n : Nat) (v0 : Value) (cv : Nat → Nat → Int) (w0 : World) (hC : CmpH E g n v0 cv w0) (hNl : N ≤ 1000000) : ∀ (K : Nat) (P X Y S : List Nat), X.length + Y.length ≤ K → 0 < X.length → 0 < Y.length →
  Rel key (ltC cv) X Y → Asc key X → Asc key Y → (∀ z ∈ X, z < n) → (∀ z ∈ Y, z < n) → SymAtH E cp key g N v0 w0 P X Y S := by
 intro K
 induction K with
 | zero => intro P X Y S h h0; omega
 | succ K ih =>
 intro P X Y S hK hX0 hY0 hr hX hY hXn hYn w a m b hF0 hB ha hm hb hN;by_cases hx1 : X.length = 1
 ·obtain ⟨x, rfl⟩ := List.length_eq_one_iff.1 hx1;exact hsym_left E cp key g N n a m b v0 cv w0 P Y S x w hC hF0 (hXn x (by simp)) hYn hr hY ha hm hb hN hNl hB
 by_cases hy1 : Y.length = 1
 ·obtain ⟨y, rfl⟩ := List.length_eq_one_iff.1 hy1;exact hsym_right E cp key g N n a m b v0 cv w0 P X S y w hC hF0 (hYn y (by simp)) hXn hr hX (by omega) ha hm hb hN hNl hB
 obtain ⟨md, hmd⟩ := nx ((a + b) / 2);have q1 : a + 2 ≤ m := by omega
 have q2 : m + 2 ≤ b := by omega
 have q3 : b ≤ N := by omega
 have em : ((a : Int) + (b : Int)) / 2 = (md : Int) := by omega
 have q4 : a < md := by omega
 have q5 : md < b := by omega
 have t0 : ((m : Int) - (a : Int) == 1) = false := beq_eq_false_iff_ne.2 (by omega);have t0' : ((b : Int) - (m : Int) == 1) = false := beq_eq_false_iff_ne.2 (by omega);obtain ⟨p, hp⟩ := nx (md + m - 1);have ep : (md : Int) + (m : Int) - 1 = (p : Int) := by omega
 have H := Hq (Ai hC (Ai hF0 (Ai hr (Ai hX (Ai hY (Ai hXn (Ai hYn (Ai ha (Ai hm (Ai hb (Ai hN (Ai hmd hp))))))))))))
 -- what the rotation leaves
 have HRot : Hid (∀ (s en : Nat) (W : World), s < m → s < md → a ≤ s → md - s ≤ Y.length → en = md + m - s → Foot (· = g) w W → HBlk E W g (P ++ X ++ Y ++ S) →
   Calls Tryz.prog 120 #[.slice (some ⟨g, 0, none⟩) N cp, .int .i64 (s : Nat), .int .i64 (m : Nat), .int .i64 (en : Nat), .func (.func 109) #[] #[]] W fun e W' =>
    e = .returned (.tuple #[]) ∧ Foot (· = g) w W' ∧ Hid (HBlk E W' g (P ++ (X.take (s - a) ++ Y.take (md - s)) ++ (X.drop (s - a) ++ Y.drop (md - s)) ++ S))) := Hq (by
  intro s en W h1 h2 h3 h4 h5 hF hB;refine (hrotate_any E cp g N s m en (P ++ X.take (s - a)) (X.drop (s - a)) (Y.take (md - s)) (Y.drop (md - s) ++ S) _ W (by rw [List.length_drop]; omega) (by rw [List.length_take]; omega) (by rw [List.length_append, List.length_take]; omega) (by rw [List.length_append, List.length_take, List.length_drop]; omega)
   (by rw [List.length_append, List.length_take, List.length_drop, List.length_take]; omega) (by simp only [List.length_append, List.length_take, List.length_drop]; omega) hNl (by
    have e : P ++ X.take (s - a) ++ X.drop (s - a) ++ Y.take (md - s) ++ (Y.drop (md - s) ++ S) = P ++ X ++ Y ++ S := by
     rw [List.append_assoc P, List.take_append_drop, List.append_assoc (P ++ X), ← List.append_assoc (Y.take _), List.take_append_drop, ← List.append_assoc]
    rw [e]; exact hB)).mono ?_
  rintro e W' ⟨he, hf, hb⟩;exact ⟨he, hF.trans hf fun _ h => .inl h, Hq (by simpa using hb)⟩)
 -- the two halves
 have HL : Hid (∀ (s : Nat) (W : World), a < s → s < md → s ≤ m → md - s ≤ Y.length → Foot (· = g) w W → HBlk E W g (P ++ (X.take (s - a) ++ Y.take (md - s)) ++ (X.drop (s - a) ++ Y.drop (md - s)) ++ S) →
   Calls Tryz.prog 119 #[.slice (some ⟨g, 0, none⟩) N cp, .int .i64 (a : Nat), .int .i64 (s : Nat), .int .i64 (md : Nat), .func (.func 109) #[] #[]] W fun e W' =>
    e = .returned (.tuple #[]) ∧ Foot (· = g) w W' ∧ Hid (∃ Z1, HBlk E W' g (P ++ Z1 ++ (X.drop (s - a) ++ Y.drop (md - s)) ++ S) ∧ Z1.Perm (X.take (s - a) ++ Y.take (md - s)) ∧ Asc key Z1)) := Hq (by
  intro s W h1 h2 h3 h4 hF hB;have l1 : (X.take (s - a)).length = s - a := by rw [List.length_take]; omega
  have l2 : (Y.take (md - s)).length = md - s := by rw [List.length_take]; omega
  refine (ih P (X.take (s - a)) (Y.take (md - s)) (X.drop (s - a) ++ Y.drop (md - s) ++ S) (by omega) (by omega) (by omega) (hr.sub (fun _ h => List.mem_of_mem_take h) (fun _ h => List.mem_of_mem_take h)) (hX.sublist (List.take_sublist _ _)) (hY.sublist (List.take_sublist _ _))
   (fun z hz => hXn z (List.mem_of_mem_take hz)) (fun z hz => hYn z (List.mem_of_mem_take hz)) W a s md (hF0.trans hF fun _ h => .inl h) (by simpa using hB) ha (by omega) (by omega) (by simp only [List.length_append, List.length_drop]; omega)).mono ?_
  rintro e W' ⟨he, hf, hz⟩;obtain ⟨Z1, z1, z2, z3⟩ := hz.out;exact ⟨he, hF.trans hf fun _ h => .inl h, Hq ⟨Z1, by simpa using z1, z2, z3⟩⟩)
 have HR : Hid (∀ (s en : Nat) (W : World) (Z1 : List Nat), s < m → s ≤ md → a ≤ s → md - s ≤ Y.length → en = md + m - s → en < b → Z1.length = md - a → Foot (· = g) w W → HBlk E W g (P ++ Z1 ++ (X.drop (s - a) ++ Y.drop (md - s)) ++ S) →
   Calls Tryz.prog 119 #[.slice (some ⟨g, 0, none⟩) N cp, .int .i64 (md : Nat), .int .i64 (en : Nat), .int .i64 (b : Nat), .func (.func 109) #[] #[]] W fun e W' =>
    e = .returned (.tuple #[]) ∧ Foot (· = g) w W' ∧ Hid (∃ Z2, HBlk E W' g (P ++ (Z1 ++ Z2) ++ S) ∧ Z2.Perm (X.drop (s - a) ++ Y.drop (md - s)) ∧ Asc key Z2)) := Hq (by
  intro s en W Z1 h1 h2 h3 h4 h5 h6 h7 hF hB;have l1 : (X.drop (s - a)).length = m - s := by rw [List.length_drop]; omega
  have l2 : (Y.drop (md - s)).length = b - en := by rw [List.length_drop]; omega
  refine (ih (P ++ Z1) (X.drop (s - a)) (Y.drop (md - s)) S (by omega) (by omega) (by omega) (hr.sub (fun _ h => List.mem_of_mem_drop h) (fun _ h => List.mem_of_mem_drop h)) (hX.sublist (List.drop_sublist _ _)) (hY.sublist (List.drop_sublist _ _))
   (fun z hz => hXn z (List.mem_of_mem_drop hz)) (fun z hz => hYn z (List.mem_of_mem_drop hz)) W md en b (hF0.trans hF fun _ h => .inl h) (by simpa using hB) (by rw [List.length_append]; omega) (by rw [List.length_append]; omega) (by rw [List.length_append]; omega) (by rw [List.length_append]; omega)).mono ?_
  rintro e W' ⟨he, hf, hz⟩;obtain ⟨Z2, z1, z2, z3⟩ := hz.out;exact ⟨he, hF.trans hf fun _ h => .inl h, Hq ⟨Z2, by simpa using z1, z2, z3⟩⟩)
 have HB := Hq hB;have HF := Hq (Foot.refl (· = g) w);clear ih hK hX0 hY0 hr hX hY hXn hYn hF0 hB ha hm hb hN hx1 hy1 hC hp;by_cases hc : md < m
 ·have tc : decide (md < m) = true := decide_eq_true hc;obtain ⟨s0, hs0⟩ := nx (md + m - b);have hs0a : a ≤ s0 := by omega
  have es : (md : Int) + (m : Int) - (b : Int) = (s0 : Int) := by omega
  have hs0b : s0 ≤ md := by omega
  have Hs0 := Hq (Ai hs0 hmd);clear hs0 hmd;go_enter Tryz.func119, Tryz.ntmps119;go_wp2;go_loopw [20, 21] (fun vi vj wr => ∃ s r : Nat, vi = .int .i64 (s : Nat) ∧ vj = .int .i64 (r : Nat) ∧ s0 ≤ s ∧ s ≤ r ∧ r ≤ md ∧ Hid (Foot (· = g) w wr) ∧ Hid (HBlk E wr g (P ++ X ++ Y ++ S)) ∧ Hid ((s = s0 ∨ ∀ x y, X[s - a - 1]? = some x → Y[md - s]? = some y → key x ≤ key y) ∧ (r = md ∨ ∀ x y, X[r - a]? = some x → Y[md - 1 - r]? = some y → key y ≤ key x))) (fun vi vj _ => (intOf vj).toNat - (intOf vi).toNat)
  case atStart => exact ⟨s0, md, rfl, rfl, Nat.le_refl _, by omega, Nat.le_refl _, HF, HB, Hq ⟨.inl rfl, .inl rfl⟩⟩
  case round =>
   clear HB HF;obtain ⟨s, r, rfl, rfl, hs0s, hsr, hrr, hF, hBk, hI⟩ := hrel;by_cases hlt : s < r
   ·obtain ⟨c, hcc⟩ : ∃ c, c = (s + r) / 2 := ⟨_, rfl⟩
    have em2 : ((s : Int) + (r : Int)) / 2 = (c : Int) := (by omega);have h1 : s ≤ c := (by omega);have h2 : c < r := (by omega);obtain ⟨x, hx⟩ := get_of_lt (L := X) (k := c - a) (by have := H.out; omega);obtain ⟨y, hy⟩ := get_of_lt (L := Y) (k := md - 1 - c) (by have := H.out; have := Hs0.out; omega);obtain ⟨pc, hpc⟩ := nx (p - c);have hpm : pc = m + (md - 1 - c) := by have := H.out; omega
    have epc : (p : Int) - (c : Int) = (pc : Int) := by have := H.out; omega
    have hLx : (P ++ X ++ Y ++ S)[c]? = some x := by
     rw [List.append_assoc (P ++ X), get_pre (P := P) (k := c - a) (by have := H.out; omega) (lt_of_get hx)]; exact hx
    have hLy : (P ++ X ++ Y ++ S)[pc]? = some y := by
     rw [get_pre (P := P ++ X) (k := md - 1 - c) (by have := H.out; rw [List.length_append]; omega) (lt_of_get hy)]; exact hy
    have c1 := hBk.out.at_ hLx;have c2 := hBk.out.at_ hLy;have hc := fun W (hb : Below wr.heap.size wr W) => H.out.1.at_ H.out.2.1 (foot_then hF.out hb) (H.out.2.2.2.2.2.2.1 y (mem_of_get hy)) (H.out.2.2.2.2.2.1 x (mem_of_get hx))
    have lg := hBk.out.lt;have hrel := H.out.2.2.1 x (mem_of_get hx) y (mem_of_get hy);have j1 : (c : Int) < (N : Int) := by have := lt_of_get hx; have := H.out; omega
    have j2 : (pc : Int) < (N : Int) := by have := lt_of_get hy; have := H.out; omega
    have wpc : IntKind.i64.wrap (pc : Int) = (pc : Int) := IntWalk.i64_in _ (by omega);have t1 : decide (s < r) = true := decide_eq_true hlt;clear hcc hLx hLy hpc hpm;go_wp2_with fail;(try simp only [em2]);clear em2
    cases hd : decide (cv y x < 0) with
    | true =>
     have hk : key y ≤ key x := by unfold ltC at hrel; rw [hd] at hrel; have := of_decide_eq_true hrel.symm; omega
     have HK := Hq (show ∀ x' y', X[c - a]? = some x' → Y[md - 1 - c]? = some y' → key y' ≤ key x' by
      intro x' y' hx' hy';rw [hx] at hx'; cases hx'; rw [hy] at hy'; cases hy'; exact hk)
     clear hrel hx hy hk;refine held_begin (fun w' : World => HoAt w' g (c * 5) (E x) ∧ HoAt w' g (pc * 5) (E y)) (by kernel_rfl) ?_;have hBq0 : Below wr.heap.size wr wr.drew := (Below.refl _ _).drew;have hSq0 := Ai c1 c2;refine tkA 0 158 hSq0 ?_;refine tkA 1 159 hSq0 ?_;refine tkA 2 160 hSq0 ?_;refine tkA 3 161 hSq0 ?_;refine tkA 4 162 hSq0 ?_;refine tkA 5 163 hSq0 ?_;refine tkH ?_ 6 164 ?_ hSq0 ?_;rotate_left
     ·rintro w' ⟨x0, x1⟩;refine Eq.trans (run_load_ho (by rfl) (by rfl) x1) ?_;(with_reducible rfl)
     simp only [Act.put, pzA, pzB, pzC];refine tkA 7 165 hSq0 ?_;refine tkA 8 166 hSq0 ?_;refine tkA 9 167 hSq0 ?_;refine tkH ?_ 10 168 ?_ hSq0 ?_;rotate_left
     ·rintro w' ⟨x0, x1⟩;refine Eq.trans (run_load_ho (by rfl) (by rfl) x0) ?_;(with_reducible rfl)
     simp only [Act.put, pzA, pzB, pzC];refine held_one 11 rfl (by kernel_rfl) (by rfl) (fun K hK => ?_);go_simp
     go_at_call 109
     refine (hc wr.drew hBq0).mono ?_;rintro e wq1 ⟨rfl, hbq1⟩;have hBq1 : Below wr.heap.size wr wq1 := below_step hBq0 hbq1;have hSq1 := Ai (c1.keep lg hBq1) (c2.keep lg hBq1);refine hK.out _ _ hSq1 ?_;clear hK K;refine tkA 12 170 hSq1 ?_;refine tkA 13 171 hSq1 ?_;refine wpAnyH_done (by kernel_rfl) ?_ _;have hF1 : Hid (Foot (· = g) w wq1) := Hq (foot_then hF.out hBq1);have hB1 : Hid (HBlk E wq1 g (P ++ X ++ Y ++ S)) := Hq (hBk.out.keep lg hBq1);clear c1 c2 hc hd hF hBk epc lg hBq0 hSq0 hbq1 hBq1 hSq1;go_wp2
     go_roundw
     case rel => exact ⟨s, c, rfl, rfl, hs0s, h1, by omega, hF1, hB1, Hq ⟨hI.out.1, .inr HK.out⟩⟩
     case measure => simp [intOf]; omega
    | false =>
     have hk : key x ≤ key y := by unfold ltC at hrel; rw [hd] at hrel; have := of_decide_eq_false hrel.symm; omega
     have HK := Hq (show ∀ x' y', X[c + 1 - a - 1]? = some x' → Y[md - (c + 1)]? = some y' → key x' ≤ key y' by
      intro x' y' hx' hy';rw [show c + 1 - a - 1 = c - a by omega, hx] at hx'; cases hx';rw [show md - (c + 1) = md - 1 - c by omega, hy] at hy'; cases hy'; exact hk)
     clear hrel hx hy hk;refine held_begin (fun w' : World => HoAt w' g (c * 5) (E x) ∧ HoAt w' g (pc * 5) (E y)) (by kernel_rfl) ?_;have hBq0 : Below wr.heap.size wr wr.drew := (Below.refl _ _).drew;have hSq0 := Ai c1 c2;refine tkA 0 158 hSq0 ?_;refine tkA 1 159 hSq0 ?_;refine tkA 2 160 hSq0 ?_;refine tkA 3 161 hSq0 ?_;refine tkA 4 162 hSq0 ?_;refine tkA 5 163 hSq0 ?_;refine tkH ?_ 6 164 ?_ hSq0 ?_;rotate_left
     ·rintro w' ⟨x0, x1⟩;refine Eq.trans (run_load_ho (by rfl) (by rfl) x1) ?_;(with_reducible rfl)
     simp only [Act.put, pzA, pzB, pzC];refine tkA 7 165 hSq0 ?_;refine tkA 8 166 hSq0 ?_;refine tkA 9 167 hSq0 ?_;refine tkH ?_ 10 168 ?_ hSq0 ?_;rotate_left
     ·rintro w' ⟨x0, x1⟩;refine Eq.trans (run_load_ho (by rfl) (by rfl) x0) ?_;(with_reducible rfl)
     simp only [Act.put, pzA, pzB, pzC];refine held_one 11 rfl (by kernel_rfl) (by rfl) (fun K hK => ?_);go_simp
     go_at_call 109
     refine (hc wr.drew hBq0).mono ?_;rintro e wq1 ⟨rfl, hbq1⟩;have hBq1 : Below wr.heap.size wr wq1 := below_step hBq0 hbq1;have hSq1 := Ai (c1.keep lg hBq1) (c2.keep lg hBq1);refine hK.out _ _ hSq1 ?_;clear hK K;refine tkA 12 170 hSq1 ?_;refine tkA 13 171 hSq1 ?_;refine wpAnyH_done (by kernel_rfl) ?_ _;have hF1 : Hid (Foot (· = g) w wq1) := Hq (foot_then hF.out hBq1);have hB1 : Hid (HBlk E wq1 g (P ++ X ++ Y ++ S)) := Hq (hBk.out.keep lg hBq1);clear c1 c2 hc hd hF hBk epc lg hBq0 hSq0 hbq1 hBq1 hSq1;go_wp2
     go_roundw
     case rel => exact ⟨c + 1, r, by go_num, rfl, by omega, by omega, hrr, hF1, hB1, Hq ⟨.inr HK.out, hI.out.2⟩⟩
     case measure => simp [intOf]; omega
   ·obtain rfl : s = r := by omega
    clear hlt hsr;have hcut : Hid (∀ z ∈ X.take (s - a) ++ Y.take (md - s), ∀ z' ∈ X.drop (s - a) ++ Y.drop (md - s), key z ≤ key z') := Hq (by
     have hh := H.out;have hs := Hs0.out;have e1 : md - s = (md - a) - (s - a) := (by omega);rw [e1];refine sym_cut (H := md - a) hh.2.2.2.1 hh.2.2.2.2.1 (by omega) (by omega) (by omega) ?_ ?_
     ·rcases hI.out.1 with e | e
      ·exact .inl (by omega)
      ·rw [← e1]; exact .inr e
     ·rcases hI.out.2 with e | e
      ·exact .inl (by omega)
      ·rw [show md - a - 1 - (s - a) = md - 1 - s by omega]; exact .inr (.inr e))
    have hvY : md - s ≤ Y.length := by have := H.out; have := Hs0.out; omega
    clear hI;obtain ⟨en, hen⟩ := nx (md + m - s);have een : (md : Int) + (m : Int) - (s : Int) = (en : Int) := (by omega);clear hen;have u1 : decide (s < s) = false := decide_eq_false (by omega);have hsm : s < m := (by omega);by_cases k1 : s < md
    ·by_cases k2 : a < s
     ·by_cases k3 : en < b
      ·have t1 : decide (s < m) = true := decide_eq_true (by omega);have t2 : decide (m < en) = true := decide_eq_true (by omega);have t3 : decide (a < s) = true := decide_eq_true (by omega);have t4 : decide (s < md) = true := decide_eq_true (by omega);have t5 : decide (md < en) = true := decide_eq_true (by omega);have t6 : decide (en < b) = true := decide_eq_true (by omega);have hR1 := HRot.out s en wr (by omega) (by omega) (by omega) hvY (by omega) hF.out hBk.out;clear hBk;go_wp2_with fail;refine hR1.mono ?_;rintro e w1 ⟨rfl, hf1, hB1⟩;have hF1 := Hq hf1;clear hR1 hF hf1;have hL1 := HL.out s w1 (by omega) (by omega) (by omega) hvY hF1.out hB1.out;clear hB1;go_wp2_with fail;refine hL1.mono ?_;rintro e w2 ⟨rfl, hf2, hB2⟩;have hF2 := Hq hf2;clear hL1 hf2 hF1;obtain ⟨Z1, zb, zp, za⟩ := hB2.out;have zl : Z1.length = md - a := by have := zp.length_eq; rw [List.length_append, List.length_take, List.length_take] at this; have := H.out; omega
       have hR2 := HR.out s en w2 Z1 (by omega) (by omega) (by omega) hvY (by omega) (by omega) zl hF2.out zb;have ZP := Hq (Ai zp za);clear zb zp za zl hB2;go_wp2_with fail;refine hR2.mono ?_;rintro e w3 ⟨rfl, hf3, hB3⟩;obtain ⟨Z2, yb, yp, ya⟩ := hB3.out;have HZ := sym_join ZP.out.1 yp ZP.out.2 ya hcut.out;have HZ2 : Hid (∃ Z, HBlk E w3 g (P ++ Z ++ S) ∧ Z.Perm (X ++ Y) ∧ Asc key Z) := Hq ⟨_, yb, HZ.1, HZ.2⟩;clear hR2 yb yp ya HZ hB3;go_wp2;(try simp only [Exit.inBlock, Exit.then])
       first | (refine bodyPost_ret (results_none rfl _ _ _) rfl ?_) | (refine bodyPost_end (results_none rfl _ _ _) rfl ?_) | skip
       exact ⟨rfl, hf3, HZ2⟩
      ·have t1 : decide (s < m) = true := decide_eq_true (by omega);have t2 : decide (m < en) = true := decide_eq_true (by omega);have t3 : decide (a < s) = true := decide_eq_true (by omega);have t4 : decide (s < md) = true := decide_eq_true (by omega);have t5 : decide (md < en) = true := decide_eq_true (by omega);have t6 : decide (en < b) = false := decide_eq_false (by omega);have hR1 := HRot.out s en wr (by omega) (by omega) (by omega) hvY (by omega) hF.out hBk.out;clear hBk;go_wp2_with fail;refine hR1.mono ?_;rintro e w1 ⟨rfl, hf1, hB1⟩;have hF1 := Hq hf1;clear hR1 hF hf1;have hL1 := HL.out s w1 (by omega) (by omega) (by omega) hvY hF1.out hB1.out;clear hB1;go_wp2_with fail;refine hL1.mono ?_;rintro e w2 ⟨rfl, hf2, hB2⟩;have hF2 := Hq hf2;clear hL1 hf2 hF1;obtain ⟨Z1, zb, zp, za⟩ := hB2.out;have zl : Z1.length = md - a := by have := zp.length_eq; rw [List.length_append, List.length_take, List.length_take] at this; have := H.out; omega
       have HZ := sym_join zp (List.Perm.refl _) za (by
         have hh := H.out;rw [show md - s = Y.length by omega, List.drop_length, List.append_nil]; exact hh.2.2.2.1.sublist (List.drop_sublist _ _)) hcut.out
       have HZ2 : Hid (∃ Z, HBlk E w2 g (P ++ Z ++ S) ∧ Z.Perm (X ++ Y) ∧ Asc key Z) := Hq ⟨_, by rw [← List.append_assoc P]; exact zb, HZ.1, HZ.2⟩;clear zb zp za zl hB2 HZ;go_wp2;(try simp only [Exit.inBlock, Exit.then])
       first | (refine bodyPost_ret (results_none rfl _ _ _) rfl ?_) | (refine bodyPost_end (results_none rfl _ _ _) rfl ?_) | skip
       exact ⟨rfl, hF2.out, HZ2⟩
     ·by_cases k3 : en < b
      ·have t1 : decide (s < m) = true := decide_eq_true (by omega);have t2 : decide (m < en) = true := decide_eq_true (by omega);have t3 : decide (a < s) = false := decide_eq_false (by omega);have t4 : decide (s < md) = true := decide_eq_true (by omega);have t5 : decide (md < en) = true := decide_eq_true (by omega);have t6 : decide (en < b) = true := decide_eq_true (by omega);have hR1 := HRot.out s en wr (by omega) (by omega) (by omega) hvY (by omega) hF.out hBk.out;clear hBk;go_wp2_with fail;refine hR1.mono ?_;rintro e w1 ⟨rfl, hf1, hB1⟩;have hF1 := Hq hf1;clear hR1 hF hf1;have hB2 : Hid (∃ Z1, HBlk E w1 g (P ++ Z1 ++ (X.drop (s - a) ++ Y.drop (md - s)) ++ S) ∧ Z1.Perm (X.take (s - a) ++ Y.take (md - s)) ∧ Asc key Z1) := Hq ⟨_, hB1.out, List.Perm.refl _, by
        have hh := H.out;rw [show s - a = 0 by omega, List.take_zero, List.nil_append]; exact hh.2.2.2.2.1.sublist (List.take_sublist _ _)⟩
       clear hB1;obtain ⟨Z1, zb, zp, za⟩ := hB2.out;have zl : Z1.length = md - a := by have := zp.length_eq; rw [List.length_append, List.length_take, List.length_take] at this; have := H.out; omega
       have hR2 := HR.out s en w1 Z1 (by omega) (by omega) (by omega) hvY (by omega) (by omega) zl hF1.out zb;have ZP := Hq (Ai zp za);clear zb zp za zl hB2;go_wp2_with fail;refine hR2.mono ?_;rintro e w3 ⟨rfl, hf3, hB3⟩;obtain ⟨Z2, yb, yp, ya⟩ := hB3.out;have HZ := sym_join ZP.out.1 yp ZP.out.2 ya hcut.out;have HZ2 : Hid (∃ Z, HBlk E w3 g (P ++ Z ++ S) ∧ Z.Perm (X ++ Y) ∧ Asc key Z) := Hq ⟨_, yb, HZ.1, HZ.2⟩;clear hR2 yb yp ya HZ hB3;go_wp2;(try simp only [Exit.inBlock, Exit.then])
       first | (refine bodyPost_ret (results_none rfl _ _ _) rfl ?_) | (refine bodyPost_end (results_none rfl _ _ _) rfl ?_) | skip
       exact ⟨rfl, hf3, HZ2⟩
      ·have t1 : decide (s < m) = true := decide_eq_true (by omega);have t2 : decide (m < en) = true := decide_eq_true (by omega);have t3 : decide (a < s) = false := decide_eq_false (by omega);have t4 : decide (s < md) = true := decide_eq_true (by omega);have t5 : decide (md < en) = true := decide_eq_true (by omega);have t6 : decide (en < b) = false := decide_eq_false (by omega);have hR1 := HRot.out s en wr (by omega) (by omega) (by omega) hvY (by omega) hF.out hBk.out;clear hBk;go_wp2_with fail;refine hR1.mono ?_;rintro e w1 ⟨rfl, hf1, hB1⟩;have hF1 := Hq hf1;clear hR1 hF hf1;have hB2 : Hid (∃ Z1, HBlk E w1 g (P ++ Z1 ++ (X.drop (s - a) ++ Y.drop (md - s)) ++ S) ∧ Z1.Perm (X.take (s - a) ++ Y.take (md - s)) ∧ Asc key Z1) := Hq ⟨_, hB1.out, List.Perm.refl _, by
        have hh := H.out;rw [show s - a = 0 by omega, List.take_zero, List.nil_append]; exact hh.2.2.2.2.1.sublist (List.take_sublist _ _)⟩
       clear hB1;obtain ⟨Z1, zb, zp, za⟩ := hB2.out;have zl : Z1.length = md - a := by have := zp.length_eq; rw [List.length_append, List.length_take, List.length_take] at this; have := H.out; omega
       have HZ := sym_join zp (List.Perm.refl _) za (by
         have hh := H.out;rw [show md - s = Y.length by omega, List.drop_length, List.append_nil]; exact hh.2.2.2.1.sublist (List.drop_sublist _ _)) hcut.out
       have HZ2 : Hid (∃ Z, HBlk E w1 g (P ++ Z ++ S) ∧ Z.Perm (X ++ Y) ∧ Asc key Z) := Hq ⟨_, by rw [← List.append_assoc P]; exact zb, HZ.1, HZ.2⟩;clear zb zp za zl hB2 HZ;go_wp2;(try simp only [Exit.inBlock, Exit.then])
       first | (refine bodyPost_ret (results_none rfl _ _ _) rfl ?_) | (refine bodyPost_end (results_none rfl _ _ _) rfl ?_) | skip
       exact ⟨rfl, hF1.out, HZ2⟩
    ·have t1 : decide (s < m) = true := decide_eq_true (by omega);have t2 : decide (m < en) = false := decide_eq_false (by omega);have t3 : decide (a < s) = true := decide_eq_true (by omega);have t4 : decide (s < md) = false := decide_eq_false (by omega);have t5 : decide (md < en) = true := decide_eq_true (by omega);have t6 : decide (en < b) = true := decide_eq_true (by omega);have hB1 : Hid (HBlk E wr g (P ++ (X.take (s - a) ++ Y.take (md - s)) ++ (X.drop (s - a) ++ Y.drop (md - s)) ++ S)) := Hq (by
      have h9 := hBk.out;have hh := H.out;rw [show md - s = 0 by omega, List.take_zero, List.drop_zero, List.append_nil];have e : X.take (s - a) ++ X.drop (s - a) = X := List.take_append_drop _ _;rw [← e] at h9; simp only [List.append_assoc] at h9 ⊢; exact h9)
     clear hBk;have hB2 : Hid (∃ Z1, HBlk E wr g (P ++ Z1 ++ (X.drop (s - a) ++ Y.drop (md - s)) ++ S) ∧ Z1.Perm (X.take (s - a) ++ Y.take (md - s)) ∧ Asc key Z1) := Hq ⟨_, hB1.out, List.Perm.refl _, by
      have hh := H.out;rw [show md - s = 0 by omega, List.take_zero, List.append_nil]; exact hh.2.2.2.1.sublist (List.take_sublist _ _)⟩
     clear hB1;obtain ⟨Z1, zb, zp, za⟩ := hB2.out;have zl : Z1.length = md - a := by have := zp.length_eq; rw [List.length_append, List.length_take, List.length_take] at this; have := H.out; omega
     have hR2 := HR.out s en wr Z1 (by omega) (by omega) (by omega) hvY (by omega) (by omega) zl hF.out zb;have ZP := Hq (Ai zp za);clear zb zp za zl hB2;go_wp2_with fail;refine hR2.mono ?_;rintro e w3 ⟨rfl, hf3, hB3⟩;obtain ⟨Z2, yb, yp, ya⟩ := hB3.out;have HZ := sym_join ZP.out.1 yp ZP.out.2 ya hcut.out;have HZ2 : Hid (∃ Z, HBlk E w3 g (P ++ Z ++ S) ∧ Z.Perm (X ++ Y) ∧ Asc key Z) := Hq ⟨_, yb, HZ.1, HZ.2⟩;clear hR2 yb yp ya HZ hB3;go_wp2;(try simp only [Exit.inBlock, Exit.then])
     first | (refine bodyPost_ret (results_none rfl _ _ _) rfl ?_) | (refine bodyPost_end (results_none rfl _ _ _) rfl ?_) | skip
     exact ⟨rfl, hf3, HZ2⟩
 ·have tc : decide (md < m) = false := decide_eq_false hc;have Hs0 := Hq hmd;clear hmd;go_enter Tryz.func119, Tryz.ntmps119;go_wp2;go_loopw [20, 21] (fun vi vj wr => ∃ s r : Nat, vi = .int .i64 (s : Nat) ∧ vj = .int .i64 (r : Nat) ∧ a ≤ s ∧ s ≤ r ∧ r ≤ m ∧ Hid (Foot (· = g) w wr) ∧ Hid (HBlk E wr g (P ++ X ++ Y ++ S)) ∧ Hid ((s = a ∨ ∀ x y, X[s - a - 1]? = some x → Y[md - s]? = some y → key x ≤ key y) ∧ (r = m ∨ ∀ x y, X[r - a]? = some x → Y[md - 1 - r]? = some y → key y ≤ key x))) (fun vi vj _ => (intOf vj).toNat - (intOf vi).toNat)
  case atStart => exact ⟨a, m, rfl, rfl, Nat.le_refl _, by omega, Nat.le_refl _, HF, HB, Hq ⟨.inl rfl, .inl rfl⟩⟩
  case round =>
   clear HB HF;obtain ⟨s, r, rfl, rfl, hs0s, hsr, hrr, hF, hBk, hI⟩ := hrel;by_cases hlt : s < r
   ·obtain ⟨c, hcc⟩ : ∃ c, c = (s + r) / 2 := ⟨_, rfl⟩
    have em2 : ((s : Int) + (r : Int)) / 2 = (c : Int) := (by omega);have h1 : s ≤ c := (by omega);have h2 : c < r := (by omega);obtain ⟨x, hx⟩ := get_of_lt (L := X) (k := c - a) (by have := H.out; omega);obtain ⟨y, hy⟩ := get_of_lt (L := Y) (k := md - 1 - c) (by have := H.out; have := Hs0.out; omega);obtain ⟨pc, hpc⟩ := nx (p - c);have hpm : pc = m + (md - 1 - c) := by have := H.out; omega
    have epc : (p : Int) - (c : Int) = (pc : Int) := by have := H.out; omega
    have hLx : (P ++ X ++ Y ++ S)[c]? = some x := by
     rw [List.append_assoc (P ++ X), get_pre (P := P) (k := c - a) (by have := H.out; omega) (lt_of_get hx)]; exact hx
    have hLy : (P ++ X ++ Y ++ S)[pc]? = some y := by
     rw [get_pre (P := P ++ X) (k := md - 1 - c) (by have := H.out; rw [List.length_append]; omega) (lt_of_get hy)]; exact hy
    have c1 := hBk.out.at_ hLx;have c2 := hBk.out.at_ hLy;have hc := fun W (hb : Below wr.heap.size wr W) => H.out.1.at_ H.out.2.1 (foot_then hF.out hb) (H.out.2.2.2.2.2.2.1 y (mem_of_get hy)) (H.out.2.2.2.2.2.1 x (mem_of_get hx))
    have lg := hBk.out.lt;have hrel := H.out.2.2.1 x (mem_of_get hx) y (mem_of_get hy);have j1 : (c : Int) < (N : Int) := by have := lt_of_get hx; have := H.out; omega
    have j2 : (pc : Int) < (N : Int) := by have := lt_of_get hy; have := H.out; omega
    have wpc : IntKind.i64.wrap (pc : Int) = (pc : Int) := IntWalk.i64_in _ (by omega);have t1 : decide (s < r) = true := decide_eq_true hlt;clear hcc hLx hLy hpc hpm;go_wp2_with fail;(try simp only [em2]);clear em2
    cases hd : decide (cv y x < 0) with
    | true =>
     have hk : key y ≤ key x := by unfold ltC at hrel; rw [hd] at hrel; have := of_decide_eq_true hrel.symm; omega
     have HK := Hq (show ∀ x' y', X[c - a]? = some x' → Y[md - 1 - c]? = some y' → key y' ≤ key x' by
      intro x' y' hx' hy';rw [hx] at hx'; cases hx'; rw [hy] at hy'; cases hy'; exact hk)
     clear hrel hx hy hk;refine held_begin (fun w' : World => HoAt w' g (c * 5) (E x) ∧ HoAt w' g (pc * 5) (E y)) (by kernel_rfl) ?_;have hBq0 : Below wr.heap.size wr wr.drew := (Below.refl _ _).drew;have hSq0 := Ai c1 c2;refine tkA 0 158 hSq0 ?_;refine tkA 1 159 hSq0 ?_;refine tkA 2 160 hSq0 ?_;refine tkA 3 161 hSq0 ?_;refine tkA 4 162 hSq0 ?_;refine tkA 5 163 hSq0 ?_;refine tkH ?_ 6 164 ?_ hSq0 ?_;rotate_left
     ·rintro w' ⟨x0, x1⟩;refine Eq.trans (run_load_ho (by rfl) (by rfl) x1) ?_;(with_reducible rfl)
     simp only [Act.put, pzA, pzB, pzC];refine tkA 7 165 hSq0 ?_;refine tkA 8 166 hSq0 ?_;refine tkA 9 167 hSq0 ?_;refine tkH ?_ 10 168 ?_ hSq0 ?_;rotate_left
     ·rintro w' ⟨x0, x1⟩;refine Eq.trans (run_load_ho (by rfl) (by rfl) x0) ?_;(with_reducible rfl)
     simp only [Act.put, pzA, pzB, pzC];refine held_one 11 rfl (by kernel_rfl) (by rfl) (fun K hK => ?_);go_simp
     go_at_call 109
     refine (hc wr.drew hBq0).mono ?_;rintro e wq1 ⟨rfl, hbq1⟩;have hBq1 : Below wr.heap.size wr wq1 := below_step hBq0 hbq1;have hSq1 := Ai (c1.keep lg hBq1) (c2.keep lg hBq1);refine hK.out _ _ hSq1 ?_;clear hK K;refine tkA 12 170 hSq1 ?_;refine tkA 13 171 hSq1 ?_;refine wpAnyH_done (by kernel_rfl) ?_ _;have hF1 : Hid (Foot (· = g) w wq1) := Hq (foot_then hF.out hBq1);have hB1 : Hid (HBlk E wq1 g (P ++ X ++ Y ++ S)) := Hq (hBk.out.keep lg hBq1);clear c1 c2 hc hd hF hBk epc lg hBq0 hSq0 hbq1 hBq1 hSq1;go_wp2
     go_roundw
     case rel => exact ⟨s, c, rfl, rfl, hs0s, h1, by omega, hF1, hB1, Hq ⟨hI.out.1, .inr HK.out⟩⟩
     case measure => simp [intOf]; omega
    | false =>
     have hk : key x ≤ key y := by unfold ltC at hrel; rw [hd] at hrel; have := of_decide_eq_false hrel.symm; omega
     have HK := Hq (show ∀ x' y', X[c + 1 - a - 1]? = some x' → Y[md - (c + 1)]? = some y' → key x' ≤ key y' by
      intro x' y' hx' hy';rw [show c + 1 - a - 1 = c - a by omega, hx] at hx'; cases hx';rw [show md - (c + 1) = md - 1 - c by omega, hy] at hy'; cases hy'; exact hk)
     clear hrel hx hy hk;refine held_begin (fun w' : World => HoAt w' g (c * 5) (E x) ∧ HoAt w' g (pc * 5) (E y)) (by kernel_rfl) ?_;have hBq0 : Below wr.heap.size wr wr.drew := (Below.refl _ _).drew;have hSq0 := Ai c1 c2;refine tkA 0 158 hSq0 ?_;refine tkA 1 159 hSq0 ?_;refine tkA 2 160 hSq0 ?_;refine tkA 3 161 hSq0 ?_;refine tkA 4 162 hSq0 ?_;refine tkA 5 163 hSq0 ?_;refine tkH ?_ 6 164 ?_ hSq0 ?_;rotate_left
     ·rintro w' ⟨x0, x1⟩;refine Eq.trans (run_load_ho (by rfl) (by rfl) x1) ?_;(with_reducible rfl)
     simp only [Act.put, pzA, pzB, pzC];refine tkA 7 165 hSq0 ?_;refine tkA 8 166 hSq0 ?_;refine tkA 9 167 hSq0 ?_;refine tkH ?_ 10 168 ?_ hSq0 ?_;rotate_left
     ·rintro w' ⟨x0, x1⟩;refine Eq.trans (run_load_ho (by rfl) (by rfl) x0) ?_;(with_reducible rfl)
     simp only [Act.put, pzA, pzB, pzC];refine held_one 11 rfl (by kernel_rfl) (by rfl) (fun K hK => ?_);go_simp
     go_at_call 109
     refine (hc wr.drew hBq0).mono ?_;rintro e wq1 ⟨rfl, hbq1⟩;have hBq1 : Below wr.heap.size wr wq1 := below_step hBq0 hbq1;have hSq1 := Ai (c1.keep lg hBq1) (c2.keep lg hBq1);refine hK.out _ _ hSq1 ?_;clear hK K;refine tkA 12 170 hSq1 ?_;refine tkA 13 171 hSq1 ?_;refine wpAnyH_done (by kernel_rfl) ?_ _;have hF1 : Hid (Foot (· = g) w wq1) := Hq (foot_then hF.out hBq1);have hB1 : Hid (HBlk E wq1 g (P ++ X ++ Y ++ S)) := Hq (hBk.out.keep lg hBq1);clear c1 c2 hc hd hF hBk epc lg hBq0 hSq0 hbq1 hBq1 hSq1;go_wp2
     go_roundw
     case rel => exact ⟨c + 1, r, by go_num, rfl, by omega, by omega, hrr, hF1, hB1, Hq ⟨.inr HK.out, hI.out.2⟩⟩
     case measure => simp [intOf]; omega
   ·obtain rfl : s = r := by omega
    clear hlt hsr;have hcut : Hid (∀ z ∈ X.take (s - a) ++ Y.take (md - s), ∀ z' ∈ X.drop (s - a) ++ Y.drop (md - s), key z ≤ key z') := Hq (by
     have hh := H.out;have hs := Hs0.out;have e1 : md - s = (md - a) - (s - a) := (by omega);rw [e1];refine sym_cut (H := md - a) hh.2.2.2.1 hh.2.2.2.2.1 (by omega) (by omega) (by omega) ?_ ?_
     ·rcases hI.out.1 with e | e
      ·exact .inl (by omega)
      ·rw [← e1]; exact .inr e
     ·rcases hI.out.2 with e | e
      ·exact .inr (.inl (by omega))
      ·rw [show md - a - 1 - (s - a) = md - 1 - s by omega]; exact .inr (.inr e))
    have hvY : md - s ≤ Y.length := by have := H.out; have := Hs0.out; omega
    clear hI;obtain ⟨en, hen⟩ := nx (md + m - s);have een : (md : Int) + (m : Int) - (s : Int) = (en : Int) := (by omega);clear hen;have u1 : decide (s < s) = false := decide_eq_false (by omega);by_cases k1 : s < m
    ·by_cases k2 : a < s
     ·by_cases k3 : en < b
      ·have t1 : decide (s < m) = true := decide_eq_true (by omega);have t2 : decide (m < en) = true := decide_eq_true (by omega);have t3 : decide (a < s) = true := decide_eq_true (by omega);have t4 : decide (s < md) = true := decide_eq_true (by omega);have t5 : decide (md < en) = true := decide_eq_true (by omega);have t6 : decide (en < b) = true := decide_eq_true (by omega);have hR1 := HRot.out s en wr (by omega) (by omega) (by omega) hvY (by omega) hF.out hBk.out;clear hBk;go_wp2_with fail;refine hR1.mono ?_;rintro e w1 ⟨rfl, hf1, hB1⟩;have hF1 := Hq hf1;clear hR1 hF hf1;have hL1 := HL.out s w1 (by omega) (by omega) (by omega) hvY hF1.out hB1.out;clear hB1;go_wp2_with fail;refine hL1.mono ?_;rintro e w2 ⟨rfl, hf2, hB2⟩;have hF2 := Hq hf2;clear hL1 hf2 hF1;obtain ⟨Z1, zb, zp, za⟩ := hB2.out;have zl : Z1.length = md - a := by have := zp.length_eq; rw [List.length_append, List.length_take, List.length_take] at this; have := H.out; omega
       have hR2 := HR.out s en w2 Z1 (by omega) (by omega) (by omega) hvY (by omega) (by omega) zl hF2.out zb;have ZP := Hq (Ai zp za);clear zb zp za zl hB2;go_wp2_with fail;refine hR2.mono ?_;rintro e w3 ⟨rfl, hf3, hB3⟩;obtain ⟨Z2, yb, yp, ya⟩ := hB3.out;have HZ := sym_join ZP.out.1 yp ZP.out.2 ya hcut.out;have HZ2 : Hid (∃ Z, HBlk E w3 g (P ++ Z ++ S) ∧ Z.Perm (X ++ Y) ∧ Asc key Z) := Hq ⟨_, yb, HZ.1, HZ.2⟩;clear hR2 yb yp ya HZ hB3;go_wp2;(try simp only [Exit.inBlock, Exit.then])
       first | (refine bodyPost_ret (results_none rfl _ _ _) rfl ?_) | (refine bodyPost_end (results_none rfl _ _ _) rfl ?_) | skip
       exact ⟨rfl, hf3, HZ2⟩
      ·have t1 : decide (s < m) = true := decide_eq_true (by omega);have t2 : decide (m < en) = true := decide_eq_true (by omega);have t3 : decide (a < s) = true := decide_eq_true (by omega);have t4 : decide (s < md) = true := decide_eq_true (by omega);have t5 : decide (md < en) = true := decide_eq_true (by omega);have t6 : decide (en < b) = false := decide_eq_false (by omega);have hR1 := HRot.out s en wr (by omega) (by omega) (by omega) hvY (by omega) hF.out hBk.out;clear hBk;go_wp2_with fail;refine hR1.mono ?_;rintro e w1 ⟨rfl, hf1, hB1⟩;have hF1 := Hq hf1;clear hR1 hF hf1;have hL1 := HL.out s w1 (by omega) (by omega) (by omega) hvY hF1.out hB1.out;clear hB1;go_wp2_with fail;refine hL1.mono ?_;rintro e w2 ⟨rfl, hf2, hB2⟩;have hF2 := Hq hf2;clear hL1 hf2 hF1;obtain ⟨Z1, zb, zp, za⟩ := hB2.out;have zl : Z1.length = md - a := by have := zp.length_eq; rw [List.length_append, List.length_take, List.length_take] at this; have := H.out; omega
       have HZ := sym_join zp (List.Perm.refl _) za (by
         have hh := H.out;rw [show md - s = Y.length by omega, List.drop_length, List.append_nil]; exact hh.2.2.2.1.sublist (List.drop_sublist _ _)) hcut.out
       have HZ2 : Hid (∃ Z, HBlk E w2 g (P ++ Z ++ S) ∧ Z.Perm (X ++ Y) ∧ Asc key Z) := Hq ⟨_, by rw [← List.append_assoc P]; exact zb, HZ.1, HZ.2⟩;clear zb zp za zl hB2 HZ;go_wp2;(try simp only [Exit.inBlock, Exit.then])
       first | (refine bodyPost_ret (results_none rfl _ _ _) rfl ?_) | (refine bodyPost_end (results_none rfl _ _ _) rfl ?_) | skip
       exact ⟨rfl, hF2.out, HZ2⟩
     ·by_cases k3 : en < b
      ·have t1 : decide (s < m) = true := decide_eq_true (by omega);have t2 : decide (m < en) = true := decide_eq_true (by omega);have t3 : decide (a < s) = false := decide_eq_false (by omega);have t4 : decide (s < md) = true := decide_eq_true (by omega);have t5 : decide (md < en) = true := decide_eq_true (by omega);have t6 : decide (en < b) = true := decide_eq_true (by omega);have hR1 := HRot.out s en wr (by omega) (by omega) (by omega) hvY (by omega) hF.out hBk.out;clear hBk;go_wp2_with fail;refine hR1.mono ?_;rintro e w1 ⟨rfl, hf1, hB1⟩;have hF1 := Hq hf1;clear hR1 hF hf1;have hB2 : Hid (∃ Z1, HBlk E w1 g (P ++ Z1 ++ (X.drop (s - a) ++ Y.drop (md - s)) ++ S) ∧ Z1.Perm (X.take (s - a) ++ Y.take (md - s)) ∧ Asc key Z1) := Hq ⟨_, hB1.out, List.Perm.refl _, by
        have hh := H.out;rw [show s - a = 0 by omega, List.take_zero, List.nil_append]; exact hh.2.2.2.2.1.sublist (List.take_sublist _ _)⟩
       clear hB1;obtain ⟨Z1, zb, zp, za⟩ := hB2.out;have zl : Z1.length = md - a := by have := zp.length_eq; rw [List.length_append, List.length_take, List.length_take] at this; have := H.out; omega
       have hR2 := HR.out s en w1 Z1 (by omega) (by omega) (by omega) hvY (by omega) (by omega) zl hF1.out zb;have ZP := Hq (Ai zp za);clear zb zp za zl hB2;go_wp2_with fail;refine hR2.mono ?_;rintro e w3 ⟨rfl, hf3, hB3⟩;obtain ⟨Z2, yb, yp, ya⟩ := hB3.out;have HZ := sym_join ZP.out.1 yp ZP.out.2 ya hcut.out;have HZ2 : Hid (∃ Z, HBlk E w3 g (P ++ Z ++ S) ∧ Z.Perm (X ++ Y) ∧ Asc key Z) := Hq ⟨_, yb, HZ.1, HZ.2⟩;clear hR2 yb yp ya HZ hB3;go_wp2;(try simp only [Exit.inBlock, Exit.then])
       first | (refine bodyPost_ret (results_none rfl _ _ _) rfl ?_) | (refine bodyPost_end (results_none rfl _ _ _) rfl ?_) | skip
       exact ⟨rfl, hf3, HZ2⟩
      ·have t1 : decide (s < m) = true := decide_eq_true (by omega);have t2 : decide (m < en) = true := decide_eq_true (by omega);have t3 : decide (a < s) = false := decide_eq_false (by omega);have t4 : decide (s < md) = true := decide_eq_true (by omega);have t5 : decide (md < en) = true := decide_eq_true (by omega);have t6 : decide (en < b) = false := decide_eq_false (by omega);have hR1 := HRot.out s en wr (by omega) (by omega) (by omega) hvY (by omega) hF.out hBk.out;clear hBk;go_wp2_with fail;refine hR1.mono ?_;rintro e w1 ⟨rfl, hf1, hB1⟩;have hF1 := Hq hf1;clear hR1 hF hf1;have hB2 : Hid (∃ Z1, HBlk E w1 g (P ++ Z1 ++ (X.drop (s - a) ++ Y.drop (md - s)) ++ S) ∧ Z1.Perm (X.take (s - a) ++ Y.take (md - s)) ∧ Asc key Z1) := Hq ⟨_, hB1.out, List.Perm.refl _, by
        have hh := H.out;rw [show s - a = 0 by omega, List.take_zero, List.nil_append]; exact hh.2.2.2.2.1.sublist (List.take_sublist _ _)⟩
       clear hB1;obtain ⟨Z1, zb, zp, za⟩ := hB2.out;have zl : Z1.length = md - a := by have := zp.length_eq; rw [List.length_append, List.length_take, List.length_take] at this; have := H.out; omega
       have HZ := sym_join zp (List.Perm.refl _) za (by
         have hh := H.out;rw [show md - s = Y.length by omega, List.drop_length, List.append_nil]; exact hh.2.2.2.1.sublist (List.drop_sublist _ _)) hcut.out
       have HZ2 : Hid (∃ Z, HBlk E w1 g (P ++ Z ++ S) ∧ Z.Perm (X ++ Y) ∧ Asc key Z) := Hq ⟨_, by rw [← List.append_assoc P]; exact zb, HZ.1, HZ.2⟩;clear zb zp za zl hB2 HZ;go_wp2;(try simp only [Exit.inBlock, Exit.then])
       first | (refine bodyPost_ret (results_none rfl _ _ _) rfl ?_) | (refine bodyPost_end (results_none rfl _ _ _) rfl ?_) | skip
       exact ⟨rfl, hF1.out, HZ2⟩
    ·by_cases k4 : s < md
     ·have t1 : decide (s < m) = false := decide_eq_false (by omega);have t2 : decide (m < en) = true := decide_eq_true (by omega);have t3 : decide (a < s) = true := decide_eq_true (by omega);have t4 : decide (s < md) = true := decide_eq_true (by omega);have t5 : decide (md < en) = false := decide_eq_false (by omega);have t6 : decide (en < b) = true := decide_eq_true (by omega);have hB1 : Hid (HBlk E wr g (P ++ (X.take (s - a) ++ Y.take (md - s)) ++ (X.drop (s - a) ++ Y.drop (md - s)) ++ S)) := Hq (by
       have h9 := hBk.out;have hh := H.out;rw [show s - a = X.length by omega, List.take_length, List.drop_length, List.nil_append];have e : Y.take (md - s) ++ Y.drop (md - s) = Y := List.take_append_drop _ _;rw [← e] at h9; simp only [List.append_assoc] at h9 ⊢; exact h9)
      clear hBk;have hL1 := HL.out s wr (by omega) (by omega) (by omega) hvY hF.out hB1.out;clear hB1;go_wp2_with fail;refine hL1.mono ?_;rintro e w2 ⟨rfl, hf2, hB2⟩;have hF2 := Hq hf2;clear hL1 hf2 hF;obtain ⟨Z1, zb, zp, za⟩ := hB2.out;have zl : Z1.length = md - a := by have := zp.length_eq; rw [List.length_append, List.length_take, List.length_take] at this; have := H.out; omega
      have HZ := sym_join zp (List.Perm.refl _) za (by
        have hh := H.out;rw [show s - a = X.length by omega, List.drop_length, List.nil_append]; exact hh.2.2.2.2.1.sublist (List.drop_sublist _ _)) hcut.out
      have HZ2 : Hid (∃ Z, HBlk E w2 g (P ++ Z ++ S) ∧ Z.Perm (X ++ Y) ∧ Asc key Z) := Hq ⟨_, by rw [← List.append_assoc P]; exact zb, HZ.1, HZ.2⟩;clear zb zp za zl hB2 HZ;go_wp2;(try simp only [Exit.inBlock, Exit.then])
      first | (refine bodyPost_ret (results_none rfl _ _ _) rfl ?_) | (refine bodyPost_end (results_none rfl _ _ _) rfl ?_) | skip
      exact ⟨rfl, hF2.out, HZ2⟩
     ·have t1 : decide (s < m) = false := decide_eq_false (by omega);have t2 : decide (m < en) = false := decide_eq_false (by omega);have t3 : decide (a < s) = true := decide_eq_true (by omega);have t4 : decide (s < md) = false := decide_eq_false (by omega);have t5 : decide (md < en) = false := decide_eq_false (by omega);have t6 : decide (en < b) = true := decide_eq_true (by omega);have hB1 : Hid (HBlk E wr g (P ++ (X.take (s - a) ++ Y.take (md - s)) ++ (X.drop (s - a) ++ Y.drop (md - s)) ++ S)) := Hq (by
       have h9 := hBk.out;have hh := H.out;rw [show s - a = X.length by omega, List.take_length, List.drop_length, List.nil_append];have e : Y.take (md - s) ++ Y.drop (md - s) = Y := List.take_append_drop _ _;rw [← e] at h9; simp only [List.append_assoc] at h9 ⊢; exact h9)
      clear hBk;have hB2 : Hid (∃ Z1, HBlk E wr g (P ++ Z1 ++ (X.drop (s - a) ++ Y.drop (md - s)) ++ S) ∧ Z1.Perm (X.take (s - a) ++ Y.take (md - s)) ∧ Asc key Z1) := Hq ⟨_, hB1.out, List.Perm.refl _, by
       have hh := H.out;rw [show md - s = 0 by omega, List.take_zero, List.append_nil]; exact hh.2.2.2.1.sublist (List.take_sublist _ _)⟩
      clear hB1;obtain ⟨Z1, zb, zp, za⟩ := hB2.out;have zl : Z1.length = md - a := by have := zp.length_eq; rw [List.length_append, List.length_take, List.length_take] at this; have := H.out; omega
      have HZ := sym_join zp (List.Perm.refl _) za (by
        have hh := H.out;rw [show s - a = X.length by omega, List.drop_length, List.nil_append]; exact hh.2.2.2.2.1.sublist (List.drop_sublist _ _)) hcut.out
      have HZ2 : Hid (∃ Z, HBlk E wr g (P ++ Z ++ S) ∧ Z.Perm (X ++ Y) ∧ Asc key Z) := Hq ⟨_, by rw [← List.append_assoc P]; exact zb, HZ.1, HZ.2⟩;clear zb zp za zl hB2 HZ;go_wp2;(try simp only [Exit.inBlock, Exit.then])
      first | (refine bodyPost_ret (results_none rfl _ _ _) rfl ?_) | (refine bodyPost_end (results_none rfl _ _ _) rfl ?_) | skip
      exact ⟨rfl, hF.out, HZ2⟩
end Go.Proofs.YtkkkhonjcbhelaaGreatDoor
