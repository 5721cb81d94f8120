import Derived.Test.YtkkkhonjcbhelaaGreatDoorPackO
import Derived.Test.YtkkkhonjcbhelaaGreatDoorProg
namespace Go.Proofs.YtkkkhonjcbhelaaGreatDoor
section
open Go.RowKit
namespace PK
def Blk (w : World) (g : Nat) (L : List Nat) : Prop := w.heap[g]? = some (.cells (nums L) 3 (0, 0))
theorem Blk.cell {w : World} {g i x : Nat} {L : List Nat} (h : Blk w g L) (hi : L[i]? = some x) : w.cell? ⟨g, i, none⟩ = some (.int .i64 (x : Int)) := cell_blk h (nums_get hi)
theorem Blk.frozen {w : World} {g i : Nat} {L : List Nat} (h : Blk w g L) : w.frozen? ⟨g, i, none⟩ = false := frozen_blk h
theorem Blk.put {w : World} {g i : Nat} {L : List Nat} (h : Blk w g L) (x : Nat) : Blk (w.setCell ⟨g, i, none⟩ (.int .i64 (x : Int))) g (L.set i x) := by
 have := blk_put (i := i) (.int .i64 (x : Int)) h;rw [nums_set] at this;exact this
theorem Blk.lt {w : World} {g : Nat} {L : List Nat} (h : Blk w g L) : g < w.heap.size := blk_lt h
theorem Blk.cell2 {w : World} {g i j x : Nat} {L : List Nat} (h : Blk w g L) (hi : L[j]? = some x) (y : Nat) : ∃ u, (w.setCell ⟨g, i, none⟩ (.int .i64 (y : Int))).cell? ⟨g, j, none⟩ = some u := by
 have hj := (List.getElem?_eq_some_iff.1 hi).1;obtain ⟨z, hz⟩ := get_of_lt (L := L.set i y) (k := j) (by rw [List.length_set]; exact hj);exact ⟨_, (h.put y).cell hz⟩
end PK
open PK
set_option maxRecDepth 100000 in
set_option maxHeartbeats 2000000 in
theorem swaprange_any (g N a b n : Nat) (P X M Y S : List Nat) (fv : Value) (w : World) (hX : X.length = n) (hY : Y.length = n) (ha : P.length = a) (hb : P.length + X.length + M.length = b) (hN : P.length + X.length + M.length + Y.length + S.length = N) (hNl : N ≤ 1000000) (hB : Blk w g (P ++ X ++ M ++ Y ++ S)) :
  Calls Tryz.prog 114 #[.slice (some ⟨g, 0, none⟩) N N, .int .i64 (a : Nat), .int .i64 (b : Nat), .int .i64 (n : Nat), fv] w fun e w' => e = .returned (.tuple #[]) ∧ Foot (· = g) w w' ∧ Blk w' g (P ++ Y ++ M ++ X ++ S) := by
 have H := Hq (Ai hX (Ai hY (Ai ha (Ai hb hN))));have hab : a + n ≤ N := by omega
 have hbn : b + n ≤ N := by omega
 have hB0 : Blk w g (swapSt P X M Y S 0) := by rw [swapSt_zero]; exact hB
 have HB := Hq hB0;have HF := Hq (Foot.refl (· = g) w);clear hX hY ha hb hN hB hB0;go_enter Tryz.func114, Tryz.ntmps114;go_wp2;go_loopw [10] (fun i wr => ∃ k : Nat, i = .int .i64 k ∧ k ≤ n ∧ Hid (Foot (· = g) w wr) ∧ Hid (Blk wr g (swapSt P X M Y S k))) (fun i _ => n - (intOf i).toNat)
 case atStart => exact ⟨0, rfl, by omega, HF, HB⟩
 case round =>
  clear HB HF;obtain ⟨k, rfl, hk, hF, hBk⟩ := hrel;by_cases hlt : k < n
  ·obtain ⟨x, hx⟩ := get_of_lt (L := X) (k := k) (by rw [H.out.1]; exact hlt);obtain ⟨y, hy⟩ := get_of_lt (L := Y) (k := k) (by rw [H.out.2.1]; exact hlt);obtain ⟨ia, hia⟩ := nx (a + k);obtain ⟨ib, hib⟩ := nx (b + k);obtain ⟨s1, s2, s3⟩ := swapSt_step (P := P) (M := M) (S := S) (a := ia) (b := ib) hx hy (by have := H.out; omega) (by have := H.out; omega);have c1 := hBk.out.cell s1;have c2 := hBk.out.cell s2;have z1 : wr.frozen? ⟨g, ia, none⟩ = false := hBk.out.frozen;have z2 : wr.frozen? ⟨g, ib, none⟩ = false := hBk.out.frozen;obtain ⟨u, c3⟩ := hBk.out.cell2 (i := ia) s2 y;have N1 : Hid (Blk ((wr.setCell ⟨g, ia, none⟩ (.int .i64 (y : Int))).setCell ⟨g, ib, none⟩ (.int .i64 (x : Int))) g (swapSt P X M Y S (k + 1))) := Hq (by rw [← s3]; exact (hBk.out.put y).put x);have N2 : Hid (Foot (· = g) w ((wr.setCell ⟨g, ia, none⟩ (.int .i64 (y : Int))).setCell ⟨g, ib, none⟩ (.int .i64 (x : Int)))) := Hq ((hF.out.setCell (p := ⟨g, ia, none⟩) (.inl rfl) _).setCell (p := ⟨g, ib, none⟩) (.inl rfl) _);have ea : ((a : Int) + (k : Int)).toNat = ia := (by omega);have eb : ((b : Int) + (k : Int)).toNat = ib := (by omega);have p1 : (0 : Int) ≤ (a : Int) + (k : Int) := (by omega);have p2 : (a : Int) + (k : Int) < (N : Int) := (by omega);have p3 : (0 : Int) ≤ (b : Int) + (k : Int) := (by omega);have p4 : (b : Int) + (k : Int) < (N : Int) := (by omega);have t1 : decide (k < n) = true := by simpa using hlt
   clear s1 s2 s3 hx hy hia hib hBk hF;go_wp2_with fail;go_region;clear c1 c2 c3 z1 z2;have N1' : Hid (Blk ((wr.setCell ⟨g, ia, none⟩ (.int .i64 (y : Int))).setCell ⟨g, ib, none⟩ (.int .i64 (x : Int))).drew g (swapSt P X M Y S (k + 1))) := N1;have N2' : Hid (Foot (· = g) w ((wr.setCell ⟨g, ia, none⟩ (.int .i64 (y : Int))).setCell ⟨g, ib, none⟩ (.int .i64 (x : Int))).drew) := Hq N2.out.drew;clear N1 N2;generalize ((wr.setCell ⟨g, ia, none⟩ (.int .i64 (y : Int))).setCell ⟨g, ib, none⟩ (.int .i64 (x : Int))).drew = W at N1' N2' ⊢;go_wp2
   go_roundw
   case rel => exact ⟨k + 1, by go_num, by omega, N2', N1'⟩
   case measure => simp [intOf]; omega
  ·obtain rfl : k = n := by omega
   clear hlt;go_wp2
   go_end0
   refine ⟨rfl, hF.out, ?_⟩;have := hBk.out;rw [← H.out.2.1, swapSt_all (by rw [H.out.1, H.out.2.1])] at this;exact this
set_option maxRecDepth 100000 in
set_option maxHeartbeats 2000000 in
theorem rotate_any (g N a m b : Nat) (P X Y S : List Nat) (fv : Value) (w : World) (hX : 0 < X.length) (hY : 0 < Y.length) (ha : P.length = a) (hm : P.length + X.length = m) (hb : P.length + X.length + Y.length = b) (hN : P.length + X.length + Y.length + S.length = N) (hNl : N ≤ 1000000) (hB : Blk w g (P ++ X ++ Y ++ S)) :
  Calls Tryz.prog 100 #[.slice (some ⟨g, 0, none⟩) N N, .int .i64 (a : Nat), .int .i64 (m : Nat), .int .i64 (b : Nat), fv] w fun e w' => e = .returned (.tuple #[]) ∧ Foot (· = g) w w' ∧ Blk w' g (P ++ Y ++ X ++ S) := by
 obtain ⟨T, hT⟩ := nx (P ++ Y ++ X ++ S);rw [← hT];have HST : Hid (∃ P' X' Y' S' : List Nat, Blk w g (P' ++ X' ++ Y' ++ S') ∧ P'.length + X'.length = m ∧ X'.length = m - a ∧ Y'.length = b - m ∧ m + Y'.length + S'.length = N ∧ P' ++ Y' ++ X' ++ S' = T) := Hq ⟨P, X, Y, S, hB, hm, by omega, by omega, by omega, hT.symm⟩;have hma : a < m := by omega
 have hmb : m < b := by omega
 have hbN : b ≤ N := by omega
 have e1 : (m : Int) - (a : Int) = ((m - a : Nat) : Int) := by omega
 have e2 : (b : Int) - (m : Int) = ((b - m : Nat) : Int) := by omega
 obtain ⟨i0, hi0⟩ := nx (m - a);obtain ⟨j0, hj0⟩ := nx (b - m);rw [← hi0] at e1 HST;rw [← hj0] at e2 HST;have q1 : 0 < i0 := by omega
 have q2 : 0 < j0 := by omega
 have q3 : i0 ≤ m := by omega
 have q4 : m + j0 ≤ N := by omega
 have HF := Hq (Foot.refl (· = g) w);have HS := Hq (fun (a b n : Nat) P X M Y S W => swaprange_any g N a b n P X M Y S fv W);clear hT hX hY ha hm hb hN hB hi0 hj0 hma hmb hbN;go_enter Tryz.func100, Tryz.ntmps100;go_wp2;go_loopw [10, 11] (fun vi vj wr => ∃ i j : Nat, vi = .int .i64 i ∧ vj = .int .i64 j ∧ 0 < i ∧ 0 < j ∧ i ≤ m ∧ m + j ≤ N ∧ Hid (Foot (· = g) w wr) ∧ Hid (∃ P' X' Y' S' : List Nat, Blk wr g (P' ++ X' ++ Y' ++ S') ∧ P'.length + X'.length = m ∧ X'.length = i ∧ Y'.length = j ∧ m + Y'.length + S'.length = N ∧ P' ++ Y' ++ X' ++ S' = T)) (fun vi vj _ => (intOf vi).toNat + (intOf vj).toNat)
 case atStart => exact ⟨i0, j0, by go_num, by go_num, q1, q2, q3, q4, HF, HST⟩
 case round =>
  clear HF HST;obtain ⟨i, j, rfl, rfl, hi, hj, him, hjm, hF, hS⟩ := hrel;have r1 : (m : Int) - (i : Int) = ((m - i : Nat) : Int) := by omega
  rcases Nat.lt_trichotomy i j with hij | hij | hij
  ·have r2 : (m : Int) + (j : Int) - (i : Int) = ((m + j - i : Nat) : Int) := (by omega);have r3 : (j : Int) - (i : Int) = ((j - i : Nat) : Int) := (by omega);obtain ⟨mi, hmi⟩ := nx (m - i);obtain ⟨mj, hmj⟩ := nx (m + j - i);obtain ⟨ji, hji⟩ := nx (j - i);rw [← hmi] at r1;rw [← hmj] at r2;rw [← hji] at r3;have hC : Hid (Calls Tryz.prog 114 #[.slice (some ⟨g, 0, none⟩) N N, .int .i64 (mi : Nat), .int .i64 (mj : Nat), .int .i64 (i : Nat), fv] wr fun e w' => e = .returned (.tuple #[]) ∧ Foot (· = g) wr w' ∧ Hid (∃ P' X' Y' S' : List Nat, Blk w' g (P' ++ X' ++ Y' ++ S') ∧ P'.length + X'.length = m ∧ X'.length = i ∧ Y'.length = ji ∧ m + Y'.length + S'.length = N ∧ P' ++ Y' ++ X' ++ S' = T)) := Hq (by
    obtain ⟨P', X', Y', S', h1, h2, h3, h4, h5, h6⟩ := hS.out;have hy : Y'.take ji ++ Y'.drop ji = Y' := List.take_append_drop _ _;have l1 : (Y'.take ji).length = ji := by rw [List.length_take]; omega
    have l2 : (Y'.drop ji).length = i := by rw [List.length_drop]; omega
    refine (HS.out mi mj i P' X' (Y'.take ji) (Y'.drop ji) S' wr h3 l2 (by omega) (by omega) (by omega) hNl (by rw [List.append_assoc (P' ++ X'), hy]; exact h1)).mono ?_;rintro e w' ⟨he, hf, hb⟩;refine ⟨he, hf, Hq ⟨P', Y'.drop ji, Y'.take ji, X' ++ S', by simpa using hb, by omega, l2, l1, by rw [List.length_append]; omega, ?_⟩⟩;rw [← h6, List.append_assoc P' (Y'.take ji), hy]; simp)
   clear hS hmi hmj;have t1 : decide ((j : Int) < (i : Int)) = false := decide_eq_false (by omega);have t2 : ((i : Int) == (j : Int)) = false := beq_eq_false_iff_ne.2 (by omega);go_wp2_with (go_at_call 114; refine hC.out.mono ?_; rintro e w1 ⟨rfl, hf1, hs1⟩)
   go_roundw
   case rel => exact ⟨i, ji, rfl, by go_num, by omega, by omega, by omega, by omega, Hq (hF.out.trans hf1 fun _ h => .inl h), hs1⟩
   case measure => simp [intOf]; omega
  ·subst hij;have hC : Hid (Calls Tryz.prog 114 #[.slice (some ⟨g, 0, none⟩) N N, .int .i64 ((m - i : Nat) : Int), .int .i64 (m : Nat), .int .i64 (i : Nat), fv] wr fun e w' => e = .returned (.tuple #[]) ∧ Foot (· = g) wr w' ∧ Blk w' g T) := Hq (by
    obtain ⟨P', X', Y', S', h1, h2, h3, h4, h5, h6⟩ := hS.out;refine (HS.out (m - i) m i P' X' [] Y' S' wr h3 h4 (by omega) (by simp; omega) (by simp; omega) hNl (by simpa using h1)).mono ?_;rintro e w' ⟨he, hf, hb⟩;exact ⟨he, hf, by rw [← h6]; simpa using hb⟩)
   obtain ⟨mi, hmi⟩ := nx (m - i);rw [← hmi] at hC r1;clear hS hmi;go_wp2_with (go_at_call 114; refine hC.out.mono ?_; rintro e w1 ⟨rfl, hf1, hs1⟩)
   go_end0
   exact ⟨rfl, hF.out.trans hf1 fun _ h => .inl h, hs1⟩
  ·have r3 : (i : Int) - (j : Int) = ((i - j : Nat) : Int) := (by omega);obtain ⟨mi, hmi⟩ := nx (m - i);obtain ⟨ji, hji⟩ := nx (i - j);rw [← hmi] at r1;rw [← hji] at r3;have hC : Hid (Calls Tryz.prog 114 #[.slice (some ⟨g, 0, none⟩) N N, .int .i64 (mi : Nat), .int .i64 (m : Nat), .int .i64 (j : Nat), fv] wr fun e w' => e = .returned (.tuple #[]) ∧ Foot (· = g) wr w' ∧ Hid (∃ P' X' Y' S' : List Nat, Blk w' g (P' ++ X' ++ Y' ++ S') ∧ P'.length + X'.length = m ∧ X'.length = ji ∧ Y'.length = j ∧ m + Y'.length + S'.length = N ∧ P' ++ Y' ++ X' ++ S' = T)) := Hq (by
    obtain ⟨P', X', Y', S', h1, h2, h3, h4, h5, h6⟩ := hS.out;have hx : X'.take j ++ X'.drop j = X' := List.take_append_drop _ _;have l1 : (X'.take j).length = j := by rw [List.length_take]; omega
    have l2 : (X'.drop j).length = ji := by rw [List.length_drop]; omega
    refine (HS.out mi m j P' (X'.take j) (X'.drop j) Y' S' wr l1 h4 (by omega) (by omega) (by omega) hNl (by rw [List.append_assoc P', hx]; exact h1)).mono ?_;rintro e w' ⟨he, hf, hb⟩;refine ⟨he, hf, Hq ⟨P' ++ Y', X'.drop j, X'.take j, S', hb, by rw [List.length_append]; omega, l2, l1, by omega, ?_⟩⟩;rw [← h6]
    conv => rhs; rw [← hx]
    simp)
   clear hS hmi;have t1 : decide ((j : Int) < (i : Int)) = true := decide_eq_true (by omega);have t2 : ((i : Int) == (j : Int)) = false := beq_eq_false_iff_ne.2 (by omega);go_wp2_with (go_at_call 114; refine hC.out.mono ?_; rintro e w1 ⟨rfl, hf1, hs1⟩)
   go_roundw
   case rel => exact ⟨ji, j, by go_num, rfl, by omega, by omega, by omega, by omega, Hq (hF.out.trans hf1 fun _ h => .inl h), hs1⟩
   case measure => simp [intOf]; omega
end
section
open Go.RowKit
namespace PK
theorem Blk.drewN {w : World} {g : Nat} {L : List Nat} (h : Blk w g L) (n : Nat) : Blk (w.drewN n) g L := h
def Cmp (g n : Nat) (v0 : Value) (cv : Nat → Nat → Int) (w0 : World) : Prop :=
 ∀ W, Foot (· = g) w0 W → ∀ x y, x < n → y < n → Calls Tryz.prog 69 #[.int .i64 (x : Nat), .int .i64 (y : Nat), v0] W fun e w' => e = .returned (.int .i64 (cv x y)) ∧ ∃ q, w' = W.drewN q
def ltC (cv : Nat → Nat → Int) (x y : Nat) : Bool := decide (cv x y < 0)
theorem get_pre {P X S : List Nat} {k i : Nat} (h : i = P.length + k) (hk : k < X.length) : (P ++ X ++ S)[i]? = X[k]? := by
 subst h;rw [List.append_assoc, List.getElem?_append_right (by omega), Nat.add_sub_cancel_left, List.getElem?_append_left hk]
theorem Cmp.at_ {g n : Nat} {v0 : Value} {cv : Nat → Nat → Int} {w0 w W : World} (h : Cmp g n v0 cv w0) (h0 : Foot (· = g) w0 w) (hW : Foot (· = g) w W) {x y : Nat} (hx : x < n) (hy : y < n) (q : Nat) :
  Calls Tryz.prog 69 #[.int .i64 (x : Nat), .int .i64 (y : Nat), v0] (W.drewN q) fun e w' => e = .returned (.int .i64 (cv x y)) ∧ ∃ m, w' = W.drewN m :=
 Calls.quiet_of (h _ ((h0.trans hW fun _ h => .inl h).drewN q) x y hx hy)
theorem mem_of_get {L : List Nat} {i x : Nat} (h : L[i]? = some x) : x ∈ L := List.mem_of_getElem? h
end PK
open PK
set_option maxRecDepth 100000 in
set_option maxHeartbeats 2000000 in
theorem sym_left (key : Nat → Nat) (g N n a m b : Nat) (v0 : Value) (cv : Nat → Nat → Int) (w0 : World) (P Y S : List Nat) (x : Nat) (w : World) (hC : Cmp g n v0 cv w0) (hF0 : Foot (· = g) w0 w) (hx : x < n) (hYn : ∀ y ∈ Y, y < n)
  (hr : Rel key (ltC cv) [x] Y) (hY : Asc key Y) (ha : P.length = a) (hm : P.length + 1 = m) (hb : P.length + 1 + Y.length = b) (hN : P.length + 1 + Y.length + S.length = N) (hNl : N ≤ 1000000) (hB : Blk w g (P ++ [x] ++ Y ++ S)) :
  Calls Tryz.prog 85 #[.slice (some ⟨g, 0, none⟩) N N, .int .i64 (a : Nat), .int .i64 (m : Nat), .int .i64 (b : Nat), .func (.func 69) #[] #[v0]] w fun e w' =>
   e = .returned (.tuple #[]) ∧ Foot (· = g) w w' ∧ Hid (∃ Z, Blk w' g (P ++ Z ++ S) ∧ Z.Perm ([x] ++ Y) ∧ Asc key Z) := by
 have H := Hq (Ai hC (Ai hF0 (Ai hx (Ai hYn (Ai hr (Ai hY (Ai ha (Ai hm (Ai hb hN)))))))));have HB := Hq hB;have HF := Hq (Foot.refl (· = g) w);have hma : m = a + 1 := by omega
 have hmb : m ≤ b := by omega
 have hNb : b ≤ N := by omega
 have t0 : ((m : Int) - (a : Int) == 1) = true := beq_iff_eq.2 (by omega);clear hC hF0 hx hYn hr hY ha hm hb hN hB;have Hma := Hq hma;have hma2 : a < m := by omega
 clear hma;go_enter Tryz.func85, Tryz.ntmps85;go_wp2;go_loopw [10, 11] (fun vi vj wr => ∃ i j : Nat, vi = .int .i64 (i : Nat) ∧ vj = .int .i64 (j : Nat) ∧ m ≤ i ∧ i ≤ j ∧ j ≤ b ∧ Hid (Foot (· = g) w wr) ∧ Hid (Blk wr g (P ++ [x] ++ Y ++ S)) ∧ Hid ((i = m ∨ ∀ y, Y[i - m - 1]? = some y → key y ≤ key x) ∧ (j = b ∨ ∀ y, Y[j - m]? = some y → key x ≤ key y))) (fun vi vj _ => (intOf vj).toNat - (intOf vi).toNat)
 case atStart => exact ⟨m, b, rfl, rfl, Nat.le_refl _, hmb, Nat.le_refl _, HF, HB, Hq ⟨.inl rfl, .inl rfl⟩⟩
 case round =>
  clear HB HF;obtain ⟨i, j, rfl, rfl, hmi, hij, hjb, hF, hBk, hI⟩ := hrel;by_cases hlt : i < j
  ·obtain ⟨h, hh⟩ := nx ((i + j) / 2);have em : ((i : Int) + (j : Int)) / 2 = (h : Int) := (by omega);have h1 : i ≤ h := (by omega);have h2 : h < j := (by omega);have h3 : h < b := (by omega);obtain ⟨y, hy⟩ := get_of_lt (L := Y) (k := h - m) (by have := H.out; omega);have hLy : (P ++ [x] ++ Y ++ S)[h]? = some y := by
    rw [get_pre (P := P ++ [x]) (k := h - m) (by have := H.out.2.2.2.2.2.2.2.1; simp; omega) (lt_of_get hy)]; exact hy
   have hLx : (P ++ [x] ++ Y ++ S)[a]? = some x := by
    rw [show a = P.length from H.out.2.2.2.2.2.2.1.symm]; simp
   have c1 := hBk.out.cell hLy;have c2 := hBk.out.cell hLx;have hc := fun q => H.out.1.at_ H.out.2.1 hF.out (H.out.2.2.2.1 y (mem_of_get hy)) H.out.2.2.1 q
   have hrel := H.out.2.2.2.2.1 x (by simp) y (mem_of_get hy);have j1 : (h : Int) < (N : Int) := (by omega);have j2 : (a : Int) < (N : Int) := (by omega);have t1 : decide ((i : Int) < (j : Int)) = true := decide_eq_true (by omega);clear hh;clear hLx hLy;go_wp2_with fail;(try simp only [em]);clear em
   cases hd : decide (cv y x < 0) with
   | true =>
    have hk : key y ≤ key x := by unfold ltC at hrel; rw [hd] at hrel; have := of_decide_eq_true hrel.symm; omega
    have HK := Hq (show ∀ y', Y[h + 1 - m - 1]? = some y' → key y' ≤ key x by
     intro y' hy';rw [show h + 1 - m - 1 = h - m by omega, hy] at hy'; cases hy'; exact hk)
    clear hrel hy hk;go_quiet (first | (go_at_call 69; exact hc _));have hF1 : Hid (Foot (· = g) w (wr.drewN nq)) := Hq (hF.out.drewN nq);have hB1 : Hid (Blk (wr.drewN nq) g (P ++ [x] ++ Y ++ S)) := Hq (hBk.out.drewN nq);clear c1 c2 hc hd hF hBk;generalize wr.drewN nq = W at hF1 hB1 ⊢;go_wp2
    go_roundw
    case rel => exact ⟨h + 1, j, by go_num, rfl, by omega, by omega, hjb, hF1, hB1, Hq ⟨.inr HK.out, hI.out.2⟩⟩
    case measure => simp [intOf]; omega
   | false =>
    have hk : key x ≤ key y := by unfold ltC at hrel; rw [hd] at hrel; have := of_decide_eq_false hrel.symm; omega
    have HK := Hq (show ∀ y', Y[h - m]? = some y' → key x ≤ key y' by
     intro y' hy';rw [hy] at hy'; cases hy'; exact hk)
    clear hrel hy hk;go_quiet (first | (go_at_call 69; exact hc _));have hF1 : Hid (Foot (· = g) w (wr.drewN nq)) := Hq (hF.out.drewN nq);have hB1 : Hid (Blk (wr.drewN nq) g (P ++ [x] ++ Y ++ S)) := Hq (hBk.out.drewN nq);clear c1 c2 hc hd hF hBk;generalize wr.drewN nq = W at hF1 hB1 ⊢;go_wp2
    go_roundw
    case rel => exact ⟨i, h, rfl, rfl, hmi, h1, by omega, hF1, hB1, Hq ⟨hI.out.1, .inr HK.out⟩⟩
    case measure => simp [intOf]; omega
  ·obtain rfl : i = j := by omega
   clear hlt hij;have HR : Hid (Asc key (Y.take (i - m) ++ x :: Y.drop (i - m))) := Hq (by
    have hy := H.out;refine asc_put hy.2.2.2.2.2.1 (by omega) ?_ ?_
    ·rcases hI.out.1 with e | e
     ·exact .inl (by omega)
     ·exact .inr e
    ·rcases hI.out.2 with e | e
     ·exact .inl (by omega)
     ·exact .inr e)
   clear hI;have hF0 := hF;have hB0 : Hid (Blk wr g (P ++ (Y.take (a - a) ++ x :: Y.drop (a - a)) ++ S)) := Hq (by have := hBk.out; simpa using this);clear hF hBk;go_wp2;go_loopw [13] (fun vk wr => ∃ k : Nat, vk = .int .i64 (k : Nat) ∧ a ≤ k ∧ k + 1 ≤ i ∧ Hid (Foot (· = g) w wr) ∧ Hid (Blk wr g (P ++ (Y.take (k - a) ++ x :: Y.drop (k - a)) ++ S))) (fun vk _ => i - (intOf vk).toNat)
   case atStart => exact ⟨a, rfl, Nat.le_refl _, by omega, hF0, hB0⟩
   case round =>
    clear hF0 hB0;obtain ⟨k, rfl, hak, hki, hF, hBk⟩ := hrel;by_cases hlt : k + 1 < i
    ·obtain ⟨y, hy⟩ := get_of_lt (L := Y) (k := k - a) (by have := H.out; have := Hma.out; omega);have hfm : P ++ (Y.take (k - a) ++ x :: Y.drop (k - a)) ++ S = (P ++ Y.take (k - a)) ++ x :: y :: (Y.drop (k - a + 1) ++ S) := by rw [drop_at hy]; simp
     have hlen : (P ++ Y.take (k - a)).length = k := by have := H.out; have := lt_of_get hy; rw [List.length_append, List.length_take]; omega
     have hnx : P ++ (Y.take (k + 1 - a) ++ x :: Y.drop (k + 1 - a)) ++ S = (P ++ Y.take (k - a)) ++ y :: x :: (Y.drop (k - a + 1) ++ S) := by
      rw [show k + 1 - a = k - a + 1 by omega, take_at hy]; simp
     obtain ⟨k1, hk1⟩ := nx (k + 1);have hBk' := hBk.out;rw [hfm] at hBk';obtain ⟨s1, s2, s3⟩ := next_st (x := x) (y := y) (C := Y.drop (k - a + 1) ++ S) hlen;rw [← hk1] at s2 s3;have c1 : wr.cell? ⟨g, k, none⟩ = some (.int .i64 (x : Int)) := hBk'.cell s1;have c2 : wr.cell? ⟨g, k1, none⟩ = some (.int .i64 (y : Int)) := hBk'.cell s2;have z1 : wr.frozen? ⟨g, k, none⟩ = false := hBk'.frozen;have z2 : wr.frozen? ⟨g, k1, none⟩ = false := hBk'.frozen;obtain ⟨u, c3⟩ := hBk'.cell2 (i := k) s2 y;have N1 : Hid (Blk ((wr.setCell ⟨g, k, none⟩ (.int .i64 (y : Int))).setCell ⟨g, k1, none⟩ (.int .i64 (x : Int))) g (P ++ (Y.take (k + 1 - a) ++ x :: Y.drop (k + 1 - a)) ++ S)) := Hq (by
      rw [hnx, ← s3]; exact (hBk'.put y).put x)
     have N2 : Hid (Foot (· = g) w ((wr.setCell ⟨g, k, none⟩ (.int .i64 (y : Int))).setCell ⟨g, k1, none⟩ (.int .i64 (x : Int)))) := Hq ((hF.out.setCell (p := ⟨g, k, none⟩) (.inl rfl) _).setCell (p := ⟨g, k1, none⟩) (.inl rfl) _);have ea : ((k : Int) + 1).toNat = k1 := (by omega);have p1 : (0 : Int) ≤ (k : Int) + 1 := (by omega);have p2 : (k : Int) + 1 < (N : Int) := (by omega);have p3 : (k : Int) < (N : Int) := (by omega);have t1 : decide ((k : Int) < (i : Int) - 1) = true := decide_eq_true (by omega);clear s1 s2 s3 hy hfm hlen hnx hk1 hBk' hBk hF;go_wp2_with fail;go_region;clear c1 c2 c3 z1 z2;have N1' : Hid (Blk ((wr.setCell ⟨g, k, none⟩ (.int .i64 (y : Int))).setCell ⟨g, k1, none⟩ (.int .i64 (x : Int))).drew g (P ++ (Y.take (k + 1 - a) ++ x :: Y.drop (k + 1 - a)) ++ S)) := N1;have N2' : Hid (Foot (· = g) w ((wr.setCell ⟨g, k, none⟩ (.int .i64 (y : Int))).setCell ⟨g, k1, none⟩ (.int .i64 (x : Int))).drew) := Hq N2.out.drew;clear N1 N2;generalize ((wr.setCell ⟨g, k, none⟩ (.int .i64 (y : Int))).setCell ⟨g, k1, none⟩ (.int .i64 (x : Int))).drew = W at N1' N2' ⊢;go_wp2
     go_roundw
     case rel => exact ⟨k + 1, by go_num, by omega, by omega, N2', N1'⟩
     case measure => simp [intOf]; omega
    ·have t1 : decide ((k : Int) < (i : Int) - 1) = false := decide_eq_false (by omega);have HZ : Hid (∃ Z, Blk wr g (P ++ Z ++ S) ∧ Z.Perm ([x] ++ Y) ∧ Asc key Z) := Hq ⟨_, hBk.out, by
      have e : Y.take (k - a) ++ Y.drop (k - a) = Y := List.take_append_drop _ _;have := (List.perm_middle (a := x) (l₁ := Y.take (k - a)) (l₂ := Y.drop (k - a)))
      rw [e] at this;exact this, by
      have e : k - a = i - m := by have := Hma.out; omega
      rw [e]; exact HR.out⟩
     clear hlt hBk HR;go_wp2;(try simp only [Exit.inBlock, Exit.then]);refine bodyPost_ret (results_none rfl _ _ _) rfl ?_;exact ⟨rfl, hF.out, HZ⟩
set_option maxRecDepth 100000 in
set_option maxHeartbeats 2000000 in
theorem sym_right (key : Nat → Nat) (g N n a m b : Nat) (v0 : Value) (cv : Nat → Nat → Int) (w0 : World) (P X S : List Nat) (y : Nat) (w : World) (hC : Cmp g n v0 cv w0) (hF0 : Foot (· = g) w0 w) (hy : y < n) (hXn : ∀ x ∈ X, x < n)
  (hr : Rel key (ltC cv) X [y]) (hX : Asc key X) (hX2 : 2 ≤ X.length) (ha : P.length = a) (hm : P.length + X.length = m) (hb : P.length + X.length + 1 = b) (hN : P.length + X.length + 1 + S.length = N) (hNl : N ≤ 1000000) (hB : Blk w g (P ++ X ++ [y] ++ S)) :
  Calls Tryz.prog 85 #[.slice (some ⟨g, 0, none⟩) N N, .int .i64 (a : Nat), .int .i64 (m : Nat), .int .i64 (b : Nat), .func (.func 69) #[] #[v0]] w fun e w' =>
   e = .returned (.tuple #[]) ∧ Foot (· = g) w w' ∧ Hid (∃ Z, Blk w' g (P ++ Z ++ S) ∧ Z.Perm (X ++ [y]) ∧ Asc key Z) := by
 have H := Hq (Ai hC (Ai hF0 (Ai hy (Ai hXn (Ai hr (Ai hX (Ai ha (Ai hm (Ai hb hN)))))))));have HB := Hq hB;have HF := Hq (Foot.refl (· = g) w);have hma : a + 2 ≤ m := by omega
 have hmb : m < b := by omega
 have hNb : b ≤ N := by omega
 have t0 : ((m : Int) - (a : Int) == 1) = false := beq_eq_false_iff_ne.2 (by omega);have t0' : ((b : Int) - (m : Int) == 1) = true := beq_iff_eq.2 (by omega);clear hC hF0 hy hXn hr hX ha hm hb hN hB hX2;go_enter Tryz.func85, Tryz.ntmps85;go_wp2;go_loopw [14, 15] (fun vi vj wr => ∃ i j : Nat, vi = .int .i64 (i : Nat) ∧ vj = .int .i64 (j : Nat) ∧ a ≤ i ∧ i ≤ j ∧ j ≤ m ∧ Hid (Foot (· = g) w wr) ∧ Hid (Blk wr g (P ++ X ++ [y] ++ S)) ∧ Hid ((i = a ∨ ∀ x, X[i - a - 1]? = some x → key x ≤ key y) ∧ (j = m ∨ ∀ x, X[j - a]? = some x → key y ≤ key x))) (fun vi vj _ => (intOf vj).toNat - (intOf vi).toNat)
 case atStart => exact ⟨a, m, rfl, rfl, Nat.le_refl _, by omega, Nat.le_refl _, HF, HB, Hq ⟨.inl rfl, .inl rfl⟩⟩
 case round =>
  clear HB HF;obtain ⟨i, j, rfl, rfl, hai, hij, hjm, hF, hBk, hI⟩ := hrel;by_cases hlt : i < j
  ·obtain ⟨h, hh⟩ := nx ((i + j) / 2);have em : ((i : Int) + (j : Int)) / 2 = (h : Int) := (by omega);have h1 : i ≤ h := (by omega);have h2 : h < j := (by omega);have h3 : h < b := (by omega);obtain ⟨x, hx⟩ := get_of_lt (L := X) (k := h - a) (by have := H.out; omega);have hLx : (P ++ X ++ [y] ++ S)[h]? = some x := by
    rw [List.append_assoc (P ++ X), get_pre (P := P) (k := h - a) (by have := H.out; omega) (lt_of_get hx)]; exact hx
   have hLy : (P ++ X ++ [y] ++ S)[m]? = some y := by
    rw [get_pre (P := P ++ X) (k := 0) (by have := H.out; simp; omega) (by simp)]; rfl
   have c1 := hBk.out.cell hLx;have c2 := hBk.out.cell hLy;have hc := fun q => H.out.1.at_ H.out.2.1 hF.out H.out.2.2.1 (H.out.2.2.2.1 x (mem_of_get hx)) q
   have hrel := H.out.2.2.2.2.1 x (mem_of_get hx) y (by simp);have j1 : (h : Int) < (N : Int) := (by omega);have j2 : (m : Int) < (N : Int) := (by omega);have t1 : decide ((i : Int) < (j : Int)) = true := decide_eq_true (by omega);clear hh;clear hLx hLy;go_wp2_with fail;(try simp only [em]);clear em
   cases hd : decide (cv y x < 0) with
   | true =>
    have hk : key y ≤ key x := by unfold ltC at hrel; rw [hd] at hrel; have := of_decide_eq_true hrel.symm; omega
    have HK := Hq (show ∀ x', X[h - a]? = some x' → key y ≤ key x' by
     intro x' hx';rw [hx] at hx'; cases hx'; exact hk)
    clear hrel hx hk;go_quiet (first | (go_at_call 69; exact hc _));have hF1 : Hid (Foot (· = g) w (wr.drewN nq)) := Hq (hF.out.drewN nq);have hB1 : Hid (Blk (wr.drewN nq) g (P ++ X ++ [y] ++ S)) := Hq (hBk.out.drewN nq);clear c1 c2 hc hd hF hBk;generalize wr.drewN nq = W at hF1 hB1 ⊢;go_wp2
    go_roundw
    case rel => exact ⟨i, h, rfl, rfl, hai, h1, by omega, hF1, hB1, Hq ⟨hI.out.1, .inr HK.out⟩⟩
    case measure => simp [intOf]; omega
   | false =>
    have hk : key x ≤ key y := by unfold ltC at hrel; rw [hd] at hrel; have := of_decide_eq_false hrel.symm; omega
    have HK := Hq (show ∀ x', X[h + 1 - a - 1]? = some x' → key x' ≤ key y by
     intro x' hx';rw [show h + 1 - a - 1 = h - a by omega, hx] at hx'; cases hx'; exact hk)
    clear hrel hx hk;go_quiet (first | (go_at_call 69; exact hc _));have hF1 : Hid (Foot (· = g) w (wr.drewN nq)) := Hq (hF.out.drewN nq);have hB1 : Hid (Blk (wr.drewN nq) g (P ++ X ++ [y] ++ S)) := Hq (hBk.out.drewN nq);clear c1 c2 hc hd hF hBk;generalize wr.drewN nq = W at hF1 hB1 ⊢;go_wp2
    go_roundw
    case rel => exact ⟨h + 1, j, by go_num, rfl, by omega, by omega, hjm, hF1, hB1, Hq ⟨.inr HK.out, hI.out.2⟩⟩
    case measure => simp [intOf]; omega
  ·obtain rfl : i = j := by omega
   clear hlt hij;have HR : Hid (Asc key (X.take (i - a) ++ y :: X.drop (i - a))) := Hq (by
    have hy := H.out;refine asc_put hy.2.2.2.2.2.1 (by omega) ?_ ?_
    ·rcases hI.out.1 with e | e
     ·exact .inl (by omega)
     ·exact .inr e
    ·rcases hI.out.2 with e | e
     ·exact .inl (by omega)
     ·exact .inr e)
   clear hI;have hF0 := hF;have hB0 : Hid (Blk wr g (P ++ (X.take (m - a) ++ y :: X.drop (m - a)) ++ S)) := Hq (by have := hBk.out; rw [show m - a = X.length by have := H.out; omega]; simpa using this);clear hF hBk;go_wp2;go_loopw [17] (fun vk wr => ∃ k : Nat, vk = .int .i64 (k : Nat) ∧ i ≤ k ∧ k ≤ m ∧ Hid (Foot (· = g) w wr) ∧ Hid (Blk wr g (P ++ (X.take (k - a) ++ y :: X.drop (k - a)) ++ S))) (fun vk _ => (intOf vk).toNat)
   case atStart => exact ⟨m, rfl, by omega, Nat.le_refl _, hF0, hB0⟩
   case round =>
    clear hF0 hB0;obtain ⟨k, rfl, hik, hkm, hF, hBk⟩ := hrel;by_cases hlt : i < k
    ·obtain ⟨kp, rfl⟩ : ∃ q, k = q + 1 := ⟨k - 1, by omega⟩
     obtain ⟨x, hx⟩ := get_of_lt (L := X) (k := kp - a) (by have := H.out; omega);have hfm : P ++ (X.take (kp + 1 - a) ++ y :: X.drop (kp + 1 - a)) ++ S = (P ++ X.take (kp - a)) ++ x :: y :: (X.drop (kp - a + 1) ++ S) := by
      rw [show kp + 1 - a = kp - a + 1 by omega, take_at hx]; simp
     have hlen : (P ++ X.take (kp - a)).length = kp := by have := H.out; have := lt_of_get hx; rw [List.length_append, List.length_take]; omega
     have hnx : P ++ (X.take (kp - a) ++ y :: X.drop (kp - a)) ++ S = (P ++ X.take (kp - a)) ++ y :: x :: (X.drop (kp - a + 1) ++ S) := by rw [drop_at hx]; simp
     obtain ⟨k1, hk1⟩ := nx (kp + 1);have hBk' := hBk.out;rw [hfm] at hBk';obtain ⟨s1, s2, _⟩ := next_st (x := x) (y := y) (C := X.drop (kp - a + 1) ++ S) hlen;have s3 := next_ts (x := x) (y := y) (C := X.drop (kp - a + 1) ++ S) hlen;rw [← hk1] at s2 s3;have c1 : wr.cell? ⟨g, kp, none⟩ = some (.int .i64 (x : Int)) := hBk'.cell s1;have c2 : wr.cell? ⟨g, k1, none⟩ = some (.int .i64 (y : Int)) := hBk'.cell s2;have z1 : wr.frozen? ⟨g, kp, none⟩ = false := hBk'.frozen;have z2 : wr.frozen? ⟨g, k1, none⟩ = false := hBk'.frozen;obtain ⟨u, c3⟩ := hBk'.cell2 (i := k1) s1 x;have N1 : Hid (Blk ((wr.setCell ⟨g, k1, none⟩ (.int .i64 (x : Int))).setCell ⟨g, kp, none⟩ (.int .i64 (y : Int))) g (P ++ (X.take (kp - a) ++ y :: X.drop (kp - a)) ++ S)) := Hq (by
      rw [hnx, ← s3]; exact (hBk'.put x).put y)
     have N2 : Hid (Foot (· = g) w ((wr.setCell ⟨g, k1, none⟩ (.int .i64 (x : Int))).setCell ⟨g, kp, none⟩ (.int .i64 (y : Int)))) := Hq ((hF.out.setCell (p := ⟨g, k1, none⟩) (.inl rfl) _).setCell (p := ⟨g, kp, none⟩) (.inl rfl) _);have ea : ((kp : Int) + 1).toNat = k1 := (by omega);have p1 : (0 : Int) ≤ (kp : Int) + 1 := (by omega);have p2 : (kp : Int) + 1 < (N : Int) := (by omega);have p3 : (kp : Int) < (N : Int) := (by omega);have t1 : decide ((i : Int) < (kp : Int) + 1) = true := decide_eq_true (by omega);clear s1 s2 s3 hx hfm hlen hnx hk1 hBk' hBk hF;go_wp2_with fail;go_region;clear c1 c2 c3 z1 z2;have N1' : Hid (Blk ((wr.setCell ⟨g, k1, none⟩ (.int .i64 (x : Int))).setCell ⟨g, kp, none⟩ (.int .i64 (y : Int))).drew g (P ++ (X.take (kp - a) ++ y :: X.drop (kp - a)) ++ S)) := N1;have N2' : Hid (Foot (· = g) w ((wr.setCell ⟨g, k1, none⟩ (.int .i64 (x : Int))).setCell ⟨g, kp, none⟩ (.int .i64 (y : Int))).drew) := Hq N2.out.drew;clear N1 N2;generalize ((wr.setCell ⟨g, k1, none⟩ (.int .i64 (x : Int))).setCell ⟨g, kp, none⟩ (.int .i64 (y : Int))).drew = W at N1' N2' ⊢;go_wp2
     go_roundw
     case rel => exact ⟨kp, by go_num, by omega, by omega, N2', N1'⟩
     case measure => simp [intOf]
    ·have t1 : decide (i < k) = false := decide_eq_false (by omega);have HZ : Hid (∃ Z, Blk wr g (P ++ Z ++ S) ∧ Z.Perm (X ++ [y]) ∧ Asc key Z) := Hq ⟨_, hBk.out, by
      have e : X.take (k - a) ++ X.drop (k - a) = X := List.take_append_drop _ _;have := (List.perm_middle (a := y) (l₁ := X.take (k - a)) (l₂ := X.drop (k - a)))
      rw [e] at this;exact this.trans (List.perm_append_comm (l₁ := [y]) (l₂ := X)), by
      have e : k = i := (by omega);rw [e]; exact HR.out⟩
     clear hlt hBk HR;go_wp2;(try simp only [Exit.inBlock, Exit.then]);refine bodyPost_ret (results_none rfl _ _ _) rfl ?_;exact ⟨rfl, hF.out, HZ⟩
end
section
open Go.RowKit
namespace PK
theorem sym_join {key : Nat → Nat} {X Y Z1 Z2 : List Nat} {u v : Nat} (h1 : Z1.Perm (X.take u ++ Y.take v)) (h2 : Z2.Perm (X.drop u ++ Y.drop v)) (a1 : Asc key Z1) (a2 : Asc key Z2)
  (hc : ∀ z ∈ X.take u ++ Y.take v, ∀ z' ∈ X.drop u ++ Y.drop v, key z ≤ key z') : (Z1 ++ Z2).Perm (X ++ Y) ∧ Asc key (Z1 ++ Z2) := by
 refine ⟨(h1.append h2).trans ?_, List.pairwise_append.2 ⟨a1, a2, fun z hz z' hz' => hc z (h1.mem_iff.1 hz) z' (h2.mem_iff.1 hz')⟩⟩;have e : X ++ Y = (X.take u ++ X.drop u) ++ (Y.take v ++ Y.drop v) := by rw [List.take_append_drop, List.take_append_drop]
 rw [e, List.append_assoc, List.append_assoc];refine List.Perm.append_left _ ?_;rw [← List.append_assoc, ← List.append_assoc];exact (List.perm_append_comm).append_right _
def SymAt (key : Nat → Nat) (g N : Nat) (v0 : Value) (w0 : World) (P X Y S : List Nat) : Prop :=
 ∀ (w : World) (a m b : Nat), Foot (· = g) w0 w → Blk w g (P ++ X ++ Y ++ S) → P.length = a → P.length + X.length = m → P.length + X.length + Y.length = b → P.length + X.length + Y.length + S.length = N →
  Calls Tryz.prog 85 #[.slice (some ⟨g, 0, none⟩) N N, .int .i64 (a : Nat), .int .i64 (m : Nat), .int .i64 (b : Nat), .func (.func 69) #[] #[v0]] w fun e w' =>
   e = .returned (.tuple #[]) ∧ Foot (· = g) w w' ∧ Hid (∃ Z, Blk w' g (P ++ Z ++ S) ∧ Z.Perm (X ++ Y) ∧ Asc key Z)
end PK
open PK
set_option maxRecDepth 100000 in
set_option maxHeartbeats 40000000 in
theorem sym_any (key : Nat → Nat) (g N n : Nat) (v0 : Value) (cv : Nat → Nat → Int) (w0 : World) (hC : Cmp g n v0 cv w0) (hNl : N ≤ 1000000) : ∀ (K : Nat) (P X Y S : List Nat), X.length + Y.length ≤ K → 0 < X.length → 0 < Y.length →
  Rel key (ltC cv) X Y → Asc key X → Asc key Y → (∀ z ∈ X, z < n) → (∀ z ∈ Y, z < n) → SymAt key g N v0 w0 P X Y S := by
 intro K
 induction K with
 | zero => intro P X Y S h h0; omega
 | succ K ih =>
 intro P X Y S hK hX0 hY0 hr hX hY hXn hYn w a m b hF0 hB ha hm hb hN;by_cases hx1 : X.length = 1
 ·obtain ⟨x, rfl⟩ := List.length_eq_one_iff.1 hx1;exact sym_left key g N n a m b v0 cv w0 P Y S x w hC hF0 (hXn x (by simp)) hYn hr hY ha hm hb hN hNl hB
 by_cases hy1 : Y.length = 1
 ·obtain ⟨y, rfl⟩ := List.length_eq_one_iff.1 hy1;exact sym_right key g N n a m b v0 cv w0 P X S y w hC hF0 (hYn y (by simp)) hXn hr hX (by omega) ha hm hb hN hNl hB
 obtain ⟨md, hmd⟩ := nx ((a + b) / 2);have q1 : a + 2 ≤ m := by omega
 have q2 : m + 2 ≤ b := by omega
 have q3 : b ≤ N := by omega
 have em : ((a : Int) + (b : Int)) / 2 = (md : Int) := by omega
 have q4 : a < md := by omega
 have q5 : md < b := by omega
 have t0 : ((m : Int) - (a : Int) == 1) = false := beq_eq_false_iff_ne.2 (by omega);have t0' : ((b : Int) - (m : Int) == 1) = false := beq_eq_false_iff_ne.2 (by omega);obtain ⟨p, hp⟩ := nx (md + m - 1);have ep : (md : Int) + (m : Int) - 1 = (p : Int) := by omega
 have H := Hq (Ai hC (Ai hF0 (Ai hr (Ai hX (Ai hY (Ai hXn (Ai hYn (Ai ha (Ai hm (Ai hb (Ai hN (Ai hmd hp))))))))))))
 -- what the rotation leaves
 have HRot : Hid (∀ (s en : Nat) (W : World), s < m → s < md → a ≤ s → md - s ≤ Y.length → en = md + m - s → Foot (· = g) w W → Blk W g (P ++ X ++ Y ++ S) →
   Calls Tryz.prog 100 #[.slice (some ⟨g, 0, none⟩) N N, .int .i64 (s : Nat), .int .i64 (m : Nat), .int .i64 (en : Nat), .func (.func 69) #[] #[v0]] W fun e W' =>
    e = .returned (.tuple #[]) ∧ Foot (· = g) w W' ∧ Hid (Blk W' g (P ++ (X.take (s - a) ++ Y.take (md - s)) ++ (X.drop (s - a) ++ Y.drop (md - s)) ++ S))) := Hq (by
  intro s en W h1 h2 h3 h4 h5 hF hB;refine (rotate_any g N s m en (P ++ X.take (s - a)) (X.drop (s - a)) (Y.take (md - s)) (Y.drop (md - s) ++ S) _ W (by rw [List.length_drop]; omega) (by rw [List.length_take]; omega) (by rw [List.length_append, List.length_take]; omega) (by rw [List.length_append, List.length_take, List.length_drop]; omega)
   (by rw [List.length_append, List.length_take, List.length_drop, List.length_take]; omega) (by simp only [List.length_append, List.length_take, List.length_drop]; omega) hNl (by
    have e : P ++ X.take (s - a) ++ X.drop (s - a) ++ Y.take (md - s) ++ (Y.drop (md - s) ++ S) = P ++ X ++ Y ++ S := by
     rw [List.append_assoc P, List.take_append_drop, List.append_assoc (P ++ X), ← List.append_assoc (Y.take _), List.take_append_drop, ← List.append_assoc]
    rw [e]; exact hB)).mono ?_
  rintro e W' ⟨he, hf, hb⟩;exact ⟨he, hF.trans hf fun _ h => .inl h, Hq (by simpa using hb)⟩)
 -- the two halves
 have HL : Hid (∀ (s : Nat) (W : World), a < s → s < md → s ≤ m → md - s ≤ Y.length → Foot (· = g) w W → Blk W g (P ++ (X.take (s - a) ++ Y.take (md - s)) ++ (X.drop (s - a) ++ Y.drop (md - s)) ++ S) →
   Calls Tryz.prog 85 #[.slice (some ⟨g, 0, none⟩) N N, .int .i64 (a : Nat), .int .i64 (s : Nat), .int .i64 (md : Nat), .func (.func 69) #[] #[v0]] W fun e W' =>
    e = .returned (.tuple #[]) ∧ Foot (· = g) w W' ∧ Hid (∃ Z1, Blk W' g (P ++ Z1 ++ (X.drop (s - a) ++ Y.drop (md - s)) ++ S) ∧ Z1.Perm (X.take (s - a) ++ Y.take (md - s)) ∧ Asc key Z1)) := Hq (by
  intro s W h1 h2 h3 h4 hF hB;have l1 : (X.take (s - a)).length = s - a := by rw [List.length_take]; omega
  have l2 : (Y.take (md - s)).length = md - s := by rw [List.length_take]; omega
  refine (ih P (X.take (s - a)) (Y.take (md - s)) (X.drop (s - a) ++ Y.drop (md - s) ++ S) (by omega) (by omega) (by omega) (hr.sub (fun _ h => List.mem_of_mem_take h) (fun _ h => List.mem_of_mem_take h)) (hX.sublist (List.take_sublist _ _)) (hY.sublist (List.take_sublist _ _))
   (fun z hz => hXn z (List.mem_of_mem_take hz)) (fun z hz => hYn z (List.mem_of_mem_take hz)) W a s md (hF0.trans hF fun _ h => .inl h) (by simpa using hB) ha (by omega) (by omega) (by simp only [List.length_append, List.length_drop]; omega)).mono ?_
  rintro e W' ⟨he, hf, hz⟩;obtain ⟨Z1, z1, z2, z3⟩ := hz.out;exact ⟨he, hF.trans hf fun _ h => .inl h, Hq ⟨Z1, by simpa using z1, z2, z3⟩⟩)
 have HR : Hid (∀ (s en : Nat) (W : World) (Z1 : List Nat), s < m → s ≤ md → a ≤ s → md - s ≤ Y.length → en = md + m - s → en < b → Z1.length = md - a → Foot (· = g) w W → Blk W g (P ++ Z1 ++ (X.drop (s - a) ++ Y.drop (md - s)) ++ S) →
   Calls Tryz.prog 85 #[.slice (some ⟨g, 0, none⟩) N N, .int .i64 (md : Nat), .int .i64 (en : Nat), .int .i64 (b : Nat), .func (.func 69) #[] #[v0]] W fun e W' =>
    e = .returned (.tuple #[]) ∧ Foot (· = g) w W' ∧ Hid (∃ Z2, Blk W' g (P ++ (Z1 ++ Z2) ++ S) ∧ Z2.Perm (X.drop (s - a) ++ Y.drop (md - s)) ∧ Asc key Z2)) := Hq (by
  intro s en W Z1 h1 h2 h3 h4 h5 h6 h7 hF hB;have l1 : (X.drop (s - a)).length = m - s := by rw [List.length_drop]; omega
  have l2 : (Y.drop (md - s)).length = b - en := by rw [List.length_drop]; omega
  refine (ih (P ++ Z1) (X.drop (s - a)) (Y.drop (md - s)) S (by omega) (by omega) (by omega) (hr.sub (fun _ h => List.mem_of_mem_drop h) (fun _ h => List.mem_of_mem_drop h)) (hX.sublist (List.drop_sublist _ _)) (hY.sublist (List.drop_sublist _ _))
   (fun z hz => hXn z (List.mem_of_mem_drop hz)) (fun z hz => hYn z (List.mem_of_mem_drop hz)) W md en b (hF0.trans hF fun _ h => .inl h) (by simpa using hB) (by rw [List.length_append]; omega) (by rw [List.length_append]; omega) (by rw [List.length_append]; omega) (by rw [List.length_append]; omega)).mono ?_
  rintro e W' ⟨he, hf, hz⟩;obtain ⟨Z2, z1, z2, z3⟩ := hz.out;exact ⟨he, hF.trans hf fun _ h => .inl h, Hq ⟨Z2, by simpa using z1, z2, z3⟩⟩)
 have HB := Hq hB;have HF := Hq (Foot.refl (· = g) w);clear ih hK hX0 hY0 hr hX hY hXn hYn hF0 hB ha hm hb hN hx1 hy1 hC hp;by_cases hc : md < m
 ·have tc : decide (md < m) = true := decide_eq_true hc;obtain ⟨s0, hs0⟩ := nx (md + m - b);have hs0a : a ≤ s0 := by omega
  have es : (md : Int) + (m : Int) - (b : Int) = (s0 : Int) := by omega
  have hs0b : s0 ≤ md := by omega
  have Hs0 := Hq (Ai hs0 hmd);clear hs0 hmd;go_enter Tryz.func85, Tryz.ntmps85;go_wp2;go_loopw [20, 21] (fun vi vj wr => ∃ s r : Nat, vi = .int .i64 (s : Nat) ∧ vj = .int .i64 (r : Nat) ∧ s0 ≤ s ∧ s ≤ r ∧ r ≤ md ∧ Hid (Foot (· = g) w wr) ∧ Hid (Blk wr g (P ++ X ++ Y ++ S)) ∧ Hid ((s = s0 ∨ ∀ x y, X[s - a - 1]? = some x → Y[md - s]? = some y → key x ≤ key y) ∧ (r = md ∨ ∀ x y, X[r - a]? = some x → Y[md - 1 - r]? = some y → key y ≤ key x))) (fun vi vj _ => (intOf vj).toNat - (intOf vi).toNat)
  case atStart => exact ⟨s0, md, rfl, rfl, Nat.le_refl _, by omega, Nat.le_refl _, HF, HB, Hq ⟨.inl rfl, .inl rfl⟩⟩
  case round =>
   clear HB HF;obtain ⟨s, r, rfl, rfl, hs0s, hsr, hrr, hF, hBk, hI⟩ := hrel;by_cases hlt : s < r
   ·obtain ⟨c, hcc⟩ : ∃ c, c = (s + r) / 2 := ⟨_, rfl⟩
    have em2 : ((s : Int) + (r : Int)) / 2 = (c : Int) := (by omega);have h1 : s ≤ c := (by omega);have h2 : c < r := (by omega);obtain ⟨x, hx⟩ := get_of_lt (L := X) (k := c - a) (by have := H.out; omega);obtain ⟨y, hy⟩ := get_of_lt (L := Y) (k := md - 1 - c) (by have := H.out; have := Hs0.out; omega);obtain ⟨pc, hpc⟩ := nx (p - c);have hpm : pc = m + (md - 1 - c) := by have := H.out; omega
    have epc : (p : Int) - (c : Int) = (pc : Int) := by have := H.out; omega
    have hLx : (P ++ X ++ Y ++ S)[c]? = some x := by
     rw [List.append_assoc (P ++ X), get_pre (P := P) (k := c - a) (by have := H.out; omega) (lt_of_get hx)]; exact hx
    have hLy : (P ++ X ++ Y ++ S)[pc]? = some y := by
     rw [get_pre (P := P ++ X) (k := md - 1 - c) (by have := H.out; rw [List.length_append]; omega) (lt_of_get hy)]; exact hy
    have c1 := hBk.out.cell hLx;have c2 := hBk.out.cell hLy;have hc := fun q => H.out.1.at_ H.out.2.1 hF.out (H.out.2.2.2.2.2.2.1 y (mem_of_get hy)) (H.out.2.2.2.2.2.1 x (mem_of_get hx)) q
    have hrel := H.out.2.2.1 x (mem_of_get hx) y (mem_of_get hy);have j1 : (c : Int) < (N : Int) := by have := lt_of_get hx; have := H.out; omega
    have j2 : (pc : Int) < (N : Int) := by have := lt_of_get hy; have := H.out; omega
    have t1 : decide (s < r) = true := decide_eq_true hlt;clear hcc hLx hLy hpc hpm;go_wp2_with fail;(try simp only [em2]);clear em2
    cases hd : decide (cv y x < 0) with
    | true =>
     have hk : key y ≤ key x := by unfold ltC at hrel; rw [hd] at hrel; have := of_decide_eq_true hrel.symm; omega
     have HK := Hq (show ∀ x' y', X[c - a]? = some x' → Y[md - 1 - c]? = some y' → key y' ≤ key x' by
      intro x' y' hx' hy';rw [hx] at hx'; cases hx'; rw [hy] at hy'; cases hy'; exact hk)
     clear hrel hx hy hk;go_quiet (first | (go_at_call 69; exact hc _));have hF1 : Hid (Foot (· = g) w (wr.drewN nq)) := Hq (hF.out.drewN nq);have hB1 : Hid (Blk (wr.drewN nq) g (P ++ X ++ Y ++ S)) := Hq (hBk.out.drewN nq);clear c1 c2 hc hd hF hBk epc;generalize wr.drewN nq = W at hF1 hB1 ⊢;go_wp2
     go_roundw
     case rel => exact ⟨s, c, rfl, rfl, hs0s, h1, by omega, hF1, hB1, Hq ⟨hI.out.1, .inr HK.out⟩⟩
     case measure => simp [intOf]; omega
    | false =>
     have hk : key x ≤ key y := by unfold ltC at hrel; rw [hd] at hrel; have := of_decide_eq_false hrel.symm; omega
     have HK := Hq (show ∀ x' y', X[c + 1 - a - 1]? = some x' → Y[md - (c + 1)]? = some y' → key x' ≤ key y' by
      intro x' y' hx' hy';rw [show c + 1 - a - 1 = c - a by omega, hx] at hx'; cases hx';rw [show md - (c + 1) = md - 1 - c by omega, hy] at hy'; cases hy'; exact hk)
     clear hrel hx hy hk;go_quiet (first | (go_at_call 69; exact hc _));have hF1 : Hid (Foot (· = g) w (wr.drewN nq)) := Hq (hF.out.drewN nq);have hB1 : Hid (Blk (wr.drewN nq) g (P ++ X ++ Y ++ S)) := Hq (hBk.out.drewN nq);clear c1 c2 hc hd hF hBk epc;generalize wr.drewN nq = W at hF1 hB1 ⊢;go_wp2
     go_roundw
     case rel => exact ⟨c + 1, r, by go_num, rfl, by omega, by omega, hrr, hF1, hB1, Hq ⟨.inr HK.out, hI.out.2⟩⟩
     case measure => simp [intOf]; omega
   ·obtain rfl : s = r := by omega
    clear hlt hsr;have hcut : Hid (∀ z ∈ X.take (s - a) ++ Y.take (md - s), ∀ z' ∈ X.drop (s - a) ++ Y.drop (md - s), key z ≤ key z') := Hq (by
     have hh := H.out;have hs := Hs0.out;have e1 : md - s = (md - a) - (s - a) := (by omega);rw [e1];refine sym_cut (H := md - a) hh.2.2.2.1 hh.2.2.2.2.1 (by omega) (by omega) (by omega) ?_ ?_
     ·rcases hI.out.1 with e | e
      ·exact .inl (by omega)
      ·rw [← e1]; exact .inr e
     ·rcases hI.out.2 with e | e
      ·exact .inl (by omega)
      ·rw [show md - a - 1 - (s - a) = md - 1 - s by omega]; exact .inr (.inr e))
    have hvY : md - s ≤ Y.length := by have := H.out; have := Hs0.out; omega
    clear hI;obtain ⟨en, hen⟩ := nx (md + m - s);have een : (md : Int) + (m : Int) - (s : Int) = (en : Int) := (by omega);clear hen;have u1 : decide (s < s) = false := decide_eq_false (by omega);have hsm : s < m := (by omega);by_cases k1 : s < md
    ·by_cases k2 : a < s
     ·by_cases k3 : en < b
      ·have t1 : decide (s < m) = true := decide_eq_true (by omega);have t2 : decide (m < en) = true := decide_eq_true (by omega);have t3 : decide (a < s) = true := decide_eq_true (by omega);have t4 : decide (s < md) = true := decide_eq_true (by omega);have t5 : decide (md < en) = true := decide_eq_true (by omega);have t6 : decide (en < b) = true := decide_eq_true (by omega);have hR1 := HRot.out s en wr (by omega) (by omega) (by omega) hvY (by omega) hF.out hBk.out;clear hBk;go_wp2_with fail;refine hR1.mono ?_;rintro e w1 ⟨rfl, hf1, hB1⟩;have hF1 := Hq hf1;clear hR1 hF hf1;have hL1 := HL.out s w1 (by omega) (by omega) (by omega) hvY hF1.out hB1.out;clear hB1;go_wp2_with fail;refine hL1.mono ?_;rintro e w2 ⟨rfl, hf2, hB2⟩;have hF2 := Hq hf2;clear hL1 hf2 hF1;obtain ⟨Z1, zb, zp, za⟩ := hB2.out;have zl : Z1.length = md - a := by have := zp.length_eq; rw [List.length_append, List.length_take, List.length_take] at this; have := H.out; omega
       have hR2 := HR.out s en w2 Z1 (by omega) (by omega) (by omega) hvY (by omega) (by omega) zl hF2.out zb;have ZP := Hq (Ai zp za);clear zb zp za zl hB2;go_wp2_with fail;refine hR2.mono ?_;rintro e w3 ⟨rfl, hf3, hB3⟩;obtain ⟨Z2, yb, yp, ya⟩ := hB3.out;have HZ := sym_join ZP.out.1 yp ZP.out.2 ya hcut.out;have HZ2 : Hid (∃ Z, Blk w3 g (P ++ Z ++ S) ∧ Z.Perm (X ++ Y) ∧ Asc key Z) := Hq ⟨_, yb, HZ.1, HZ.2⟩;clear hR2 yb yp ya HZ hB3;go_wp2;(try simp only [Exit.inBlock, Exit.then])
       first | (refine bodyPost_ret (results_none rfl _ _ _) rfl ?_) | (refine bodyPost_end (results_none rfl _ _ _) rfl ?_) | skip
       exact ⟨rfl, hf3, HZ2⟩
      ·have t1 : decide (s < m) = true := decide_eq_true (by omega);have t2 : decide (m < en) = true := decide_eq_true (by omega);have t3 : decide (a < s) = true := decide_eq_true (by omega);have t4 : decide (s < md) = true := decide_eq_true (by omega);have t5 : decide (md < en) = true := decide_eq_true (by omega);have t6 : decide (en < b) = false := decide_eq_false (by omega);have hR1 := HRot.out s en wr (by omega) (by omega) (by omega) hvY (by omega) hF.out hBk.out;clear hBk;go_wp2_with fail;refine hR1.mono ?_;rintro e w1 ⟨rfl, hf1, hB1⟩;have hF1 := Hq hf1;clear hR1 hF hf1;have hL1 := HL.out s w1 (by omega) (by omega) (by omega) hvY hF1.out hB1.out;clear hB1;go_wp2_with fail;refine hL1.mono ?_;rintro e w2 ⟨rfl, hf2, hB2⟩;have hF2 := Hq hf2;clear hL1 hf2 hF1;obtain ⟨Z1, zb, zp, za⟩ := hB2.out;have zl : Z1.length = md - a := by have := zp.length_eq; rw [List.length_append, List.length_take, List.length_take] at this; have := H.out; omega
       have HZ := sym_join zp (List.Perm.refl _) za (by
         have hh := H.out;rw [show md - s = Y.length by omega, List.drop_length, List.append_nil]; exact hh.2.2.2.1.sublist (List.drop_sublist _ _)) hcut.out
       have HZ2 : Hid (∃ Z, Blk w2 g (P ++ Z ++ S) ∧ Z.Perm (X ++ Y) ∧ Asc key Z) := Hq ⟨_, by rw [← List.append_assoc P]; exact zb, HZ.1, HZ.2⟩;clear zb zp za zl hB2 HZ;go_wp2;(try simp only [Exit.inBlock, Exit.then])
       first | (refine bodyPost_ret (results_none rfl _ _ _) rfl ?_) | (refine bodyPost_end (results_none rfl _ _ _) rfl ?_) | skip
       exact ⟨rfl, hF2.out, HZ2⟩
     ·by_cases k3 : en < b
      ·have t1 : decide (s < m) = true := decide_eq_true (by omega);have t2 : decide (m < en) = true := decide_eq_true (by omega);have t3 : decide (a < s) = false := decide_eq_false (by omega);have t4 : decide (s < md) = true := decide_eq_true (by omega);have t5 : decide (md < en) = true := decide_eq_true (by omega);have t6 : decide (en < b) = true := decide_eq_true (by omega);have hR1 := HRot.out s en wr (by omega) (by omega) (by omega) hvY (by omega) hF.out hBk.out;clear hBk;go_wp2_with fail;refine hR1.mono ?_;rintro e w1 ⟨rfl, hf1, hB1⟩;have hF1 := Hq hf1;clear hR1 hF hf1;have hB2 : Hid (∃ Z1, Blk w1 g (P ++ Z1 ++ (X.drop (s - a) ++ Y.drop (md - s)) ++ S) ∧ Z1.Perm (X.take (s - a) ++ Y.take (md - s)) ∧ Asc key Z1) := Hq ⟨_, hB1.out, List.Perm.refl _, by
        have hh := H.out;rw [show s - a = 0 by omega, List.take_zero, List.nil_append]; exact hh.2.2.2.2.1.sublist (List.take_sublist _ _)⟩
       clear hB1;obtain ⟨Z1, zb, zp, za⟩ := hB2.out;have zl : Z1.length = md - a := by have := zp.length_eq; rw [List.length_append, List.length_take, List.length_take] at this; have := H.out; omega
       have hR2 := HR.out s en w1 Z1 (by omega) (by omega) (by omega) hvY (by omega) (by omega) zl hF1.out zb;have ZP := Hq (Ai zp za);clear zb zp za zl hB2;go_wp2_with fail;refine hR2.mono ?_;rintro e w3 ⟨rfl, hf3, hB3⟩;obtain ⟨Z2, yb, yp, ya⟩ := hB3.out;have HZ := sym_join ZP.out.1 yp ZP.out.2 ya hcut.out;have HZ2 : Hid (∃ Z, Blk w3 g (P ++ Z ++ S) ∧ Z.Perm (X ++ Y) ∧ Asc key Z) := Hq ⟨_, yb, HZ.1, HZ.2⟩;clear hR2 yb yp ya HZ hB3;go_wp2;(try simp only [Exit.inBlock, Exit.then])
       first | (refine bodyPost_ret (results_none rfl _ _ _) rfl ?_) | (refine bodyPost_end (results_none rfl _ _ _) rfl ?_) | skip
       exact ⟨rfl, hf3, HZ2⟩
      ·have t1 : decide (s < m) = true := decide_eq_true (by omega);have t2 : decide (m < en) = true := decide_eq_true (by omega);have t3 : decide (a < s) = false := decide_eq_false (by omega);have t4 : decide (s < md) = true := decide_eq_true (by omega);have t5 : decide (md < en) = true := decide_eq_true (by omega);have t6 : decide (en < b) = false := decide_eq_false (by omega);have hR1 := HRot.out s en wr (by omega) (by omega) (by omega) hvY (by omega) hF.out hBk.out;clear hBk;go_wp2_with fail;refine hR1.mono ?_;rintro e w1 ⟨rfl, hf1, hB1⟩;have hF1 := Hq hf1;clear hR1 hF hf1;have hB2 : Hid (∃ Z1, Blk w1 g (P ++ Z1 ++ (X.drop (s - a) ++ Y.drop (md - s)) ++ S) ∧ Z1.Perm (X.take (s - a) ++ Y.take (md - s)) ∧ Asc key Z1) := Hq ⟨_, hB1.out, List.Perm.refl _, by
        have hh := H.out;rw [show s - a = 0 by omega, List.take_zero, List.nil_append]; exact hh.2.2.2.2.1.sublist (List.take_sublist _ _)⟩
       clear hB1;obtain ⟨Z1, zb, zp, za⟩ := hB2.out;have zl : Z1.length = md - a := by have := zp.length_eq; rw [List.length_append, List.length_take, List.length_take] at this; have := H.out; omega
       have HZ := sym_join zp (List.Perm.refl _) za (by
         have hh := H.out;rw [show md - s = Y.length by omega, List.drop_length, List.append_nil]; exact hh.2.2.2.1.sublist (List.drop_sublist _ _)) hcut.out
       have HZ2 : Hid (∃ Z, Blk w1 g (P ++ Z ++ S) ∧ Z.Perm (X ++ Y) ∧ Asc key Z) := Hq ⟨_, by rw [← List.append_assoc P]; exact zb, HZ.1, HZ.2⟩;clear zb zp za zl hB2 HZ;go_wp2;(try simp only [Exit.inBlock, Exit.then])
       first | (refine bodyPost_ret (results_none rfl _ _ _) rfl ?_) | (refine bodyPost_end (results_none rfl _ _ _) rfl ?_) | skip
       exact ⟨rfl, hF1.out, HZ2⟩
    ·have t1 : decide (s < m) = true := decide_eq_true (by omega);have t2 : decide (m < en) = false := decide_eq_false (by omega);have t3 : decide (a < s) = true := decide_eq_true (by omega);have t4 : decide (s < md) = false := decide_eq_false (by omega);have t5 : decide (md < en) = true := decide_eq_true (by omega);have t6 : decide (en < b) = true := decide_eq_true (by omega);have hB1 : Hid (Blk wr g (P ++ (X.take (s - a) ++ Y.take (md - s)) ++ (X.drop (s - a) ++ Y.drop (md - s)) ++ S)) := Hq (by
      have h9 := hBk.out;have hh := H.out;rw [show md - s = 0 by omega, List.take_zero, List.drop_zero, List.append_nil];have e : X.take (s - a) ++ X.drop (s - a) = X := List.take_append_drop _ _;rw [← e] at h9; simp only [List.append_assoc] at h9 ⊢; exact h9)
     clear hBk;have hB2 : Hid (∃ Z1, Blk wr g (P ++ Z1 ++ (X.drop (s - a) ++ Y.drop (md - s)) ++ S) ∧ Z1.Perm (X.take (s - a) ++ Y.take (md - s)) ∧ Asc key Z1) := Hq ⟨_, hB1.out, List.Perm.refl _, by
      have hh := H.out;rw [show md - s = 0 by omega, List.take_zero, List.append_nil]; exact hh.2.2.2.1.sublist (List.take_sublist _ _)⟩
     clear hB1;obtain ⟨Z1, zb, zp, za⟩ := hB2.out;have zl : Z1.length = md - a := by have := zp.length_eq; rw [List.length_append, List.length_take, List.length_take] at this; have := H.out; omega
     have hR2 := HR.out s en wr Z1 (by omega) (by omega) (by omega) hvY (by omega) (by omega) zl hF.out zb;have ZP := Hq (Ai zp za);clear zb zp za zl hB2;go_wp2_with fail;refine hR2.mono ?_;rintro e w3 ⟨rfl, hf3, hB3⟩;obtain ⟨Z2, yb, yp, ya⟩ := hB3.out;have HZ := sym_join ZP.out.1 yp ZP.out.2 ya hcut.out;have HZ2 : Hid (∃ Z, Blk w3 g (P ++ Z ++ S) ∧ Z.Perm (X ++ Y) ∧ Asc key Z) := Hq ⟨_, yb, HZ.1, HZ.2⟩;clear hR2 yb yp ya HZ hB3;go_wp2;(try simp only [Exit.inBlock, Exit.then])
     first | (refine bodyPost_ret (results_none rfl _ _ _) rfl ?_) | (refine bodyPost_end (results_none rfl _ _ _) rfl ?_) | skip
     exact ⟨rfl, hf3, HZ2⟩
 ·have tc : decide (md < m) = false := decide_eq_false hc;have Hs0 := Hq hmd;clear hmd;go_enter Tryz.func85, Tryz.ntmps85;go_wp2;go_loopw [20, 21] (fun vi vj wr => ∃ s r : Nat, vi = .int .i64 (s : Nat) ∧ vj = .int .i64 (r : Nat) ∧ a ≤ s ∧ s ≤ r ∧ r ≤ m ∧ Hid (Foot (· = g) w wr) ∧ Hid (Blk wr g (P ++ X ++ Y ++ S)) ∧ Hid ((s = a ∨ ∀ x y, X[s - a - 1]? = some x → Y[md - s]? = some y → key x ≤ key y) ∧ (r = m ∨ ∀ x y, X[r - a]? = some x → Y[md - 1 - r]? = some y → key y ≤ key x))) (fun vi vj _ => (intOf vj).toNat - (intOf vi).toNat)
  case atStart => exact ⟨a, m, rfl, rfl, Nat.le_refl _, by omega, Nat.le_refl _, HF, HB, Hq ⟨.inl rfl, .inl rfl⟩⟩
  case round =>
   clear HB HF;obtain ⟨s, r, rfl, rfl, hs0s, hsr, hrr, hF, hBk, hI⟩ := hrel;by_cases hlt : s < r
   ·obtain ⟨c, hcc⟩ : ∃ c, c = (s + r) / 2 := ⟨_, rfl⟩
    have em2 : ((s : Int) + (r : Int)) / 2 = (c : Int) := (by omega);have h1 : s ≤ c := (by omega);have h2 : c < r := (by omega);obtain ⟨x, hx⟩ := get_of_lt (L := X) (k := c - a) (by have := H.out; omega);obtain ⟨y, hy⟩ := get_of_lt (L := Y) (k := md - 1 - c) (by have := H.out; have := Hs0.out; omega);obtain ⟨pc, hpc⟩ := nx (p - c);have hpm : pc = m + (md - 1 - c) := by have := H.out; omega
    have epc : (p : Int) - (c : Int) = (pc : Int) := by have := H.out; omega
    have hLx : (P ++ X ++ Y ++ S)[c]? = some x := by
     rw [List.append_assoc (P ++ X), get_pre (P := P) (k := c - a) (by have := H.out; omega) (lt_of_get hx)]; exact hx
    have hLy : (P ++ X ++ Y ++ S)[pc]? = some y := by
     rw [get_pre (P := P ++ X) (k := md - 1 - c) (by have := H.out; rw [List.length_append]; omega) (lt_of_get hy)]; exact hy
    have c1 := hBk.out.cell hLx;have c2 := hBk.out.cell hLy;have hc := fun q => H.out.1.at_ H.out.2.1 hF.out (H.out.2.2.2.2.2.2.1 y (mem_of_get hy)) (H.out.2.2.2.2.2.1 x (mem_of_get hx)) q
    have hrel := H.out.2.2.1 x (mem_of_get hx) y (mem_of_get hy);have j1 : (c : Int) < (N : Int) := by have := lt_of_get hx; have := H.out; omega
    have j2 : (pc : Int) < (N : Int) := by have := lt_of_get hy; have := H.out; omega
    have t1 : decide (s < r) = true := decide_eq_true hlt;clear hcc hLx hLy hpc hpm;go_wp2_with fail;(try simp only [em2]);clear em2
    cases hd : decide (cv y x < 0) with
    | true =>
     have hk : key y ≤ key x := by unfold ltC at hrel; rw [hd] at hrel; have := of_decide_eq_true hrel.symm; omega
     have HK := Hq (show ∀ x' y', X[c - a]? = some x' → Y[md - 1 - c]? = some y' → key y' ≤ key x' by
      intro x' y' hx' hy';rw [hx] at hx'; cases hx'; rw [hy] at hy'; cases hy'; exact hk)
     clear hrel hx hy hk;go_quiet (first | (go_at_call 69; exact hc _));have hF1 : Hid (Foot (· = g) w (wr.drewN nq)) := Hq (hF.out.drewN nq);have hB1 : Hid (Blk (wr.drewN nq) g (P ++ X ++ Y ++ S)) := Hq (hBk.out.drewN nq);clear c1 c2 hc hd hF hBk epc;generalize wr.drewN nq = W at hF1 hB1 ⊢;go_wp2
     go_roundw
     case rel => exact ⟨s, c, rfl, rfl, hs0s, h1, by omega, hF1, hB1, Hq ⟨hI.out.1, .inr HK.out⟩⟩
     case measure => simp [intOf]; omega
    | false =>
     have hk : key x ≤ key y := by unfold ltC at hrel; rw [hd] at hrel; have := of_decide_eq_false hrel.symm; omega
     have HK := Hq (show ∀ x' y', X[c + 1 - a - 1]? = some x' → Y[md - (c + 1)]? = some y' → key x' ≤ key y' by
      intro x' y' hx' hy';rw [show c + 1 - a - 1 = c - a by omega, hx] at hx'; cases hx';rw [show md - (c + 1) = md - 1 - c by omega, hy] at hy'; cases hy'; exact hk)
     clear hrel hx hy hk;go_quiet (first | (go_at_call 69; exact hc _));have hF1 : Hid (Foot (· = g) w (wr.drewN nq)) := Hq (hF.out.drewN nq);have hB1 : Hid (Blk (wr.drewN nq) g (P ++ X ++ Y ++ S)) := Hq (hBk.out.drewN nq);clear c1 c2 hc hd hF hBk epc;generalize wr.drewN nq = W at hF1 hB1 ⊢;go_wp2
     go_roundw
     case rel => exact ⟨c + 1, r, by go_num, rfl, by omega, by omega, hrr, hF1, hB1, Hq ⟨.inr HK.out, hI.out.2⟩⟩
     case measure => simp [intOf]; omega
   ·obtain rfl : s = r := by omega
    clear hlt hsr;have hcut : Hid (∀ z ∈ X.take (s - a) ++ Y.take (md - s), ∀ z' ∈ X.drop (s - a) ++ Y.drop (md - s), key z ≤ key z') := Hq (by
     have hh := H.out;have hs := Hs0.out;have e1 : md - s = (md - a) - (s - a) := (by omega);rw [e1];refine sym_cut (H := md - a) hh.2.2.2.1 hh.2.2.2.2.1 (by omega) (by omega) (by omega) ?_ ?_
     ·rcases hI.out.1 with e | e
      ·exact .inl (by omega)
      ·rw [← e1]; exact .inr e
     ·rcases hI.out.2 with e | e
      ·exact .inr (.inl (by omega))
      ·rw [show md - a - 1 - (s - a) = md - 1 - s by omega]; exact .inr (.inr e))
    have hvY : md - s ≤ Y.length := by have := H.out; have := Hs0.out; omega
    clear hI;obtain ⟨en, hen⟩ := nx (md + m - s);have een : (md : Int) + (m : Int) - (s : Int) = (en : Int) := (by omega);clear hen;have u1 : decide (s < s) = false := decide_eq_false (by omega);by_cases k1 : s < m
    ·by_cases k2 : a < s
     ·by_cases k3 : en < b
      ·have t1 : decide (s < m) = true := decide_eq_true (by omega);have t2 : decide (m < en) = true := decide_eq_true (by omega);have t3 : decide (a < s) = true := decide_eq_true (by omega);have t4 : decide (s < md) = true := decide_eq_true (by omega);have t5 : decide (md < en) = true := decide_eq_true (by omega);have t6 : decide (en < b) = true := decide_eq_true (by omega);have hR1 := HRot.out s en wr (by omega) (by omega) (by omega) hvY (by omega) hF.out hBk.out;clear hBk;go_wp2_with fail;refine hR1.mono ?_;rintro e w1 ⟨rfl, hf1, hB1⟩;have hF1 := Hq hf1;clear hR1 hF hf1;have hL1 := HL.out s w1 (by omega) (by omega) (by omega) hvY hF1.out hB1.out;clear hB1;go_wp2_with fail;refine hL1.mono ?_;rintro e w2 ⟨rfl, hf2, hB2⟩;have hF2 := Hq hf2;clear hL1 hf2 hF1;obtain ⟨Z1, zb, zp, za⟩ := hB2.out;have zl : Z1.length = md - a := by have := zp.length_eq; rw [List.length_append, List.length_take, List.length_take] at this; have := H.out; omega
       have hR2 := HR.out s en w2 Z1 (by omega) (by omega) (by omega) hvY (by omega) (by omega) zl hF2.out zb;have ZP := Hq (Ai zp za);clear zb zp za zl hB2;go_wp2_with fail;refine hR2.mono ?_;rintro e w3 ⟨rfl, hf3, hB3⟩;obtain ⟨Z2, yb, yp, ya⟩ := hB3.out;have HZ := sym_join ZP.out.1 yp ZP.out.2 ya hcut.out;have HZ2 : Hid (∃ Z, Blk w3 g (P ++ Z ++ S) ∧ Z.Perm (X ++ Y) ∧ Asc key Z) := Hq ⟨_, yb, HZ.1, HZ.2⟩;clear hR2 yb yp ya HZ hB3;go_wp2;(try simp only [Exit.inBlock, Exit.then])
       first | (refine bodyPost_ret (results_none rfl _ _ _) rfl ?_) | (refine bodyPost_end (results_none rfl _ _ _) rfl ?_) | skip
       exact ⟨rfl, hf3, HZ2⟩
      ·have t1 : decide (s < m) = true := decide_eq_true (by omega);have t2 : decide (m < en) = true := decide_eq_true (by omega);have t3 : decide (a < s) = true := decide_eq_true (by omega);have t4 : decide (s < md) = true := decide_eq_true (by omega);have t5 : decide (md < en) = true := decide_eq_true (by omega);have t6 : decide (en < b) = false := decide_eq_false (by omega);have hR1 := HRot.out s en wr (by omega) (by omega) (by omega) hvY (by omega) hF.out hBk.out;clear hBk;go_wp2_with fail;refine hR1.mono ?_;rintro e w1 ⟨rfl, hf1, hB1⟩;have hF1 := Hq hf1;clear hR1 hF hf1;have hL1 := HL.out s w1 (by omega) (by omega) (by omega) hvY hF1.out hB1.out;clear hB1;go_wp2_with fail;refine hL1.mono ?_;rintro e w2 ⟨rfl, hf2, hB2⟩;have hF2 := Hq hf2;clear hL1 hf2 hF1;obtain ⟨Z1, zb, zp, za⟩ := hB2.out;have zl : Z1.length = md - a := by have := zp.length_eq; rw [List.length_append, List.length_take, List.length_take] at this; have := H.out; omega
       have HZ := sym_join zp (List.Perm.refl _) za (by
         have hh := H.out;rw [show md - s = Y.length by omega, List.drop_length, List.append_nil]; exact hh.2.2.2.1.sublist (List.drop_sublist _ _)) hcut.out
       have HZ2 : Hid (∃ Z, Blk w2 g (P ++ Z ++ S) ∧ Z.Perm (X ++ Y) ∧ Asc key Z) := Hq ⟨_, by rw [← List.append_assoc P]; exact zb, HZ.1, HZ.2⟩;clear zb zp za zl hB2 HZ;go_wp2;(try simp only [Exit.inBlock, Exit.then])
       first | (refine bodyPost_ret (results_none rfl _ _ _) rfl ?_) | (refine bodyPost_end (results_none rfl _ _ _) rfl ?_) | skip
       exact ⟨rfl, hF2.out, HZ2⟩
     ·by_cases k3 : en < b
      ·have t1 : decide (s < m) = true := decide_eq_true (by omega);have t2 : decide (m < en) = true := decide_eq_true (by omega);have t3 : decide (a < s) = false := decide_eq_false (by omega);have t4 : decide (s < md) = true := decide_eq_true (by omega);have t5 : decide (md < en) = true := decide_eq_true (by omega);have t6 : decide (en < b) = true := decide_eq_true (by omega);have hR1 := HRot.out s en wr (by omega) (by omega) (by omega) hvY (by omega) hF.out hBk.out;clear hBk;go_wp2_with fail;refine hR1.mono ?_;rintro e w1 ⟨rfl, hf1, hB1⟩;have hF1 := Hq hf1;clear hR1 hF hf1;have hB2 : Hid (∃ Z1, Blk w1 g (P ++ Z1 ++ (X.drop (s - a) ++ Y.drop (md - s)) ++ S) ∧ Z1.Perm (X.take (s - a) ++ Y.take (md - s)) ∧ Asc key Z1) := Hq ⟨_, hB1.out, List.Perm.refl _, by
        have hh := H.out;rw [show s - a = 0 by omega, List.take_zero, List.nil_append]; exact hh.2.2.2.2.1.sublist (List.take_sublist _ _)⟩
       clear hB1;obtain ⟨Z1, zb, zp, za⟩ := hB2.out;have zl : Z1.length = md - a := by have := zp.length_eq; rw [List.length_append, List.length_take, List.length_take] at this; have := H.out; omega
       have hR2 := HR.out s en w1 Z1 (by omega) (by omega) (by omega) hvY (by omega) (by omega) zl hF1.out zb;have ZP := Hq (Ai zp za);clear zb zp za zl hB2;go_wp2_with fail;refine hR2.mono ?_;rintro e w3 ⟨rfl, hf3, hB3⟩;obtain ⟨Z2, yb, yp, ya⟩ := hB3.out;have HZ := sym_join ZP.out.1 yp ZP.out.2 ya hcut.out;have HZ2 : Hid (∃ Z, Blk w3 g (P ++ Z ++ S) ∧ Z.Perm (X ++ Y) ∧ Asc key Z) := Hq ⟨_, yb, HZ.1, HZ.2⟩;clear hR2 yb yp ya HZ hB3;go_wp2;(try simp only [Exit.inBlock, Exit.then])
       first | (refine bodyPost_ret (results_none rfl _ _ _) rfl ?_) | (refine bodyPost_end (results_none rfl _ _ _) rfl ?_) | skip
       exact ⟨rfl, hf3, HZ2⟩
      ·have t1 : decide (s < m) = true := decide_eq_true (by omega);have t2 : decide (m < en) = true := decide_eq_true (by omega);have t3 : decide (a < s) = false := decide_eq_false (by omega);have t4 : decide (s < md) = true := decide_eq_true (by omega);have t5 : decide (md < en) = true := decide_eq_true (by omega);have t6 : decide (en < b) = false := decide_eq_false (by omega);have hR1 := HRot.out s en wr (by omega) (by omega) (by omega) hvY (by omega) hF.out hBk.out;clear hBk;go_wp2_with fail;refine hR1.mono ?_;rintro e w1 ⟨rfl, hf1, hB1⟩;have hF1 := Hq hf1;clear hR1 hF hf1;have hB2 : Hid (∃ Z1, Blk w1 g (P ++ Z1 ++ (X.drop (s - a) ++ Y.drop (md - s)) ++ S) ∧ Z1.Perm (X.take (s - a) ++ Y.take (md - s)) ∧ Asc key Z1) := Hq ⟨_, hB1.out, List.Perm.refl _, by
        have hh := H.out;rw [show s - a = 0 by omega, List.take_zero, List.nil_append]; exact hh.2.2.2.2.1.sublist (List.take_sublist _ _)⟩
       clear hB1;obtain ⟨Z1, zb, zp, za⟩ := hB2.out;have zl : Z1.length = md - a := by have := zp.length_eq; rw [List.length_append, List.length_take, List.length_take] at this; have := H.out; omega
       have HZ := sym_join zp (List.Perm.refl _) za (by
         have hh := H.out;rw [show md - s = Y.length by omega, List.drop_length, List.append_nil]; exact hh.2.2.2.1.sublist (List.drop_sublist _ _)) hcut.out
       have HZ2 : Hid (∃ Z, Blk w1 g (P ++ Z ++ S) ∧ Z.Perm (X ++ Y) ∧ Asc key Z) := Hq ⟨_, by rw [← List.append_assoc P]; exact zb, HZ.1, HZ.2⟩;clear zb zp za zl hB2 HZ;go_wp2;(try simp only [Exit.inBlock, Exit.then])
       first | (refine bodyPost_ret (results_none rfl _ _ _) rfl ?_) | (refine bodyPost_end (results_none rfl _ _ _) rfl ?_) | skip
       exact ⟨rfl, hF1.out, HZ2⟩
    ·by_cases k4 : s < md
     ·have t1 : decide (s < m) = false := decide_eq_false (by omega);have t2 : decide (m < en) = true := decide_eq_true (by omega);have t3 : decide (a < s) = true := decide_eq_true (by omega);have t4 : decide (s < md) = true := decide_eq_true (by omega);have t5 : decide (md < en) = false := decide_eq_false (by omega);have t6 : decide (en < b) = true := decide_eq_true (by omega);have hB1 : Hid (Blk wr g (P ++ (X.take (s - a) ++ Y.take (md - s)) ++ (X.drop (s - a) ++ Y.drop (md - s)) ++ S)) := Hq (by
       have h9 := hBk.out;have hh := H.out;rw [show s - a = X.length by omega, List.take_length, List.drop_length, List.nil_append];have e : Y.take (md - s) ++ Y.drop (md - s) = Y := List.take_append_drop _ _;rw [← e] at h9; simp only [List.append_assoc] at h9 ⊢; exact h9)
      clear hBk;have hL1 := HL.out s wr (by omega) (by omega) (by omega) hvY hF.out hB1.out;clear hB1;go_wp2_with fail;refine hL1.mono ?_;rintro e w2 ⟨rfl, hf2, hB2⟩;have hF2 := Hq hf2;clear hL1 hf2 hF;obtain ⟨Z1, zb, zp, za⟩ := hB2.out;have zl : Z1.length = md - a := by have := zp.length_eq; rw [List.length_append, List.length_take, List.length_take] at this; have := H.out; omega
      have HZ := sym_join zp (List.Perm.refl _) za (by
        have hh := H.out;rw [show s - a = X.length by omega, List.drop_length, List.nil_append]; exact hh.2.2.2.2.1.sublist (List.drop_sublist _ _)) hcut.out
      have HZ2 : Hid (∃ Z, Blk w2 g (P ++ Z ++ S) ∧ Z.Perm (X ++ Y) ∧ Asc key Z) := Hq ⟨_, by rw [← List.append_assoc P]; exact zb, HZ.1, HZ.2⟩;clear zb zp za zl hB2 HZ;go_wp2;(try simp only [Exit.inBlock, Exit.then])
      first | (refine bodyPost_ret (results_none rfl _ _ _) rfl ?_) | (refine bodyPost_end (results_none rfl _ _ _) rfl ?_) | skip
      exact ⟨rfl, hF2.out, HZ2⟩
     ·have t1 : decide (s < m) = false := decide_eq_false (by omega);have t2 : decide (m < en) = false := decide_eq_false (by omega);have t3 : decide (a < s) = true := decide_eq_true (by omega);have t4 : decide (s < md) = false := decide_eq_false (by omega);have t5 : decide (md < en) = false := decide_eq_false (by omega);have t6 : decide (en < b) = true := decide_eq_true (by omega);have hB1 : Hid (Blk wr g (P ++ (X.take (s - a) ++ Y.take (md - s)) ++ (X.drop (s - a) ++ Y.drop (md - s)) ++ S)) := Hq (by
       have h9 := hBk.out;have hh := H.out;rw [show s - a = X.length by omega, List.take_length, List.drop_length, List.nil_append];have e : Y.take (md - s) ++ Y.drop (md - s) = Y := List.take_append_drop _ _;rw [← e] at h9; simp only [List.append_assoc] at h9 ⊢; exact h9)
      clear hBk;have hB2 : Hid (∃ Z1, Blk wr g (P ++ Z1 ++ (X.drop (s - a) ++ Y.drop (md - s)) ++ S) ∧ Z1.Perm (X.take (s - a) ++ Y.take (md - s)) ∧ Asc key Z1) := Hq ⟨_, hB1.out, List.Perm.refl _, by
       have hh := H.out;rw [show md - s = 0 by omega, List.take_zero, List.append_nil]; exact hh.2.2.2.1.sublist (List.take_sublist _ _)⟩
      clear hB1;obtain ⟨Z1, zb, zp, za⟩ := hB2.out;have zl : Z1.length = md - a := by have := zp.length_eq; rw [List.length_append, List.length_take, List.length_take] at this; have := H.out; omega
      have HZ := sym_join zp (List.Perm.refl _) za (by
        have hh := H.out;rw [show s - a = X.length by omega, List.drop_length, List.nil_append]; exact hh.2.2.2.2.1.sublist (List.drop_sublist _ _)) hcut.out
      have HZ2 : Hid (∃ Z, Blk wr g (P ++ Z ++ S) ∧ Z.Perm (X ++ Y) ∧ Asc key Z) := Hq ⟨_, by rw [← List.append_assoc P]; exact zb, HZ.1, HZ.2⟩;clear zb zp za zl hB2 HZ;go_wp2;(try simp only [Exit.inBlock, Exit.then])
      first | (refine bodyPost_ret (results_none rfl _ _ _) rfl ?_) | (refine bodyPost_end (results_none rfl _ _ _) rfl ?_) | skip
      exact ⟨rfl, hF.out, HZ2⟩
end
section
open Go.RowKit
namespace PK
theorem asc_cons_mid {key : Nat → Nat} {A B : List Nat} {z : Nat} (h : Asc key (A ++ B)) (h1 : A = [] ∨ ∀ x, A.getLast? = some x → key x ≤ key z) (h2 : ∀ x ∈ B, key z ≤ key x) : Asc key (A ++ z :: B) := by
 obtain ⟨a1, a2, a3⟩ := List.pairwise_append.1 h;refine List.pairwise_append.2 ⟨a1, List.pairwise_cons.2 ⟨h2, a2⟩, fun a ha b hb => ?_⟩;have hz : key a ≤ key z := by
  rcases h1 with e | h1
  ·subst e; cases ha
  ·obtain ⟨i, hi⟩ := List.mem_iff_getElem?.1 ha;have hl := lt_of_get hi;obtain ⟨y, hy⟩ := get_of_lt (L := A) (k := A.length - 1) (by omega);exact Nat.le_trans (Asc.get a1 (by omega) hi hy) (h1 y (by rw [List.getLast?_eq_getElem?]; exact hy))
 rcases List.mem_cons.1 hb with rfl | hb
 ·exact hz
 ·exact a3 a ha b hb
abbrev Rise (key : Nat → Nat) (lt : Nat → Nat → Bool) (Q : List Nat) : Prop := Q.Pairwise (fun x y => lt y x = decide (key y < key x))
end PK
open PK
set_option maxRecDepth 100000 in
set_option maxHeartbeats 4000000 in
theorem ins_any (key : Nat → Nat) (g N n a b : Nat) (v0 : Value) (cv : Nat → Nat → Int) (w0 : World) (P Q S : List Nat) (w : World) (hC : Cmp g n v0 cv w0) (hF0 : Foot (· = g) w0 w) (hQn : ∀ z ∈ Q, z < n)
  (hr : Rise key (ltC cv) Q) (ha : P.length = a) (hb : P.length + Q.length = b) (hN : P.length + Q.length + S.length = N) (hNl : N ≤ 1000000) (hB : Blk w g (P ++ Q ++ S)) :
  Calls Tryz.prog 84 #[.slice (some ⟨g, 0, none⟩) N N, .int .i64 (a : Nat), .int .i64 (b : Nat), .func (.func 69) #[] #[v0]] w fun e w' =>
   e = .returned (.tuple #[]) ∧ Foot (· = g) w w' ∧ Hid (∃ Z, Blk w' g (P ++ Z ++ S) ∧ Z.Perm Q ∧ Asc key Z) := by
 have hab : a ≤ b := by omega
 have hbN : b ≤ N := by omega
 have H := Hq (Ai hC (Ai hF0 (Ai hQn (Ai hr (Ai ha (Ai hb hN))))));have HB := Hq hB;have HF := Hq (Foot.refl (· = g) w);clear hC hF0 hQn hr ha hb hN hB;go_enter Tryz.func84, Tryz.ntmps84;go_wp2;go_loopw [8] (fun vi wr => ∃ i : Nat, vi = .int .i64 (i : Nat) ∧ a + 1 ≤ i ∧ i ≤ b + 1 ∧ Hid (Foot (· = g) w wr) ∧ Hid (∃ Z, Blk wr g (P ++ (Z ++ Q.drop (i - a)) ++ S) ∧ Z.Perm (Q.take (i - a)) ∧ Asc key Z)) (fun vi _ => b + 1 - (intOf vi).toNat)
 case atStart =>
  refine ⟨a + 1, by go_num, Nat.le_refl _, by omega, HF, Hq ⟨Q.take 1, ?_, ?_, ?_⟩⟩
  ·rw [show a + 1 - a = 1 by omega, List.take_append_drop]; exact HB.out
  ·rw [show a + 1 - a = 1 by omega]
  ·match Q with
   | [] => exact List.Pairwise.nil
   | x :: Q => exact List.pairwise_singleton _ _
 case round =>
  clear HB HF;obtain ⟨i, rfl, hai, hib, hF, hZ⟩ := hrel;by_cases hlt : i < b
  ·obtain ⟨Z, hBk, hp, hz⟩ := hZ.out;obtain ⟨x, hx⟩ := get_of_lt (L := Q) (k := i - a) (by have := H.out; omega);have hzl : Z.length = i - a := by have := hp.length_eq; rw [List.length_take] at this; have := H.out; have := lt_of_get hx; omega
   -- all of Z stand ahead of x
   have hzx : Hid (∀ z ∈ Z, z < n ∧ ltC cv x z = decide (key x < key z)) := Hq (by
    intro z hzm;have h1 := hp.mem_iff.1 hzm;obtain ⟨k, hk, hkz⟩ := mem_take h1;refine ⟨H.out.2.2.1 z (mem_of_get hkz), ?_⟩;obtain ⟨l1, rfl⟩ := List.getElem?_eq_some_iff.1 hkz;obtain ⟨l2, rfl⟩ := List.getElem?_eq_some_iff.1 hx;exact List.pairwise_iff_getElem.1 H.out.2.2.2.1 k (i - a) l1 l2 hk)
   have hxn : x < n := H.out.2.2.1 x (mem_of_get hx);have hB0 : Hid (Blk wr g (P ++ Z ++ x :: (Q.drop (i - a + 1) ++ S))) := Hq (by rw [drop_at hx] at hBk; simpa using hBk);have HP := Hq (show ∀ Z' : List Nat, Z'.Perm (x :: Z) → Z'.Perm (Q.take (i + 1 - a)) from fun Z' h => by
    rw [show i + 1 - a = i - a + 1 by omega, take_at hx];exact h.trans ((List.Perm.cons x hp).trans (List.perm_append_comm (l₁ := [x]) (l₂ := Q.take (i - a)))))
   have HZ := Hq (Ai hz hzl);have hF0 := hF;have t9 : decide (i < b) = true := decide_eq_true hlt;clear hBk hp hz hzl hx hZ hF;go_wp2;go_loopw [9] (fun vj wr => ∃ j : Nat, vj = .int .i64 (j : Nat) ∧ a ≤ j ∧ j ≤ i ∧ Hid (Foot (· = g) w wr) ∧ Hid (∃ Z1 Z2, Blk wr g (P ++ Z1 ++ x :: (Z2 ++ (Q.drop (i - a + 1) ++ S))) ∧ Z1 ++ Z2 = Z ∧ Z1.length = j - a ∧ ∀ z ∈ Z2, key x ≤ key z)) (fun vj _ => (intOf vj).toNat)
   case atStart => exact ⟨i, rfl, by omega, Nat.le_refl _, hF0, Hq ⟨Z, [], by simpa using hB0.out, by simp, HZ.out.2, by simp⟩⟩
   case round =>
    clear hF0 hB0;obtain ⟨j, rfl, haj, hji, hF, hI⟩ := hrel;by_cases hja : a < j
    ·obtain ⟨jp, rfl⟩ : ∃ q, j = q + 1 := ⟨j - 1, by omega⟩
     obtain ⟨Z1, Z2, hBk, he, hl, hk2⟩ := hI.out;obtain ⟨z, hzz⟩ := get_of_lt (L := Z1) (k := jp - a) (by omega);have hZ1 : Z1 = Z1.take (jp - a) ++ [z] := by
      have := take_at hzz;rw [show jp - a + 1 = Z1.length by omega, List.take_length] at this;exact this
     have hlen : (P ++ Z1.take (jp - a)).length = jp := by have := H.out; rw [List.length_append, List.length_take]; omega
     have hBk' := hBk;rw [hZ1] at hBk';rw [show P ++ (Z1.take (jp - a) ++ [z]) ++ x :: (Z2 ++ (Q.drop (i - a + 1) ++ S)) = (P ++ Z1.take (jp - a)) ++ z :: x :: (Z2 ++ (Q.drop (i - a + 1) ++ S)) by simp] at hBk';obtain ⟨s1, s2, _⟩ := next_st (x := z) (y := x) (C := Z2 ++ (Q.drop (i - a + 1) ++ S)) hlen;have s3 := next_ts (x := z) (y := x) (C := Z2 ++ (Q.drop (i - a + 1) ++ S)) hlen;obtain ⟨k1, hk1⟩ := nx (jp + 1);rw [← hk1] at s2 s3;have c1 : wr.cell? ⟨g, jp, none⟩ = some (.int .i64 (z : Int)) := hBk'.cell s1;have c2 : wr.cell? ⟨g, k1, none⟩ = some (.int .i64 (x : Int)) := hBk'.cell s2;have hzx' := hzx.out z (by rw [← he]; exact List.mem_append_left _ (mem_of_get hzz));have hc := fun q => H.out.1.at_ H.out.2.1 hF.out hxn hzx'.1 q
     have ea : ((jp : Int) + 1).toNat = k1 := (by omega);have p1 : (0 : Int) ≤ (jp : Int) + 1 := (by omega);have p2 : (jp : Int) + 1 < (N : Int) := (by omega);have p3 : (jp : Int) < (N : Int) := (by omega);have t1 : decide ((a : Int) < (jp : Int) + 1) = true := decide_eq_true (by omega)
     cases hd : decide (cv x z < 0) with
     | true =>
      have hk : key x ≤ key z := by have h9 := hzx'.2; unfold ltC at h9; rw [hd] at h9; have := of_decide_eq_true h9.symm; omega
      have z1 : ∀ q, (wr.drewN q).frozen? ⟨g, jp, none⟩ = false := fun q => hBk'.frozen
      have z2 : ∀ q, (wr.drewN q).frozen? ⟨g, k1, none⟩ = false := fun q => hBk'.frozen
      have N1 : Hid (∀ W, Blk W g ((P ++ Z1.take (jp - a)) ++ z :: x :: (Z2 ++ (Q.drop (i - a + 1) ++ S))) → Blk ((W.setCell ⟨g, k1, none⟩ (.int .i64 (z : Int))).setCell ⟨g, jp, none⟩ (.int .i64 (x : Int))) g (P ++ Z1.take (jp - a) ++ x :: ((z :: Z2) ++ (Q.drop (i - a + 1) ++ S)))) := Hq (fun W hW => by
       have h9 := (hW.put (i := k1) z).put (i := jp) x;rw [s3] at h9;exact h9)
      have HX : Hid (Z1.take (jp - a) ++ (z :: Z2) = Z ∧ (Z1.take (jp - a)).length = jp - a ∧ ∀ z' ∈ z :: Z2, key x ≤ key z') := Hq ⟨by rw [← he]; conv => rhs; rw [hZ1]; simp, by rw [List.length_take]; omega, fun z' hz' => by
       rcases List.mem_cons.1 hz' with rfl | hz'
       ·exact hk
       ·exact hk2 z' hz'⟩
      have HB := Hq hBk';have S2 := Hq s2;have S1 := Hq s1;clear s1 s2 s3 hZ1 hlen hBk' hBk he hl hk2 hzz hzx' hk1 hk hI;go_wp2_with fail;go_quiet (first | (go_at_call 69; exact hc _));have hF1 : Hid (Foot (· = g) w (wr.drewN nq)) := Hq (hF.out.drewN nq);have hB1 := HB.out.drewN nq;clear c1 c2 hc hd hF HB z1 z2;generalize wr.drewN nq = W at hF1 hB1 ⊢;have c1 : W.cell? ⟨g, jp, none⟩ = some (.int .i64 (z : Int)) := hB1.cell S1.out;have c2 : W.cell? ⟨g, k1, none⟩ = some (.int .i64 (x : Int)) := hB1.cell S2.out;have z1 : W.frozen? ⟨g, jp, none⟩ = false := hB1.frozen;have z2 : W.frozen? ⟨g, k1, none⟩ = false := hB1.frozen;obtain ⟨u, c3⟩ := hB1.cell2 (i := k1) S1.out z;have N2 := Hq (N1.out W hB1);have N3 : Hid (Foot (· = g) w ((W.setCell ⟨g, k1, none⟩ (.int .i64 (z : Int))).setCell ⟨g, jp, none⟩ (.int .i64 (x : Int)))) := Hq ((hF1.out.setCell (p := ⟨g, k1, none⟩) (.inl rfl) _).setCell (p := ⟨g, jp, none⟩) (.inl rfl) _);clear hB1 hF1 N1 S1 S2;go_wp2_with fail;go_region;clear c1 c2 c3 z1 z2;have N2' : Hid (Blk ((W.setCell ⟨g, k1, none⟩ (.int .i64 (z : Int))).setCell ⟨g, jp, none⟩ (.int .i64 (x : Int))).drew g (P ++ Z1.take (jp - a) ++ x :: ((z :: Z2) ++ (Q.drop (i - a + 1) ++ S)))) := N2;have N3' : Hid (Foot (· = g) w ((W.setCell ⟨g, k1, none⟩ (.int .i64 (z : Int))).setCell ⟨g, jp, none⟩ (.int .i64 (x : Int))).drew) := Hq N3.out.drew;clear N2 N3;generalize ((W.setCell ⟨g, k1, none⟩ (.int .i64 (z : Int))).setCell ⟨g, jp, none⟩ (.int .i64 (x : Int))).drew = W2 at N2' N3' ⊢;go_wp2
      go_roundw
      case rel => exact ⟨jp, by go_num, by omega, by omega, N3', Hq ⟨_, _, N2'.out, HX.out⟩⟩
      case measure => simp [intOf]
     | false =>
      have hk : key z ≤ key x := by have h9 := hzx'.2; unfold ltC at h9; rw [hd] at h9; have := of_decide_eq_false h9.symm; omega
      have HX : Hid (∀ W, Blk W g (P ++ Z1 ++ x :: (Z2 ++ (Q.drop (i - a + 1) ++ S))) → ∃ Z, Blk W g (P ++ (Z ++ Q.drop (i + 1 - a)) ++ S) ∧ Z.Perm (Q.take (i + 1 - a)) ∧ Asc key Z) := Hq (fun W hW => by
       refine ⟨Z1 ++ x :: Z2, by rw [show i + 1 - a = i - a + 1 by omega]; simpa using hW, HP.out _ ?_, ?_⟩
       ·rw [← he]; exact List.perm_middle
       ·refine asc_cons_mid (by rw [he]; exact HZ.out.1) (.inr fun y hy => ?_) hk2;rw [hZ1, List.getLast?_append] at hy;simp at hy;subst hy;exact hk)
      have HB := Hq hBk;clear s1 s2 s3 hZ1 hlen hBk' hBk he hl hk2 hzz hzx' hk1 hk hI;go_wp2_with fail;go_quiet (first | (go_at_call 69; exact hc _));have hF1 : Hid (Foot (· = g) w (wr.drewN nq)) := Hq (hF.out.drewN nq);have hB1 := Hq (HX.out _ (HB.out.drewN nq));clear c1 c2 hc hd hF HB HX;generalize wr.drewN nq = W at hF1 hB1 ⊢;go_wp2
      go_roundw
      case rel => exact ⟨i + 1, by go_num, by omega, by omega, hF1, hB1⟩
      case measure => simp [intOf]; omega
    ·obtain rfl : j = a := by omega
     have t1 : decide (j < j) = false := decide_eq_false (by omega);obtain ⟨Z1, Z2, hBk, he, hl, hk2⟩ := hI.out;obtain rfl : Z1 = [] := List.length_eq_zero_iff.1 (by omega);have HX : Hid (∃ Z, Blk wr g (P ++ (Z ++ Q.drop (i + 1 - j)) ++ S) ∧ Z.Perm (Q.take (i + 1 - j)) ∧ Asc key Z) := Hq (by
      refine ⟨x :: Z2, by rw [show i + 1 - j = i - j + 1 by omega]; simpa using hBk, HP.out _ (by rw [← he]; exact List.Perm.refl _), ?_⟩;refine asc_cons_mid (A := []) (by rw [he]; exact HZ.out.1) (.inl rfl) hk2)
     clear hBk he hl hk2 hI hja;go_wp2_with fail;go_region;have hF1 : Hid (Foot (· = g) w wr.drew) := Hq hF.out.drew;have hX1 : Hid (∃ Z, Blk wr.drew g (P ++ (Z ++ Q.drop (i + 1 - j)) ++ S) ∧ Z.Perm (Q.take (i + 1 - j)) ∧ Asc key Z) := HX;clear HX hF;generalize wr.drew = W at hF1 hX1 ⊢;go_wp2
     go_roundw
     case rel => exact ⟨i + 1, by go_num, by omega, by omega, hF1, hX1⟩
     case measure => simp [intOf]; omega
  ·have HX : Hid (∃ Z, Blk wr g (P ++ Z ++ S) ∧ Z.Perm Q ∧ Asc key Z) := Hq (by
    obtain ⟨Z, h1, h2, h3⟩ := hZ.out;have hh := H.out;rw [List.drop_eq_nil_of_le (by omega), List.append_nil] at h1;rw [List.take_of_length_le (by omega)] at h2;exact ⟨Z, h1, h2, h3⟩)
   have t1 : decide (i < b) = false := decide_eq_false hlt;clear hZ hlt;go_wp2
   go_end0
   exact ⟨rfl, hF.out, HX⟩
end
section
open Go.RowKit
open PK
set_option maxRecDepth 100000 in
set_option maxHeartbeats 4000000 in
theorem stable_any (key : Nat → Nat) (g n : Nat) (v0 : Value) (cv : Nat → Nat → Int) (w : World) (hC : Cmp g n v0 cv w) (hr : ∀ x y, x < y → y < n → ltC cv y x = decide (key y < key x)) (hn : n ≤ 500000) (hB : Blk w g (List.range n)) :
  Calls Tryz.prog 77 #[.slice (some ⟨g, 0, none⟩) n n, .int .i64 (n : Nat), .func (.func 69) #[] #[v0]] w fun e w' =>
   e = .returned (.tuple #[]) ∧ Foot (· = g) w w' ∧ Hid (∃ Z, Blk w' g Z ∧ Z.Perm (List.range n) ∧ Asc key Z) := by
 obtain ⟨R, hR⟩ := nx (List.range n);rw [← hR] at hB ⊢;have hRl : R.length = n := by rw [hR, List.length_range]
 have hRise : Rise key (ltC cv) R := by
  rw [hR];refine List.pairwise_iff_getElem.2 fun i j hi hj hij => ?_
  simp at hi hj ⊢;exact hr i j hij hj
 have HI := Hq (fun (a b : Nat) (P Q S : List Nat) (W : World) (hF : Foot (· = g) w W) (hQ : Q.Sublist R) => ins_any key g n n a b v0 cv w P Q S W hC hF (fun z hz => by have := hQ.subset hz; rw [hR] at this; simpa using this) (hRise.sublist hQ));have HM := Hq (fun (P S L : List Nat) (s q : Nat) (hT : Tiled key s R L) (h1 : 0 < (tile s (2 * q) L).length) (h2 : 0 < (tile s (2 * q + 1) L).length) =>
  sym_any key g n n v0 cv w hC (by omega) _ P (tile s (2 * q) L) (tile s (2 * q + 1) L) S (Nat.le_refl _) h1 h2 (two_rel hr (hR ▸ hT)) (hT.asc _) (hT.asc _) (tile_lt (hR ▸ hT)) (tile_lt (hR ▸ hT)))
 have H0 := Hq hRl;have HB : Hid (∃ q D, Blk w g (D ++ R.drop 0) ∧ Part key 20 R D q ∧ 0 = q * 20) := Hq ⟨0, [], hB, Part.nil, rfl⟩;have HF := Hq (Foot.refl (· = g) w);clear hC hr hR hRl hRise hB;go_enter Tryz.func77, Tryz.ntmps77;go_wp2;go_loopw [7, 8] (fun va vb wr => ∃ a b : Nat, va = .int .i64 (a : Nat) ∧ vb = .int .i64 (b : Nat) ∧ b = a + 20 ∧ a ≤ n ∧ Hid (Foot (· = g) w wr) ∧ Hid (∃ q D, Blk wr g (D ++ R.drop a) ∧ Part key 20 R D q ∧ a = q * 20)) (fun va _ _ => n - (intOf va).toNat)
 case atStart => exact ⟨0, 20, rfl, rfl, rfl, by omega, HF, HB⟩
 case round =>
  clear HB HF;obtain ⟨a, b, rfl, rfl, hab, han, hF, hI⟩ := hrel;by_cases hle : b ≤ n
  ·have hC : Hid (Calls Tryz.prog 84 #[.slice (some ⟨g, 0, none⟩) n n, .int .i64 (a : Nat), .int .i64 (b : Nat), .func (.func 69) #[] #[v0]] wr fun e w' =>
     e = .returned (.tuple #[]) ∧ Foot (· = g) wr w' ∧ Hid (∃ q D, Blk w' g (D ++ R.drop b) ∧ Part key 20 R D q ∧ b = q * 20)) := Hq (by
    obtain ⟨q, D, hb, hp, ha⟩ := hI.out;have hn := H0.out;have et : tile 20 q R = (R.drop a).take 20 := by unfold tile; rw [ha]
    have ed : R.drop b = (R.drop a).drop 20 := (by rw [List.drop_drop, hab]);have el : ((R.drop a).take 20).length = 20 := by rw [List.length_take, List.length_drop]; omega
    refine (HI.out a b D ((R.drop a).take 20) (R.drop b) wr hF.out ((List.take_sublist _ _).trans (List.drop_sublist _ _)) (by rw [hp.len]; omega) (by rw [hp.len, el]; omega) (by rw [hp.len, el, List.length_drop]; omega) (by omega) (by rw [ed, List.append_assoc, List.take_append_drop]; exact hb)).mono ?_;rintro e w' ⟨he, hf, hz⟩;obtain ⟨Z, z1, z2, z3⟩ := hz.out;exact ⟨he, hf, Hq ⟨q + 1, D ++ Z, z1, hp.step (by rw [et]; exact z2) z3 (by rw [z2.length_eq, el]), by omega⟩⟩)
   have t1 : decide (b ≤ n) = true := decide_eq_true hle;have Hab := Hq hab;have hab' : a < b := (by omega);clear hI hab;go_wp2_with fail;refine hC.out.mono ?_;rintro e w1 ⟨rfl, hf1, hI1⟩;have hF1 := Hq (hF.out.trans hf1 fun _ h => .inl h);clear hC hF hf1;go_wp2
   go_roundw
   case rel => exact ⟨b, b + 20, rfl, by go_num, rfl, hle, hF1, hI1⟩
   case measure => simp [intOf]; omega
  ·have hC : Hid (Calls Tryz.prog 84 #[.slice (some ⟨g, 0, none⟩) n n, .int .i64 (a : Nat), .int .i64 (n : Nat), .func (.func 69) #[] #[v0]] wr fun e w' =>
     e = .returned (.tuple #[]) ∧ Foot (· = g) wr w' ∧ Hid (∃ L, Blk w' g L ∧ Tiled key 20 R L)) := Hq (by
    obtain ⟨q, D, hb, hp, ha⟩ := hI.out;have hn := H0.out;have et : tile 20 q R = R.drop a := by unfold tile; rw [← ha, List.take_of_length_le (by rw [List.length_drop]; omega)]
    refine (HI.out a n D (R.drop a) [] wr hF.out (List.drop_sublist _ _) (by rw [hp.len]; omega) (by rw [hp.len, List.length_drop]; omega) (by rw [hp.len, List.length_drop]; simp; omega) (by omega) (by rw [List.append_nil]; exact hb)).mono ?_;rintro e w' ⟨he, hf, hz⟩;obtain ⟨Z, z1, z2, z3⟩ := hz.out;exact ⟨he, hf, Hq ⟨D ++ Z, by simpa using z1, hp.done (by rw [et]; exact z2) z3 (by omega) (by omega)⟩⟩)
   have t1 : decide (b ≤ n) = false := decide_eq_false hle;clear hI hab hle;go_wp2_with fail;refine hC.out.mono ?_;rintro e w1 ⟨rfl, hf1, hI1⟩;have hF1 := Hq (hF.out.trans hf1 fun _ h => .inl h);have HT : Hid (∃ L, Blk w1 g L ∧ Tiled key 20 R L) := hI1;clear hC hF hf1 hI1 t1 han;go_wp2;go_loopw [6, 7, 8, 9] (fun vs v7 v8 v9 wr => ∃ s : Nat, vs = .int .i64 (s : Nat) ∧ 20 ≤ s ∧ s ≤ 1000000 ∧ Hid (Foot (· = g) w wr) ∧ Hid (∃ L, Blk wr g L ∧ Tiled key s R L)) (fun vs _ _ _ _ => n - (intOf vs).toNat)
   case atStart => exact ⟨20, rfl, by omega, by omega, hF1, HT⟩
   case round =>
    clear hF1 HT;obtain ⟨s, rfl, hs20, hs1, hF, hT⟩ := hrel;by_cases hsn : s < n
    ·obtain ⟨L, hBk, hTl⟩ := hT.out;have HTL := Hq hTl;have HLl : Hid (L.length = n) := Hq (by rw [hTl.len]; exact H0.out);have HI0 : Hid (∃ q D, Blk wr g (D ++ L.drop 0) ∧ Part key (2 * s) R D q ∧ 0 = q * (2 * s)) := Hq ⟨0, [], by simpa using hBk, Part.nil, by simp⟩;have hF0 := hF;have t1 : decide (s < n) = true := decide_eq_true hsn;clear hT hBk hTl hF;go_wp2;go_loopw [7, 8] (fun va vb wr => ∃ a b : Nat, va = .int .i64 (a : Nat) ∧ vb = .int .i64 (b : Nat) ∧ b = a + 2 * s ∧ a ≤ n ∧ Hid (Foot (· = g) w wr) ∧ Hid (∃ q D, Blk wr g (D ++ L.drop a) ∧ Part key (2 * s) R D q ∧ a = q * (2 * s))) (fun va _ _ => n - (intOf va).toNat)
     case atStart => exact ⟨0, 2 * s, rfl, by go_num, by omega, by omega, hF0, HI0⟩
     case round =>
      clear hF0 HI0;obtain ⟨a, b, rfl, rfl, hab, han, hF, hI⟩ := hrel;obtain ⟨m, hm⟩ := nx (a + s);have em : (a : Int) + (s : Int) = (m : Int) := (by omega);have hmb : m < b := (by omega);have ham : a < m := (by omega);by_cases hle : b ≤ n
      ·have hC : Hid (Calls Tryz.prog 85 #[.slice (some ⟨g, 0, none⟩) n n, .int .i64 (a : Nat), .int .i64 (m : Nat), .int .i64 (b : Nat), .func (.func 69) #[] #[v0]] wr fun e w' =>
        e = .returned (.tuple #[]) ∧ Foot (· = g) wr w' ∧ Hid (∃ q D, Blk w' g (D ++ L.drop b) ∧ Part key (2 * s) R D q ∧ b = q * (2 * s))) := Hq (by
        obtain ⟨q, D, hb, hp, ha⟩ := hI.out;have hn := HLl.out;obtain ⟨c1, c2, c3, c4⟩ := two_cut ha HTL.out;have l1 : (tile s (2 * q) L).length = s := (by omega);have l2 : (tile s (2 * q + 1) L).length = s := (by omega);have ed : L.drop b = (L.drop a).drop (2 * s) := (by rw [List.drop_drop, hab]);have hpl := hp.len;rw [← ha] at hpl;refine (HM.out D (L.drop b) L s q HTL.out (by omega) (by omega) wr a m b hF.out (by
         rw [List.append_assoc D, ← c1, ed, List.append_assoc, List.take_append_drop]; exact hb) hpl (by omega) (by omega) (by rw [List.length_drop]; omega)).mono ?_
        rintro e w' ⟨he, hf, hz⟩;obtain ⟨Z, z1, z2, z3⟩ := hz.out;exact ⟨he, hf, Hq ⟨q + 1, D ++ Z, z1, hp.step (c4 Z z2) z3 (by rw [z2.length_eq, List.length_append]; omega), by rw [Nat.succ_mul]; omega⟩⟩)
       have t2 : decide (b ≤ n) = true := decide_eq_true hle;have Hab := Hq (Ai hab hm);have hab2 : a < b := (by omega);clear hI hab hm;go_wp2_with fail;refine hC.out.mono ?_;rintro e w1 ⟨rfl, hf1, hI1⟩;have hF1 := Hq (hF.out.trans hf1 fun _ h => .inl h);clear hC hF hf1;go_wp2
       go_roundw
       case rel => exact ⟨b, b + 2 * s, rfl, by go_num, rfl, hle, hF1, hI1⟩
       case measure => simp [intOf]; omega
      ·have t2 : decide (b ≤ n) = false := decide_eq_false hle;by_cases hmn : m < n
       ·have hC : Hid (Calls Tryz.prog 85 #[.slice (some ⟨g, 0, none⟩) n n, .int .i64 (a : Nat), .int .i64 (m : Nat), .int .i64 (n : Nat), .func (.func 69) #[] #[v0]] wr fun e w' =>
        e = .returned (.tuple #[]) ∧ Foot (· = g) wr w' ∧ Hid (∃ L, Blk w' g L ∧ Tiled key (2 * s) R L)) := Hq (by
         obtain ⟨q, D, hb, hp, ha⟩ := hI.out;have hn := HLl.out;have hRl := H0.out;obtain ⟨c1, c2, c3, c4⟩ := two_cut ha HTL.out;have hpl := hp.len;rw [← ha] at hpl;have ed : L.drop a = tile s (2 * q) L ++ tile s (2 * q + 1) L := by rw [← c1, List.take_of_length_le (by rw [List.length_drop]; omega)]
         refine (HM.out D [] L s q HTL.out (by omega) (by omega) wr a m n hF.out (by
          rw [List.append_nil, List.append_assoc D, ← ed]; exact hb) hpl (by omega) (by omega) (by simp; omega)).mono ?_
         rintro e w' ⟨he, hf, hz⟩;obtain ⟨Z, z1, z2, z3⟩ := hz.out;exact ⟨he, hf, Hq ⟨D ++ Z, by simpa using z1, hp.done (c4 Z z2) z3 (by omega) (by rw [Nat.succ_mul]; omega)⟩⟩)
        have t3 : decide (m < n) = true := decide_eq_true hmn;clear hI hab hm hle;go_wp2_with fail;refine hC.out.mono ?_;rintro e w1 ⟨rfl, hf1, hI1⟩;have hF1 := Hq (hF.out.trans hf1 fun _ h => .inl h);clear hC hF hf1;go_wp2
        go_roundw
        case rel => exact ⟨2 * s, by go_num, by omega, by omega, hF1, hI1⟩
        case measure => simp [intOf]; omega
       ·have hI1 : Hid (∃ L, Blk wr g L ∧ Tiled key (2 * s) R L) := Hq (by
         obtain ⟨q, D, hb, hp, ha⟩ := hI.out;have hn := HLl.out;have hRl := H0.out;obtain ⟨c1, c2, c3, c4⟩ := two_cut ha HTL.out;have ed : L.drop a = tile s (2 * q) L ++ tile s (2 * q + 1) L := by rw [← c1, List.take_of_length_le (by rw [List.length_drop]; omega)]
         have e0 : tile s (2 * q + 1) L = [] := List.length_eq_zero_iff.1 (by omega);refine ⟨D ++ L.drop a, hb, hp.done (c4 _ (by rw [ed])) ?_ (by omega) (by rw [Nat.succ_mul]; omega)⟩;rw [ed, e0, List.append_nil];exact HTL.out.asc _)
        have t3 : decide (m < n) = false := decide_eq_false hmn;have hF1 := hF;clear hI hab hm hle hF;go_wp2
        go_roundw
        case rel => exact ⟨2 * s, by go_num, by omega, by omega, hF1, hI1⟩
        case measure => simp [intOf]; omega
    ·have hR : Hid (∃ Z, Blk wr g Z ∧ Z.Perm R ∧ Asc key Z) := Hq (by
      obtain ⟨L, h1, h2⟩ := hT.out;obtain ⟨h3, h4⟩ := h2.one (by have := H0.out; omega);exact ⟨L, h1, h3, h4⟩)
     have t1 : decide (s < n) = false := decide_eq_false hsn;clear hT hsn;go_wp2
     go_end0
     exact ⟨rfl, hF.out, hR⟩
set_option maxRecDepth 100000 in
theorem sortstable_any (key : Nat → Nat) (g n : Nat) (v0 : Value) (cv : Nat → Nat → Int) (w : World) (hC : Cmp g n v0 cv w) (hr : ∀ x y, x < y → y < n → ltC cv y x = decide (key y < key x)) (hn : n ≤ 500000) (hB : Blk w g (List.range n)) :
  Calls Tryz.prog 68 #[.slice (some ⟨g, 0, none⟩) n n, .func (.func 69) #[] #[v0]] w fun e w' =>
   e = .returned (.tuple #[]) ∧ Foot (· = g) w w' ∧ Hid (∃ Z, Blk w' g Z ∧ Z.Perm (List.range n) ∧ Asc key Z) := by
 have hS := Hq (stable_any key g n v0 cv w hC hr hn hB);clear hC hr hB;go_enter Tryz.func68, Tryz.ntmps68;go_wp2_with fail;refine hS.out.mono ?_;rintro e w1 ⟨rfl, hf1, hI1⟩;go_wp2
 go_end0
 exact ⟨rfl, hf1, hI1⟩
end
end Go.Proofs.YtkkkhonjcbhelaaGreatDoor
