/- swapRangeCmpFunc and rotateCmpFunc of package slices, at numbers in one block. -/
import Derived.RegionTactic
import Derived.BigRegion
import Derived.BigQuiet
import Derived.Test.YteflblcbmkcidaaDoorPackMath
import Derived.Test.YteflblcbmkcidaaDoorFoot
import Derived.Test.YteflblcbmkcidaaDoorProg
namespace Go.Proofs.YteflblcbmkcidaaDoor
open Go.RowKit
namespace PK
/-- A block of numbers. -/
def Blk (w : World) (g : Nat) (L : List Nat) : Prop := w.heap[g]? = some (.cells (nums L) 3 (0, 0))
theorem Blk.cell {w : World} {g i x : Nat} {L : List Nat} (h : Blk w g L) (hi : L[i]? = some x) : w.cell? ⟨g, i, none⟩ = some (.int .i64 (x : Int)) := cell_blk h (nums_get hi)
theorem Blk.frozen {w : World} {g i : Nat} {L : List Nat} (h : Blk w g L) : w.frozen? ⟨g, i, none⟩ = false := frozen_blk h
theorem Blk.put {w : World} {g i : Nat} {L : List Nat} (h : Blk w g L) (x : Nat) : Blk (w.setCell ⟨g, i, none⟩ (.int .i64 (x : Int))) g (L.set i x) := by
  have := blk_put (i := i) (.int .i64 (x : Int)) h
  rw [nums_set] at this
  exact this
theorem Blk.lt {w : World} {g : Nat} {L : List Nat} (h : Blk w g L) : g < w.heap.size := blk_lt h
theorem Blk.cell2 {w : World} {g i j x : Nat} {L : List Nat} (h : Blk w g L) (hi : L[j]? = some x) (y : Nat) : ∃ u, (w.setCell ⟨g, i, none⟩ (.int .i64 (y : Int))).cell? ⟨g, j, none⟩ = some u := by
  have hj := (List.getElem?_eq_some_iff.1 hi).1
  obtain ⟨z, hz⟩ := get_of_lt (L := L.set i y) (k := j) (by rw [List.length_set]; exact hj)
  exact ⟨_, (h.put y).cell hz⟩
end PK
open PK
set_option maxRecDepth 100000 in
set_option maxHeartbeats 2000000 in
theorem swaprange_any (g N a b n : Nat) (P X M Y S : List Nat) (fv : Value) (w : World) (hX : X.length = n) (hY : Y.length = n) (ha : P.length = a) (hb : P.length + X.length + M.length = b) (hN : P.length + X.length + M.length + Y.length + S.length = N) (hNl : N ≤ 1000000) (hB : Blk w g (P ++ X ++ M ++ Y ++ S)) :
    Calls Tryd.prog 46 #[.slice (some ⟨g, 0, none⟩) N N, .int .i64 (a : Nat), .int .i64 (b : Nat), .int .i64 (n : Nat), fv] w fun e w' => e = .returned (.tuple #[]) ∧ Foot (· = g) w w' ∧ Blk w' g (P ++ Y ++ M ++ X ++ S) := by
  have H := Lib.hid (And.intro hX (And.intro hY (And.intro ha (And.intro hb hN))))
  have hab : a + n ≤ N := by omega
  have hbn : b + n ≤ N := by omega
  have hB0 : Blk w g (swapSt P X M Y S 0) := by rw [swapSt_zero]; exact hB
  have HB := Lib.hid hB0
  have HF := Lib.hid (Foot.refl (· = g) w)
  clear hX hY ha hb hN hB hB0
  go_enter Tryd.func46, Tryd.ntmps46
  go_wp2
  go_loopw [10] (fun i wr => ∃ k : Nat, i = .int .i64 k ∧ k ≤ n ∧ Hid (Foot (· = g) w wr) ∧ Hid (Blk wr g (swapSt P X M Y S k))) (fun i _ => n - (intOf i).toNat)
  case atStart => exact ⟨0, rfl, by omega, HF, HB⟩
  case round =>
    clear HB HF
    obtain ⟨k, rfl, hk, hF, hBk⟩ := hrel
    by_cases hlt : k < n
    · obtain ⟨x, hx⟩ := get_of_lt (L := X) (k := k) (by rw [H.out.1]; exact hlt)
      obtain ⟨y, hy⟩ := get_of_lt (L := Y) (k := k) (by rw [H.out.2.1]; exact hlt)
      obtain ⟨ia, hia⟩ : ∃ q, q = a + k := ⟨_, rfl⟩
      obtain ⟨ib, hib⟩ : ∃ q, q = b + k := ⟨_, rfl⟩
      obtain ⟨s1, s2, s3⟩ := swapSt_step (P := P) (M := M) (S := S) (a := ia) (b := ib) hx hy (by have := H.out; omega) (by have := H.out; omega)
      have c1 := hBk.out.cell s1
      have c2 := hBk.out.cell s2
      have z1 : wr.frozen? ⟨g, ia, none⟩ = false := hBk.out.frozen
      have z2 : wr.frozen? ⟨g, ib, none⟩ = false := hBk.out.frozen
      obtain ⟨u, c3⟩ := hBk.out.cell2 (i := ia) s2 y
      have N1 : Hid (Blk ((wr.setCell ⟨g, ia, none⟩ (.int .i64 (y : Int))).setCell ⟨g, ib, none⟩ (.int .i64 (x : Int))) g (swapSt P X M Y S (k + 1))) := Lib.hid (by rw [← s3]; exact (hBk.out.put y).put x)
      have N2 : Hid (Foot (· = g) w ((wr.setCell ⟨g, ia, none⟩ (.int .i64 (y : Int))).setCell ⟨g, ib, none⟩ (.int .i64 (x : Int)))) := Lib.hid ((hF.out.setCell (p := ⟨g, ia, none⟩) (.inl rfl) _).setCell (p := ⟨g, ib, none⟩) (.inl rfl) _)
      have ea : ((a : Int) + (k : Int)).toNat = ia := by omega
      have eb : ((b : Int) + (k : Int)).toNat = ib := by omega
      have p1 : (0 : Int) ≤ (a : Int) + (k : Int) := by omega
      have p2 : (a : Int) + (k : Int) < (N : Int) := by omega
      have p3 : (0 : Int) ≤ (b : Int) + (k : Int) := by omega
      have p4 : (b : Int) + (k : Int) < (N : Int) := by omega
      have t1 : decide (k < n) = true := by simpa using hlt
      clear s1 s2 s3 hx hy hia hib hBk hF
      go_wp2_with fail
      go_region
      clear c1 c2 c3 z1 z2
      have N1' : Hid (Blk ((wr.setCell ⟨g, ia, none⟩ (.int .i64 (y : Int))).setCell ⟨g, ib, none⟩ (.int .i64 (x : Int))).drew g (swapSt P X M Y S (k + 1))) := N1
      have N2' : Hid (Foot (· = g) w ((wr.setCell ⟨g, ia, none⟩ (.int .i64 (y : Int))).setCell ⟨g, ib, none⟩ (.int .i64 (x : Int))).drew) := Lib.hid N2.out.drew
      clear N1 N2
      generalize ((wr.setCell ⟨g, ia, none⟩ (.int .i64 (y : Int))).setCell ⟨g, ib, none⟩ (.int .i64 (x : Int))).drew = W at N1' N2' ⊢
      go_wp2
      go_roundw
      case rel => exact ⟨k + 1, by go_num, by omega, N2', N1'⟩
      case measure => simp [intOf]; omega
    · obtain rfl : k = n := by omega
      clear hlt
      go_wp2
      go_end0
      refine ⟨rfl, hF.out, ?_⟩
      have := hBk.out
      rw [← H.out.2.1, swapSt_all (by rw [H.out.1, H.out.2.1])] at this
      exact this
set_option maxRecDepth 100000 in
set_option maxHeartbeats 2000000 in
theorem rotate_any (g N a m b : Nat) (P X Y S : List Nat) (fv : Value) (w : World) (hX : 0 < X.length) (hY : 0 < Y.length) (ha : P.length = a) (hm : P.length + X.length = m) (hb : P.length + X.length + Y.length = b) (hN : P.length + X.length + Y.length + S.length = N) (hNl : N ≤ 1000000) (hB : Blk w g (P ++ X ++ Y ++ S)) :
    Calls Tryd.prog 43 #[.slice (some ⟨g, 0, none⟩) N N, .int .i64 (a : Nat), .int .i64 (m : Nat), .int .i64 (b : Nat), fv] w fun e w' => e = .returned (.tuple #[]) ∧ Foot (· = g) w w' ∧ Blk w' g (P ++ Y ++ X ++ S) := by
  obtain ⟨T, hT⟩ : ∃ T, T = P ++ Y ++ X ++ S := ⟨_, rfl⟩
  rw [← hT]
  have HST : Hid (∃ P' X' Y' S' : List Nat, Blk w g (P' ++ X' ++ Y' ++ S') ∧ P'.length + X'.length = m ∧ X'.length = m - a ∧ Y'.length = b - m ∧ m + Y'.length + S'.length = N ∧ P' ++ Y' ++ X' ++ S' = T) := Lib.hid ⟨P, X, Y, S, hB, hm, by omega, by omega, by omega, hT.symm⟩
  have hma : a < m := by omega
  have hmb : m < b := by omega
  have hbN : b ≤ N := by omega
  have e1 : (m : Int) - (a : Int) = ((m - a : Nat) : Int) := by omega
  have e2 : (b : Int) - (m : Int) = ((b - m : Nat) : Int) := by omega
  obtain ⟨i0, hi0⟩ : ∃ q, q = m - a := ⟨_, rfl⟩
  obtain ⟨j0, hj0⟩ : ∃ q, q = b - m := ⟨_, rfl⟩
  rw [← hi0] at e1 HST
  rw [← hj0] at e2 HST
  have q1 : 0 < i0 := by omega
  have q2 : 0 < j0 := by omega
  have q3 : i0 ≤ m := by omega
  have q4 : m + j0 ≤ N := by omega
  have HF := Lib.hid (Foot.refl (· = g) w)
  have HS := Lib.hid (fun (a b n : Nat) P X M Y S W => swaprange_any g N a b n P X M Y S fv W)
  clear hT hX hY ha hm hb hN hB hi0 hj0 hma hmb hbN
  go_enter Tryd.func43, Tryd.ntmps43
  go_wp2
  go_loopw [10, 11] (fun vi vj wr => ∃ i j : Nat, vi = .int .i64 i ∧ vj = .int .i64 j ∧ 0 < i ∧ 0 < j ∧ i ≤ m ∧ m + j ≤ N ∧ Hid (Foot (· = g) w wr) ∧ Hid (∃ P' X' Y' S' : List Nat, Blk wr g (P' ++ X' ++ Y' ++ S') ∧ P'.length + X'.length = m ∧ X'.length = i ∧ Y'.length = j ∧ m + Y'.length + S'.length = N ∧ P' ++ Y' ++ X' ++ S' = T)) (fun vi vj _ => (intOf vi).toNat + (intOf vj).toNat)
  case atStart => exact ⟨i0, j0, by go_num, by go_num, q1, q2, q3, q4, HF, HST⟩
  case round =>
    clear HF HST
    obtain ⟨i, j, rfl, rfl, hi, hj, him, hjm, hF, hS⟩ := hrel
    have r1 : (m : Int) - (i : Int) = ((m - i : Nat) : Int) := by omega
    rcases Nat.lt_trichotomy i j with hij | hij | hij
    · have r2 : (m : Int) + (j : Int) - (i : Int) = ((m + j - i : Nat) : Int) := by omega
      have r3 : (j : Int) - (i : Int) = ((j - i : Nat) : Int) := by omega
      obtain ⟨mi, hmi⟩ : ∃ q, q = m - i := ⟨_, rfl⟩
      obtain ⟨mj, hmj⟩ : ∃ q, q = m + j - i := ⟨_, rfl⟩
      obtain ⟨ji, hji⟩ : ∃ q, q = j - i := ⟨_, rfl⟩
      rw [← hmi] at r1
      rw [← hmj] at r2
      rw [← hji] at r3
      have hC : Hid (Calls Tryd.prog 46 #[.slice (some ⟨g, 0, none⟩) N N, .int .i64 (mi : Nat), .int .i64 (mj : Nat), .int .i64 (i : Nat), fv] wr fun e w' => e = .returned (.tuple #[]) ∧ Foot (· = g) wr w' ∧ Hid (∃ P' X' Y' S' : List Nat, Blk w' g (P' ++ X' ++ Y' ++ S') ∧ P'.length + X'.length = m ∧ X'.length = i ∧ Y'.length = ji ∧ m + Y'.length + S'.length = N ∧ P' ++ Y' ++ X' ++ S' = T)) := Lib.hid (by
        obtain ⟨P', X', Y', S', h1, h2, h3, h4, h5, h6⟩ := hS.out
        have hy : Y'.take ji ++ Y'.drop ji = Y' := List.take_append_drop _ _
        have l1 : (Y'.take ji).length = ji := by rw [List.length_take]; omega
        have l2 : (Y'.drop ji).length = i := by rw [List.length_drop]; omega
        refine (HS.out mi mj i P' X' (Y'.take ji) (Y'.drop ji) S' wr h3 l2 (by omega) (by omega) (by omega) hNl (by rw [List.append_assoc (P' ++ X'), hy]; exact h1)).mono ?_
        rintro e w' ⟨he, hf, hb⟩
        refine ⟨he, hf, Lib.hid ⟨P', Y'.drop ji, Y'.take ji, X' ++ S', by simpa using hb, by omega, l2, l1, by rw [List.length_append]; omega, ?_⟩⟩
        rw [← h6, List.append_assoc P' (Y'.take ji), hy]; simp)
      clear hS hmi hmj
      have t1 : decide ((j : Int) < (i : Int)) = false := decide_eq_false (by omega)
      have t2 : ((i : Int) == (j : Int)) = false := beq_eq_false_iff_ne.2 (by omega)
      go_wp2_with (go_at_call 46; refine hC.out.mono ?_; rintro e w1 ⟨rfl, hf1, hs1⟩)
      go_roundw
      case rel => exact ⟨i, ji, rfl, by go_num, by omega, by omega, by omega, by omega, Lib.hid (hF.out.trans hf1 fun _ h => .inl h), hs1⟩
      case measure => simp [intOf]; omega
    · subst hij
      have hC : Hid (Calls Tryd.prog 46 #[.slice (some ⟨g, 0, none⟩) N N, .int .i64 ((m - i : Nat) : Int), .int .i64 (m : Nat), .int .i64 (i : Nat), fv] wr fun e w' => e = .returned (.tuple #[]) ∧ Foot (· = g) wr w' ∧ Blk w' g T) := Lib.hid (by
        obtain ⟨P', X', Y', S', h1, h2, h3, h4, h5, h6⟩ := hS.out
        refine (HS.out (m - i) m i P' X' [] Y' S' wr h3 h4 (by omega) (by simp; omega) (by simp; omega) hNl (by simpa using h1)).mono ?_
        rintro e w' ⟨he, hf, hb⟩
        exact ⟨he, hf, by rw [← h6]; simpa using hb⟩)
      obtain ⟨mi, hmi⟩ : ∃ q, q = m - i := ⟨_, rfl⟩
      rw [← hmi] at hC r1
      clear hS hmi
      go_wp2_with (go_at_call 46; refine hC.out.mono ?_; rintro e w1 ⟨rfl, hf1, hs1⟩)
      go_end0
      exact ⟨rfl, hF.out.trans hf1 fun _ h => .inl h, hs1⟩
    · have r3 : (i : Int) - (j : Int) = ((i - j : Nat) : Int) := by omega
      obtain ⟨mi, hmi⟩ : ∃ q, q = m - i := ⟨_, rfl⟩
      obtain ⟨ji, hji⟩ : ∃ q, q = i - j := ⟨_, rfl⟩
      rw [← hmi] at r1
      rw [← hji] at r3
      have hC : Hid (Calls Tryd.prog 46 #[.slice (some ⟨g, 0, none⟩) N N, .int .i64 (mi : Nat), .int .i64 (m : Nat), .int .i64 (j : Nat), fv] wr fun e w' => e = .returned (.tuple #[]) ∧ Foot (· = g) wr w' ∧ Hid (∃ P' X' Y' S' : List Nat, Blk w' g (P' ++ X' ++ Y' ++ S') ∧ P'.length + X'.length = m ∧ X'.length = ji ∧ Y'.length = j ∧ m + Y'.length + S'.length = N ∧ P' ++ Y' ++ X' ++ S' = T)) := Lib.hid (by
        obtain ⟨P', X', Y', S', h1, h2, h3, h4, h5, h6⟩ := hS.out
        have hx : X'.take j ++ X'.drop j = X' := List.take_append_drop _ _
        have l1 : (X'.take j).length = j := by rw [List.length_take]; omega
        have l2 : (X'.drop j).length = ji := by rw [List.length_drop]; omega
        refine (HS.out mi m j P' (X'.take j) (X'.drop j) Y' S' wr l1 h4 (by omega) (by omega) (by omega) hNl (by rw [List.append_assoc P', hx]; exact h1)).mono ?_
        rintro e w' ⟨he, hf, hb⟩
        refine ⟨he, hf, Lib.hid ⟨P' ++ Y', X'.drop j, X'.take j, S', hb, by rw [List.length_append]; omega, l2, l1, by omega, ?_⟩⟩
        rw [← h6]
        conv => rhs; rw [← hx]
        simp)
      clear hS hmi
      have t1 : decide ((j : Int) < (i : Int)) = true := decide_eq_true (by omega)
      have t2 : ((i : Int) == (j : Int)) = false := beq_eq_false_iff_ne.2 (by omega)
      go_wp2_with (go_at_call 46; refine hC.out.mono ?_; rintro e w1 ⟨rfl, hf1, hs1⟩)
      go_roundw
      case rel => exact ⟨ji, j, by go_num, rfl, by omega, by omega, by omega, by omega, Lib.hid (hF.out.trans hf1 fun _ h => .inl h), hs1⟩
      case measure => simp [intOf]; omega
end Go.Proofs.YteflblcbmkcidaaDoor
