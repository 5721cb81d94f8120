/- roomiestFirst of package pack: the spots' numbers, those with more room first, like ones in their order. -/
import Derived.Test.YteflblcbmkcidaaDoorPackStable
import Derived.Test.YteflblcbmkcidaaDoorPackFits
namespace Go.Proofs.YteflblcbmkcidaaDoor
open Go.RowKit
open PK
/-- What cmp.Compare answers of two numbers. -/
def cmpI (x y : Int) : Int := if x < y then -1 else if y < x then 1 else 0
theorem nan_any (x : Int) (w : World) : Calls Tryd.prog 31 #[.int .i64 x] w fun e w' => e = .returned (.bool false) ∧ w = w' := by
  have t0 : (x != x) = false := by simp
  go_enter Tryd.func31, Tryd.ntmps31
  go_wp2
  go_ret
  exact ⟨by simp, rfl⟩
theorem compare_any (x y : Int) (w : World) : Calls Tryd.prog 24 #[.int .i64 x, .int .i64 y] w fun e w' => e = .returned (.int .i64 (cmpI x y)) ∧ w = w' := by
  have h1 := Lib.hid (fun W => nan_any x W)
  have h2 := Lib.hid (fun W => nan_any y W)
  obtain ⟨r, hr⟩ : ∃ r, r = cmpI x y := ⟨_, rfl⟩
  rw [← hr]
  have HR := Lib.hid hr
  clear hr
  rcases Int.lt_trichotomy x y with h | h | h
  · have t1 : decide (x < y) = true := decide_eq_true h
    obtain rfl : r = -1 := by rw [HR.out]; unfold cmpI; rw [if_pos h]
    go_enter Tryd.func24, Tryd.ntmps24
    go_wp2_with (go_at_call 31; first | (refine (h1.out _).mono ?_; rintro e w' ⟨rfl, rfl⟩) | (refine (h2.out _).mono ?_; rintro e w' ⟨rfl, rfl⟩))
    go_ret
    exact ⟨rfl, rfl⟩
  · subst h
    have t1 : decide (x < x) = false := decide_eq_false (by omega)
    obtain rfl : r = 0 := by rw [HR.out]; unfold cmpI; rw [if_neg (by omega), if_neg (by omega)]
    go_enter Tryd.func24, Tryd.ntmps24
    go_wp2_with (go_at_call 31; first | (refine (h1.out _).mono ?_; rintro e w' ⟨rfl, rfl⟩) | (refine (h2.out _).mono ?_; rintro e w' ⟨rfl, rfl⟩))
    go_ret
    exact ⟨rfl, rfl⟩
  · have t1 : decide (x < y) = false := decide_eq_false (by omega)
    have t2 : decide (y < x) = true := decide_eq_true h
    obtain rfl : r = 1 := by rw [HR.out]; unfold cmpI; rw [if_neg (by omega), if_pos h]
    go_enter Tryd.func24, Tryd.ntmps24
    go_wp2_with (go_at_call 31; first | (refine (h1.out _).mono ?_; rintro e w' ⟨rfl, rfl⟩) | (refine (h2.out _).mono ?_; rintro e w' ⟨rfl, rfl⟩))
    go_ret
    exact ⟨rfl, rfl⟩
def ftL (L : List Nat) (x : Nat) : Nat := L[x]?.getD 0
def cvL (L : List Nat) (x y : Nat) : Int := cmpI (ftL L y : Nat) (ftL L x : Nat)
def keyL (L : List Nat) (x : Nat) : Nat := (16 - ftL L x) * L.length + x
theorem keyL_rel (L : List Nat) (h16 : ∀ x ∈ L, x ≤ 16) (x y : Nat) (hxy : x < y) (hy : y < L.length) : ltC (cvL L) y x = decide (keyL L y < keyL L x) := by
  have f : ∀ z, ftL L z ≤ 16 := fun z => by
    unfold ftL
    cases h : L[z]? with
    | none => simp
    | some v => exact h16 v (List.mem_of_getElem? h)
  have fx := f x
  have fy := f y
  unfold ltC cvL cmpI keyL
  generalize ftL L x = a at *
  generalize ftL L y = b at *
  generalize L.length = n at *
  have : (if (a : Int) < (b : Int) then (-1 : Int) else if (b : Int) < (a : Int) then 1 else 0) < 0 ↔ a < b := by split <;> (try split) <;> omega
  rw [decide_eq_decide, this]
  constructor
  · intro h
    obtain ⟨d, hd⟩ : ∃ d, 16 - a = (16 - b) + 1 + d := ⟨b - a - 1, by omega⟩
    rw [hd, Nat.add_mul, Nat.add_mul, Nat.one_mul]
    generalize (16 - b) * n = q
    generalize d * n = p
    omega
  · intro h
    rcases Nat.lt_or_ge a b with h1 | h1
    · exact h1
    · exfalso
      have : (16 - a) * n ≤ (16 - b) * n := Nat.mul_le_mul_right n (by omega)
      omega
set_option maxRecDepth 100000 in
theorem cmp_closure (g n bx : Nat) (fa : Option Addr) (fc : Nat) (L : List Nat) (w : World) (hn : L.length = n) (hbx : w.cell? ⟨bx, 0, none⟩ = some (.slice fa n fc)) (hb : bx ≠ g) (hr : Row w fa L) (hg : ∀ a, fa = some a → a.block ≠ g) :
    Cmp g n (.pointer (some ⟨bx, 0, none⟩)) (cvL L) w := by
  intro W hW x y hx hy
  have h1 := Lib.hid (fun W => compare_any (ftL L y : Nat) (ftL L x : Nat) W)
  have hbl := lt_of_cell hbx
  have c0 : W.cell? ⟨bx, 0, none⟩ = some (.slice fa n fc) := (hW.cell (p := ⟨bx, 0, none⟩) hbl hb).trans hbx
  obtain ⟨gf, rfl, hgf, hc⟩ : ∃ gf, fa = some ⟨gf, 0, none⟩ ∧ gf < w.heap.size ∧ ∀ j, j < L.length → w.cell? ⟨gf, j, none⟩ = some (.int .i64 ((L[j]?.getD 0 : Nat) : Int)) := by
    rcases hr with h | h
    · rw [h] at hn; simp at hn; omega
    · exact h
  have hne := hg _ rfl
  have c1 : W.cell? ⟨gf, x, none⟩ = some (.int .i64 (ftL L x : Nat)) := (hW.cell (p := ⟨gf, x, none⟩) hgf hne).trans (hc x (by omega))
  have c2 : W.cell? ⟨gf, y, none⟩ = some (.int .i64 (ftL L y : Nat)) := (hW.cell (p := ⟨gf, y, none⟩) hgf hne).trans (hc y (by omega))
  have e : cvL L x y = cmpI (ftL L y : Nat) (ftL L x : Nat) := rfl
  rw [e]
  have j1 : (x : Int) < (n : Int) := by omega
  have j2 : (y : Int) < (n : Int) := by omega
  clear e hc hr hbx hW hn
  generalize ftL L x = p at *
  generalize ftL L y = q at *
  go_enter Tryd.func23, Tryd.ntmps23
  go_wp2_with fail
  go_quiet (first | (go_at_call 24; exact Calls.quiet_of_same ((h1.out _).mono fun e w' h => ⟨h.1, h.2.symm⟩)))
  go_wp2
  go_ret
  exact ⟨rfl, nq, rfl⟩
/-- The spots' numbers, as they were made: 0 and on. -/
def firstN (n k : Nat) : List Nat := List.range k ++ List.replicate (n - k) 0
theorem firstN_set {n k : Nat} (h : k < n) : (firstN n k).set k k = firstN n (k + 1) := by
  unfold firstN
  obtain ⟨r, hr⟩ : ∃ r, n - k = r + 1 := ⟨n - k - 1, by omega⟩
  rw [hr, List.replicate_succ, List.set_append_right _ _ (by simp), List.length_range, Nat.sub_self, List.set_cons_zero, List.range_succ, show n - (k + 1) = r by omega]
  simp
theorem firstN_all (n : Nat) : firstN n n = List.range n := by unfold firstN; simp
set_option maxRecDepth 100000 in
set_option maxHeartbeats 1000000 in
theorem roomiest_any (A : Option Addr) (c : Nat) (L : List Nat) (w : World) (h : Row w A L) (h16 : ∀ x ∈ L, x ≤ 16) (h0 : 0 < L.length) (hn : L.length ≤ 500000) :
    Calls Tryd.prog 15 #[.slice A L.length c] w fun e w' => ∃ g, e = .returned (.slice (some ⟨g, 0, none⟩) L.length L.length) ∧ w.heap.size ≤ g ∧ Below w.heap.size w w' ∧ Hid (∃ Z, Blk w' g Z ∧ Z.Perm (List.range L.length) ∧ Asc (keyL L) Z) := by
  obtain ⟨n, hln⟩ : ∃ n, L.length = n := ⟨_, rfl⟩
  rw [hln] at h0 hn ⊢
  obtain ⟨w1, hw1⟩ : ∃ w1, w1 = w.alloc (.cells #[.slice A n c] 43) := ⟨_, rfl⟩
  have hB1 : Below w.heap.size w w1 := by rw [hw1]; exact (Below.refl w.heap.size w).alloc (Nat.le_refl _) _
  have hw1s : w1.heap.size = w.heap.size + 1 := by rw [hw1]; simp
  have bX : w1.heap[w.heap.size]? = some (.cells #[.slice A n c] 43 (0, 0)) := by rw [hw1]; exact heap_alloc_new w _
  obtain ⟨i0, hi, hz0, hz1, hz2⟩ := info_parts info_intP
  have hmk : ∀ W : World, (Instr.makeSlice 43 (.int .i64 (n : Nat)) (.int .i64 (n : Nat))).run Tryd.prog W = .ok (.slice (some ⟨W.heap.size, 0, none⟩) n n) (W.alloc (.cells (nums (firstN n 0)) 3)) := fun W => by
    have := run_make (P := Tryd.prog) W 43 3 i0 _ Tryd.underlying43 hi hz0 .i64 .i64 (n : Nat) (n : Nat) (by omega) (by omega) (by rw [hz2]; omega) (by omega)
    rw [hz1] at this
    have e : madeCells (Value.int .i64 0).cells (n * 1) = nums (firstN n 0) := by
      rw [Nat.mul_one]
      have := toList_madeCells_one (Value.int .i64 0) n
      apply Array.toList_inj.1
      refine this.trans ?_
      unfold nums firstN
      simp
    rw [← e]
    simpa using this
  obtain ⟨w2, hw2⟩ : ∃ w2, w2 = w1.alloc (.cells (nums (firstN n 0)) 3) := ⟨_, rfl⟩
  have hB2 : Below w.heap.size w w2 := by rw [hw2]; exact hB1.alloc (by omega) _
  have bX2 : w2.heap[w.heap.size]? = some (.cells #[.slice A n c] 43 (0, 0)) := by rw [hw2]; exact (Below.heap_alloc _ _ _ (by omega)).trans bX
  have bG2 : Blk w2 (w.heap.size + 1) (firstN n 0) := by rw [hw2, ← hw1s]; exact heap_alloc_new w1 _
  have c0 : w1.cell? ⟨w.heap.size, 0, none⟩ = some (.slice A n c) := cell_blk (i := 0) bX rfl
  have HW := Lib.hid (And.intro hw1 hw2)
  have hlr := fun a (ha : A = some a) => (show a.block < w.heap.size from by
    rcases h with e | ⟨g, e, hg, _⟩
    · rw [e] at hln; simp at hln; omega
    · rw [ha] at e; cases e; exact hg)
  have H := Lib.hid (And.intro h (And.intro hln (And.intro h16 hlr)))
  have HB2 := Lib.hid hB2
  have HX2 := Lib.hid bX2
  have HG2 := Lib.hid bG2
  have hs2 : w.heap.size + 1 < w2.heap.size := bG2.lt
  clear hw1 hw2 h hln h16 hlr hB1 hw1s bX hB2 bX2 bG2 c0 hi hz0 hz1 hz2
  go_enter Tryd.func15, Tryd.ntmps15
  go_wp2
  rw [← HW.out.1, ← HW.out.2]
  go_loopw [10] (fun i wr => ∃ k : Nat, i = .int .i64 k ∧ k ≤ n ∧ Hid (Below w.heap.size w wr) ∧ Hid (wr.heap[w.heap.size]? = some (.cells #[.slice A n c] 43 (0, 0))) ∧ Hid (Blk wr (w.heap.size + 1) (firstN n k)) ∧ w.heap.size + 1 < wr.heap.size) (fun i _ => n - (intOf i).toNat)
  case atStart => exact ⟨0, rfl, by omega, HB2, HX2, HG2, hs2⟩
  case round =>
    clear HB2 HX2 HG2 hs2
    obtain ⟨k, rfl, hk, hBl, hX, hG, hsw⟩ := hrel
    by_cases hlt : k < n
    · have hfl : (firstN n k).length = n := by unfold firstN; simp; omega
      obtain ⟨x, hx⟩ := get_of_lt (L := firstN n k) (k := k) (by omega)
      have c1 := hG.out.cell hx
      have z1 : wr.frozen? ⟨w.heap.size + 1, k, none⟩ = false := hG.out.frozen
      have N1 : Hid (Blk (wr.setCell ⟨w.heap.size + 1, k, none⟩ (.int .i64 (k : Int))) (w.heap.size + 1) (firstN n (k + 1))) := Lib.hid (by rw [← firstN_set hlt]; exact hG.out.put k)
      have N2 : Hid (Below w.heap.size w (wr.setCell ⟨w.heap.size + 1, k, none⟩ (.int .i64 (k : Int)))) := Lib.hid (hBl.out.setCell (p := ⟨w.heap.size + 1, k, none⟩) (by simp) _)
      have N3 : Hid ((wr.setCell ⟨w.heap.size + 1, k, none⟩ (.int .i64 (k : Int))).heap[w.heap.size]? = some (.cells #[.slice A n c] 43 (0, 0))) := Lib.hid ((Below.heap_setCell _ _ _ _ (by simp)).trans hX.out)
      have t1 : decide (k < n) = true := decide_eq_true hlt
      clear hx hfl hG hBl hX
      go_wp2
      go_roundw
      case rel => exact ⟨k + 1, by go_num, by omega, N2, N3, N1, by simpa using hsw⟩
      case measure => simp [intOf]; omega
    · obtain rfl : k = n := by omega
      have t1 : decide (k < k) = false := decide_eq_false (by omega)
      have hS : Hid (Calls Tryd.prog 22 #[.slice (some ⟨w.heap.size + 1, 0, none⟩) k k, .func (.func 23) #[] #[.pointer (some ⟨w.heap.size, 0, none⟩)]] wr fun e w' =>
          e = .returned (.tuple #[]) ∧ Foot (· = w.heap.size + 1) wr w' ∧ Hid (∃ Z, Blk w' (w.heap.size + 1) Z ∧ Z.Perm (List.range k) ∧ Asc (keyL L) Z)) := Lib.hid (by
        obtain ⟨h, hln, h16, hlr⟩ := H.out
        refine sortstable_any (keyL L) (w.heap.size + 1) k (.pointer (some ⟨w.heap.size, 0, none⟩)) (cvL L) wr (cmp_closure (w.heap.size + 1) k w.heap.size A c L wr hln (cell_blk (i := 0) hX.out rfl) (by omega) (h.below hBl.out) (fun a ha => by have := hlr a ha; omega)) (fun x y hxy hy => keyL_rel L h16 x y hxy (by omega)) hn (by have := hG.out; rw [firstN_all] at this; exact this))
      clear hlt hX hG
      go_wp2_with fail
      refine hS.out.mono ?_
      rintro e w5 ⟨rfl, hf5, hZ⟩
      clear hS
      go_wp2
      go_ret
      exact ⟨_, rfl, by omega, hBl.out.trans (hf5.below (Nat.le_of_lt (by omega)) (fun i e => by omega)), hZ⟩
end Go.Proofs.YteflblcbmkcidaaDoor
