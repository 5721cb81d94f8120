/- A queue that is filled with waits of rising Ids, and emptied from its end. No program is spoken of. -/
import Derived.Test.YtdeniikaddlifaaQuMath
namespace Go.Proofs.Ytdeniikaddlifaa
namespace QL
def fw (k : Nat) (j : Int) : Wt := ⟨j, k, 0, 0, 0, 0, 0, 0, 0, j⟩
/-- So many waits, of the Ids behind a. -/
def fl (k : Nat) (a : Int) (n : Nat) : List Wt := (List.range n).map fun j => fw k (a + 1 + (j : Nat))
theorem fl_len {k : Nat} {a : Int} {n : Nat} : (fl k a n).length = n := by simp [fl]
theorem fl_next {k : Nat} {a : Int} {n : Nat} : fl k a (n + 1) = fl k a n ++ [fw k (a + 1 + (n : Nat))] := by
  unfold fl; rw [List.range_succ, List.map_append]; rfl
theorem fl_mem {k : Nat} {a : Int} {n : Nat} {x : Wt} (h : x ∈ fl k a n) : x.q = k ∧ a + 1 ≤ x.id ∧ x.id ≤ a + n := by
  unfold fl at h
  obtain ⟨j, hj, rfl⟩ := List.mem_map.1 h
  have := List.mem_range.1 hj
  exact ⟨rfl, by show a + 1 ≤ a + 1 + (j : Int); omega, by show a + 1 + (j : Int) ≤ a + n; omega⟩
theorem fl_row {k : Nat} {a : Int} {n : Nat} : rowL (fl k a n) k = fl k a n := by
  unfold rowL; rw [List.filter_eq_self]; intro x hx; simpa using (fl_mem hx).1
theorem fl_no {k : Nat} {a : Int} {n : Nat} {id : Int} (h : id ≤ a ∨ a + n < id) : hasI (fl k a n) id = false := by
  rw [hasI_false]; intro x hx e; have := fl_mem hx; omega
theorem fill_add {R : List Int} {k : Nat} {a : Int} {n : Nat} (hk : k < R.length) (hn : (n : Int) < roomOf R k) : addE R (fl k a n) (fw k (a + 1 + (n : Nat))) = 0 ∧ addL R (fl k a n) (fw k (a + 1 + (n : Nat))) = fl k a (n + 1) := by
  have e : addE R (fl k a n) (fw k (a + 1 + (n : Nat))) = 0 := by
    unfold addE
    rw [if_neg (by show ¬ ((k : Int) < 0 ∨ (R.length : Int) ≤ (k : Int)); omega), fl_no (.inr (by show a + (n : Int) < a + 1 + (n : Int); omega)), if_neg (by simp)]
    show (if roomOf R ((k : Int).toNat) = ((rowL (fl k a n) ((k : Int).toNat)).length : Int) then (2 : Int) else 0) = 0
    rw [Int.toNat_natCast, fl_row, fl_len, if_neg (by omega)]
  exact ⟨e, by unfold addL; rw [if_pos e, fl_next]⟩
theorem fill_full {R : List Int} {k : Nat} {a : Int} {n : Nat} (hk : k < R.length) (hn : (n : Int) = roomOf R k) (ha : 0 ≤ a) : addE R (fl k a n) ⟨-1, k, 0, 0, 0, 0, 0, 0, 0, 0⟩ = 2 ∧ addL R (fl k a n) ⟨-1, k, 0, 0, 0, 0, 0, 0, 0, 0⟩ = fl k a n := by
  have e : addE R (fl k a n) ⟨-1, k, 0, 0, 0, 0, 0, 0, 0, 0⟩ = 2 := by
    unfold addE
    rw [if_neg (by show ¬ ((k : Int) < 0 ∨ (R.length : Int) ≤ (k : Int)); omega), fl_no (.inl (by show (-1 : Int) ≤ a; omega)), if_neg (by simp)]
    show (if roomOf R ((k : Int).toNat) = ((rowL (fl k a n) ((k : Int).toNat)).length : Int) then (2 : Int) else 0) = 2
    rw [Int.toNat_natCast, fl_row, fl_len, if_pos hn.symm]
  exact ⟨e, by unfold addL; rw [if_neg (by rw [e]; decide)]⟩
theorem fill_take {k : Nat} {a : Int} {n : Nat} : getW (fl k a (n + 1)) (a + 1 + (n : Nat)) = fw k (a + 1 + (n : Nat)) ∧ getE (fl k a (n + 1)) (a + 1 + (n : Nat)) = 0 ∧ dropI (fl k a (n + 1)) (a + 1 + (n : Nat)) = fl k a n := by
  have hno : hasI (fl k a n) (a + 1 + (n : Nat)) = false := fl_no (.inr (by omega))
  have hs : hasI (fl k a (n + 1)) (a + 1 + (n : Nat)) = true := by
    rw [hasI_true]; exact ⟨fw k (a + 1 + (n : Nat)), by rw [fl_next]; simp, rfl⟩
  have hg : getI (fl k a (n + 1)) (a + 1 + (n : Nat)) = some (fw k (a + 1 + (n : Nat))) := by
    rw [fl_next]
    unfold getI
    rw [List.find?_append]
    have := getI_none hno
    unfold getI at this
    rw [this]
    simp [fw]
  refine ⟨by unfold getW; rw [hg]; rfl, by unfold getE; rw [hs]; rfl, ?_⟩
  rw [fl_next]
  have h1 := dropI_no hno
  unfold dropI at h1 ⊢
  rw [List.filter_append, h1]
  simp [fw]
theorem fl_all {R : List Int} {k : Nat} {a : Int} : allL R.length (fl k a 0) = [] := by
  unfold allL fl rowL; simp
end QL
end Go.Proofs.Ytdeniikaddlifaa
