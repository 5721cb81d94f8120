/- Waits in order, told by their places: one order, which both sorts must reach. No program is spoken of. -/
import Derived.Test.YtdeniikaddlifaaOrdMerge
import Derived.Test.YtdeniikaddlifaaPackTile
namespace Go.Proofs.Ytdeniikaddlifaa
open Go.RowKit
namespace OW
/-- One place comes ahead of another one: its wait is ahead, or they are alike and it stood ahead. -/
def bef (t a : Int) (E : Nat → Wt) (x y : Nat) : Prop := aheadF t a (E x) (E y) = true ∨ (aheadF t a (E y) (E x) = false ∧ x < y)
instance (t a : Int) (E : Nat → Wt) (x y : Nat) : Decidable (bef t a E x y) := by unfold bef; exact inferInstance
theorem ahead_iff {t a : Int} {x y : Wt} : aheadF t a x y = true ↔ (rankF y t a < rankF x t a ∨ (rankF y t a = rankF x t a ∧ (x.n < y.n ∨ (x.n = y.n ∧ x.id < y.id)))) := by unfold aheadF; exact decide_eq_true_iff
theorem ahead_no {t a : Int} {x y : Wt} : aheadF t a x y = false ↔ ¬ (rankF y t a < rankF x t a ∨ (rankF y t a = rankF x t a ∧ (x.n < y.n ∨ (x.n = y.n ∧ x.id < y.id)))) := by unfold aheadF; exact decide_eq_false_iff_not
variable {t a : Int} {E : Nat → Wt}
theorem bef_irrefl (x : Nat) : ¬ bef t a E x x := by
  unfold bef; rw [ahead_iff, ahead_no]; omega
theorem bef_asymm {x y : Nat} (h : bef t a E x y) : ¬ bef t a E y x := by
  unfold bef at *; rw [ahead_iff, ahead_no] at *; omega
theorem bef_total {x y : Nat} (h : x ≠ y) (hn : ¬ bef t a E y x) : bef t a E x y := by
  unfold bef at *; rw [ahead_iff, ahead_no] at *; omega
theorem bef_trans {x y z : Nat} (h : bef t a E x y) (h2 : bef t a E y z) : bef t a E x z := by
  unfold bef at *; rw [ahead_iff, ahead_no] at *; omega
theorem sorted_unique : ∀ {L M : List Nat}, L.Perm M → L.Pairwise (bef t a E) → M.Pairwise (bef t a E) → L = M
  | [], M, hp, _, _ => hp.nil_eq
  | x :: L, [], hp, _, _ => hp.eq_nil
  | x :: L, y :: M, hp, h1, h2 => by
    obtain ⟨p1, p2⟩ := List.pairwise_cons.1 h1
    obtain ⟨q1, q2⟩ := List.pairwise_cons.1 h2
    have e : x = y := by
      rcases List.mem_cons.1 (hp.mem_iff.1 (List.mem_cons_self ..)) with e | e
      · exact e
      · rcases List.mem_cons.1 (hp.mem_iff.2 (List.mem_cons_self ..)) with e' | e'
        · exact e'.symm
        · exact absurd (p1 y e') (bef_asymm (q1 x e))
    subst e
    rw [sorted_unique ((List.perm_cons x).1 hp) p2 q2]
/-- How many of the first n come ahead of it. -/
def keyW (t a : Int) (E : Nat → Wt) (n x : Nat) : Nat := ((List.range n).filter fun z => decide (bef t a E z x)).length
theorem filter_lt {L : List Nat} {p q : Nat → Bool} (h : ∀ z, p z = true → q z = true) {y : Nat} (hy : y ∈ L) (h1 : p y = false) (h2 : q y = true) : (L.filter p).length < (L.filter q).length := by
  induction L with
  | nil => cases hy
  | cons z L ih =>
    have hle : ∀ M : List Nat, (M.filter p).length ≤ (M.filter q).length := fun M => by
      induction M with
      | nil => simp
      | cons u M ihm =>
        cases hp : p u <;> cases hq : q u <;> simp only [List.filter_cons, hp, hq, if_true, List.length_cons, Bool.false_eq_true, if_false]
        · exact ihm
        · omega
        · rw [h u hp] at hq; cases hq
        · omega
    rcases List.mem_cons.1 hy with rfl | hy
    · simp only [List.filter_cons, h1, h2, if_true, List.length_cons, Bool.false_eq_true, if_false]
      have := hle L
      omega
    · have := ih hy
      cases hp : p z <;> cases hq : q z <;> simp only [List.filter_cons, hp, hq, if_true, List.length_cons, Bool.false_eq_true, if_false]
      · exact this
      · omega
      · rw [h z hp] at hq; cases hq
      · omega
theorem key_mono {n x y : Nat} (hx : x < n) (h : bef t a E x y) : keyW t a E n x < keyW t a E n y := by
  unfold keyW
  refine filter_lt (fun z hz => ?_) (y := x) (List.mem_range.2 hx) (decide_eq_false (bef_irrefl x)) (decide_eq_true h)
  exact decide_eq_true (bef_trans (of_decide_eq_true hz) h)
theorem key_lt {n x y : Nat} (hx : x < n) (hy : y < n) : keyW t a E n y < keyW t a E n x ↔ bef t a E y x := by
  refine ⟨fun h => ?_, fun h => key_mono hy h⟩
  by_cases e : y = x
  · subst e; omega
  · refine bef_total e fun h2 => ?_
    have := key_mono (E := E) (t := t) (a := a) hx h2
    omega
/-- What the sort of the library asks of its comparison. -/
theorem key_cmp (n : Nat) (x y : Nat) (hxy : x < y) (hy : y < n) : WK.ltC (fun x y => cmpW t a (E x) (E y)) y x = decide (keyW t a E n y < keyW t a E n x) := by
  unfold WK.ltC
  rw [cmpW_neg]
  cases h : aheadF t a (E y) (E x)
  · symm
    rw [decide_eq_false_iff_not, key_lt (by omega) hy]
    unfold bef
    rw [h]
    simp
    intro _
    omega
  · symm
    rw [decide_eq_true_iff, key_lt (by omega) hy]
    exact .inl h
theorem asc_bef {n : Nat} {Z : List Nat} (hp : Z.Perm (List.range n)) (h : PK.Asc (keyW t a E n) Z) : Z.Pairwise (bef t a E) := by
  have nd : Z.Nodup := hp.nodup_iff.2 List.nodup_range
  have hm : ∀ z ∈ Z, z < n := fun z hz => List.mem_range.1 (hp.mem_iff.1 hz)
  refine (List.Pairwise.and h nd).imp_of_mem fun {x y} hx hy hxy => ?_
  refine bef_total hxy.2 fun h2 => ?_
  have := key_mono (E := E) (t := t) (a := a) (hm y hy) h2
  have := hxy.1
  omega
/-- One more is put in, behind those that it isn't ahead of. -/
theorem put_bef {n k : Nat} {D : List Nat} (hp : D.Perm (List.range n)) (h : D.Pairwise (bef t a E)) (hk : k ≤ D.length) (h1 : k = 0 ∨ ∃ x, D[k - 1]? = some x ∧ aheadF t a (E n) (E x) = false) (h2 : ∀ j x, k ≤ j → D[j]? = some x → aheadF t a (E n) (E x) = true) :
    (D.take k ++ n :: D.drop k).Perm (List.range (n + 1)) ∧ (D.take k ++ n :: D.drop k).Pairwise (bef t a E) := by
  have hm : ∀ z ∈ D, z < n := fun z hz => List.mem_range.1 (hp.mem_iff.1 hz)
  have hD : (D.take k ++ D.drop k).Pairwise (bef t a E) := by rw [List.take_append_drop]; exact h
  obtain ⟨a1, a2, a3⟩ := List.pairwise_append.1 hD
  refine ⟨?_, List.pairwise_append.2 ⟨a1, List.pairwise_cons.2 ⟨fun b hb => ?_, a2⟩, fun x hx b hb => ?_⟩⟩
  · refine List.perm_middle.trans ?_
    rw [List.take_append_drop, List.range_succ]
    exact (List.Perm.cons n hp).trans (List.perm_append_comm (l₁ := [n]) (l₂ := List.range n))
  · obtain ⟨i, hi, hx⟩ := PK.mem_drop hb
    exact .inl (h2 i b hi hx)
  · rcases List.mem_cons.1 hb with rfl | hb
    · obtain ⟨i, hi, hx'⟩ := PK.mem_take hx
      have hxn := hm x (List.mem_of_getElem? hx')
      rcases h1 with rfl | ⟨y, hy, hay⟩
      · omega
      · refine .inr ⟨?_, hxn⟩
        rcases Nat.lt_or_ge i (k - 1) with hlt | hge
        · obtain ⟨l1, rfl⟩ := List.getElem?_eq_some_iff.1 hx'
          obtain ⟨l2, rfl⟩ := List.getElem?_eq_some_iff.1 hy
          have hb2 := List.pairwise_iff_getElem.1 h i (k - 1) l1 l2 hlt
          unfold bef at hb2
          rw [ahead_iff, ahead_no] at hb2
          rw [ahead_no] at hay ⊢
          omega
        · obtain rfl : i = k - 1 := by omega
          rw [hx'] at hy
          cases hy
          exact hay
    · exact a3 x hx b hb
end OW
end Go.Proofs.Ytdeniikaddlifaa
