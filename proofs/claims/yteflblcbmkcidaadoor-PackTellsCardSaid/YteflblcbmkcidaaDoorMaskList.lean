/- Plain facts on the mask of a list of numbers. -/
import Derived.Test.YteflblcbmkcidaaDoorMaskMath
namespace Go.Proofs.YteflblcbmkcidaaDoor.MM

theorem units_pow {k : Nat} (h : k < 64) : units (2 ^ k) = [k] := by
  have := units_ofu (l := [k]) (List.pairwise_singleton _ _) (by simpa using h)
  simpa [ofu] using this
theorem cnt_or {m k : Nat} (hk : k < 64) (hb : ¬ m.testBit k = true) : cnt (m ||| 2 ^ k) = cnt m + 1 := by
  have h := cnt_add m (2 ^ k)
  rw [and_pow, if_neg hb] at h
  have h1 : cnt (2 ^ k) = 1 := by unfold cnt; rw [units_pow hk]; rfl
  have h0 : cnt 0 = 0 := by unfold cnt; rw [units_zero]; rfl
  omega
theorem ofr_err : ∀ (l : List Int) (m : Nat), (ofr m l).2 ≠ 0 → (ofr m l).1 = 0
  | [], m, h => absurd rfl h
  | k :: l, m, h => by
    by_cases ho : k < 0 ∨ 64 ≤ k
    · rw [ofr_out ho]
    · by_cases hb : m.testBit k.toNat = true
      · rw [ofr_two ho hb]
      · rw [ofr_on ho hb] at h ⊢; exact ofr_err l _ h
theorem ofr_lt : ∀ (l : List Int) (m : Nat), m < 18446744073709551616 → (ofr m l).1 < 18446744073709551616
  | [], _, h => h
  | k :: l, m, h => by
    by_cases ho : k < 0 ∨ 64 ≤ k
    · rw [ofr_out ho]; decide
    · by_cases hb : m.testBit k.toNat = true
      · rw [ofr_two ho hb]; decide
      · rw [ofr_on ho hb]
        exact ofr_lt l _ (or_lt h (Nat.pow_lt_pow_right (a := 2) (by decide) (show k.toNat < 64 by omega)))
theorem ofr_ok : ∀ (l : List Int) (m : Nat), (ofr m l).2 = 0 → cnt (ofr m l).1 = cnt m + l.length ∧ ∀ i, (ofr m l).1.testBit i = true → m.testBit i = true ∨ (i : Int) ∈ l
  | [], m, _ => ⟨rfl, fun _ h => .inl h⟩
  | k :: l, m, h => by
    by_cases ho : k < 0 ∨ 64 ≤ k
    · rw [ofr_out ho] at h; cases h
    · by_cases hb : m.testBit k.toNat = true
      · rw [ofr_two ho hb] at h; cases h
      · rw [ofr_on ho hb] at h ⊢
        obtain ⟨h1, h2⟩ := ofr_ok l _ h
        refine ⟨by rw [h1, cnt_or (by omega) hb]; simp; omega, fun i hi => ?_⟩
        rcases h2 i hi with h3 | h3
        · rw [Nat.testBit_or, Nat.testBit_two_pow] at h3
          by_cases e : k.toNat = i
          · right; simp; left; omega
          · simp [e] at h3; exact .inl h3
        · exact .inr (List.mem_cons_of_mem _ h3)
theorem ofr_units : ∀ (l : List Nat) (m : Nat), l.Nodup → (∀ k ∈ l, k < 64 ∧ ¬ m.testBit k = true) → ofr m (l.map Int.ofNat) = (l.foldl (fun a k => a ||| 2 ^ k) m, 0)
  | [], _, _, _ => rfl
  | k :: l, m, hn, hk => by
    obtain ⟨hn1, hn2⟩ := List.nodup_cons.1 hn
    obtain ⟨h1, h2⟩ := hk k (by simp)
    rw [List.map_cons, ofr_on (by simp; omega) (by simpa using h2)]
    rw [show (Int.ofNat k).toNat = k from rfl, ofr_units l (m ||| 2 ^ k) hn2 fun j hj => ⟨(hk j (List.mem_cons_of_mem _ hj)).1, ?_⟩]
    · rfl
    · rw [Nat.testBit_or, Nat.testBit_two_pow]
      have : ¬ k = j := fun e => hn1 (e ▸ hj)
      have h3 := (hk j (List.mem_cons_of_mem _ hj)).2
      simp [this, h3]
theorem ofr_back {m : Nat} (h : m < 18446744073709551616) : ofr 0 ((units m).map Int.ofNat) = (m, 0) := by
  rw [ofr_units _ 0 (units_nodup m) fun k hk => ⟨units_lt hk, by simp⟩]
  exact congrArg (·, (0 : Int)) (ofu_units h)
theorem getD_map (l : List Nat) (j : Nat) : ((l.map Int.ofNat)[j]?.getD 0) = ((l[j]?.getD 0 : Nat) : Int) := by
  rw [List.getElem?_map]; cases l[j]? <;> rfl
theorem sorted_at {l : List Nat} (h : l.Pairwise (· < ·)) {j : Nat} (h0 : 0 < j) (hj : j < l.length) : l[j - 1]?.getD 0 < l[j]?.getD 0 := by
  have := List.pairwise_iff_getElem.1 h (j - 1) j (by omega) hj (by omega)
  rw [List.getElem?_eq_getElem (show j - 1 < l.length by omega), List.getElem?_eq_getElem hj]
  exact this
end Go.Proofs.YteflblcbmkcidaaDoor.MM
