/- Plain facts for layer 3: what a slot does to what is taken, as lists; sums; no program is walked. -/
import Derived.Test.YtkhbbfpajiimaaaGreatTopoTotal
namespace Go.Proofs.YtkhbbfpajiimaaaGreat.PM

/-! ### Masks -/
theorem and_sub_iff {a b : Nat} (h : a &&& b = a) (i : Nat) : a.testBit i = true → b.testBit i = true := fun hi => by
  have := congrArg (fun x => x.testBit i) h
  simp only [Nat.testBit_and, hi] at this
  simpa using this
theorem within_iff {a b : Nat} (ha : a < 18446744073709551616) : (MM.units a).all (fun k => b.testBit k) = true ↔ a &&& b = a := by
  rw [List.all_eq_true]
  constructor
  · intro h
    refine Nat.eq_of_testBit_eq fun i => ?_
    rw [Nat.testBit_and]
    cases hi : a.testBit i
    · rfl
    · rw [h i (MM.units_mem.2 ⟨MM.bits_lt ha hi, hi⟩)]; rfl
  · intro h k hk
    exact and_sub_iff h k (MM.units_mem.1 hk).2
theorem apart_iff {a b : Nat} (ha : a < 18446744073709551616) : (MM.units a).all (fun k => !b.testBit k) = true ↔ a &&& b = 0 := by
  rw [List.all_eq_true]
  constructor
  · intro h
    refine Nat.eq_of_testBit_eq fun i => ?_
    rw [Nat.testBit_and, Nat.zero_testBit]
    cases hi : a.testBit i
    · rfl
    · have := h i (MM.units_mem.2 ⟨MM.bits_lt ha hi, hi⟩)
      simp at this; simp [this]
  · intro h k hk
    have := congrArg (fun x => x.testBit k) h
    simp only [Nat.testBit_and, (MM.units_mem.1 hk).2, Nat.zero_testBit] at this
    simpa using this
theorem or_add : ∀ {a b : Nat}, a &&& b = 0 → a + b = a ||| b := fun {a b} h => by
  induction a using Nat.strongRecOn generalizing b with
  | _ a ih =>
    by_cases h0 : a = 0
    · subst h0; simp
    have hd := Nat.and_div_two (a := a) (b := b)
    have ho := Nat.or_div_two (a := a) (b := b)
    have h1 := @Nat.or_mod_two_eq_one a b
    have h2 := @Nat.and_mod_two_eq_one a b
    rw [h] at hd h2
    have := ih (a / 2) (by omega) (b := b / 2) (by omega)
    omega
theorem sub_or {t s : Nat} (h : s &&& t = s) : MM.sub t s ||| s = t ∧ MM.sub t s &&& s = 0 := by
  constructor
  · refine Nat.eq_of_testBit_eq fun i => ?_
    rw [Nat.testBit_or, MM.testBit_sub]
    cases hs : s.testBit i
    · simp
    · rw [and_sub_iff h i hs]; rfl
  · refine Nat.eq_of_testBit_eq fun i => ?_
    rw [Nat.testBit_and, MM.testBit_sub, Nat.zero_testBit]
    cases s.testBit i <;> simp
theorem sub_nat {t s : Nat} (h : s &&& t = s) : t - s = MM.sub t s ∧ s ≤ t := by
  obtain ⟨h1, h2⟩ := sub_or h
  have := or_add h2
  rw [h1] at this
  omega
theorem sub_add {t s : Nat} (h : t &&& s = 0) : MM.sub (t ||| s) s = t := by
  refine Nat.eq_of_testBit_eq fun i => ?_
  have := congrArg (fun x => x.testBit i) h
  simp only [Nat.testBit_and, Nat.zero_testBit] at this
  rw [MM.testBit_sub, Nat.testBit_or]
  cases ht : t.testBit i <;> cases hs : s.testBit i <;> simp_all
theorem cnt_or {t s : Nat} (h : t &&& s = 0) : MM.cnt (t ||| s) = MM.cnt t + MM.cnt s := by
  have := MM.cnt_add t s
  rw [h] at this
  have e : MM.cnt 0 = 0 := by decide
  omega
theorem cnt_sub {t s : Nat} (h : s &&& t = s) : MM.cnt (MM.sub t s) + MM.cnt s = MM.cnt t := by
  obtain ⟨h1, h2⟩ := sub_or h
  have := cnt_or h2
  rw [h1] at this
  omega

/-! ### What is taken -/
/-- A slot, as it comes in. -/
structure Sl where
  n : Int
  d : Int
  m : Nat
  c : Int
/-- The how manieth of all spots it is. -/
def isAt (x y : Int) (f : Fr) : Bool := decide ((f.n : Int) = x) && decide ((f.d : Int) = y)
def find (x y : Int) : List Fr → Option Nat
  | [] => none
  | f :: l => if isAt x y f = true then some 0 else (find x y l).map (· + 1)
theorem find_hit : ∀ {x y : Int} {l : List Fr} {k : Nat}, find x y l = some k → ∃ f, l[k]? = some f ∧ (f.n : Int) = x ∧ (f.d : Int) = y
  | x, y, [], k, h => by simp [find] at h
  | x, y, f :: l, k, h => by
    unfold find at h
    by_cases hf : isAt x y f = true
    · rw [if_pos hf] at h
      cases h
      unfold isAt at hf
      simp at hf
      exact ⟨f, rfl, hf.1, hf.2⟩
    · rw [if_neg hf] at h
      obtain ⟨j, hj, rfl⟩ := Option.map_eq_some_iff.1 h
      obtain ⟨g, hg, h1⟩ := find_hit hj
      exact ⟨g, by simpa using hg, h1⟩
theorem find_miss : ∀ {x y : Int} {l : List Fr}, find x y l = none → ∀ f ∈ l, ¬ ((f.n : Int) = x ∧ (f.d : Int) = y)
  | x, y, [], _, f, hf => by cases hf
  | x, y, g :: l, h, f, hf => by
    unfold find at h
    by_cases hg : isAt x y g = true
    · rw [if_pos hg] at h; cases h
    · rw [if_neg hg] at h
      rcases List.mem_cons.1 hf with rfl | hf
      · unfold isAt at hg; simpa using hg
      · exact find_miss (Option.map_eq_none_iff.1 h) f hf
/-- Any place at which such a spot stands is the one found, where no spot stands twice. -/
theorem find_eq {x y : Int} {l : List Fr} {k : Nat} {f : Fr} (hk : l[k]? = some f) (hx : (f.n : Int) = x) (hy : (f.d : Int) = y)
    (once : ∀ (i j : Nat) (f g : Fr), l[i]? = some f → l[j]? = some g → f.n = g.n → f.d = g.d → i = j) : find x y l = some k := by
  cases h : find x y l with
  | none => exact absurd ⟨hx, hy⟩ (find_miss h f (List.mem_of_getElem? hk))
  | some j =>
    obtain ⟨g, hg, h1, h2⟩ := find_hit h
    rw [once k j f g hk hg (by omega) (by omega)]
/-- What a slot does to what is taken: the error's number, and what is taken behind it. -/
def one (fs : List Fr) (dr : List Bool) (give : Bool) (s : Sl) (ts : List Fr) : Int × List Fr :=
  if s.c < 0 then (1, ts) else
  match find s.n s.d fs with
  | none => (3, ts)
  | some k =>
    match fs[k]?, ts[k]? with
    | some f, some t =>
      if give = true then
        if s.m &&& f.m ≠ s.m then (3, ts)
        else if s.m &&& t.m ≠ s.m ∨ (t.c : Int) < s.c then (4, ts)
        else (0, ts.set k ⟨t.n, t.d, MM.sub t.m s.m, t.c - s.c.toNat⟩)
      else if dr[f.n]? = some true then (8, ts)
      else if s.m &&& f.m ≠ s.m ∨ s.m &&& t.m ≠ 0 ∨ (f.c : Int) - (t.c : Int) < s.c then (5, ts)
      else (0, ts.set k ⟨t.n, t.d, t.m ||| s.m, t.c + s.c.toNat⟩)
    | _, _ => (3, ts)
/-- Slot by slot, up to the first that is wrong. -/
def many (fs : List Fr) (dr : List Bool) (give : Bool) : List Sl → List Fr → Int × List Fr
  | [], ts => (0, ts)
  | s :: l, ts => if (one fs dr give s ts).1 = 0 then many fs dr give l (one fs dr give s ts).2 else one fs dr give s ts
/-- All, or none. -/
def whole (fs : List Fr) (dr : List Bool) (give : Bool) (l : List Sl) (ts : List Fr) : Int × List Fr :=
  if (many fs dr give l ts).1 = 0 then many fs dr give l ts else ((many fs dr give l ts).1, ts)
/-- What is taken is of what there is, spot by spot. -/
def Inv (fs ts : List Fr) : Prop := ts.length = fs.length ∧ ∀ (k : Nat) (f t : Fr), fs[k]? = some f → ts[k]? = some t → t.n = f.n ∧ t.d = f.d ∧ t.m &&& f.m = t.m ∧ t.c ≤ f.c
/-- What a slot changes: nothing, or one spot's, and there it is of what there is. -/
theorem one_cases (fs : List Fr) (dr : List Bool) (give : Bool) (s : Sl) (ts : List Fr) (h : Inv fs ts) :
    ((one fs dr give s ts).1 ≠ 0 ∧ (one fs dr give s ts).2 = ts) ∨
    ∃ (k : Nat) (f t u : Fr), find s.n s.d fs = some k ∧ fs[k]? = some f ∧ ts[k]? = some t ∧ one fs dr give s ts = (0, ts.set k u) ∧ u.n = t.n ∧ u.d = t.d ∧ 0 ≤ s.c ∧ s.m &&& f.m = s.m ∧
      ((give = true ∧ s.m &&& t.m = s.m ∧ s.c ≤ (t.c : Int) ∧ u.m = MM.sub t.m s.m ∧ u.c = t.c - s.c.toNat) ∨ (give = false ∧ dr[f.n]? ≠ some true ∧ s.m &&& t.m = 0 ∧ s.c ≤ (f.c : Int) - (t.c : Int) ∧ u.m = t.m ||| s.m ∧ u.c = t.c + s.c.toNat)) := by
  unfold one
  by_cases h0 : s.c < 0
  · rw [if_pos h0]; exact .inl ⟨by simp, rfl⟩
  rw [if_neg h0]
  cases hk : find s.n s.d fs with
  | none => exact .inl ⟨by simp, rfl⟩
  | some k =>
    obtain ⟨f, hf, _, _⟩ := find_hit hk
    have hlt : k < ts.length := by rw [h.1]; exact (List.getElem?_eq_some_iff.1 hf).1
    obtain ⟨t, ht⟩ := get_lt (l := ts) (k := k) hlt
    simp only [hf, ht]
    cases give
    · simp only [Bool.false_eq_true, if_false]
      by_cases h1 : dr[f.n]? = some true
      · rw [if_pos h1]; exact .inl ⟨by simp, rfl⟩
      rw [if_neg h1]
      by_cases h2 : s.m &&& f.m ≠ s.m ∨ s.m &&& t.m ≠ 0 ∨ (f.c : Int) - (t.c : Int) < s.c
      · rw [if_pos h2]; exact .inl ⟨by simp, rfl⟩
      rw [if_neg h2]
      simp only [not_or, ne_eq, Classical.not_not, Int.not_lt] at h2
      exact .inr ⟨k, f, t, _, rfl, hf, ht, rfl, rfl, rfl, by omega, h2.1, .inr ⟨by first | rfl | trivial, h1, h2.2.1, h2.2.2, rfl, rfl⟩⟩
    · simp only [if_true]
      by_cases h1 : s.m &&& f.m ≠ s.m
      · rw [if_pos h1]; exact .inl ⟨by simp, rfl⟩
      rw [if_neg h1]
      by_cases h2 : s.m &&& t.m ≠ s.m ∨ (t.c : Int) < s.c
      · rw [if_pos h2]; exact .inl ⟨by simp, rfl⟩
      rw [if_neg h2]
      simp only [not_or, ne_eq, Classical.not_not, Int.not_lt] at h1 h2
      exact .inr ⟨k, f, t, _, rfl, hf, ht, rfl, rfl, rfl, by omega, h1, .inl ⟨by first | rfl | trivial, h2.1, h2.2, rfl, rfl⟩⟩
theorem and_sub_self (t s f : Nat) (h : t &&& f = t) : MM.sub t s &&& f = MM.sub t s := by
  refine Nat.eq_of_testBit_eq fun i => ?_
  rw [Nat.testBit_and, MM.testBit_sub]
  cases ht : t.testBit i
  · rfl
  · rw [and_sub_iff h i ht]; simp
theorem and_or_self (t s f : Nat) (h : t &&& f = t) (h' : s &&& f = s) : (t ||| s) &&& f = t ||| s := by
  rw [Nat.and_or_distrib_right, h, h']
theorem one_inv {fs : List Fr} {dr : List Bool} {give : Bool} {s : Sl} {ts : List Fr} (h : Inv fs ts) : Inv fs (one fs dr give s ts).2 := by
  rcases one_cases fs dr give s ts h with ⟨_, e⟩ | ⟨k, f, t, u, _, hf, ht, e, hn, hd, hc, hm, hg⟩
  · rw [e]; exact h
  rw [e]
  refine ⟨by rw [List.length_set]; exact h.1, fun j f' t' hf' ht' => ?_⟩
  obtain ⟨i1, i2, i3, i4⟩ := h.2 k f t hf ht
  by_cases hj : k = j
  · subst hj
    rw [hf] at hf'; cases hf'
    rw [List.getElem?_set_self (List.getElem?_eq_some_iff.1 ht).1] at ht'
    cases ht'
    refine ⟨hn.trans i1, hd.trans i2, ?_, ?_⟩
    · rcases hg with ⟨_, g1, g2, g3, g4⟩ | ⟨_, _, g1, g2, g3, g4⟩
      · rw [g3]; exact and_sub_self _ _ _ i3
      · rw [g3]; exact and_or_self _ _ _ i3 hm
    · rcases hg with ⟨_, g1, g2, g3, g4⟩ | ⟨_, _, g1, g2, g3, g4⟩ <;> omega
  · rw [List.getElem?_set_ne hj] at ht'
    exact h.2 j f' t' hf' ht'
theorem many_inv {fs : List Fr} {dr : List Bool} {give : Bool} : ∀ {l : List Sl} {ts : List Fr}, Inv fs ts → Inv fs (many fs dr give l ts).2
  | [], _, h => h
  | s :: l, ts, h => by
    unfold many
    split
    · exact many_inv (one_inv h)
    · exact one_inv h
theorem whole_inv {fs : List Fr} {dr : List Bool} {give : Bool} {l : List Sl} {ts : List Fr} (h : Inv fs ts) : Inv fs (whole fs dr give l ts).2 := by
  unfold whole
  split
  · exact many_inv h
  · exact h
/-- At first nothing is taken. -/
def zero (fs : List Fr) : List Fr := fs.map fun f => ⟨f.n, f.d, 0, 0⟩
theorem zero_inv (fs : List Fr) : Inv fs (zero fs) := by
  refine ⟨by simp [zero], fun k f t hf ht => ?_⟩
  unfold zero at ht
  rw [List.getElem?_map, hf] at ht
  cases ht
  exact ⟨rfl, rfl, by simp, Nat.zero_le _⟩

/-! ### What is free -/
def freeOf (f t : Fr) : Fr := ⟨f.n, f.d, MM.sub f.m t.m, f.c - t.c⟩
def free (fs ts : List Fr) : List Fr := List.zipWith freeOf fs ts
theorem free_len {fs ts : List Fr} (h : Inv fs ts) : (free fs ts).length = fs.length := by
  unfold free; rw [List.length_zipWith, h.1]; omega
theorem free_at {fs ts : List Fr} {k : Nat} {f t : Fr} (hf : fs[k]? = some f) (ht : ts[k]? = some t) : (free fs ts)[k]? = some (freeOf f t) := by
  unfold free; rw [List.getElem?_zipWith, hf, ht]
theorem sums : ∀ {fs ts : List Fr}, Inv fs ts → gsum (free fs ts) + gsum ts = gsum fs ∧ csum (free fs ts) + csum ts = csum fs
  | [], [], _ => ⟨rfl, rfl⟩
  | [], _ :: _, h => by simp [Inv] at h
  | _ :: _, [], h => by simp [Inv] at h
  | f :: fs, t :: ts, h => by
    have ht : Inv fs ts := ⟨by simpa using h.1, fun k f' t' hf' ht' => h.2 (k + 1) f' t' (by simpa using hf') (by simpa using ht')⟩
    obtain ⟨a, b⟩ := sums ht
    obtain ⟨_, _, i3, i4⟩ := h.2 0 f t rfl rfl
    have := cnt_sub i3
    simp only [free, List.zipWith_cons_cons, gsum, csum, List.map_cons, List.sum_cons, freeOf] at a b ⊢
    omega
end Go.Proofs.YtkhbbfpajiimaaaGreat.PM
