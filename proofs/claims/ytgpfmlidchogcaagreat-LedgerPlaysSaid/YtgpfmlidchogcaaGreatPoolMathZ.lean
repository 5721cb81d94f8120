/- Plain facts for layer 3: what a slot does to what is taken, as lists; sums; no program is walked. -/
/- Plain facts for layer 3: what is taken and given back leaves all as it was; slots one by one and all at once; drained nodes; all units of a cluster. No program is walked. -/
import Derived.Test.YtgpfmlidchogcaaGreatTopoZ
namespace Go.Proofs.YtgpfmlidchogcaaGreat.PM

/-! ### Masks -/
theorem and_sub_iff {a b : Nat} (h : a &&& b = a) (i : Nat) : a.testBit i = true → b.testBit i = true := fun hi => by
 have := congrArg (fun x => x.testBit i) h
 simp only [Nat.testBit_and, hi] at this
 simpa using this
theorem within_iff {a b : Nat} (ha : a < 18446744073709551616) : (MM.units a).all (fun k => b.testBit k) = true ↔ a &&& b = a := by
 rw [List.all_eq_true]
 constructor
 ·intro h
  refine Nat.eq_of_testBit_eq fun i => ?_
  rw [Nat.testBit_and]
  cases hi : a.testBit i
  ·rfl
  ·rw [h i (MM.units_mem.2 ⟨MM.bits_lt ha hi, hi⟩)]; rfl
 ·intro h k hk
  exact and_sub_iff h k (MM.units_mem.1 hk).2
theorem apart_iff {a b : Nat} (ha : a < 18446744073709551616) : (MM.units a).all (fun k => !b.testBit k) = true ↔ a &&& b = 0 := by
 rw [List.all_eq_true]
 constructor
 ·intro h
  refine Nat.eq_of_testBit_eq fun i => ?_
  rw [Nat.testBit_and, Nat.zero_testBit]
  cases hi : a.testBit i
  ·rfl
  ·have := h i (MM.units_mem.2 ⟨MM.bits_lt ha hi, hi⟩)
   simp at this; simp [this]
 ·intro h k hk
  have := congrArg (fun x => x.testBit k) h
  simp only [Nat.testBit_and, (MM.units_mem.1 hk).2, Nat.zero_testBit] at this
  simpa using this
theorem or_add : ∀ {a b : Nat}, a &&& b = 0 → a + b = a ||| b := fun {a b} h => by
 induction a using Nat.strongRecOn generalizing b with
 | _ a ih =>
  by_cases h0 : a = 0
  ·subst h0; simp
  have hd := Nat.and_div_two (a := a) (b := b)
  have ho := Nat.or_div_two (a := a) (b := b)
  have h1 := @Nat.or_mod_two_eq_one a b
  have h2 := @Nat.and_mod_two_eq_one a b
  rw [h] at hd h2
  have := ih (a / 2) (by omega) (b := b / 2) (by omega)
  omega
theorem sub_or {t s : Nat} (h : s &&& t = s) : MM.sub t s ||| s = t ∧ MM.sub t s &&& s = 0 := by
 constructor
 ·refine Nat.eq_of_testBit_eq fun i => ?_
  rw [Nat.testBit_or, MM.testBit_sub]
  cases hs : s.testBit i
  ·simp
  ·rw [and_sub_iff h i hs]; rfl
 ·refine Nat.eq_of_testBit_eq fun i => ?_
  rw [Nat.testBit_and, MM.testBit_sub, Nat.zero_testBit]
  cases s.testBit i <;> simp
theorem sub_nat {t s : Nat} (h : s &&& t = s) : t - s = MM.sub t s ∧ s ≤ t := by
 obtain ⟨h1, h2⟩ := sub_or h
 have := or_add h2
 rw [h1] at this
 omega
theorem sub_add {t s : Nat} (h : t &&& s = 0) : MM.sub (t ||| s) s = t := by
 refine Nat.eq_of_testBit_eq fun i => ?_
 have := congrArg (fun x => x.testBit i) h
 simp only [Nat.testBit_and, Nat.zero_testBit] at this
 rw [MM.testBit_sub, Nat.testBit_or]
 cases ht : t.testBit i <;> cases hs : s.testBit i <;> simp_all
/-! ### What is taken -/
structure Sl where
 n : Int
 d : Int
 m : Nat
 c : Int
def isAt (x y : Int) (f : Fr) : Bool := decide ((f.n : Int) = x) && decide ((f.d : Int) = y)
def find (x y : Int) : List Fr → Option Nat
 | [] => none
 | f :: l => if isAt x y f = true then some 0 else (find x y l).map (· + 1)
theorem find_hit : ∀ {x y : Int} {l : List Fr} {k : Nat}, find x y l = some k → ∃ f, l[k]? = some f ∧ (f.n : Int) = x ∧ (f.d : Int) = y
 | x, y, [], k, h => by simp [find] at h
 | x, y, f :: l, k, h => by
  unfold find at h
  by_cases hf : isAt x y f = true
  ·rw [if_pos hf] at h
   cases h
   unfold isAt at hf
   simp at hf
   exact ⟨f, rfl, hf.1, hf.2⟩
  ·rw [if_neg hf] at h
   obtain ⟨j, hj, rfl⟩ := Option.map_eq_some_iff.1 h
   obtain ⟨g, hg, h1⟩ := find_hit hj
   exact ⟨g, by simpa using hg, h1⟩
theorem find_miss : ∀ {x y : Int} {l : List Fr}, find x y l = none → ∀ f ∈ l, ¬ ((f.n : Int) = x ∧ (f.d : Int) = y)
 | x, y, [], _, f, hf => by cases hf
 | x, y, g :: l, h, f, hf => by
  unfold find at h
  by_cases hg : isAt x y g = true
  ·rw [if_pos hg] at h; cases h
  ·rw [if_neg hg] at h
   rcases List.mem_cons.1 hf with rfl | hf
   ·unfold isAt at hg; simpa using hg
   ·exact find_miss (Option.map_eq_none_iff.1 h) f hf
theorem find_eq {x y : Int} {l : List Fr} {k : Nat} {f : Fr} (hk : l[k]? = some f) (hx : (f.n : Int) = x) (hy : (f.d : Int) = y)
  (once : ∀ (i j : Nat) (f g : Fr), l[i]? = some f → l[j]? = some g → f.n = g.n → f.d = g.d → i = j) : find x y l = some k := by
 cases h : find x y l with
 | none => exact absurd ⟨hx, hy⟩ (find_miss h f (List.mem_of_getElem? hk))
 | some j =>
  obtain ⟨g, hg, h1, h2⟩ := find_hit h
  rw [once k j f g hk hg (by omega) (by omega)]
def one (fs : List Fr) (dr : List Bool) (give : Bool) (s : Sl) (ts : List Fr) : Int × List Fr :=
 if s.c < 0 then (1, ts) else
 match find s.n s.d fs with
 | none => (3, ts)
 | some k =>
  match fs[k]?, ts[k]? with
  | some f, some t =>
   if give = true then
    if s.m &&& f.m ≠ s.m then (3, ts)
    else if s.m &&& t.m ≠ s.m ∨ (t.c : Int) < s.c then (4, ts)
    else (0, ts.set k ⟨t.n, t.d, MM.sub t.m s.m, t.c - s.c.toNat⟩)
   else if dr[f.n]? = some true then (8, ts)
   else if s.m &&& f.m ≠ s.m ∨ s.m &&& t.m ≠ 0 ∨ (f.c : Int) - (t.c : Int) < s.c then (5, ts)
   else (0, ts.set k ⟨t.n, t.d, t.m ||| s.m, t.c + s.c.toNat⟩)
  | _, _ => (3, ts)
def many (fs : List Fr) (dr : List Bool) (give : Bool) : List Sl → List Fr → Int × List Fr
 | [], ts => (0, ts)
 | s :: l, ts => if (one fs dr give s ts).1 = 0 then many fs dr give l (one fs dr give s ts).2 else one fs dr give s ts
def whole (fs : List Fr) (dr : List Bool) (give : Bool) (l : List Sl) (ts : List Fr) : Int × List Fr :=
 if (many fs dr give l ts).1 = 0 then many fs dr give l ts else ((many fs dr give l ts).1, ts)
def Inv (fs ts : List Fr) : Prop := ts.length = fs.length ∧ ∀ (k : Nat) (f t : Fr), fs[k]? = some f → ts[k]? = some t → t.n = f.n ∧ t.d = f.d ∧ t.m &&& f.m = t.m ∧ t.c ≤ f.c
theorem one_cases (fs : List Fr) (dr : List Bool) (give : Bool) (s : Sl) (ts : List Fr) (h : Inv fs ts) :
  ((one fs dr give s ts).1 ≠ 0 ∧ (one fs dr give s ts).2 = ts) ∨
  ∃ (k : Nat) (f t u : Fr), find s.n s.d fs = some k ∧ fs[k]? = some f ∧ ts[k]? = some t ∧ one fs dr give s ts = (0, ts.set k u) ∧ u.n = t.n ∧ u.d = t.d ∧ 0 ≤ s.c ∧ s.m &&& f.m = s.m ∧
   ((give = true ∧ s.m &&& t.m = s.m ∧ s.c ≤ (t.c : Int) ∧ u.m = MM.sub t.m s.m ∧ u.c = t.c - s.c.toNat) ∨ (give = false ∧ dr[f.n]? ≠ some true ∧ s.m &&& t.m = 0 ∧ s.c ≤ (f.c : Int) - (t.c : Int) ∧ u.m = t.m ||| s.m ∧ u.c = t.c + s.c.toNat)) := by
 unfold one
 by_cases h0 : s.c < 0
 ·rw [if_pos h0]; exact .inl ⟨by simp, rfl⟩
 rw [if_neg h0]
 cases hk : find s.n s.d fs with
 | none => exact .inl ⟨by simp, rfl⟩
 | some k =>
  obtain ⟨f, hf, _, _⟩ := find_hit hk
  have hlt : k < ts.length := by rw [h.1]; exact (List.getElem?_eq_some_iff.1 hf).1
  obtain ⟨t, ht⟩ := get_lt (l := ts) (k := k) hlt
  simp only [hf, ht]
  cases give
  ·simp only [Bool.false_eq_true, if_false]
   by_cases h1 : dr[f.n]? = some true
   ·rw [if_pos h1]; exact .inl ⟨by simp, rfl⟩
   rw [if_neg h1]
   by_cases h2 : s.m &&& f.m ≠ s.m ∨ s.m &&& t.m ≠ 0 ∨ (f.c : Int) - (t.c : Int) < s.c
   ·rw [if_pos h2]; exact .inl ⟨by simp, rfl⟩
   rw [if_neg h2]
   simp only [not_or, ne_eq, Classical.not_not, Int.not_lt] at h2
   exact .inr ⟨k, f, t, _, rfl, hf, ht, rfl, rfl, rfl, by omega, h2.1, .inr ⟨by first | rfl | trivial, h1, h2.2.1, h2.2.2, rfl, rfl⟩⟩
  ·simp only [if_true]
   by_cases h1 : s.m &&& f.m ≠ s.m
   ·rw [if_pos h1]; exact .inl ⟨by simp, rfl⟩
   rw [if_neg h1]
   by_cases h2 : s.m &&& t.m ≠ s.m ∨ (t.c : Int) < s.c
   ·rw [if_pos h2]; exact .inl ⟨by simp, rfl⟩
   rw [if_neg h2]
   simp only [not_or, ne_eq, Classical.not_not, Int.not_lt] at h1 h2
   exact .inr ⟨k, f, t, _, rfl, hf, ht, rfl, rfl, rfl, by omega, h1, .inl ⟨by first | rfl | trivial, h2.1, h2.2, rfl, rfl⟩⟩
theorem and_sub_self (t s f : Nat) (h : t &&& f = t) : MM.sub t s &&& f = MM.sub t s := by
 refine Nat.eq_of_testBit_eq fun i => ?_
 rw [Nat.testBit_and, MM.testBit_sub]
 cases ht : t.testBit i
 ·rfl
 ·rw [and_sub_iff h i ht]; simp
theorem and_or_self (t s f : Nat) (h : t &&& f = t) (h' : s &&& f = s) : (t ||| s) &&& f = t ||| s := by
 rw [Nat.and_or_distrib_right, h, h']
theorem one_inv {fs : List Fr} {dr : List Bool} {give : Bool} {s : Sl} {ts : List Fr} (h : Inv fs ts) : Inv fs (one fs dr give s ts).2 := by
 rcases one_cases fs dr give s ts h with ⟨_, e⟩ | ⟨k, f, t, u, _, hf, ht, e, hn, hd, hc, hm, hg⟩
 ·rw [e]; exact h
 rw [e]
 refine ⟨by rw [List.length_set]; exact h.1, fun j f' t' hf' ht' => ?_⟩
 obtain ⟨i1, i2, i3, i4⟩ := h.2 k f t hf ht
 by_cases hj : k = j
 ·subst hj
  rw [hf] at hf'; cases hf'
  rw [List.getElem?_set_self (List.getElem?_eq_some_iff.1 ht).1] at ht'
  cases ht'
  refine ⟨hn.trans i1, hd.trans i2, ?_, ?_⟩
  ·rcases hg with ⟨_, g1, g2, g3, g4⟩ | ⟨_, _, g1, g2, g3, g4⟩
   ·rw [g3]; exact and_sub_self _ _ _ i3
   ·rw [g3]; exact and_or_self _ _ _ i3 hm
  ·rcases hg with ⟨_, g1, g2, g3, g4⟩ | ⟨_, _, g1, g2, g3, g4⟩ <;> omega
 ·rw [List.getElem?_set_ne hj] at ht'
  exact h.2 j f' t' hf' ht'
def zero (fs : List Fr) : List Fr := fs.map fun f => ⟨f.n, f.d, 0, 0⟩
theorem zero_inv (fs : List Fr) : Inv fs (zero fs) := by
 refine ⟨by simp [zero], fun k f t hf ht => ?_⟩
 unfold zero at ht
 rw [List.getElem?_map, hf] at ht
 cases ht
 exact ⟨rfl, rfl, by simp, Nat.zero_le _⟩

/-! ### What is free -/
def freeOf (f t : Fr) : Fr := ⟨f.n, f.d, MM.sub f.m t.m, f.c - t.c⟩
def free (fs ts : List Fr) : List Fr := List.zipWith freeOf fs ts
theorem free_len {fs ts : List Fr} (h : Inv fs ts) : (free fs ts).length = fs.length := by
 unfold free; rw [List.length_zipWith, h.1]; omega
theorem free_at {fs ts : List Fr} {k : Nat} {f t : Fr} (hf : fs[k]? = some f) (ht : ts[k]? = some t) : (free fs ts)[k]? = some (freeOf f t) := by
 unfold free; rw [List.getElem?_zipWith, hf, ht]
end Go.Proofs.YtgpfmlidchogcaaGreat.PM

namespace Go.Proofs.YtgpfmlidchogcaaGreat.PM

def up (t : Fr) (s : Sl) : Fr := ⟨t.n, t.d, t.m ||| s.m, t.c + s.c.toNat⟩
def down (t : Fr) (s : Sl) : Fr := ⟨t.n, t.d, MM.sub t.m s.m, t.c - s.c.toNat⟩
structure Takes (fs : List Fr) (dr : List Bool) (s : Sl) (k : Nat) (f t : Fr) (ts : List Fr) : Prop where
 c0 : 0 ≤ s.c
 at_ : find s.n s.d fs = some k
 hf : fs[k]? = some f
 ht : ts[k]? = some t
 dry : dr[f.n]? ≠ some true
 sub : s.m &&& f.m = s.m
 apart : s.m &&& t.m = 0
 room : s.c ≤ (f.c : Int) - (t.c : Int)
structure Gives (fs : List Fr) (s : Sl) (k : Nat) (f t : Fr) (ts : List Fr) : Prop where
 c0 : 0 ≤ s.c
 at_ : find s.n s.d fs = some k
 hf : fs[k]? = some f
 ht : ts[k]? = some t
 sub : s.m &&& f.m = s.m
 has : s.m &&& t.m = s.m
 room : s.c ≤ (t.c : Int)
theorem Takes.eq {fs : List Fr} {dr : List Bool} {s : Sl} {k : Nat} {f t : Fr} {ts : List Fr} (h : Takes fs dr s k f t ts) : one fs dr false s ts = (0, ts.set k (up t s)) := by
 unfold one
 rw [if_neg (by have := h.c0; omega)]
 simp only [h.at_, h.hf, h.ht, Bool.false_eq_true, if_false]
 rw [if_neg h.dry, if_neg]
 ·rfl
 ·rintro (e | e | e)
  ·exact e h.sub
  ·exact e h.apart
  ·have := h.room; omega
theorem Gives.eq {fs : List Fr} {dr : List Bool} {s : Sl} {k : Nat} {f t : Fr} {ts : List Fr} (h : Gives fs s k f t ts) : one fs dr true s ts = (0, ts.set k (down t s)) := by
 unfold one
 rw [if_neg (by have := h.c0; omega)]
 simp only [h.at_, h.hf, h.ht, if_true]
 rw [if_neg (by have := h.sub; simpa using this), if_neg]
 ·rfl
 ·rintro (e | e)
  ·exact e h.has
  ·have := h.room; omega
theorem takes {fs : List Fr} {dr : List Bool} {s : Sl} {ts ts' : List Fr} (h : Inv fs ts) (e : one fs dr false s ts = (0, ts')) : ∃ k f t, Takes fs dr s k f t ts ∧ ts' = ts.set k (up t s) := by
 rcases one_cases fs dr false s ts h with ⟨h0, _⟩ | ⟨k, f, t, u, h1, hf, ht, e', hn, hd, hc, hm, hg⟩
 ·rw [e] at h0; exact absurd rfl h0
 ·rcases hg with ⟨g0, _⟩ | ⟨_, g1, g2, g3, _, _⟩
  ·cases g0
  ·have ht' : Takes fs dr s k f t ts := ⟨hc, h1, hf, ht, g1, hm, g2, g3⟩
   refine ⟨k, f, t, ht', ?_⟩
   have := ht'.eq
   rw [e] at this
   exact (Prod.mk.inj this).2
theorem set_same {ts : List Fr} {k : Nat} {t : Fr} (h : ts[k]? = some t) : ts.set k t = ts := by
 refine List.ext_getElem? fun i => ?_
 by_cases hi : k = i
 ·subst hi; rw [List.getElem?_set_self (List.getElem?_eq_some_iff.1 h).1, h]
 ·rw [List.getElem?_set_ne hi]
theorem take_give {fs : List Fr} {dr dr' : List Bool} {s : Sl} {ts ts' : List Fr} (h : Inv fs ts) (e : one fs dr false s ts = (0, ts')) : one fs dr' true s ts' = (0, ts) := by
 obtain ⟨k, f, t, hT, rfl⟩ := takes h e
 have hlt : k < ts.length := (List.getElem?_eq_some_iff.1 hT.ht).1
 have hG : Gives fs s k f (up t s) (ts.set k (up t s)) := ⟨hT.c0, hT.at_, hT.hf, List.getElem?_set_self hlt, hT.sub, by
  refine Nat.eq_of_testBit_eq fun i => ?_
  simp only [up, Nat.testBit_and, Nat.testBit_or]
  cases s.m.testBit i <;> simp, by have := hT.c0; simp only [up]; omega⟩
 rw [hG.eq, List.set_set]
 have hd : down (up t s) s = t := by
  have h1 : MM.sub (t.m ||| s.m) s.m = t.m := sub_add (by rw [Nat.and_comm]; exact hT.apart)
  simp only [down, up, h1, Nat.add_sub_cancel]
 rw [hd, set_same hT.ht]
theorem take_swap {fs : List Fr} {dr : List Bool} {s s2 : Sl} {ts ts1 ts12 : List Fr} (h : Inv fs ts) (e : one fs dr false s ts = (0, ts1)) (e2 : one fs dr false s2 ts1 = (0, ts12)) :
  ∃ ts2, one fs dr false s2 ts = (0, ts2) ∧ one fs dr false s ts2 = (0, ts12) := by
 have h1 : Inv fs ts1 := by have := one_inv (dr := dr) (give := false) (s := s) h; rwa [e] at this
 obtain ⟨k, f, t, hT, rfl⟩ := takes h e
 obtain ⟨k2, f2, t2, hT2, rfl⟩ := takes h1 e2
 have hlt : k < ts.length := (List.getElem?_eq_some_iff.1 hT.ht).1
 by_cases hk : k = k2
 ·subst hk
  have e1 := hT2.ht
  rw [List.getElem?_set_self hlt] at e1
  cases e1
  have e3 := hT2.hf
  rw [hT.hf] at e3
  cases e3
  have hap := hT2.apart
  simp only [up, Nat.and_or_distrib_left] at hap
  have ha1 : s2.m &&& t.m = 0 := (Nat.or_eq_zero_iff.1 hap).1
  have ha2 : s2.m &&& s.m = 0 := (Nat.or_eq_zero_iff.1 hap).2
  have hro := hT2.room
  simp only [up] at hro
  have c0 := hT.c0
  have c2 := hT2.c0
  have hA : Takes fs dr s2 k f t ts := ⟨hT2.c0, hT2.at_, hT2.hf, hT.ht, hT2.dry, hT2.sub, ha1, by omega⟩
  have hB : Takes fs dr s k f (up t s2) (ts.set k (up t s2)) := ⟨hT.c0, hT.at_, hT.hf, List.getElem?_set_self hlt, hT.dry, hT.sub, by
   simp only [up, Nat.and_or_distrib_left, hT.apart]
   rw [Nat.and_comm, ha2]; rfl, by simp only [up]; omega⟩
  refine ⟨_, hA.eq, ?_⟩
  rw [hB.eq, List.set_set, List.set_set]
  have : up (up t s2) s = up (up t s) s2 := by
   simp only [up, Nat.or_assoc, Nat.or_comm s2.m s.m, Nat.add_assoc, Nat.add_comm s2.c.toNat s.c.toNat]
  rw [this]
 ·have e1 := hT2.ht
  rw [List.getElem?_set_ne hk] at e1
  have hA : Takes fs dr s2 k2 f2 t2 ts := ⟨hT2.c0, hT2.at_, hT2.hf, e1, hT2.dry, hT2.sub, hT2.apart, hT2.room⟩
  have hB : Takes fs dr s k f t (ts.set k2 (up t2 s2)) := ⟨hT.c0, hT.at_, hT.hf, by rw [List.getElem?_set_ne (Ne.symm hk)]; exact hT.ht, hT.dry, hT.sub, hT.apart, hT.room⟩
  refine ⟨_, hA.eq, ?_⟩
  rw [hB.eq, List.set_comm _ _ (Ne.symm hk)]
theorem many_cons {fs : List Fr} {dr : List Bool} {give : Bool} {s : Sl} {l : List Sl} {ts ts1 : List Fr} (e : one fs dr give s ts = (0, ts1)) : many fs dr give (s :: l) ts = many fs dr give l ts1 := by
 conv => lhs; unfold many
 rw [if_pos (by rw [e]), e]
theorem many_ok {fs : List Fr} {dr : List Bool} {give : Bool} {s : Sl} {l : List Sl} {ts ts' : List Fr} (e : many fs dr give (s :: l) ts = (0, ts')) : ∃ ts1, one fs dr give s ts = (0, ts1) ∧ many fs dr give l ts1 = (0, ts') := by
 unfold many at e
 by_cases h : (one fs dr give s ts).1 = 0
 ·rw [if_pos h] at e
  exact ⟨_, Prod.ext h rfl, e⟩
 ·rw [if_neg h] at e
  rw [e] at h; exact absurd rfl h
theorem take_past {fs : List Fr} {dr dr' : List Bool} {s : Sl} : ∀ {l : List Sl} {ts ts1 ts' : List Fr}, Inv fs ts → one fs dr false s ts = (0, ts1) → many fs dr false l ts1 = (0, ts') →
  ∃ ts2, many fs dr false l ts = (0, ts2) ∧ one fs dr' true s ts' = (0, ts2)
 | [], ts, ts1, ts', h, e, e' => by
  cases e'
  exact ⟨ts, rfl, take_give h e⟩
 | s2 :: l, ts, ts1, ts', h, e, e' => by
  obtain ⟨ts12, e2, e3⟩ := many_ok e'
  obtain ⟨ts2, a, b⟩ := take_swap h e e2
  have h2 : Inv fs ts2 := by have := one_inv (dr := dr) (give := false) (s := s2) h; rwa [a] at this
  obtain ⟨ts3, c, d⟩ := take_past (dr' := dr') h2 b e3
  exact ⟨ts3, by rw [many_cons a, c], d⟩
theorem take_give_many {fs : List Fr} {dr dr' : List Bool} : ∀ {l : List Sl} {ts ts' : List Fr}, Inv fs ts → many fs dr false l ts = (0, ts') → many fs dr' true l ts' = (0, ts)
 | [], ts, ts', h, e => by cases e; rfl
 | s :: l, ts, ts', h, e => by
  obtain ⟨ts1, e1, e2⟩ := many_ok e
  obtain ⟨ts2, a, b⟩ := take_past (dr' := dr') h e1 e2
  rw [many_cons b]
  exact take_give_many h a
theorem whole_of_many {fs : List Fr} {dr : List Bool} {give : Bool} {l : List Sl} {ts ts' : List Fr} (e : many fs dr give l ts = (0, ts')) : whole fs dr give l ts = (0, ts') := by
 unfold whole; rw [if_pos (by rw [e]), e]
theorem many_of_whole {fs : List Fr} {dr : List Bool} {give : Bool} {l : List Sl} {ts ts' : List Fr} (e : whole fs dr give l ts = (0, ts')) : many fs dr give l ts = (0, ts') := by
 unfold whole at e
 by_cases h : (many fs dr give l ts).1 = 0
 ·rwa [if_pos h] at e
 ·rw [if_neg h] at e
  exact absurd (Prod.mk.inj e).1 h
theorem whole_err {fs : List Fr} {dr : List Bool} {give : Bool} {l : List Sl} {ts : List Fr} (h : (whole fs dr give l ts).1 ≠ 0) : (whole fs dr give l ts).2 = ts := by
 unfold whole at h ⊢
 by_cases h1 : (many fs dr give l ts).1 = 0
 ·rw [if_pos h1] at h; exact absurd h1 h
 ·rw [if_neg h1]
theorem many_split {fs : List Fr} {dr : List Bool} {give : Bool} : ∀ {l l' : List Sl} {ts ts1 : List Fr}, many fs dr give l ts = (0, ts1) → many fs dr give (l ++ l') ts = many fs dr give l' ts1
 | [], l', ts, ts1, e => by cases e; rfl
 | s :: l, l', ts, ts1, e => by
  obtain ⟨ts2, e1, e2⟩ := many_ok e
  rw [List.cons_append, many_cons e1]
  exact many_split e2
theorem many_first {fs : List Fr} {dr : List Bool} {give : Bool} {s : Sl} {l : List Sl} {ts : List Fr} (h : (one fs dr give s ts).1 ≠ 0) : (many fs dr give (s :: l) ts).1 = (one fs dr give s ts).1 := by
 unfold many; rw [if_neg h]
/-! ### What is seen -/
def view (fs ts : List Fr) (dr : List Bool) : List Fr := (free fs ts).filter fun f => !(dr[f.n]?.getD false)
/-! ### All units of a cluster -/
end Go.Proofs.YtgpfmlidchogcaaGreat.PM
