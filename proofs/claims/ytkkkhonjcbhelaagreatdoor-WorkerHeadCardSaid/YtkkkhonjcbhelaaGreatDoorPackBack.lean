import Derived.Test.YtkkkhonjcbhelaaGreatDoorPackS
namespace Go.Proofs.YtkkkhonjcbhelaaGreatDoor
open Go.RowKit
open PK
theorem stepL_more {l : List Fe} {s : Fe} {l' : List Fe} (h : stepL moreC l s = (0, l')) : ¬ s.c < 0 ∧ ∃ k f, hitL l s.n s.d = some k ∧ l[k]? = some f ∧ s.m &&& f.m = 0 ∧ ¬ (1048576 - f.c < s.c) ∧ l' = l.set k ⟨f.n, f.d, f.m ||| s.m, f.c + s.c⟩ := by
 unfold stepL at h;by_cases h0 : s.c < 0
 ·rw [if_pos h0] at h; exact absurd (congrArg Prod.fst h) (by simp)
 rw [if_neg h0] at h;refine ⟨h0, ?_⟩
 cases hh : hitL l s.n s.d with
 | none => rw [hh] at h; exact absurd (congrArg Prod.fst h) (by simp)
 | some k =>
  rw [hh] at h;obtain ⟨f, hf, _⟩ := hitL_some hh;simp only [hf] at h;unfold moreC at h;by_cases hc : s.m &&& f.m ≠ 0
  ·rw [if_pos hc] at h; exact absurd (congrArg Prod.fst h) (by simp)
  rw [if_neg hc] at h;by_cases hc2 : 1048576 - f.c < s.c
  ·rw [if_pos hc2] at h; exact absurd (congrArg Prod.fst h) (by simp)
  rw [if_neg hc2] at h;refine ⟨k, f, rfl, hf, by omega, hc2, ?_⟩;simpa using h.symm
theorem more_stepL {l : List Fe} {s f : Fe} {k : Nat} (h0 : ¬ s.c < 0) (hh : hitL l s.n s.d = some k) (hf : l[k]? = some f) (hm : s.m &&& f.m = 0) (hc : ¬ (1048576 - f.c < s.c)) :
  stepL moreC l s = (0, l.set k ⟨f.n, f.d, f.m ||| s.m, f.c + s.c⟩) := by
 unfold stepL;rw [if_neg h0, hh];simp only [hf];unfold moreC;rw [if_neg (by simpa using hm), if_neg hc];rfl
theorem stepL_less {l : List Fe} {s : Fe} {l' : List Fe} (h : stepL lessC l s = (0, l')) : ¬ s.c < 0 ∧ ∃ k f, hitL l s.n s.d = some k ∧ l[k]? = some f ∧ MM.sub s.m f.m = 0 ∧ ¬ (f.c < s.c) ∧ l' = l.set k ⟨f.n, f.d, MM.sub f.m s.m, f.c - s.c⟩ := by
 unfold stepL at h;by_cases h0 : s.c < 0
 ·rw [if_pos h0] at h; exact absurd (congrArg Prod.fst h) (by simp)
 rw [if_neg h0] at h;refine ⟨h0, ?_⟩
 cases hh : hitL l s.n s.d with
 | none => rw [hh] at h; exact absurd (congrArg Prod.fst h) (by simp)
 | some k =>
  rw [hh] at h;obtain ⟨f, hf, _⟩ := hitL_some hh;simp only [hf] at h;unfold lessC at h;by_cases hc : MM.sub s.m f.m ≠ 0 ∨ f.c < s.c
  ·rw [if_pos hc] at h; exact absurd (congrArg Prod.fst h) (by simp)
  rw [if_neg hc] at h;refine ⟨k, f, rfl, hf, by omega, by omega, ?_⟩;simpa using h.symm
theorem and_zero {a b : Nat} : a &&& b = 0 ↔ ∀ i, a.testBit i = true → b.testBit i = true → False := by
 constructor
 ·intro h i ha hb;have := congrArg (fun x => x.testBit i) h;simp [ha, hb] at this
 ·intro h;refine Nat.eq_of_testBit_eq fun i => ?_
  rw [Nat.testBit_and, Nat.zero_testBit]
  cases ha : a.testBit i <;> cases hb : b.testBit i <;> simp
  exact (h i ha hb)
theorem more_swap {l a b : List Fe} {s t : Fe} (h1 : stepL moreC l t = (0, a)) (h2 : stepL moreC a s = (0, b)) : ∃ a', stepL moreC l s = (0, a') ∧ stepL moreC a' t = (0, b) := by
 obtain ⟨t0, k, f, hk, hf, hm, hc, rfl⟩ := stepL_more h1;have hsp : ∀ m c, spotsL (l.set k ⟨f.n, f.d, m, c⟩) = spotsL l := fun m c => spotsL_set hf rfl rfl
 obtain ⟨s0, j, g, hj, hg, gm, gc, rfl⟩ := stepL_more h2;rw [hitL_spots (hsp _ _)] at hj;have hkl := (List.getElem?_eq_some_iff.1 hf).1;by_cases hkj : k = j
 ·subst hkj;rw [List.getElem?_set_self hkl] at hg;obtain rfl := Option.some.inj hg;simp only at gm gc ⊢;have e1 : s.m &&& f.m = 0 := and_zero.2 fun i x y => and_zero.1 gm i x (by simp [y])
  refine ⟨_, more_stepL s0 hj hf e1 (by omega), ?_⟩;rw [more_stepL (f := ⟨f.n, f.d, f.m ||| s.m, f.c + s.c⟩) t0 (by rw [hitL_spots (hsp _ _)]; exact hk) (List.getElem?_set_self hkl) (by
   refine and_zero.2 fun i x y => ?_
   simp only [Nat.testBit_or, Bool.or_eq_true] at y;rcases y with y | y
   ·exact and_zero.1 hm i x y
   ·exact and_zero.1 gm i y (by simp [x])) (by simp only; omega)]
  rw [List.set_set, List.set_set];simp only;rw [Nat.or_assoc, Nat.or_assoc, Nat.or_comm s.m t.m, show f.c + s.c + t.c = f.c + t.c + s.c by omega]
 ·rw [List.getElem?_set_ne hkj] at hg;refine ⟨_, more_stepL s0 hj hg gm gc, ?_⟩;rw [more_stepL t0 (by rw [hitL_spots (spotsL_set (g := ⟨g.n, g.d, g.m ||| s.m, g.c + s.c⟩) hg rfl rfl)]; exact hk) (by rw [List.getElem?_set_ne (Ne.symm hkj)]; exact hf) hm hc, List.set_comm _ _ hkj]
theorem turnL_cons {ch : Fe → Fe → Int × Fe} {l l' : List Fe} {s : Fe} {ss : List Fe} (h : turnL ch l (s :: ss) = (0, l')) : ∃ a, stepL ch l s = (0, a) ∧ turnL ch a ss = (0, l') := by
 rw [turnL] at h;by_cases h0 : (stepL ch l s).1 = 0
 ·rw [if_pos h0] at h;exact ⟨_, Prod.ext h0 rfl, h⟩
 ·rw [if_neg h0] at h;exact absurd (congrArg Prod.fst h) h0
theorem cons_turnL {ch : Fe → Fe → Int × Fe} {l l' a : List Fe} {s : Fe} {ss : List Fe} (h1 : stepL ch l s = (0, a)) (h2 : turnL ch a ss = (0, l')) : turnL ch l (s :: ss) = (0, l') := by
 rw [turnL, h1, if_pos rfl];exact h2
theorem more_past {s : Fe} : ∀ (ss : List Fe) {l a b : List Fe}, turnL moreC l ss = (0, a) → stepL moreC a s = (0, b) → turnL moreC l (s :: ss) = (0, b)
 | [], l, a, b, h1, h2 => by
  rw [turnL] at h1;obtain rfl : l = a := congrArg Prod.snd h1;exact cons_turnL h2 (by rw [turnL])
 | t :: ss, l, a, b, h1, h2 => by
  obtain ⟨x, hx, hx2⟩ := turnL_cons h1;obtain ⟨y, hy, hy2⟩ := turnL_cons (more_past ss hx2 h2);obtain ⟨z, hz, hz2⟩ := more_swap hx hy;exact cons_turnL hz (cons_turnL hz2 hy2)
theorem more_less {l l' : List Fe} {s : Fe} (hcs : ∀ f ∈ l, f.c ≤ 1048576) (h : stepL lessC l s = (0, l')) : stepL moreC l' s = (0, l) ∧ ∀ f ∈ l', f.c ≤ 1048576 := by
 obtain ⟨s0, k, f, hk, hf, hm, hc, rfl⟩ := stepL_less h;have hkl := (List.getElem?_eq_some_iff.1 hf).1;have hin : ∀ i, s.m.testBit i = true → f.m.testBit i = true := fun i hi => by
  have := congrArg (fun x => x.testBit i) hm;simp only [MM.testBit_sub, Nat.zero_testBit, hi, Bool.true_and, Bool.not_eq_false'] at this;exact this
 have hfc := hcs f (List.mem_of_getElem? hf);refine ⟨?_, fun g hg => ?_⟩
 ·rw [more_stepL (f := ⟨f.n, f.d, MM.sub f.m s.m, f.c - s.c⟩) s0 (by rw [hitL_spots (spotsL_set (g := ⟨f.n, f.d, MM.sub f.m s.m, f.c - s.c⟩) hf rfl rfl)]; exact hk) (List.getElem?_set_self hkl) (by
   refine and_zero.2 fun i x y => ?_
   simp only [MM.testBit_sub, x] at y;simp at y) (by simp only; omega), List.set_set]
  have e1 : MM.sub f.m s.m ||| s.m = f.m := Nat.eq_of_testBit_eq fun i => by
   rw [Nat.testBit_or, MM.testBit_sub]
   cases h1 : s.m.testBit i
   ·simp
   ·simp [hin i h1]
  simp only;rw [e1, show f.c - s.c + s.c = f.c by omega]
  congr 1
  obtain ⟨_, rfl⟩ := List.getElem?_eq_some_iff.1 hf;exact List.set_getElem_self hkl
 ·rcases List.mem_or_eq_of_mem_set hg with hg | rfl
  ·exact hcs g hg
  ·simp only; omega
theorem more_back : ∀ (ss : List Fe) {l l' : List Fe}, (∀ f ∈ l, f.c ≤ 1048576) → turnL lessC l ss = (0, l') → turnL moreC l' ss = (0, l)
 | [], l, l', _, h => by
  rw [turnL] at h ⊢;obtain rfl : l = l' := congrArg Prod.snd h;rfl
 | s :: ss, l, l', hcs, h => by
  obtain ⟨a, ha, ha2⟩ := turnL_cons h;obtain ⟨h1, h2⟩ := more_less hcs ha;exact more_past ss (more_back ss h2 ha2) h1
end Go.Proofs.YtkkkhonjcbhelaaGreatDoor
