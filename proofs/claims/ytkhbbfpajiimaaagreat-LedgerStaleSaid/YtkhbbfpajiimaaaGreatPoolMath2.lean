/- Plain facts for layer 3: what is taken and given back leaves all as it was; slots one by one and all at once; drained nodes; all units of a cluster. No program is walked. -/
import Derived.Test.YtkhbbfpajiimaaaGreatPoolMath
namespace Go.Proofs.YtkhbbfpajiimaaaGreat.PM

def up (t : Fr) (s : Sl) : Fr := ⟨t.n, t.d, t.m ||| s.m, t.c + s.c.toNat⟩
def down (t : Fr) (s : Sl) : Fr := ⟨t.n, t.d, MM.sub t.m s.m, t.c - s.c.toNat⟩
/-- A slot is taken. -/
structure Takes (fs : List Fr) (dr : List Bool) (s : Sl) (k : Nat) (f t : Fr) (ts : List Fr) : Prop where
  c0 : 0 ≤ s.c
  at_ : find s.n s.d fs = some k
  hf : fs[k]? = some f
  ht : ts[k]? = some t
  dry : dr[f.n]? ≠ some true
  sub : s.m &&& f.m = s.m
  apart : s.m &&& t.m = 0
  room : s.c ≤ (f.c : Int) - (t.c : Int)
/-- A slot is given back. -/
structure Gives (fs : List Fr) (s : Sl) (k : Nat) (f t : Fr) (ts : List Fr) : Prop where
  c0 : 0 ≤ s.c
  at_ : find s.n s.d fs = some k
  hf : fs[k]? = some f
  ht : ts[k]? = some t
  sub : s.m &&& f.m = s.m
  has : s.m &&& t.m = s.m
  room : s.c ≤ (t.c : Int)
theorem Takes.eq {fs : List Fr} {dr : List Bool} {s : Sl} {k : Nat} {f t : Fr} {ts : List Fr} (h : Takes fs dr s k f t ts) : one fs dr false s ts = (0, ts.set k (up t s)) := by
  unfold one
  rw [if_neg (by have := h.c0; omega)]
  simp only [h.at_, h.hf, h.ht, Bool.false_eq_true, if_false]
  rw [if_neg h.dry, if_neg]
  · rfl
  · rintro (e | e | e)
    · exact e h.sub
    · exact e h.apart
    · have := h.room; omega
theorem Gives.eq {fs : List Fr} {dr : List Bool} {s : Sl} {k : Nat} {f t : Fr} {ts : List Fr} (h : Gives fs s k f t ts) : one fs dr true s ts = (0, ts.set k (down t s)) := by
  unfold one
  rw [if_neg (by have := h.c0; omega)]
  simp only [h.at_, h.hf, h.ht, if_true]
  rw [if_neg (by have := h.sub; simpa using this), if_neg]
  · rfl
  · rintro (e | e)
    · exact e h.has
    · have := h.room; omega
theorem takes {fs : List Fr} {dr : List Bool} {s : Sl} {ts ts' : List Fr} (h : Inv fs ts) (e : one fs dr false s ts = (0, ts')) : ∃ k f t, Takes fs dr s k f t ts ∧ ts' = ts.set k (up t s) := by
  rcases one_cases fs dr false s ts h with ⟨h0, _⟩ | ⟨k, f, t, u, h1, hf, ht, e', hn, hd, hc, hm, hg⟩
  · rw [e] at h0; exact absurd rfl h0
  · rcases hg with ⟨g0, _⟩ | ⟨_, g1, g2, g3, _, _⟩
    · cases g0
    · have ht' : Takes fs dr s k f t ts := ⟨hc, h1, hf, ht, g1, hm, g2, g3⟩
      refine ⟨k, f, t, ht', ?_⟩
      have := ht'.eq
      rw [e] at this
      exact (Prod.mk.inj this).2
theorem set_same {ts : List Fr} {k : Nat} {t : Fr} (h : ts[k]? = some t) : ts.set k t = ts := by
  refine List.ext_getElem? fun i => ?_
  by_cases hi : k = i
  · subst hi; rw [List.getElem?_set_self (List.getElem?_eq_some_iff.1 h).1, h]
  · rw [List.getElem?_set_ne hi]
/-- What was taken can be given back. -/
theorem take_give {fs : List Fr} {dr dr' : List Bool} {s : Sl} {ts ts' : List Fr} (h : Inv fs ts) (e : one fs dr false s ts = (0, ts')) : one fs dr' true s ts' = (0, ts) := by
  obtain ⟨k, f, t, hT, rfl⟩ := takes h e
  have hlt : k < ts.length := (List.getElem?_eq_some_iff.1 hT.ht).1
  have hG : Gives fs s k f (up t s) (ts.set k (up t s)) := ⟨hT.c0, hT.at_, hT.hf, List.getElem?_set_self hlt, hT.sub, by
    refine Nat.eq_of_testBit_eq fun i => ?_
    simp only [up, Nat.testBit_and, Nat.testBit_or]
    cases s.m.testBit i <;> simp, by have := hT.c0; simp only [up]; omega⟩
  rw [hG.eq, List.set_set]
  have hd : down (up t s) s = t := by
    have h1 : MM.sub (t.m ||| s.m) s.m = t.m := sub_add (by rw [Nat.and_comm]; exact hT.apart)
    simp only [down, up, h1, Nat.add_sub_cancel]
  rw [hd, set_same hT.ht]
/-- Two slots are taken in either order. -/
theorem take_swap {fs : List Fr} {dr : List Bool} {s s2 : Sl} {ts ts1 ts12 : List Fr} (h : Inv fs ts) (e : one fs dr false s ts = (0, ts1)) (e2 : one fs dr false s2 ts1 = (0, ts12)) :
    ∃ ts2, one fs dr false s2 ts = (0, ts2) ∧ one fs dr false s ts2 = (0, ts12) := by
  have h1 : Inv fs ts1 := by have := one_inv (dr := dr) (give := false) (s := s) h; rwa [e] at this
  obtain ⟨k, f, t, hT, rfl⟩ := takes h e
  obtain ⟨k2, f2, t2, hT2, rfl⟩ := takes h1 e2
  have hlt : k < ts.length := (List.getElem?_eq_some_iff.1 hT.ht).1
  by_cases hk : k = k2
  · subst hk
    have e1 := hT2.ht
    rw [List.getElem?_set_self hlt] at e1
    cases e1
    have e3 := hT2.hf
    rw [hT.hf] at e3
    cases e3
    have hap := hT2.apart
    simp only [up, Nat.and_or_distrib_left] at hap
    have ha1 : s2.m &&& t.m = 0 := (Nat.or_eq_zero_iff.1 hap).1
    have ha2 : s2.m &&& s.m = 0 := (Nat.or_eq_zero_iff.1 hap).2
    have hro := hT2.room
    simp only [up] at hro
    have c0 := hT.c0
    have c2 := hT2.c0
    have hA : Takes fs dr s2 k f t ts := ⟨hT2.c0, hT2.at_, hT2.hf, hT.ht, hT2.dry, hT2.sub, ha1, by omega⟩
    have hB : Takes fs dr s k f (up t s2) (ts.set k (up t s2)) := ⟨hT.c0, hT.at_, hT.hf, List.getElem?_set_self hlt, hT.dry, hT.sub, by
      simp only [up, Nat.and_or_distrib_left, hT.apart]
      rw [Nat.and_comm, ha2]; rfl, by simp only [up]; omega⟩
    refine ⟨_, hA.eq, ?_⟩
    rw [hB.eq, List.set_set, List.set_set]
    have : up (up t s2) s = up (up t s) s2 := by
      simp only [up, Nat.or_assoc, Nat.or_comm s2.m s.m, Nat.add_assoc, Nat.add_comm s2.c.toNat s.c.toNat]
    rw [this]
  · have e1 := hT2.ht
    rw [List.getElem?_set_ne hk] at e1
    have hA : Takes fs dr s2 k2 f2 t2 ts := ⟨hT2.c0, hT2.at_, hT2.hf, e1, hT2.dry, hT2.sub, hT2.apart, hT2.room⟩
    have hB : Takes fs dr s k f t (ts.set k2 (up t2 s2)) := ⟨hT.c0, hT.at_, hT.hf, by rw [List.getElem?_set_ne (Ne.symm hk)]; exact hT.ht, hT.dry, hT.sub, hT.apart, hT.room⟩
    refine ⟨_, hA.eq, ?_⟩
    rw [hB.eq, List.set_comm _ _ (Ne.symm hk)]
theorem many_cons {fs : List Fr} {dr : List Bool} {give : Bool} {s : Sl} {l : List Sl} {ts ts1 : List Fr} (e : one fs dr give s ts = (0, ts1)) : many fs dr give (s :: l) ts = many fs dr give l ts1 := by
  conv => lhs; unfold many
  rw [if_pos (by rw [e]), e]
theorem many_ok {fs : List Fr} {dr : List Bool} {give : Bool} {s : Sl} {l : List Sl} {ts ts' : List Fr} (e : many fs dr give (s :: l) ts = (0, ts')) : ∃ ts1, one fs dr give s ts = (0, ts1) ∧ many fs dr give l ts1 = (0, ts') := by
  unfold many at e
  by_cases h : (one fs dr give s ts).1 = 0
  · rw [if_pos h] at e
    exact ⟨_, Prod.ext h rfl, e⟩
  · rw [if_neg h] at e
    rw [e] at h; exact absurd rfl h
theorem take_past {fs : List Fr} {dr dr' : List Bool} {s : Sl} : ∀ {l : List Sl} {ts ts1 ts' : List Fr}, Inv fs ts → one fs dr false s ts = (0, ts1) → many fs dr false l ts1 = (0, ts') →
    ∃ ts2, many fs dr false l ts = (0, ts2) ∧ one fs dr' true s ts' = (0, ts2)
  | [], ts, ts1, ts', h, e, e' => by
    cases e'
    exact ⟨ts, rfl, take_give h e⟩
  | s2 :: l, ts, ts1, ts', h, e, e' => by
    obtain ⟨ts12, e2, e3⟩ := many_ok e'
    obtain ⟨ts2, a, b⟩ := take_swap h e e2
    have h2 : Inv fs ts2 := by have := one_inv (dr := dr) (give := false) (s := s2) h; rwa [a] at this
    obtain ⟨ts3, c, d⟩ := take_past (dr' := dr') h2 b e3
    exact ⟨ts3, by rw [many_cons a, c], d⟩
/-- Slots that were taken can be given back, in the same order, one by one or all at once. -/
theorem take_give_many {fs : List Fr} {dr dr' : List Bool} : ∀ {l : List Sl} {ts ts' : List Fr}, Inv fs ts → many fs dr false l ts = (0, ts') → many fs dr' true l ts' = (0, ts)
  | [], ts, ts', h, e => by cases e; rfl
  | s :: l, ts, ts', h, e => by
    obtain ⟨ts1, e1, e2⟩ := many_ok e
    obtain ⟨ts2, a, b⟩ := take_past (dr' := dr') h e1 e2
    rw [many_cons b]
    exact take_give_many h a
theorem whole_of_many {fs : List Fr} {dr : List Bool} {give : Bool} {l : List Sl} {ts ts' : List Fr} (e : many fs dr give l ts = (0, ts')) : whole fs dr give l ts = (0, ts') := by
  unfold whole; rw [if_pos (by rw [e]), e]
theorem many_of_whole {fs : List Fr} {dr : List Bool} {give : Bool} {l : List Sl} {ts ts' : List Fr} (e : whole fs dr give l ts = (0, ts')) : many fs dr give l ts = (0, ts') := by
  unfold whole at e
  by_cases h : (many fs dr give l ts).1 = 0
  · rwa [if_pos h] at e
  · rw [if_neg h] at e
    exact absurd (Prod.mk.inj e).1 h
theorem whole_err {fs : List Fr} {dr : List Bool} {give : Bool} {l : List Sl} {ts : List Fr} (h : (whole fs dr give l ts).1 ≠ 0) : (whole fs dr give l ts).2 = ts := by
  unfold whole at h ⊢
  by_cases h1 : (many fs dr give l ts).1 = 0
  · rw [if_pos h1] at h; exact absurd h1 h
  · rw [if_neg h1]
theorem whole_one {fs : List Fr} {dr : List Bool} {give : Bool} {s : Sl} {ts : List Fr} (h : Inv fs ts) : whole fs dr give [s] ts = one fs dr give s ts := by
  rcases one_cases fs dr give s ts h with ⟨h0, e⟩ | ⟨k, f, t, u, _, _, _, e, _⟩
  · have : many fs dr give [s] ts = one fs dr give s ts := by unfold many; rw [if_neg h0]
    unfold whole
    rw [this, if_neg h0]
    exact Prod.ext rfl e.symm
  · rw [whole_of_many (ts' := ts.set k u) (by rw [many_cons e]; rfl), e]
/-- The first wrong slot's error is that of all at once. -/
theorem many_split {fs : List Fr} {dr : List Bool} {give : Bool} : ∀ {l l' : List Sl} {ts ts1 : List Fr}, many fs dr give l ts = (0, ts1) → many fs dr give (l ++ l') ts = many fs dr give l' ts1
  | [], l', ts, ts1, e => by cases e; rfl
  | s :: l, l', ts, ts1, e => by
    obtain ⟨ts2, e1, e2⟩ := many_ok e
    rw [List.cons_append, many_cons e1]
    exact many_split e2
theorem many_first {fs : List Fr} {dr : List Bool} {give : Bool} {s : Sl} {l : List Sl} {ts : List Fr} (h : (one fs dr give s ts).1 ≠ 0) : (many fs dr give (s :: l) ts).1 = (one fs dr give s ts).1 := by
  unfold many; rw [if_neg h]
theorem whole_fst {fs : List Fr} {dr : List Bool} {give : Bool} {l : List Sl} {ts : List Fr} : (whole fs dr give l ts).1 = (many fs dr give l ts).1 := by
  unfold whole; split <;> rfl
/-- Of a drained node nothing is taken. -/
theorem take_drained {fs : List Fr} {dr : List Bool} {s : Sl} {ts : List Fr} (h : Inv fs ts) {k : Nat} (hs : s.n = (k : Int)) (hd : dr[k]? = some true) : (one fs dr false s ts).1 ≠ 0 := by
  intro e
  obtain ⟨j, f, t, hT, _⟩ := takes h (ts' := (one fs dr false s ts).2) (Prod.ext e rfl)
  obtain ⟨g, hg, hn, _⟩ := find_hit hT.at_
  rw [hT.hf] at hg; cases hg
  have : f.n = k := by omega
  subst this
  exact hT.dry hd
/-- What is taken of a spot changes no other one's. -/
theorem one_far {fs : List Fr} {dr : List Bool} {give : Bool} {s : Sl} {ts : List Fr} (h : Inv fs ts) {j : Nat} {f : Fr} (hj : fs[j]? = some f) (hne : ¬ ((f.n : Int) = s.n ∧ (f.d : Int) = s.d)) : (one fs dr give s ts).2[j]? = ts[j]? := by
  rcases one_cases fs dr give s ts h with ⟨_, e⟩ | ⟨k, g, t, u, hk, hg, _, e, _⟩
  · rw [e]
  · rw [e]
    refine List.getElem?_set_ne fun e => ?_
    subst e
    obtain ⟨g', hg', h1, h2⟩ := find_hit hk
    rw [hj] at hg'; cases hg'
    exact hne ⟨h1, h2⟩

/-! ### What is seen -/
def view (fs ts : List Fr) (dr : List Bool) : List Fr := (free fs ts).filter fun f => !(dr[f.n]?.getD false)
theorem sums_filter (p : Fr → Bool) : ∀ (l : List Fr), gsum (l.filter p) ≤ gsum l ∧ csum (l.filter p) ≤ csum l
  | [] => ⟨Nat.le_refl _, Nat.le_refl _⟩
  | f :: l => by
    obtain ⟨a, b⟩ := sums_filter p l
    by_cases h : p f = true
    · rw [List.filter_cons_of_pos h]
      simp only [gsum, csum, List.map_cons, List.sum_cons] at a b ⊢
      omega
    · rw [List.filter_cons_of_neg h]
      simp only [gsum, csum, List.map_cons, List.sum_cons] at a b ⊢
      omega
theorem view_le (fs ts : List Fr) (dr : List Bool) : gsum (view fs ts dr) ≤ gsum (free fs ts) ∧ csum (view fs ts dr) ≤ csum (free fs ts) := sums_filter _ _

/-! ### All units of a cluster -/
/-- A spot's all, as a slot. -/
def slotOf (f : Fr) : Sl := ⟨f.n, f.d, f.m, f.c⟩
theorem full_one {fs : List Fr} {dr : List Bool} {k : Nat} {f t : Fr} {ts : List Fr} (hf : fs[k]? = some f) (ht : ts[k]? = some t) (ho : ∀ (i j : Nat) (f g : Fr), fs[i]? = some f → fs[j]? = some g → f.n = g.n → f.d = g.d → i = j)
    (hd : dr[f.n]? ≠ some true) (hm : t.m = 0) (hc : t.c = 0) : one fs dr false (slotOf f) ts = (0, ts.set k ⟨t.n, t.d, f.m, f.c⟩) := by
  have hT : Takes fs dr (slotOf f) k f t ts := ⟨by simp [slotOf], find_eq hf rfl rfl ho, hf, ht, hd, by simp [slotOf], by rw [hm]; simp, by simp [slotOf, hc]⟩
  rw [hT.eq]
  simp [up, slotOf, hm, hc]
/-- Spots' alls, taken one behind the other, in whatever order, each once. -/
theorem full_many {fs : List Fr} {dr : List Bool} (ho : ∀ (i j : Nat) (f g : Fr), fs[i]? = some f → fs[j]? = some g → f.n = g.n → f.d = g.d → i = j) (hd : ∀ f ∈ fs, dr[f.n]? ≠ some true) :
    ∀ (ks : List Nat) (l : List Fr) (ts : List Fr), ks.Nodup → ts.length = fs.length → ks.length = l.length → (∀ (i k : Nat) (f : Fr), ks[i]? = some k → l[i]? = some f → fs[k]? = some f) →
      (∀ k ∈ ks, ∀ t, ts[k]? = some t → t.m = 0 ∧ t.c = 0) →
      ∃ ts', many fs dr false (l.map slotOf) ts = (0, ts') ∧ ts'.length = ts.length ∧ (∀ (k : Nat) (f t : Fr), k ∈ ks → fs[k]? = some f → ts[k]? = some t → ts'[k]? = some ⟨t.n, t.d, f.m, f.c⟩) ∧ ∀ k, k ∉ ks → ts'[k]? = ts[k]?
  | [], [], ts, _, _, _, _, _ => ⟨ts, rfl, rfl, by simp, fun _ _ => rfl⟩
  | [], _ :: _, _, _, _, h, _, _ => by simp at h
  | _ :: _, [], _, _, _, h, _, _ => by simp at h
  | k :: ks, f :: l, ts, hn, hl, hlen, hk, h0 => by
    obtain ⟨hk1, hn2⟩ := List.nodup_cons.1 hn
    have hf : fs[k]? = some f := hk 0 k f rfl rfl
    obtain ⟨t, ht⟩ := get_lt (l := ts) (k := k) (by rw [hl]; exact (List.getElem?_eq_some_iff.1 hf).1)
    obtain ⟨z1, z2⟩ := h0 k (List.mem_cons_self ..) t ht
    have e := full_one (dr := dr) hf ht ho (hd f (List.mem_of_getElem? hf)) z1 z2
    obtain ⟨ts', a, b, c, d⟩ := full_many ho hd ks l (ts.set k ⟨t.n, t.d, f.m, f.c⟩) hn2 (by rw [List.length_set]; exact hl) (by simpa using hlen) (fun i k' f' h1 h2 => hk (i + 1) k' f' (by simpa using h1) (by simpa using h2)) (fun k' hk' t' ht' => by
      have hne : k ≠ k' := fun e => hk1 (e ▸ hk')
      rw [List.getElem?_set_ne hne] at ht'
      exact h0 k' (List.mem_cons_of_mem _ hk') t' ht')
    refine ⟨ts', by rw [List.map_cons, many_cons e, a], by rw [b, List.length_set], fun j g t' hj hg ht' => ?_, fun j hj => ?_⟩
    · rcases List.mem_cons.1 hj with rfl | hj
      · rw [hf] at hg; cases hg
        rw [ht] at ht'; cases ht'
        rw [d j hk1, List.getElem?_set_self (List.getElem?_eq_some_iff.1 ht).1]
      · have hne : k ≠ j := fun e => hk1 (e ▸ hj)
        exact c j g t' hj hg (by rw [List.getElem?_set_ne hne]; exact ht')
    · have h1 : k ≠ j := fun e => hj (e ▸ List.mem_cons_self ..)
      rw [d j (fun h => hj (List.mem_cons_of_mem _ h)), List.getElem?_set_ne h1]
/-- Of a spot that is taken whole a slot without units is taken still, one with a Cpu isn't. -/
theorem full_more {fs : List Fr} {dr : List Bool} {s : Sl} {k : Nat} {f t : Fr} {ts : List Fr} (hk : find s.n s.d fs = some k) (hf : fs[k]? = some f) (ht : ts[k]? = some t) (hd : dr[f.n]? ≠ some true) (hc : t.c = f.c) (hm : s.m = 0) :
    (s.c = 0 → one fs dr false s ts = (0, ts)) ∧ (0 < s.c → (one fs dr false s ts).1 = 5) := by
  constructor
  · intro h0
    have hT : Takes fs dr s k f t ts := ⟨by omega, hk, hf, ht, hd, by rw [hm]; simp, by rw [hm]; simp, by omega⟩
    rw [hT.eq]
    have : up t s = t := by simp [up, hm, h0]
    rw [this, set_same ht]
  · intro h0
    unfold one
    rw [if_neg (by omega)]
    simp only [hk, hf, ht, Bool.false_eq_true, if_false]
    rw [if_neg hd, if_pos]
    exact .inr (.inr (by omega))
end Go.Proofs.YtkhbbfpajiimaaaGreat.PM
