/- What is taken is just what holds have, what is used just what the holds of a queue have: each call keeps it so. No program is walked. -/
import Derived.Test.YtfbecfikeiecmaaGreatLedCore
set_option maxRecDepth 100000
set_option linter.unusedVariables false
namespace Go.Proofs.YtfbecfikeiecmaaGreat
theorem sum_perm {α : Type} (f : α → Int) {L L' : List α} (p : L.Perm L') : (L.map f).sum = (L'.map f).sum := by
  induction p with
  | nil => rfl
  | cons x _ ih => simp [ih]
  | swap x y l => simp; omega
  | trans _ _ h1 h2 => rw [h1, h2]
namespace PM
/-- Is a slot one of the spot number k? -/
def atS (fs : List Fr) (k : Nat) (s : Sl) : Bool := decide (find s.n s.d fs = some k)
def bitS (fs : List Fr) (k j : Nat) (s : Sl) : Bool := atS fs k s && s.m.testBit j
def cpuS (fs : List Fr) (k : Nat) (s : Sl) : Int := if atS fs k s = true then s.c else 0
/-- What is taken is just these slots together, none twice. -/
structure Sum (fs ts : List Fr) (L : List Sl) : Prop where
  inv : Inv fs ts
  ok : ∀ s ∈ L, 0 ≤ s.c ∧ ∃ k, find s.n s.d fs = some k
  bit : ∀ k t, ts[k]? = some t → ∀ j, L.countP (bitS fs k j) = if t.m.testBit j = true then 1 else 0
  cpu : ∀ k t, ts[k]? = some t → (t.c : Int) = (L.map (cpuS fs k)).sum
section
variable {fs ts ts' : List Fr} {dr : List Bool} {L L' l : List Sl} {s : Sl}
theorem Sum.perm (h : Sum fs ts L) (p : L.Perm L') : Sum fs ts L' :=
  ⟨h.inv, fun s hs => h.ok s (p.mem_iff.2 hs), fun k t ht j => by rw [← p.countP_eq]; exact h.bit k t ht j, fun k t ht => by rw [h.cpu k t ht]; exact sum_perm _ p⟩
theorem Sum.nil (fs : List Fr) : Sum fs (zero fs) [] := by
  have hz : ∀ (k : Nat) (t : Fr), (zero fs)[k]? = some t → t.m = 0 ∧ t.c = 0 := fun k t ht => by
    unfold zero at ht
    rw [List.getElem?_map, Option.map_eq_some_iff] at ht
    obtain ⟨f, _, rfl⟩ := ht
    exact ⟨rfl, rfl⟩
  exact ⟨zero_inv fs, by simp, fun k t ht j => by rw [(hz k t ht).1]; simp, fun k t ht => by rw [(hz k t ht).2]; simp⟩
theorem cpu_pos (k : Nat) : ∀ {L : List Sl}, (∀ s ∈ L, 0 ≤ s.c) → 0 ≤ (L.map (cpuS fs k)).sum
  | [], _ => by simp
  | s :: L, h => by
    have h1 := cpu_pos k (L := L) fun x hx => h x (List.mem_cons_of_mem _ hx)
    have h2 := h s (List.mem_cons_self ..)
    rw [List.map_cons, List.sum_cons]
    unfold cpuS at h1 ⊢
    split <;> omega
theorem Sum.take (h : Sum fs ts L) (e : one fs dr false s ts = (0, ts')) : Sum fs ts' (s :: L) := by
  obtain ⟨k, f, t, ht, rfl⟩ := takes h.inv e
  have hi : Inv fs (ts.set k (up t s)) := by have := one_inv (fs := fs) (dr := dr) (give := false) (s := s) h.inv; rwa [e] at this
  have hat : atS fs k s = true := by unfold atS; simpa using ht.at_
  have hne : ∀ j, j ≠ k → atS fs j s = false := fun j hj => by unfold atS; rw [ht.at_]; simpa using fun e => hj e.symm
  have hlt := (List.getElem?_eq_some_iff.1 ht.ht).1
  refine ⟨hi, fun x hx => ?_, fun i u hu j => ?_, fun i u hu => ?_⟩
  · rcases List.mem_cons.1 hx with rfl | hx
    · exact ⟨ht.c0, k, ht.at_⟩
    · exact h.ok x hx
  · rw [List.countP_cons]
    by_cases hik : k = i
    · subst hik
      rw [List.getElem?_set_self hlt] at hu
      cases hu
      rw [h.bit k t ht.ht j]
      have ha := congrArg (fun x => x.testBit j) ht.apart
      simp only [Nat.testBit_and, Nat.zero_testBit] at ha
      simp only [bitS, hat, up, Nat.testBit_or, Bool.true_and]
      cases hs : s.m.testBit j <;> cases htb : t.m.testBit j <;> simp_all
    · rw [List.getElem?_set_ne hik] at hu
      rw [h.bit i u hu j]
      simp [bitS, hne i (fun e => hik e.symm)]
  · rw [List.map_cons, List.sum_cons]
    by_cases hik : k = i
    · subst hik
      rw [List.getElem?_set_self hlt] at hu
      cases hu
      rw [← h.cpu k t ht.ht]
      have := ht.c0
      simp only [up, cpuS, hat, if_true]
      omega
    · rw [List.getElem?_set_ne hik] at hu
      rw [← h.cpu i u hu]
      simp [cpuS, hne i (fun e => hik e.symm)]
theorem Sum.give (h : Sum fs ts (s :: L)) : ∃ k f t, Gives fs s k f t ts ∧ Sum fs (ts.set k (down t s)) L := by
  obtain ⟨hc0, k, hk⟩ := h.ok s (List.mem_cons_self ..)
  obtain ⟨f, hf, _, _⟩ := find_hit hk
  obtain ⟨t, ht⟩ := get_lt (l := ts) (k := k) (by rw [h.inv.1]; exact (List.getElem?_eq_some_iff.1 hf).1)
  obtain ⟨_, _, i3, i4⟩ := h.inv.2 k f t hf ht
  have hat : atS fs k s = true := by unfold atS; simpa using hk
  have hne : ∀ j, j ≠ k → atS fs j s = false := fun j hj => by unfold atS; rw [hk]; simpa using fun e => hj e.symm
  have hsub : ∀ j, s.m.testBit j = true → t.m.testBit j = true := fun j hj => by
    have := h.bit k t ht j
    rw [List.countP_cons] at this
    simp only [bitS, hat, hj, Bool.and_self, if_true] at this
    cases e : t.m.testBit j
    · rw [e] at this; simp at this
    · rfl
  have hst : s.m &&& t.m = s.m := by
    refine Nat.eq_of_testBit_eq fun j => ?_
    rw [Nat.testBit_and]
    cases e : s.m.testBit j
    · rfl
    · rw [hsub j e]; rfl
  have hsf : s.m &&& f.m = s.m := by
    refine Nat.eq_of_testBit_eq fun j => ?_
    rw [Nat.testBit_and]
    cases e : s.m.testBit j
    · rfl
    · rw [and_sub_iff i3 j (hsub j e)]; rfl
  have hcs := h.cpu k t ht
  have hcp := cpu_pos (fs := fs) k (L := L) fun x hx => (h.ok x (List.mem_cons_of_mem _ hx)).1
  rw [List.map_cons, List.sum_cons] at hcs
  have hcps : cpuS fs k s = s.c := by simp [cpuS, hat]
  rw [hcps] at hcs
  have hcc : s.c ≤ (t.c : Int) := by omega
  have hg : Gives fs s k f t ts := ⟨hc0, hk, hf, ht, hsf, hst, hcc⟩
  refine ⟨k, f, t, hg, ?_, fun x hx => h.ok x (List.mem_cons_of_mem _ hx), fun i u hu j => ?_, fun i u hu => ?_⟩
  · have := one_inv (fs := fs) (dr := []) (give := true) (s := s) h.inv
    rwa [hg.eq] at this
  · have hlt := (List.getElem?_eq_some_iff.1 ht).1
    by_cases hik : k = i
    · subst hik
      rw [List.getElem?_set_self hlt] at hu
      cases hu
      have hb := h.bit k t ht j
      rw [List.countP_cons] at hb
      simp only [bitS, hat, down, MM.testBit_sub, Bool.true_and] at hb ⊢
      cases e1 : s.m.testBit j <;> cases e2 : t.m.testBit j <;> simp_all
    · rw [List.getElem?_set_ne hik] at hu
      have hb := h.bit i u hu j
      rw [List.countP_cons] at hb
      simpa [bitS, hne i (fun e => hik e.symm)] using hb
  · have hlt := (List.getElem?_eq_some_iff.1 ht).1
    by_cases hik : k = i
    · subst hik
      rw [List.getElem?_set_self hlt] at hu
      cases hu
      simp only [down]
      omega
    · rw [List.getElem?_set_ne hik] at hu
      have hb := h.cpu i u hu
      rw [List.map_cons, List.sum_cons] at hb
      simpa [cpuS, hne i (fun e => hik e.symm)] using hb
theorem Sum.takes : ∀ {l : List Sl} {ts ts' : List Fr} {L : List Sl}, Sum fs ts L → many fs dr false l ts = (0, ts') → Sum fs ts' (l ++ L)
  | [], _, _, _, h, e => by cases e; exact h
  | s :: l, ts, ts', L, h, e => by
    obtain ⟨ts1, e1, e2⟩ := many_ok e
    exact ((h.take e1).takes e2).perm List.perm_middle
theorem Sum.gives (dr : List Bool) : ∀ {l : List Sl} {ts : List Fr} {L : List Sl}, Sum fs ts (l ++ L) → ∃ ts', many fs dr true l ts = (0, ts') ∧ Sum fs ts' L
  | [], ts, _, h => ⟨ts, rfl, h⟩
  | s :: l, ts, L, h => by
    obtain ⟨k, f, t, hg, h2⟩ := h.give
    obtain ⟨ts', e, h3⟩ := Sum.gives dr (l := l) h2
    exact ⟨ts', by rw [many_cons hg.eq]; exact e, h3⟩
/-- With nothing that is held nothing is taken. -/
theorem Sum.none (h : Sum fs ts []) : ts = zero fs := by
  refine List.ext_getElem? fun k => ?_
  unfold zero
  rw [List.getElem?_map]
  cases hf : fs[k]? with
  | none => rw [List.getElem?_eq_none_iff] at hf; rw [Option.map_none, List.getElem?_eq_none_iff, h.inv.1]; exact hf
  | some f =>
    obtain ⟨t, ht⟩ := get_lt (l := ts) (k := k) (by rw [h.inv.1]; exact (List.getElem?_eq_some_iff.1 hf).1)
    obtain ⟨i1, i2, _, _⟩ := h.inv.2 k f t hf ht
    have hc := h.cpu k t ht
    have hm : t.m = 0 := Nat.eq_of_testBit_eq fun j => by
      have := h.bit k t ht j
      rw [Nat.zero_testBit]
      cases e : t.m.testBit j
      · rfl
      · rw [e] at this; simp at this
    rw [ht]
    obtain ⟨n, d, m, c⟩ := t
    simp at hc hm i1 i2
    simp [i1, i2, hm, hc]
theorem free_zero (fs : List Fr) : free fs (zero fs) = fs := by
  refine List.ext_getElem? fun k => ?_
  unfold free zero
  rw [List.getElem?_zipWith, List.getElem?_map]
  cases hf : fs[k]? with
  | none => rfl
  | some f =>
    have e : MM.sub f.m 0 = f.m := Nat.eq_of_testBit_eq fun j => by rw [MM.testBit_sub]; simp
    simp [freeOf, e]
end
end PM
namespace LM
def slots (hs : List Hd) : List PM.Sl := hs.flatMap (·.sl)
def gsumQ (k : Nat) (hs : List Hd) : Int := (hs.map fun h => if h.q = (k : Int) then (units h.sl).g else 0).sum
def csumQ (k : Nat) (hs : List Hd) : Int := (hs.map fun h => if h.q = (k : Int) then (units h.sl).c else 0).sum
/-- What is taken is just what holds have; what each queue uses, what its holds have. -/
structure Sums (fs : List Fr) (us : List Un) (ts : List Fr) (qs : List Qa) (hs : List Hd) : Prop where
  taken : PM.Sum fs ts (slots hs)
  quota : qs.map (·.m) = us
  ok : ∀ x ∈ qs, QaOk x
  has : ∀ h ∈ hs, hasQ qs h.q = true
  g : ∀ k x, qs[k]? = some x → x.u.g = gsumQ k hs
  c : ∀ k x, qs[k]? = some x → x.u.c = csumQ k hs
section
variable {fs ts : List Fr} {us : List Un} {qs : List Qa} {hs hs' : List Hd} {h h' a b c n g : Hd}
theorem slots_perm (p : hs.Perm hs') : (slots hs).Perm (slots hs') := by
  induction p with
  | nil => exact .refl _
  | cons x _ ih => exact ih.append_left _
  | swap x y l =>
    simp only [slots, List.flatMap_cons]
    rw [← List.append_assoc, ← List.append_assoc]
    exact (List.perm_append_comm).append_right _
  | trans _ _ h1 h2 => exact h1.trans h2
theorem Sums.perm (h : Sums fs us ts qs hs) (p : hs.Perm hs') : Sums fs us ts qs hs' :=
  ⟨h.taken.perm (slots_perm p), h.quota, h.ok, fun x hx => h.has x (p.mem_iff.2 hx), fun k x hx => by rw [h.g k x hx]; exact sum_perm _ p, fun k x hx => by rw [h.c k x hx]; exact sum_perm _ p⟩
/-- A hold's slots are two holds' slots. -/
theorem Sums.join (h : Sums fs us ts qs (a :: b :: hs)) (c : Hd) (hq : a.q = b.q) (hc : c.q = b.q) (hl : c.sl = b.sl ++ a.sl) : Sums fs us ts qs (c :: hs) := by
  have hp : (slots (a :: b :: hs)).Perm (slots (c :: hs)) := by
    simp only [slots, List.flatMap_cons, hl]
    rw [← List.append_assoc]
    exact (List.perm_append_comm).append_right _
  refine ⟨h.taken.perm hp, h.quota, h.ok, fun x hx => ?_, fun k x hx => ?_, fun k x hx => ?_⟩
  · rcases List.mem_cons.1 hx with rfl | hx
    · rw [hc]; exact h.has b (by simp)
    · exact h.has x (by simp [hx])
  · rw [h.g k x hx]
    simp only [gsumQ, List.map_cons, List.sum_cons, hq, hc, hl, units_append, addU]
    split <;> omega
  · rw [h.c k x hx]
    simp only [csumQ, List.map_cons, List.sum_cons, hq, hc, hl, units_append, addU]
    split <;> omega
theorem Sums.part (h : Sums fs us ts qs (c :: hs)) (a b : Hd) (hq : a.q = b.q) (hc : c.q = b.q) (hl : c.sl = b.sl ++ a.sl) : Sums fs us ts qs (a :: b :: hs) := by
  have hp : (slots (a :: b :: hs)).Perm (slots (c :: hs)) := by
    simp only [slots, List.flatMap_cons, hl]
    rw [← List.append_assoc]
    exact (List.perm_append_comm).append_right _
  refine ⟨h.taken.perm hp.symm, h.quota, h.ok, fun x hx => ?_, fun k x hx => ?_, fun k x hx => ?_⟩
  · have h0 := h.has c (by simp)
    rcases List.mem_cons.1 hx with rfl | hx
    · rw [hq, ← hc]; exact h0
    rcases List.mem_cons.1 hx with rfl | hx
    · rw [← hc]; exact h0
    · exact h.has x (by simp [hx])
  · rw [h.g k x hx]
    simp only [gsumQ, List.map_cons, List.sum_cons, hq, hc, hl, units_append, addU]
    split <;> omega
  · rw [h.c k x hx]
    simp only [csumQ, List.map_cons, List.sum_cons, hq, hc, hl, units_append, addU]
    split <;> omega
/-- Like holds: the same queues and slots. -/
theorem Sums.alike (h : Sums fs us ts qs hs) (f : Hd → Hd) (hq : ∀ x, (f x).q = x.q) (hl : ∀ x, (f x).sl = x.sl) : Sums fs us ts qs (hs.map f) := by
  have hp : slots (hs.map f) = slots hs := by simp [slots, List.flatMap_map, hl]
  refine ⟨by rw [hp]; exact h.taken, h.quota, h.ok, fun x hx => ?_, fun k x hx => ?_, fun k x hx => ?_⟩
  · obtain ⟨y, hy, rfl⟩ := List.mem_map.1 hx
    rw [hq]; exact h.has y hy
  · rw [h.g k x hx]; simp only [gsumQ, List.map_map]; congr 1; exact List.map_congr_left fun y _ => by simp [hq, hl]
  · rw [h.c k x hx]; simp only [csumQ, List.map_map]; congr 1; exact List.map_congr_left fun y _ => by simp [hq, hl]
theorem qAdd_cases {L : List Qa} {q : Int} {u : Un} (e : (qAdd L q u).1 = 0) : ∃ (k : Nat) (x : Qa), q = (k : Int) ∧ L[k]? = some x ∧ mayU u = true ∧ leU u (subU x.m x.u) = true ∧ (qAdd L q u).2 = L.set k ⟨x.m, addU x.u u⟩ := by
  unfold qAdd at e ⊢
  cases h : hasQ L q
  · rw [h] at e; simp at e
  cases hm : mayU u
  · rw [h, hm] at e; simp at e
  obtain ⟨k, x, rfl, hk, hx⟩ : ∃ (k : Nat) (x : Qa), q = (k : Int) ∧ k < L.length ∧ L[k]? = some x := by
    unfold hasQ at h
    simp only [Bool.and_eq_true, decide_eq_true_eq] at h
    have hk : q.toNat < L.length := by omega
    exact ⟨q.toNat, L[q.toNat], by omega, hk, List.getElem?_eq_getElem hk⟩
  rw [h, hm] at e
  simp only [Int.toNat_natCast, hx] at e ⊢
  cases hl : leU u (subU x.m x.u)
  · rw [hl] at e; simp at e
  · exact ⟨k, x, rfl, hx, by simp, hl, by simp⟩
theorem Sums.take (hh : Sums fs us ts qs hs) {dr : List Bool} (n : Hd) (e1 : (PM.whole fs dr false n.sl ts).1 = 0) (e2 : (qAdd qs n.q (units n.sl)).1 = 0) : Sums fs us (PM.whole fs dr false n.sl ts).2 (qAdd qs n.q (units n.sl)).2 (n :: hs) := by
  have e1' : PM.whole fs dr false n.sl ts = (0, (PM.whole fs dr false n.sl ts).2) := Prod.ext e1 rfl
  obtain ⟨k, x, hq, hx, hm, hl, e3⟩ := qAdd_cases e2
  rw [e3]
  have ok := hh.ok x (List.mem_of_getElem? hx)
  have hlt := (List.getElem?_eq_some_iff.1 hx).1
  obtain ⟨l1, l2⟩ := leU_iff.1 hl
  obtain ⟨m1, m2, m3, m4⟩ := mayU_iff.1 hm
  obtain ⟨g1, g2⟩ := ok.g
  obtain ⟨c1, c2⟩ := ok.c
  simp only [subU] at l1 l2
  have hn : QaOk ⟨x.m, addU x.u (units n.sl)⟩ := ⟨ok.m, by simp only [addU]; omega, by simp only [addU]; omega⟩
  have hhas : ∀ z : Int, hasQ (qs.set k ⟨x.m, addU x.u (units n.sl)⟩) z = hasQ qs z := fun z => by unfold hasQ; rw [List.length_set]
  refine ⟨?_, ?_, fun y hy => ?_, fun y hy => ?_, fun i y hy => ?_, fun i y hy => ?_⟩
  · have := hh.taken.takes (PM.many_of_whole e1')
    simpa [slots] using this
  · rw [← hh.quota, List.map_set]
    refine List.ext_getElem? fun i => ?_
    by_cases hi : k = i
    · subst hi; rw [List.getElem?_set_self (by simpa using hlt), List.getElem?_map, hx]; rfl
    · rw [List.getElem?_set_ne hi]
  · rcases List.mem_or_eq_of_mem_set hy with hy | rfl
    · exact hh.ok y hy
    · exact hn
  · rw [hhas]
    rcases List.mem_cons.1 hy with rfl | hy
    · rw [hq]; unfold hasQ; simp [hlt]
    · exact hh.has y hy
  · simp only [gsumQ, List.map_cons, List.sum_cons, hq]
    by_cases hi : k = i
    · subst hi
      rw [List.getElem?_set_self hlt] at hy
      cases hy
      have := hh.g k x hx
      simp only [gsumQ] at this
      simp only [addU, if_true]
      omega
    · rw [List.getElem?_set_ne hi] at hy
      have := hh.g i y hy
      simp only [gsumQ] at this
      rw [if_neg (by omega)]
      omega
  · simp only [csumQ, List.map_cons, List.sum_cons, hq]
    by_cases hi : k = i
    · subst hi
      rw [List.getElem?_set_self hlt] at hy
      cases hy
      have := hh.c k x hx
      simp only [csumQ] at this
      simp only [addU, if_true]
      omega
    · rw [List.getElem?_set_ne hi] at hy
      have := hh.c i y hy
      simp only [csumQ] at this
      rw [if_neg (by omega)]
      omega
theorem units_pos : ∀ {l : List PM.Sl}, (∀ s ∈ l, 0 ≤ s.c) → 0 ≤ (units l).g ∧ 0 ≤ (units l).c
  | [], _ => by simp [units_nil]
  | s :: l, h => by
    have ih := units_pos (l := l) fun x hx => h x (List.mem_cons_of_mem _ hx)
    have hs := h s (List.mem_cons_self ..)
    rw [units_cons]
    exact ⟨by dsimp only; omega, by dsimp only; omega⟩
theorem Sums.pos (h : Sums fs us ts qs hs) : ∀ x ∈ hs, 0 ≤ (units x.sl).g ∧ 0 ≤ (units x.sl).c := fun x hx => units_pos fun s hs' => (h.taken.ok s (List.mem_flatMap.2 ⟨x, hx, hs'⟩)).1
theorem sumQ_pos {f : Hd → Int} : ∀ {hs : List Hd}, (∀ x ∈ hs, 0 ≤ f x) → 0 ≤ (hs.map f).sum
  | [], _ => by simp
  | x :: l, h => by
    have ih := sumQ_pos (f := f) (hs := l) fun y hy => h y (List.mem_cons_of_mem _ hy)
    have := h x (List.mem_cons_self ..)
    rw [List.map_cons, List.sum_cons]; omega
/-- A hold's units are no more than its queue uses. -/
theorem Sums.le (hh : Sums fs us ts qs (n :: hs)) : ∃ (k : Nat) (x : Qa), n.q = (k : Int) ∧ qs[k]? = some x ∧ 0 ≤ (units n.sl).g ∧ (units n.sl).g ≤ x.u.g ∧ 0 ≤ (units n.sl).c ∧ (units n.sl).c ≤ x.u.c := by
  have h := hh.has n (by simp)
  unfold hasQ at h
  simp only [Bool.and_eq_true, decide_eq_true_eq] at h
  have hk : n.q.toNat < qs.length := by omega
  have hx := List.getElem?_eq_getElem hk
  have hq : n.q = (n.q.toNat : Int) := by omega
  have hp := hh.pos
  have p1 := hp n (by simp)
  have hg := hh.g _ _ hx
  have hc := hh.c _ _ hx
  simp only [gsumQ, csumQ, List.map_cons, List.sum_cons] at hg hc
  rw [if_pos hq] at hg hc
  have r1 := sumQ_pos (f := fun h => if h.q = ((n.q.toNat : Nat) : Int) then (units h.sl).g else 0) (hs := hs) fun y hy => by
    have := hp y (by simp [hy]); split <;> omega
  have r2 := sumQ_pos (f := fun h => if h.q = ((n.q.toNat : Nat) : Int) then (units h.sl).c else 0) (hs := hs) fun y hy => by
    have := hp y (by simp [hy]); split <;> omega
  exact ⟨n.q.toNat, _, hq, hx, p1.1, by omega, p1.2, by omega⟩
theorem Sums.give (hh : Sums fs us ts qs (n :: hs)) (dr : List Bool) : (PM.whole fs dr true n.sl ts).1 = 0 ∧ (qSub qs n.q (units n.sl)).1 = 0 ∧ Sums fs us (PM.whole fs dr true n.sl ts).2 (qSub qs n.q (units n.sl)).2 hs := by
  obtain ⟨ts', e, h3⟩ := PM.Sum.gives dr (l := n.sl) (L := slots hs) (by have := hh.taken; simpa [slots] using this)
  obtain ⟨k, x, hq, hx, u1, u2, u3, u4⟩ := hh.le
  have ok := hh.ok x (List.mem_of_getElem? hx)
  have hlt := (List.getElem?_eq_some_iff.1 hx).1
  obtain ⟨m1, m2, m3, m4⟩ := mayU_iff.1 ok.m
  obtain ⟨g1, g2⟩ := ok.g
  obtain ⟨c1, c2⟩ := ok.c
  have eS : qSub qs n.q (units n.sl) = (0, qs.set k ⟨x.m, subU x.u (units n.sl)⟩) := by
    unfold qSub
    rw [hh.has n (by simp), if_neg (by simp), mayU_iff.2 (by omega), if_neg (by simp), hq]
    simp only [Int.toNat_natCast, hx]
    rw [leU_iff.2 (by omega), if_neg (by simp)]
  rw [PM.whole_of_many e, eS]
  have hn : QaOk ⟨x.m, subU x.u (units n.sl)⟩ := ⟨ok.m, by simp only [subU]; omega, by simp only [subU]; omega⟩
  have hhas : ∀ z : Int, hasQ (qs.set k ⟨x.m, subU x.u (units n.sl)⟩) z = hasQ qs z := fun z => by unfold hasQ; rw [List.length_set]
  refine ⟨rfl, rfl, h3, ?_, fun y hy => ?_, fun y hy => ?_, fun i y hy => ?_, fun i y hy => ?_⟩
  · rw [← hh.quota, List.map_set]
    refine List.ext_getElem? fun i => ?_
    by_cases hi : k = i
    · subst hi; rw [List.getElem?_set_self (by simpa using hlt), List.getElem?_map, hx]; rfl
    · rw [List.getElem?_set_ne hi]
  · rcases List.mem_or_eq_of_mem_set hy with hy | rfl
    · exact hh.ok y hy
    · exact hn
  · rw [hhas]; exact hh.has y (by simp [hy])
  · by_cases hi : k = i
    · subst hi
      rw [List.getElem?_set_self hlt] at hy
      cases hy
      have := hh.g k x hx
      simp only [gsumQ, List.map_cons, List.sum_cons, hq] at this ⊢
      simp only [subU, if_true] at this ⊢
      omega
    · rw [List.getElem?_set_ne hi] at hy
      have := hh.g i y hy
      simp only [gsumQ, List.map_cons, List.sum_cons, hq] at this ⊢
      rw [if_neg (by omega)] at this
      omega
  · by_cases hi : k = i
    · subst hi
      rw [List.getElem?_set_self hlt] at hy
      cases hy
      have := hh.c k x hx
      simp only [csumQ, List.map_cons, List.sum_cons, hq] at this ⊢
      simp only [subU, if_true] at this ⊢
      omega
    · rw [List.getElem?_set_ne hi] at hy
      have := hh.c i y hy
      simp only [csumQ, List.map_cons, List.sum_cons, hq] at this ⊢
      rw [if_neg (by omega)] at this
      omega
/-! ### Holds in another order -/
theorem perm_ins : ∀ {hs : List Hd}, (ins h hs).Perm (h :: hs)
  | [] => .refl _
  | g :: l => by
    unfold ins
    split
    · exact ((perm_ins (hs := l)).cons g).trans (.swap _ _ _)
    · exact .refl _
theorem del_none {x : Int} (hn : ∀ g ∈ hs, g.id ≠ x) : del x hs = hs := by
  unfold del
  rw [List.filter_eq_self]
  intro g hg
  simpa using hn g hg
theorem perm_del {x : Int} : ∀ {hs : List Hd}, Asc hs → find x hs = some h → hs.Perm (h :: del x hs)
  | [], _, hf => by cases hf
  | g :: l, ha, hf => by
    obtain ⟨h1, h2⟩ := List.pairwise_cons.1 ha
    obtain ⟨hm, hx⟩ := find_some hf
    unfold find at hf
    rw [List.find?_cons] at hf
    by_cases e : g.id = x
    · have e1 : (g.id == x) = true := by simpa using e
      rw [e1] at hf
      injection hf with hf
      subst hf
      have e2 : del x (g :: l) = del x l := by unfold del; rw [List.filter_cons]; simp [e]
      rw [e2, del_none fun b hb => by have := h1 b hb; omega]
    · have e1 : (g.id == x) = false := by simpa using e
      rw [e1] at hf
      have e2 : del x (g :: l) = g :: del x l := by unfold del; rw [List.filter_cons]; simp [e]
      rw [e2]
      exact ((perm_del h2 hf).cons g).trans (.swap _ _ _)
theorem perm_upd {x : Int} {f : Hd → Hd} (ha : Asc hs) (hf : find x hs = some h) : (upd x f hs).Perm (f h :: del x hs) := by
  obtain ⟨hm, hx⟩ := find_some hf
  have p := (perm_del ha hf).map (fun h => if h.id = x then f h else h)
  rw [List.map_cons, if_pos hx] at p
  have e : (del x hs).map (fun h => if h.id = x then f h else h) = del x hs := by
    conv => rhs; rw [← List.map_id (del x hs)]
    exact List.map_congr_left fun g hg => by rw [if_neg (mem_del.1 hg).2]; rfl
  rw [e] at p
  exact p
/-! ### Each call -/
def SumsS (fs : List Fr) (us : List Un) (st : LS) : Prop := Sums fs us st.ts st.qs st.hs
theorem take_cases {st : LS} {q : Int} {sl : List PM.Sl} (e : (take fs st q sl).1 = 0) : (PM.whole fs st.dr false sl st.ts).1 = 0 ∧ (qAdd st.qs q (units sl)).1 = 0 ∧ (take fs st q sl).2 = { st with ts := (PM.whole fs st.dr false sl st.ts).2, qs := (qAdd st.qs q (units sl)).2 } := by
  unfold take at e ⊢
  by_cases h1 : (PM.whole fs st.dr false sl st.ts).1 ≠ 0
  · rw [if_pos h1] at e; exact absurd e h1
  rw [if_neg h1] at e ⊢
  by_cases h2 : (qAdd st.qs q (units sl)).1 ≠ 0
  · rw [if_pos h2] at e; exact absurd e h2
  rw [if_neg h2]
  exact ⟨Classical.not_not.1 h1, Classical.not_not.1 h2, rfl⟩
theorem reserve_sums {st : LS} (hh : SumsS fs us st) (id q un ver : Int) (sl : List PM.Sl) : SumsS fs us (reserve fs st id q un ver sl).2 := by
  unfold reserve
  repeat' split
  all_goals first
    | exact hh
    | (rename_i h5
       obtain ⟨e1, e2, e3⟩ := take_cases (Classical.not_not.1 h5)
       unfold SumsS
       simp only [up, e3]
       exact (Sums.take hh ⟨id, q, un, false, sl⟩ e1 e2).perm perm_ins.symm)
theorem commit_sums {st : LS} (hh : SumsS fs us st) (id now un : Int) : SumsS fs us (commit st id now un).2 := by
  unfold commit
  repeat' split
  all_goals first
    | exact hh
    | exact Sums.alike hh _ (fun x => by dsimp only; split <;> rfl) (fun x => by dsimp only; split <;> rfl)
theorem grow_sums {st : LS} (hh : SumsS fs us st) (ha : Asc st.hs) (id : Int) (s : PM.Sl) : SumsS fs us (grow fs st id s).2 := by
  unfold grow
  repeat' split
  all_goals first
    | exact hh
    | (rename_i g hf _ _ h5
       obtain ⟨e1, e2, e3⟩ := take_cases (Classical.not_not.1 h5)
       unfold SumsS
       simp only [up, e3]
       have h1 := Sums.take hh ⟨g.id, g.q, g.un, g.run, [s]⟩ e1 e2
       have h2 := h1.perm ((perm_del ha hf).cons _)
       exact (h2.join { g with sl := g.sl ++ [s] } rfl rfl rfl).perm (perm_upd (f := fun h => { h with sl := h.sl ++ [s] }) ha hf).symm)
theorem shrink_sums {st : LS} (hh : SumsS fs us st) (ha : Asc st.hs) (id : Int) : SumsS fs us (shrink fs st id).2 := by
  unfold shrink
  repeat' split
  all_goals first
    | exact hh
    | (rename_i g hf _ _ s hl _
       have hsl : g.sl = g.sl.dropLast ++ [s] := by
         obtain ⟨ys, e⟩ := List.getLast?_eq_some_iff.1 hl
         rw [e]; simp
       unfold SumsS
       simp only [up, give]
       have h1 := Sums.perm hh (perm_del ha hf)
       have h2 := h1.part ⟨g.id, g.q, g.un, g.run, [s]⟩ { g with sl := g.sl.dropLast } rfl rfl hsl
       have h3 := (h2.give st.dr).2.2
       exact h3.perm (perm_upd (f := fun h => { h with sl := h.sl.dropLast }) ha hf).symm)
theorem letGo_sums {st : LS} {rest : List Hd} (hh : Sums fs us st.ts st.qs (h :: rest)) : Sums fs us (letGo fs st h).ts (letGo fs st h).qs rest := (hh.give st.dr).2.2
theorem release_sums {st : LS} (hh : SumsS fs us st) (ha : Asc st.hs) (id : Int) : SumsS fs us (release fs st id).2 := by
  unfold release
  split
  · exact hh
  · rename_i g hf
    have e := (find_some hf).2
    unfold SumsS
    simp only [up]
    subst e
    exact letGo_sums (Sums.perm hh (perm_del ha hf))
theorem foldl_sums : ∀ {l : List Hd} {st : LS} {rest : List Hd}, Sums fs us st.ts st.qs (l ++ rest) → Sums fs us (l.foldl (letGo fs) st).ts (l.foldl (letGo fs) st).qs rest
  | [], _, _, h => h
  | x :: l, st, rest, h => foldl_sums (l := l) (st := letGo fs st x) (letGo_sums h)
theorem foldl_hs : ∀ (l : List Hd) (st : LS), (l.foldl (letGo fs) st).hs = st.hs.filter (fun g => l.all fun x => g.id != x.id)
  | [], st => by simp only [List.foldl_nil, List.all_nil]; exact (List.filter_eq_self.2 fun _ _ => rfl).symm
  | x :: l, st => by
    rw [List.foldl_cons, foldl_hs l]
    show (del x.id st.hs).filter _ = _
    unfold del
    rw [List.filter_filter]
    refine List.filter_congr fun g _ => ?_
    rw [List.all_cons, Bool.and_comm]
theorem allGo_hs {st : LS} {p : Hd → Bool} (ha : Asc st.hs) : (allGo fs st p).hs = st.hs.filter fun g => !p g := by
  unfold allGo
  rw [foldl_hs]
  refine List.filter_congr fun g hg => ?_
  cases hp : p g
  · simp only [Bool.not_false, List.all_eq_true, bne_iff_ne]
    intro x hx e
    rw [List.mem_filter] at hx
    have := asc_inj ha hg hx.1 e
    rw [this, hx.2] at hp; cases hp
  · simp only [Bool.not_true]
    rw [← Bool.not_eq_true, List.all_eq_true]
    intro h
    have := h g (List.mem_filter.2 ⟨hg, hp⟩)
    simp at this
theorem allGo_sums {st : LS} (hh : SumsS fs us st) (ha : Asc st.hs) (p : Hd → Bool) : SumsS fs us (allGo fs st p) := by
  unfold SumsS
  rw [allGo_hs ha]
  exact foldl_sums (Sums.perm hh (List.filter_append_perm p st.hs).symm)
theorem expire_sums {st : LS} (hh : SumsS fs us st) (ha : Asc st.hs) (now : Int) : SumsS fs us (expire fs st now).2 := by
  unfold expire
  dsimp only
  split
  · exact hh
  · exact allGo_sums hh ha _
theorem drain_sums {st : LS} (hh : SumsS fs us st) (ha : Asc st.hs) (x : Int) : SumsS fs us (drain fs st x).2 := by
  unfold drain
  split
  · exact hh
  · exact allGo_sums (st := up { st with dr := (turn st.dr x true).2 }) hh ha _
theorem undrain_sums {st : LS} (hh : SumsS fs us st) (x : Int) : SumsS fs us (undrain st x).2 := by
  unfold undrain
  split <;> exact hh
end
end LM
end Go.Proofs.YtfbecfikeiecmaaGreat
