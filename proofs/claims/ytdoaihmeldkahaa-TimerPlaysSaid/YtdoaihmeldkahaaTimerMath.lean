/- What a timer is, as a list of entries that rises; a heap of entries, as a list. No program is spoken of. -/
import Derived.Test.YtdoaihmeldkahaaLies
namespace Go.Proofs.Ytdoaihmeldkahaa

/-- An entry: its tick, its id. -/
structure En where
  k : Int
  i : Int
  deriving DecidableEq
namespace TM
def d0 : En := ⟨0, 0⟩
/-- One comes ahead of another one: by ticks, then by ids. -/
def ltB (a b : En) : Bool := decide (a.k < b.k) || (decide (a.k = b.k) && decide (a.i < b.i))
theorem ltB_iff {a b : En} : ltB a b = true ↔ a.k < b.k ∨ (a.k = b.k ∧ a.i < b.i) := by
  unfold ltB; simp [Bool.or_eq_true, Bool.and_eq_true]
theorem ltB_not {a b : En} : ltB a b = false ↔ ¬ (a.k < b.k ∨ (a.k = b.k ∧ a.i < b.i)) := by
  rw [← ltB_iff]; simp
def le (a b : En) : Prop := ltB b a = false
theorem le_iff {a b : En} : le a b ↔ a.k < b.k ∨ (a.k = b.k ∧ a.i ≤ b.i) := by
  unfold le; rw [ltB_not]; omega
theorem le_refl (a : En) : le a a := le_iff.2 (by omega)
theorem le_trans {a b c : En} (h : le a b) (k : le b c) : le a c := by
  rw [le_iff] at *; omega
theorem le_of_lt {a b : En} (h : ltB a b = true) : le a b := by
  rw [le_iff]; rw [ltB_iff] at h; omega
theorem le_anti {a b : En} (h : le a b) (k : le b a) : a = b := by
  rw [le_iff] at *
  obtain ⟨a1, a2⟩ := a
  obtain ⟨b1, b2⟩ := b
  simp only at *
  rw [En.mk.injEq]; omega
theorem eq_iff {a b : En} : (!ltB a b && !ltB b a) = decide (a = b) := by
  by_cases e : a = b
  · subst e
    have : ltB a a = false := le_refl a
    simp [this]
  · rw [decide_eq_false e]
    cases h1 : ltB a b <;> cases h2 : ltB b a <;> simp
    exact e (le_anti h2 h1)

/-! ### A heap -/
def HeapX (e : Nat → En) (n s : Nat) : Prop :=
  (∀ j, 1 ≤ j → j < n → j ≠ s → (j - 1) / 2 ≠ s → le (e ((j - 1) / 2)) (e j)) ∧ (∀ j, 1 ≤ s → j < n → 1 ≤ j → (j - 1) / 2 = s → le (e ((s - 1) / 2)) (e j))
def UpX (e : Nat → En) (n s : Nat) : Prop :=
  (∀ j, 1 ≤ j → j < n → j ≠ s → le (e ((j - 1) / 2)) (e j)) ∧ (∀ j, 1 ≤ s → j < n → 1 ≤ j → (j - 1) / 2 = s → le (e ((s - 1) / 2)) (e j))
def DownX (e : Nat → En) (n s : Nat) : Prop :=
  (∀ j, 1 ≤ j → j < n → (j - 1) / 2 ≠ s → le (e ((j - 1) / 2)) (e j)) ∧ (∀ j, 1 ≤ s → j < n → 1 ≤ j → (j - 1) / 2 = s → le (e ((s - 1) / 2)) (e j))
def Heap (e : Nat → En) (n : Nat) : Prop := ∀ j, 1 ≤ j → j < n → le (e ((j - 1) / 2)) (e j)
def sw (e : Nat → En) (a b : Nat) : Nat → En := fun j => if j = b then e a else if j = a then e b else e j
section
variable {e : Nat → En} {n s i c : Nat}
theorem UpX.toX (h : UpX e n i) : HeapX e n i := ⟨fun j h1 h2 h3 _ => h.1 j h1 h2 h3, h.2⟩
theorem Heap.up (h : Heap e n) (s : Nat) : UpX e n s := ⟨fun j h1 h2 _ => h j h1 h2, fun j h1 h2 h3 h4 => le_trans (h s h1 (by omega)) (h4 ▸ h j h3 h2)⟩
theorem Heap.down (h : Heap e n) (s : Nat) : DownX e n s := ⟨fun j h1 h2 _ => h j h1 h2, (h.up s).2⟩
theorem sw_l (e : Nat → En) (a b : Nat) : sw e a b b = e a := by simp [sw]
theorem sw_r (e : Nat → En) (a b : Nat) : sw e a b a = e b := by
  unfold sw; split
  · rename_i h; rw [h]
  · simp
theorem sw_o (e : Nat → En) {a b j : Nat} (h1 : j ≠ a) (h2 : j ≠ b) : sw e a b j = e j := by simp [sw, h1, h2]
theorem rise_step (h : HeapX e n i) (h1 : 1 ≤ i) (hi : i < n) (hl : ltB (e i) (e ((i - 1) / 2)) = true) : UpX (sw e i ((i - 1) / 2)) n ((i - 1) / 2) := by
  obtain ⟨p, hp⟩ : ∃ p, p = (i - 1) / 2 := ⟨_, rfl⟩
  rw [← hp] at hl ⊢
  have hpi : p < i := by omega
  refine ⟨fun j h2 h3 h4 => ?_, fun j h2 h3 h4 h5 => ?_⟩
  · by_cases e1 : j = i
    · subst e1
      rw [← hp, sw_l, sw_r]
      exact le_of_lt hl
    · rw [sw_o e e1 h4]
      by_cases e2 : (j - 1) / 2 = p
      · rw [e2, sw_l]
        exact le_trans (le_of_lt hl) (by have := h.1 j h2 h3 e1 (by omega); rwa [e2] at this)
      · by_cases e3 : (j - 1) / 2 = i
        · rw [e3, sw_r]
          have := h.2 j h1 h3 h2 e3
          rwa [← hp] at this
        · rw [sw_o e e3 e2]
          exact h.1 j h2 h3 e1 e3
  · rw [sw_o e (show (p - 1) / 2 ≠ i by omega) (show (p - 1) / 2 ≠ p by omega)]
    have hq := h.1 p h2 (by omega) (by omega) (by omega)
    by_cases e1 : j = i
    · subst e1; rw [sw_r]; exact hq
    · rw [sw_o e e1 (by omega)]
      refine le_trans hq ?_
      have := h.1 j h4 h3 e1 (by omega)
      rwa [h5] at this
theorem rise_stop (h : UpX e n i) (hl : i = 0 ∨ le (e ((i - 1) / 2)) (e i)) : Heap e n := fun j h1 h2 => by
  by_cases e1 : j = i
  · subst e1
    rcases hl with h3 | h3
    · omega
    · exact h3
  · exact h.1 j h1 h2 e1
theorem rise_none (h : HeapX e n i) (hl : i = 0 ∨ le (e ((i - 1) / 2)) (e i)) : DownX e n i := ⟨fun j h1 h2 h3 => by
  by_cases e1 : j = i
  · subst e1
    rcases hl with h4 | h4
    · omega
    · exact h4
  · exact h.1 j h1 h2 e1 h3, h.2⟩
theorem sink_stop (h : DownX e n i) (hl : ∀ c, c < n → 1 ≤ c → (c - 1) / 2 = i → le (e i) (e c)) : Heap e n := fun j h1 h2 => by
  by_cases e1 : (j - 1) / 2 = i
  · rw [e1]; exact hl j h2 h1 e1
  · exact h.1 j h1 h2 e1
theorem sink_step (h : DownX e n i) (hc : c < n) (h1 : 1 ≤ c) (hp : (c - 1) / 2 = i) (hl : ltB (e c) (e i) = true) (ho : ∀ d, d < n → 1 ≤ d → (d - 1) / 2 = i → le (e c) (e d)) : DownX (sw e i c) n c := by
  have hic : i < c := by omega
  refine ⟨fun j h2 h3 h4 => ?_, fun j h2 h3 h4 h5 => ?_⟩
  · by_cases e1 : j = c
    · subst e1
      rw [hp, sw_l, sw_r]
      exact le_of_lt hl
    · by_cases e2 : (j - 1) / 2 = i
      · rw [e2, sw_r, sw_o e (by omega) e1]
        exact ho j h3 h2 e2
      · by_cases e3 : j = i
        · subst e3
          rw [sw_r, sw_o e (by omega) (by omega)]
          exact h.2 c (by omega) hc h1 hp
        · rw [sw_o e e3 e1, sw_o e e2 h4]
          exact h.1 j h2 h3 e2
  · rw [hp, sw_r, sw_o e (by omega) (by omega)]
    have := h.1 j h4 h3 (by omega)
    rwa [h5] at this
theorem heap_min (h : Heap e n) : ∀ j, j < n → le (e 0) (e j) := by
  intro j
  induction j using Nat.strongRecOn with
  | _ j ih =>
    intro hj
    by_cases e0 : j = 0
    · subst e0; exact le_refl _
    · exact le_trans (ih ((j - 1) / 2) (by omega) (by omega)) (h j (by omega) hj)
theorem heap_less {m : Nat} (h : Heap e n) (hm : m ≤ n) : Heap e m := fun j h1 h2 => h j h1 (by omega)
theorem heap_ext {e' : Nat → En} (h : Heap e n) (he : ∀ j, j < n → e' j = e j) : Heap e' n := fun j h1 h2 => by
  rw [he j h2, he _ (by omega)]; exact h j h1 h2
theorem heapX_of {e' : Nat → En} (h : Heap e n) (he : ∀ j, j < n → j ≠ s → e' j = e j) : HeapX e' n s := ⟨fun j h1 h2 h3 h4 => by
  rw [he j h2 h3, he _ (by omega) h4]; exact h j h1 h2, fun j h1 h2 h3 h4 => by
  rw [he j h2 (by omega), he _ (by omega) (by omega)]
  have h5 := h s h1 (by omega)
  have h6 := h j h3 h2
  rw [h4] at h6
  exact le_trans h5 h6⟩
end

/-! ### Lists -/
def at_ (H : List En) : Nat → En := fun j => H.getD j d0
theorem at_get {H : List En} {j : Nat} {x : En} (h : H[j]? = some x) : at_ H j = x := by simp [at_, List.getD_eq_getElem?_getD, h]
theorem get_at {H : List En} {j : Nat} (h : j < H.length) : H[j]? = some (at_ H j) := by
  obtain ⟨x, hx⟩ := get_lt h
  rw [at_get hx, hx]
def swapL (H : List En) (a b : Nat) : List En := (H.set a (at_ H b)).set b (at_ H a)
theorem swapL_len (H : List En) (a b : Nat) : (swapL H a b).length = H.length := by simp [swapL]
theorem swapL_at {H : List En} {a b : Nat} (ha : a < H.length) (hb : b < H.length) : at_ (swapL H a b) = sw (at_ H) a b := by
  funext j
  unfold swapL sw
  by_cases e1 : j = b
  · subst e1
    rw [if_pos rfl]
    exact at_get (List.getElem?_set_self (by simpa using hb))
  · rw [if_neg e1]
    by_cases e2 : j = a
    · subst e2
      rw [if_pos rfl]
      refine at_get ?_
      rw [List.getElem?_set_ne (Ne.symm e1), List.getElem?_set_self ha]
    · rw [if_neg e2]
      simp only [at_, List.getD_eq_getElem?_getD]
      rw [List.getElem?_set_ne (Ne.symm e1), List.getElem?_set_ne (Ne.symm e2)]
theorem set_perm : ∀ {l : List En} {i : Nat} {x : En} (y : En), l[i]? = some x → (x :: l.set i y).Perm (y :: l)
  | [], _, _, _, h => by simp at h
  | a :: l, 0, x, y, h => by simp at h; subst h; exact List.Perm.swap _ _ _
  | a :: l, i + 1, x, y, h => by
    have ih := set_perm (l := l) (i := i) (x := x) y (by simpa using h)
    rw [List.set_cons_succ]
    exact (List.Perm.swap a x _).trans ((ih.cons a).trans (List.Perm.swap y a _))
theorem swapL_perm {H : List En} {a b : Nat} (ha : a < H.length) (hb : b < H.length) : (swapL H a b).Perm H := by
  have h1 := set_perm (at_ H b) (get_at ha)
  have h2 : (H.set a (at_ H b))[b]? = some (at_ H b) := by
    by_cases e : a = b
    · subst e; exact List.getElem?_set_self ha
    · rw [List.getElem?_set_ne e]; exact get_at hb
  have h3 := set_perm (at_ H a) h2
  exact (List.perm_cons _).1 (h3.trans h1)

/-- Into a list that rises. -/
def insL (x : En) : List En → List En
  | [] => [x]
  | y :: l => if ltB y x then y :: insL x l else x :: y :: l
def findL (i : Int) (l : List En) : Option En := l.find? fun x => x.i == i
def remL (i : Int) (l : List En) : List En := l.eraseP fun x => x.i == i
def lookL (l : List En) (i : Int) : Option Int := (findL i l).map (·.k)
structure TS (l : List En) : Prop where
  asc : l.Pairwise fun a b => ltB a b = true
  ids : l.Pairwise fun a b => a.i ≠ b.i
  len : l.length ≤ 4096
  ok : ∀ x ∈ l, 0 ≤ x.k ∧ x.k ≤ 1073741824 ∧ (Lit.int .i64 x.i).wf = true
theorem insL_perm (x : En) : ∀ l, (insL x l).Perm (x :: l)
  | [] => List.Perm.refl _
  | y :: l => by
    unfold insL
    split
    · exact ((insL_perm x l).cons y).trans (List.Perm.swap _ _ _)
    · exact List.Perm.refl _
theorem mem_insL {x y : En} {l : List En} : y ∈ insL x l ↔ y = x ∨ y ∈ l := by rw [(insL_perm x l).mem_iff, List.mem_cons]
theorem insL_len (x : En) (l : List En) : (insL x l).length = l.length + 1 := by rw [(insL_perm x l).length_eq, List.length_cons]
theorem insL_asc {x : En} : ∀ {l : List En}, (l.Pairwise fun a b => ltB a b = true) → (∀ y ∈ l, y.i ≠ x.i) → (insL x l).Pairwise fun a b => ltB a b = true
  | [], _, _ => by simp [insL]
  | y :: l, h, hn => by
    have h' := List.pairwise_cons.1 h
    unfold insL
    split
    · rename_i hy
      refine List.pairwise_cons.2 ⟨fun z hz => ?_, insL_asc h'.2 fun z hz => hn z (List.mem_cons_of_mem _ hz)⟩
      rcases mem_insL.1 hz with rfl | hz
      · exact hy
      · exact h'.1 z hz
    · rename_i hy
      have hxy : ltB x y = true := by
        have h1 : le x y := by unfold le; simpa using hy
        have h2 := hn y (List.mem_cons_self ..)
        rw [le_iff] at h1; rw [ltB_iff]; omega
      refine List.pairwise_cons.2 ⟨fun z hz => ?_, h⟩
      rcases List.mem_cons.1 hz with rfl | hz
      · exact hxy
      · have h3 := h'.1 z hz
        rw [ltB_iff] at *; omega
theorem ids_perm {l l' : List En} (h : l.Perm l') (hi : l.Pairwise fun a b => a.i ≠ b.i) : l'.Pairwise fun a b => a.i ≠ b.i :=
  hi.perm h (fun {_ _} h => Ne.symm h)
theorem findL_none {i : Int} {l : List En} : findL i l = none ↔ ∀ x ∈ l, x.i ≠ i := by
  unfold findL; simp [List.find?_eq_none]
theorem findL_some {i : Int} {l : List En} {x : En} (h : findL i l = some x) : x ∈ l ∧ x.i = i := by
  unfold findL at h
  exact ⟨List.mem_of_find?_eq_some h, by simpa using List.find?_some h⟩
theorem findL_mem : ∀ {l : List En} {x : En}, (l.Pairwise fun a b => a.i ≠ b.i) → x ∈ l → findL x.i l = some x
  | [], x, _, hx => by cases hx
  | y :: l, x, h, hx => by
    have h' := List.pairwise_cons.1 h
    unfold findL
    rcases List.mem_cons.1 hx with e | hx
    · subst e; simp
    · have hne := h'.1 x hx
      rw [List.find?_cons_of_neg (by simpa using hne)]
      exact findL_mem h'.2 hx
theorem findL_iff {l : List En} {x : En} {i : Int} (h : l.Pairwise fun a b => a.i ≠ b.i) : findL i l = some x ↔ x ∈ l ∧ x.i = i :=
  ⟨findL_some, fun ⟨h1, h2⟩ => by subst h2; exact findL_mem h h1⟩
theorem findL_perm {l l' : List En} (h : l.Perm l') (hi : l.Pairwise fun a b => a.i ≠ b.i) (i : Int) : findL i l = findL i l' := by
  refine Option.ext fun x => ?_
  rw [findL_iff hi, findL_iff (ids_perm h hi), h.mem_iff]
theorem remL_perm : ∀ {l : List En} {i : Int} {x : En}, findL i l = some x → (x :: remL i l).Perm l
  | [], _, _, h => by simp [findL] at h
  | y :: l, i, x, h => by
    unfold remL findL at *
    by_cases e : y.i = i
    · rw [List.find?_cons_of_pos (by simpa using e)] at h
      injection h with h
      subst h
      rw [List.eraseP_cons_of_pos (by simpa using e)]
    · rw [List.find?_cons_of_neg (by simpa using e)] at h
      rw [List.eraseP_cons_of_neg (by simpa using e)]
      exact (List.Perm.swap y x _).trans ((remL_perm h).cons y)
theorem remL_none {l : List En} {i : Int} (h : findL i l = none) : remL i l = l := by
  unfold remL
  exact List.eraseP_of_forall_not fun x hx => by simpa using findL_none.1 h x hx
theorem remL_sub (i : Int) (l : List En) : (remL i l).Sublist l := List.eraseP_sublist
theorem TS.nil : TS [] := ⟨List.Pairwise.nil, List.Pairwise.nil, by simp, by simp⟩
theorem TS.sub {l l' : List En} (h : TS l) (hs : l'.Sublist l) : TS l' := ⟨h.asc.sublist hs, h.ids.sublist hs, Nat.le_trans hs.length_le h.len, fun x hx => h.ok x (hs.subset hx)⟩
theorem TS.rem {l : List En} (h : TS l) (i : Int) : TS (remL i l) := h.sub (remL_sub i l)
theorem TS.ins {l : List En} {x : En} (h : TS l) (hf : findL x.i l = none) (hl : l.length < 4096) (hx : 0 ≤ x.k ∧ x.k ≤ 1073741824 ∧ (Lit.int .i64 x.i).wf = true) : TS (insL x l) := by
  have hn := findL_none.1 hf
  refine ⟨insL_asc h.asc hn, ids_perm (insL_perm x l).symm (List.pairwise_cons.2 ⟨fun y hy => Ne.symm (hn y hy), h.ids⟩), by rw [insL_len]; omega, fun y hy => ?_⟩
  rcases mem_insL.1 hy with rfl | hy
  · exact hx
  · exact h.ok y hy
theorem find_rem {l : List En} (h : l.Pairwise fun a b => a.i ≠ b.i) (i j : Int) : findL j (remL i l) = if j = i then none else findL j l := by
  cases hf : findL i l with
  | none =>
    rw [remL_none hf]
    split
    · rename_i e; rw [e, hf]
    · rfl
  | some x =>
    have hp := remL_perm hf
    have hi2 := ids_perm hp.symm h
    have hx := findL_some hf
    split
    · rename_i e
      subst e
      refine findL_none.2 fun y hy => ?_
      have := (List.pairwise_cons.1 hi2).1 y hy
      rw [hx.2] at this
      exact Ne.symm this
    · rename_i e
      rw [← findL_perm hp hi2]
      unfold findL
      rw [List.find?_cons_of_neg (by rw [hx.2]; simpa using Ne.symm e)]
theorem find_ins {l : List En} {x : En} (h : l.Pairwise fun a b => a.i ≠ b.i) (hf : findL x.i l = none) (j : Int) : findL j (insL x l) = if j = x.i then some x else findL j l := by
  have hn := findL_none.1 hf
  have hi2 : (x :: l).Pairwise fun a b => a.i ≠ b.i := List.pairwise_cons.2 ⟨fun y hy => Ne.symm (hn y hy), h⟩
  rw [findL_perm (insL_perm x l) (ids_perm (insL_perm x l).symm hi2)]
  unfold findL
  split
  · rename_i e; rw [List.find?_cons_of_pos (by simpa using e.symm)]
  · rename_i e; rw [List.find?_cons_of_neg (by simpa using Ne.symm e)]
theorem rem_head {x : En} {l : List En} : remL x.i (x :: l) = l := by unfold remL; rw [List.eraseP_cons_of_pos (by simp)]
theorem find_head {x : En} {l : List En} : findL x.i (x :: l) = some x := by unfold findL; rw [List.find?_cons_of_pos (by simp)]
/-- The first of a heap is the first of the list that rises. -/
theorem heap_first {H l : List En} {x : En} (hh : Heap (at_ H) H.length) (hp : H.Perm (x :: l)) (ha : (x :: l).Pairwise fun a b => ltB a b = true) : H[0]? = some x := by
  have hlen : H.length = l.length + 1 := by rw [hp.length_eq, List.length_cons]
  have h0 : H[0]? = some (at_ H 0) := get_at (by omega)
  rw [h0]
  refine congrArg some (le_anti ?_ ?_)
  · obtain ⟨j, hj⟩ := List.mem_iff_getElem?.1 (hp.mem_iff.2 (List.mem_cons_self ..))
    have := heap_min hh j (List.getElem?_eq_some_iff.1 hj).1
    rwa [at_get hj] at this
  · have := hp.mem_iff.1 (List.mem_of_getElem? h0)
    rcases List.mem_cons.1 this with e | e
    · rw [e]; exact le_refl _
    · exact le_of_lt ((List.pairwise_cons.1 ha).1 _ e)
/-- What Set answers, and leaves. -/
def tSet (l : List En) (i k : Int) : Int × List En :=
  if k < 0 ∨ 1073741824 < k then (1, l) else if findL i l = none ∧ 4096 ≤ l.length then (2, l) else (0, insL ⟨k, i⟩ (remL i l))
def tDrop (l : List En) (i : Int) : Int × List En := if findL i l = none then (3, l) else (0, remL i l)
def dueL (now : Int) (l : List En) : List Int := (l.takeWhile fun x => decide (x.k ≤ now)).map (·.i)
def restL (now : Int) (l : List En) : List En := l.dropWhile fun x => decide (x.k ≤ now)
def nextL (l : List En) : Int × Bool := match l with | [] => (0, false) | x :: _ => (x.k, true)
def atL (l : List En) (i : Int) : Int × Int := match findL i l with | none => (0, 3) | some x => (x.k, 0)
theorem tDrop_ok {l : List En} (h : TS l) (i : Int) : TS (tDrop l i).2 := by
  unfold tDrop; split
  · exact h
  · exact h.rem i
theorem rem_len {l : List En} {i : Int} {x : En} (h : findL i l = some x) : (remL i l).length + 1 = l.length := by
  have := (remL_perm h).length_eq
  simpa using this
theorem tSet_ok {l : List En} (h : TS l) (i k : Int) (hi : (Lit.int .i64 i).wf = true) : TS (tSet l i k).2 := by
  unfold tSet; split
  · exact h
  · split
    · exact h
    · rename_i h1 h2
      refine (h.rem i).ins (by rw [find_rem h.ids]; simp) ?_ ⟨(by show 0 ≤ k; omega), (by show k ≤ 1073741824; omega), hi⟩
      cases hf : findL i l with
      | none => rw [remL_none hf]; have := h.len; simp only [hf, true_and] at h2; omega
      | some x => have := rem_len hf; have := h.len; omega
theorem rest_ok {l : List En} (h : TS l) (now : Int) : TS (restL now l) := h.sub (List.dropWhile_sublist _)
theorem due_two {l : List En} {a b : Int} (hab : a ≤ b) : dueL a l ++ dueL b (restL a l) = dueL b l ∧ restL b (restL a l) = restL b l := by
  induction l with
  | nil => exact ⟨rfl, rfl⟩
  | cons x l ih =>
    by_cases h1 : x.k ≤ a
    · have e1 : decide (x.k ≤ a) = true := decide_eq_true h1
      have e2 : decide (x.k ≤ b) = true := decide_eq_true (by omega)
      unfold dueL restL at *
      simp only [List.takeWhile_cons, List.dropWhile_cons, e1, e2, if_true, List.map_cons, List.cons_append]
      exact ⟨by rw [ih.1], ih.2⟩
    · have e1 : decide (x.k ≤ a) = false := decide_eq_false h1
      unfold dueL restL
      simp only [List.takeWhile_cons, List.dropWhile_cons, e1, Bool.false_eq_true, if_false, List.map_nil, List.nil_append]
      exact ⟨trivial, trivial⟩
end TM
end Go.Proofs.Ytdoaihmeldkahaa
