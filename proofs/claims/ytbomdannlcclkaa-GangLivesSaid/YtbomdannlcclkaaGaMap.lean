/- A map whose keys are pairs of numbers, put down entry by entry, in whatever order. -/
import Derived.DeepKeys5
import Derived.Maps.Keyed
import Derived.WalkArith
import Derived.Test.YtbomdannlcclkaaHeldOn
import Derived.Test.YtbomdannlcclkaaFrame
import Derived.StillTail
import Derived.Maps.AppendAt
import Derived.Laws.OwnMore
import Derived.Test.YtbomdannlcclkaaGaMath
import Derived.Test.YtbomdannlcclkaaProg
namespace Go.Proofs.Ytbomdannlcclkaa
open Go.RowKit
open Go.ChangeMaps (setBlock heap_setBlock_same heap_setBlock_other)

def pairA (a b : Int) : Value := .agg #[.int .i64 a, .int .i64 b]
theorem pairLaw : Maps.Keyed Try.prog 66 :=
  Maps.Keyed.of_law (deep_law_gate laidOut (of_decide_eq_true (by kernel_rfl)) (of_decide_eq_true (by kernel_rfl)) (by kernel_rfl) (by kernel_rfl))
/-- A key that is an array of two integers reads as a key. -/
theorem key_pair {P : Program} {k e : TypeId} {m : Nat} (hk : P.underlying k = some (.array 2 e)) (he : P.underlying e = some (.int .i64)) (hkt : P.keyType k = true) (hs : P.types.size = m + 1) (c1 : P.cellsOf k = 2) (c2 : P.cellsOf e = 1)
    {a b : Int} (ha : (Lit.int .i64 a).wf = true) (hb : (Lit.int .i64 b).wf = true) : ∃ l, keyOf P k (.agg #[.int .i64 a, .int .i64 b]) = some l := by
  unfold keyOf
  simp only [hk]
  rw [hs]
  simp [hkt, Value.formed, hk, Program.keyLits, c1, c2, Value.cells, ha, hb, he, List.range, List.range.loop]
theorem pairKey {a b : Int} (ha : (Lit.int .i64 a).wf = true) (hb : (Lit.int .i64 b).wf = true) : ∃ l, keyOf Try.prog 66 (pairA a b) = some l :=
  key_pair (e := 3) (m := Try.prog.types.size - 1) Try.underlying66 Try.underlying3 (by kernel_rfl) (by kernel_rfl) (by kernel_rfl) (by kernel_rfl) ha hb
theorem pairA_inj {a b c d : Int} (h : pairA a b = pairA c d) : a = c ∧ b = d := by
  unfold pairA at h
  simp at h
  exact h
/-- Entries of a map from spots to numbers. -/
abbrev Prs := List ((Int × Int) × Int)
/-- Block m is a map that holds these, in the order in which they came. -/
def PairAt (w : World) (m : Nat) (en : Prs) : Prop :=
  ∃ es clock, w.heap[m]? = some (.map es clock) ∧ es.toList.map (fun e => (e.key, e.val)) = en.map (fun p => (pairA p.1.1 p.1.2, Value.int .i64 p.2)) ∧ ∀ s ∈ en, (Lit.int .i64 s.1.1).wf = true ∧ (Lit.int .i64 s.1.2).wf = true
theorem PairAt.lt {w : World} {m : Nat} {en : Prs} (h : PairAt w m en) : m < w.heap.size := by
  obtain ⟨es, clock, hb, _⟩ := h
  exact (Array.getElem?_eq_some_iff.1 hb).1
theorem PairAt.of_block {w w' : World} {m : Nat} {en : Prs} (h : PairAt w m en) (e : w'.heap[m]? = w.heap[m]?) : PairAt w' m en := by
  obtain ⟨es, clock, hb, h2⟩ := h
  exact ⟨es, clock, e.trans hb, h2⟩
theorem PairAt.keys {en : Prs} {es : Array MapEntry} (h : es.toList.map (fun e => (e.key, e.val)) = en.map (fun p => (pairA p.1.1 p.1.2, Value.int .i64 p.2))) (hs : ∀ s ∈ en, (Lit.int .i64 s.1.1).wf = true ∧ (Lit.int .i64 s.1.2).wf = true) : ∀ e ∈ es.toList, ∃ l, keyOf Try.prog 66 e.key = some l := by
  intro e he
  have hm : (e.key, e.val) ∈ es.toList.map (fun e => (e.key, e.val)) := List.mem_map.2 ⟨e, he, rfl⟩
  rw [h] at hm
  obtain ⟨p, hp, e1⟩ := List.mem_map.1 hm
  obtain ⟨b1, b2⟩ := hs _ hp
  rw [show e.key = pairA p.1.1 p.1.2 from (congrArg Prod.fst e1).symm]
  exact pairKey b1 b2
theorem PairAt.new (w : World) : PairAt (w.alloc (.map #[] 0)) w.heap.size [] := ⟨#[], 0, (MapKept.heap_alloc w _).1, rfl, by simp⟩
/-- 'v, ok := m[s]', s among them. -/
theorem PairAt.hit {w : World} {m i : Nat} {en : Prs} {s : Int × Int} {v : Int} (h : PairAt w m en) (hi : en[i]? = some (s, v)) (hn : (en.map (·.1)).Nodup) :
    (Instr.lookup 64 (.map (some m)) (.agg #[.int .i64 s.1, .int .i64 s.2]) true).run Try.prog w = .ok (.tuple #[.int .i64 v, .bool true]) w := by
  obtain ⟨es, clock, hb, hes, hs⟩ := h
  obtain ⟨b1, b2⟩ := hs (s, v) (List.mem_of_getElem? hi)
  obtain ⟨l, hl⟩ := pairKey (a := s.1) (b := s.2) b1 b2
  have hat : es.toList[i]?.map (fun e => (e.key, e.val)) = some (pairA s.1 s.2, Value.int .i64 v) := by
    rw [← List.getElem?_map, hes, List.getElem?_map, hi]; rfl
  rcases pairLaw.find w hl es.toList (PairAt.keys hes hs) with ⟨_, h2⟩ | ⟨j, e0, h1, h2, h3⟩
  · obtain ⟨e, he, hee⟩ := Option.map_eq_some_iff.1 hat
    exact absurd (congrArg Prod.fst hee) (h2 e (List.mem_of_getElem? he))
  · have hj : es.toList[j]?.map (fun e => (e.key, e.val)) = some (pairA s.1 s.2, e0.val) := by rw [h2, ← h3]; rfl
    rw [← List.getElem?_map, hes, List.getElem?_map] at hj
    cases hsj : en[j]? with
    | none => rw [hsj] at hj; simp at hj
    | some s' =>
      rw [hsj] at hj
      simp at hj
      obtain ⟨g1, g2⟩ := hj
      obtain ⟨g3, g4⟩ := pairA_inj g1
      have hij : i = j := by
        have e1 : (en.map (·.1))[i]? = some s := by rw [List.getElem?_map, hi]; rfl
        have e2 : (en.map (·.1))[j]? = some s := by rw [List.getElem?_map, hsj]; cases s; cases s' with | mk a b => cases a; simp at g3 g4; simp [g3, g4]
        obtain ⟨l1, x1⟩ := List.getElem?_eq_some_iff.1 e1
        obtain ⟨l2, x2⟩ := List.getElem?_eq_some_iff.1 e2
        have hp := List.pairwise_iff_getElem.1 hn
        rcases Nat.lt_trichotomy i j with h | h | h
        · exact absurd (x1.trans x2.symm) (hp i j l1 l2 h)
        · exact h
        · exact absurd (x2.trans x1.symm) (hp j i l2 l1 h)
      subst hij
      rw [hi] at hsj
      cases hsj
      have h1' := h1
      rw [show pairA s.1 s.2 = Value.agg #[.int .i64 s.1, .int .i64 s.2] from rfl] at h1' hl
      simp [Instr.lookup, run_underlying Try.underlying64, MapKept.run_getObj_map hb, pairLaw.check w _ hl, h1', Result.andThen, ← g2]
/-- 'v, ok := m[s]', s not among them. -/
theorem zeroIntA (w : World) : (zeroValue 3).run Try.prog w = .ok (.int .i64 0) w := by kernel_rfl
theorem PairAt.miss {w : World} {m : Nat} {en : Prs} {a b : Int} (h : PairAt w m en) (ha : (Lit.int .i64 a).wf = true) (hb' : (Lit.int .i64 b).wf = true) (hno : ∀ s ∈ en, ¬ (s.1.1 = a ∧ s.1.2 = b)) :
    (Instr.lookup 64 (.map (some m)) (.agg #[.int .i64 a, .int .i64 b]) true).run Try.prog w = .ok (.tuple #[.int .i64 0, .bool false]) w := by
  obtain ⟨es, clock, hb, hes, hs⟩ := h
  obtain ⟨l, hl⟩ := pairKey ha hb'
  rcases pairLaw.find w hl es.toList (PairAt.keys hes hs) with ⟨h1, h2⟩ | ⟨j, e0, h1, h2, h3⟩
  · have h1' := h1
    rw [show pairA a b = Value.agg #[.int .i64 a, .int .i64 b] from rfl] at h1' hl
    simp [Instr.lookup, run_underlying Try.underlying64, MapKept.run_getObj_map hb, pairLaw.check w _ hl, h1', Result.andThen]
  · exfalso
    have hj : es.toList[j]?.map (fun e => (e.key, e.val)) = some (pairA a b, e0.val) := by rw [h2, ← h3]; rfl
    rw [← List.getElem?_map, hes, List.getElem?_map] at hj
    cases hsj : en[j]? with
    | none => rw [hsj] at hj; simp at hj
    | some s' =>
      rw [hsj] at hj
      simp at hj
      exact hno s' (List.mem_of_getElem? hsj) (pairA_inj hj.1)
/-- 'm[s] = v', s new. -/
theorem PairAt.put {w : World} {m : Nat} {en : Prs} {s : Int × Int} (v : Int) (h : PairAt w m en) (h1 : (Lit.int .i64 s.1).wf = true) (h2 : (Lit.int .i64 s.2).wf = true) (hno : s ∉ en.map (·.1)) :
    ∃ w', (Instr.mapUpdate 64 (.map (some m)) (.agg #[.int .i64 s.1, .int .i64 s.2]) (.int .i64 v)).run Try.prog w = .ok () w' ∧ PairAt w' m (en ++ [(s, v)]) ∧ w.grownBy w' (some m) := by
  obtain ⟨es, clock, hb, hes, hs⟩ := h
  obtain ⟨l, hl⟩ := pairKey (a := s.1) (b := s.2) h1 h2
  rcases pairLaw.find w hl es.toList (PairAt.keys hes hs) with ⟨f1, _⟩ | ⟨j, e0, _, f2, f3⟩
  · refine ⟨setBlock w m (.map (es.push ⟨pairA s.1 s.2, .int .i64 v, clock⟩) (clock + 1)), ?_, ⟨_, _, heap_setBlock_same hb _, ?_, ?_⟩, ⟨rfl, rfl, rfl, by simp [setBlock], fun i _ hi => heap_setBlock_other hb _ (fun e => hi (by rw [e]))⟩⟩
    · have f1' := f1
      rw [show pairA s.1 s.2 = Value.agg #[.int .i64 s.1, .int .i64 s.2] from rfl] at f1' hl ⊢
      simp [Instr.mapUpdate, run_underlying Try.underlying64, MapKept.run_getObj_map hb, pairLaw.check w false hl, f1', MapKept.run_setObj_map _ hb, Result.andThen, setBlock]
    · rw [Array.toList_push, List.map_append, hes, List.map_append]; rfl
    · intro t ht
      rcases List.mem_append.1 ht with ht | ht
      · exact hs t ht
      · simp at ht; subst ht; exact ⟨h1, h2⟩
  · exfalso
    have hj : es.toList[j]?.map (fun e => (e.key, e.val)) = some (pairA s.1 s.2, e0.val) := by rw [f2, ← f3]; rfl
    rw [← List.getElem?_map, hes, List.getElem?_map] at hj
    cases hsj : en[j]? with
    | none => rw [hsj] at hj; simp at hj
    | some s' =>
      rw [hsj] at hj
      simp at hj
      obtain ⟨g3, g4⟩ := pairA_inj hj.1
      exact hno (List.mem_map.2 ⟨s', List.mem_of_getElem? hsj, by cases s; cases s' with | mk a b => cases a; simp at g3 g4; simp [g3, g4]⟩)
/-- Entries are put down in whatever order. -/
theorem puts_any {Q : Exit → Act → World → Prop} {ops : Array Oper} {m : Nat} {a : Act} {N : Nat} (E : Nat → (Int × Int) × Int) (R0 : List Nat)
    (hop : ∀ i ∈ R0, ∃ o, ops[i]? = some o ∧ o.guard = none ∧ (∀ e ∈ o.after, e.on < N ∧ e.on ∉ R0) ∧ ∀ (w : World) en, PairAt w m en → (E i).1 ∉ en.map (·.1) → ∀ K : Act → World → Prop, (∀ w', PairAt w' m (en ++ [E i]) → w.grownBy w' (some m) → K a w') → o.wp Try.prog a w K Q)
    (hlast : ∀ i o, ops[i]? = some o → N ≤ i → i < N + 2 → ∀ r ∈ R0, ∃ e ∈ o.after, Region.binds .any e = true ∧ e.on = r)
    (hinj : ∀ i ∈ R0, ∀ j ∈ R0, i ≠ j → (E i).1 ≠ (E j).1) (hsz : ops.size = N + 2) (hRlt : ∀ r ∈ R0, r < N) :
    ∀ (n : Nat) (R : List Nat) (en : Prs) (listed : Array Bool) (w : World), R.length = n → R.Nodup → (∀ r ∈ R, r ∈ R0) → listed.size = N + 2 → (∀ j, j < N + 2 → (listed.getD j true = false ↔ j ∈ R ∨ j = N ∨ j = N + 1)) → PairAt w m en → (∀ r ∈ R, (E r).1 ∉ en.map (·.1)) →
    (∀ (w' : World) (en' : Prs) (listed' : Array Bool), listed'.size = N + 2 → (∀ j, j < N + 2 → (listed'.getD j true = false ↔ j = N ∨ j = N + 1)) → PairAt w' m en' → en'.Perm (en ++ R.map E) → w.grownBy w' (some m) → wpAny Try.prog .any ops Q 2 listed' a w') →
    wpAny Try.prog .any ops Q (n + 2) listed a w
  | 0, R, en, listed, w => fun hn hnd hsub hls hl hP hne H => by
    have : R = [] := List.eq_nil_of_length_eq_zero hn
    subst this
    exact H w en listed hls (fun j hj => by rw [hl j hj]; simp) hP (by simp) ⟨rfl, rfl, rfl, Nat.le_refl _, fun _ _ _ => rfl⟩
  | n + 1, R, en, listed, w => fun hn hnd hsub hls hl hP hne H => by
    have hmem : ∀ i ∈ Region.ready .any ops listed, i ∈ R := fun i hi => by
      obtain ⟨hu, o, ho, hall⟩ := mem_ready.1 hi
      have hi2 : i < N + 2 := by rw [← hsz]; exact (Array.getElem?_eq_some_iff.1 ho).1
      rcases (hl i hi2).1 hu with h | h
      · exact h
      · exfalso
        obtain ⟨r, hr⟩ : ∃ r, r ∈ R := by
          cases R with
          | nil => simp at hn
          | cons r R => exact ⟨r, by simp⟩
        obtain ⟨e, he, hb, hon⟩ := hlast i o ho (by omega) hi2 r (hsub r hr)
        have h1 := hall e he hb
        rw [hon] at h1
        have h2 := (hl r (by have := hRlt r (hsub r hr); omega)).2 (.inl hr)
        rw [getD_both h2] at h1
        cases h1
    have hready : ∀ i ∈ Region.ready .any ops listed, wpOp Try.prog ops Q i (wpAny Try.prog .any ops Q (n + 2) (listed.setIfInBounds i true)) a w := fun i hi => by
      have hiR := hmem i hi
      obtain ⟨o, ho, hg, _, hrun⟩ := hop i (hsub i hiR)
      unfold wpOp
      simp only [ho]
      rw [if_pos (by simp [Region.wanted, hg])]
      refine .inl (hrun w en hP (hne i hiR) _ fun w' hP' hgr => ?_)
      have hiN := hRlt i (hsub i hiR)
      refine puts_any E R0 hop hlast hinj hsz hRlt n (R.erase i) (en ++ [E i]) (listed.setIfInBounds i true) w' ?_ (hnd.erase i) (fun r hr => hsub r (List.mem_of_mem_erase hr)) (by simpa using hls) ?_ hP' ?_ ?_
      · rw [List.length_erase_of_mem hiR, hn]; rfl
      · intro j hj
        rw [hnd.mem_erase_iff]
        by_cases hji : j = i
        · subst hji
          rw [show (listed.setIfInBounds j true).getD j true = true by simp [hls, hj]]
          simp; omega
        · rw [getD_set_ne true (Ne.symm hji), hl j hj]
          simp [hji]
      · intro r hr h
        obtain ⟨hri, hrR⟩ := hnd.mem_erase_iff.1 hr
        rw [List.map_append] at h
        rcases List.mem_append.1 h with h | h
        · exact hne r hrR h
        · rw [List.map_singleton, List.mem_singleton] at h
          exact hinj r (hsub r hrR) i (hsub i hiR) hri h
      · intro w2 en2 l2 h1 h2 h3 h4 h5
        refine H w2 en2 l2 h1 h2 h3 (h4.trans ?_) (hgr.trans h5)
        rw [List.append_assoc]
        refine List.Perm.append_left en ?_
        have := (List.perm_cons_erase hiR).map E
        exact (this.symm : (List.map E (i :: R.erase i)).Perm (R.map E))
    refine ⟨fun h0 => ?_, hready⟩
    exfalso
    obtain ⟨r, hr⟩ : ∃ r, r ∈ R := by
      cases R with
      | nil => simp at hn
      | cons r R => exact ⟨r, by simp⟩
    obtain ⟨o, ho, hg, haf, _⟩ := hop r (hsub r hr)
    have hrd : r ∈ Region.ready .any ops listed := by
      refine mem_ready.2 ⟨(hl r (by have := hRlt r (hsub r hr); omega)).2 (.inl hr), o, ho, fun e he _ => ?_⟩
      obtain ⟨h1, h2⟩ := haf e he
      have h3 : listed.getD e.on true ≠ false := fun h => by
        rcases (hl e.on (by omega)).1 h with h | h
        · exact h2 (hsub _ h)
        · omega
      have h4 : e.on < listed.size := by omega
      simp [h4] at h3 ⊢
      exact h3
    rw [h0] at hrd
    cases hrd
end Go.Proofs.Ytbomdannlcclkaa
