/- The map from a view's spots to their places. -/
import Derived.DeepKeys5
import Derived.Maps.Keyed
import Derived.WalkArith
import Derived.Test.YtjbjjdcmkbigdaaDoorPackMem
namespace Go.Proofs.YtjbjjdcmkbigdaaDoor
open Go.RowKit
open Go.ChangeMaps (setBlock heap_setBlock_same heap_setBlock_other)

def spotP (a b : Int) : Value := .agg #[.int .i64 a, .int .i64 b]
theorem spotLawP : Maps.Keyed Tryd.prog 38 :=
  Maps.Keyed.of_law (deep_law_gate laidOut (of_decide_eq_true (by kernel_rfl)) (of_decide_eq_true (by kernel_rfl)) (by kernel_rfl) (by kernel_rfl))
/-- A key that is a struct of two integers reads as a key. -/
theorem key_twoP {P : Program} {k e : TypeId} {fs : Array Field} {f0 f1 : Field} {m : Nat} (hk : P.underlying k = some (.struct fs)) (hf : fs = #[f0, f1]) (ht0 : f0.type = e) (ht1 : f1.type = e) (ho0 : f0.offset = 0) (ho1 : f1.offset = 1)
    (hn0 : f0.name ≠ "_") (hn1 : f1.name ≠ "_") (he : P.underlying e = some (.int .i64)) (hkt : P.keyType k = true) (hs : P.types.size = m + 1) (c1 : P.cellsOf k = 2) (c2 : P.cellsOf e = 1)
    {a b : Int} (ha : (Lit.int .i64 a).wf = true) (hb : (Lit.int .i64 b).wf = true) : ∃ l, keyOf P k (.agg #[.int .i64 a, .int .i64 b]) = some l := by
  subst hf
  unfold keyOf
  simp only [hk]
  rw [hs]
  simp [hkt, Value.formed, hk, Program.keyLits, c1, c2, Value.cells, ha, hb, he, ht0, ht1, ho0, ho1, hn0, hn1]
theorem spotKeyP {a b : Int} (ha : (Lit.int .i64 a).wf = true) (hb : (Lit.int .i64 b).wf = true) : ∃ l, keyOf Tryd.prog 38 (spotP a b) = some l :=
  key_twoP (e := 3) (m := Tryd.prog.types.size - 1) Tryd.underlying38 rfl rfl rfl rfl rfl (by decide) (by decide) Tryd.underlying3 (by kernel_rfl) (by kernel_rfl) (by kernel_rfl) (by kernel_rfl) ha hb
theorem spotP_inj {a b c d : Int} (h : spotP a b = spotP c d) : a = c ∧ b = d := by
  unfold spotP at h
  simp at h
  exact h
/-- Entries of a map from spots to numbers. -/
abbrev Ents := List ((Int × Int) × Int)
/-- Block m is a map that holds these, in the order in which they came. -/
def EntAt (w : World) (m : Nat) (en : Ents) : Prop :=
  ∃ es clock, w.heap[m]? = some (.map es clock) ∧ es.toList.map (fun e => (e.key, e.val)) = en.map (fun p => (spotP p.1.1 p.1.2, Value.int .i64 p.2)) ∧ ∀ s ∈ en, (Lit.int .i64 s.1.1).wf = true ∧ (Lit.int .i64 s.1.2).wf = true
theorem EntAt.lt {w : World} {m : Nat} {en : Ents} (h : EntAt w m en) : m < w.heap.size := by
  obtain ⟨es, clock, hb, _⟩ := h
  exact (Array.getElem?_eq_some_iff.1 hb).1
theorem EntAt.of_block {w w' : World} {m : Nat} {en : Ents} (h : EntAt w m en) (e : w'.heap[m]? = w.heap[m]?) : EntAt w' m en := by
  obtain ⟨es, clock, hb, h2⟩ := h
  exact ⟨es, clock, e.trans hb, h2⟩
theorem EntAt.keys {en : Ents} {es : Array MapEntry} (h : es.toList.map (fun e => (e.key, e.val)) = en.map (fun p => (spotP p.1.1 p.1.2, Value.int .i64 p.2))) (hs : ∀ s ∈ en, (Lit.int .i64 s.1.1).wf = true ∧ (Lit.int .i64 s.1.2).wf = true) : ∀ e ∈ es.toList, ∃ l, keyOf Tryd.prog 38 e.key = some l := by
  intro e he
  have hm : (e.key, e.val) ∈ es.toList.map (fun e => (e.key, e.val)) := List.mem_map.2 ⟨e, he, rfl⟩
  rw [h] at hm
  obtain ⟨p, hp, e1⟩ := List.mem_map.1 hm
  obtain ⟨b1, b2⟩ := hs _ hp
  rw [show e.key = spotP p.1.1 p.1.2 from (congrArg Prod.fst e1).symm]
  exact spotKeyP b1 b2
theorem EntAt.new (w : World) : EntAt (w.alloc (.map #[] 0)) w.heap.size [] := ⟨#[], 0, (MapKept.heap_alloc w _).1, rfl, by simp⟩
/-- 'v, ok := m[s]', s among them. -/
theorem EntAt.hit {w : World} {m i : Nat} {en : Ents} {s : Int × Int} {v : Int} (h : EntAt w m en) (hi : en[i]? = some (s, v)) (hn : (en.map (·.1)).Nodup) :
    (Instr.lookup 49 (.map (some m)) (.agg #[.int .i64 s.1, .int .i64 s.2]) true).run Tryd.prog w = .ok (.tuple #[.int .i64 v, .bool true]) w := by
  obtain ⟨es, clock, hb, hes, hs⟩ := h
  obtain ⟨b1, b2⟩ := hs (s, v) (List.mem_of_getElem? hi)
  obtain ⟨l, hl⟩ := spotKeyP (a := s.1) (b := s.2) b1 b2
  have hat : es.toList[i]?.map (fun e => (e.key, e.val)) = some (spotP s.1 s.2, Value.int .i64 v) := by
    rw [← List.getElem?_map, hes, List.getElem?_map, hi]; rfl
  rcases spotLawP.find w hl es.toList (EntAt.keys hes hs) with ⟨_, h2⟩ | ⟨j, e0, h1, h2, h3⟩
  · obtain ⟨e, he, hee⟩ := Option.map_eq_some_iff.1 hat
    exact absurd (congrArg Prod.fst hee) (h2 e (List.mem_of_getElem? he))
  · have hj : es.toList[j]?.map (fun e => (e.key, e.val)) = some (spotP s.1 s.2, e0.val) := by rw [h2, ← h3]; rfl
    rw [← List.getElem?_map, hes, List.getElem?_map] at hj
    cases hsj : en[j]? with
    | none => rw [hsj] at hj; simp at hj
    | some s' =>
      rw [hsj] at hj
      simp at hj
      obtain ⟨g1, g2⟩ := hj
      obtain ⟨g3, g4⟩ := spotP_inj g1
      have hij : i = j := by
        have e1 : (en.map (·.1))[i]? = some s := by rw [List.getElem?_map, hi]; rfl
        have e2 : (en.map (·.1))[j]? = some s := by rw [List.getElem?_map, hsj]; cases s; cases s' with | mk a b => cases a; simp at g3 g4; simp [g3, g4]
        obtain ⟨l1, x1⟩ := List.getElem?_eq_some_iff.1 e1
        obtain ⟨l2, x2⟩ := List.getElem?_eq_some_iff.1 e2
        have hp := List.pairwise_iff_getElem.1 hn
        rcases Nat.lt_trichotomy i j with h | h | h
        · exact absurd (x1.trans x2.symm) (hp i j l1 l2 h)
        · exact h
        · exact absurd (x2.trans x1.symm) (hp j i l2 l1 h)
      subst hij
      rw [hi] at hsj
      cases hsj
      have h1' := h1
      rw [show spotP s.1 s.2 = Value.agg #[.int .i64 s.1, .int .i64 s.2] from rfl] at h1' hl
      simp [Instr.lookup, run_underlying Tryd.underlying49, MapKept.run_getObj_map hb, spotLawP.check w _ hl, h1', Result.andThen, ← g2]
/-- 'v, ok := m[s]', s not among them. -/
theorem zeroIntP (w : World) : (zeroValue 3).run Tryd.prog w = .ok (.int .i64 0) w := by kernel_rfl
theorem EntAt.miss {w : World} {m : Nat} {en : Ents} {a b : Int} (h : EntAt w m en) (ha : (Lit.int .i64 a).wf = true) (hb' : (Lit.int .i64 b).wf = true) (hno : ∀ s ∈ en, ¬ (s.1.1 = a ∧ s.1.2 = b)) :
    (Instr.lookup 49 (.map (some m)) (.agg #[.int .i64 a, .int .i64 b]) true).run Tryd.prog w = .ok (.tuple #[.int .i64 0, .bool false]) w := by
  obtain ⟨es, clock, hb, hes, hs⟩ := h
  obtain ⟨l, hl⟩ := spotKeyP ha hb'
  rcases spotLawP.find w hl es.toList (EntAt.keys hes hs) with ⟨h1, h2⟩ | ⟨j, e0, h1, h2, h3⟩
  · have h1' := h1
    rw [show spotP a b = Value.agg #[.int .i64 a, .int .i64 b] from rfl] at h1' hl
    simp [Instr.lookup, run_underlying Tryd.underlying49, MapKept.run_getObj_map hb, spotLawP.check w _ hl, h1', Result.andThen]
  · exfalso
    have hj : es.toList[j]?.map (fun e => (e.key, e.val)) = some (spotP a b, e0.val) := by rw [h2, ← h3]; rfl
    rw [← List.getElem?_map, hes, List.getElem?_map] at hj
    cases hsj : en[j]? with
    | none => rw [hsj] at hj; simp at hj
    | some s' =>
      rw [hsj] at hj
      simp at hj
      exact hno s' (List.mem_of_getElem? hsj) (spotP_inj hj.1)
/-- 'm[s] = v', s new. -/
theorem EntAt.put {w : World} {m : Nat} {en : Ents} {s : Int × Int} (v : Int) (h : EntAt w m en) (h1 : (Lit.int .i64 s.1).wf = true) (h2 : (Lit.int .i64 s.2).wf = true) (hno : s ∉ en.map (·.1)) :
    ∃ w', (Instr.mapUpdate 49 (.map (some m)) (.agg #[.int .i64 s.1, .int .i64 s.2]) (.int .i64 v)).run Tryd.prog w = .ok () w' ∧ EntAt w' m (en ++ [(s, v)]) ∧ w.grownBy w' (some m) := by
  obtain ⟨es, clock, hb, hes, hs⟩ := h
  obtain ⟨l, hl⟩ := spotKeyP (a := s.1) (b := s.2) h1 h2
  rcases spotLawP.find w hl es.toList (EntAt.keys hes hs) with ⟨f1, _⟩ | ⟨j, e0, _, f2, f3⟩
  · refine ⟨setBlock w m (.map (es.push ⟨spotP s.1 s.2, .int .i64 v, clock⟩) (clock + 1)), ?_, ⟨_, _, heap_setBlock_same hb _, ?_, ?_⟩, ⟨rfl, rfl, rfl, by simp [setBlock], fun i _ hi => heap_setBlock_other hb _ (fun e => hi (by rw [e]))⟩⟩
    · have f1' := f1
      rw [show spotP s.1 s.2 = Value.agg #[.int .i64 s.1, .int .i64 s.2] from rfl] at f1' hl ⊢
      simp [Instr.mapUpdate, run_underlying Tryd.underlying49, MapKept.run_getObj_map hb, spotLawP.check w false hl, f1', MapKept.run_setObj_map _ hb, Result.andThen, setBlock]
    · rw [Array.toList_push, List.map_append, hes, List.map_append]; rfl
    · intro t ht
      rcases List.mem_append.1 ht with ht | ht
      · exact hs t ht
      · simp at ht; subst ht; exact ⟨h1, h2⟩
  · exfalso
    have hj : es.toList[j]?.map (fun e => (e.key, e.val)) = some (spotP s.1 s.2, e0.val) := by rw [f2, ← f3]; rfl
    rw [← List.getElem?_map, hes, List.getElem?_map] at hj
    cases hsj : en[j]? with
    | none => rw [hsj] at hj; simp at hj
    | some s' =>
      rw [hsj] at hj
      simp at hj
      obtain ⟨g3, g4⟩ := spotP_inj hj.1
      exact hno (List.mem_map.2 ⟨s', List.mem_of_getElem? hsj, by cases s; cases s' with | mk a b => cases a; simp at g3 g4; simp [g3, g4]⟩)
end Go.Proofs.YtjbjjdcmkbigdaaDoor
