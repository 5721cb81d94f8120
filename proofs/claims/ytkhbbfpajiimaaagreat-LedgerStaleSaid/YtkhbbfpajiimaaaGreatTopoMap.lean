/- The map from spots to their places: what its block holds, what a look-up gives, what a store of a new spot leaves. -/
import Derived.DeepKeys5
import Derived.Maps.Keyed
import Derived.Test.YtkhbbfpajiimaaaGreatTopoMem
namespace Go.Proofs.YtkhbbfpajiimaaaGreat
open Go.RowKit
open Go.ChangeMaps (setBlock heap_setBlock_same heap_setBlock_other)

def spotV (a b : Int) : Value := .agg #[.int .i64 a, .int .i64 b]
theorem laidOut : laidOutB Tryz.prog = true := by kernel_rfl
theorem spotLaw : Maps.Keyed Tryz.prog 38 :=
  Maps.Keyed.of_law (deep_law_gate laidOut (of_decide_eq_true (by kernel_rfl)) (of_decide_eq_true (by kernel_rfl)) (by kernel_rfl) (by kernel_rfl))
theorem wf_nat {n : Nat} (h : n < 9223372036854775808) : (Lit.int .i64 (n : Int)).wf = true := by
  refine WalkArith.wf_i64 ?_; omega
/-- A key that is a struct of two integers reads as a key. -/
theorem key_two {P : Program} {k e : TypeId} {fs : Array Field} {f0 f1 : Field} {m : Nat} (hk : P.underlying k = some (.struct fs)) (hf : fs = #[f0, f1]) (ht0 : f0.type = e) (ht1 : f1.type = e) (ho0 : f0.offset = 0) (ho1 : f1.offset = 1)
    (hn0 : f0.name ≠ "_") (hn1 : f1.name ≠ "_") (he : P.underlying e = some (.int .i64)) (hkt : P.keyType k = true) (hs : P.types.size = m + 1) (c1 : P.cellsOf k = 2) (c2 : P.cellsOf e = 1)
    {a b : Int} (ha : (Lit.int .i64 a).wf = true) (hb : (Lit.int .i64 b).wf = true) : ∃ l, keyOf P k (.agg #[.int .i64 a, .int .i64 b]) = some l := by
  subst hf
  unfold keyOf
  simp only [hk]
  rw [hs]
  simp [hkt, Value.formed, hk, Program.keyLits, c1, c2, Value.cells, ha, hb, he, ht0, ht1, ho0, ho1, hn0, hn1]
theorem spotKey {a b : Int} (ha : (Lit.int .i64 a).wf = true) (hb : (Lit.int .i64 b).wf = true) : ∃ l, keyOf Tryz.prog 38 (spotV a b) = some l :=
  key_two (e := 3) (m := Tryz.prog.types.size - 1) Tryz.underlying38 rfl rfl rfl rfl rfl (by decide) (by decide) Tryz.underlying3 (by kernel_rfl) (by kernel_rfl) (by kernel_rfl) (by kernel_rfl) ha hb
theorem spotV_inj {a b c d : Int} (h : spotV a b = spotV c d) : a = c ∧ b = d := by
  unfold spotV at h
  simp at h
  exact h

/-- Block m is a map that holds each spot's place: the spots in the order in which they came. -/
def MapAt (w : World) (m : Nat) (sp : List (Nat × Nat)) : Prop :=
  ∃ es clock, w.heap[m]? = some (.map es clock) ∧ es.toList.map (fun e => (e.key, e.val)) = sp.zipIdx.map (fun p => (spotV (p.1.1 : Nat) (p.1.2 : Nat), Value.int .i64 (p.2 : Nat))) ∧ ∀ s ∈ sp, s.1 < 4611686018427387904 ∧ s.2 < 4611686018427387904
theorem MapAt.lt {w : World} {m : Nat} {sp : List (Nat × Nat)} (h : MapAt w m sp) : m < w.heap.size := by
  obtain ⟨es, clock, hb, _⟩ := h
  exact (Array.getElem?_eq_some_iff.1 hb).1
theorem MapAt.of_block {w w' : World} {m : Nat} {sp : List (Nat × Nat)} (h : MapAt w m sp) (e : w'.heap[m]? = w.heap[m]?) : MapAt w' m sp := by
  obtain ⟨es, clock, hb, h2⟩ := h
  exact ⟨es, clock, e.trans hb, h2⟩
theorem MapAt.keys {sp : List (Nat × Nat)} {es : Array MapEntry} (h : es.toList.map (fun e => (e.key, e.val)) = sp.zipIdx.map (fun p => (spotV (p.1.1 : Nat) (p.1.2 : Nat), Value.int .i64 (p.2 : Nat))))
    (hs : ∀ s ∈ sp, s.1 < 4611686018427387904 ∧ s.2 < 4611686018427387904) : ∀ e ∈ es.toList, ∃ l, keyOf Tryz.prog 38 e.key = some l := by
  intro e he
  have hm : (e.key, e.val) ∈ es.toList.map (fun e => (e.key, e.val)) := List.mem_map.2 ⟨e, he, rfl⟩
  rw [h] at hm
  obtain ⟨p, hp, e1⟩ := List.mem_map.1 hm
  have hp1 : p.1 ∈ sp := by
    have := List.mem_zipIdx' hp
    have e := List.getElem_mem this.1
    rwa [← this.2] at e
  obtain ⟨b1, b2⟩ := hs _ hp1
  rw [show e.key = spotV (p.1.1 : Nat) (p.1.2 : Nat) from (congrArg Prod.fst e1).symm]
  exact spotKey (wf_nat (by omega)) (wf_nat (by omega))
theorem MapAt.new (w : World) : MapAt (w.alloc (.map #[] 0)) w.heap.size [] := ⟨#[], 0, (MapKept.heap_alloc w _).1, rfl, by simp⟩

theorem zeroInt (w : World) : (zeroValue 3).run Tryz.prog w = .ok (.int .i64 0) w := by kernel_rfl
/-- 'v, ok := m[s]'. -/
theorem MapAt.look_hit {w : World} {m i : Nat} {sp : List (Nat × Nat)} {s : Nat × Nat} (h : MapAt w m sp) (hi : sp[i]? = some s) (hn : sp.Nodup) :
    (Instr.lookup 179 (.map (some m)) (.agg #[.int .i64 (s.1 : Nat), .int .i64 (s.2 : Nat)]) true).run Tryz.prog w = .ok (.tuple #[.int .i64 (i : Nat), .bool true]) w := by
  obtain ⟨es, clock, hb, hes, hs⟩ := h
  obtain ⟨b1, b2⟩ := hs s (List.mem_of_getElem? hi)
  obtain ⟨l, hl⟩ := spotKey (a := s.1) (b := s.2) (wf_nat (by omega)) (wf_nat (by omega))
  have hil : i < sp.length := (List.getElem?_eq_some_iff.1 hi).1
  have hat : es.toList[i]?.map (fun e => (e.key, e.val)) = some (spotV (s.1 : Nat) (s.2 : Nat), Value.int .i64 (i : Nat)) := by
    rw [← List.getElem?_map, hes, List.getElem?_map, List.getElem?_zipIdx, hi]; simp
  rcases spotLaw.find w hl es.toList (MapAt.keys hes hs) with ⟨_, h2⟩ | ⟨j, e0, h1, h2, h3⟩
  · obtain ⟨e, he, hee⟩ := Option.map_eq_some_iff.1 hat
    exact absurd (congrArg Prod.fst hee) (h2 e (List.mem_of_getElem? he))
  · have hj : es.toList[j]?.map (fun e => (e.key, e.val)) = some (spotV (s.1 : Nat) (s.2 : Nat), e0.val) := by rw [h2, ← h3]; rfl
    rw [← List.getElem?_map, hes, List.getElem?_map, List.getElem?_zipIdx] at hj
    cases hsj : sp[j]? with
    | none => rw [hsj] at hj; simp at hj
    | some s' =>
      rw [hsj] at hj
      simp at hj
      obtain ⟨g1, g2⟩ := hj
      obtain ⟨g3, g4⟩ := spotV_inj g1
      have hss : s' = s := by
        cases s; cases s'; simp at g3 g4; simp; omega
      subst hss
      have hjl : j < sp.length := (List.getElem?_eq_some_iff.1 hsj).1
      have hij : i = j := by
        have e1 := (List.getElem?_eq_some_iff.1 hsj).2
        have e2 := (List.getElem?_eq_some_iff.1 hi).2
        have hp := List.pairwise_iff_getElem.1 hn
        rcases Nat.lt_trichotomy i j with h | h | h
        · exact absurd (e2.trans e1.symm) (hp i j hil hjl h)
        · exact h
        · exact absurd (e1.trans e2.symm) (hp j i hjl hil h)
      subst hij
      have h1' := h1
      rw [show spotV (s'.1 : Nat) (s'.2 : Nat) = Value.agg #[.int .i64 (s'.1 : Nat), .int .i64 (s'.2 : Nat)] from rfl] at h1' hl
      simp [Instr.lookup, run_underlying Tryz.underlying179, MapKept.run_getObj_map hb, spotLaw.check w _ hl, h1', Result.andThen, ← g2]
theorem MapAt.look_miss {w : World} {m : Nat} {sp : List (Nat × Nat)} {a b : Int} (h : MapAt w m sp) (ha : (Lit.int .i64 a).wf = true) (hb' : (Lit.int .i64 b).wf = true) (hno : ∀ s ∈ sp, ¬ ((s.1 : Int) = a ∧ (s.2 : Int) = b)) :
    (Instr.lookup 179 (.map (some m)) (.agg #[.int .i64 a, .int .i64 b]) true).run Tryz.prog w = .ok (.tuple #[.int .i64 0, .bool false]) w := by
  obtain ⟨es, clock, hb, hes, hs⟩ := h
  obtain ⟨l, hl⟩ := spotKey ha hb'
  rcases spotLaw.find w hl es.toList (MapAt.keys hes hs) with ⟨h1, h2⟩ | ⟨j, e0, h1, h2, h3⟩
  · have h1' := h1
    rw [show spotV a b = Value.agg #[.int .i64 a, .int .i64 b] from rfl] at h1' hl
    simp [Instr.lookup, run_underlying Tryz.underlying179, MapKept.run_getObj_map hb, spotLaw.check w _ hl, h1', Result.andThen]
  · exfalso
    have hj : es.toList[j]?.map (fun e => (e.key, e.val)) = some (spotV a b, e0.val) := by rw [h2, ← h3]; rfl
    rw [← List.getElem?_map, hes, List.getElem?_map, List.getElem?_zipIdx] at hj
    cases hsj : sp[j]? with
    | none => rw [hsj] at hj; simp at hj
    | some s' =>
      rw [hsj] at hj
      simp at hj
      exact hno s' (List.mem_of_getElem? hsj) (spotV_inj hj.1)
/-- 'm[s] = n', s new, n how many there are. -/
theorem MapAt.put {w : World} {m : Nat} {sp : List (Nat × Nat)} {s : Nat × Nat} (h : MapAt w m sp) (h1 : s.1 < 4611686018427387904) (h2 : s.2 < 4611686018427387904) (hno : s ∉ sp) :
    ∃ w', (Instr.mapUpdate 179 (.map (some m)) (.agg #[.int .i64 (s.1 : Nat), .int .i64 (s.2 : Nat)]) (.int .i64 (sp.length : Nat))).run Tryz.prog w = .ok () w' ∧ MapAt w' m (sp ++ [s]) ∧ w.grownBy w' (some m) := by
  obtain ⟨es, clock, hb, hes, hs⟩ := h
  obtain ⟨l, hl⟩ := spotKey (a := s.1) (b := s.2) (wf_nat (by omega)) (wf_nat (by omega))
  rcases spotLaw.find w hl es.toList (MapAt.keys hes hs) with ⟨f1, _⟩ | ⟨j, e0, _, f2, f3⟩
  · refine ⟨setBlock w m (.map (es.push ⟨spotV (s.1 : Nat) (s.2 : Nat), .int .i64 (sp.length : Nat), clock⟩) (clock + 1)), ?_, ⟨_, _, heap_setBlock_same hb _, ?_, ?_⟩, ⟨rfl, rfl, rfl, by simp [setBlock], fun i _ hi => heap_setBlock_other hb _ (fun e => hi (by rw [e]))⟩⟩
    · have f1' := f1
      rw [show spotV (s.1 : Nat) (s.2 : Nat) = Value.agg #[.int .i64 (s.1 : Nat), .int .i64 (s.2 : Nat)] from rfl] at f1' hl ⊢
      simp [Instr.mapUpdate, run_underlying Tryz.underlying179, MapKept.run_getObj_map hb, spotLaw.check w false hl, f1', MapKept.run_setObj_map _ hb, Result.andThen, setBlock]
    · rw [Array.toList_push, List.map_append, hes, List.zipIdx_append, List.map_append]; simp
    · intro t ht
      rcases List.mem_append.1 ht with ht | ht
      · exact hs t ht
      · simp at ht; subst ht; exact ⟨h1, h2⟩
  · exfalso
    have hj : es.toList[j]?.map (fun e => (e.key, e.val)) = some (spotV (s.1 : Nat) (s.2 : Nat), e0.val) := by rw [f2, ← f3]; rfl
    rw [← List.getElem?_map, hes, List.getElem?_map, List.getElem?_zipIdx] at hj
    cases hsj : sp[j]? with
    | none => rw [hsj] at hj; simp at hj
    | some s' =>
      rw [hsj] at hj
      simp at hj
      obtain ⟨g3, g4⟩ := spotV_inj hj.1
      have : s' = s := by cases s; cases s'; simp at g3 g4; simp; omega
      subst this
      exact hno (List.mem_of_getElem? hsj)
end Go.Proofs.YtkhbbfpajiimaaaGreat
