/- What comes in, whatever its type of integers, bools, strings, structs and slices: how its cells read; lists out of slices. -/
import Derived.Deep.Slices
import Derived.Lib.SmallJoins
import Derived.ProofKit
import Derived.OpenShut
import Derived.Test.YtplekkpfpidebaaLies
set_option maxRecDepth 100000
namespace Go.Proofs.Ytplekkpfpidebaa
open Go.ChangeShapes Go.WideShapes Go.ChangeAt Go.RowKit Go.Deep

/-- A type's shape; a struct's fields are a row of shapes. -/
inductive Sh where
  | int (k : IntKind) : Sh
  | bool : Sh
  | str : Sh
  | slice (e : Sh) : Sh
  | struct (f : Sh) : Sh
  | nil : Sh
  | cons (f r : Sh) : Sh
def Sh.size : Sh → Nat
  | .int _ => 1
  | .bool => 1
  | .str => 1
  | .slice _ => 1
  | .struct f => f.size
  | .nil => 0
  | .cons f r => f.size + r.size
/-- What cells of that shape hold; slices' cells lie below block B. -/
def Sh.Holds (w : World) (B : Nat) : Sh → List Value → Prop
  | .int k, cs => ∃ n : Int, cs = [.int k n] ∧ (Lit.int k n).wf = true
  | .bool, cs => ∃ b : Bool, cs = [.bool b]
  | .str, cs => ∃ s : ByteArray, cs = [.string s] ∧ s.size ≤ maxLen
  | .slice e, cs => ∃ (A : Option Addr) (len c : Nat), cs = [.slice A len c] ∧ len ≤ c ∧ c ≤ maxLen ∧
      (len = 0 ∨ ∃ b off, A = some ⟨b, off, none⟩ ∧ b < B ∧ ∀ i, i < len → ∃ cs', cs'.length = e.size ∧ (∀ j, j < e.size → w.cell? ⟨b, off + i * e.size + j, none⟩ = cs'[j]?) ∧ Sh.Holds w B e cs')
  | .struct f, cs => Sh.Holds w B f cs
  | .nil, cs => cs = []
  | .cons f r, cs => Sh.Holds w B f (cs.take f.size) ∧ Sh.Holds w B r (cs.drop f.size)
/-- Is that a type's shape (a struct's fields', from an offset on)? -/
def Sh.fit (P : Program) : Sh → TypeId ⊕ (List Field × Nat) → Bool
  | .int k, .inl t => match P.underlying t with
    | some (.int k') => decide (k' = k)
    | _ => false
  | .bool, .inl t => match P.underlying t with
    | some .bool => true
    | _ => false
  | .str, .inl t => match P.underlying t with
    | some .string => true
    | _ => false
  | .slice e, .inl t => match P.underlying t with
    | some (.slice te) => decide (0 < e.size) && (decide (P.cellsOf te = e.size) && e.fit P (.inl te))
    | _ => false
  | .struct f, .inl t => match P.underlying t with
    | some (.struct fs) => decide (P.cellsOf t = f.size) && f.fit P (.inr (fs.toList, 0))
    | _ => false
  | .nil, .inr (fs, _) => fs.isEmpty
  | .cons f r, .inr (fld :: fs, o) => decide (fld.offset = o) && (decide (P.cellsOf fld.type = f.size) && (f.fit P (.inl fld.type) && r.fit P (.inr (fs, o + f.size))))
  | _, _ => false
section
variable {H : Type} {enc : TypeId × Value → H} {P : Program} {w : World} {held : Bool}
theorem addr_plain {x : Addr} {v : Value} (h : w.cell? (x.add 0) = some v) : ∃ b off, x = ⟨b, off, none⟩ := by
  obtain ⟨b, off, spot⟩ := x
  have : spot = none := by simpa [Addr.add] using World.cell?_spot h
  subst this
  exact ⟨b, off, rfl⟩
theorem Sh.reads (sh : Sh) :
    (∀ (t : TypeId) (fuel : Nat) (cs : List Value) (x : DataW H × List MemPlace), sh.fit P (.inl t) = true → DataW.trod enc P w 0 (fun _ => true) held fuel t cs = some x → sh.Holds w w.heap.size cs) ∧
    (∀ (fs : List Field) (o n : Nat) (cs : List Value), sh.fit P (.inr (fs, o)) = true → cs.length = o + sh.size →
      (∀ (i : Nat) (f : Field), fs[i]? = some f → ∃ y, DataW.trod enc P w 0 (fun _ => true) held n f.type ((cs.drop f.offset).take (P.cellsOf f.type)) = some y) → sh.Holds w w.heap.size (cs.drop o)) := by
  induction sh with
  | int k =>
    refine ⟨fun t fuel cs x hf h => ?_, fun fs o n cs hf => by simp [Sh.fit] at hf⟩
    unfold Sh.fit at hf
    split at hf
    · rename_i hu
      obtain rfl := of_decide_eq_true hf
      obtain ⟨n, e, _, hw⟩ := DataW.trod_int hu h
      exact ⟨n, e, hw⟩
    · cases hf
  | bool =>
    refine ⟨fun t fuel cs x hf h => ?_, fun fs o n cs hf => by simp [Sh.fit] at hf⟩
    unfold Sh.fit at hf
    split at hf
    · rename_i hu
      obtain ⟨b, e, _⟩ := DataW.trod_bool hu h
      exact ⟨b, e⟩
    · cases hf
  | str =>
    refine ⟨fun t fuel cs x hf h => ?_, fun fs o n cs hf => by simp [Sh.fit] at hf⟩
    unfold Sh.fit at hf
    split at hf
    · rename_i hu
      obtain ⟨s, e, _, hs⟩ := DataW.trod_string hu h
      exact ⟨s, e, hs⟩
    · cases hf
  | slice e ih =>
    refine ⟨fun t fuel cs x hf h => ?_, fun fs o n cs hf => by simp [Sh.fit] at hf⟩
    unfold Sh.fit at hf
    split at hf
    · rename_i te hu
      simp only [Bool.and_eq_true, decide_eq_true_eq] at hf
      obtain ⟨h0, h1, h2⟩ := hf
      rcases open_slice hu h with ⟨e1, _⟩ | ⟨x, len, cap, m, n, D, Pl, e1, _, hl, hm, hmm, _, hx⟩
      · exact ⟨none, 0, 0, e1, Nat.le_refl _, Nat.zero_le _, .inl rfl⟩
      · refine ⟨some x, len, cap, e1, hl, hm, ?_⟩
        simp at hmm
        rw [h1] at hx
        by_cases hz : len = 0
        · exact .inl hz
        right
        obtain ⟨b, off, rfl⟩ : ∃ b off, x = ⟨b, off, none⟩ := by
          obtain ⟨cs0, hc0, _⟩ := hx 0 (by omega)
          obtain ⟨_, hlen, hat⟩ := World.cells?_some hc0
          have := hat 0 h0
          rw [List.getElem?_eq_getElem (by omega)] at this
          rw [Nat.zero_mul] at this
          exact addr_plain (x := x) (by simpa [Addr.add] using this)
        have hb : b < w.heap.size := by
          obtain ⟨cs0, hc0, _⟩ := hx 0 (by omega)
          obtain ⟨_, hlen, hat⟩ := World.cells?_some hc0
          have := hat 0 h0
          rw [List.getElem?_eq_getElem (by omega)] at this
          exact lt_of_cell (off := off) (by simpa [Addr.add] using this)
        refine ⟨b, off, rfl, hb, fun i hi => ?_⟩
        obtain ⟨cs0, hc0, ht⟩ := hx i (by omega)
        obtain ⟨_, hlen, hat⟩ := World.cells?_some hc0
        exact ⟨cs0, hlen, fun j hj => by have := hat j hj; rw [Addr.add_lit, Addr.add_lit] at this; exact this, ih.1 te n cs0 _ h2 ht⟩
    · cases hf
  | struct f ih =>
    refine ⟨fun t fuel cs x hf h => ?_, fun fs o n cs hf => by simp [Sh.fit] at hf⟩
    unfold Sh.fit at hf
    split at hf
    · rename_i fs hu
      simp only [Bool.and_eq_true, decide_eq_true_eq] at hf
      obtain ⟨xs, n, _, _, hlen, hxs, hat⟩ := DataW.trod_struct hu h
      have := ih.2 fs.toList 0 n cs hf.2 (by rw [hlen, hf.1]; omega) (fun i fld hi => by
        have hi' : fs[i]? = some fld := by simpa using hi
        have hil := (Array.getElem?_eq_some_iff.1 hi').1
        refine ⟨xs[i]'(by omega), ?_⟩
        rw [hat i fld hi']
        exact List.getElem?_eq_getElem _)
      simpa [Sh.Holds] using this
    · cases hf
  | nil =>
    refine ⟨fun t fuel cs x hf => by simp [Sh.fit] at hf, fun fs o n cs _ hl _ => ?_⟩
    simp only [Sh.size] at hl
    exact List.drop_eq_nil_of_le (by omega)
  | cons f r ihf ihr =>
    refine ⟨fun t fuel cs x hf => by simp [Sh.fit] at hf, fun fs o n cs hf hl hat => ?_⟩
    match fs, hf with
    | fld :: fs, hf =>
      simp only [Sh.fit, Bool.and_eq_true, decide_eq_true_eq] at hf
      obtain ⟨e1, e2, e3, e4⟩ := hf
      obtain ⟨y, hy⟩ := hat 0 fld rfl
      rw [e1, e2] at hy
      refine ⟨ihf.1 _ _ _ _ e3 hy, ?_⟩
      have := ihr.2 fs (o + f.size) n cs e4 (by simp only [Sh.size] at hl; omega) (fun i g hi => hat (i + 1) g (by simpa using hi))
      rwa [List.drop_drop]
/-- An argument that is a struct. -/
theorem arg_struct {r : Reach} {b0 : Nat} {t : TypeId} {v : Value} {d : DataW H} {p : List MemPlace} {sh : Sh} {fs : Array Field} (hu : P.underlying t = some (.struct fs)) (hfit : sh.fit P (.inl t) = true) (hv : Value.okWide P w r b0 t v)
    (h : DataW.Trod enc P w 0 (fun _ => true) held t v d p) : ∃ cs : List Value, v = .agg cs.toArray ∧ cs.length = P.cellsOf t ∧ sh.Holds w w.heap.size cs := by
  obtain ⟨cs, rfl, hsz⟩ := okWide_struct hu hv
  obtain ⟨fuel, hf⟩ := h
  exact ⟨cs.toList, by simp, by simpa using hsz, (Sh.reads sh).1 t fuel cs.toList _ hfit (by simpa [Value.cells] using hf)⟩
/-- An argument that is a slice. -/
theorem arg_slice {r : Reach} {b0 : Nat} {t e : TypeId} {v : Value} {d : DataW H} {p : List MemPlace} {sh : Sh} (hu : P.underlying t = some (.slice e)) (hfit : sh.fit P (.inl t) = true) (hv : Value.okWide P w r b0 t v)
    (h : DataW.Trod enc P w 0 (fun _ => true) held t v d p) : sh.Holds w w.heap.size [v] := by
  obtain ⟨a, len, cap, rfl⟩ := okWide_slice hu hv
  obtain ⟨fuel, hf⟩ := h
  exact (Sh.reads sh).1 t fuel _ _ hfit (by simpa [Value.cells] using hf)
end
/-- A list out of a slice: what each element's cells say, and what is known of it. -/
theorem rows_of {α : Type} {w : World} {B : Nat} {e : Sh} {v : Value} {p : Nat → Nat → α → Prop} {q : α → Prop} (h : (Sh.slice e).Holds w B [v])
    (lift : ∀ b o cs, b < B → cs.length = e.size → (∀ j u, cs[j]? = some u → w.cell? ⟨b, o + j, none⟩ = some u) → e.Holds w B cs → ∃ a : α, p b o a ∧ q a) :
    ∃ (A : Option Addr) (c : Nat) (l : List α), v = .slice A l.length c ∧ l.length ≤ c ∧ c ≤ maxLen ∧ Rows B A p e.size l ∧ ∀ a ∈ l, q a := by
  obtain ⟨A, len, c, e1, hl, hm, hr⟩ := h
  simp at e1
  subst e1
  by_cases h0 : len = 0
  · subst h0
    exact ⟨A, c, [], rfl, Nat.zero_le _, hm, .inl rfl, by simp⟩
  rcases hr with hr | ⟨b, off, rfl, hb, hx⟩
  · exact absurd hr h0
  have hall : ∀ i, i < len → ∃ a : α, p b (off + i * e.size) a ∧ q a := fun i hi => by
    obtain ⟨cs, hlen, hat, hh⟩ := hx i hi
    exact lift b _ cs hb hlen (fun j u hj => by rw [hat j (by rw [← hlen]; exact (List.getElem?_eq_some_iff.1 hj).1), hj]) hh
  obtain ⟨a0, _⟩ := hall 0 (by omega)
  have hch : ∀ i, ∃ a : α, i < len → p b (off + i * e.size) a ∧ q a := fun i => by
    by_cases hi : i < len
    · obtain ⟨a, ha⟩ := hall i hi; exact ⟨a, fun _ => ha⟩
    · exact ⟨a0, fun h => absurd h hi⟩
  let f := fun i => Classical.choose (hch i)
  have hf : ∀ i, i < len → p b (off + i * e.size) (f i) ∧ q (f i) := fun i hi => Classical.choose_spec (hch i) hi
  have hget : ∀ i x, ((List.range len).map f)[i]? = some x → i < len ∧ x = f i := fun i x hi => by
    rw [List.getElem?_map] at hi
    obtain ⟨j, hj, rfl⟩ := Option.map_eq_some_iff.1 hi
    obtain ⟨hjl, hj2⟩ := List.getElem?_eq_some_iff.1 hj
    simp at hjl hj2
    subst hj2
    exact ⟨hjl, rfl⟩
  refine ⟨_, c, (List.range len).map f, by simp, by simpa using hl, hm, .inr ⟨b, off, rfl, hb, fun i x hi => ?_⟩, fun x hx => ?_⟩
  · obtain ⟨hil, rfl⟩ := hget i x hi
    exact (hf i hil).1
  · obtain ⟨i, hi⟩ := List.mem_iff_getElem?.1 hx
    obtain ⟨hil, rfl⟩ := hget i x hi
    exact (hf i hil).2
end Go.Proofs.Ytplekkpfpidebaa
