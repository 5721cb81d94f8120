/- What comes in, with the form's reach: no slice, however deep, is longer than it. -/
import Derived.SizedLaws
import Derived.Test.YtplekkpfpidebaaReads
set_option maxRecDepth 100000
namespace Go.Proofs.Ytplekkpfpidebaa
open Go.ChangeShapes Go.WideShapes Go.ChangeAt Go.RowKit Go.Deep
def Sh.HoldsR (w : World) (B : Nat) : Sh → List Value → Prop
  | .int k, cs => ∃ n : Int, cs = [.int k n] ∧ (Lit.int k n).wf = true
  | .bool, cs => ∃ b : Bool, cs = [.bool b]
  | .str, cs => ∃ s : ByteArray, cs = [.string s] ∧ s.size ≤ maxLen
  | .slice e, cs => ∃ (A : Option Addr) (len c : Nat), cs = [.slice A len c] ∧ len ≤ c ∧ c ≤ maxLen ∧ len ≤ 140737488351232 ∧
      (len = 0 ∨ ∃ b off, A = some ⟨b, off, none⟩ ∧ b < B ∧ ∀ i, i < len → ∃ cs', cs'.length = e.size ∧ (∀ j, j < e.size → w.cell? ⟨b, off + i * e.size + j, none⟩ = cs'[j]?) ∧ Sh.HoldsR w B e cs')
  | .struct f, cs => Sh.HoldsR w B f cs
  | .nil, cs => cs = []
  | .cons f r, cs => Sh.HoldsR w B f (cs.take f.size) ∧ Sh.HoldsR w B r (cs.drop f.size)
/-- Each slice's elements take bytes. -/
def Sh.fitB (P : Program) : Sh → TypeId ⊕ (List Field × Nat) → Bool
  | .slice e, .inl t => match P.underlying t with
    | some (.slice te) => decide (0 < P.bytesOf te) && e.fitB P (.inl te)
    | _ => false
  | .struct f, .inl t => match P.underlying t with
    | some (.struct fs) => f.fitB P (.inr (fs.toList, 0))
    | _ => false
  | .cons f r, .inr (fld :: fs, o) => f.fitB P (.inl fld.type) && r.fitB P (.inr (fs, o + f.size))
  | _, _ => true
theorem weights_all {H : Type} {P : Program} {e : TypeId} : ∀ {l : List (DataW H)} {i : Nat} {d : DataW H}, l[i]? = some d → ∀ n ∈ d.weights P e, n ∈ DataW.weightsAll P e l
  | [], _, _, h, _, _ => by simp at h
  | x :: l, 0, d, h, n, hn => by simp at h; subst h; simp [DataW.weightsAll, hn]
  | x :: l, i + 1, d, h, n, hn => by
    simp only [DataW.weightsAll, List.mem_append]
    exact .inr (weights_all (i := i) (by simpa using h) n hn)
section
variable {H : Type} {enc : TypeId × Value → H} {P : Program} {w : World} {held : Bool}
theorem Sh.readsR (sh : Sh) :
    (∀ (t : TypeId) (fuel : Nat) (cs : List Value) (x : DataW H × List MemPlace), sh.fit P (.inl t) = true → sh.fitB P (.inl t) = true → DataW.trod enc P w 0 (fun _ => true) held fuel t cs = some x → (∀ n ∈ x.1.weights P t, n ≤ 140737488351232) → sh.HoldsR w w.heap.size cs) ∧
    (∀ (fs : List Field) (o n : Nat) (cs : List Value), sh.fit P (.inr (fs, o)) = true → sh.fitB P (.inr (fs, o)) = true → cs.length = o + sh.size →
      (∀ (i : Nat) (f : Field), fs[i]? = some f → ∃ y, DataW.trod enc P w 0 (fun _ => true) held n f.type ((cs.drop f.offset).take (P.cellsOf f.type)) = some y ∧ ∀ n ∈ y.1.weights P f.type, n ≤ 140737488351232) → sh.HoldsR w w.heap.size (cs.drop o)) := by
  induction sh with
  | int k => exact ⟨fun t fuel cs x hf _ h _ => by have := (Sh.reads (.int k)).1 t fuel cs x hf h; exact this, fun fs o n cs hf => by simp [Sh.fit] at hf⟩
  | bool => exact ⟨fun t fuel cs x hf _ h _ => by have := (Sh.reads .bool).1 t fuel cs x hf h; exact this, fun fs o n cs hf => by simp [Sh.fit] at hf⟩
  | str => exact ⟨fun t fuel cs x hf _ h _ => by have := (Sh.reads .str).1 t fuel cs x hf h; exact this, fun fs o n cs hf => by simp [Sh.fit] at hf⟩
  | slice e ih =>
    refine ⟨fun t fuel cs x hf hfb h hW => ?_, fun fs o n cs hf => by simp [Sh.fit] at hf⟩
    unfold Sh.fit at hf
    unfold Sh.fitB at hfb
    split at hf
    · rename_i te hu
      rw [hu] at hfb
      simp only [Bool.and_eq_true, decide_eq_true_eq] at hf hfb
      obtain ⟨h0, h1, h2⟩ := hf
      rcases open_slice hu h with ⟨e1, _⟩ | ⟨x, len, cap, m, n, D, Pl, e1, _, hl, hm, hmm, e2, hx⟩
      · exact ⟨none, 0, 0, e1, Nat.le_refl _, Nat.zero_le _, by omega, .inl rfl⟩
      · subst e2
        simp at hmm
        have hreach : len ≤ 140737488351232 := by
          have h9 := hW ((((List.range len).map D).length + ((List.range (m - len)).map fun j => D (len + j)).length) * P.bytesOf te) (by simp [DataW.weights, hu])
          simp only [List.length_map, List.length_range] at h9
          have h8 : len ≤ (len + (m - len)) * P.bytesOf te := Nat.le_trans (Nat.le_add_right _ _) (Nat.le_mul_of_pos_right _ hfb.1)
          omega
        refine ⟨some x, len, cap, e1, hl, hm, hreach, ?_⟩
        rw [h1] at hx
        by_cases hz : len = 0
        · exact .inl hz
        right
        obtain ⟨b, off, rfl⟩ : ∃ b off, x = ⟨b, off, none⟩ := by
          obtain ⟨cs0, hc0, _⟩ := hx 0 (by omega)
          obtain ⟨_, hlen, hat⟩ := World.cells?_some hc0
          have := hat 0 h0
          rw [List.getElem?_eq_getElem (by omega)] at this
          rw [Nat.zero_mul] at this
          exact addr_plain (x := x) (by simpa [Addr.add] using this)
        have hb : b < w.heap.size := by
          obtain ⟨cs0, hc0, _⟩ := hx 0 (by omega)
          obtain ⟨_, hlen, hat⟩ := World.cells?_some hc0
          have := hat 0 h0
          rw [List.getElem?_eq_getElem (by omega)] at this
          exact lt_of_cell (off := off) (by simpa [Addr.add] using this)
        refine ⟨b, off, rfl, hb, fun i hi => ?_⟩
        obtain ⟨cs0, hc0, ht⟩ := hx i (by omega)
        obtain ⟨_, hlen, hat⟩ := World.cells?_some hc0
        refine ⟨cs0, hlen, fun j hj => by have := hat j hj; rw [Addr.add_lit, Addr.add_lit] at this; exact this, ih.1 te n cs0 _ h2 hfb.2 ht fun q hq => hW q ?_⟩
        simp only [DataW.weights, hu, List.mem_cons, List.mem_append]
        exact .inr (.inl (weights_all (i := i) (d := D i) (by simp [hi]) q hq))
    · cases hf
  | struct f ih =>
    refine ⟨fun t fuel cs x hf hfb h hW => ?_, fun fs o n cs hf => by simp [Sh.fit] at hf⟩
    unfold Sh.fit at hf
    unfold Sh.fitB at hfb
    split at hf
    · rename_i fs hu
      rw [hu] at hfb
      simp only [Bool.and_eq_true, decide_eq_true_eq] at hf
      obtain ⟨xs, n, _, hx2, hlen, hxs, hat⟩ := DataW.trod_struct hu h
      have := ih.2 fs.toList 0 n cs hf.2 hfb (by rw [hlen, hf.1]; omega) (fun i fld hi => by
        have hi' : fs[i]? = some fld := by simpa using hi
        have hil := (Array.getElem?_eq_some_iff.1 hi').1
        have hxi : xs[i]? = some (xs[i]'(by omega)) := List.getElem?_eq_getElem _
        refine ⟨xs[i]'(by omega), by rw [hat i fld hi']; exact hxi, fun q hq => hW q ?_⟩
        rw [hx2]
        simp only [DataW.weights, hu]
        exact DataW.weights_mem_each (j := i) (t := fld.type) (d := (xs[i]'(by omega)).1) (by rw [List.getElem?_map, hi]; rfl) (by rw [List.getElem?_map, hxi]; rfl) q hq)
      simpa [Sh.HoldsR] using this
    · cases hf
  | nil =>
    refine ⟨fun t fuel cs x hf => by simp [Sh.fit] at hf, fun fs o n cs _ _ hl _ => ?_⟩
    simp only [Sh.size] at hl
    exact List.drop_eq_nil_of_le (by omega)
  | cons f r ihf ihr =>
    refine ⟨fun t fuel cs x hf => by simp [Sh.fit] at hf, fun fs o n cs hf hfb hl hat => ?_⟩
    match fs, hf with
    | fld :: fs, hf =>
      simp only [Sh.fit, Bool.and_eq_true, decide_eq_true_eq] at hf
      simp only [Sh.fitB, Bool.and_eq_true] at hfb
      obtain ⟨e1, e2, e3, e4⟩ := hf
      obtain ⟨y, hy, hyw⟩ := hat 0 fld rfl
      rw [e1, e2] at hy
      refine ⟨ihf.1 _ _ _ _ e3 hfb.1 hy hyw, ?_⟩
      have := ihr.2 fs (o + f.size) n cs e4 hfb.2 (by simp only [Sh.size] at hl; omega) (fun i g hi => hat (i + 1) g (by simpa using hi))
      rwa [List.drop_drop]
/-- An argument that is a struct. -/
theorem argR_struct {r : Reach} {b0 : Nat} {t : TypeId} {v : Value} {d : DataW H} {p : List MemPlace} {sh : Sh} {fs : Array Field} {ts : List TypeId} {ds : List (DataW H)} {j : Nat} (hu : P.underlying t = some (.struct fs)) (hfit : sh.fit P (.inl t) = true) (hfb : sh.fitB P (.inl t) = true) (hv : Value.okWide P w r b0 t v)
    (h : DataW.Trod enc P w 0 (fun _ => true) held t v d p) (hsz : (DataW.weightsEach P ts ds).all (· ≤ reachBytes) = true) (ht : ts[j]? = some t) (hd : ds[j]? = some d) : ∃ cs : List Value, v = .agg cs.toArray ∧ cs.length = P.cellsOf t ∧ sh.HoldsR w w.heap.size cs := by
  obtain ⟨cs, rfl, hl⟩ := okWide_struct hu hv
  obtain ⟨fuel, hf⟩ := h
  exact ⟨cs.toList, by simp, by simpa using hl, (Sh.readsR sh).1 t fuel cs.toList _ hfit hfb (by simpa [Value.cells] using hf) fun n hn => by
    have h9 := List.all_eq_true.1 hsz n (DataW.weights_mem_each ht hd n hn)
    have h8 : n ≤ reachBytes := of_decide_eq_true h9
    exact h8⟩
end
/-- A list out of a slice: what each element's cells say, and what is known of it. -/
theorem rowsR_of {α : Type} {w : World} {B : Nat} {e : Sh} {v : Value} {p : Nat → Nat → α → Prop} {q : α → Prop} (h : (Sh.slice e).HoldsR w B [v])
    (lift : ∀ b o cs, b < B → cs.length = e.size → (∀ j u, cs[j]? = some u → w.cell? ⟨b, o + j, none⟩ = some u) → e.HoldsR w B cs → ∃ a : α, p b o a ∧ q a) :
    ∃ (A : Option Addr) (c : Nat) (l : List α), v = .slice A l.length c ∧ l.length ≤ c ∧ c ≤ maxLen ∧ l.length ≤ 140737488351232 ∧ Rows B A p e.size l ∧ ∀ a ∈ l, q a := by
  obtain ⟨A, len, c, e1, hl, hm, hrch, hr⟩ := h
  simp at e1
  subst e1
  by_cases h0 : len = 0
  · subst h0
    exact ⟨A, c, [], rfl, Nat.zero_le _, hm, by simp, .inl rfl, by simp⟩
  rcases hr with hr | ⟨b, off, rfl, hb, hx⟩
  · exact absurd hr h0
  have hall : ∀ i, i < len → ∃ a : α, p b (off + i * e.size) a ∧ q a := fun i hi => by
    obtain ⟨cs, hlen, hat, hh⟩ := hx i hi
    exact lift b _ cs hb hlen (fun j u hj => by rw [hat j (by rw [← hlen]; exact (List.getElem?_eq_some_iff.1 hj).1), hj]) hh
  obtain ⟨a0, _⟩ := hall 0 (by omega)
  have hch : ∀ i, ∃ a : α, i < len → p b (off + i * e.size) a ∧ q a := fun i => by
    by_cases hi : i < len
    · obtain ⟨a, ha⟩ := hall i hi; exact ⟨a, fun _ => ha⟩
    · exact ⟨a0, fun h => absurd h hi⟩
  let f := fun i => Classical.choose (hch i)
  have hf : ∀ i, i < len → p b (off + i * e.size) (f i) ∧ q (f i) := fun i hi => Classical.choose_spec (hch i) hi
  have hget : ∀ i x, ((List.range len).map f)[i]? = some x → i < len ∧ x = f i := fun i x hi => by
    rw [List.getElem?_map] at hi
    obtain ⟨j, hj, rfl⟩ := Option.map_eq_some_iff.1 hi
    obtain ⟨hjl, hj2⟩ := List.getElem?_eq_some_iff.1 hj
    simp at hjl hj2
    subst hj2
    exact ⟨hjl, rfl⟩
  refine ⟨_, c, (List.range len).map f, by simp, by simpa using hl, hm, by simpa using hrch, .inr ⟨b, off, rfl, hb, fun i x hi => ?_⟩, fun x hx => ?_⟩
  · obtain ⟨hil, rfl⟩ := hget i x hi
    exact (hf i hil).1
  · obtain ⟨i, hi⟩ := List.mem_iff_getElem?.1 hx
    obtain ⟨hil, rfl⟩ := hget i x hi
    exact (hf i hil).2
end Go.Proofs.Ytplekkpfpidebaa
