/- Slices whose elements are some cells each, whatever these say: a row of own cells, read element by element. No program is spoken of. -/
import Derived.Laws.AppendOwn
import Derived.Laws.OwnMore
import Derived.Test.YtplekkpfpidebaaLies
import Derived.Test.YtplekkpfpidebaaFoot
namespace Go.Proofs.Ytplekkpfpidebaa
open Go.RowKit

/-- From a place on, cells are these. -/
def CellsAt (w : World) (b o : Nat) (cs : List Value) : Prop := ∀ (r : Nat) v, cs[r]? = some v → w.cell? ⟨b, o + r, none⟩ = some v
theorem CellsAt.of {w w' : World} {b o : Nat} {cs : List Value} (h : CellsAt w b o cs) (e : w'.heap[b]? = w.heap[b]?) : CellsAt w' b o cs :=
  fun r v hr => (World.cell?_of_block (w := w) (w' := w') (a := ⟨b, o + r, none⟩) e).trans (h r v hr)
theorem CellsAt.keep {w w' : World} {B b o : Nat} {cs : List Value} (h : CellsAt w b o cs) (hb : b < B) (hk : Below B w w') : CellsAt w' b o cs := h.of (hk.block b hb)
section
variable {α : Type} {C : α → List Value} {k : Nat}
/-- A slice of elements, below block B. -/
def Els (C : α → List Value) (k : Nat) (w : World) (B : Nat) (A : Option Addr) (l : List α) : Prop := Rows B A (fun b o x => CellsAt w b o (C x)) k l
theorem Els.keep {w w' : World} {B B' : Nat} {A : Option Addr} {l : List α} (h : Els C k w B A l) (hk : Below B w w') (hB : B ≤ B') : Els C k w' B' A l := h.imp hB fun _ _ _ hb hd => hd.keep hb hk
/-- They stay, where their block does. -/
theorem Els.off {w w' : World} {B : Nat} {A : Option Addr} {l : List α} (h : Els C k w B A l) (hk : ∀ b off, A = some ⟨b, off, none⟩ → b < B → w'.heap[b]? = w.heap[b]?) : Els C k w' B A l := by
  rcases h with h | ⟨b, off, rfl, hb, hc⟩
  · exact .inl h
  · exact .inr ⟨b, off, rfl, hb, fun i x hx => (hc i x hx).of (hk b off rfl hb)⟩
theorem flat_len (hC : ∀ x, (C x).length = k) (l : List α) : (l.flatMap C).length = l.length * k := by
  induction l with
  | nil => simp
  | cons x l ih => rw [List.flatMap_cons, List.length_append, ih, hC, List.length_cons, Nat.succ_mul, Nat.add_comm]
theorem flat_get (hC : ∀ x, (C x).length = k) : ∀ {l : List α} {i r : Nat} {x : α}, l[i]? = some x → r < k → (l.flatMap C)[i * k + r]? = (C x)[r]?
  | [], _, _, _, h, _ => by simp at h
  | y :: l, 0, r, x, h, hr => by
    simp at h; subst h
    rw [List.flatMap_cons, Nat.zero_mul, Nat.zero_add, List.getElem?_append_left (by rw [hC]; exact hr)]
  | y :: l, i + 1, r, x, h, hr => by
    have ih := flat_get hC (l := l) (i := i) (r := r) (x := x) (by simpa using h) hr
    rw [List.flatMap_cons, show (i + 1) * k + r = (C y).length + (i * k + r) by rw [hC, Nat.succ_mul]; omega, List.getElem?_append_right (by omega), Nat.add_sub_cancel_left, ih]
/-- A block whose first cells are those of the elements. -/
theorem els_blk (hC : ∀ x, (C x).length = k) {w : World} {g : Nat} {t : TypeId} {cur : Array Value} {l : List α} (h : w.heap[g]? = some (.cells cur t (0, 0))) (hc : ∀ (j : Nat) v, (l.flatMap C)[j]? = some v → cur[j]? = some v) : Els C k w w.heap.size (some ⟨g, 0, none⟩) l :=
  .inr ⟨g, 0, rfl, blk_lt h, fun i x hx r v hr => by
    have hrk : r < k := by rw [← hC x]; exact (List.getElem?_eq_some_iff.1 hr).1
    have := hc (i * k + r) v (by rw [flat_get hC hx hrk, hr])
    rw [Nat.zero_add]
    exact cell_blk h this⟩
/-- Own cells, read as elements. -/
theorem els_own (hC : ∀ x, (C x).length = k) {w : World} {B n c : Nat} {t : TypeId} {A : Option Addr} {l : List α} (h : w.ownsRow B t k (.slice A n c) n (l.flatMap C)) (hn : l.length = n) :
    Els C k w w.heap.size A l ∧ ∀ b off, A = some ⟨b, off, none⟩ → B ≤ b ∧ b < w.heap.size := by
  rcases h.2 with ⟨e, h0⟩ | ⟨g, cap, cur, e, hB, hg, _, _, _, ht⟩
  · injection e with e1 _ _
    subst e1
    refine ⟨.inl (List.eq_nil_of_length_eq_zero (by omega)), fun b off e => by cases e⟩
  · injection e with e1 _ _
    subst e1
    refine ⟨els_blk hC hg fun j v hj => ?_, fun b off e => by cases e; exact ⟨hB, blk_lt hg⟩⟩
    rw [← ht, List.getElem?_take] at hj
    split at hj
    · simpa using hj
    · cases hj
theorem els_one (h1 : ∀ x, ∀ v ∈ C x, v.oneCell' = true) (l : List α) : ∀ v ∈ l.flatMap C, v.oneCell' = true := by
  intro v hv
  obtain ⟨f, _, hv⟩ := List.mem_flatMap.1 hv
  exact h1 f v hv
/-- What came in as a slice's cells. -/
theorem els_cells (hC : ∀ x, (C x).length = k) (hk : 0 < k) {w : World} {b off : Nat} {l : List α} (h : ∀ (i : Nat) x, l[i]? = some x → CellsAt w b (off + i * k) (C x)) (j : Nat) (v : Value) (hj : (l.flatMap C)[j]? = some v) : w.cell? ((⟨b, off, none⟩ : Addr).add j) = some v := by
  have hjl := (List.getElem?_eq_some_iff.1 hj).1
  rw [flat_len hC] at hjl
  have hi : j / k < l.length := Nat.div_lt_of_lt_mul (by rw [Nat.mul_comm]; exact hjl)
  obtain ⟨x, hx⟩ := get_lt hi
  have hjm : j / k * k + j % k = j := by rw [Nat.mul_comm]; exact Nat.div_add_mod j k
  have e := flat_get hC hx (Nat.mod_lt j hk)
  rw [hjm, hj] at e
  have := h _ x hx (j % k) v e.symm
  rw [Addr.add_lit]
  rwa [show off + j / k * k + j % k = off + j by omega] at this
end
/-- An own row stays, where its block does. -/
theorem own_stays {W W' : World} {base : Nat} {e : TypeId} {size : Nat} {v : Value} {n : Nat} {xs : List Value} (h : W.ownsRow base e size v n xs) (hb : ∀ i, v.ownBlock = some i → W'.heap[i]? = W.heap[i]?) : W'.ownsRow base e size v n xs := by
  refine ⟨h.1, ?_⟩
  rcases h.2 with h1 | ⟨g, cap, cur, rfl, h2, h3, h4⟩
  · exact .inl h1
  · exact .inr ⟨g, cap, cur, rfl, h2, (hb g rfl).trans h3, h4⟩
theorem own_keep {W W' : World} {base : Nat} {e : TypeId} {size : Nat} {v : Value} {n : Nat} {xs : List Value} (h : W.ownsRow base e size v n xs) (hb : Below W.heap.size W W') : W'.ownsRow base e size v n xs :=
  own_stays h fun i hi => hb.block i (h.lt i hi).2
end Go.Proofs.Ytplekkpfpidebaa
