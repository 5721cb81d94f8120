/- The program's book and the document's, side by side. -/
import Derived.Test.YtbomdannlcclkaaGaSame
import Derived.Test.YtbomdannlcclkaaGaArgs
set_option linter.unusedVariables false
namespace Go.Proofs.Ytbomdannlcclkaa
open Go.RowKit
/-- Both books, made since world w0: the program's holds L, the document's M; blocks S are of neither. -/
def GaTwo (w0 w : World) (p r : Nat) (L M : List Rc) (S : Nat → Prop) : Prop :=
  ∃ F D, GaObj 68 w p F L ∧ GaObj 36 w r D M ∧ Below w0.heap.size w0 w ∧ (∀ i, F i → w0.heap.size ≤ i ∧ ¬ D i) ∧ (∀ i, D i → w0.heap.size ≤ i) ∧ ∀ i, S i → i < w.heap.size ∧ ¬ F i ∧ ¬ D i
section
variable {w0 w w' : World} {p r : Nat} {L M : List Rc} {S : Nat → Prop}
theorem GaTwo.below (h : GaTwo w0 w p r L M S) : Below w0.heap.size w0 w := by obtain ⟨F, D, _, _, h3, _⟩ := h; exact h3
theorem GaTwo.keep (h : GaTwo w0 w p r L M S) (hk : Below w.heap.size w w') : GaTwo w0 w' p r L M S := by
  obtain ⟨F, D, h1, h2, h3, h4, h5, h6⟩ := h
  exact ⟨F, D, h1.keep hk, h2.keep hk, below_step h3 hk, h4, h5, fun i hi => ⟨Nat.lt_of_lt_of_le (h6 i hi).1 hk.size, (h6 i hi).2⟩⟩
theorem GaTwo.less {S' : Nat → Prop} (h : GaTwo w0 w p r L M S) (hs : ∀ i, S' i → S i) : GaTwo w0 w p r L M S' := by
  obtain ⟨F, D, h1, h2, h3, h4, h5, h6⟩ := h
  exact ⟨F, D, h1, h2, h3, h4, h5, fun i hi => h6 i (hs i hi)⟩
theorem GaTwo.more (h : GaTwo w0 w p r L M S) (hk : Below w.heap.size w w') : GaTwo w0 w' p r L M (fun i => S i ∨ (w.heap.size ≤ i ∧ i < w'.heap.size)) := by
  obtain ⟨F, D, h1, h2, h3, h4, h5, h6⟩ := h
  refine ⟨F, D, h1.keep hk, h2.keep hk, below_step h3 hk, h4, h5, fun i hi => ?_⟩
  rcases hi with hi | hi
  · exact ⟨Nat.lt_of_lt_of_le (h6 i hi).1 hk.size, (h6 i hi).2⟩
  · exact ⟨hi.2, fun hf => by have := h1.lt i hf; omega, fun hf => by have := h2.lt i hf; omega⟩
theorem GaTwo.box (h : GaTwo w0 w p r L M S) (x : Rc) :
    GaTwo w0 ((w.alloc (rcO GL.zr)).setRow w.heap.size (rcA x)) p r L M (fun i => S i ∨ i = w.heap.size) ∧ ((w.alloc (rcO GL.zr)).setRow w.heap.size (rcA x)).heap[w.heap.size]? = some (rcO x) ∧ Below w.heap.size w ((w.alloc (rcO GL.zr)).setRow w.heap.size (rcA x)) := by
  have hB : Below w.heap.size w ((w.alloc (rcO GL.zr)).setRow w.heap.size (rcA x)) := below_row ((Below.refl _ _).alloc (Nat.le_refl _) _) (Nat.le_refl _) _
  have hx : ((w.alloc (rcO GL.zr)).setRow w.heap.size (rcA x)).heap[w.heap.size]? = some (rcO x) := setRow_rc (old := GL.zr) (rc_new w GL.zr)
  refine ⟨(h.more hB).less fun i hi => ?_, hx, hB⟩
  rcases hi with hi | rfl
  · exact .inl hi
  · exact .inr ⟨Nat.le_refl _, blk_lt hx⟩
theorem GaTwo.made (h : GaMade 68 w0 w p L S) : GaTwo w0 (w.alloc (.cells #[.slice none 0 0] 36)) p w.heap.size L [] (fun _ => False) := by
  obtain ⟨F, h1, h2, h3, h4⟩ := h
  have hB : Below w.heap.size w (w.alloc (.cells #[.slice none 0 0] 36)) := (Below.refl _ _).alloc (Nat.le_refl _) _
  exact ⟨F, _, h1.keep hB, GaObj.new _ w, below_step h2 hB, fun i hi => ⟨h3 i hi, fun e => by have := h1.lt i hi; omega⟩, fun i hi => by have := h2.size; omega, fun i hi => hi.elim⟩
theorem do_t (h : GaTwo w0 w p r L M S) (a : Ga) :
    Calls Try.prog 14 #[.pointer (some ⟨p, 0, none⟩), gaV a] w fun e w' => e = .returned (.tuple #[.int .i64 (GL.actN L a), rcV (GL.actR L a), .int .i64 (GL.actE L a)]) ∧ GaTwo w0 w' p r (GL.actL L a) M S ∧ ∀ i, S i → w'.heap[i]? = w.heap[i]? := by
  obtain ⟨F, D, h1, h2, h3, h4, h5, h6⟩ := h
  refine (do_any _ p F L a w h1).mono fun e w' ⟨e1, F', k1, k2, k3⟩ => ⟨e1, ⟨F', D, k1, h2.of fun i hi => k2.block i (h2.lt i hi) (fun hf => (h4 i hf).2 hi), h3.trans (k2.below h3.size fun i hi => (h4 i hi).1), fun i hi => ?_, h5, fun i hi => ?_⟩, fun i hi => k2.block i (h6 i hi).1 (h6 i hi).2.1⟩
  · rcases k3 i hi with e | e
    · exact h4 i e
    · exact ⟨by have := h3.size; omega, fun hd => by have := h2.lt i hd; omega⟩
  · refine ⟨Nat.lt_of_lt_of_le (h6 i hi).1 k2.size, fun hf => ?_, (h6 i hi).2.2⟩
    rcases k3 i hf with e | e
    · exact (h6 i hi).2.1 e
    · have := (h6 i hi).1; omega
theorem rdo_t (h : GaTwo w0 w p r L M S) (hI : GL.Inv M) (a : Ga) :
    Calls Try.prog 15 #[.pointer (some ⟨r, 0, none⟩), gaV a] w fun e w' => e = .returned (.tuple #[.int .i64 (GL.actN M a), rcV (GL.actR M a), .int .i64 (GL.actE M a)]) ∧ GaTwo w0 w' p r L (GL.actL M a) S ∧ ∀ i, S i → w'.heap[i]? = w.heap[i]? := by
  obtain ⟨F, D, h1, h2, h3, h4, h5, h6⟩ := h
  refine (rdo_any _ r D M a w h2 hI).mono fun e w' ⟨e1, D', k1, k2, k3⟩ => ⟨e1, ⟨F, D', h1.of fun i hi => k2.block i (h1.lt i hi) (h4 i hi).2, k1, h3.trans (k2.below h3.size h5), fun i hi => ⟨(h4 i hi).1, fun hd => ?_⟩, fun i hi => ?_, fun i hi => ?_⟩, fun i hi => k2.block i (h6 i hi).1 (h6 i hi).2.2⟩
  · rcases k3 i hd with e | e
    · exact (h4 i hi).2 e
    · have := h1.lt i hi; omega
  · rcases k3 i hi with e | e
    · exact h5 i e
    · have := h3.size; omega
  · refine ⟨Nat.lt_of_lt_of_le (h6 i hi).1 k2.size, (h6 i hi).2.1, fun hf => ?_⟩
    rcases k3 i hf with e | e
    · exact (h6 i hi).2.2 e
    · have := (h6 i hi).1; omega
theorem GaTwo.first (h : GaTwo w0 w p r L M S) : GaMade 68 w0 w p L S := by
  obtain ⟨F, D, h1, h2, h3, h4, h5, h6⟩ := h
  exact ⟨F, h1, h3, fun i hi => (h4 i hi).1, fun i hi => ⟨(h6 i hi).1, (h6 i hi).2.1⟩⟩
theorem rget_t (h : GaTwo w0 w p r L M S) (id : Int) :
    Calls Try.prog 21 #[.pointer (some ⟨r, 0, none⟩), .int .i64 id] w fun e w' => e = .returned (.tuple #[rcV (GL.getR M id), .int .i64 (GL.getE M id)]) ∧ Below w.heap.size w w' := by
  obtain ⟨F, D, h1, h2, _⟩ := h
  exact rget_any _ r D M id w h2
theorem rin_t (h : GaTwo w0 w p r L M S) (s : Int) :
    Calls Try.prog 19 #[.pointer (some ⟨r, 0, none⟩), .int .i64 s] w fun e w' => ∃ A c, e = .returned (.slice A (GL.inL M s).length c) ∧ Els rcC 16 w' w'.heap.size A (GL.inL M s) ∧ Below w.heap.size w w' := by
  obtain ⟨F, D, h1, h2, _⟩ := h
  refine (rin_any _ r D M s w h2).mono fun e w' ⟨A, c, e1, ho, hb⟩ => ?_
  obtain ⟨k1, k2, k3, k4⟩ := rcs_own ho
  exact ⟨A, c, e1, k3, hb⟩
/-- The document's records, as they lie. -/
theorem GaTwo.recs (h : GaTwo w0 w p r L M S) : ∃ A c, w.cell? ⟨r, 0, none⟩ = some (.slice A M.length c) ∧ Els rcC 16 w w.heap.size A M ∧ r < w.heap.size := by
  obtain ⟨F, D, h1, h2, _⟩ := h
  have hl := h2.lt
  obtain ⟨V, hV, hD⟩ := h2
  obtain ⟨A, g, c, hVs, _, _, _, _, hE, _⟩ := own_slc hV.own
  exact ⟨A, c, by rw [← hVs]; exact hV.head, hE, hl r ((hD r).2 (.inl rfl))⟩
end
end Go.Proofs.Ytbomdannlcclkaa
