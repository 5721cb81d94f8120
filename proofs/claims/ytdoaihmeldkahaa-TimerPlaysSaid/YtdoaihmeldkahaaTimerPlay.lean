/- A timer and the document's side by side. -/
import Derived.Test.YtdoaihmeldkahaaTimerIn
import Derived.Test.YtdoaihmeldkahaaTimerRef4
set_option linter.unusedVariables false
namespace Go.Proofs.Ytdoaihmeldkahaa
open Go.RowKit

structure PtT (w0 w : World) (p : Nat) (F : Nat → Prop) (L : List En) (q : Nat) (G : Nat → Prop) (M : List En) : Prop where
  t : TIn w0 w p F L
  m : RObj w q G M
  yg : ∀ j, G j → w0.heap.size ≤ j
  ap : ∀ i, F i → ¬ G i
section
variable {w0 w w' : World} {p q : Nat} {F F' G G' : Nat → Prop} {L L' M M' : List En}
theorem PtT.left (h : PtT w0 w p F L q G M) (h' : TObj w' p F' L') (hf : Foot F w w') (hy : ∀ j, F' j → F j ∨ w.heap.size ≤ j) : PtT w0 w' p F' L' q G M :=
  ⟨h.t.foot h' hf hy, h.m.foot hf fun i hi hj => h.ap i hj hi, h.yg, fun i hi hj => by
    rcases hy i hi with e | e
    · exact h.ap i e hj
    · have := h.m.lt.2.2 i hj; omega⟩
theorem PtT.right (h : PtT w0 w p F L q G M) (h' : RObj w' q G' M') (hf : Foot (· = q) w w') (hy : ∀ j, G' j → G j ∨ w.heap.size ≤ j) : PtT w0 w' p F L q G' M' :=
  have hq : G q := h.m.lt.2.1
  ⟨⟨h.t.at_.foot hf fun i hi hj => h.ap i hi (by rw [hj]; exact hq), h.t.yg, h.t.bel.trans (hf.below h.t.bel.size fun i hi => by rw [hi]; exact h.yg q hq)⟩, h', fun j hj => by
    rcases hy j hj with e | e
    · exact h.yg j e
    · have := h.t.bel.size; omega, fun i hi hj => by
    rcases hy i hj with e | e
    · exact h.ap i hi e
    · have := h.t.at_.lt.2.2 i hi; omega⟩
theorem PtT.keep (h : PtT w0 w p F L q G M) (hb : Below w.heap.size w w') : PtT w0 w' p F L q G M := ⟨h.t.keep hb, h.m.keep hb, h.yg, h.ap⟩
/-- The document's, made as an empty struct. -/
theorem PtT.made (h : TIn w0 w p F L) : PtT w0 (w.alloc (.cells #[.slice none 0 0] 29)) p F L w.heap.size (rB w.heap.size none []) [] := by
  have hb : Below w.heap.size w (w.alloc (.cells #[.slice none 0 0] 29)) := (Below.refl _ _).alloc (Nat.le_refl _) _
  refine ⟨h.keep hb, ⟨none, 0, ⟨heap_alloc_new w _, .inl rfl, Nat.le_refl _, .inl rfl, (fun b off e => by cases e), by simp⟩, rfl⟩, fun j hj => ?_, fun i hi hj => ?_⟩
  · rcases hj with e | ⟨e, _⟩
    · rw [e]; exact h.bel.size
    · exact absurd rfl e
  · rcases hj with e | ⟨e, _⟩
    · have := h.at_.lt.2.2 i hi; omega
    · exact absurd rfl e
end
/-- Due, its slice's form. -/
theorem due_g (p : Nat) (F : Nat → Prop) (L : List En) (now : Int) (w : World) (h : TObj w p F L) (D : List Int) (hD : TM.dueL now L = D) (R : List En) (hR : TM.restL now L = R) :
    Calls Try.prog 14 #[.pointer (some ⟨p, 0, none⟩), .int .i64 now] w fun e w' => ∃ A c F', e = .returned (.slice A D.length c) ∧ TObj w' p F' R ∧ Foot F w w' ∧ (∀ j, F' j → F j ∨ w.heap.size ≤ j) ∧ Nums w' w'.heap.size A D ∧ ∀ b off, A = some ⟨b, off, none⟩ → w.heap.size ≤ b :=
  (due_t p F L now w h).mono fun e w' hq => by
    obtain ⟨v, F', rfl, hown, h1, h2, h3, _⟩ := hq
    rw [hD] at hown
    rw [hR] at h1
    obtain ⟨A, c, rfl, hu, hb⟩ := nums_own hown rfl
    exact ⟨A, c, F', rfl, h1, h2, h3, hu, fun b off e => (hb b off e).1⟩
theorem due_rg (q : Nat) (G : Nat → Prop) (L : List En) (now : Int) (w : World) (h : RObj w q G L) (D : List Int) (hD : TM.dueL now L = D) (R : List En) (hR : TM.restL now L = R) :
    Calls Try.prog 15 #[.pointer (some ⟨q, 0, none⟩), .int .i64 now] w fun e w' => ∃ A c G', e = .returned (.slice A D.length c) ∧ RObj w' q G' R ∧ Foot (· = q) w w' ∧ (∀ j, G' j → G j) ∧ Nums w' w'.heap.size A D :=
  (due_r q G L now w h).mono fun e w' hq => by
    obtain ⟨v, G', rfl, hown, h1, h2, h3⟩ := hq
    rw [hD] at hown
    rw [hR] at h1
    obtain ⟨A, c, rfl, hu, hb⟩ := nums_own hown rfl
    exact ⟨A, c, G', rfl, h1, h2, h3, hu⟩
end Go.Proofs.Ytdoaihmeldkahaa
