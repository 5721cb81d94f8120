/- Two timers side by side, made since a world. -/
import Derived.Test.YtdoaihmeldkahaaTimerIn
set_option linter.unusedVariables false
namespace Go.Proofs.Ytdoaihmeldkahaa
open Go.RowKit

structure TwoT (w0 w : World) (p : Nat) (F : Nat → Prop) (L : List En) (q : Nat) (G : Nat → Prop) (M : List En) : Prop where
  s : TIn w0 w p F L
  t : TIn w0 w q G M
  ap : ∀ i, F i → ¬ G i
section
variable {w0 w w' : World} {p q : Nat} {F F' G G' : Nat → Prop} {L L' M M' : List En}
theorem TwoT.left (h : TwoT w0 w p F L q G M) (h' : TObj w' p F' L') (hf : Foot F w w') (hy : ∀ j, F' j → F j ∨ w.heap.size ≤ j) : TwoT w0 w' p F' L' q G M :=
  have h1 := h.s.foot h' hf hy
  ⟨h1, ⟨h.t.at_.foot hf fun i hi hj => h.ap i hj hi, h.t.yg, h1.bel⟩, fun i hi hj => by
    rcases hy i hi with e | e
    · exact h.ap i e hj
    · have := h.t.at_.lt.2.2 i hj; omega⟩
theorem TwoT.right (h : TwoT w0 w p F L q G M) (h' : TObj w' q G' M') (hf : Foot G w w') (hy : ∀ j, G' j → G j ∨ w.heap.size ≤ j) : TwoT w0 w' p F L q G' M' :=
  have h1 := h.t.foot h' hf hy
  ⟨⟨h.s.at_.foot hf fun i hi hj => h.ap i hi hj, h.s.yg, h1.bel⟩, h1, fun i hi hj => by
    rcases hy i hj with e | e
    · exact h.ap i hi e
    · have := h.s.at_.lt.2.2 i hi; omega⟩
theorem TwoT.keep (h : TwoT w0 w p F L q G M) (hb : Below w.heap.size w w') : TwoT w0 w' p F L q G M := ⟨h.s.keep hb, h.t.keep hb, h.ap⟩
theorem TwoT.foot {E : Nat → Prop} (h : TwoT w0 w p F L q G M) (hk : Foot E w w') (h1 : ∀ i, F i → ¬ E i) (h2 : ∀ i, G i → ¬ E i) (h3 : ∀ i, E i → w0.heap.size ≤ i) : TwoT w0 w' p F L q G M :=
  have hb : Below w0.heap.size w0 w' := h.s.bel.trans (hk.below h.s.bel.size fun i hi => h3 i hi)
  ⟨⟨h.s.at_.foot hk h1, h.s.yg, hb⟩, ⟨h.t.at_.foot hk h2, h.t.yg, hb⟩, h.ap⟩
theorem TwoT.made (h : TIn w0 w p F L) (hb : Below w.heap.size w w') (h' : TObj w' q G M) (hy : ∀ j, G j → w.heap.size ≤ j) : TwoT w0 w' p F L q G M :=
  ⟨h.keep hb, TIn.made h.bel h' hb hy, fun i hi hj => by have := hy i hj; have := h.at_.lt.2.2 i hi; omega⟩
end
end Go.Proofs.Ytdoaihmeldkahaa
