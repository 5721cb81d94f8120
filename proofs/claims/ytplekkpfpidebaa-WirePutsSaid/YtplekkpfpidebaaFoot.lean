/- What a call leaves of memory that writes into some blocks of its own object, elder than the call: all other blocks are as they were. No program is walked. -/
import Derived.Below
import Derived.WalkKit
import Derived.BigQuiet
import Derived.Maps.AppendAt
import Derived.Test.YtplekkpfpidebaaLies
namespace Go.Proofs.Ytplekkpfpidebaa
open Go.RowKit

/-- All blocks but those of F are as they were. -/
structure Foot (F : Nat → Prop) (w w' : World) : Prop where
  os : w'.os = w.os
  tape : w'.tape = w.tape
  output : w'.output = w.output
  size : w.heap.size ≤ w'.heap.size
  block : ∀ k, k < w.heap.size → ¬ F k → w'.heap[k]? = w.heap[k]?
theorem Foot.refl (F : Nat → Prop) (w : World) : Foot F w w := ⟨rfl, rfl, rfl, Nat.le_refl _, fun _ _ _ => rfl⟩
/-- Two steps: what the second may write is what the first might, or younger. -/
theorem Foot.trans {F F' : Nat → Prop} {a b c : World} (h : Foot F a b) (k : Foot F' b c) (hF : ∀ i, F' i → F i ∨ a.heap.size ≤ i) : Foot F a c :=
  ⟨k.os.trans h.os, k.tape.trans h.tape, k.output.trans h.output, Nat.le_trans h.size k.size, fun i hi hn =>
    (k.block i (Nat.lt_of_lt_of_le hi h.size) (fun hf => by rcases hF i hf with e | e; exact hn e; omega)).trans (h.block i hi hn)⟩
theorem Foot.mono {F F' : Nat → Prop} {w w' : World} (h : Foot F w w') (hF : ∀ i, F i → F' i) : Foot F' w w' := ⟨h.os, h.tape, h.output, h.size, fun i hi hn => h.block i hi fun hf => hn (hF i hf)⟩
theorem Foot.of_below {F : Nat → Prop} {w w' : World} (h : Below w.heap.size w w') : Foot F w w' := ⟨h.os, h.tape, h.output, h.size, fun i hi _ => h.block i hi⟩
/-- Below every block that may have been written all is as it was. -/
theorem Foot.below {F : Nat → Prop} {B : Nat} {w w' : World} (h : Foot F w w') (hB : B ≤ w.heap.size) (hF : ∀ i, F i → B ≤ i) : Below B w w' :=
  ⟨h.os, h.tape, h.output, h.size, fun i hi => h.block i (Nat.lt_of_lt_of_le hi hB) fun hf => by have := hF i hf; omega⟩
theorem Foot.cell {F : Nat → Prop} {w w' : World} (h : Foot F w w') {p : Addr} (hp : p.block < w.heap.size) (hn : ¬ F p.block) : w'.cell? p = w.cell? p := World.cell?_of_block (h.block p.block hp hn)
theorem Foot.drew {F : Nat → Prop} {a w : World} (h : Foot F a w) : Foot F a w.drew := ⟨h.os, h.tape, h.output, h.size, h.block⟩
theorem Foot.drewN {F : Nat → Prop} {a w : World} (h : Foot F a w) (n : Nat) : Foot F a (w.drewN n) := ⟨h.os, h.tape, h.output, h.size, h.block⟩
theorem Foot.alloc {F : Nat → Prop} {a w : World} (h : Foot F a w) (o : Obj) : Foot F a (w.alloc o) :=
  ⟨h.os, h.tape, h.output, by have := h.size; simp; omega, fun i hi hn => (Below.heap_alloc w o i (Nat.lt_of_lt_of_le hi h.size)).trans (h.block i hi hn)⟩
theorem Foot.setCell {F : Nat → Prop} {a w : World} (h : Foot F a w) {p : Addr} (hp : F p.block ∨ a.heap.size ≤ p.block) (u : Value) : Foot F a (w.setCell p u) := by
  have hB := (Below.refl 0 w).setCell (p := p) (Nat.zero_le _) u
  exact ⟨hB.os.trans h.os, hB.tape.trans h.tape, hB.output.trans h.output, Nat.le_trans h.size hB.size, fun i hi hn =>
    (Below.heap_setCell w p u i (fun e => by subst e; rcases hp with e | e; exact hn e; omega)).trans (h.block i hi hn)⟩
theorem Foot.grown {F : Nat → Prop} {a w w' : World} {row : Option Nat} (h : Foot F a w) (hg : w.grownBy w' row) (hr : ∀ k, row = some k → F k ∨ a.heap.size ≤ k) : Foot F a w' :=
  ⟨hg.os.trans h.os, hg.tape.trans h.tape, hg.output.trans h.output, Nat.le_trans h.size hg.size, fun i hi hn =>
    (hg.block i (Nat.lt_of_lt_of_le hi h.size) (fun e => by rcases hr i e.symm with e | e; exact hn e; omega)).trans (h.block i hi hn)⟩
/-- An object's blocks behind a call of its own: those it had, or younger ones; so another object's stay apart. -/
theorem Foot.apart {F F' G : Nat → Prop} {n : Nat} (h : ∀ i, F' i → F i ∨ n ≤ i) (hG : ∀ i, G i → i < n ∧ ¬ F i) : ∀ i, G i → ¬ F' i := fun i hg hf => by
  obtain ⟨h1, h2⟩ := hG i hg
  rcases h i hf with e | e
  · exact h2 e
  · omega
end Go.Proofs.Ytplekkpfpidebaa
