/- A block of holds, told by their places in a list; a hold loaded, a hold stored. -/
/- swapRangeCmpFunc and rotateCmpFunc of package slices, at holds in one block. -/
/- symMergeCmpFunc of package slices, at holds in one block: two sorted rows, each of the first ahead of each of the second where their keys are alike, become one. -/
import Derived.Laws.CopyRow
import Derived.Test.YtppapmacngdefaaDoorPackO
import Derived.Test.YtppapmacngdefaaDoorKitP
import Derived.Test.YtppapmacngdefaaDoorProBase
import Derived.RegionTactic
import Derived.BigRegion
import Derived.BigQuiet
import Derived.Deep.QuietTactic
set_option linter.unusedVariables false
namespace Go.Proofs.YtppapmacngdefaaDoor
open Go.RowKit
open PK
section
variable {P : Program} {ops : Array Oper} {Q : Exit → Act → World → Prop} {md : Region.Mode} {S : World → Prop} {c : Nat}
end
/-- A block that holds holds, each told by its place in a list: those of E. -/
def HBlk (E : Nat → Ho) (w : World) (g : Nat) (L : List Nat) : Prop :=
  ∃ cur : Array Value, w.heap[g]? = some (.cells cur 55 (0, 0)) ∧ L.length * 5 ≤ cur.size ∧ cur.toList.take (L.length * 5) = L.flatMap fun i => hoC (E i)
section
variable {E : Nat → Ho} {w w' : World} {g : Nat} {L : List Nat}
theorem HBlk.lt (h : HBlk E w g L) : g < w.heap.size := by obtain ⟨cur, h1, _⟩ := h; exact blk_lt h1
theorem HBlk.of (h : HBlk E w g L) (e : w'.heap[g]? = w.heap[g]?) : HBlk E w' g L := by obtain ⟨cur, h1, h2⟩ := h; exact ⟨cur, e.trans h1, h2⟩
theorem HBlk.keep (h : HBlk E w g L) {B : Nat} (hg : g < B) (hk : Below B w w') : HBlk E w' g L := h.of (hk.block g hg)
theorem HBlk.at_ (h : HBlk E w g L) {i x : Nat} (hi : L[i]? = some x) : HoAt w g (i * 5) (E x) := by
  obtain ⟨cur, h1, h2, h3⟩ := h
  have hl := lt_of_get hi
  intro r v hr
  have hr10 : r < 5 := by have := (List.getElem?_eq_some_iff.1 hr).1; rwa [hoC_len] at this
  refine cell_blk h1 ?_
  have e : (cur.toList.take (L.length * 5))[i * 5 + r]? = (L.flatMap fun i => hoC (E i))[i * 5 + r]? := by rw [h3]
  rw [List.getElem?_take, if_pos (by omega), flat_get (C := fun i => hoC (E i)) (k := 5) (fun i => hoC_len (E i)) hi hr10, hr] at e
  simpa using e
end
/-- The closure of the sort: what it answers of two holds, in whatever world the sort passes through. -/
def CmpH (E : Nat → Ho) (g n : Nat) (v0 : Value) (cv : Nat → Nat → Int) (w0 : World) : Prop :=
  ∀ W, Foot (· = g) w0 W → ∀ x y, x < n → y < n → Calls Tryd.prog 85 #[.agg (hoA (E x)), .agg (hoA (E y))] W fun e w' => e = .returned (.int .i64 (cv x y)) ∧ Below W.heap.size W w'
theorem CmpH.at_ {E : Nat → Ho} {g n : Nat} {v0 : Value} {cv : Nat → Nat → Int} {w0 w W : World} (h : CmpH E g n v0 cv w0) (h0 : Foot (· = g) w0 w) (hW : Foot (· = g) w W) {x y : Nat} (hx : x < n) (hy : y < n) :
    Calls Tryd.prog 85 #[.agg (hoA (E x)), .agg (hoA (E y))] W fun e w' => e = .returned (.int .i64 (cv x y)) ∧ Below W.heap.size W w' := h _ (h0.trans hW fun _ h => .inl h) x y hx hy
end Go.Proofs.YtppapmacngdefaaDoor

set_option linter.unusedVariables false
namespace Go.Proofs.YtppapmacngdefaaDoor
open Go.RowKit
open PK
end Go.Proofs.YtppapmacngdefaaDoor

set_option linter.unusedVariables false
namespace Go.Proofs.YtppapmacngdefaaDoor
open Go.RowKit
namespace HK
open PK
def ltC (cv : Nat → Nat → Int) (x y : Nat) : Bool := decide (cv x y < 0)
theorem get_pre {P X S : List Nat} {k i : Nat} (h : i = P.length + k) (hk : k < X.length) : (P ++ X ++ S)[i]? = X[k]? := by
  subst h
  rw [List.append_assoc, List.getElem?_append_right (by omega), Nat.add_sub_cancel_left, List.getElem?_append_left hk]
theorem mem_of_get {L : List Nat} {i x : Nat} (h : L[i]? = some x) : x ∈ L := List.mem_of_getElem? h
end HK
open PK HK
end Go.Proofs.YtppapmacngdefaaDoor
