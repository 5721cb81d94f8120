/- swapRangeCmpFunc and rotateCmpFunc of package slices, at numbers in one block. -/
/- symMergeCmpFunc of package slices, at numbers in one block: two sorted rows, each of the first ahead of each of the second where their keys are alike, become one. -/
/- symMergeCmpFunc whole: rows of two and more numbers each are cut at the middle, rotated, merged apart. -/
/- insertionSortCmpFunc of package slices, at numbers in one block that rise: the piece is sorted by its key, like keys in the order in which they stood. -/
/- stableCmpFunc and SortStableFunc of package slices, at the first n numbers in one block: sorted by the key. -/
import Derived.RegionTactic
import Derived.BigRegion
import Derived.BigQuiet
import Derived.Test.YtikgmgimdeibgaaDoorPackO
import Derived.Test.YtikgmgimdeibgaaDoorKitP
import Derived.Test.YtikgmgimdeibgaaDoorProg
import Derived.Deep.QuietTactic
namespace Go.Proofs.YtikgmgimdeibgaaDoor
open Go.RowKit
namespace PK
/-- A block of numbers. -/
def Blk (w : World) (g : Nat) (L : List Nat) : Prop := w.heap[g]? = some (.cells (nums L) 3 (0, 0))
theorem Blk.cell {w : World} {g i x : Nat} {L : List Nat} (h : Blk w g L) (hi : L[i]? = some x) : w.cell? ⟨g, i, none⟩ = some (.int .i64 (x : Int)) := cell_blk h (nums_get hi)
theorem Blk.frozen {w : World} {g i : Nat} {L : List Nat} (h : Blk w g L) : w.frozen? ⟨g, i, none⟩ = false := frozen_blk h
theorem Blk.put {w : World} {g i : Nat} {L : List Nat} (h : Blk w g L) (x : Nat) : Blk (w.setCell ⟨g, i, none⟩ (.int .i64 (x : Int))) g (L.set i x) := by
  have := blk_put (i := i) (.int .i64 (x : Int)) h
  rw [nums_set] at this
  exact this
theorem Blk.lt {w : World} {g : Nat} {L : List Nat} (h : Blk w g L) : g < w.heap.size := blk_lt h
theorem Blk.cell2 {w : World} {g i j x : Nat} {L : List Nat} (h : Blk w g L) (hi : L[j]? = some x) (y : Nat) : ∃ u, (w.setCell ⟨g, i, none⟩ (.int .i64 (y : Int))).cell? ⟨g, j, none⟩ = some u := by
  have hj := (List.getElem?_eq_some_iff.1 hi).1
  obtain ⟨z, hz⟩ := get_of_lt (L := L.set i y) (k := j) (by rw [List.length_set]; exact hj)
  exact ⟨_, (h.put y).cell hz⟩
end PK
open PK
end Go.Proofs.YtikgmgimdeibgaaDoor

namespace Go.Proofs.YtikgmgimdeibgaaDoor
open Go.RowKit
namespace PK
theorem Blk.drewN {w : World} {g : Nat} {L : List Nat} (h : Blk w g L) (n : Nat) : Blk (w.drewN n) g L := h
def ltC (cv : Nat → Nat → Int) (x y : Nat) : Bool := decide (cv x y < 0)
theorem get_pre {P X S : List Nat} {k i : Nat} (h : i = P.length + k) (hk : k < X.length) : (P ++ X ++ S)[i]? = X[k]? := by
  subst h
  rw [List.append_assoc, List.getElem?_append_right (by omega), Nat.add_sub_cancel_left, List.getElem?_append_left hk]
theorem mem_of_get {L : List Nat} {i x : Nat} (h : L[i]? = some x) : x ∈ L := List.mem_of_getElem? h
end PK
open PK
end Go.Proofs.YtikgmgimdeibgaaDoor

namespace Go.Proofs.YtikgmgimdeibgaaDoor
open Go.RowKit
namespace PK
theorem sym_join {key : Nat → Nat} {X Y Z1 Z2 : List Nat} {u v : Nat} (h1 : Z1.Perm (X.take u ++ Y.take v)) (h2 : Z2.Perm (X.drop u ++ Y.drop v)) (a1 : Asc key Z1) (a2 : Asc key Z2)
    (hc : ∀ z ∈ X.take u ++ Y.take v, ∀ z' ∈ X.drop u ++ Y.drop v, key z ≤ key z') : (Z1 ++ Z2).Perm (X ++ Y) ∧ Asc key (Z1 ++ Z2) := by
  refine ⟨(h1.append h2).trans ?_, List.pairwise_append.2 ⟨a1, a2, fun z hz z' hz' => hc z (h1.mem_iff.1 hz) z' (h2.mem_iff.1 hz')⟩⟩
  have e : X ++ Y = (X.take u ++ X.drop u) ++ (Y.take v ++ Y.drop v) := by rw [List.take_append_drop, List.take_append_drop]
  rw [e, List.append_assoc, List.append_assoc]
  refine List.Perm.append_left _ ?_
  rw [← List.append_assoc, ← List.append_assoc]
  exact (List.perm_append_comm).append_right _
end PK
open PK
end Go.Proofs.YtikgmgimdeibgaaDoor

namespace Go.Proofs.YtikgmgimdeibgaaDoor
open Go.RowKit
namespace PK
theorem asc_cons_mid {key : Nat → Nat} {A B : List Nat} {z : Nat} (h : Asc key (A ++ B)) (h1 : A = [] ∨ ∀ x, A.getLast? = some x → key x ≤ key z) (h2 : ∀ x ∈ B, key z ≤ key x) : Asc key (A ++ z :: B) := by
  obtain ⟨a1, a2, a3⟩ := List.pairwise_append.1 h
  refine List.pairwise_append.2 ⟨a1, List.pairwise_cons.2 ⟨h2, a2⟩, fun a ha b hb => ?_⟩
  have hz : key a ≤ key z := by
    rcases h1 with e | h1
    · subst e; cases ha
    · obtain ⟨i, hi⟩ := List.mem_iff_getElem?.1 ha
      have hl := lt_of_get hi
      obtain ⟨y, hy⟩ := get_of_lt (L := A) (k := A.length - 1) (by omega)
      exact Nat.le_trans (Asc.get a1 (by omega) hi hy) (h1 y (by rw [List.getLast?_eq_getElem?]; exact hy))
  rcases List.mem_cons.1 hb with rfl | hb
  · exact hz
  · exact a3 a ha b hb
/-- Of a list the one ahead is held against the one behind by their keys. -/
abbrev Rise (key : Nat → Nat) (lt : Nat → Nat → Bool) (Q : List Nat) : Prop := Q.Pairwise (fun x y => lt y x = decide (key y < key x))
end PK
open PK
end Go.Proofs.YtikgmgimdeibgaaDoor

namespace Go.Proofs.YtikgmgimdeibgaaDoor
open Go.RowKit
open PK
end Go.Proofs.YtikgmgimdeibgaaDoor
