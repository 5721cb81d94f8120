/- Blocks and cells: small facts that every layer's walks use. No program is spoken of. -/
import Derived.WalkKit
import Derived.Lib.Hide
import Derived.Below
import Derived.Deep.Draws
import Derived.OwnWalk
namespace Go.Proofs.Ytplekkpfpidebaa
open Go.RowKit

theorem lt_of_cell {w : World} {b off : Nat} {v : Value} (h : w.cell? ⟨b, off, none⟩ = some v) : b < w.heap.size := by
  simp only [World.cell?] at h
  cases hh : w.heap[b]? with
  | none => rw [hh] at h; simp at h
  | some o => exact (Array.getElem?_eq_some_iff.1 hh).1
theorem cell_blk {w : World} {g i : Nat} {t : TypeId} {cs : Array Value} {u : Value} (h : w.heap[g]? = some (.cells cs t (0, 0))) (hi : cs[i]? = some u) : w.cell? ⟨g, i, none⟩ = some u := by
  rw [cell_of_row w g i cs t (0, 0) h, hi]
theorem frozen_blk {w : World} {g i : Nat} {t : TypeId} {cs : Array Value} (h : w.heap[g]? = some (.cells cs t (0, 0))) : w.frozen? ⟨g, i, none⟩ = false := by
  simp [World.frozen?, h]
theorem blk_lt {w : World} {g : Nat} {o : Obj} (h : w.heap[g]? = some o) : g < w.heap.size := (Array.getElem?_eq_some_iff.1 h).1
theorem blk_put {w : World} {g i : Nat} {t : TypeId} {cs : Array Value} (u : Value) (h : w.heap[g]? = some (.cells cs t (0, 0))) : (w.setCell ⟨g, i, none⟩ u).heap[g]? = some (.cells (cs.setIfInBounds i u) t (0, 0)) := by
  simp [World.setCell, Array.getElem?_modify, h]
theorem below_step {w a b : World} (h : Below w.heap.size w a) (k : Below a.heap.size a b) : Below w.heap.size w b := h.trans (k.mono h.size)
theorem below_drewN {B : Nat} {a w : World} (h : Below B a w) (q : Nat) : Below B a (w.drewN q) := ⟨h.os, h.tape, h.output, h.size, h.block⟩
/-! Short forms: a block's cells all at once; a block behind an equation of worlds; blocks that were made. -/
theorem cells2 {w : World} {b : Nat} {t : TypeId} {x0 x1 : Value} (h : w.heap[b]? = some (.cells #[x0, x1] t (0, 0))) : w.cell? ⟨b, 0, none⟩ = some x0 ∧ w.cell? ⟨b, 1, none⟩ = some x1 :=
  ⟨cell_blk (i := 0) h rfl, cell_blk (i := 1) h rfl⟩
theorem cells3 {w : World} {b : Nat} {t : TypeId} {x0 x1 x2 : Value} (h : w.heap[b]? = some (.cells #[x0, x1, x2] t (0, 0))) : w.cell? ⟨b, 0, none⟩ = some x0 ∧ w.cell? ⟨b, 1, none⟩ = some x1 ∧ w.cell? ⟨b, 2, none⟩ = some x2 :=
  ⟨cell_blk (i := 0) h rfl, cell_blk (i := 1) h rfl, cell_blk (i := 2) h rfl⟩
theorem cells4 {w : World} {b : Nat} {t : TypeId} {x0 x1 x2 x3 : Value} (h : w.heap[b]? = some (.cells #[x0, x1, x2, x3] t (0, 0))) : w.cell? ⟨b, 0, none⟩ = some x0 ∧ w.cell? ⟨b, 1, none⟩ = some x1 ∧ w.cell? ⟨b, 2, none⟩ = some x2 ∧ w.cell? ⟨b, 3, none⟩ = some x3 :=
  ⟨cell_blk (i := 0) h rfl, cell_blk (i := 1) h rfl, cell_blk (i := 2) h rfl, cell_blk (i := 3) h rfl⟩
theorem cells5 {w : World} {b : Nat} {t : TypeId} {x0 x1 x2 x3 x4 : Value} (h : w.heap[b]? = some (.cells #[x0, x1, x2, x3, x4] t (0, 0))) : w.cell? ⟨b, 0, none⟩ = some x0 ∧ w.cell? ⟨b, 1, none⟩ = some x1 ∧ w.cell? ⟨b, 2, none⟩ = some x2 ∧ w.cell? ⟨b, 3, none⟩ = some x3 ∧ w.cell? ⟨b, 4, none⟩ = some x4 :=
  ⟨cell_blk (i := 0) h rfl, cell_blk (i := 1) h rfl, cell_blk (i := 2) h rfl, cell_blk (i := 3) h rfl, cell_blk (i := 4) h rfl⟩
theorem cells6 {w : World} {b : Nat} {t : TypeId} {x0 x1 x2 x3 x4 x5 : Value} (h : w.heap[b]? = some (.cells #[x0, x1, x2, x3, x4, x5] t (0, 0))) : w.cell? ⟨b, 0, none⟩ = some x0 ∧ w.cell? ⟨b, 1, none⟩ = some x1 ∧ w.cell? ⟨b, 2, none⟩ = some x2 ∧ w.cell? ⟨b, 3, none⟩ = some x3 ∧ w.cell? ⟨b, 4, none⟩ = some x4 ∧ w.cell? ⟨b, 5, none⟩ = some x5 :=
  ⟨cell_blk (i := 0) h rfl, cell_blk (i := 1) h rfl, cell_blk (i := 2) h rfl, cell_blk (i := 3) h rfl, cell_blk (i := 4) h rfl, cell_blk (i := 5) h rfl⟩
theorem cells7 {w : World} {b : Nat} {t : TypeId} {x0 x1 x2 x3 x4 x5 x6 : Value} (h : w.heap[b]? = some (.cells #[x0, x1, x2, x3, x4, x5, x6] t (0, 0))) : w.cell? ⟨b, 0, none⟩ = some x0 ∧ w.cell? ⟨b, 1, none⟩ = some x1 ∧ w.cell? ⟨b, 2, none⟩ = some x2 ∧ w.cell? ⟨b, 3, none⟩ = some x3 ∧ w.cell? ⟨b, 4, none⟩ = some x4 ∧ w.cell? ⟨b, 5, none⟩ = some x5 ∧ w.cell? ⟨b, 6, none⟩ = some x6 :=
  ⟨cell_blk (i := 0) h rfl, cell_blk (i := 1) h rfl, cell_blk (i := 2) h rfl, cell_blk (i := 3) h rfl, cell_blk (i := 4) h rfl, cell_blk (i := 5) h rfl, cell_blk (i := 6) h rfl⟩
theorem cells8 {w : World} {b : Nat} {t : TypeId} {x0 x1 x2 x3 x4 x5 x6 x7 : Value} (h : w.heap[b]? = some (.cells #[x0, x1, x2, x3, x4, x5, x6, x7] t (0, 0))) : w.cell? ⟨b, 0, none⟩ = some x0 ∧ w.cell? ⟨b, 1, none⟩ = some x1 ∧ w.cell? ⟨b, 2, none⟩ = some x2 ∧ w.cell? ⟨b, 3, none⟩ = some x3 ∧ w.cell? ⟨b, 4, none⟩ = some x4 ∧ w.cell? ⟨b, 5, none⟩ = some x5 ∧ w.cell? ⟨b, 6, none⟩ = some x6 ∧ w.cell? ⟨b, 7, none⟩ = some x7 :=
  ⟨cell_blk (i := 0) h rfl, cell_blk (i := 1) h rfl, cell_blk (i := 2) h rfl, cell_blk (i := 3) h rfl, cell_blk (i := 4) h rfl, cell_blk (i := 5) h rfl, cell_blk (i := 6) h rfl, cell_blk (i := 7) h rfl⟩
theorem cells9 {w : World} {b : Nat} {t : TypeId} {x0 x1 x2 x3 x4 x5 x6 x7 x8 : Value} (h : w.heap[b]? = some (.cells #[x0, x1, x2, x3, x4, x5, x6, x7, x8] t (0, 0))) : w.cell? ⟨b, 0, none⟩ = some x0 ∧ w.cell? ⟨b, 1, none⟩ = some x1 ∧ w.cell? ⟨b, 2, none⟩ = some x2 ∧ w.cell? ⟨b, 3, none⟩ = some x3 ∧ w.cell? ⟨b, 4, none⟩ = some x4 ∧ w.cell? ⟨b, 5, none⟩ = some x5 ∧ w.cell? ⟨b, 6, none⟩ = some x6 ∧ w.cell? ⟨b, 7, none⟩ = some x7 ∧ w.cell? ⟨b, 8, none⟩ = some x8 :=
  ⟨cell_blk (i := 0) h rfl, cell_blk (i := 1) h rfl, cell_blk (i := 2) h rfl, cell_blk (i := 3) h rfl, cell_blk (i := 4) h rfl, cell_blk (i := 5) h rfl, cell_blk (i := 6) h rfl, cell_blk (i := 7) h rfl, cell_blk (i := 8) h rfl⟩
theorem cells10 {w : World} {b : Nat} {t : TypeId} {x0 x1 x2 x3 x4 x5 x6 x7 x8 x9 : Value} (h : w.heap[b]? = some (.cells #[x0, x1, x2, x3, x4, x5, x6, x7, x8, x9] t (0, 0))) : w.cell? ⟨b, 0, none⟩ = some x0 ∧ w.cell? ⟨b, 1, none⟩ = some x1 ∧ w.cell? ⟨b, 2, none⟩ = some x2 ∧ w.cell? ⟨b, 3, none⟩ = some x3 ∧ w.cell? ⟨b, 4, none⟩ = some x4 ∧ w.cell? ⟨b, 5, none⟩ = some x5 ∧ w.cell? ⟨b, 6, none⟩ = some x6 ∧ w.cell? ⟨b, 7, none⟩ = some x7 ∧ w.cell? ⟨b, 8, none⟩ = some x8 ∧ w.cell? ⟨b, 9, none⟩ = some x9 :=
  ⟨cell_blk (i := 0) h rfl, cell_blk (i := 1) h rfl, cell_blk (i := 2) h rfl, cell_blk (i := 3) h rfl, cell_blk (i := 4) h rfl, cell_blk (i := 5) h rfl, cell_blk (i := 6) h rfl, cell_blk (i := 7) h rfl, cell_blk (i := 8) h rfl, cell_blk (i := 9) h rfl⟩
theorem cells11 {w : World} {b : Nat} {t : TypeId} {x0 x1 x2 x3 x4 x5 x6 x7 x8 x9 x10 : Value} (h : w.heap[b]? = some (.cells #[x0, x1, x2, x3, x4, x5, x6, x7, x8, x9, x10] t (0, 0))) : w.cell? ⟨b, 0, none⟩ = some x0 ∧ w.cell? ⟨b, 1, none⟩ = some x1 ∧ w.cell? ⟨b, 2, none⟩ = some x2 ∧ w.cell? ⟨b, 3, none⟩ = some x3 ∧ w.cell? ⟨b, 4, none⟩ = some x4 ∧ w.cell? ⟨b, 5, none⟩ = some x5 ∧ w.cell? ⟨b, 6, none⟩ = some x6 ∧ w.cell? ⟨b, 7, none⟩ = some x7 ∧ w.cell? ⟨b, 8, none⟩ = some x8 ∧ w.cell? ⟨b, 9, none⟩ = some x9 ∧ w.cell? ⟨b, 10, none⟩ = some x10 :=
  ⟨cell_blk (i := 0) h rfl, cell_blk (i := 1) h rfl, cell_blk (i := 2) h rfl, cell_blk (i := 3) h rfl, cell_blk (i := 4) h rfl, cell_blk (i := 5) h rfl, cell_blk (i := 6) h rfl, cell_blk (i := 7) h rfl, cell_blk (i := 8) h rfl, cell_blk (i := 9) h rfl, cell_blk (i := 10) h rfl⟩
theorem cells12 {w : World} {b : Nat} {t : TypeId} {x0 x1 x2 x3 x4 x5 x6 x7 x8 x9 x10 x11 : Value} (h : w.heap[b]? = some (.cells #[x0, x1, x2, x3, x4, x5, x6, x7, x8, x9, x10, x11] t (0, 0))) : w.cell? ⟨b, 0, none⟩ = some x0 ∧ w.cell? ⟨b, 1, none⟩ = some x1 ∧ w.cell? ⟨b, 2, none⟩ = some x2 ∧ w.cell? ⟨b, 3, none⟩ = some x3 ∧ w.cell? ⟨b, 4, none⟩ = some x4 ∧ w.cell? ⟨b, 5, none⟩ = some x5 ∧ w.cell? ⟨b, 6, none⟩ = some x6 ∧ w.cell? ⟨b, 7, none⟩ = some x7 ∧ w.cell? ⟨b, 8, none⟩ = some x8 ∧ w.cell? ⟨b, 9, none⟩ = some x9 ∧ w.cell? ⟨b, 10, none⟩ = some x10 ∧ w.cell? ⟨b, 11, none⟩ = some x11 :=
  ⟨cell_blk (i := 0) h rfl, cell_blk (i := 1) h rfl, cell_blk (i := 2) h rfl, cell_blk (i := 3) h rfl, cell_blk (i := 4) h rfl, cell_blk (i := 5) h rfl, cell_blk (i := 6) h rfl, cell_blk (i := 7) h rfl, cell_blk (i := 8) h rfl, cell_blk (i := 9) h rfl, cell_blk (i := 10) h rfl, cell_blk (i := 11) h rfl⟩
theorem cells13 {w : World} {b : Nat} {t : TypeId} {x0 x1 x2 x3 x4 x5 x6 x7 x8 x9 x10 x11 x12 : Value} (h : w.heap[b]? = some (.cells #[x0, x1, x2, x3, x4, x5, x6, x7, x8, x9, x10, x11, x12] t (0, 0))) : w.cell? ⟨b, 0, none⟩ = some x0 ∧ w.cell? ⟨b, 1, none⟩ = some x1 ∧ w.cell? ⟨b, 2, none⟩ = some x2 ∧ w.cell? ⟨b, 3, none⟩ = some x3 ∧ w.cell? ⟨b, 4, none⟩ = some x4 ∧ w.cell? ⟨b, 5, none⟩ = some x5 ∧ w.cell? ⟨b, 6, none⟩ = some x6 ∧ w.cell? ⟨b, 7, none⟩ = some x7 ∧ w.cell? ⟨b, 8, none⟩ = some x8 ∧ w.cell? ⟨b, 9, none⟩ = some x9 ∧ w.cell? ⟨b, 10, none⟩ = some x10 ∧ w.cell? ⟨b, 11, none⟩ = some x11 ∧ w.cell? ⟨b, 12, none⟩ = some x12 :=
  ⟨cell_blk (i := 0) h rfl, cell_blk (i := 1) h rfl, cell_blk (i := 2) h rfl, cell_blk (i := 3) h rfl, cell_blk (i := 4) h rfl, cell_blk (i := 5) h rfl, cell_blk (i := 6) h rfl, cell_blk (i := 7) h rfl, cell_blk (i := 8) h rfl, cell_blk (i := 9) h rfl, cell_blk (i := 10) h rfl, cell_blk (i := 11) h rfl, cell_blk (i := 12) h rfl⟩
theorem cells14 {w : World} {b : Nat} {t : TypeId} {x0 x1 x2 x3 x4 x5 x6 x7 x8 x9 x10 x11 x12 x13 : Value} (h : w.heap[b]? = some (.cells #[x0, x1, x2, x3, x4, x5, x6, x7, x8, x9, x10, x11, x12, x13] t (0, 0))) : w.cell? ⟨b, 0, none⟩ = some x0 ∧ w.cell? ⟨b, 1, none⟩ = some x1 ∧ w.cell? ⟨b, 2, none⟩ = some x2 ∧ w.cell? ⟨b, 3, none⟩ = some x3 ∧ w.cell? ⟨b, 4, none⟩ = some x4 ∧ w.cell? ⟨b, 5, none⟩ = some x5 ∧ w.cell? ⟨b, 6, none⟩ = some x6 ∧ w.cell? ⟨b, 7, none⟩ = some x7 ∧ w.cell? ⟨b, 8, none⟩ = some x8 ∧ w.cell? ⟨b, 9, none⟩ = some x9 ∧ w.cell? ⟨b, 10, none⟩ = some x10 ∧ w.cell? ⟨b, 11, none⟩ = some x11 ∧ w.cell? ⟨b, 12, none⟩ = some x12 ∧ w.cell? ⟨b, 13, none⟩ = some x13 :=
  ⟨cell_blk (i := 0) h rfl, cell_blk (i := 1) h rfl, cell_blk (i := 2) h rfl, cell_blk (i := 3) h rfl, cell_blk (i := 4) h rfl, cell_blk (i := 5) h rfl, cell_blk (i := 6) h rfl, cell_blk (i := 7) h rfl, cell_blk (i := 8) h rfl, cell_blk (i := 9) h rfl, cell_blk (i := 10) h rfl, cell_blk (i := 11) h rfl, cell_blk (i := 12) h rfl, cell_blk (i := 13) h rfl⟩
theorem cells15 {w : World} {b : Nat} {t : TypeId} {x0 x1 x2 x3 x4 x5 x6 x7 x8 x9 x10 x11 x12 x13 x14 : Value} (h : w.heap[b]? = some (.cells #[x0, x1, x2, x3, x4, x5, x6, x7, x8, x9, x10, x11, x12, x13, x14] t (0, 0))) : w.cell? ⟨b, 0, none⟩ = some x0 ∧ w.cell? ⟨b, 1, none⟩ = some x1 ∧ w.cell? ⟨b, 2, none⟩ = some x2 ∧ w.cell? ⟨b, 3, none⟩ = some x3 ∧ w.cell? ⟨b, 4, none⟩ = some x4 ∧ w.cell? ⟨b, 5, none⟩ = some x5 ∧ w.cell? ⟨b, 6, none⟩ = some x6 ∧ w.cell? ⟨b, 7, none⟩ = some x7 ∧ w.cell? ⟨b, 8, none⟩ = some x8 ∧ w.cell? ⟨b, 9, none⟩ = some x9 ∧ w.cell? ⟨b, 10, none⟩ = some x10 ∧ w.cell? ⟨b, 11, none⟩ = some x11 ∧ w.cell? ⟨b, 12, none⟩ = some x12 ∧ w.cell? ⟨b, 13, none⟩ = some x13 ∧ w.cell? ⟨b, 14, none⟩ = some x14 :=
  ⟨cell_blk (i := 0) h rfl, cell_blk (i := 1) h rfl, cell_blk (i := 2) h rfl, cell_blk (i := 3) h rfl, cell_blk (i := 4) h rfl, cell_blk (i := 5) h rfl, cell_blk (i := 6) h rfl, cell_blk (i := 7) h rfl, cell_blk (i := 8) h rfl, cell_blk (i := 9) h rfl, cell_blk (i := 10) h rfl, cell_blk (i := 11) h rfl, cell_blk (i := 12) h rfl, cell_blk (i := 13) h rfl, cell_blk (i := 14) h rfl⟩
theorem cells16 {w : World} {b : Nat} {t : TypeId} {x0 x1 x2 x3 x4 x5 x6 x7 x8 x9 x10 x11 x12 x13 x14 x15 : Value} (h : w.heap[b]? = some (.cells #[x0, x1, x2, x3, x4, x5, x6, x7, x8, x9, x10, x11, x12, x13, x14, x15] t (0, 0))) : w.cell? ⟨b, 0, none⟩ = some x0 ∧ w.cell? ⟨b, 1, none⟩ = some x1 ∧ w.cell? ⟨b, 2, none⟩ = some x2 ∧ w.cell? ⟨b, 3, none⟩ = some x3 ∧ w.cell? ⟨b, 4, none⟩ = some x4 ∧ w.cell? ⟨b, 5, none⟩ = some x5 ∧ w.cell? ⟨b, 6, none⟩ = some x6 ∧ w.cell? ⟨b, 7, none⟩ = some x7 ∧ w.cell? ⟨b, 8, none⟩ = some x8 ∧ w.cell? ⟨b, 9, none⟩ = some x9 ∧ w.cell? ⟨b, 10, none⟩ = some x10 ∧ w.cell? ⟨b, 11, none⟩ = some x11 ∧ w.cell? ⟨b, 12, none⟩ = some x12 ∧ w.cell? ⟨b, 13, none⟩ = some x13 ∧ w.cell? ⟨b, 14, none⟩ = some x14 ∧ w.cell? ⟨b, 15, none⟩ = some x15 :=
  ⟨cell_blk (i := 0) h rfl, cell_blk (i := 1) h rfl, cell_blk (i := 2) h rfl, cell_blk (i := 3) h rfl, cell_blk (i := 4) h rfl, cell_blk (i := 5) h rfl, cell_blk (i := 6) h rfl, cell_blk (i := 7) h rfl, cell_blk (i := 8) h rfl, cell_blk (i := 9) h rfl, cell_blk (i := 10) h rfl, cell_blk (i := 11) h rfl, cell_blk (i := 12) h rfl, cell_blk (i := 13) h rfl, cell_blk (i := 14) h rfl, cell_blk (i := 15) h rfl⟩
theorem blk_eq {V W : World} {b : Nat} {o : Option Obj} (e : V = W) (h : W.heap[b]? = o) : V.heap[b]? = o := by rw [e]; exact h
theorem below_eq {V W w : World} {B : Nat} (e : V = W) (h : Below B w W) : Below B w V := by rw [e]; exact h
theorem new10 {V w : World} {o0 : Obj} (e : V = w.alloc o0) : V.heap[w.heap.size]? = some o0 := by
  have h9 := heap_alloc_new (w) o0
  skip
  rw [e]; exact h9
theorem new20 {V w : World} {o0 o1 : Obj} (e : V = (w.alloc o0).alloc o1) : V.heap[w.heap.size]? = some o0 := by
  have h9 := heap_alloc_new (w) o0
  skip
  rw [e]; exact ((Below.heap_alloc _ _ _ (by simp <;> omega)).trans h9)
theorem new21 {V w : World} {o0 o1 : Obj} (e : V = (w.alloc o0).alloc o1) : V.heap[w.heap.size + 1]? = some o1 := by
  have h9 := heap_alloc_new (w.alloc o0) o1
  rw [World.size_alloc] at h9
  rw [e]; exact h9
theorem new30 {V w : World} {o0 o1 o2 : Obj} (e : V = ((w.alloc o0).alloc o1).alloc o2) : V.heap[w.heap.size]? = some o0 := by
  have h9 := heap_alloc_new (w) o0
  skip
  rw [e]; exact ((Below.heap_alloc _ _ _ (by simp <;> omega)).trans ((Below.heap_alloc _ _ _ (by simp <;> omega)).trans h9))
theorem new31 {V w : World} {o0 o1 o2 : Obj} (e : V = ((w.alloc o0).alloc o1).alloc o2) : V.heap[w.heap.size + 1]? = some o1 := by
  have h9 := heap_alloc_new (w.alloc o0) o1
  rw [World.size_alloc] at h9
  rw [e]; exact ((Below.heap_alloc _ _ _ (by simp <;> omega)).trans h9)
theorem new32 {V w : World} {o0 o1 o2 : Obj} (e : V = ((w.alloc o0).alloc o1).alloc o2) : V.heap[w.heap.size + 1 + 1]? = some o2 := by
  have h9 := heap_alloc_new ((w.alloc o0).alloc o1) o2
  rw [World.size_alloc, World.size_alloc] at h9
  rw [e]; exact h9
theorem new40 {V w : World} {o0 o1 o2 o3 : Obj} (e : V = (((w.alloc o0).alloc o1).alloc o2).alloc o3) : V.heap[w.heap.size]? = some o0 := by
  have h9 := heap_alloc_new (w) o0
  skip
  rw [e]; exact ((Below.heap_alloc _ _ _ (by simp <;> omega)).trans ((Below.heap_alloc _ _ _ (by simp <;> omega)).trans ((Below.heap_alloc _ _ _ (by simp <;> omega)).trans h9)))
theorem new41 {V w : World} {o0 o1 o2 o3 : Obj} (e : V = (((w.alloc o0).alloc o1).alloc o2).alloc o3) : V.heap[w.heap.size + 1]? = some o1 := by
  have h9 := heap_alloc_new (w.alloc o0) o1
  rw [World.size_alloc] at h9
  rw [e]; exact ((Below.heap_alloc _ _ _ (by simp <;> omega)).trans ((Below.heap_alloc _ _ _ (by simp <;> omega)).trans h9))
theorem new42 {V w : World} {o0 o1 o2 o3 : Obj} (e : V = (((w.alloc o0).alloc o1).alloc o2).alloc o3) : V.heap[w.heap.size + 1 + 1]? = some o2 := by
  have h9 := heap_alloc_new ((w.alloc o0).alloc o1) o2
  rw [World.size_alloc, World.size_alloc] at h9
  rw [e]; exact ((Below.heap_alloc _ _ _ (by simp <;> omega)).trans h9)
theorem new43 {V w : World} {o0 o1 o2 o3 : Obj} (e : V = (((w.alloc o0).alloc o1).alloc o2).alloc o3) : V.heap[w.heap.size + 1 + 1 + 1]? = some o3 := by
  have h9 := heap_alloc_new (((w.alloc o0).alloc o1).alloc o2) o3
  rw [World.size_alloc, World.size_alloc, World.size_alloc] at h9
  rw [e]; exact h9
theorem pzA {α : Type} (l : List α) (i : Nat) (a : α) : l.toArray.setIfInBounds i a = (l.set i a).toArray := List.setIfInBounds_toArray l i a
theorem pzB {α : Type} {x : α} {xs : List α} {a : α} : (x :: xs).set 0 a = a :: xs := List.set_cons_zero
theorem pzC {α : Type} {x : α} {xs : List α} {i : Nat} {a : α} : (x :: xs).set (i + 1) a = x :: xs.set i a := List.set_cons_succ
theorem nx {α : Sort _} (a : α) : ∃ x, x = a := ⟨_, rfl⟩
theorem ck {w w' : World} {b o : Nat} {v : Option Value} (hB : Below w.heap.size w w') (h : w.cell? ⟨b, o, none⟩ = v) (hl : b < w.heap.size := by omega) : w'.cell? ⟨b, o, none⟩ = v := (hB.cell (p := ⟨b, o, none⟩) hl).trans h
theorem bt9 {B : Nat} {w W U : World} (H : Hid (Below B w W)) (hb : Below W.heap.size W U) (hl : B ≤ W.heap.size) : Hid (Below B w U) := Lib.hid (H.out.trans (hb.mono hl))
theorem bb9 {N : Nat} {W U : World} {o : Option Obj} (hb : Below W.heap.size W U) (H : Hid (W.heap[N]? = o)) (l : N < W.heap.size) : Hid (U.heap[N]? = o) := Lib.hid ((hb.block _ l).trans H.out)
theorem bk1 {V W : World} {N : Nat} {o : Option Obj} {o1 : Obj} (e : V = (W.alloc o1)) (H : Hid (W.heap[N]? = o)) (l : N < W.heap.size) : Hid (V.heap[N]? = o) := Lib.hid (by rw [e]; exact ((Below.heap_alloc _ _ _ (by first | omega | (simp <;> omega))).trans H.out))
theorem be1 {V W w : World} {B : Nat} {o1 : Obj} (e : V = (W.alloc o1)) (H : Hid (Below B w W)) (hl : B ≤ W.heap.size) : Hid (Below B w V) := Lib.hid (by rw [e]; exact (H.out.alloc (hl) _))
theorem sz1 {V W : World} {o1 : Obj} (e : V = (W.alloc o1)) : V.heap.size = W.heap.size + 1 := by rw [e]; simp
theorem bk2 {V W : World} {N : Nat} {o : Option Obj} {o1 : Obj} {o2 : Obj} (e : V = ((W.alloc o1).alloc o2)) (H : Hid (W.heap[N]? = o)) (l : N < W.heap.size) : Hid (V.heap[N]? = o) := Lib.hid (by rw [e]; exact ((Below.heap_alloc _ _ _ (by first | omega | (simp <;> omega))).trans ((Below.heap_alloc _ _ _ (by first | omega | (simp <;> omega))).trans H.out)))
theorem be2 {V W w : World} {B : Nat} {o1 : Obj} {o2 : Obj} (e : V = ((W.alloc o1).alloc o2)) (H : Hid (Below B w W)) (hl : B ≤ W.heap.size) : Hid (Below B w V) := Lib.hid (by rw [e]; exact ((H.out.alloc (hl) _).alloc (by simp <;> omega) _))
theorem sz2 {V W : World} {o1 : Obj} {o2 : Obj} (e : V = ((W.alloc o1).alloc o2)) : V.heap.size = W.heap.size + 1 + 1 := by rw [e]; simp
theorem bk3 {V W : World} {N : Nat} {o : Option Obj} {o1 : Obj} {o2 : Obj} {o3 : Obj} (e : V = (((W.alloc o1).alloc o2).alloc o3)) (H : Hid (W.heap[N]? = o)) (l : N < W.heap.size) : Hid (V.heap[N]? = o) := Lib.hid (by rw [e]; exact ((Below.heap_alloc _ _ _ (by first | omega | (simp <;> omega))).trans ((Below.heap_alloc _ _ _ (by first | omega | (simp <;> omega))).trans ((Below.heap_alloc _ _ _ (by first | omega | (simp <;> omega))).trans H.out))))
theorem be3 {V W w : World} {B : Nat} {o1 : Obj} {o2 : Obj} {o3 : Obj} (e : V = (((W.alloc o1).alloc o2).alloc o3)) (H : Hid (Below B w W)) (hl : B ≤ W.heap.size) : Hid (Below B w V) := Lib.hid (by rw [e]; exact (((H.out.alloc (hl) _).alloc (by simp <;> omega) _).alloc (by simp <;> omega) _))
theorem sz3 {V W : World} {o1 : Obj} {o2 : Obj} {o3 : Obj} (e : V = (((W.alloc o1).alloc o2).alloc o3)) : V.heap.size = W.heap.size + 1 + 1 + 1 := by rw [e]; simp
theorem bk4 {V W : World} {N : Nat} {o : Option Obj} {o1 : Obj} {o2 : Obj} {o3 : Obj} {o4 : Obj} (e : V = ((((W.alloc o1).alloc o2).alloc o3).alloc o4)) (H : Hid (W.heap[N]? = o)) (l : N < W.heap.size) : Hid (V.heap[N]? = o) := Lib.hid (by rw [e]; exact ((Below.heap_alloc _ _ _ (by first | omega | (simp <;> omega))).trans ((Below.heap_alloc _ _ _ (by first | omega | (simp <;> omega))).trans ((Below.heap_alloc _ _ _ (by first | omega | (simp <;> omega))).trans ((Below.heap_alloc _ _ _ (by first | omega | (simp <;> omega))).trans H.out)))))
theorem be4 {V W w : World} {B : Nat} {o1 : Obj} {o2 : Obj} {o3 : Obj} {o4 : Obj} (e : V = ((((W.alloc o1).alloc o2).alloc o3).alloc o4)) (H : Hid (Below B w W)) (hl : B ≤ W.heap.size) : Hid (Below B w V) := Lib.hid (by rw [e]; exact ((((H.out.alloc (hl) _).alloc (by simp <;> omega) _).alloc (by simp <;> omega) _).alloc (by simp <;> omega) _))
theorem sz4 {V W : World} {o1 : Obj} {o2 : Obj} {o3 : Obj} {o4 : Obj} (e : V = ((((W.alloc o1).alloc o2).alloc o3).alloc o4)) : V.heap.size = W.heap.size + 1 + 1 + 1 + 1 := by rw [e]; simp
theorem Hq {p : Prop} (h : p) : RowKit.Hid p := Lib.hid h
theorem Ai {a b : Prop} (h : a) (k : b) : a ∧ b := ⟨h, k⟩
theorem Sn (n m : Nat) {w : World} {a : Addr} {u : Value} (e : a.block = m := by rfl) (h : n ≠ m := by omega) : (w.setCell a u).heap[n]? = w.heap[n]? := Below.heap_setCell w a u n (by rw [e]; exact h)
end Go.Proofs.Ytplekkpfpidebaa
