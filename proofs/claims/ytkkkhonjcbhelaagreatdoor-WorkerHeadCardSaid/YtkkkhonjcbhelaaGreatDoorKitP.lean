import Derived.WalkKit
import Derived.Lib.Hide
import Derived.BigQuiet
import Derived.Maps.AppendAt
import Derived.OrdersHeld
import Derived.StillTail
namespace Go.Proofs.YtkkkhonjcbhelaaGreatDoor
section
open Go.RowKit
theorem lt_of_cell {w : World} {b off : Nat} {v : Value} (h : w.cell? ⟨b, off, none⟩ = some v) : b < w.heap.size := by
 simp only [World.cell?] at h
 cases hh : w.heap[b]? with
 | none => rw [hh] at h; simp at h
 | some o => exact (Array.getElem?_eq_some_iff.1 hh).1
theorem cell_blk {w : World} {g i : Nat} {t : TypeId} {cs : Array Value} {u : Value} (h : w.heap[g]? = some (.cells cs t (0, 0))) (hi : cs[i]? = some u) : w.cell? ⟨g, i, none⟩ = some u := by
 rw [cell_of_row w g i cs t (0, 0) h, hi]
theorem frozen_blk {w : World} {g i : Nat} {t : TypeId} {cs : Array Value} (h : w.heap[g]? = some (.cells cs t (0, 0))) : w.frozen? ⟨g, i, none⟩ = false := by
 simp [World.frozen?, h]
theorem blk_lt {w : World} {g : Nat} {o : Obj} (h : w.heap[g]? = some o) : g < w.heap.size := (Array.getElem?_eq_some_iff.1 h).1
theorem blk_put {w : World} {g i : Nat} {t : TypeId} {cs : Array Value} (u : Value) (h : w.heap[g]? = some (.cells cs t (0, 0))) : (w.setCell ⟨g, i, none⟩ u).heap[g]? = some (.cells (cs.setIfInBounds i u) t (0, 0)) := by
 simp [World.setCell, Array.getElem?_modify, h]
theorem below_step {w a b : World} (h : Below w.heap.size w a) (k : Below a.heap.size a b) : Below w.heap.size w b := h.trans (k.mono h.size)
theorem below_drewN {B : Nat} {a w : World} (h : Below B a w) (q : Nat) : Below B a (w.drewN q) := ⟨h.os, h.tape, h.output, h.size, h.block⟩
/-! Short forms: a block's cells all at once; a block behind an equation of worlds; blocks that were made. -/
theorem cells2 {w : World} {b : Nat} {t : TypeId} {x0 x1 : Value} (h : w.heap[b]? = some (.cells #[x0, x1] t (0, 0))) : w.cell? ⟨b, 0, none⟩ = some x0 ∧ w.cell? ⟨b, 1, none⟩ = some x1 :=
 ⟨cell_blk (i := 0) h rfl, cell_blk (i := 1) h rfl⟩
theorem cells3 {w : World} {b : Nat} {t : TypeId} {x0 x1 x2 : Value} (h : w.heap[b]? = some (.cells #[x0, x1, x2] t (0, 0))) : w.cell? ⟨b, 0, none⟩ = some x0 ∧ w.cell? ⟨b, 1, none⟩ = some x1 ∧ w.cell? ⟨b, 2, none⟩ = some x2 :=
 ⟨cell_blk (i := 0) h rfl, cell_blk (i := 1) h rfl, cell_blk (i := 2) h rfl⟩
theorem cells4 {w : World} {b : Nat} {t : TypeId} {x0 x1 x2 x3 : Value} (h : w.heap[b]? = some (.cells #[x0, x1, x2, x3] t (0, 0))) : w.cell? ⟨b, 0, none⟩ = some x0 ∧ w.cell? ⟨b, 1, none⟩ = some x1 ∧ w.cell? ⟨b, 2, none⟩ = some x2 ∧ w.cell? ⟨b, 3, none⟩ = some x3 :=
 ⟨cell_blk (i := 0) h rfl, cell_blk (i := 1) h rfl, cell_blk (i := 2) h rfl, cell_blk (i := 3) h rfl⟩
theorem cells5 {w : World} {b : Nat} {t : TypeId} {x0 x1 x2 x3 x4 : Value} (h : w.heap[b]? = some (.cells #[x0, x1, x2, x3, x4] t (0, 0))) : w.cell? ⟨b, 0, none⟩ = some x0 ∧ w.cell? ⟨b, 1, none⟩ = some x1 ∧ w.cell? ⟨b, 2, none⟩ = some x2 ∧ w.cell? ⟨b, 3, none⟩ = some x3 ∧ w.cell? ⟨b, 4, none⟩ = some x4 :=
 ⟨cell_blk (i := 0) h rfl, cell_blk (i := 1) h rfl, cell_blk (i := 2) h rfl, cell_blk (i := 3) h rfl, cell_blk (i := 4) h rfl⟩
theorem cells6 {w : World} {b : Nat} {t : TypeId} {x0 x1 x2 x3 x4 x5 : Value} (h : w.heap[b]? = some (.cells #[x0, x1, x2, x3, x4, x5] t (0, 0))) : w.cell? ⟨b, 0, none⟩ = some x0 ∧ w.cell? ⟨b, 1, none⟩ = some x1 ∧ w.cell? ⟨b, 2, none⟩ = some x2 ∧ w.cell? ⟨b, 3, none⟩ = some x3 ∧ w.cell? ⟨b, 4, none⟩ = some x4 ∧ w.cell? ⟨b, 5, none⟩ = some x5 :=
 ⟨cell_blk (i := 0) h rfl, cell_blk (i := 1) h rfl, cell_blk (i := 2) h rfl, cell_blk (i := 3) h rfl, cell_blk (i := 4) h rfl, cell_blk (i := 5) h rfl⟩
theorem cells8 {w : World} {b : Nat} {t : TypeId} {x0 x1 x2 x3 x4 x5 x6 x7 : Value} (h : w.heap[b]? = some (.cells #[x0, x1, x2, x3, x4, x5, x6, x7] t (0, 0))) : w.cell? ⟨b, 0, none⟩ = some x0 ∧ w.cell? ⟨b, 1, none⟩ = some x1 ∧ w.cell? ⟨b, 2, none⟩ = some x2 ∧ w.cell? ⟨b, 3, none⟩ = some x3 ∧ w.cell? ⟨b, 4, none⟩ = some x4 ∧ w.cell? ⟨b, 5, none⟩ = some x5 ∧ w.cell? ⟨b, 6, none⟩ = some x6 ∧ w.cell? ⟨b, 7, none⟩ = some x7 :=
 ⟨cell_blk (i := 0) h rfl, cell_blk (i := 1) h rfl, cell_blk (i := 2) h rfl, cell_blk (i := 3) h rfl, cell_blk (i := 4) h rfl, cell_blk (i := 5) h rfl, cell_blk (i := 6) h rfl, cell_blk (i := 7) h rfl⟩
theorem cells9 {w : World} {b : Nat} {t : TypeId} {x0 x1 x2 x3 x4 x5 x6 x7 x8 : Value} (h : w.heap[b]? = some (.cells #[x0, x1, x2, x3, x4, x5, x6, x7, x8] t (0, 0))) : w.cell? ⟨b, 0, none⟩ = some x0 ∧ w.cell? ⟨b, 1, none⟩ = some x1 ∧ w.cell? ⟨b, 2, none⟩ = some x2 ∧ w.cell? ⟨b, 3, none⟩ = some x3 ∧ w.cell? ⟨b, 4, none⟩ = some x4 ∧ w.cell? ⟨b, 5, none⟩ = some x5 ∧ w.cell? ⟨b, 6, none⟩ = some x6 ∧ w.cell? ⟨b, 7, none⟩ = some x7 ∧ w.cell? ⟨b, 8, none⟩ = some x8 :=
 ⟨cell_blk (i := 0) h rfl, cell_blk (i := 1) h rfl, cell_blk (i := 2) h rfl, cell_blk (i := 3) h rfl, cell_blk (i := 4) h rfl, cell_blk (i := 5) h rfl, cell_blk (i := 6) h rfl, cell_blk (i := 7) h rfl, cell_blk (i := 8) h rfl⟩
theorem cells10 {w : World} {b : Nat} {t : TypeId} {x0 x1 x2 x3 x4 x5 x6 x7 x8 x9 : Value} (h : w.heap[b]? = some (.cells #[x0, x1, x2, x3, x4, x5, x6, x7, x8, x9] t (0, 0))) : w.cell? ⟨b, 0, none⟩ = some x0 ∧ w.cell? ⟨b, 1, none⟩ = some x1 ∧ w.cell? ⟨b, 2, none⟩ = some x2 ∧ w.cell? ⟨b, 3, none⟩ = some x3 ∧ w.cell? ⟨b, 4, none⟩ = some x4 ∧ w.cell? ⟨b, 5, none⟩ = some x5 ∧ w.cell? ⟨b, 6, none⟩ = some x6 ∧ w.cell? ⟨b, 7, none⟩ = some x7 ∧ w.cell? ⟨b, 8, none⟩ = some x8 ∧ w.cell? ⟨b, 9, none⟩ = some x9 :=
 ⟨cell_blk (i := 0) h rfl, cell_blk (i := 1) h rfl, cell_blk (i := 2) h rfl, cell_blk (i := 3) h rfl, cell_blk (i := 4) h rfl, cell_blk (i := 5) h rfl, cell_blk (i := 6) h rfl, cell_blk (i := 7) h rfl, cell_blk (i := 8) h rfl, cell_blk (i := 9) h rfl⟩
theorem cells16 {w : World} {b : Nat} {t : TypeId} {x0 x1 x2 x3 x4 x5 x6 x7 x8 x9 x10 x11 x12 x13 x14 x15 : Value} (h : w.heap[b]? = some (.cells #[x0, x1, x2, x3, x4, x5, x6, x7, x8, x9, x10, x11, x12, x13, x14, x15] t (0, 0))) : w.cell? ⟨b, 0, none⟩ = some x0 ∧ w.cell? ⟨b, 1, none⟩ = some x1 ∧ w.cell? ⟨b, 2, none⟩ = some x2 ∧ w.cell? ⟨b, 3, none⟩ = some x3 ∧ w.cell? ⟨b, 4, none⟩ = some x4 ∧ w.cell? ⟨b, 5, none⟩ = some x5 ∧ w.cell? ⟨b, 6, none⟩ = some x6 ∧ w.cell? ⟨b, 7, none⟩ = some x7 ∧ w.cell? ⟨b, 8, none⟩ = some x8 ∧ w.cell? ⟨b, 9, none⟩ = some x9 ∧ w.cell? ⟨b, 10, none⟩ = some x10 ∧ w.cell? ⟨b, 11, none⟩ = some x11 ∧ w.cell? ⟨b, 12, none⟩ = some x12 ∧ w.cell? ⟨b, 13, none⟩ = some x13 ∧ w.cell? ⟨b, 14, none⟩ = some x14 ∧ w.cell? ⟨b, 15, none⟩ = some x15 :=
 ⟨cell_blk (i := 0) h rfl, cell_blk (i := 1) h rfl, cell_blk (i := 2) h rfl, cell_blk (i := 3) h rfl, cell_blk (i := 4) h rfl, cell_blk (i := 5) h rfl, cell_blk (i := 6) h rfl, cell_blk (i := 7) h rfl, cell_blk (i := 8) h rfl, cell_blk (i := 9) h rfl, cell_blk (i := 10) h rfl, cell_blk (i := 11) h rfl, cell_blk (i := 12) h rfl, cell_blk (i := 13) h rfl, cell_blk (i := 14) h rfl, cell_blk (i := 15) h rfl⟩
theorem blk_eq {V W : World} {b : Nat} {o : Option Obj} (e : V = W) (h : W.heap[b]? = o) : V.heap[b]? = o := by rw [e]; exact h
theorem new10 {V w : World} {o0 : Obj} (e : V = w.alloc o0) : V.heap[w.heap.size]? = some o0 := by
 have h9 := heap_alloc_new (w) o0
 skip
 rw [e]; exact h9
theorem new20 {V w : World} {o0 o1 : Obj} (e : V = (w.alloc o0).alloc o1) : V.heap[w.heap.size]? = some o0 := by
 have h9 := heap_alloc_new (w) o0
 skip
 rw [e]; exact ((Below.heap_alloc _ _ _ (by simp <;> omega)).trans h9)
theorem new21 {V w : World} {o0 o1 : Obj} (e : V = (w.alloc o0).alloc o1) : V.heap[w.heap.size + 1]? = some o1 := by
 have h9 := heap_alloc_new (w.alloc o0) o1;rw [World.size_alloc] at h9;rw [e]; exact h9
theorem new30 {V w : World} {o0 o1 o2 : Obj} (e : V = ((w.alloc o0).alloc o1).alloc o2) : V.heap[w.heap.size]? = some o0 := by
 have h9 := heap_alloc_new (w) o0
 skip
 rw [e]; exact ((Below.heap_alloc _ _ _ (by simp <;> omega)).trans ((Below.heap_alloc _ _ _ (by simp <;> omega)).trans h9))
theorem new31 {V w : World} {o0 o1 o2 : Obj} (e : V = ((w.alloc o0).alloc o1).alloc o2) : V.heap[w.heap.size + 1]? = some o1 := by
 have h9 := heap_alloc_new (w.alloc o0) o1;rw [World.size_alloc] at h9;rw [e]; exact ((Below.heap_alloc _ _ _ (by simp <;> omega)).trans h9)
theorem new32 {V w : World} {o0 o1 o2 : Obj} (e : V = ((w.alloc o0).alloc o1).alloc o2) : V.heap[w.heap.size + 1 + 1]? = some o2 := by
 have h9 := heap_alloc_new ((w.alloc o0).alloc o1) o2;rw [World.size_alloc, World.size_alloc] at h9;rw [e]; exact h9
theorem new40 {V w : World} {o0 o1 o2 o3 : Obj} (e : V = (((w.alloc o0).alloc o1).alloc o2).alloc o3) : V.heap[w.heap.size]? = some o0 := by
 have h9 := heap_alloc_new (w) o0
 skip
 rw [e]; exact ((Below.heap_alloc _ _ _ (by simp <;> omega)).trans ((Below.heap_alloc _ _ _ (by simp <;> omega)).trans ((Below.heap_alloc _ _ _ (by simp <;> omega)).trans h9)))
theorem new41 {V w : World} {o0 o1 o2 o3 : Obj} (e : V = (((w.alloc o0).alloc o1).alloc o2).alloc o3) : V.heap[w.heap.size + 1]? = some o1 := by
 have h9 := heap_alloc_new (w.alloc o0) o1;rw [World.size_alloc] at h9;rw [e]; exact ((Below.heap_alloc _ _ _ (by simp <;> omega)).trans ((Below.heap_alloc _ _ _ (by simp <;> omega)).trans h9))
theorem new42 {V w : World} {o0 o1 o2 o3 : Obj} (e : V = (((w.alloc o0).alloc o1).alloc o2).alloc o3) : V.heap[w.heap.size + 1 + 1]? = some o2 := by
 have h9 := heap_alloc_new ((w.alloc o0).alloc o1) o2;rw [World.size_alloc, World.size_alloc] at h9;rw [e]; exact ((Below.heap_alloc _ _ _ (by simp <;> omega)).trans h9)
theorem new43 {V w : World} {o0 o1 o2 o3 : Obj} (e : V = (((w.alloc o0).alloc o1).alloc o2).alloc o3) : V.heap[w.heap.size + 1 + 1 + 1]? = some o3 := by
 have h9 := heap_alloc_new (((w.alloc o0).alloc o1).alloc o2) o3;rw [World.size_alloc, World.size_alloc, World.size_alloc] at h9;rw [e]; exact h9
theorem pzA {α : Type} (l : List α) (i : Nat) (a : α) : l.toArray.setIfInBounds i a = (l.set i a).toArray := List.setIfInBounds_toArray l i a
theorem pzB {α : Type} {x : α} {xs : List α} {a : α} : (x :: xs).set 0 a = a :: xs := List.set_cons_zero
theorem pzC {α : Type} {x : α} {xs : List α} {i : Nat} {a : α} : (x :: xs).set (i + 1) a = x :: xs.set i a := List.set_cons_succ
theorem nx {α : Sort _} (a : α) : ∃ x, x = a := ⟨_, rfl⟩
theorem ck {w w' : World} {b o : Nat} {v : Option Value} (hB : Below w.heap.size w w') (h : w.cell? ⟨b, o, none⟩ = v) (hl : b < w.heap.size := by omega) : w'.cell? ⟨b, o, none⟩ = v := (hB.cell (p := ⟨b, o, none⟩) hl).trans h
theorem bt9 {B : Nat} {w W U : World} (H : Hid (Below B w W)) (hb : Below W.heap.size W U) (hl : B ≤ W.heap.size) : Hid (Below B w U) := Lib.hid (H.out.trans (hb.mono hl))
theorem bb9 {N : Nat} {W U : World} {o : Option Obj} (hb : Below W.heap.size W U) (H : Hid (W.heap[N]? = o)) (l : N < W.heap.size) : Hid (U.heap[N]? = o) := Lib.hid ((hb.block _ l).trans H.out)
theorem bk1 {V W : World} {N : Nat} {o : Option Obj} {o1 : Obj} (e : V = (W.alloc o1)) (H : Hid (W.heap[N]? = o)) (l : N < W.heap.size) : Hid (V.heap[N]? = o) := Lib.hid (by rw [e]; exact ((Below.heap_alloc _ _ _ (by first | omega | (simp <;> omega))).trans H.out))
theorem be1 {V W w : World} {B : Nat} {o1 : Obj} (e : V = (W.alloc o1)) (H : Hid (Below B w W)) (hl : B ≤ W.heap.size) : Hid (Below B w V) := Lib.hid (by rw [e]; exact (H.out.alloc (hl) _))
theorem sz1 {V W : World} {o1 : Obj} (e : V = (W.alloc o1)) : V.heap.size = W.heap.size + 1 := by rw [e]; simp
theorem bk2 {V W : World} {N : Nat} {o : Option Obj} {o1 : Obj} {o2 : Obj} (e : V = ((W.alloc o1).alloc o2)) (H : Hid (W.heap[N]? = o)) (l : N < W.heap.size) : Hid (V.heap[N]? = o) := Lib.hid (by rw [e]; exact ((Below.heap_alloc _ _ _ (by first | omega | (simp <;> omega))).trans ((Below.heap_alloc _ _ _ (by first | omega | (simp <;> omega))).trans H.out)))
theorem be2 {V W w : World} {B : Nat} {o1 : Obj} {o2 : Obj} (e : V = ((W.alloc o1).alloc o2)) (H : Hid (Below B w W)) (hl : B ≤ W.heap.size) : Hid (Below B w V) := Lib.hid (by rw [e]; exact ((H.out.alloc (hl) _).alloc (by simp <;> omega) _))
theorem sz2 {V W : World} {o1 : Obj} {o2 : Obj} (e : V = ((W.alloc o1).alloc o2)) : V.heap.size = W.heap.size + 1 + 1 := by rw [e]; simp
theorem be3 {V W w : World} {B : Nat} {o1 : Obj} {o2 : Obj} {o3 : Obj} (e : V = (((W.alloc o1).alloc o2).alloc o3)) (H : Hid (Below B w W)) (hl : B ≤ W.heap.size) : Hid (Below B w V) := Lib.hid (by rw [e]; exact (((H.out.alloc (hl) _).alloc (by simp <;> omega) _).alloc (by simp <;> omega) _))
theorem sz3 {V W : World} {o1 : Obj} {o2 : Obj} {o3 : Obj} (e : V = (((W.alloc o1).alloc o2).alloc o3)) : V.heap.size = W.heap.size + 1 + 1 + 1 := by rw [e]; simp
theorem bk4 {V W : World} {N : Nat} {o : Option Obj} {o1 : Obj} {o2 : Obj} {o3 : Obj} {o4 : Obj} (e : V = ((((W.alloc o1).alloc o2).alloc o3).alloc o4)) (H : Hid (W.heap[N]? = o)) (l : N < W.heap.size) : Hid (V.heap[N]? = o) := Lib.hid (by rw [e]; exact ((Below.heap_alloc _ _ _ (by first | omega | (simp <;> omega))).trans ((Below.heap_alloc _ _ _ (by first | omega | (simp <;> omega))).trans ((Below.heap_alloc _ _ _ (by first | omega | (simp <;> omega))).trans ((Below.heap_alloc _ _ _ (by first | omega | (simp <;> omega))).trans H.out)))))
theorem be4 {V W w : World} {B : Nat} {o1 : Obj} {o2 : Obj} {o3 : Obj} {o4 : Obj} (e : V = ((((W.alloc o1).alloc o2).alloc o3).alloc o4)) (H : Hid (Below B w W)) (hl : B ≤ W.heap.size) : Hid (Below B w V) := Lib.hid (by rw [e]; exact ((((H.out.alloc (hl) _).alloc (by simp <;> omega) _).alloc (by simp <;> omega) _).alloc (by simp <;> omega) _))
theorem sz4 {V W : World} {o1 : Obj} {o2 : Obj} {o3 : Obj} {o4 : Obj} (e : V = ((((W.alloc o1).alloc o2).alloc o3).alloc o4)) : V.heap.size = W.heap.size + 1 + 1 + 1 + 1 := by rw [e]; simp
theorem Hq {p : Prop} (h : p) : RowKit.Hid p := Lib.hid h
theorem Ai {a b : Prop} (h : a) (k : b) : a ∧ b := ⟨h, k⟩
theorem Sn (n m : Nat) {w : World} {a : Addr} {u : Value} (e : a.block = m := by rfl) (h : n ≠ m := by omega) : (w.setCell a u).heap[n]? = w.heap[n]? := Below.heap_setCell w a u n (by rw [e]; exact h)
end
section
open Go.RowKit
def Rows {α : Type} (B : Nat) (A : Option Addr) (p : Nat → Nat → α → Prop) (k : Nat) (l : List α) : Prop :=
 l = [] ∨ ∃ b off, A = some ⟨b, off, none⟩ ∧ b < B ∧ ∀ (i : Nat) (x : α), l[i]? = some x → p b (off + i * k) x
section
variable {α : Type} {B B' k : Nat} {A : Option Addr} {p q : Nat → Nat → α → Prop} {l : List α}
theorem Rows.imp (h : Rows B A p k l) (hB : B ≤ B') (hp : ∀ b o x, b < B → p b o x → q b o x) : Rows B' A q k l := by
 rcases h with h | ⟨b, off, ha, hb, hc⟩
 ·exact .inl h
 ·exact .inr ⟨b, off, ha, by omega, fun i x hx => hp _ _ _ hb (hc i x hx)⟩
theorem Rows.at_ (h : Rows B A p k l) {i : Nat} {x : α} (hx : l[i]? = some x) : ∃ b off, A = some ⟨b, off, none⟩ ∧ b < B ∧ ∀ (i : Nat) (x : α), l[i]? = some x → p b (off + i * k) x := by
 rcases h with h | h
 ·subst h; simp at hx
 ·exact h
end
/-! Lists, gone through from the left. -/
section
variable {α : Type} {l : List α} {k : Nat} {x : α}
theorem take_next (h : l[k]? = some x) : l.take (k + 1) = l.take k ++ [x] := by
 rw [List.take_add_one, h]; rfl
theorem all_next {p : α → Bool} (h : l[k]? = some x) (ha : (l.take k).all p = true) (hp : p x = true) : (l.take (k + 1)).all p = true := by
 rw [take_next h, List.all_append, ha]; simp [hp]
theorem all_no {p : α → Bool} (h : l[k]? = some x) (hp : p x = false) : l.all p = false := by
 rw [← Bool.not_eq_true, List.all_eq_true];intro ha;have := ha x (List.mem_of_getElem? h);rw [hp] at this; cases this
theorem all_end {p : α → Bool} (ha : (l.take l.length).all p = true) : l.all p = true := by rwa [List.take_length] at ha
theorem get_lt (h : k < l.length) : ∃ x, l[k]? = some x := ⟨_, List.getElem?_eq_getElem h⟩
end
end
section
open Go.RowKit
structure Foot (F : Nat → Prop) (w w' : World) : Prop where
 os : w'.os = w.os
 tape : w'.tape = w.tape
 output : w'.output = w.output
 size : w.heap.size ≤ w'.heap.size
 block : ∀ k, k < w.heap.size → ¬ F k → w'.heap[k]? = w.heap[k]?
theorem Foot.refl (F : Nat → Prop) (w : World) : Foot F w w := ⟨rfl, rfl, rfl, Nat.le_refl _, fun _ _ _ => rfl⟩
theorem Foot.trans {F F' : Nat → Prop} {a b c : World} (h : Foot F a b) (k : Foot F' b c) (hF : ∀ i, F' i → F i ∨ a.heap.size ≤ i) : Foot F a c :=
 ⟨k.os.trans h.os, k.tape.trans h.tape, k.output.trans h.output, Nat.le_trans h.size k.size, fun i hi hn =>
  (k.block i (Nat.lt_of_lt_of_le hi h.size) (fun hf => by rcases hF i hf with e | e; exact hn e; omega)).trans (h.block i hi hn)⟩
theorem Foot.mono {F F' : Nat → Prop} {w w' : World} (h : Foot F w w') (hF : ∀ i, F i → F' i) : Foot F' w w' := ⟨h.os, h.tape, h.output, h.size, fun i hi hn => h.block i hi fun hf => hn (hF i hf)⟩
theorem Foot.of_below {F : Nat → Prop} {w w' : World} (h : Below w.heap.size w w') : Foot F w w' := ⟨h.os, h.tape, h.output, h.size, fun i hi _ => h.block i hi⟩
theorem Foot.below {F : Nat → Prop} {B : Nat} {w w' : World} (h : Foot F w w') (hB : B ≤ w.heap.size) (hF : ∀ i, F i → B ≤ i) : Below B w w' :=
 ⟨h.os, h.tape, h.output, h.size, fun i hi => h.block i (Nat.lt_of_lt_of_le hi hB) fun hf => by have := hF i hf; omega⟩
theorem Foot.cell {F : Nat → Prop} {w w' : World} (h : Foot F w w') {p : Addr} (hp : p.block < w.heap.size) (hn : ¬ F p.block) : w'.cell? p = w.cell? p := World.cell?_of_block (h.block p.block hp hn)
theorem Foot.drew {F : Nat → Prop} {a w : World} (h : Foot F a w) : Foot F a w.drew := ⟨h.os, h.tape, h.output, h.size, h.block⟩
theorem Foot.drewN {F : Nat → Prop} {a w : World} (h : Foot F a w) (n : Nat) : Foot F a (w.drewN n) := ⟨h.os, h.tape, h.output, h.size, h.block⟩
theorem Foot.alloc {F : Nat → Prop} {a w : World} (h : Foot F a w) (o : Obj) : Foot F a (w.alloc o) :=
 ⟨h.os, h.tape, h.output, by have := h.size; simp; omega, fun i hi hn => (Below.heap_alloc w o i (Nat.lt_of_lt_of_le hi h.size)).trans (h.block i hi hn)⟩
theorem Foot.setCell {F : Nat → Prop} {a w : World} (h : Foot F a w) {p : Addr} (hp : F p.block ∨ a.heap.size ≤ p.block) (u : Value) : Foot F a (w.setCell p u) := by
 have hB := (Below.refl 0 w).setCell (p := p) (Nat.zero_le _) u;exact ⟨hB.os.trans h.os, hB.tape.trans h.tape, hB.output.trans h.output, Nat.le_trans h.size hB.size, fun i hi hn =>
  (Below.heap_setCell w p u i (fun e => by subst e; rcases hp with e | e; exact hn e; omega)).trans (h.block i hi hn)⟩
theorem Foot.grown {F : Nat → Prop} {a w w' : World} {row : Option Nat} (h : Foot F a w) (hg : w.grownBy w' row) (hr : ∀ k, row = some k → F k ∨ a.heap.size ≤ k) : Foot F a w' :=
 ⟨hg.os.trans h.os, hg.tape.trans h.tape, hg.output.trans h.output, Nat.le_trans h.size hg.size, fun i hi hn =>
  (hg.block i (Nat.lt_of_lt_of_le hi h.size) (fun e => by rcases hr i e.symm with e | e; exact hn e; omega)).trans (h.block i hi hn)⟩
theorem Foot.apart {F F' G : Nat → Prop} {n : Nat} (h : ∀ i, F' i → F i ∨ n ≤ i) (hG : ∀ i, G i → i < n ∧ ¬ F i) : ∀ i, G i → ¬ F' i := fun i hg hf => by
 obtain ⟨h1, h2⟩ := hG i hg;rcases h i hf with e | e
 ·exact h2 e
 ·omega
end
section
open Go.RowKit
def CellsAt (w : World) (b o : Nat) (cs : List Value) : Prop := ∀ (r : Nat) v, cs[r]? = some v → w.cell? ⟨b, o + r, none⟩ = some v
theorem CellsAt.of {w w' : World} {b o : Nat} {cs : List Value} (h : CellsAt w b o cs) (e : w'.heap[b]? = w.heap[b]?) : CellsAt w' b o cs :=
 fun r v hr => (World.cell?_of_block (w := w) (w' := w') (a := ⟨b, o + r, none⟩) e).trans (h r v hr)
theorem CellsAt.keep {w w' : World} {B b o : Nat} {cs : List Value} (h : CellsAt w b o cs) (hb : b < B) (hk : Below B w w') : CellsAt w' b o cs := h.of (hk.block b hb)
section
variable {α : Type} {C : α → List Value} {k : Nat}
def Els (C : α → List Value) (k : Nat) (w : World) (B : Nat) (A : Option Addr) (l : List α) : Prop := Rows B A (fun b o x => CellsAt w b o (C x)) k l
theorem Els.keep {w w' : World} {B B' : Nat} {A : Option Addr} {l : List α} (h : Els C k w B A l) (hk : Below B w w') (hB : B ≤ B') : Els C k w' B' A l := h.imp hB fun _ _ _ hb hd => hd.keep hb hk
theorem Els.off {w w' : World} {B : Nat} {A : Option Addr} {l : List α} (h : Els C k w B A l) (hk : ∀ b off, A = some ⟨b, off, none⟩ → b < B → w'.heap[b]? = w.heap[b]?) : Els C k w' B A l := by
 rcases h with h | ⟨b, off, rfl, hb, hc⟩
 ·exact .inl h
 ·exact .inr ⟨b, off, rfl, hb, fun i x hx => (hc i x hx).of (hk b off rfl hb)⟩
theorem flat_len (hC : ∀ x, (C x).length = k) (l : List α) : (l.flatMap C).length = l.length * k := by
 induction l with
 | nil => simp
 | cons x l ih => rw [List.flatMap_cons, List.length_append, ih, hC, List.length_cons, Nat.succ_mul, Nat.add_comm]
theorem flat_get (hC : ∀ x, (C x).length = k) : ∀ {l : List α} {i r : Nat} {x : α}, l[i]? = some x → r < k → (l.flatMap C)[i * k + r]? = (C x)[r]?
 | [], _, _, _, h, _ => by simp at h
 | y :: l, 0, r, x, h, hr => by
  simp at h; subst h;rw [List.flatMap_cons, Nat.zero_mul, Nat.zero_add, List.getElem?_append_left (by rw [hC]; exact hr)]
 | y :: l, i + 1, r, x, h, hr => by
  have ih := flat_get hC (l := l) (i := i) (r := r) (x := x) (by simpa using h) hr;rw [List.flatMap_cons, show (i + 1) * k + r = (C y).length + (i * k + r) by rw [hC, Nat.succ_mul]; omega, List.getElem?_append_right (by omega), Nat.add_sub_cancel_left, ih]
theorem els_blk (hC : ∀ x, (C x).length = k) {w : World} {g : Nat} {t : TypeId} {cur : Array Value} {l : List α} (h : w.heap[g]? = some (.cells cur t (0, 0))) (hc : ∀ (j : Nat) v, (l.flatMap C)[j]? = some v → cur[j]? = some v) : Els C k w w.heap.size (some ⟨g, 0, none⟩) l :=
 .inr ⟨g, 0, rfl, blk_lt h, fun i x hx r v hr => by
  have hrk : r < k := by rw [← hC x]; exact (List.getElem?_eq_some_iff.1 hr).1
  have := hc (i * k + r) v (by rw [flat_get hC hx hrk, hr]);rw [Nat.zero_add];exact cell_blk h this⟩
theorem els_own (hC : ∀ x, (C x).length = k) {w : World} {B n c : Nat} {t : TypeId} {A : Option Addr} {l : List α} (h : w.ownsRow B t k (.slice A n c) n (l.flatMap C)) (hn : l.length = n) :
  Els C k w w.heap.size A l ∧ ∀ b off, A = some ⟨b, off, none⟩ → B ≤ b ∧ b < w.heap.size := by
 rcases h.2 with ⟨e, h0⟩ | ⟨g, cap, cur, e, hB, hg, _, _, _, ht⟩
 ·injection e with e1 _ _;subst e1;refine ⟨.inl (List.eq_nil_of_length_eq_zero (by omega)), fun b off e => by cases e⟩
 ·injection e with e1 _ _;subst e1;refine ⟨els_blk hC hg fun j v hj => ?_, fun b off e => by cases e; exact ⟨hB, blk_lt hg⟩⟩;rw [← ht, List.getElem?_take] at hj
  split at hj
  ·simpa using hj
  ·cases hj
theorem els_one (h1 : ∀ x, ∀ v ∈ C x, v.oneCell' = true) (l : List α) : ∀ v ∈ l.flatMap C, v.oneCell' = true := by
 intro v hv;obtain ⟨f, _, hv⟩ := List.mem_flatMap.1 hv;exact h1 f v hv
theorem els_cells (hC : ∀ x, (C x).length = k) (hk : 0 < k) {w : World} {b off : Nat} {l : List α} (h : ∀ (i : Nat) x, l[i]? = some x → CellsAt w b (off + i * k) (C x)) (j : Nat) (v : Value) (hj : (l.flatMap C)[j]? = some v) : w.cell? ((⟨b, off, none⟩ : Addr).add j) = some v := by
 have hjl := (List.getElem?_eq_some_iff.1 hj).1;rw [flat_len hC] at hjl;have hi : j / k < l.length := Nat.div_lt_of_lt_mul (by rw [Nat.mul_comm]; exact hjl);obtain ⟨x, hx⟩ := get_lt hi;have hjm : j / k * k + j % k = j := by rw [Nat.mul_comm]; exact Nat.div_add_mod j k
 have e := flat_get hC hx (Nat.mod_lt j hk);rw [hjm, hj] at e;have := h _ x hx (j % k) v e.symm;rw [Addr.add_lit]
 rwa [show off + j / k * k + j % k = off + j by omega] at this
end
theorem own_stays {W W' : World} {base : Nat} {e : TypeId} {size : Nat} {v : Value} {n : Nat} {xs : List Value} (h : W.ownsRow base e size v n xs) (hb : ∀ i, v.ownBlock = some i → W'.heap[i]? = W.heap[i]?) : W'.ownsRow base e size v n xs := by
 refine ⟨h.1, ?_⟩;rcases h.2 with h1 | ⟨g, cap, cur, rfl, h2, h3, h4⟩
 ·exact .inl h1
 ·exact .inr ⟨g, cap, cur, rfl, h2, (hb g rfl).trans h3, h4⟩
theorem own_keep {W W' : World} {base : Nat} {e : TypeId} {size : Nat} {v : Value} {n : Nat} {xs : List Value} (h : W.ownsRow base e size v n xs) (hb : Below W.heap.size W W') : W'.ownsRow base e size v n xs :=
 own_stays h fun i hi => hb.block i (h.lt i hi).2
end
section
open Go.RowKit
theorem own_formE {w : World} {B k n : Nat} {t : TypeId} {v : Value} {xs : List Value} (h : w.ownsRow B t k v n xs) : ∃ A c, v = .slice A n c := by
 rcases h.2 with ⟨rfl, h0⟩ | ⟨g, cap, cur, rfl, _⟩
 ·exact ⟨none, 0, by rw [h0]⟩
 ·exact ⟨_, _, rfl⟩
section
variable {P : Program} {α : Type} {C : α → List Value} {k : Nat}
theorem run_append_els (w : World) (base : Nat) (t ty e : TypeId) (i : TypeInfo) (z : Value) (bytes : Nat) (ht : P.underlying t = some (.slice e)) (hi : P.info? e = some i) (hz : i.zero = some z)
  (hsize : i.size = k) (hby : i.bytes = bytes) (hzs : z.cells.size = k) (hk : 0 < k) (v : Value) (n : Nat) (xs : List Value) (hown : w.ownsRow base e k v n xs)
  (B : Nat) (A : Option Addr) (c m : Nat) (l : List α) (hl : Els C k w B A l) (hm : m = l.length) (hC : ∀ x, (C x).length = k) (h1 : ∀ x, ∀ v ∈ C x, v.oneCell' = true) (h63 : n + m ≤ maxLen) (hbytes : (n + m) * bytes ≤ 140737488355328) (hbase : base ≤ w.heap.size) :
  ∃ A' c' w', (Builtin.append_ #[t, t] ty #[v, .slice A m c]).run P w = .ok (.slice A' (n + m) c') w' ∧ w'.ownsRow base e k (.slice A' (n + m) c') (n + m) (xs ++ l.flatMap C) ∧ w.grownBy w' v.ownBlock ∧
   ((Value.slice A' (n + m) c').ownBlock = v.ownBlock ∨ (Value.slice A' (n + m) c').ownBlock = some w.heap.size) := by
 subst hm;have some_case : ∀ (ad : Addr), (∀ j u, (l.flatMap C)[j]? = some u → w.cell? (ad.add j) = some u) → ∃ A' c' w', (Builtin.append_ #[t, t] ty #[v, .slice (some ad) l.length c]).run P w = .ok (.slice A' (n + l.length) c') w' ∧ w'.ownsRow base e k (.slice A' (n + l.length) c') (n + l.length) (xs ++ l.flatMap C) ∧ w.grownBy w' v.ownBlock ∧
   ((Value.slice A' (n + l.length) c').ownBlock = v.ownBlock ∨ (Value.slice A' (n + l.length) c').ownBlock = some w.heap.size) := fun ad hcc => by
  obtain ⟨v', w', hr, h2, h3, _, h4⟩ := run_append_own_at (P := P) w base t ty e i z k bytes ht hi hz hsize hby hzs hk v n xs hown ad l.length c (l.flatMap C) (flat_len hC l) hcc (els_one h1 l) h63 hbytes hbase;obtain ⟨A', c', rfl⟩ := own_formE h2;exact ⟨A', c', w', hr, h2, h3, h4⟩
 rcases hl with rfl | ⟨b, off, rfl, hb, hc⟩
 ·cases A with
  | some ad => exact some_case ad (by simp)
  | none =>
   obtain ⟨A', c', rfl⟩ := own_formE hown;refine ⟨A', c', w, ?_, by simpa using hown, World.grownBy.refl w _, .inl rfl⟩;rcases hown.2 with ⟨e0, rfl⟩ | ⟨g, cap, cur, e0, _, _, hnc, _⟩
   ·cases e0; simp [Builtin.append_, run_underlying ht, sizeOf, typeInfo, hi, Builtin.lenOf, Builtin.firstCells]
   ·cases e0; simp [Builtin.append_, run_underlying ht, sizeOf, typeInfo, hi, Builtin.lenOf, Builtin.firstCells, hnc, storeCells]
 ·exact some_case _ fun j u hj => els_cells hC hk hc j u hj
theorem wp_append_els {o : Oper} {a : Act} {K : Act → World → Prop} {Q : Exit → Act → World → Prop} (w : World) (s x : Operand) (t : TypeId)
  (ho : o.op = .call { callee := .builtin .append, args := #[s, x], argTypes := #[t, t] })
  (base : Nat) (e : TypeId) (i : TypeInfo) (z : Value) (bytes : Nat) (ht : P.underlying t = some (.slice e)) (hi : P.info? e = some i) (hz : i.zero = some z)
  (hsize : i.size = k) (hby : i.bytes = bytes) (hzs : z.cells.size = k) (hk : 0 < k) (v : Value) (n : Nat) (xs : List Value) (hs : a.eval s = v) (hown : w.ownsRow base e k v n xs)
  (B : Nat) (A : Option Addr) (c m : Nat) (l : List α) (hx : a.eval x = .slice A m c) (hl : Els C k w B A l) (hm : m = l.length) (hC : ∀ x, (C x).length = k) (h1 : ∀ x, ∀ v ∈ C x, v.oneCell' = true) (h63 : n + m ≤ maxLen) (hbytes : (n + m) * bytes ≤ 140737488355328) (hbase : base ≤ w.heap.size)
  (h : ∀ A' c' w', w'.ownsRow base e k (.slice A' (n + m) c') (n + m) (xs ++ l.flatMap C) → w.grownBy w' v.ownBlock →
   ((Value.slice A' (n + m) c').ownBlock = v.ownBlock ∨ (Value.slice A' (n + m) c').ownBlock = some w.heap.size) → K (a.put o.dst (.slice A' (n + m) c')) w') : o.wp P a w K Q := by
 obtain ⟨A', c', w', hr, h2, h3, h4⟩ := run_append_els (P := P) w base t o.type e i z bytes ht hi hz hsize hby hzs hk v n xs hown B A c m l hl hm hC h1 h63 hbytes hbase;unfold Oper.wp execOp;simp only [ho, resolve, invoke, builtin, Sem.run_bind, Sem.run_pure, Result.andThen_ok, List.map_toArray, List.map_cons, List.map_nil, hs, hx, hr];exact h A' c' w' h2 h3 h4
theorem wpList_append_els {ops : Array Oper} {rest : List Oper} {o : Oper} {a : Act} {Q : Exit → Act → World → Prop} (w : World) (hgd : o.guard = none) (s x : Operand) (t : TypeId)
  (ho : o.op = .call { callee := .builtin .append, args := #[s, x], argTypes := #[t, t] })
  (base : Nat) (e : TypeId) (i : TypeInfo) (z : Value) (bytes : Nat) (ht : P.underlying t = some (.slice e)) (hi : P.info? e = some i) (hz : i.zero = some z)
  (hsize : i.size = k) (hby : i.bytes = bytes) (hzs : z.cells.size = k) (hk : 0 < k) (v : Value) (n : Nat) (xs : List Value) (hs : a.eval s = v) (hown : w.ownsRow base e k v n xs)
  (B : Nat) (A : Option Addr) (c m : Nat) (l : List α) (hx : a.eval x = .slice A m c) (hl : Els C k w B A l) (hm : m = l.length) (hC : ∀ x, (C x).length = k) (h1 : ∀ x, ∀ v ∈ C x, v.oneCell' = true) (h63 : n + m ≤ maxLen) (hbytes : (n + m) * bytes ≤ 140737488355328) (hbase : base ≤ w.heap.size)
  (h : ∀ A' c' w', w'.ownsRow base e k (.slice A' (n + m) c') (n + m) (xs ++ l.flatMap C) → w.grownBy w' v.ownBlock →
   ((Value.slice A' (n + m) c').ownBlock = v.ownBlock ∨ (Value.slice A' (n + m) c').ownBlock = some w.heap.size) → wpList P ops Q rest (a.put o.dst (.slice A' (n + m) c')) w') : wpList P ops Q (o :: rest) a w :=
 wpList_plain hgd fun _ hK => wp_append_els w s x t ho base e i z bytes ht hi hz hsize hby hzs hk v n xs hs hown B A c m l hx hl hm hC h1 h63 hbytes hbase fun A' c' w' h2 h3 h4 => hK _ _ (h A' c' w' h2 h3 h4)
end
end
section
open Go.RowKit
section
variable {P : Program} {ops : Array Oper} {Q : Exit → Act → World → Prop} {md : Region.Mode} {S : World → Prop}
theorem held_take (i t : Nat) {oi : Oper} {v : Value} {f : Nat} {listed : Array Bool} {a : Act} {w : World} (hi : ops[i]? = some oi) (ht : oi.dst = some t)
  (hs : Region.noSelect ops = true) (hf : Region.free md ops listed i = true) (hr : (Region.ready md ops listed).contains i = true)
  (hQ : ∀ ch a w, Q (.panic ch) (a.put (some t) v) w → Q (.panic ch) a w) (hy : Region.wanted oi (yielded ops a.tmps) = true ∧ ∀ w, S w → (execOp a.eval oi).run P w = .ok (.value v) w) (hS : S w)
  (h : wpAnyH P md ops Q S f (listed.setIfInBounds i true) (a.put (some t) v) w) : wpAnyH P md ops Q S (f + 1) listed a w := by
 rw [← ht] at hQ h;exact wpAnyH_take hi hs hf hr hQ (.inl hy) hS h
theorem held_skip (i t : Nat) {oi : Oper} {f : Nat} {listed : Array Bool} {a : Act} {w : World} (hi : ops[i]? = some oi) (ht : oi.dst = some t)
  (hs : Region.noSelect ops = true) (hf : Region.free md ops listed i = true) (hr : (Region.ready md ops listed).contains i = true)
  (hQ : ∀ ch a w, Q (.panic ch) (a.put (some t) undef) w → Q (.panic ch) a w) (hy : Region.wanted oi (yielded ops a.tmps) = false) (hS : S w)
  (h : wpAnyH P md ops Q S f (listed.setIfInBounds i true) (a.put (some t) undef) w) : wpAnyH P md ops Q S (f + 1) listed a w := by
 rw [← ht] at hQ h;exact wpAnyH_take hi hs hf hr hQ (.inr ⟨hy, rfl⟩) hS h
theorem tkH (v : Value) (i t : Nat) {oi : Oper} {f : Nat} {listed : Array Bool} {a : Act} {w : World} (hy : ∀ w, S w → (execOp a.eval oi).run P w = .ok (.value v) w) (hS : S w)
  (h : wpAnyH P md ops Q S f (listed.setIfInBounds i true) (a.put (some t) v) w) (hi : ops[i]? = some oi := by rfl) (ht : oi.dst = some t := by rfl) (hw : Region.wanted oi (yielded ops a.tmps) = true := by rfl)
  (hs : Region.noSelect ops = true := by kernel_rfl) (hf : Region.free md ops listed i = true := by kernel_rfl) (hr : (Region.ready md ops listed).contains i = true := by kernel_rfl)
  (hQ : ∀ ch a w, Q (.panic ch) (a.put (some t) v) w → Q (.panic ch) a w := by exact fun _ _ _ h => h) : wpAnyH P md ops Q S (f + 1) listed a w := held_take i t hi ht hs hf hr hQ ⟨hw, hy⟩ hS h
theorem tkA (i t : Nat) {oi : Oper} {f : Nat} {listed L : Array Bool} {a b : Act} {v : Value} {w : World} (hS : S w)
  (h : wpAnyH P md ops Q S f L b w) (hi : ops[i]? = some oi := by rfl) (ht : oi.dst = some t := by rfl) (hw : Region.wanted oi (yielded ops a.tmps) = true := by rfl)
  (hs : Region.noSelect ops = true := by kernel_rfl) (hf : Region.free md ops listed i = true := by kernel_rfl) (hr : (Region.ready md ops listed).contains i = true := by kernel_rfl)
  (hy : ∀ w, S w → (execOp a.eval oi).run P w = .ok (.value v) w := by intro w' h; go_simp; (try with_reducible rfl))
  (hl : listed.setIfInBounds i true = L := by (try simp only [List.setIfInBounds_toArray, List.set_cons_zero, List.set_cons_succ]); rfl)
  (hb : a.put (some t) v = b := by simp only [Act.put, pzA, pzB, pzC]; rfl)
  (hQ : ∀ ch a w, Q (.panic ch) (a.put (some t) v) w → Q (.panic ch) a w := by exact fun _ _ _ h => h) : wpAnyH P md ops Q S (f + 1) listed a w := by
 subst hl hb; exact held_take i t hi ht hs hf hr hQ ⟨hw, hy⟩ hS h
theorem skA (i t : Nat) {oi : Oper} {f : Nat} {listed L : Array Bool} {a b : Act} {w : World} (hS : S w)
  (h : wpAnyH P md ops Q S f L b w) (hi : ops[i]? = some oi := by rfl) (ht : oi.dst = some t := by rfl) (hy : Region.wanted oi (yielded ops a.tmps) = false := by rfl)
  (hs : Region.noSelect ops = true := by kernel_rfl) (hf : Region.free md ops listed i = true := by kernel_rfl) (hr : (Region.ready md ops listed).contains i = true := by kernel_rfl)
  (hl : listed.setIfInBounds i true = L := by (try simp only [List.setIfInBounds_toArray, List.set_cons_zero, List.set_cons_succ]); rfl)
  (hb : a.put (some t) undef = b := by simp only [Act.put, pzA, pzB, pzC]; rfl)
  (hQ : ∀ ch a w, Q (.panic ch) (a.put (some t) undef) w → Q (.panic ch) a w := by exact fun _ _ _ h => h) : wpAnyH P md ops Q S (f + 1) listed a w := by
 subst hl hb; exact held_skip i t hi ht hs hf hr hQ hy hS h
theorem held_one (i : Nat) {oi : Oper} {f : Nat} {listed : Array Bool} {a : Act} {w : World} (hi : ops[i]? = some oi) (hr : Region.ready md ops listed = [i]) (hw : Region.wanted oi (yielded ops a.tmps) = true)
  (h : ∀ K : Act → World → Prop, Hid (∀ a' w', S w' → wpAnyH P md ops Q S f (listed.setIfInBounds i true) a' w' → K a' w') → oi.wp P a w K Q) : wpAnyH P md ops Q S (f + 1) listed a w := by
 refine wpAnyH_all hr (by simp) fun j hj => ?_
 obtain rfl : j = i := by simpa using hj
 unfold wpOp;simp only [hi];rw [if_pos hw];exact .inl (h _ (Lib.hid fun _ _ h1 h2 => ⟨h1, h2⟩))
theorem held_begin (S : World → Prop) {id : Nat} {a : Act} {w : World} (hm : P.follows .mixedOrders = true)
  (h : wpAnyH P .any ops Q S ops.size (Array.replicate ops.size false) a w.drew) : (Code.region id ops true).wp P Q a w :=
 wp_region_held hm h
end
end
section
open Go.RowKit
section
variable {P : Program} {ops : Array Oper} {Q : Exit → Act → World → Prop} {md : Region.Mode} {S : World → Prop} {c : Nat}
def wpUntil (P : Program) (md : Region.Mode) (ops : Array Oper) (Q : Exit → Act → World → Prop) (S : World → Prop) (c : Nat) : Nat → Array Bool → Act → World → Prop
 | 0, listed, a, w => Region.ready md ops listed = [] ∧ Q .normal a w
 | f + 1, listed, a, w => (Region.ready md ops listed = [] → Q .normal a w) ∧
   ∀ i ∈ Region.ready md ops listed, wpOp P ops Q i (fun a' w' => ((listed.setIfInBounds i true).getD c true = false → S w') ∧ wpUntil P md ops Q S c f (listed.setIfInBounds i true) a' w') a w
theorem wpAny_of_until : ∀ (f : Nat) (listed : Array Bool) (a : Act) (w : World), wpUntil P md ops Q S c f listed a w → wpAny P md ops Q f listed a w
 | 0, _, _, _, h => h
 | f + 1, _, _, _, h => ⟨h.1, fun i hi => wpOp_mono (fun a' w' k => wpAny_of_until f _ a' w' k.2) (h.2 i hi)⟩
theorem wp_until (S : World → Prop) (c : Nat) {id : Nat} {a : Act} {w : World} (hm : P.follows .mixedOrders = true)
  (h : wpUntil P .any ops Q S c ops.size (Array.replicate ops.size false) a w.drew) : (Code.region id ops true).wp P Q a w :=
 wp_region_any hm (wpAny_of_until _ _ _ _ h)
theorem until_first {i : Nat} {oi : Oper} {v : Value} (hi : ops[i]? = some oi) (hsel : ∀ (j : Nat) (o : Oper) cs b, ops[j]? = some o → o.op ≠ .select cs b)
  (hQ : ∀ ch a w, Q (.panic ch) (a.put oi.dst v) w → Q (.panic ch) a w) (hw : Region.waitsFor md ops c i = true) (hic : i ≠ c) :
  ∀ (f : Nat) (listed : Array Bool) (a : Act) (w : World),
   (∀ j oj, ops[j]? = some oj → j ≠ i → listed.getD j true = false → (∀ e ∈ oj.after, Region.binds md e = true → e.on ≠ i) → oi.apart ops oj = true) →
   i ∈ Region.ready md ops listed → listed.getD c true = false → YieldsIf P ops S oi v a → S w →
   wpUntil P md ops Q S c f (listed.setIfInBounds i true) (a.put oi.dst v) w → wpUntil P md ops Q S c (f + 1) listed a w
 | 0, listed, a, w => fun _ hr _ hy hS H => by
  refine ⟨fun h => (by rw [h] at hr; cases hr), fun j hj => ?_⟩;by_cases hji : j = i
  ·subst hji; exact hy.wpOp hi hS ⟨fun _ => hS, H⟩
  ·have := ready_mono hj hji;rw [H.1] at this
   cases this
 | f + 1, listed, a, w => fun hfree hr hc hy hS H => by
  refine ⟨fun h => (by rw [h] at hr; cases hr), fun j hj => ?_⟩;by_cases hji : j = i
  ·subst hji; exact hy.wpOp hi hS ⟨fun _ => hS, H⟩
  ·have hun := (mem_ready.1 hr).1;obtain ⟨hjun, oj, hoj, hall⟩ := mem_ready.1 hj;have hnot : ∀ e ∈ oj.after, Region.binds md e = true → e.on ≠ i := fun e he hb heq => by
    have h1 := hall e he hb;rw [heq, getD_both hun] at h1
    cases h1
   have hjc : j ≠ c := by
    rintro rfl;obtain ⟨o', ho', e, he, hb, hon⟩ := Region.waitsFor_spec hw;have : o' = oj := Option.some.inj (ho'.symm.trans hoj);subst this;exact hnot e he hb hon
   have h1 := H.2 j (ready_mono hj hji);have h2 := wpOp_putIf hoj (hfree j oj hoj hji hjun hnot) (fun cs b => hsel i oi cs b hi) (fun cs b => hsel j oj cs b hoj) hQ hy h1;have hc2 : (listed.setIfInBounds j true).getD c true = false := by rw [getD_set_ne true hjc]; exact hc
   have hc3 : ((listed.setIfInBounds i true).setIfInBounds j true).getD c true = false := by rw [getD_set_ne true hjc, getD_set_ne true hic]; exact hc
   refine wpOp_mono (fun a' w' h3 => ⟨fun _ => h3.2.1 hc3, until_first hi hsel hQ hw hic f (listed.setIfInBounds j true) a' w' ?_ (ready_mono hr (Ne.symm hji)) hc2 h3.1 (h3.2.1 hc3) ?_⟩) h2
   ·intro k ok hk hki hku hno;refine hfree k ok hk hki ?_ hno;by_cases hjk : j = k
    ·subst hjk; exact hjun
    ·rw [getD_set_ne true hjk] at hku; exact hku
   ·rw [Array.setIfInBounds_comm _ _ hji];exact h3.2.2
theorem until_take (i t : Nat) {oi : Oper} {v : Value} {f : Nat} {listed : Array Bool} {a : Act} {w : World} (hi : ops[i]? = some oi) (ht : oi.dst = some t)
  (hs : Region.noSelect ops = true) (hf : Region.free md ops listed i = true) (hr : (Region.ready md ops listed).contains i = true) (hw : (Region.waitsFor md ops c i && (i != c) && !listed.getD c true) = true)
  (hQ : ∀ ch a w, Q (.panic ch) (a.put (some t) v) w → Q (.panic ch) a w) (hy : Region.wanted oi (yielded ops a.tmps) = true ∧ ∀ w, S w → (execOp a.eval oi).run P w = .ok (.value v) w) (hS : S w)
  (h : wpUntil P md ops Q S c f (listed.setIfInBounds i true) (a.put (some t) v) w) : wpUntil P md ops Q S c (f + 1) listed a w := by
 rw [← ht] at hQ h;simp only [Bool.and_eq_true, bne_iff_ne, ne_eq, Bool.not_eq_true'] at hw;exact until_first hi (Region.noSelect_spec hs) hQ hw.1.1 hw.1.2 f listed a w (Region.free_spec hi hf) (by simpa using hr) hw.2 (.inl hy) hS h
theorem tkU (v : Value) (i t : Nat) {oi : Oper} {f : Nat} {listed : Array Bool} {a : Act} {w : World} (hy : ∀ w, S w → (execOp a.eval oi).run P w = .ok (.value v) w) (hS : S w)
  (h : wpUntil P md ops Q S c f (listed.setIfInBounds i true) (a.put (some t) v) w) (hi : ops[i]? = some oi := by rfl) (ht : oi.dst = some t := by rfl) (hg : Region.wanted oi (yielded ops a.tmps) = true := by rfl)
  (hs : Region.noSelect ops = true := by kernel_rfl) (hf : Region.free md ops listed i = true := by kernel_rfl) (hr : (Region.ready md ops listed).contains i = true := by kernel_rfl) (hw : (Region.waitsFor md ops c i && (i != c) && !listed.getD c true) = true := by kernel_rfl)
  (hQ : ∀ ch a w, Q (.panic ch) (a.put (some t) v) w → Q (.panic ch) a w := by exact fun _ _ _ h => h) : wpUntil P md ops Q S c (f + 1) listed a w := until_take i t hi ht hs hf hr hw hQ ⟨hg, hy⟩ hS h
theorem tkB (i t : Nat) {oi : Oper} {f : Nat} {listed L : Array Bool} {a b : Act} {v : Value} {w : World} (hS : S w)
  (h : wpUntil P md ops Q S c f L b w) (hi : ops[i]? = some oi := by rfl) (ht : oi.dst = some t := by rfl) (hg : Region.wanted oi (yielded ops a.tmps) = true := by rfl)
  (hs : Region.noSelect ops = true := by kernel_rfl) (hf : Region.free md ops listed i = true := by kernel_rfl) (hr : (Region.ready md ops listed).contains i = true := by kernel_rfl) (hw : (Region.waitsFor md ops c i && (i != c) && !listed.getD c true) = true := by kernel_rfl)
  (hy : ∀ w, S w → (execOp a.eval oi).run P w = .ok (.value v) w := by intro w' h; go_simp; (try with_reducible rfl))
  (hl : listed.setIfInBounds i true = L := by (try simp only [List.setIfInBounds_toArray, List.set_cons_zero, List.set_cons_succ]); rfl)
  (hb : a.put (some t) v = b := by simp only [Act.put, pzA, pzB, pzC]; rfl)
  (hQ : ∀ ch a w, Q (.panic ch) (a.put (some t) v) w → Q (.panic ch) a w := by exact fun _ _ _ h => h) : wpUntil P md ops Q S c (f + 1) listed a w := by
 subst hl hb; exact until_take i t hi ht hs hf hr hw hQ ⟨hg, hy⟩ hS h
theorem until_one (i : Nat) {oi : Oper} {f : Nat} {listed : Array Bool} {a : Act} {w : World} (hi : ops[i]? = some oi) (hr : Region.ready md ops listed = [i]) (hg : oi.guard = none)
  (h : ∀ K : Act → World → Prop, Hid (∀ a' w', ((listed.setIfInBounds i true).getD c true = false → S w') → wpUntil P md ops Q S c f (listed.setIfInBounds i true) a' w' → K a' w') → oi.wp P a w K Q) : wpUntil P md ops Q S c (f + 1) listed a w := by
 refine ⟨fun h0 => (by rw [hr] at h0; cases h0), fun j hj => ?_⟩;rw [hr] at hj;obtain rfl : j = i := by simpa using hj
 unfold wpOp;simp only [hi];rw [if_pos (by simp [Region.wanted, hg])];exact .inl (h _ (Lib.hid fun _ _ h1 h2 => ⟨h1, h2⟩))
theorem until_done {f : Nat} {listed : Array Bool} {a : Act} {w : World} (hr : Region.ready md ops listed = []) (h : Q .normal a w) : wpUntil P md ops Q S c f listed a w := by
 cases f with
 | zero => exact ⟨hr, h⟩
 | succ f => exact ⟨fun _ => h, by rw [hr]; simp⟩
end
end
end Go.Proofs.YtkkkhonjcbhelaaGreatDoor
