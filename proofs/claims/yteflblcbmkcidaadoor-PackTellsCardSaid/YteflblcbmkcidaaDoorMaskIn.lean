/- A slice of numbers that came in, as a list; Of at such a slice, and at one that Units has made. -/
import Derived.Test.YteflblcbmkcidaaDoorMaskAwake
import Derived.Test.YteflblcbmkcidaaDoorMaskList
namespace Go.Proofs.YteflblcbmkcidaaDoor
open Go.ChangeAt Go.RowKit

/-- The slice's elements are the list's. -/
def InRow (w : World) (a : Option Addr) (l : List Int) : Prop :=
  l = [] ∨ ∃ b off, a = some ⟨b, off, none⟩ ∧ b < w.heap.size ∧ Cells w b off l
theorem lt_of_cell {w : World} {b off : Nat} {v : Value} (h : w.cell? ⟨b, off, none⟩ = some v) : b < w.heap.size := by
  simp only [World.cell?] at h
  cases hh : w.heap[b]? with
  | none => rw [hh] at h; simp at h
  | some o => exact (Array.getElem?_eq_some_iff.1 hh).1
theorem in_of {w : World} {a : Option Addr} {len cap : Nat} {zs : List Int} (h : IsRow .i64 w a len cap zs) : ∃ l : List Int, l.length = len ∧ InRow w a l := by
  rcases h with ⟨_, rfl, _, _⟩ | ⟨x, rfl, hl, _, hz, hc, _⟩
  · exact ⟨[], rfl, .inl rfl⟩
  · refine ⟨zs.take len, by rw [List.length_take]; omega, ?_⟩
    by_cases h0 : len = 0
    · left; rw [h0]; rfl
    · obtain ⟨b, off, rfl, hcc⟩ := ints_at hc (by omega)
      refine .inr ⟨b, off, rfl, lt_of_cell (off := off + 0) (hcc 0 (by omega)), fun i hi => ?_⟩
      rw [List.length_take] at hi
      rw [hcc i (by omega), List.getElem?_take, if_pos (by omega)]
      simp [List.getD]
theorem InRow.below {w w' : World} {a : Option Addr} {l : List Int} (h : InRow w a l) (hb : Below w.heap.size w w') : InRow w' a l := by
  rcases h with h | ⟨b, off, rfl, hlt, hc⟩
  · exact .inl h
  · exact .inr ⟨b, off, rfl, Nat.lt_of_lt_of_le hlt hb.size, fun i hi => (hb.cell (p := ⟨b, off + i, none⟩) hlt).trans (hc i hi)⟩
theorem InRow.stays {w w' : World} {a : Option Addr} {l : List Int} (h : InRow w a l) (hb : Stays w w') : InRow w' a l := h.below hb.below
theorem Row.isIn {w : World} {a : Option Addr} {l : List Nat} (h : Row w a l) : InRow w a (l.map Int.ofNat) := by
  rcases h with rfl | ⟨g, rfl, hlt, hc⟩
  · exact .inl rfl
  · refine .inr ⟨g, 0, rfl, hlt, fun i hi => ?_⟩
    rw [List.length_map] at hi
    rw [Nat.zero_add, hc i hi, MM.getD_map]
end Go.Proofs.YteflblcbmkcidaaDoor
