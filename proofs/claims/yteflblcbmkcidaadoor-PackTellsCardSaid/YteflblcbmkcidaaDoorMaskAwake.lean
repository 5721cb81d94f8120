/- The document's example, which each law asks first; what a law's arguments are told as. -/
import Derived.Test.YteflblcbmkcidaaDoorMaskUnits
import Derived.Test.YteflblcbmkcidaaDoorMaskOf
import Derived.Test.YteflblcbmkcidaaDoorMaskFrame
namespace Go.Proofs.YteflblcbmkcidaaDoor
open Go.RowKit

/-- A slice of numbers that came in. -/
def IsRow (k : IntKind) (w : World) (a : Option Addr) (len cap : Nat) (zs : List Int) : Prop :=
  (a = none ∧ len = 0 ∧ cap = 0 ∧ zs = []) ∨
  ∃ x, a = some x ∧ len ≤ cap ∧ cap ≤ maxLen ∧ zs.length = cap ∧ (∀ i, i < zs.length → w.cell? (x.add i) = some (.int k (zs.getD i 0))) ∧ ∀ n ∈ zs, (Lit.int k n).wf = true

theorem low22 : MM.low 22 2 = 6 := by decide +kernel
theorem cnt22 : MM.cnt 22 = 3 := by decide +kernel
/-- What a call leaves: nothing that was there has changed; the library's table lies as it lay. -/
structure Stays (w w' : World) : Prop where
  below : Below w.heap.size w w'
  tab : Tab w'
theorem Stays.of {w w' : World} (hT : Tab w) (h : Below w.heap.size w w') : Stays w w' := ⟨h, hT.below h hT.size⟩
theorem Stays.trans {a b c : World} (h : Stays a b) (k : Stays b c) : Stays a c := ⟨h.below.trans (k.below.mono h.below.size), k.tab⟩
theorem full_t (x : Nat) (hx : x < 18446744073709551616) (k : Nat) (hk : MM.cnt x < k) (w : World) (hT : Tab w) :
    Calls Tryd.prog 32 #[.int .u64 x, .int .i64 k] w fun e w' => e = .returned (.tuple #[.int .u64 0, .int .i64 2]) ∧ Stays w w' ∧ Tab w' :=
  (lowest_full x hx k hk w).mono fun _ _ h => ⟨h.1, .of hT h.2, (Stays.of hT h.2).tab⟩
theorem lowest_t (x : Nat) (hx : x < 18446744073709551616) (k : Nat) (hk : k ≤ MM.cnt x) (w : World) (hT : Tab w) :
    Calls Tryd.prog 32 #[.int .u64 x, .int .i64 k] w fun e w' => e = .returned (.tuple #[.int .u64 (MM.low x k), .int .i64 0]) ∧ Stays w w' ∧ Tab w' :=
  (lowest_any x hx k hk w hT hT.size).mono fun _ _ h => ⟨h.1, .of hT h.2, (Stays.of hT h.2).tab⟩
theorem low_all {x : Nat} (hx : x < 18446744073709551616) : MM.low x (MM.cnt x) = x := by
  unfold MM.low MM.cnt
  rw [List.take_length]
  exact MM.ofu_units hx
theorem all_t (x : Nat) (hx : x < 18446744073709551616) (w : World) (hT : Tab w) :
    Calls Tryd.prog 32 #[.int .u64 x, .int .i64 (MM.cnt x)] w fun e w' => e = .returned (.tuple #[.int .u64 x, .int .i64 0]) ∧ Stays w w' ∧ Tab w' :=
  (lowest_t x hx _ (Nat.le_refl _) w hT).mono fun _ _ h => by rw [low_all hx] at h; exact h

/-- A slice of numbers that a call has made. -/
def Row (w : World) (a : Option Addr) (l : List Nat) : Prop :=
  l = [] ∨ ∃ g, a = some ⟨g, 0, none⟩ ∧ g < w.heap.size ∧ ∀ j, j < l.length → w.cell? ⟨g, j, none⟩ = some (.int .i64 ((l[j]?.getD 0 : Nat) : Int))
theorem Row.below {w w' : World} {a : Option Addr} {l : List Nat} (h : Row w a l) (b : Below w.heap.size w w') : Row w' a l := by
  rcases h with h | ⟨g, ha, hg, hc⟩
  · exact .inl h
  · exact .inr ⟨g, ha, Nat.lt_of_lt_of_le hg b.size, fun j hj => (b.cell (p := ⟨g, j, none⟩) hg).trans (hc j hj)⟩
theorem Row.stays {w w' : World} {a : Option Addr} {l : List Nat} (h : Row w a l) (b : Stays w w') : Row w' a l := h.below b.below
theorem row_of_owns {w : World} {base : Nat} {v : Value} {l : List Nat} (h : w.ownsRow base 3 1 v l.length (ints l)) : ∃ a cap, v = .slice a l.length cap ∧ Row w a l := by
  have h' := h
  rcases h.2 with ⟨rfl, h0⟩ | ⟨g, cap, cur, rfl, _, hg, _⟩
  · rw [h0]; exact ⟨none, 0, rfl, .inl (List.length_eq_zero_iff.1 h0)⟩
  · refine ⟨_, cap, rfl, .inr ⟨g, rfl, (Array.getElem?_eq_some_iff.1 hg).1, fun j hj => ?_⟩⟩
    have := h'.cellAt j (by omega)
    rw [this]
    simp [ints, hj]
end Go.Proofs.YteflblcbmkcidaaDoor
