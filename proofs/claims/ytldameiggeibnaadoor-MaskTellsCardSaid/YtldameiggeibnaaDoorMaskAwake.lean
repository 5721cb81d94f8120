/- The document's example, which each law asks first; what a law's arguments are told as. -/
import Derived.Test.YtldameiggeibnaaDoorMaskUnits
import Derived.Test.YtldameiggeibnaaDoorMaskOf
import Derived.Test.YtldameiggeibnaaDoorMaskFrame
namespace Go.Proofs.YtldameiggeibnaaDoor
open Go.RowKit

/-- A slice of numbers that came in. -/
def IsRow (k : IntKind) (w : World) (a : Option Addr) (len cap : Nat) (zs : List Int) : Prop :=
  (a = none ∧ len = 0 ∧ cap = 0 ∧ zs = []) ∨
  ∃ x, a = some x ∧ len ≤ cap ∧ cap ≤ maxLen ∧ zs.length = cap ∧ (∀ i, i < zs.length → w.cell? (x.add i) = some (.int k (zs.getD i 0))) ∧ ∀ n ∈ zs, (Lit.int k n).wf = true

theorem low22 : MM.low 22 2 = 6 := by decide +kernel
theorem cnt22 : MM.cnt 22 = 3 := by decide +kernel
set_option maxRecDepth 100000 in
set_option maxHeartbeats 1000000 in
theorem awake_any (w : World) (hT : Tab w) : Calls Tryd.prog 10 #[] w fun e w' => e = .returned (.bool true) ∧ Below w.heap.size w w' := by
  have h1 := lowest_any 22 (by decide) 2 (by rw [cnt22]; decide) w hT hT.size
  have h2 := count_any 22 (by decide)
  rw [low22] at h1
  rw [cnt22] at h2
  have H1 := Lib.hid h1
  have H2 := Lib.hid h2
  clear h1 h2
  go_enter Tryd.func10, Tryd.ntmps10
  go_wp2_with (first
    | (go_at_call 11; refine H1.out.mono ?_; rintro e w1 ⟨rfl, hb⟩)
    | (go_at_call 17; refine (H2.out _).mono ?_; rintro e w' ⟨rfl, rfl⟩))
  go_ret
  exact ⟨rfl, hb⟩

/-- What a call leaves: nothing that was there has changed; the library's table lies as it lay. -/
structure Stays (w w' : World) : Prop where
  below : Below w.heap.size w w'
  tab : Tab w'
theorem Stays.of {w w' : World} (hT : Tab w) (h : Below w.heap.size w w') : Stays w w' := ⟨h, hT.below h hT.size⟩
theorem Stays.trans {a b c : World} (h : Stays a b) (k : Stays b c) : Stays a c := ⟨h.below.trans (k.below.mono h.below.size), k.tab⟩
theorem awake_t (w : World) (hT : Tab w) : Calls Tryd.prog 10 #[] w fun e w' => e = .returned (.bool true) ∧ Stays w w' ∧ Tab w' :=
  (awake_any w hT).mono fun _ _ h => ⟨h.1, .of hT h.2, (Stays.of hT h.2).tab⟩
theorem full_t (x : Nat) (hx : x < 18446744073709551616) (k : Nat) (hk : MM.cnt x < k) (w : World) (hT : Tab w) :
    Calls Tryd.prog 11 #[.int .u64 x, .int .i64 k] w fun e w' => e = .returned (.tuple #[.int .u64 0, .int .i64 2]) ∧ Stays w w' ∧ Tab w' :=
  (lowest_full x hx k hk w).mono fun _ _ h => ⟨h.1, .of hT h.2, (Stays.of hT h.2).tab⟩
theorem lowest_t (x : Nat) (hx : x < 18446744073709551616) (k : Nat) (hk : k ≤ MM.cnt x) (w : World) (hT : Tab w) :
    Calls Tryd.prog 11 #[.int .u64 x, .int .i64 k] w fun e w' => e = .returned (.tuple #[.int .u64 (MM.low x k), .int .i64 0]) ∧ Stays w w' ∧ Tab w' :=
  (lowest_any x hx k hk w hT hT.size).mono fun _ _ h => ⟨h.1, .of hT h.2, (Stays.of hT h.2).tab⟩
theorem low_all {x : Nat} (hx : x < 18446744073709551616) : MM.low x (MM.cnt x) = x := by
  unfold MM.low MM.cnt
  rw [List.take_length]
  exact MM.ofu_units hx
theorem all_t (x : Nat) (hx : x < 18446744073709551616) (w : World) (hT : Tab w) :
    Calls Tryd.prog 11 #[.int .u64 x, .int .i64 (MM.cnt x)] w fun e w' => e = .returned (.tuple #[.int .u64 x, .int .i64 0]) ∧ Stays w w' ∧ Tab w' :=
  (lowest_t x hx _ (Nat.le_refl _) w hT).mono fun _ _ h => by rw [low_all hx] at h; exact h

/-- A slice of numbers that a call has made. -/
def Row (w : World) (a : Option Addr) (l : List Nat) : Prop :=
  l = [] ∨ ∃ g, a = some ⟨g, 0, none⟩ ∧ g < w.heap.size ∧ ∀ j, j < l.length → w.cell? ⟨g, j, none⟩ = some (.int .i64 ((l[j]?.getD 0 : Nat) : Int))
theorem Row.below {w w' : World} {a : Option Addr} {l : List Nat} (h : Row w a l) (b : Below w.heap.size w w') : Row w' a l := by
  rcases h with h | ⟨g, ha, hg, hc⟩
  · exact .inl h
  · exact .inr ⟨g, ha, Nat.lt_of_lt_of_le hg b.size, fun j hj => (b.cell (p := ⟨g, j, none⟩) hg).trans (hc j hj)⟩
theorem Row.stays {w w' : World} {a : Option Addr} {l : List Nat} (h : Row w a l) (b : Stays w w') : Row w' a l := h.below b.below
theorem row_of_owns {w : World} {base : Nat} {v : Value} {l : List Nat} (h : w.ownsRow base 3 1 v l.length (ints l)) : ∃ a cap, v = .slice a l.length cap ∧ Row w a l := by
  have h' := h
  rcases h.2 with ⟨rfl, h0⟩ | ⟨g, cap, cur, rfl, _, hg, _⟩
  · rw [h0]; exact ⟨none, 0, rfl, .inl (List.length_eq_zero_iff.1 h0)⟩
  · refine ⟨_, cap, rfl, .inr ⟨g, rfl, (Array.getElem?_eq_some_iff.1 hg).1, fun j hj => ?_⟩⟩
    have := h'.cellAt j (by omega)
    rw [this]
    simp [ints, hj]
theorem units_t (x : Nat) (hx : x < 18446744073709551616) (w : World) (hT : Tab w) :
    Calls Tryd.prog 20 #[.int .u64 x] w fun e w' => ∃ a cap, e = .returned (.slice a (MM.cnt x) cap) ∧ Row w' a (MM.units x) ∧ Stays w w' ∧ Tab w' :=
  (units_any x hx w hT hT.size).mono fun _ _ h => by
    obtain ⟨v, rfl, hr, hb⟩ := h
    obtain ⟨a, cap, rfl, hrow⟩ := row_of_owns (l := MM.units x) hr
    exact ⟨a, cap, rfl, hrow, .of hT hb, (Stays.of hT hb).tab⟩
end Go.Proofs.YtldameiggeibnaaDoor
