/- Two pools side by side: what is done to one leaves the other. -/
import Derived.Laws.StructEq
import Derived.Test.YtgdbjepddcmfoaaPoolLaws
namespace Go.Proofs.Ytgdbjepddcmfoaa
open Go.RowKit

/-! ### Two pools side by side -/
structure Two (w : World) (Ta : Nat → Prop) (pa ga da : Nat) (Tb : Nat → Prop) (pb gb db : Nat) (fs : List Fr) (sa sb : List Fr × List Bool) : Prop where
  a : PoolAt w Ta pa ga da fs sa.1 sa.2
  b : PoolAt w Tb pb gb db fs sb.1 sb.2
  fa : ∀ i, (i = pa ∨ i = ga ∨ i = da) → ¬ Tb i ∧ i ≠ pb ∧ i ≠ gb ∧ i ≠ db
  fb : ∀ i, (i = pb ∨ i = gb ∨ i = db) → ¬ Ta i
theorem Two.symm {w : World} {Ta Tb : Nat → Prop} {pa ga da pb gb db : Nat} {fs : List Fr} {sa sb : List Fr × List Bool} (h : Two w Ta pa ga da Tb pb gb db fs sa sb) : Two w Tb pb gb db Ta pa ga da fs sb sa :=
  ⟨h.b, h.a, fun i hi => ⟨h.fb i hi, by
    have h1 := h.fa pa (.inl rfl); have h2 := h.fa ga (.inr (.inl rfl)); have h3 := h.fa da (.inr (.inr rfl))
    rcases hi with rfl | rfl | rfl
    · exact ⟨Ne.symm h1.2.1, Ne.symm h2.2.1, Ne.symm h3.2.1⟩
    · exact ⟨Ne.symm h1.2.2.1, Ne.symm h2.2.2.1, Ne.symm h3.2.2.1⟩
    · exact ⟨Ne.symm h1.2.2.2, Ne.symm h2.2.2.2, Ne.symm h3.2.2.2⟩⟩, fun i hi => (h.fa i hi).1⟩
theorem Two.keep {w w' : World} {Ta Tb : Nat → Prop} {pa ga da pb gb db : Nat} {fs : List Fr} {sa sb : List Fr × List Bool} (h : Two w Ta pa ga da Tb pb gb db fs sa sb) (hk : Below w.heap.size w w') : Two w' Ta pa ga da Tb pb gb db fs sa sb :=
  ⟨h.a.keep hk, h.b.keep hk, h.fa, h.fb⟩
/-- A call of the first. -/
theorem Two.step {w w' : World} {Ta Tb : Nat → Prop} {pa ga ga' da pb gb db : Nat} {fs : List Fr} {sa sa' sb : List Fr × List Bool} (h : Two w Ta pa ga da Tb pb gb db fs sa sb) (hp : PoolAt w' Ta pa ga' da fs sa'.1 sa'.2) (hf : Foot (fun i => i = pa ∨ i = ga ∨ i = da) w w')
    (hg : ga' = ga ∨ w.heap.size ≤ ga') : Two w' Ta pa ga' da Tb pb gb db fs sa' sb := by
  refine ⟨hp, h.b.foot hf h.fa, ?_, h.fb⟩
  have hl := h.b.lt
  rintro i (rfl | rfl | rfl)
  · exact h.fa _ (.inl rfl)
  · rcases hg with rfl | hg
    · exact h.fa _ (.inr (.inl rfl))
    · exact ⟨fun ht => by have := h.b.old _ ht; omega, by omega, by omega, by omega⟩
  · exact h.fa _ (.inr (.inr rfl))
/-- Two that are made one behind the other. -/
theorem Two.made {w0 w w' : World} {Ta Tb : Nat → Prop} {pa ga da pb gb db : Nat} {fs : List Fr} {sa sb : List Fr × List Bool} (ha : PoolAt w Ta pa ga da fs sa.1 sa.2) (hw : Below w.heap.size w w0) (hb : PoolAt w' Tb pb gb db fs sb.1 sb.2) (hk : Below w0.heap.size w0 w')
    (h1 : w0.heap.size ≤ pb) (h2 : w0.heap.size ≤ gb) (h3 : w0.heap.size ≤ db) (h4 : ∀ i, Tb i → w0.heap.size ≤ i) : Two w' Ta pa ga da Tb pb gb db fs sa sb := by
  have hl := ha.lt
  have hs := hw.size
  refine ⟨(ha.keep hw).keep hk, hb, ?_, ?_⟩
  · rintro i (rfl | rfl | rfl) <;> exact ⟨fun ht => by have := h4 _ ht; omega, by omega, by omega, by omega⟩
  · rintro i (rfl | rfl | rfl) ht <;> (have := ha.old _ ht; omega)
/-! ### Spots, and what is free at them, held against each other -/
set_option maxRecDepth 100000 in
theorem spot_neq (a b x y : Int) (W : World) : (binOp .neq 58 (.agg #[.int .i64 a, .int .i64 b]) (.agg #[.int .i64 x, .int .i64 y])).run Try.prog W = .ok (.bool (!(a == x && b == y))) W := by
  go_simp
  by_cases h1 : a = x <;> by_cases h2 : b = y <;> simp [h1, h2]
set_option maxRecDepth 100000 in
theorem free_neq (a b m c : Int) (W : World) : (binOp .neq 62 (.agg #[.int .i64 a, .int .i64 b, .int .u64 m, .int .i64 c]) (.agg #[.int .i64 a, .int .i64 b, .int .u64 m, .int .i64 c])).run Try.prog W = .ok (.bool false) W := by
  go_simp
end Go.Proofs.Ytgdbjepddcmfoaa
