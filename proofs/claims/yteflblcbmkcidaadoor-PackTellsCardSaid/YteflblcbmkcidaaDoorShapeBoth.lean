/- What the program answers on a shape, and what the document answers, side by side. -/
import Derived.Test.YteflblcbmkcidaaDoorSame
import Derived.Test.YteflblcbmkcidaaDoorShapeIn
namespace Go.Proofs.YteflblcbmkcidaaDoor
open Go.RowKit

theorem fit_one {g c u k : Nat} (h0 : 0 < g + c) (h1 : g ≤ u) (h2 : c ≤ k) : 0 < fitN g c u k := by
  unfold fitN tms
  have a1 : g ≠ 0 → 0 < u / g := fun h => Nat.div_pos h1 (by omega)
  have a2 : c ≠ 0 → 0 < k / c := fun h => Nat.div_pos h2 (by omega)
  split <;> split <;> (first | omega | (have := a1 ‹_›; have := a2 ‹_›; omega) | (have := a1 ‹_›; omega) | (have := a2 ‹_›; omega))
/-- A call of Fits, of Piece, at this shape and what is free. -/
def TellsFits (f : FuncId) (g c : Nat) (mn mx x y : Int) (m : Nat) (k : Int) (w : World) (N : Nat) : Prop := ∀ W, Below w.heap.size w W →
  Calls Tryd.prog f #[.agg #[.int .i64 (g : Int), .int .i64 (c : Int), .int .i64 mn, .int .i64 mx], .agg #[.int .i64 x, .int .i64 y, .int .u64 (m : Nat), .int .i64 k]] W fun e w' => e = .returned (.int .i64 (N : Nat)) ∧ Below W.heap.size W w'
def TellsPiece (f : FuncId) (g c : Nat) (mn mx x y : Int) (m : Nat) (k : Int) (w : World) (p0 p1 p2 p3 r0 r1 r2 r3 E : Int) : Prop := ∀ W, Below w.heap.size w W →
  Calls Tryd.prog f #[.agg #[.int .i64 (g : Int), .int .i64 (c : Int), .int .i64 mn, .int .i64 mx], .agg #[.int .i64 x, .int .i64 y, .int .u64 (m : Nat), .int .i64 k]] W fun e w' =>
    e = .returned (.tuple #[.agg #[.int .i64 p0, .int .i64 p1, .int .u64 p2, .int .i64 p3], .agg #[.int .i64 r0, .int .i64 r1, .int .u64 r2, .int .i64 r3], .int .i64 E]) ∧ Below W.heap.size W w'
theorem shape_both (g c : Nat) (mn mx x y : Int) (m : Nat) (k3 : Int) (w : World) (w0 : Shp.Wf ⟨g, c, mn, mx⟩) (hok : Shp.ok ⟨g, c, mn, mx⟩ = true) (wm : m < 18446744073709551616) (wk : (Lit.int .i64 k3).wf = true) (hT : Tab w) :
    ∃ (N : Nat) (E p0 p1 p2 p3 r0 r1 r2 r3 : Int), TellsFits 21 g c mn mx x y m k3 w N ∧ TellsFits 18 g c mn mx x y m k3 w N ∧
      TellsPiece 25 g c mn mx x y m k3 w p0 p1 p2 p3 r0 r1 r2 r3 E ∧ TellsPiece 19 g c mn mx x y m k3 w p0 p1 p2 p3 r0 r1 r2 r3 E ∧
      (decide (0 < N) = (E == 0)) ∧ N ≤ 16 := by
  obtain ⟨d1, d2⟩ := bounds_i64 wk
  have hTW := fun W (hW : Below w.heap.size w W) => hT.below hW hT.size
  by_cases hk : k3 < 0
  · have hF := fun W (_ : Below w.heap.size w W) => fits_neg g c mn mx x y m k3 W w0 hok hk
    refine ⟨0, 7, 0, 0, 0, 0, 0, 0, 0, 0, hF, fun W hW => reffits_neg g c mn mx x y m k3 W w0 hok wm (hTW W hW) hk, fun W hW => piece_full g c mn mx x y m k3 W w0 hok fun W' hW' => hF W' (hW.trans (hW'.mono hW.size)), fun W hW => ?_, by decide, by omega⟩
    by_cases hf : MM.cnt m < g
    · exact refpiece_few g c mn mx x y m k3 W wm (hTW W hW) hf
    · exact refpiece_neg g c mn mx x y m k3 W wm (hTW W hW) (by omega) hk
  · obtain ⟨k, rfl⟩ : ∃ k : Nat, k3 = k := ⟨k3.toNat, by omega⟩
    have hF := fun W (hW : Below w.heap.size w W) => fits_ok g c mn mx x y m k W w0 hok wm (by omega) (hTW W hW)
    have hR := fun W (hW : Below w.heap.size w W) => reffits_ok g c mn mx x y m k W w0 hok wm (hTW W hW) (by omega)
    have h16 := fit_le g c (MM.cnt m) k
    by_cases h0 : fitN g c (MM.cnt m) k = 0
    · rw [h0] at hF hR
      refine ⟨0, 7, 0, 0, 0, 0, 0, 0, 0, 0, hF, hR, fun W hW => piece_full g c mn mx x y m k W w0 hok fun W' hW' => hF W' (hW.trans (hW'.mono hW.size)), fun W hW => ?_, by decide, by omega⟩
      by_cases hf : MM.cnt m < g
      · exact refpiece_few g c mn mx x y m k W wm (hTW W hW) hf
      · refine refpiece_less g c mn mx x y m k W wm (hTW W hW) (by omega) (by omega) ?_
        rcases Nat.lt_or_ge k c with h | h
        · omega
        · obtain ⟨a, b, ha, hb, _, _, hab⟩ := Shp.nat hok
          have := fit_one (g := g) (c := c) (u := MM.cnt m) (k := k) (by omega) (by omega) h
          omega
    · obtain ⟨f1, f2⟩ := fit_pos (Nat.pos_of_ne_zero h0)
      exact ⟨_, 0, _, _, _, _, _, _, _, _, hF, hR, fun W hW => piece_ok g c mn mx x y m k W w0 hok wm (by omega) (hTW W hW) (Nat.pos_of_ne_zero h0), fun W hW => refpiece_ok g c mn mx x y m k W wm (by omega) (hTW W hW) f1 f2, by simp; omega, h16⟩
end Go.Proofs.YteflblcbmkcidaaDoor
