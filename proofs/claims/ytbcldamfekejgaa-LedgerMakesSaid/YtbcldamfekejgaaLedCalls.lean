/- A ledger's Commit. -/
/- A ledger's closures: which holds are late, which have a slot of a node. -/
/- A ledger's Undrain, Expire, Drain. -/
/- A ledger's Drain. -/
/- A ledger's Release. -/
import Derived.RegionTactic
import Derived.BigRegion
import Derived.Test.YtbcldamfekejgaaLedRows
import Derived.Deep.RegionHeld3
set_option maxRecDepth 100000
set_option linter.unusedVariables false
namespace Go.Proofs.Ytbcldamfekejgaa
open Go.RowKit Go.MuLone

end Go.Proofs.Ytbcldamfekejgaa

set_option maxRecDepth 100000
set_option linter.unusedVariables false
namespace Go.Proofs.Ytbcldamfekejgaa
open Go.RowKit Go.Shelf

instance : Inhabited PM.Sl := ⟨⟨0, 0, 0, 0⟩⟩
end Go.Proofs.Ytbcldamfekejgaa

set_option maxRecDepth 100000
set_option linter.unusedVariables false
namespace Go.Proofs.Ytbcldamfekejgaa
open Go.RowKit Go.MuLone

theorem turn_err {dr : List Bool} {x : Int} {b : Bool} (h : (turn dr x b).1 ≠ 0) : (turn dr x b).2 = dr := by
  unfold turn at h ⊢
  split
  · rfl
  · split
    · rfl
    · simp_all
namespace LM
theorem go_ver {fs : List Fr} : ∀ (l : List Hd) (st : LS), (l.foldl (letGo fs) st).ver = st.ver
  | [], _ => rfl
  | x :: l, st => by rw [List.foldl_cons, go_ver l]; rfl
end LM
theorem turn_len2 (dr : List Bool) (x : Int) (b : Bool) : (turn dr x b).2.length = dr.length := by
  unfold turn
  split
  · rfl
  · split
    · rfl
    · simp

end Go.Proofs.Ytbcldamfekejgaa

set_option maxRecDepth 100000
set_option linter.unusedVariables false
namespace Go.Proofs.Ytbcldamfekejgaa
open Go.RowKit Go.MuLone

end Go.Proofs.Ytbcldamfekejgaa

set_option maxRecDepth 100000
set_option linter.unusedVariables false
namespace Go.Proofs.Ytbcldamfekejgaa
open Go.RowKit Go.MuLone

/-- A hold as a value; its slots' block is of G. -/
def HdIn (w : World) (G : Nat → Prop) (v : Value) (h : Hd) : Prop := ∃ A c, v = hdV h (.slice A h.sl.length c) ∧ Slots w w.heap.size A h.sl ∧ ∀ b off, A = some ⟨b, off, none⟩ → G b
/-- Five cells of a block are written anew. -/
abbrev set5 (W : World) (R : Nat) (v0 v1 v2 v3 v4 : Value) : World := ((((W.setCell ⟨R, 0, none⟩ v0).setCell ⟨R, 1, none⟩ v1).setCell ⟨R, 2, none⟩ v2).setCell ⟨R, 3, none⟩ v3).setCell ⟨R, 4, none⟩ v4
theorem set5_foot (W : World) (R : Nat) (v0 v1 v2 v3 v4 : Value) : Foot (· = R) W (set5 W R v0 v1 v2 v3 v4) :=
  Foot.setCell (F := (· = R)) (p := ⟨R, 4, none⟩) (Foot.setCell (F := (· = R)) (p := ⟨R, 3, none⟩) (Foot.setCell (F := (· = R)) (p := ⟨R, 2, none⟩) (Foot.setCell (F := (· = R)) (p := ⟨R, 1, none⟩) (Foot.setCell (F := (· = R)) (p := ⟨R, 0, none⟩) (Foot.refl _ W) (.inl rfl) _) (.inl rfl) _) (.inl rfl) _) (.inl rfl) _) (.inl rfl) _
theorem set5_blk {W : World} {R : Nat} {u0 u1 u2 u3 u4 : Value} {t : TypeId} (h : W.heap[R]? = some (.cells #[u0, u1, u2, u3, u4] t (0, 0))) (v0 v1 v2 v3 v4 : Value) : (set5 W R v0 v1 v2 v3 v4).heap[R]? = some (.cells #[v0, v1, v2, v3, v4] t (0, 0)) :=
  blk_put (i := 4) v4 (blk_put (i := 3) v3 (blk_put (i := 2) v2 (blk_put (i := 1) v1 (blk_put (i := 0) v0 h))))

end Go.Proofs.Ytbcldamfekejgaa
