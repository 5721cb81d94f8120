/- Acts and entries: loaded and stored whole. -/
import Derived.Laws.Tables
import Derived.Laws.Rows
import Derived.Test.YtplekkpfpidebaaWireTakA
set_option linter.unusedVariables false
set_option linter.unusedSimpArgs false
set_option maxRecDepth 100000
namespace Go.Proofs.Ytplekkpfpidebaa
open Go.RowKit
def enC (x : WM.We) : List Value := [.int .i64 x.a.k, .int .i64 x.a.n, .int .i64 x.a.id, .int .i64 x.a.q, .int .i64 x.a.p, .int .i64 x.a.r, .int .i64 x.a.g, .int .i64 x.a.c, .int .i64 x.a.mn, .int .i64 x.a.mx, .int .i64 x.e, .int .i64 x.t]
theorem enC_len (x : WM.We) : (enC x).length = 12 := rfl
theorem enC_one (x : WM.We) : ∀ v ∈ enC x, v.oneCell' = true := by simp [enC, Value.oneCell']
theorem acA_one (a : WM.Ac) : ((acA a).all fun x => x.oneCell') = true := by simp [acA, Value.oneCell']
theorem info_en : (Try.prog.info? 49).map (fun i => (i.zero, i.size, i.bytes)) = some (some (.agg #[.int .i64 0, .int .i64 0, .int .i64 0, .int .i64 0, .int .i64 0, .int .i64 0, .int .i64 0, .int .i64 0, .int .i64 0, .int .i64 0, .int .i64 0, .int .i64 0]), 12, 96) := by kernel_rfl
theorem foot_row {F : Nat → Prop} {w w' : World} {g : Nat} (h : Foot F w w') (hg : F g ∨ w.heap.size ≤ g) (cs : Array Value) : Foot F w (w'.setRow g cs) :=
  ⟨h.os, h.tape, h.output, by simp; exact h.size, fun i hi hn => (setRow_other w' g i cs (by rintro rfl; rcases hg with e | e; exact hn e; omega)).trans (h.block i hi hn)⟩
/-- An act is stored into a block of one. -/
theorem wpList_store_act {ops : Array Oper} {rest : List Oper} {o : Oper} {a : Act} {w : World} {Q : Exit → Act → World → Prop} (hgd : o.guard = none) (x y : Operand) (ho : o.op = .store 27 x y)
    (g : Nat) (z : WM.Ac) (hx : a.eval x = .pointer (some ⟨g, 0, none⟩)) (hy : a.eval y = .agg (acA z)) (old : WM.Ac) (hg : w.heap[g]? = some (.cells (acA old) 27 (0, 0)))
    (h : ∀ w' : World, w'.heap[g]? = some (.cells (acA z) 27 (0, 0)) → Foot (· = g) w w' → (∀ i, i ≠ g → w'.heap[i]? = w.heap[i]?) → wpList Try.prog ops Q rest (a.put o.dst undef) w') : wpList Try.prog ops Q (o :: rest) a w :=
  wpList_store_row hgd 27 x y ho g (acA z) hx hy 27 (acA old) hg (by kernel_rfl) rfl (acA_one z) (h _ (setRow_heap w g _ _ _ _ hg) (foot_row (F := (· = g)) (Foot.refl _ _) (.inl rfl) _) fun i hi => setRow_other w g i _ hi)
theorem run_load_act {oi : Oper} {ρ : Operand → Value} {W : World} {y : Operand} {g o : Nat} {x : WM.Ac} (ho : oi.op = .load 27 y) (hy : ρ y = .pointer (some ⟨g, o, none⟩)) (h : CellsAt W g o (acA x).toList) :
    (execOp ρ oi).run Try.prog W = .ok (.value (acV x)) W := by
  have hl : (loadCells ⟨g, o, none⟩ 10).run Try.prog W = .ok (acA x).toList.toArray W := run_loadCells_list (P := Try.prog) W ⟨g, o, none⟩ (acA x).toList fun j v hv => by rw [Addr.add_lit]; exact h j v hv
  have ha : (isAgg 27).run Try.prog W = .ok true W := by
    unfold isAgg
    rw [Sem.run_bind, run_underlying Try.underlying27 W]
    simp
  unfold execOp
  simp only [ho, hy, Instr.loadAt, Instr.sureAddr, Sem.run_bind, Sem.run_pure, Result.andThen_ok, loadVar, ha, if_true, Try.sizeOf27, hl]
  rfl
theorem wpList_load_act {ops : Array Oper} {rest : List Oper} {o : Oper} {a : Act} {w : World} {Q : Exit → Act → World → Prop} (hgd : o.guard = none) (y : Operand) (ho : o.op = .load 27 y)
    (g off : Nat) (x : WM.Ac) (hy : a.eval y = .pointer (some ⟨g, off, none⟩)) (hx : CellsAt w g off (acA x).toList) (h : wpList Try.prog ops Q rest (a.put o.dst (.agg #[.int .i64 x.k, .int .i64 x.n, .int .i64 x.id, .int .i64 x.q, .int .i64 x.p, .int .i64 x.r, .int .i64 x.g, .int .i64 x.c, .int .i64 x.mn, .int .i64 x.mx])) w) : wpList Try.prog ops Q (o :: rest) a w := by
  refine wpList_plain hgd fun K hK => ?_
  unfold Oper.wp
  rw [run_load_act ho hy hx]
  exact hK _ _ h
theorem at_blk {w : World} {g : Nat} {cs : Array Value} {ty : TypeId} (h : w.heap[g]? = some (.cells cs ty (0, 0))) : CellsAt w g 0 cs.toList := fun r v hr => by
  rw [Nat.zero_add]; exact cell_blk h (by simpa using hr)
def enV (x : WM.We) : Value := .agg (enC x).toArray
theorem run_load_en {oi : Oper} {ρ : Operand → Value} {W : World} {y : Operand} {g o : Nat} {x : WM.We} (ho : oi.op = .load 49 y) (hy : ρ y = .pointer (some ⟨g, o, none⟩)) (h : CellsAt W g o (enC x)) :
    (execOp ρ oi).run Try.prog W = .ok (.value (enV x)) W := by
  have hl : (loadCells ⟨g, o, none⟩ 12).run Try.prog W = .ok (enC x).toArray W := run_loadCells_list (P := Try.prog) W ⟨g, o, none⟩ (enC x) fun j v hv => by rw [Addr.add_lit]; exact h j v hv
  have ha : (isAgg 49).run Try.prog W = .ok true W := by
    unfold isAgg
    rw [Sem.run_bind, run_underlying Try.underlying49 W]
    simp
  unfold execOp
  simp only [ho, hy, Instr.loadAt, Instr.sureAddr, Sem.run_bind, Sem.run_pure, Result.andThen_ok, loadVar, ha, if_true, Try.sizeOf49, hl]
  rfl
theorem wpList_load_en {ops : Array Oper} {rest : List Oper} {o : Oper} {a : Act} {w : World} {Q : Exit → Act → World → Prop} (hgd : o.guard = none) (y : Operand) (ho : o.op = .load 49 y)
    (g off : Nat) (x : WM.We) (hy : a.eval y = .pointer (some ⟨g, off, none⟩)) (hx : CellsAt w g off (enC x)) (h : wpList Try.prog ops Q rest (a.put o.dst (.agg #[.int .i64 x.a.k, .int .i64 x.a.n, .int .i64 x.a.id, .int .i64 x.a.q, .int .i64 x.a.p, .int .i64 x.a.r, .int .i64 x.a.g, .int .i64 x.a.c, .int .i64 x.a.mn, .int .i64 x.a.mx, .int .i64 x.e, .int .i64 x.t])) w) : wpList Try.prog ops Q (o :: rest) a w := by
  refine wpList_plain hgd fun K hK => ?_
  unfold Oper.wp
  rw [run_load_en ho hy hx]
  exact hK _ _ h
/-- A row of fields stays, where an act's block alone is written. -/
theorem row_keep {w w' : World} {p : Nat} {a : WM.Ac} {ty : TypeId} {A : Option Addr} {fs : List FldP} (h : Els fpC 2 w w.heap.size A fs) (hp : w.heap[p]? = some (.cells (acA a) ty (0, 0))) (hF : Foot (· = p) w w') : Els fpC 2 w' w'.heap.size A fs := by
  rcases h with rfl | ⟨b, off, rfl, hb, hc⟩
  · exact .inl rfl
  · cases fs with
    | nil => exact .inl rfl
    | cons x fs =>
      have hn := not_act hp (hc 0 x rfl 0 _ rfl)
      exact .inr ⟨b, off, rfl, Nat.lt_of_lt_of_le hb hF.size, fun i y hy => (hc i y hy).of (hF.block b hb hn)⟩
end Go.Proofs.Ytplekkpfpidebaa
