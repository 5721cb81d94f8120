/- Calls put into one row: elements told by their cells; what a law's few asks of such a row. -/
import Derived.Deep.DrawnRows
import Derived.SizedLaws
import Derived.ChangeArms
import Derived.Test.YtgpfmlidchogcaaGreatKitZ
import Derived.Test.YtgpfmlidchogcaaGreatLedActM
set_option maxRecDepth 100000
namespace Go.Proofs.YtgpfmlidchogcaaGreat
open Go.RowKit Go.MuLone
structure Lx where
 a : La
 A : Option Addr
 c : Nat
def lxC (x : Lx) : List Value := laC x.a x.A x.c
theorem run_load_la {oi : Oper} {ρ : Operand → Value} {W : World} {y : Operand} {g o : Nat} {x : Lx} (ho : oi.op = .load 49 y) (hy : ρ y = .pointer (some ⟨g, o, none⟩)) (h : CellsAt W g o (lxC x)) :
  (execOp ρ oi).run Tryz.prog W = .ok (.value (.agg (lxC x).toArray)) W := by
 have hl : (loadCells ⟨g, o, none⟩ 7).run Tryz.prog W = .ok (lxC x).toArray W := run_loadCells_list (P := Tryz.prog) W ⟨g, o, none⟩ (lxC x) fun j v hv => by rw [Addr.add_lit]; exact h j v hv
 have ha : (isAgg 49).run Tryz.prog W = .ok true W := by
  unfold isAgg
  rw [Sem.run_bind, run_underlying Tryz.underlying49 W]
  simp
 unfold execOp
 simp only [ho, hy, Instr.loadAt, Instr.sureAddr, Sem.run_bind, Sem.run_pure, Result.andThen_ok, loadVar, ha, if_true, Tryz.sizeOf49, hl]
theorem new_0 (w : World) (a b : Obj) : ((w.alloc a).alloc b).heap[w.heap.size]? = some a := by
 rw [Below.heap_alloc _ _ _ (by simp)]
 exact heap_alloc_new w a
theorem new_1 (w : World) (a b : Obj) : ((w.alloc a).alloc b).heap[w.heap.size + 1]? = some b := by
 have := heap_alloc_new (w.alloc a) b
 simpa using this
end Go.Proofs.YtgpfmlidchogcaaGreat
