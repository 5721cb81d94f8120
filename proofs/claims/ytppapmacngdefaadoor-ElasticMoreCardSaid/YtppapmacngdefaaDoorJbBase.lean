/- A job: its numbers, in memory, and as it comes in. -/
import Derived.Test.YtppapmacngdefaaDoorKitP
import Derived.Test.YtppapmacngdefaaDoorShapeQ
import Derived.Test.YtppapmacngdefaaDoorProg
set_option linter.unusedVariables false
set_option maxRecDepth 100000
namespace Go.Proofs.YtppapmacngdefaaDoor
open Go.ChangeShapes Go.WideShapes Go.ChangeAt Go.RowKit Go.Deep
/-- A job. -/
structure Jb where
  id : Int
  q : Int
  p : Int
  r : Int
  g : Int
  c : Int
  mn : Int
  mx : Int
  deriving DecidableEq
def jbC (j : Jb) : List Value := [.int .i64 j.id, .int .i64 j.q, .int .i64 j.p, .int .i64 j.r, .int .i64 j.g, .int .i64 j.c, .int .i64 j.mn, .int .i64 j.mx]
def jbA (j : Jb) : Array Value := #[.int .i64 j.id, .int .i64 j.q, .int .i64 j.p, .int .i64 j.r, .int .i64 j.g, .int .i64 j.c, .int .i64 j.mn, .int .i64 j.mx]
def jbV (j : Jb) : Value := .agg (jbA j)
structure JbW (j : Jb) : Prop where
  id : (Lit.int .i64 j.id).wf = true
  q : (Lit.int .i64 j.q).wf = true
  p : (Lit.int .i64 j.p).wf = true
  r : (Lit.int .i64 j.r).wf = true
  g : (Lit.int .i64 j.g).wf = true
  c : (Lit.int .i64 j.c).wf = true
  mn : (Lit.int .i64 j.mn).wf = true
  mx : (Lit.int .i64 j.mx).wf = true
def shpShG : Sh := .struct (.cons (.int .i64) (.cons (.int .i64) (.cons (.int .i64) (.cons (.int .i64) .nil))))
def jobShG : Sh := .struct (.cons (.int .i64) (.cons (.int .i64) (.cons (.int .i64) (.cons (.int .i64) (.cons shpShG .nil)))))
theorem jb_lift {w : World} {B : Nat} {cs : List Value} (hl : cs.length = 8) (h : jobShG.Holds w B cs) : ∃ j : Jb, cs = jbC j ∧ JbW j := by
  match cs, hl with
  | [a, b, c, d, e, f, g, i], _ =>
    simp [jobShG, shpShG, Sh.Holds, Sh.size] at h
    obtain ⟨⟨x4, rfl, h4⟩, ⟨x5, rfl, h5⟩, ⟨x6, rfl, h6⟩, ⟨x7, rfl, h7⟩, ⟨x8, rfl, h8⟩, ⟨x9, rfl, h9⟩, ⟨x10, rfl, h10⟩, ⟨x11, rfl, h11⟩⟩ := h
    exact ⟨⟨x4, x5, x6, x7, x8, x9, x10, x11⟩, rfl, ⟨h4, h5, h6, h7, h8, h9, h10, h11⟩⟩
theorem run_load_jb {oi : Oper} {ρ : Operand → Value} {W : World} {y : Operand} {g o : Nat} {j : Jb} (ho : oi.op = .load 32 y) (hy : ρ y = .pointer (some ⟨g, o, none⟩)) (h : CellsAt W g o (jbC j)) :
    (execOp ρ oi).run Tryd.prog W = .ok (.value (.agg #[.int .i64 j.id, .int .i64 j.q, .int .i64 j.p, .int .i64 j.r, .int .i64 j.g, .int .i64 j.c, .int .i64 j.mn, .int .i64 j.mx])) W := by
  have hl : (loadCells ⟨g, o, none⟩ 8).run Tryd.prog W = .ok #[.int .i64 j.id, .int .i64 j.q, .int .i64 j.p, .int .i64 j.r, .int .i64 j.g, .int .i64 j.c, .int .i64 j.mn, .int .i64 j.mx] W := run_loadCells_list (P := Tryd.prog) W ⟨g, o, none⟩ (jbC j) fun k v hv => by rw [Addr.add_lit]; exact h k v hv
  have ha : (isAgg 32).run Tryd.prog W = .ok true W := by
    unfold isAgg
    rw [Sem.run_bind, run_underlying Tryd.underlying32 W]
    simp
  unfold execOp
  simp only [ho, hy, Instr.loadAt, Instr.sureAddr, Sem.run_bind, Sem.run_pure, Result.andThen_ok, loadVar, ha, if_true, Tryd.sizeOf32, hl]
theorem wpList_load_jb {ops : Array Oper} {rest : List Oper} {o : Oper} {a : Act} {w : World} {Q : Exit → Act → World → Prop} (hgd : o.guard = none) (y : Operand) (ho : o.op = .load 32 y)
    (g off : Nat) (j : Jb) (hy : a.eval y = .pointer (some ⟨g, off, none⟩)) (hx : CellsAt w g off (jbC j)) (h : wpList Tryd.prog ops Q rest (a.put o.dst (.agg #[.int .i64 j.id, .int .i64 j.q, .int .i64 j.p, .int .i64 j.r, .int .i64 j.g, .int .i64 j.c, .int .i64 j.mn, .int .i64 j.mx])) w) : wpList Tryd.prog ops Q (o :: rest) a w := by
  refine wpList_plain hgd fun K hK => ?_
  unfold Oper.wp
  rw [run_load_jb ho hy hx]
  exact hK _ _ h
section
variable {H : Type} {enc : TypeId × Value → H} {w : World} {held : Bool} {r : Reach} {b0 : Nat} {v : Value} {d : DataW H} {p : List MemPlace}
theorem jb_of (hv : Value.okWide Tryd.prog w r b0 32 v) (h : DataW.Trod enc Tryd.prog w 0 (fun _ => true) held 32 v d p) : ∃ j : Jb, v = jbV j ∧ JbW j := by
  obtain ⟨cs, rfl, hl, hh⟩ := arg_struct (sh := jobShG) Tryd.underlying32 (by kernel_rfl) hv h
  obtain ⟨s, rfl, hs⟩ := jb_lift (by rw [hl]; kernel_rfl) hh
  exact ⟨s, rfl, hs⟩
end
end Go.Proofs.YtppapmacngdefaaDoor
