import Derived.Test.YtkkkhonjcbhelaaGreatDoorShapeQ
set_option maxRecDepth 100000
set_option linter.unusedVariables false
namespace Go.Proofs.YtkkkhonjcbhelaaGreatDoor
section
open Go.ChangeShapes Go.WideShapes Go.ChangeAt Go.RowKit Go.Deep
structure Wt where
 id : Int
 q : Int
 p : Int
 r : Int
 g : Int
 c : Int
 mn : Int
 mx : Int
 s : Int
 n : Int
 deriving DecidableEq
def wtC (x : Wt) : List Value := [.int .i64 x.id, .int .i64 x.q, .int .i64 x.p, .int .i64 x.r, .int .i64 x.g, .int .i64 x.c, .int .i64 x.mn, .int .i64 x.mx, .int .i64 x.s, .int .i64 x.n]
def wtA (x : Wt) : Array Value := #[.int .i64 x.id, .int .i64 x.q, .int .i64 x.p, .int .i64 x.r, .int .i64 x.g, .int .i64 x.c, .int .i64 x.mn, .int .i64 x.mx, .int .i64 x.s, .int .i64 x.n]
def wtV (x : Wt) : Value := .agg (wtA x)
theorem wtC_len (x : Wt) : (wtC x).length = 10 := rfl
structure WtW (x : Wt) : Prop where
 id : (Lit.int .i64 x.id).wf = true
 q : (Lit.int .i64 x.q).wf = true
 p : (Lit.int .i64 x.p).wf = true
 r : (Lit.int .i64 x.r).wf = true
 g : (Lit.int .i64 x.g).wf = true
 c : (Lit.int .i64 x.c).wf = true
 mn : (Lit.int .i64 x.mn).wf = true
 mx : (Lit.int .i64 x.mx).wf = true
 s : (Lit.int .i64 x.s).wf = true
 n : (Lit.int .i64 x.n).wf = true
abbrev wtO (x : Wt) : Obj := .cells (wtA x) 57
theorem wt_new (w : World) (x : Wt) : (w.alloc (wtO x)).heap[w.heap.size]? = some (.cells (wtA x) 57 (0, 0)) := heap_alloc_new w _
abbrev WtAt (w : World) (g o : Nat) (x : Wt) : Prop := CellsAt w g o (wtC x)
theorem run_load_wt {oi : Oper} {ρ : Operand → Value} {W : World} {y : Operand} {g o : Nat} {x : Wt} (ho : oi.op = .load 57 y) (hy : ρ y = .pointer (some ⟨g, o, none⟩)) (h : WtAt W g o x) :
  (execOp ρ oi).run Tryz.prog W = .ok (.value (.agg (wtA x))) W := by
 have hl : (loadCells ⟨g, o, none⟩ 10).run Tryz.prog W = .ok (wtA x) W := run_loadCells_list (P := Tryz.prog) W ⟨g, o, none⟩ (wtC x) fun j v hv => by rw [Addr.add_lit]; exact h j v hv
 have ha : (isAgg 57).run Tryz.prog W = .ok true W := by
  unfold isAgg;rw [Sem.run_bind, run_underlying Tryz.underlying57 W]
  simp
 unfold execOp;simp only [ho, hy, Instr.loadAt, Instr.sureAddr, Sem.run_bind, Sem.run_pure, Result.andThen_ok, loadVar, ha, if_true, Tryz.sizeOf57, hl]
abbrev Wts (w : World) (B : Nat) (A : Option Addr) (l : List Wt) : Prop := Els wtC 10 w B A l
def shpSh4 : Sh := .struct (.cons (.int .i64) (.cons (.int .i64) (.cons (.int .i64) (.cons (.int .i64) .nil))))
def jobSh : Sh := .struct (.cons (.int .i64) (.cons (.int .i64) (.cons (.int .i64) (.cons (.int .i64) (.cons shpSh4 .nil)))))
def wtSh : Sh := .struct (.cons jobSh (.cons (.int .i64) (.cons (.int .i64) .nil)))
theorem wt_lift {w : World} {B : Nat} {cs : List Value} (hl : cs.length = 10) (h : wtSh.Holds w B cs) : ∃ x : Wt, cs = wtC x ∧ WtW x := by
 match cs, hl with
 | [a, b, c, d, e, f, g, i, j, k], _ =>
  simp [wtSh, jobSh, shpSh4, Sh.Holds, Sh.size] at h;obtain ⟨⟨⟨x0, rfl, h0⟩, ⟨x1, rfl, h1⟩, ⟨x2, rfl, h2⟩, ⟨x3, rfl, h3⟩, ⟨x4, rfl, h4⟩, ⟨x5, rfl, h5⟩, ⟨x6, rfl, h6⟩, ⟨x7, rfl, h7⟩⟩, ⟨x8, rfl, h8⟩, ⟨x9, rfl, h9⟩⟩ := h;exact ⟨⟨x0, x1, x2, x3, x4, x5, x6, x7, x8, x9⟩, rfl, ⟨h0, h1, h2, h3, h4, h5, h6, h7, h8, h9⟩⟩
section
variable {H : Type} {enc : TypeId × Value → H} {w : World} {held : Bool} {r : Reach} {b0 : Nat} {v : Value} {d : DataW H} {p : List MemPlace}
end
end
set_option linter.unusedVariables false
set_option maxRecDepth 100000
section
open Go.ChangeShapes Go.WideShapes Go.ChangeAt Go.RowKit Go.Deep
structure Jb where
 id : Int
 q : Int
 p : Int
 r : Int
 g : Int
 c : Int
 mn : Int
 mx : Int
 deriving DecidableEq
def jbC (j : Jb) : List Value := [.int .i64 j.id, .int .i64 j.q, .int .i64 j.p, .int .i64 j.r, .int .i64 j.g, .int .i64 j.c, .int .i64 j.mn, .int .i64 j.mx]
def jbA (j : Jb) : Array Value := #[.int .i64 j.id, .int .i64 j.q, .int .i64 j.p, .int .i64 j.r, .int .i64 j.g, .int .i64 j.c, .int .i64 j.mn, .int .i64 j.mx]
def jbV (j : Jb) : Value := .agg (jbA j)
structure JbW (j : Jb) : Prop where
 id : (Lit.int .i64 j.id).wf = true
 q : (Lit.int .i64 j.q).wf = true
 p : (Lit.int .i64 j.p).wf = true
 r : (Lit.int .i64 j.r).wf = true
 g : (Lit.int .i64 j.g).wf = true
 c : (Lit.int .i64 j.c).wf = true
 mn : (Lit.int .i64 j.mn).wf = true
 mx : (Lit.int .i64 j.mx).wf = true
def shpShG : Sh := .struct (.cons (.int .i64) (.cons (.int .i64) (.cons (.int .i64) (.cons (.int .i64) .nil))))
def jobShG : Sh := .struct (.cons (.int .i64) (.cons (.int .i64) (.cons (.int .i64) (.cons (.int .i64) (.cons shpShG .nil)))))
theorem run_load_jb {oi : Oper} {ρ : Operand → Value} {W : World} {y : Operand} {g o : Nat} {j : Jb} (ho : oi.op = .load 47 y) (hy : ρ y = .pointer (some ⟨g, o, none⟩)) (h : CellsAt W g o (jbC j)) :
  (execOp ρ oi).run Tryz.prog W = .ok (.value (.agg #[.int .i64 j.id, .int .i64 j.q, .int .i64 j.p, .int .i64 j.r, .int .i64 j.g, .int .i64 j.c, .int .i64 j.mn, .int .i64 j.mx])) W := by
 have hl : (loadCells ⟨g, o, none⟩ 8).run Tryz.prog W = .ok #[.int .i64 j.id, .int .i64 j.q, .int .i64 j.p, .int .i64 j.r, .int .i64 j.g, .int .i64 j.c, .int .i64 j.mn, .int .i64 j.mx] W := run_loadCells_list (P := Tryz.prog) W ⟨g, o, none⟩ (jbC j) fun k v hv => by rw [Addr.add_lit]; exact h k v hv
 have ha : (isAgg 47).run Tryz.prog W = .ok true W := by
  unfold isAgg;rw [Sem.run_bind, run_underlying Tryz.underlying47 W]
  simp
 unfold execOp;simp only [ho, hy, Instr.loadAt, Instr.sureAddr, Sem.run_bind, Sem.run_pure, Result.andThen_ok, loadVar, ha, if_true, Tryz.sizeOf47, hl]
theorem wpList_load_jb {ops : Array Oper} {rest : List Oper} {o : Oper} {a : Act} {w : World} {Q : Exit → Act → World → Prop} (hgd : o.guard = none) (y : Operand) (ho : o.op = .load 47 y)
  (g off : Nat) (j : Jb) (hy : a.eval y = .pointer (some ⟨g, off, none⟩)) (hx : CellsAt w g off (jbC j)) (h : wpList Tryz.prog ops Q rest (a.put o.dst (.agg #[.int .i64 j.id, .int .i64 j.q, .int .i64 j.p, .int .i64 j.r, .int .i64 j.g, .int .i64 j.c, .int .i64 j.mn, .int .i64 j.mx])) w) : wpList Tryz.prog ops Q (o :: rest) a w := by
 refine wpList_plain hgd fun K hK => ?_
 unfold Oper.wp;rw [run_load_jb ho hy hx];exact hK _ _ h
section
variable {H : Type} {enc : TypeId × Value → H} {w : World} {held : Bool} {r : Reach} {b0 : Nat} {v : Value} {d : DataW H} {p : List MemPlace}
end
end
set_option linter.unusedVariables false
set_option maxRecDepth 100000
section
open Go.ChangeShapes Go.WideShapes Go.ChangeAt Go.RowKit Go.Deep
structure Rc where
 id : Int
 q : Int
 p : Int
 r : Int
 g : Int
 c : Int
 mn : Int
 mx : Int
 st : Int
 si : Int
 nu : Int
 me : Int
 bg : Int
 en : Int
 li : Int
 wo : Int
 deriving DecidableEq
def rcC (x : Rc) : List Value := [.int .i64 x.id, .int .i64 x.q, .int .i64 x.p, .int .i64 x.r, .int .i64 x.g, .int .i64 x.c, .int .i64 x.mn, .int .i64 x.mx, .int .i64 x.st, .int .i64 x.si, .int .i64 x.nu, .int .i64 x.me, .int .i64 x.bg, .int .i64 x.en, .int .i64 x.li, .int .i64 x.wo]
def rcA (x : Rc) : Array Value := #[.int .i64 x.id, .int .i64 x.q, .int .i64 x.p, .int .i64 x.r, .int .i64 x.g, .int .i64 x.c, .int .i64 x.mn, .int .i64 x.mx, .int .i64 x.st, .int .i64 x.si, .int .i64 x.nu, .int .i64 x.me, .int .i64 x.bg, .int .i64 x.en, .int .i64 x.li, .int .i64 x.wo]
def RcAt (w : World) (g o : Nat) (x : Rc) : Prop := CellsAt w g o (rcC x)
theorem run_load_rc {oi : Oper} {ρ : Operand → Value} {W : World} {y : Operand} {g o : Nat} {x : Rc} (ho : oi.op = .load 51 y) (hy : ρ y = .pointer (some ⟨g, o, none⟩)) (h : RcAt W g o x) :
  (execOp ρ oi).run Tryz.prog W = .ok (.value (.agg (rcA x))) W := by
 have hl : (loadCells ⟨g, o, none⟩ 16).run Tryz.prog W = .ok (rcA x) W := run_loadCells_list (P := Tryz.prog) W ⟨g, o, none⟩ (rcC x) fun j v hv => by rw [Addr.add_lit]; exact h j v hv
 have ha : (isAgg 51).run Tryz.prog W = .ok true W := by
  unfold isAgg;rw [Sem.run_bind, run_underlying Tryz.underlying51 W]
  simp
 unfold execOp;simp only [ho, hy, Instr.loadAt, Instr.sureAddr, Sem.run_bind, Sem.run_pure, Result.andThen_ok, loadVar, ha, if_true, Tryz.sizeOf51, hl]
end
end Go.Proofs.YtkkkhonjcbhelaaGreatDoor
