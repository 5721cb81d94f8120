/- A gang that waits: its numbers, in memory, and as it comes in. -/
import Derived.Test.YtppapmacngdefaaDoorKitP
import Derived.Test.YtppapmacngdefaaDoorShapeQ
import Derived.Test.YtppapmacngdefaaDoorProg
set_option linter.unusedVariables false
set_option maxRecDepth 100000
namespace Go.Proofs.YtppapmacngdefaaDoor
open Go.ChangeShapes Go.WideShapes Go.ChangeAt Go.RowKit Go.Deep
/-- A gang that waits: its job's numbers, since when, and the how manieth it was. -/
structure Wt where
  id : Int
  q : Int
  p : Int
  r : Int
  g : Int
  c : Int
  mn : Int
  mx : Int
  s : Int
  n : Int
  deriving DecidableEq
def wtC (x : Wt) : List Value := [.int .i64 x.id, .int .i64 x.q, .int .i64 x.p, .int .i64 x.r, .int .i64 x.g, .int .i64 x.c, .int .i64 x.mn, .int .i64 x.mx, .int .i64 x.s, .int .i64 x.n]
def wtA (x : Wt) : Array Value := #[.int .i64 x.id, .int .i64 x.q, .int .i64 x.p, .int .i64 x.r, .int .i64 x.g, .int .i64 x.c, .int .i64 x.mn, .int .i64 x.mx, .int .i64 x.s, .int .i64 x.n]
def wtV (x : Wt) : Value := .agg (wtA x)
/-- They came in as numbers of 64 bits. -/
structure WtW (x : Wt) : Prop where
  id : (Lit.int .i64 x.id).wf = true
  q : (Lit.int .i64 x.q).wf = true
  p : (Lit.int .i64 x.p).wf = true
  r : (Lit.int .i64 x.r).wf = true
  g : (Lit.int .i64 x.g).wf = true
  c : (Lit.int .i64 x.c).wf = true
  mn : (Lit.int .i64 x.mn).wf = true
  mx : (Lit.int .i64 x.mx).wf = true
  s : (Lit.int .i64 x.s).wf = true
  n : (Lit.int .i64 x.n).wf = true
/-- A block of a wait. -/
abbrev wtO (x : Wt) : Obj := .cells (wtA x) 101
theorem wt_new (w : World) (x : Wt) : (w.alloc (wtO x)).heap[w.heap.size]? = some (.cells (wtA x) 101 (0, 0)) := heap_alloc_new w _
/-- A slice of waits, below block B. -/
abbrev Wts (w : World) (B : Nat) (A : Option Addr) (l : List Wt) : Prop := Els wtC 10 w B A l
def shpSh4 : Sh := .struct (.cons (.int .i64) (.cons (.int .i64) (.cons (.int .i64) (.cons (.int .i64) .nil))))
def jobSh : Sh := .struct (.cons (.int .i64) (.cons (.int .i64) (.cons (.int .i64) (.cons (.int .i64) (.cons shpSh4 .nil)))))
def wtSh : Sh := .struct (.cons jobSh (.cons (.int .i64) (.cons (.int .i64) .nil)))
theorem wt_lift {w : World} {B : Nat} {cs : List Value} (hl : cs.length = 10) (h : wtSh.Holds w B cs) : ∃ x : Wt, cs = wtC x ∧ WtW x := by
  match cs, hl with
  | [a, b, c, d, e, f, g, i, j, k], _ =>
    simp [wtSh, jobSh, shpSh4, Sh.Holds, Sh.size] at h
    obtain ⟨⟨⟨x0, rfl, h0⟩, ⟨x1, rfl, h1⟩, ⟨x2, rfl, h2⟩, ⟨x3, rfl, h3⟩, ⟨x4, rfl, h4⟩, ⟨x5, rfl, h5⟩, ⟨x6, rfl, h6⟩, ⟨x7, rfl, h7⟩⟩, ⟨x8, rfl, h8⟩, ⟨x9, rfl, h9⟩⟩ := h
    exact ⟨⟨x0, x1, x2, x3, x4, x5, x6, x7, x8, x9⟩, rfl, ⟨h0, h1, h2, h3, h4, h5, h6, h7, h8, h9⟩⟩
section
variable {H : Type} {enc : TypeId × Value → H} {w : World} {held : Bool} {r : Reach} {b0 : Nat} {v : Value} {d : DataW H} {p : List MemPlace}
end
end Go.Proofs.YtppapmacngdefaaDoor
