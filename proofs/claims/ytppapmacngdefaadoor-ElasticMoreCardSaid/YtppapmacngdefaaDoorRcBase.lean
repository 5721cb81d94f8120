/- A record: its numbers, in memory. -/
import Derived.Test.YtppapmacngdefaaDoorJbBase
set_option linter.unusedVariables false
set_option maxRecDepth 100000
namespace Go.Proofs.YtppapmacngdefaaDoor
open Go.ChangeShapes Go.WideShapes Go.ChangeAt Go.RowKit Go.Deep
/-- A gang's record: its job's numbers, and how it stands. -/
structure Rc where
  id : Int
  q : Int
  p : Int
  r : Int
  g : Int
  c : Int
  mn : Int
  mx : Int
  st : Int
  si : Int
  nu : Int
  me : Int
  bg : Int
  en : Int
  li : Int
  wo : Int
  deriving DecidableEq
def rcC (x : Rc) : List Value := [.int .i64 x.id, .int .i64 x.q, .int .i64 x.p, .int .i64 x.r, .int .i64 x.g, .int .i64 x.c, .int .i64 x.mn, .int .i64 x.mx, .int .i64 x.st, .int .i64 x.si, .int .i64 x.nu, .int .i64 x.me, .int .i64 x.bg, .int .i64 x.en, .int .i64 x.li, .int .i64 x.wo]
end Go.Proofs.YtppapmacngdefaaDoor
