/- Structs held against themselves: == tells true, != false. -/
import Derived.Laws.StructEq
import Derived.WalkKit
import Derived.Test.YteflblcbmkcidaaDoorProg
namespace Go.Proofs.YteflblcbmkcidaaDoor
open Go.RowKit

theorem slot_eq (a b m c : Int) (W : World) : (binOp .eql 41 (.agg #[.int .i64 a, .int .i64 b, .int .u64 m, .int .i64 c]) (.agg #[.int .i64 a, .int .i64 b, .int .u64 m, .int .i64 c])).run Tryd.prog W = .ok (.bool true) W := by go_simp
theorem slot_ne (a b m c : Int) (W : World) : (binOp .neq 41 (.agg #[.int .i64 a, .int .i64 b, .int .u64 m, .int .i64 c]) (.agg #[.int .i64 a, .int .i64 b, .int .u64 m, .int .i64 c])).run Tryd.prog W = .ok (.bool false) W := by go_simp
theorem free_eq (a b m c : Int) (W : World) : (binOp .eql 40 (.agg #[.int .i64 a, .int .i64 b, .int .u64 m, .int .i64 c]) (.agg #[.int .i64 a, .int .i64 b, .int .u64 m, .int .i64 c])).run Tryd.prog W = .ok (.bool true) W := by go_simp
theorem free_ne (a b m c : Int) (W : World) : (binOp .neq 40 (.agg #[.int .i64 a, .int .i64 b, .int .u64 m, .int .i64 c]) (.agg #[.int .i64 a, .int .i64 b, .int .u64 m, .int .i64 c])).run Tryd.prog W = .ok (.bool false) W := by go_simp
theorem spot_ne (a b : Int) (W : World) : (binOp .neq 38 (.agg #[.int .i64 a, .int .i64 b]) (.agg #[.int .i64 a, .int .i64 b])).run Tryd.prog W = .ok (.bool false) W := by go_simp
end Go.Proofs.YteflblcbmkcidaaDoor
