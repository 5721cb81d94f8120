/- What a law is told of a shape, or of what is free at a spot, that came in; the document's example. -/
import Derived.Test.YteflblcbmkcidaaDoorReads
import Derived.Test.YteflblcbmkcidaaDoorShapeRef3
set_option maxRecDepth 100000
namespace Go.Proofs.YteflblcbmkcidaaDoor
open Go.ChangeShapes Go.WideShapes Go.ChangeAt Go.RowKit Go.Deep

def shpSh : Sh := .struct (.cons (.int .i64) (.cons (.int .i64) (.cons (.int .i64) (.cons (.int .i64) .nil))))
def freeSh : Sh := .struct (.cons (.struct (.cons (.int .i64) (.cons (.int .i64) .nil))) (.cons (.int .u64) (.cons (.int .i64) .nil)))
section
variable {H : Type} {enc : TypeId × Value → H} {w : World} {held : Bool} {r : Reach} {b0 : Nat} {v : Value} {d : DataW H} {p : List MemPlace}
theorem shape_of (hv : Value.okWide Tryd.prog w r b0 24 v) (h : DataW.Trod enc Tryd.prog w 0 (fun _ => true) held 24 v d p) :
    ∃ g c mn mx : Int, v = .agg #[.int .i64 g, .int .i64 c, .int .i64 mn, .int .i64 mx] ∧ Shp.Wf ⟨g, c, mn, mx⟩ := by
  obtain ⟨cs, rfl, hl, hh⟩ := arg_struct (sh := shpSh) Tryd.underlying24 (by kernel_rfl) hv h
  match cs, hl with
  | [a, b, c, d], _ =>
    simp [shpSh, Sh.Holds, Sh.size] at hh
    obtain ⟨⟨x, rfl, hx⟩, ⟨y, rfl, hy⟩, ⟨z, rfl, hz⟩, ⟨u, rfl, hu⟩⟩ := hh
    exact ⟨x, y, z, u, rfl, ⟨hx, hy, hz, hu⟩⟩
theorem free_of (hv : Value.okWide Tryd.prog w r b0 40 v) (h : DataW.Trod enc Tryd.prog w 0 (fun _ => true) held 40 v d p) :
    ∃ (x y : Int) (m : Nat) (k : Int), v = .agg #[.int .i64 x, .int .i64 y, .int .u64 (m : Nat), .int .i64 k] ∧ m < 18446744073709551616 ∧ (Lit.int .i64 k).wf = true := by
  obtain ⟨cs, rfl, hl, hh⟩ := arg_struct (sh := freeSh) Tryd.underlying40 (by kernel_rfl) hv h
  match cs, hl with
  | [a, b, c, d], _ =>
    simp [freeSh, Sh.Holds, Sh.size] at hh
    obtain ⟨⟨⟨x, rfl, hx⟩, ⟨y, rfl, hy⟩⟩, ⟨m, rfl, hm⟩, ⟨z, rfl, hz⟩⟩ := hh
    have hb := bounds_u64 hm
    obtain ⟨n, rfl⟩ : ∃ n : Nat, m = n := ⟨m.toNat, by omega⟩
    exact ⟨x, y, n, z, rfl, by omega, hz⟩
end
theorem cnt31 : MM.cnt 31 = 5 := by decide +kernel
end Go.Proofs.YteflblcbmkcidaaDoor
