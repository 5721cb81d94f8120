/- What a law is told of a shape, or of what is free at a spot, that came in; the document's example. -/
import Derived.Test.YtjenokegpbhciaaDoorReads
import Derived.Test.YtjenokegpbhciaaDoorShapeRef3
set_option maxRecDepth 100000
namespace Go.Proofs.YtjenokegpbhciaaDoor
open Go.ChangeShapes Go.WideShapes Go.ChangeAt Go.RowKit Go.Deep

def shpSh : Sh := .struct (.cons (.int .i64) (.cons (.int .i64) (.cons (.int .i64) (.cons (.int .i64) .nil))))
def freeSh : Sh := .struct (.cons (.struct (.cons (.int .i64) (.cons (.int .i64) .nil))) (.cons (.int .u64) (.cons (.int .i64) .nil)))
section
variable {H : Type} {enc : TypeId × Value → H} {w : World} {held : Bool} {r : Reach} {b0 : Nat} {v : Value} {d : DataW H} {p : List MemPlace}
theorem shape_of (hv : Value.okWide Tryd.prog w r b0 23 v) (h : DataW.Trod enc Tryd.prog w 0 (fun _ => true) held 23 v d p) :
    ∃ g c mn mx : Int, v = .agg #[.int .i64 g, .int .i64 c, .int .i64 mn, .int .i64 mx] ∧ Shp.Wf ⟨g, c, mn, mx⟩ := by
  obtain ⟨cs, rfl, hl, hh⟩ := arg_struct (sh := shpSh) Tryd.underlying23 (by kernel_rfl) hv h
  match cs, hl with
  | [a, b, c, d], _ =>
    simp [shpSh, Sh.Holds, Sh.size] at hh
    obtain ⟨⟨x, rfl, hx⟩, ⟨y, rfl, hy⟩, ⟨z, rfl, hz⟩, ⟨u, rfl, hu⟩⟩ := hh
    exact ⟨x, y, z, u, rfl, ⟨hx, hy, hz, hu⟩⟩
theorem free_of (hv : Value.okWide Tryd.prog w r b0 28 v) (h : DataW.Trod enc Tryd.prog w 0 (fun _ => true) held 28 v d p) :
    ∃ (x y : Int) (m : Nat) (k : Int), v = .agg #[.int .i64 x, .int .i64 y, .int .u64 (m : Nat), .int .i64 k] ∧ m < 18446744073709551616 ∧ (Lit.int .i64 k).wf = true := by
  obtain ⟨cs, rfl, hl, hh⟩ := arg_struct (sh := freeSh) Tryd.underlying28 (by kernel_rfl) hv h
  match cs, hl with
  | [a, b, c, d], _ =>
    simp [freeSh, Sh.Holds, Sh.size] at hh
    obtain ⟨⟨⟨x, rfl, hx⟩, ⟨y, rfl, hy⟩⟩, ⟨m, rfl, hm⟩, ⟨z, rfl, hz⟩⟩ := hh
    have hb := bounds_u64 hm
    obtain ⟨n, rfl⟩ : ∃ n : Nat, m = n := ⟨m.toNat, by omega⟩
    exact ⟨x, y, n, z, rfl, by omega, hz⟩
end
theorem cnt31 : MM.cnt 31 = 5 := by decide +kernel
set_option maxHeartbeats 1000000 in
theorem awake_any (w : World) (hT : Tab w) : Calls Tryd.prog 8 #[] w fun e w' => e = .returned (.bool true) ∧ Below w.heap.size w w' := by
  have h1 : Calls Tryd.prog 13 #[.agg #[.int .i64 2, .int .i64 3, .int .i64 1, .int .i64 4], .agg #[.int .i64 0, .int .i64 0, .int .u64 31, .int .i64 7]] w fun e w' => e = .returned (.int .i64 2) ∧ Below w.heap.size w w' := by
    have := fits_ok 2 3 1 4 0 0 31 7 w ⟨by decide, by decide, by decide, by decide⟩ (by decide) (by decide) (by decide) hT
    rw [cnt31] at this
    exact this
  have h2 : ∀ W, Calls Tryd.prog 12 #[.agg #[.int .i64 0, .int .i64 0, .int .i64 1, .int .i64 1]] W fun e w' => e = .returned (.int .i64 1) ∧ Below W.heap.size W w' := fun W => check_no 0 0 1 1 W ⟨by decide, by decide, by decide, by decide⟩ (by decide)
  have H1 := Lib.hid h1
  have H2 := Lib.hid h2
  clear h1 h2 hT
  go_enter Tryd.func8, Tryd.ntmps8
  go_wp2_with (first
    | (go_at_call 13; refine H1.out.mono ?_; rintro e w1 ⟨rfl, hb1⟩)
    | (go_at_call 12; refine (H2.out _).mono ?_; rintro e w2 ⟨rfl, hb2⟩))
  go_ret
  exact ⟨rfl, below_step hb1 hb2⟩
end Go.Proofs.YtjenokegpbhciaaDoor
