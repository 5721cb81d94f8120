/- A rank; the closures that hold two waits against each other. -/
import Derived.RegionTactic
import Derived.BigRegion
import Derived.Deep.QuietTactic
import Derived.BigQuiet
import Derived.Deep.RegionWith
import Derived.Test.YtdeniikaddlifaaOrdBase
namespace Go.Proofs.Ytdeniikaddlifaa
open Go.RowKit

/-- A block of a wait. -/
abbrev wtO (x : Wt) : Obj := .cells (wtA x) 39
theorem wt_new (w : World) (x : Wt) : (w.alloc (wtO x)).heap[w.heap.size]? = some (.cells (wtA x) 39 (0, 0)) := heap_alloc_new w _
theorem floor_parts (d age : Int) (h : 1 ≤ age) : (d.tmod age < 0 → d / age = d.tdiv age - 1) ∧ (0 ≤ d.tmod age → d / age = d.tdiv age) ∧ (d.tdiv age).natAbs ≤ d.natAbs := by
  have e0 := Int.mul_tdiv_add_tmod d age
  have m1 := Int.lt_tmod_of_pos d (show 0 < age by omega)
  have m2 := Int.tmod_lt_of_pos d (show 0 < age by omega)
  refine ⟨fun hy => ?_, fun hy => ?_, Int.natAbs_tdiv_le_natAbs d age⟩
  · exact ((Int.ediv_emod_unique (a := d) (b := age) (q := d.tdiv age - 1) (r := d.tmod age + age) (by omega)).2 ⟨by rw [Int.mul_sub, Int.mul_one]; omega, by omega, by omega⟩).1
  · exact ((Int.ediv_emod_unique (a := d) (b := age) (q := d.tdiv age) (r := d.tmod age) (by omega)).2 ⟨by omega, by omega, by omega⟩).1
set_option maxRecDepth 100000 in
set_option maxHeartbeats 2000000 in
theorem rank_any (x : Wt) (tick age : Int) (w : World) (h1 : 0 ≤ tick) (h2 : tick ≤ 2147483648) (h3 : 1 ≤ age) (h4 : age ≤ 1024) (hx : mayW x = true) :
    Calls Try.prog 49 #[wtV x, .int .i64 tick, .int .i64 age] w fun e w' => e = .returned (.int .i64 (rankF x tick age)) ∧ Below w.heap.size w w' := by
  obtain ⟨p1, p2, p3, p4⟩ := mayW_iff.1 hx
  unfold rankF
  have hb := wt_new w x
  have hB := Lib.hid ((Below.refl w.heap.size w).alloc (Nat.le_refl _) (wtO x))
  obtain ⟨id, q, p, r, g, c, mn, mx, s, n⟩ := x
  simp only [wtV, wtA, wtO] at *
  have c2 := cell_blk (i := 2) hb rfl
  have c8 := cell_blk (i := 8) hb rfl
  obtain ⟨d, hd⟩ : ∃ d, d = tick - s := ⟨_, rfl⟩
  have d1 : -1073741824 ≤ d := by omega
  have d2 : d ≤ 2147483648 := by omega
  obtain ⟨f1, f2, f3⟩ := floor_parts d age h3
  have eq0 : (tick - s) / age = d / age := by rw [hd]
  obtain ⟨X, hX⟩ : ∃ X, X = d.tdiv age := ⟨_, rfl⟩
  rw [← hX] at f1 f2 f3
  have x1 : -2147483648 ≤ X := by omega
  have x2 : X ≤ 2147483648 := by omega
  have dx : IntKind.i64.wrap (d.tdiv age) = X := by rw [← hX]; exact IntWalk.i64_in _ (by omega)
  have dd : IntKind.i64.wrap (tick - s) = d := by rw [hd]; exact IntWalk.i64_in _ (by omega)
  have ha : age ≠ 0 := by omega
  have Hp := Lib.hid (And.intro p1 p2)
  by_cases hy : d.tmod age < 0
  · have t1 : decide (d.tmod age < 0) = true := decide_eq_true hy
    have E := Lib.hid (show (tick - s) / age = X - 1 by rw [eq0]; exact f1 hy)
    clear hd f1 f2 f3 eq0 hX hy hb hx
    go_enter Try.func49, Try.ntmps49
    go_wp2
    go_ret
    exact ⟨by rw [E.out]; rfl, hB.out⟩
  · have t1 : decide (d.tmod age < 0) = false := decide_eq_false hy
    have E := Lib.hid (show (tick - s) / age = X by rw [eq0]; exact f2 (by omega))
    clear hd f1 f2 f3 eq0 hX hy hb hx
    go_enter Try.func49, Try.ntmps49
    go_wp2
    go_ret
    exact ⟨by rw [E.out]; rfl, hB.out⟩

/-! ### Waits in memory -/
/-- A wait lies there. -/
abbrev WtAt (w : World) (g o : Nat) (x : Wt) : Prop := CellsAt w g o (wtC x)
theorem wtAt_new {w : World} {g : Nat} {x : Wt} (h : w.heap[g]? = some (wtO x)) : WtAt w g 0 x := fun r v hr => by
  rw [Nat.zero_add]
  exact cell_blk h (by simpa [wtC, wtA] using hr)
theorem run_load_wt {oi : Oper} {ρ : Operand → Value} {W : World} {y : Operand} {g o : Nat} {x : Wt} (ho : oi.op = .load 39 y) (hy : ρ y = .pointer (some ⟨g, o, none⟩)) (h : WtAt W g o x) :
    (execOp ρ oi).run Try.prog W = .ok (.value (.agg (wtA x))) W := by
  have hl : (loadCells ⟨g, o, none⟩ 10).run Try.prog W = .ok (wtA x) W := run_loadCells_list (P := Try.prog) W ⟨g, o, none⟩ (wtC x) fun j v hv => by rw [Addr.add_lit]; exact h j v hv
  have ha : (isAgg 39).run Try.prog W = .ok true W := by
    unfold isAgg
    rw [Sem.run_bind, run_underlying Try.underlying39 W]
    simp
  unfold execOp
  simp only [ho, hy, Instr.loadAt, Instr.sureAddr, Sem.run_bind, Sem.run_pure, Result.andThen_ok, loadVar, ha, if_true, Try.sizeOf39, hl]
end Go.Proofs.Ytdeniikaddlifaa
