/- A wait of three numbers; the document's example. -/
import Derived.RegionTactic
import Derived.BigRegion
import Derived.Deep.QuietTactic
import Derived.BigQuiet
import Derived.Deep.RegionWith
import Derived.Test.YtbknkfpgejkmoaaOrdAsk
namespace Go.Proofs.Ytbknkfpgejkmoaa
open Go.RowKit
set_option maxRecDepth 100000 in
set_option maxHeartbeats 2000000 in
theorem one_any (p s n : Int) (w : World) : Calls Try.prog 22 #[.int .i64 p, .int .i64 s, .int .i64 n] w fun e w' => e = .returned (wtV ⟨0, 0, p, 0, 0, 0, 0, 0, s, n⟩) ∧ Below w.heap.size w w' := by
  have hE := heap_alloc_new w (wtO ⟨0, 0, p, 0, 0, 0, 0, 0, s, n⟩)
  have hB := (Below.refl w.heap.size w).alloc (Nat.le_refl _) (wtO ⟨0, 0, p, 0, 0, 0, 0, 0, s, n⟩)
  simp only [wtO, wtV, wtA] at *
  have HE := Lib.hid (And.intro hE hB)
  clear hE hB
  go_enter Try.func22, Try.ntmps22
  go_wp2
  refine bodyPost_ret (v := .agg #[.int .i64 0, .int .i64 0, .int .i64 p, .int .i64 0, .int .i64 0, .int .i64 0, .int .i64 0, .int .i64 0, .int .i64 s, .int .i64 n]) (results_cell_row (p := 6) (ty := 27) Try.results22 _ _ w.heap.size 27 _ (0, 0) _ (by simp) HE.out.1 Try.underlying27 rfl (by kernel_rfl)) rfl ?_
  exact ⟨rfl, HE.out.2⟩
set_option maxRecDepth 100000 in
set_option maxHeartbeats 4000000 in
theorem awake_o (w : World) : Calls Try.prog 10 #[] w fun e w' => e = .returned (.bool true) ∧ Below w.heap.size w w' := by
  have O1 := Lib.hid (fun W => one_any 2 0 1 W)
  have O2 := Lib.hid (fun W => one_any 3 5 2 W)
  have R1 := Lib.hid (fun W => prank_any ⟨0, 0, 2, 0, 0, 0, 0, 0, 0, 1⟩ 6 4 W)
  have R2 := Lib.hid (fun W => prank_any ⟨0, 0, 3, 0, 0, 0, 0, 0, 5, 2⟩ 6 4 W)
  have A1 := Lib.hid (fun W => pahead_any ⟨0, 0, 2, 0, 0, 0, 0, 0, 0, 1⟩ ⟨0, 0, 3, 0, 0, 0, 0, 0, 5, 2⟩ 6 4 W)
  rw [show (mayA 6 4 && mayW ⟨0, 0, 2, 0, 0, 0, 0, 0, 0, 1⟩) = true by decide, if_pos rfl, if_pos rfl, show rankF ⟨0, 0, 2, 0, 0, 0, 0, 0, 0, 1⟩ 6 4 = 3 by decide] at R1
  rw [show (mayA 6 4 && mayW ⟨0, 0, 3, 0, 0, 0, 0, 0, 5, 2⟩) = true by decide, if_pos rfl, if_pos rfl, show rankF ⟨0, 0, 3, 0, 0, 0, 0, 0, 5, 2⟩ 6 4 = 3 by decide] at R2
  rw [show (mayA 6 4 && (mayW ⟨0, 0, 2, 0, 0, 0, 0, 0, 0, 1⟩ && mayW ⟨0, 0, 3, 0, 0, 0, 0, 0, 5, 2⟩)) = true by decide, if_pos rfl, show aheadF 6 4 ⟨0, 0, 2, 0, 0, 0, 0, 0, 0, 1⟩ ⟨0, 0, 3, 0, 0, 0, 0, 0, 5, 2⟩ = true by decide] at A1
  simp only [Bool.and_true, wtV, wtA] at O1 O2 R1 R2 A1
  go_enter Try.func10, Try.ntmps10
  go_wp2_with fail
  refine (O1.out _).mono ?_; rintro e w1 ⟨rfl, hb1⟩
  go_wp2_with fail
  refine (R1.out _).mono ?_; rintro e w2 ⟨rfl, hb2⟩
  have hb2 := below_step hb1 hb2
  clear hb1
  go_wp2_with fail
  refine (O2.out _).mono ?_; rintro e w3 ⟨rfl, hb3⟩
  have hb3 := below_step hb2 hb3
  clear hb2
  go_wp2_with fail
  refine (R2.out _).mono ?_; rintro e w4 ⟨rfl, hb4⟩
  have hb4 := below_step hb3 hb4
  clear hb3
  go_wp2_with fail
  refine (O1.out _).mono ?_; rintro e w5 ⟨rfl, hb5⟩
  have hb5 := below_step hb4 hb5
  clear hb4
  go_wp2_with fail
  refine (O2.out _).mono ?_; rintro e w6 ⟨rfl, hb6⟩
  have hb6 := below_step hb5 hb6
  clear hb5
  go_wp2_with fail
  refine (A1.out _).mono ?_; rintro e w7 ⟨rfl, hb7⟩
  have hb7 := below_step hb6 hb7
  clear hb6
  go_wp2
  go_ret
  exact ⟨by first | rfl | simp, hb7⟩
end Go.Proofs.Ytbknkfpgejkmoaa
