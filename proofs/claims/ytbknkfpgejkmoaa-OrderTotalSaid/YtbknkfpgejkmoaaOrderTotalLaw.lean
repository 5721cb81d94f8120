/- Of two that differ in Number or Id just one is ahead, none of itself, and who is ahead of one that is ahead of a third is ahead of that: the law OrderTotal answers true, at every input. -/
import Derived.Test.YtbknkfpgejkmoaaFrame
import Derived.Test.YtbknkfpgejkmoaaOrdIn
import Derived.Test.YtbknkfpgejkmoaaOrdAwake
set_option linter.unusedVariables false
namespace Go.Proofs.Ytbknkfpgejkmoaa.orderTotal
open Go Go.ChangeShapes Go.WideShapes Go.ChangeAt Go.RowKit
theorem ahead_irrefl (t a : Int) (x : Wt) : aheadF t a x x = false := by unfold aheadF; rw [decide_eq_false_iff_not]; omega
theorem ahead_asymm (t a : Int) (x y : Wt) : ¬ (aheadF t a x y = true ∧ aheadF t a y x = true) := by unfold aheadF; simp only [decide_eq_true_eq]; omega
theorem ahead_trans (t a : Int) (x y z : Wt) (h1 : aheadF t a x y = true) (h2 : aheadF t a y z = true) : aheadF t a x z = true := by unfold aheadF at *; simp only [decide_eq_true_eq] at *; omega
theorem ahead_total (t a : Int) (x y : Wt) (h : x.n ≠ y.n ∨ x.id ≠ y.id) : aheadF t a x y = !aheadF t a y x := by
  cases h1 : aheadF t a x y <;> cases h2 : aheadF t a y x <;> unfold aheadF at h1 h2 <;> simp only [decide_eq_true_eq, decide_eq_false_iff_not] at h1 h2 <;> first | rfl | (exfalso; omega)
set_option maxRecDepth 100000 in
set_option maxHeartbeats 4000000 in
theorem walk (x y z : Wt) (now age : Int) (w : World) (wx : WtW x) (wy : WtW y) (wz : WtW z) (wn : (Lit.int .i64 now).wf = true) (wa : (Lit.int .i64 age).wf = true) :
    Calls Try.prog 5 #[wtV x, wtV y, wtV z, .int .i64 now, .int .i64 age] w fun e w' => e = .returned (.bool true) ∧ Below w.heap.size w w' := by
  have AW := Lib.hid (fun W => awake_o W)
  have C1 := fun W => pahead_any x y now age W
  have C2 := fun W => pahead_any y x now age W
  have C3 := fun W => pahead_any y z now age W
  have C4 := fun W => pahead_any x z now age W
  have C5 := fun W => pahead_any x x now age W
  have H1 : Hid (¬ (aheadF now age x y = true ∧ aheadF now age y x = true)) := Lib.hid (fun h => ahead_asymm _ _ _ _ h)
  have H2 : Hid (aheadF now age x y = true → aheadF now age y z = true → aheadF now age x z = true) := Lib.hid (fun h h' => ahead_trans _ _ _ _ _ h h')
  have H4 : Hid (x.n ≠ y.n ∨ x.id ≠ y.id → aheadF now age x y = !aheadF now age y x) := Lib.hid (fun h => ahead_total _ _ _ _ h)
  have H3 : Hid True := Lib.hid trivial
  rw [ahead_irrefl] at C5
  obtain ⟨ab, hab⟩ : ∃ r, r = aheadF now age x y := ⟨_, rfl⟩
  obtain ⟨ba, hba⟩ : ∃ r, r = aheadF now age y x := ⟨_, rfl⟩
  obtain ⟨bc, hbc⟩ : ∃ r, r = aheadF now age y z := ⟨_, rfl⟩
  obtain ⟨ac, hac⟩ : ∃ r, r = aheadF now age x z := ⟨_, rfl⟩
  rw [← hab] at C1 H1 H2 H4
  rw [← hba] at C2 H1 H4
  rw [← hbc] at C3 H2
  rw [← hac] at C4 H2
  clear hab hba hbc hac wx wy wz wn wa
  have HQ0 := Lib.hid ((((Bx.nil w).box x).box y).box z)
  simp only [World.size_alloc] at HQ0
  cases hV : (mayA now age && (mayW x && mayW y))
  · rw [hV] at C1
    rw [show (mayA now age && (mayW y && mayW x)) = false by rw [Bool.and_comm (mayW y)]; exact hV] at C2
    obtain ⟨v3, hv3⟩ : ∃ r, r = (mayA now age && (mayW y && mayW z) && bc) := ⟨_, rfl⟩
    obtain ⟨v4, hv4⟩ : ∃ r, r = (mayA now age && (mayW x && mayW z) && ac) := ⟨_, rfl⟩
    obtain ⟨v5, hv5⟩ : ∃ r, r = (mayA now age && (mayW x && mayW x) && false) := ⟨_, rfl⟩
    obtain ⟨n3, hn3⟩ : ∃ r : Int, r = (if mayA now age && (mayW y && mayW z) then 0 else 1) := ⟨_, rfl⟩
    obtain ⟨n4, hn4⟩ : ∃ r : Int, r = (if mayA now age && (mayW x && mayW z) then 0 else 1) := ⟨_, rfl⟩
    obtain ⟨n5, hn5⟩ : ∃ r : Int, r = (if mayA now age && (mayW x && mayW x) then 0 else 1) := ⟨_, rfl⟩
    rw [← hv3, ← hn3] at C3
    rw [← hv4, ← hn4] at C4
    rw [← hv5, ← hn5] at C5
    clear hv3 hv4 hv5 hn3 hn4 hn5 hV H1 H2 H3 H4
    simp only [Bool.false_and, Bool.false_eq_true, if_false, wtV, wtA, wtO] at C1 C2 C3 C4 C5 HQ0 ⊢
    have C1 := Lib.hid C1
    have C2 := Lib.hid C2
    have C3 := Lib.hid C3
    have C4 := Lib.hid C4
    have C5 := Lib.hid C5
    go_enter Try.func5, Try.ntmps5
    go_wp2_with fail
    refine (AW.out _).mono ?_
    rintro e w1 ⟨rfl, hb1⟩
    have HQ1 := Lib.hid (HQ0.out.keep hb1)
    clear hb1
    obtain ⟨C, eC⟩ : ∃ q, q = w.heap.size + 1 + 1 := ⟨_, rfl⟩
    rw [← eC]
    rw [← eC] at HQ1
    have HeC := Lib.hid eC
    clear eC
    obtain ⟨B, eB⟩ : ∃ q, q = w.heap.size + 1 := ⟨_, rfl⟩
    rw [← eB]
    rw [← eB] at HQ1
    have HeB := Lib.hid eB
    clear eB
    obtain ⟨A, eA⟩ : ∃ q, q = w.heap.size := ⟨_, rfl⟩
    rw [← eA]
    rw [← eA] at HQ1
    have HeA := Lib.hid eA
    clear eA
    have cC0 : w1.cell? ⟨C, 0, none⟩ = some (.int .i64 (z.id)) := HQ1.out.at_ 0 rfl 0 _ rfl
    have cC1 : w1.cell? ⟨C, 1, none⟩ = some (.int .i64 (z.q)) := HQ1.out.at_ 0 rfl 1 _ rfl
    have cC2 : w1.cell? ⟨C, 2, none⟩ = some (.int .i64 (z.p)) := HQ1.out.at_ 0 rfl 2 _ rfl
    have cC3 : w1.cell? ⟨C, 3, none⟩ = some (.int .i64 (z.r)) := HQ1.out.at_ 0 rfl 3 _ rfl
    have cC4 : w1.cell? ⟨C, 4, none⟩ = some (.int .i64 (z.g)) := HQ1.out.at_ 0 rfl 4 _ rfl
    have cC5 : w1.cell? ⟨C, 5, none⟩ = some (.int .i64 (z.c)) := HQ1.out.at_ 0 rfl 5 _ rfl
    have cC6 : w1.cell? ⟨C, 6, none⟩ = some (.int .i64 (z.mn)) := HQ1.out.at_ 0 rfl 6 _ rfl
    have cC7 : w1.cell? ⟨C, 7, none⟩ = some (.int .i64 (z.mx)) := HQ1.out.at_ 0 rfl 7 _ rfl
    have cC8 : w1.cell? ⟨C, 8, none⟩ = some (.int .i64 (z.s)) := HQ1.out.at_ 0 rfl 8 _ rfl
    have cC9 : w1.cell? ⟨C, 9, none⟩ = some (.int .i64 (z.n)) := HQ1.out.at_ 0 rfl 9 _ rfl
    have cB0 : w1.cell? ⟨B, 0, none⟩ = some (.int .i64 (y.id)) := HQ1.out.at_ 1 rfl 0 _ rfl
    have cB1 : w1.cell? ⟨B, 1, none⟩ = some (.int .i64 (y.q)) := HQ1.out.at_ 1 rfl 1 _ rfl
    have cB2 : w1.cell? ⟨B, 2, none⟩ = some (.int .i64 (y.p)) := HQ1.out.at_ 1 rfl 2 _ rfl
    have cB3 : w1.cell? ⟨B, 3, none⟩ = some (.int .i64 (y.r)) := HQ1.out.at_ 1 rfl 3 _ rfl
    have cB4 : w1.cell? ⟨B, 4, none⟩ = some (.int .i64 (y.g)) := HQ1.out.at_ 1 rfl 4 _ rfl
    have cB5 : w1.cell? ⟨B, 5, none⟩ = some (.int .i64 (y.c)) := HQ1.out.at_ 1 rfl 5 _ rfl
    have cB6 : w1.cell? ⟨B, 6, none⟩ = some (.int .i64 (y.mn)) := HQ1.out.at_ 1 rfl 6 _ rfl
    have cB7 : w1.cell? ⟨B, 7, none⟩ = some (.int .i64 (y.mx)) := HQ1.out.at_ 1 rfl 7 _ rfl
    have cB8 : w1.cell? ⟨B, 8, none⟩ = some (.int .i64 (y.s)) := HQ1.out.at_ 1 rfl 8 _ rfl
    have cB9 : w1.cell? ⟨B, 9, none⟩ = some (.int .i64 (y.n)) := HQ1.out.at_ 1 rfl 9 _ rfl
    have cA0 : w1.cell? ⟨A, 0, none⟩ = some (.int .i64 (x.id)) := HQ1.out.at_ 2 rfl 0 _ rfl
    have cA1 : w1.cell? ⟨A, 1, none⟩ = some (.int .i64 (x.q)) := HQ1.out.at_ 2 rfl 1 _ rfl
    have cA2 : w1.cell? ⟨A, 2, none⟩ = some (.int .i64 (x.p)) := HQ1.out.at_ 2 rfl 2 _ rfl
    have cA3 : w1.cell? ⟨A, 3, none⟩ = some (.int .i64 (x.r)) := HQ1.out.at_ 2 rfl 3 _ rfl
    have cA4 : w1.cell? ⟨A, 4, none⟩ = some (.int .i64 (x.g)) := HQ1.out.at_ 2 rfl 4 _ rfl
    have cA5 : w1.cell? ⟨A, 5, none⟩ = some (.int .i64 (x.c)) := HQ1.out.at_ 2 rfl 5 _ rfl
    have cA6 : w1.cell? ⟨A, 6, none⟩ = some (.int .i64 (x.mn)) := HQ1.out.at_ 2 rfl 6 _ rfl
    have cA7 : w1.cell? ⟨A, 7, none⟩ = some (.int .i64 (x.mx)) := HQ1.out.at_ 2 rfl 7 _ rfl
    have cA8 : w1.cell? ⟨A, 8, none⟩ = some (.int .i64 (x.s)) := HQ1.out.at_ 2 rfl 8 _ rfl
    have cA9 : w1.cell? ⟨A, 9, none⟩ = some (.int .i64 (x.n)) := HQ1.out.at_ 2 rfl 9 _ rfl
    go_wp2_with fail
    refine (C1.out _).mono ?_
    rintro e w2 ⟨rfl, hb2⟩
    have HQ2 := Lib.hid (HQ1.out.keep hb2)
    clear hb2
    clear HQ1
    clear cC0 cC1 cC2 cC3 cC4 cC5 cC6 cC7 cC8 cC9 cB0 cB1 cB2 cB3 cB4 cB5 cB6 cB7 cB8 cB9 cA0 cA1 cA2 cA3 cA4 cA5 cA6 cA7 cA8 cA9
    have cC0 : w2.cell? ⟨C, 0, none⟩ = some (.int .i64 (z.id)) := HQ2.out.at_ 0 rfl 0 _ rfl
    have cC1 : w2.cell? ⟨C, 1, none⟩ = some (.int .i64 (z.q)) := HQ2.out.at_ 0 rfl 1 _ rfl
    have cC2 : w2.cell? ⟨C, 2, none⟩ = some (.int .i64 (z.p)) := HQ2.out.at_ 0 rfl 2 _ rfl
    have cC3 : w2.cell? ⟨C, 3, none⟩ = some (.int .i64 (z.r)) := HQ2.out.at_ 0 rfl 3 _ rfl
    have cC4 : w2.cell? ⟨C, 4, none⟩ = some (.int .i64 (z.g)) := HQ2.out.at_ 0 rfl 4 _ rfl
    have cC5 : w2.cell? ⟨C, 5, none⟩ = some (.int .i64 (z.c)) := HQ2.out.at_ 0 rfl 5 _ rfl
    have cC6 : w2.cell? ⟨C, 6, none⟩ = some (.int .i64 (z.mn)) := HQ2.out.at_ 0 rfl 6 _ rfl
    have cC7 : w2.cell? ⟨C, 7, none⟩ = some (.int .i64 (z.mx)) := HQ2.out.at_ 0 rfl 7 _ rfl
    have cC8 : w2.cell? ⟨C, 8, none⟩ = some (.int .i64 (z.s)) := HQ2.out.at_ 0 rfl 8 _ rfl
    have cC9 : w2.cell? ⟨C, 9, none⟩ = some (.int .i64 (z.n)) := HQ2.out.at_ 0 rfl 9 _ rfl
    have cB0 : w2.cell? ⟨B, 0, none⟩ = some (.int .i64 (y.id)) := HQ2.out.at_ 1 rfl 0 _ rfl
    have cB1 : w2.cell? ⟨B, 1, none⟩ = some (.int .i64 (y.q)) := HQ2.out.at_ 1 rfl 1 _ rfl
    have cB2 : w2.cell? ⟨B, 2, none⟩ = some (.int .i64 (y.p)) := HQ2.out.at_ 1 rfl 2 _ rfl
    have cB3 : w2.cell? ⟨B, 3, none⟩ = some (.int .i64 (y.r)) := HQ2.out.at_ 1 rfl 3 _ rfl
    have cB4 : w2.cell? ⟨B, 4, none⟩ = some (.int .i64 (y.g)) := HQ2.out.at_ 1 rfl 4 _ rfl
    have cB5 : w2.cell? ⟨B, 5, none⟩ = some (.int .i64 (y.c)) := HQ2.out.at_ 1 rfl 5 _ rfl
    have cB6 : w2.cell? ⟨B, 6, none⟩ = some (.int .i64 (y.mn)) := HQ2.out.at_ 1 rfl 6 _ rfl
    have cB7 : w2.cell? ⟨B, 7, none⟩ = some (.int .i64 (y.mx)) := HQ2.out.at_ 1 rfl 7 _ rfl
    have cB8 : w2.cell? ⟨B, 8, none⟩ = some (.int .i64 (y.s)) := HQ2.out.at_ 1 rfl 8 _ rfl
    have cB9 : w2.cell? ⟨B, 9, none⟩ = some (.int .i64 (y.n)) := HQ2.out.at_ 1 rfl 9 _ rfl
    have cA0 : w2.cell? ⟨A, 0, none⟩ = some (.int .i64 (x.id)) := HQ2.out.at_ 2 rfl 0 _ rfl
    have cA1 : w2.cell? ⟨A, 1, none⟩ = some (.int .i64 (x.q)) := HQ2.out.at_ 2 rfl 1 _ rfl
    have cA2 : w2.cell? ⟨A, 2, none⟩ = some (.int .i64 (x.p)) := HQ2.out.at_ 2 rfl 2 _ rfl
    have cA3 : w2.cell? ⟨A, 3, none⟩ = some (.int .i64 (x.r)) := HQ2.out.at_ 2 rfl 3 _ rfl
    have cA4 : w2.cell? ⟨A, 4, none⟩ = some (.int .i64 (x.g)) := HQ2.out.at_ 2 rfl 4 _ rfl
    have cA5 : w2.cell? ⟨A, 5, none⟩ = some (.int .i64 (x.c)) := HQ2.out.at_ 2 rfl 5 _ rfl
    have cA6 : w2.cell? ⟨A, 6, none⟩ = some (.int .i64 (x.mn)) := HQ2.out.at_ 2 rfl 6 _ rfl
    have cA7 : w2.cell? ⟨A, 7, none⟩ = some (.int .i64 (x.mx)) := HQ2.out.at_ 2 rfl 7 _ rfl
    have cA8 : w2.cell? ⟨A, 8, none⟩ = some (.int .i64 (x.s)) := HQ2.out.at_ 2 rfl 8 _ rfl
    have cA9 : w2.cell? ⟨A, 9, none⟩ = some (.int .i64 (x.n)) := HQ2.out.at_ 2 rfl 9 _ rfl
    go_wp2_with fail
    refine (C2.out _).mono ?_
    rintro e w3 ⟨rfl, hb3⟩
    have HQ3 := Lib.hid (HQ2.out.keep hb3)
    clear hb3
    clear HQ2
    clear cC0 cC1 cC2 cC3 cC4 cC5 cC6 cC7 cC8 cC9 cB0 cB1 cB2 cB3 cB4 cB5 cB6 cB7 cB8 cB9 cA0 cA1 cA2 cA3 cA4 cA5 cA6 cA7 cA8 cA9
    have cC0 : w3.cell? ⟨C, 0, none⟩ = some (.int .i64 (z.id)) := HQ3.out.at_ 0 rfl 0 _ rfl
    have cC1 : w3.cell? ⟨C, 1, none⟩ = some (.int .i64 (z.q)) := HQ3.out.at_ 0 rfl 1 _ rfl
    have cC2 : w3.cell? ⟨C, 2, none⟩ = some (.int .i64 (z.p)) := HQ3.out.at_ 0 rfl 2 _ rfl
    have cC3 : w3.cell? ⟨C, 3, none⟩ = some (.int .i64 (z.r)) := HQ3.out.at_ 0 rfl 3 _ rfl
    have cC4 : w3.cell? ⟨C, 4, none⟩ = some (.int .i64 (z.g)) := HQ3.out.at_ 0 rfl 4 _ rfl
    have cC5 : w3.cell? ⟨C, 5, none⟩ = some (.int .i64 (z.c)) := HQ3.out.at_ 0 rfl 5 _ rfl
    have cC6 : w3.cell? ⟨C, 6, none⟩ = some (.int .i64 (z.mn)) := HQ3.out.at_ 0 rfl 6 _ rfl
    have cC7 : w3.cell? ⟨C, 7, none⟩ = some (.int .i64 (z.mx)) := HQ3.out.at_ 0 rfl 7 _ rfl
    have cC8 : w3.cell? ⟨C, 8, none⟩ = some (.int .i64 (z.s)) := HQ3.out.at_ 0 rfl 8 _ rfl
    have cC9 : w3.cell? ⟨C, 9, none⟩ = some (.int .i64 (z.n)) := HQ3.out.at_ 0 rfl 9 _ rfl
    have cB0 : w3.cell? ⟨B, 0, none⟩ = some (.int .i64 (y.id)) := HQ3.out.at_ 1 rfl 0 _ rfl
    have cB1 : w3.cell? ⟨B, 1, none⟩ = some (.int .i64 (y.q)) := HQ3.out.at_ 1 rfl 1 _ rfl
    have cB2 : w3.cell? ⟨B, 2, none⟩ = some (.int .i64 (y.p)) := HQ3.out.at_ 1 rfl 2 _ rfl
    have cB3 : w3.cell? ⟨B, 3, none⟩ = some (.int .i64 (y.r)) := HQ3.out.at_ 1 rfl 3 _ rfl
    have cB4 : w3.cell? ⟨B, 4, none⟩ = some (.int .i64 (y.g)) := HQ3.out.at_ 1 rfl 4 _ rfl
    have cB5 : w3.cell? ⟨B, 5, none⟩ = some (.int .i64 (y.c)) := HQ3.out.at_ 1 rfl 5 _ rfl
    have cB6 : w3.cell? ⟨B, 6, none⟩ = some (.int .i64 (y.mn)) := HQ3.out.at_ 1 rfl 6 _ rfl
    have cB7 : w3.cell? ⟨B, 7, none⟩ = some (.int .i64 (y.mx)) := HQ3.out.at_ 1 rfl 7 _ rfl
    have cB8 : w3.cell? ⟨B, 8, none⟩ = some (.int .i64 (y.s)) := HQ3.out.at_ 1 rfl 8 _ rfl
    have cB9 : w3.cell? ⟨B, 9, none⟩ = some (.int .i64 (y.n)) := HQ3.out.at_ 1 rfl 9 _ rfl
    have cA0 : w3.cell? ⟨A, 0, none⟩ = some (.int .i64 (x.id)) := HQ3.out.at_ 2 rfl 0 _ rfl
    have cA1 : w3.cell? ⟨A, 1, none⟩ = some (.int .i64 (x.q)) := HQ3.out.at_ 2 rfl 1 _ rfl
    have cA2 : w3.cell? ⟨A, 2, none⟩ = some (.int .i64 (x.p)) := HQ3.out.at_ 2 rfl 2 _ rfl
    have cA3 : w3.cell? ⟨A, 3, none⟩ = some (.int .i64 (x.r)) := HQ3.out.at_ 2 rfl 3 _ rfl
    have cA4 : w3.cell? ⟨A, 4, none⟩ = some (.int .i64 (x.g)) := HQ3.out.at_ 2 rfl 4 _ rfl
    have cA5 : w3.cell? ⟨A, 5, none⟩ = some (.int .i64 (x.c)) := HQ3.out.at_ 2 rfl 5 _ rfl
    have cA6 : w3.cell? ⟨A, 6, none⟩ = some (.int .i64 (x.mn)) := HQ3.out.at_ 2 rfl 6 _ rfl
    have cA7 : w3.cell? ⟨A, 7, none⟩ = some (.int .i64 (x.mx)) := HQ3.out.at_ 2 rfl 7 _ rfl
    have cA8 : w3.cell? ⟨A, 8, none⟩ = some (.int .i64 (x.s)) := HQ3.out.at_ 2 rfl 8 _ rfl
    have cA9 : w3.cell? ⟨A, 9, none⟩ = some (.int .i64 (x.n)) := HQ3.out.at_ 2 rfl 9 _ rfl
    go_wp2_with fail
    refine (C3.out _).mono ?_
    rintro e w4 ⟨rfl, hb4⟩
    have HQ4 := Lib.hid (HQ3.out.keep hb4)
    clear hb4
    clear HQ3
    clear cC0 cC1 cC2 cC3 cC4 cC5 cC6 cC7 cC8 cC9 cB0 cB1 cB2 cB3 cB4 cB5 cB6 cB7 cB8 cB9 cA0 cA1 cA2 cA3 cA4 cA5 cA6 cA7 cA8 cA9
    have cC0 : w4.cell? ⟨C, 0, none⟩ = some (.int .i64 (z.id)) := HQ4.out.at_ 0 rfl 0 _ rfl
    have cC1 : w4.cell? ⟨C, 1, none⟩ = some (.int .i64 (z.q)) := HQ4.out.at_ 0 rfl 1 _ rfl
    have cC2 : w4.cell? ⟨C, 2, none⟩ = some (.int .i64 (z.p)) := HQ4.out.at_ 0 rfl 2 _ rfl
    have cC3 : w4.cell? ⟨C, 3, none⟩ = some (.int .i64 (z.r)) := HQ4.out.at_ 0 rfl 3 _ rfl
    have cC4 : w4.cell? ⟨C, 4, none⟩ = some (.int .i64 (z.g)) := HQ4.out.at_ 0 rfl 4 _ rfl
    have cC5 : w4.cell? ⟨C, 5, none⟩ = some (.int .i64 (z.c)) := HQ4.out.at_ 0 rfl 5 _ rfl
    have cC6 : w4.cell? ⟨C, 6, none⟩ = some (.int .i64 (z.mn)) := HQ4.out.at_ 0 rfl 6 _ rfl
    have cC7 : w4.cell? ⟨C, 7, none⟩ = some (.int .i64 (z.mx)) := HQ4.out.at_ 0 rfl 7 _ rfl
    have cC8 : w4.cell? ⟨C, 8, none⟩ = some (.int .i64 (z.s)) := HQ4.out.at_ 0 rfl 8 _ rfl
    have cC9 : w4.cell? ⟨C, 9, none⟩ = some (.int .i64 (z.n)) := HQ4.out.at_ 0 rfl 9 _ rfl
    have cB0 : w4.cell? ⟨B, 0, none⟩ = some (.int .i64 (y.id)) := HQ4.out.at_ 1 rfl 0 _ rfl
    have cB1 : w4.cell? ⟨B, 1, none⟩ = some (.int .i64 (y.q)) := HQ4.out.at_ 1 rfl 1 _ rfl
    have cB2 : w4.cell? ⟨B, 2, none⟩ = some (.int .i64 (y.p)) := HQ4.out.at_ 1 rfl 2 _ rfl
    have cB3 : w4.cell? ⟨B, 3, none⟩ = some (.int .i64 (y.r)) := HQ4.out.at_ 1 rfl 3 _ rfl
    have cB4 : w4.cell? ⟨B, 4, none⟩ = some (.int .i64 (y.g)) := HQ4.out.at_ 1 rfl 4 _ rfl
    have cB5 : w4.cell? ⟨B, 5, none⟩ = some (.int .i64 (y.c)) := HQ4.out.at_ 1 rfl 5 _ rfl
    have cB6 : w4.cell? ⟨B, 6, none⟩ = some (.int .i64 (y.mn)) := HQ4.out.at_ 1 rfl 6 _ rfl
    have cB7 : w4.cell? ⟨B, 7, none⟩ = some (.int .i64 (y.mx)) := HQ4.out.at_ 1 rfl 7 _ rfl
    have cB8 : w4.cell? ⟨B, 8, none⟩ = some (.int .i64 (y.s)) := HQ4.out.at_ 1 rfl 8 _ rfl
    have cB9 : w4.cell? ⟨B, 9, none⟩ = some (.int .i64 (y.n)) := HQ4.out.at_ 1 rfl 9 _ rfl
    have cA0 : w4.cell? ⟨A, 0, none⟩ = some (.int .i64 (x.id)) := HQ4.out.at_ 2 rfl 0 _ rfl
    have cA1 : w4.cell? ⟨A, 1, none⟩ = some (.int .i64 (x.q)) := HQ4.out.at_ 2 rfl 1 _ rfl
    have cA2 : w4.cell? ⟨A, 2, none⟩ = some (.int .i64 (x.p)) := HQ4.out.at_ 2 rfl 2 _ rfl
    have cA3 : w4.cell? ⟨A, 3, none⟩ = some (.int .i64 (x.r)) := HQ4.out.at_ 2 rfl 3 _ rfl
    have cA4 : w4.cell? ⟨A, 4, none⟩ = some (.int .i64 (x.g)) := HQ4.out.at_ 2 rfl 4 _ rfl
    have cA5 : w4.cell? ⟨A, 5, none⟩ = some (.int .i64 (x.c)) := HQ4.out.at_ 2 rfl 5 _ rfl
    have cA6 : w4.cell? ⟨A, 6, none⟩ = some (.int .i64 (x.mn)) := HQ4.out.at_ 2 rfl 6 _ rfl
    have cA7 : w4.cell? ⟨A, 7, none⟩ = some (.int .i64 (x.mx)) := HQ4.out.at_ 2 rfl 7 _ rfl
    have cA8 : w4.cell? ⟨A, 8, none⟩ = some (.int .i64 (x.s)) := HQ4.out.at_ 2 rfl 8 _ rfl
    have cA9 : w4.cell? ⟨A, 9, none⟩ = some (.int .i64 (x.n)) := HQ4.out.at_ 2 rfl 9 _ rfl
    go_wp2_with fail
    refine (C4.out _).mono ?_
    rintro e w5 ⟨rfl, hb5⟩
    have HQ5 := Lib.hid (HQ4.out.keep hb5)
    clear hb5
    clear HQ4
    clear cC0 cC1 cC2 cC3 cC4 cC5 cC6 cC7 cC8 cC9 cB0 cB1 cB2 cB3 cB4 cB5 cB6 cB7 cB8 cB9 cA0 cA1 cA2 cA3 cA4 cA5 cA6 cA7 cA8 cA9
    have cC0 : w5.cell? ⟨C, 0, none⟩ = some (.int .i64 (z.id)) := HQ5.out.at_ 0 rfl 0 _ rfl
    have cC1 : w5.cell? ⟨C, 1, none⟩ = some (.int .i64 (z.q)) := HQ5.out.at_ 0 rfl 1 _ rfl
    have cC2 : w5.cell? ⟨C, 2, none⟩ = some (.int .i64 (z.p)) := HQ5.out.at_ 0 rfl 2 _ rfl
    have cC3 : w5.cell? ⟨C, 3, none⟩ = some (.int .i64 (z.r)) := HQ5.out.at_ 0 rfl 3 _ rfl
    have cC4 : w5.cell? ⟨C, 4, none⟩ = some (.int .i64 (z.g)) := HQ5.out.at_ 0 rfl 4 _ rfl
    have cC5 : w5.cell? ⟨C, 5, none⟩ = some (.int .i64 (z.c)) := HQ5.out.at_ 0 rfl 5 _ rfl
    have cC6 : w5.cell? ⟨C, 6, none⟩ = some (.int .i64 (z.mn)) := HQ5.out.at_ 0 rfl 6 _ rfl
    have cC7 : w5.cell? ⟨C, 7, none⟩ = some (.int .i64 (z.mx)) := HQ5.out.at_ 0 rfl 7 _ rfl
    have cC8 : w5.cell? ⟨C, 8, none⟩ = some (.int .i64 (z.s)) := HQ5.out.at_ 0 rfl 8 _ rfl
    have cC9 : w5.cell? ⟨C, 9, none⟩ = some (.int .i64 (z.n)) := HQ5.out.at_ 0 rfl 9 _ rfl
    have cB0 : w5.cell? ⟨B, 0, none⟩ = some (.int .i64 (y.id)) := HQ5.out.at_ 1 rfl 0 _ rfl
    have cB1 : w5.cell? ⟨B, 1, none⟩ = some (.int .i64 (y.q)) := HQ5.out.at_ 1 rfl 1 _ rfl
    have cB2 : w5.cell? ⟨B, 2, none⟩ = some (.int .i64 (y.p)) := HQ5.out.at_ 1 rfl 2 _ rfl
    have cB3 : w5.cell? ⟨B, 3, none⟩ = some (.int .i64 (y.r)) := HQ5.out.at_ 1 rfl 3 _ rfl
    have cB4 : w5.cell? ⟨B, 4, none⟩ = some (.int .i64 (y.g)) := HQ5.out.at_ 1 rfl 4 _ rfl
    have cB5 : w5.cell? ⟨B, 5, none⟩ = some (.int .i64 (y.c)) := HQ5.out.at_ 1 rfl 5 _ rfl
    have cB6 : w5.cell? ⟨B, 6, none⟩ = some (.int .i64 (y.mn)) := HQ5.out.at_ 1 rfl 6 _ rfl
    have cB7 : w5.cell? ⟨B, 7, none⟩ = some (.int .i64 (y.mx)) := HQ5.out.at_ 1 rfl 7 _ rfl
    have cB8 : w5.cell? ⟨B, 8, none⟩ = some (.int .i64 (y.s)) := HQ5.out.at_ 1 rfl 8 _ rfl
    have cB9 : w5.cell? ⟨B, 9, none⟩ = some (.int .i64 (y.n)) := HQ5.out.at_ 1 rfl 9 _ rfl
    have cA0 : w5.cell? ⟨A, 0, none⟩ = some (.int .i64 (x.id)) := HQ5.out.at_ 2 rfl 0 _ rfl
    have cA1 : w5.cell? ⟨A, 1, none⟩ = some (.int .i64 (x.q)) := HQ5.out.at_ 2 rfl 1 _ rfl
    have cA2 : w5.cell? ⟨A, 2, none⟩ = some (.int .i64 (x.p)) := HQ5.out.at_ 2 rfl 2 _ rfl
    have cA3 : w5.cell? ⟨A, 3, none⟩ = some (.int .i64 (x.r)) := HQ5.out.at_ 2 rfl 3 _ rfl
    have cA4 : w5.cell? ⟨A, 4, none⟩ = some (.int .i64 (x.g)) := HQ5.out.at_ 2 rfl 4 _ rfl
    have cA5 : w5.cell? ⟨A, 5, none⟩ = some (.int .i64 (x.c)) := HQ5.out.at_ 2 rfl 5 _ rfl
    have cA6 : w5.cell? ⟨A, 6, none⟩ = some (.int .i64 (x.mn)) := HQ5.out.at_ 2 rfl 6 _ rfl
    have cA7 : w5.cell? ⟨A, 7, none⟩ = some (.int .i64 (x.mx)) := HQ5.out.at_ 2 rfl 7 _ rfl
    have cA8 : w5.cell? ⟨A, 8, none⟩ = some (.int .i64 (x.s)) := HQ5.out.at_ 2 rfl 8 _ rfl
    have cA9 : w5.cell? ⟨A, 9, none⟩ = some (.int .i64 (x.n)) := HQ5.out.at_ 2 rfl 9 _ rfl
    go_wp2_with fail
    refine (C5.out _).mono ?_
    rintro e w6 ⟨rfl, hb6⟩
    have HQ6 := Lib.hid (HQ5.out.keep hb6)
    clear hb6
    clear HQ5
    clear cC0 cC1 cC2 cC3 cC4 cC5 cC6 cC7 cC8 cC9 cB0 cB1 cB2 cB3 cB4 cB5 cB6 cB7 cB8 cB9 cA0 cA1 cA2 cA3 cA4 cA5 cA6 cA7 cA8 cA9
    have cC0 : w6.cell? ⟨C, 0, none⟩ = some (.int .i64 (z.id)) := HQ6.out.at_ 0 rfl 0 _ rfl
    have cC1 : w6.cell? ⟨C, 1, none⟩ = some (.int .i64 (z.q)) := HQ6.out.at_ 0 rfl 1 _ rfl
    have cC2 : w6.cell? ⟨C, 2, none⟩ = some (.int .i64 (z.p)) := HQ6.out.at_ 0 rfl 2 _ rfl
    have cC3 : w6.cell? ⟨C, 3, none⟩ = some (.int .i64 (z.r)) := HQ6.out.at_ 0 rfl 3 _ rfl
    have cC4 : w6.cell? ⟨C, 4, none⟩ = some (.int .i64 (z.g)) := HQ6.out.at_ 0 rfl 4 _ rfl
    have cC5 : w6.cell? ⟨C, 5, none⟩ = some (.int .i64 (z.c)) := HQ6.out.at_ 0 rfl 5 _ rfl
    have cC6 : w6.cell? ⟨C, 6, none⟩ = some (.int .i64 (z.mn)) := HQ6.out.at_ 0 rfl 6 _ rfl
    have cC7 : w6.cell? ⟨C, 7, none⟩ = some (.int .i64 (z.mx)) := HQ6.out.at_ 0 rfl 7 _ rfl
    have cC8 : w6.cell? ⟨C, 8, none⟩ = some (.int .i64 (z.s)) := HQ6.out.at_ 0 rfl 8 _ rfl
    have cC9 : w6.cell? ⟨C, 9, none⟩ = some (.int .i64 (z.n)) := HQ6.out.at_ 0 rfl 9 _ rfl
    have cB0 : w6.cell? ⟨B, 0, none⟩ = some (.int .i64 (y.id)) := HQ6.out.at_ 1 rfl 0 _ rfl
    have cB1 : w6.cell? ⟨B, 1, none⟩ = some (.int .i64 (y.q)) := HQ6.out.at_ 1 rfl 1 _ rfl
    have cB2 : w6.cell? ⟨B, 2, none⟩ = some (.int .i64 (y.p)) := HQ6.out.at_ 1 rfl 2 _ rfl
    have cB3 : w6.cell? ⟨B, 3, none⟩ = some (.int .i64 (y.r)) := HQ6.out.at_ 1 rfl 3 _ rfl
    have cB4 : w6.cell? ⟨B, 4, none⟩ = some (.int .i64 (y.g)) := HQ6.out.at_ 1 rfl 4 _ rfl
    have cB5 : w6.cell? ⟨B, 5, none⟩ = some (.int .i64 (y.c)) := HQ6.out.at_ 1 rfl 5 _ rfl
    have cB6 : w6.cell? ⟨B, 6, none⟩ = some (.int .i64 (y.mn)) := HQ6.out.at_ 1 rfl 6 _ rfl
    have cB7 : w6.cell? ⟨B, 7, none⟩ = some (.int .i64 (y.mx)) := HQ6.out.at_ 1 rfl 7 _ rfl
    have cB8 : w6.cell? ⟨B, 8, none⟩ = some (.int .i64 (y.s)) := HQ6.out.at_ 1 rfl 8 _ rfl
    have cB9 : w6.cell? ⟨B, 9, none⟩ = some (.int .i64 (y.n)) := HQ6.out.at_ 1 rfl 9 _ rfl
    have cA0 : w6.cell? ⟨A, 0, none⟩ = some (.int .i64 (x.id)) := HQ6.out.at_ 2 rfl 0 _ rfl
    have cA1 : w6.cell? ⟨A, 1, none⟩ = some (.int .i64 (x.q)) := HQ6.out.at_ 2 rfl 1 _ rfl
    have cA2 : w6.cell? ⟨A, 2, none⟩ = some (.int .i64 (x.p)) := HQ6.out.at_ 2 rfl 2 _ rfl
    have cA3 : w6.cell? ⟨A, 3, none⟩ = some (.int .i64 (x.r)) := HQ6.out.at_ 2 rfl 3 _ rfl
    have cA4 : w6.cell? ⟨A, 4, none⟩ = some (.int .i64 (x.g)) := HQ6.out.at_ 2 rfl 4 _ rfl
    have cA5 : w6.cell? ⟨A, 5, none⟩ = some (.int .i64 (x.c)) := HQ6.out.at_ 2 rfl 5 _ rfl
    have cA6 : w6.cell? ⟨A, 6, none⟩ = some (.int .i64 (x.mn)) := HQ6.out.at_ 2 rfl 6 _ rfl
    have cA7 : w6.cell? ⟨A, 7, none⟩ = some (.int .i64 (x.mx)) := HQ6.out.at_ 2 rfl 7 _ rfl
    have cA8 : w6.cell? ⟨A, 8, none⟩ = some (.int .i64 (x.s)) := HQ6.out.at_ 2 rfl 8 _ rfl
    have cA9 : w6.cell? ⟨A, 9, none⟩ = some (.int .i64 (x.n)) := HQ6.out.at_ 2 rfl 9 _ rfl
    go_wp2
    go_ret
    exact ⟨by first | rfl | (simp; done), HQ6.out.b⟩
  · obtain ⟨hT, hX, hY⟩ : mayA now age = true ∧ mayW x = true ∧ mayW y = true := by simpa using hV
    rw [hT, hX, hY] at C1
    rw [hT, hX, hY] at C2
    rw [hT, hY] at C3
    rw [hT, hX] at C4
    rw [hT, hX] at C5
    clear hV hT hX hY
    cases hZ : mayW z
    · rw [hZ] at C3 C4
      clear H1 H2 H3 H4 hZ
      simp only [Bool.and_self, Bool.and_false, Bool.true_and, Bool.false_and, Bool.false_eq_true, if_false, if_true, wtV, wtA, wtO] at C1 C2 C3 C4 C5 HQ0 ⊢
      have C1 := Lib.hid C1
      have C2 := Lib.hid C2
      have C3 := Lib.hid C3
      have C4 := Lib.hid C4
      have C5 := Lib.hid C5
      go_enter Try.func5, Try.ntmps5
      go_wp2_with fail
      refine (AW.out _).mono ?_
      rintro e w1 ⟨rfl, hb1⟩
      have HQ1 := Lib.hid (HQ0.out.keep hb1)
      clear hb1
      obtain ⟨C, eC⟩ : ∃ q, q = w.heap.size + 1 + 1 := ⟨_, rfl⟩
      rw [← eC]
      rw [← eC] at HQ1
      have HeC := Lib.hid eC
      clear eC
      obtain ⟨B, eB⟩ : ∃ q, q = w.heap.size + 1 := ⟨_, rfl⟩
      rw [← eB]
      rw [← eB] at HQ1
      have HeB := Lib.hid eB
      clear eB
      obtain ⟨A, eA⟩ : ∃ q, q = w.heap.size := ⟨_, rfl⟩
      rw [← eA]
      rw [← eA] at HQ1
      have HeA := Lib.hid eA
      clear eA
      have cC0 : w1.cell? ⟨C, 0, none⟩ = some (.int .i64 (z.id)) := HQ1.out.at_ 0 rfl 0 _ rfl
      have cC1 : w1.cell? ⟨C, 1, none⟩ = some (.int .i64 (z.q)) := HQ1.out.at_ 0 rfl 1 _ rfl
      have cC2 : w1.cell? ⟨C, 2, none⟩ = some (.int .i64 (z.p)) := HQ1.out.at_ 0 rfl 2 _ rfl
      have cC3 : w1.cell? ⟨C, 3, none⟩ = some (.int .i64 (z.r)) := HQ1.out.at_ 0 rfl 3 _ rfl
      have cC4 : w1.cell? ⟨C, 4, none⟩ = some (.int .i64 (z.g)) := HQ1.out.at_ 0 rfl 4 _ rfl
      have cC5 : w1.cell? ⟨C, 5, none⟩ = some (.int .i64 (z.c)) := HQ1.out.at_ 0 rfl 5 _ rfl
      have cC6 : w1.cell? ⟨C, 6, none⟩ = some (.int .i64 (z.mn)) := HQ1.out.at_ 0 rfl 6 _ rfl
      have cC7 : w1.cell? ⟨C, 7, none⟩ = some (.int .i64 (z.mx)) := HQ1.out.at_ 0 rfl 7 _ rfl
      have cC8 : w1.cell? ⟨C, 8, none⟩ = some (.int .i64 (z.s)) := HQ1.out.at_ 0 rfl 8 _ rfl
      have cC9 : w1.cell? ⟨C, 9, none⟩ = some (.int .i64 (z.n)) := HQ1.out.at_ 0 rfl 9 _ rfl
      have cB0 : w1.cell? ⟨B, 0, none⟩ = some (.int .i64 (y.id)) := HQ1.out.at_ 1 rfl 0 _ rfl
      have cB1 : w1.cell? ⟨B, 1, none⟩ = some (.int .i64 (y.q)) := HQ1.out.at_ 1 rfl 1 _ rfl
      have cB2 : w1.cell? ⟨B, 2, none⟩ = some (.int .i64 (y.p)) := HQ1.out.at_ 1 rfl 2 _ rfl
      have cB3 : w1.cell? ⟨B, 3, none⟩ = some (.int .i64 (y.r)) := HQ1.out.at_ 1 rfl 3 _ rfl
      have cB4 : w1.cell? ⟨B, 4, none⟩ = some (.int .i64 (y.g)) := HQ1.out.at_ 1 rfl 4 _ rfl
      have cB5 : w1.cell? ⟨B, 5, none⟩ = some (.int .i64 (y.c)) := HQ1.out.at_ 1 rfl 5 _ rfl
      have cB6 : w1.cell? ⟨B, 6, none⟩ = some (.int .i64 (y.mn)) := HQ1.out.at_ 1 rfl 6 _ rfl
      have cB7 : w1.cell? ⟨B, 7, none⟩ = some (.int .i64 (y.mx)) := HQ1.out.at_ 1 rfl 7 _ rfl
      have cB8 : w1.cell? ⟨B, 8, none⟩ = some (.int .i64 (y.s)) := HQ1.out.at_ 1 rfl 8 _ rfl
      have cB9 : w1.cell? ⟨B, 9, none⟩ = some (.int .i64 (y.n)) := HQ1.out.at_ 1 rfl 9 _ rfl
      have cA0 : w1.cell? ⟨A, 0, none⟩ = some (.int .i64 (x.id)) := HQ1.out.at_ 2 rfl 0 _ rfl
      have cA1 : w1.cell? ⟨A, 1, none⟩ = some (.int .i64 (x.q)) := HQ1.out.at_ 2 rfl 1 _ rfl
      have cA2 : w1.cell? ⟨A, 2, none⟩ = some (.int .i64 (x.p)) := HQ1.out.at_ 2 rfl 2 _ rfl
      have cA3 : w1.cell? ⟨A, 3, none⟩ = some (.int .i64 (x.r)) := HQ1.out.at_ 2 rfl 3 _ rfl
      have cA4 : w1.cell? ⟨A, 4, none⟩ = some (.int .i64 (x.g)) := HQ1.out.at_ 2 rfl 4 _ rfl
      have cA5 : w1.cell? ⟨A, 5, none⟩ = some (.int .i64 (x.c)) := HQ1.out.at_ 2 rfl 5 _ rfl
      have cA6 : w1.cell? ⟨A, 6, none⟩ = some (.int .i64 (x.mn)) := HQ1.out.at_ 2 rfl 6 _ rfl
      have cA7 : w1.cell? ⟨A, 7, none⟩ = some (.int .i64 (x.mx)) := HQ1.out.at_ 2 rfl 7 _ rfl
      have cA8 : w1.cell? ⟨A, 8, none⟩ = some (.int .i64 (x.s)) := HQ1.out.at_ 2 rfl 8 _ rfl
      have cA9 : w1.cell? ⟨A, 9, none⟩ = some (.int .i64 (x.n)) := HQ1.out.at_ 2 rfl 9 _ rfl
      go_wp2_with fail
      refine (C1.out _).mono ?_
      rintro e w2 ⟨rfl, hb2⟩
      have HQ2 := Lib.hid (HQ1.out.keep hb2)
      clear hb2
      clear HQ1
      clear cC0 cC1 cC2 cC3 cC4 cC5 cC6 cC7 cC8 cC9 cB0 cB1 cB2 cB3 cB4 cB5 cB6 cB7 cB8 cB9 cA0 cA1 cA2 cA3 cA4 cA5 cA6 cA7 cA8 cA9
      have cC0 : w2.cell? ⟨C, 0, none⟩ = some (.int .i64 (z.id)) := HQ2.out.at_ 0 rfl 0 _ rfl
      have cC1 : w2.cell? ⟨C, 1, none⟩ = some (.int .i64 (z.q)) := HQ2.out.at_ 0 rfl 1 _ rfl
      have cC2 : w2.cell? ⟨C, 2, none⟩ = some (.int .i64 (z.p)) := HQ2.out.at_ 0 rfl 2 _ rfl
      have cC3 : w2.cell? ⟨C, 3, none⟩ = some (.int .i64 (z.r)) := HQ2.out.at_ 0 rfl 3 _ rfl
      have cC4 : w2.cell? ⟨C, 4, none⟩ = some (.int .i64 (z.g)) := HQ2.out.at_ 0 rfl 4 _ rfl
      have cC5 : w2.cell? ⟨C, 5, none⟩ = some (.int .i64 (z.c)) := HQ2.out.at_ 0 rfl 5 _ rfl
      have cC6 : w2.cell? ⟨C, 6, none⟩ = some (.int .i64 (z.mn)) := HQ2.out.at_ 0 rfl 6 _ rfl
      have cC7 : w2.cell? ⟨C, 7, none⟩ = some (.int .i64 (z.mx)) := HQ2.out.at_ 0 rfl 7 _ rfl
      have cC8 : w2.cell? ⟨C, 8, none⟩ = some (.int .i64 (z.s)) := HQ2.out.at_ 0 rfl 8 _ rfl
      have cC9 : w2.cell? ⟨C, 9, none⟩ = some (.int .i64 (z.n)) := HQ2.out.at_ 0 rfl 9 _ rfl
      have cB0 : w2.cell? ⟨B, 0, none⟩ = some (.int .i64 (y.id)) := HQ2.out.at_ 1 rfl 0 _ rfl
      have cB1 : w2.cell? ⟨B, 1, none⟩ = some (.int .i64 (y.q)) := HQ2.out.at_ 1 rfl 1 _ rfl
      have cB2 : w2.cell? ⟨B, 2, none⟩ = some (.int .i64 (y.p)) := HQ2.out.at_ 1 rfl 2 _ rfl
      have cB3 : w2.cell? ⟨B, 3, none⟩ = some (.int .i64 (y.r)) := HQ2.out.at_ 1 rfl 3 _ rfl
      have cB4 : w2.cell? ⟨B, 4, none⟩ = some (.int .i64 (y.g)) := HQ2.out.at_ 1 rfl 4 _ rfl
      have cB5 : w2.cell? ⟨B, 5, none⟩ = some (.int .i64 (y.c)) := HQ2.out.at_ 1 rfl 5 _ rfl
      have cB6 : w2.cell? ⟨B, 6, none⟩ = some (.int .i64 (y.mn)) := HQ2.out.at_ 1 rfl 6 _ rfl
      have cB7 : w2.cell? ⟨B, 7, none⟩ = some (.int .i64 (y.mx)) := HQ2.out.at_ 1 rfl 7 _ rfl
      have cB8 : w2.cell? ⟨B, 8, none⟩ = some (.int .i64 (y.s)) := HQ2.out.at_ 1 rfl 8 _ rfl
      have cB9 : w2.cell? ⟨B, 9, none⟩ = some (.int .i64 (y.n)) := HQ2.out.at_ 1 rfl 9 _ rfl
      have cA0 : w2.cell? ⟨A, 0, none⟩ = some (.int .i64 (x.id)) := HQ2.out.at_ 2 rfl 0 _ rfl
      have cA1 : w2.cell? ⟨A, 1, none⟩ = some (.int .i64 (x.q)) := HQ2.out.at_ 2 rfl 1 _ rfl
      have cA2 : w2.cell? ⟨A, 2, none⟩ = some (.int .i64 (x.p)) := HQ2.out.at_ 2 rfl 2 _ rfl
      have cA3 : w2.cell? ⟨A, 3, none⟩ = some (.int .i64 (x.r)) := HQ2.out.at_ 2 rfl 3 _ rfl
      have cA4 : w2.cell? ⟨A, 4, none⟩ = some (.int .i64 (x.g)) := HQ2.out.at_ 2 rfl 4 _ rfl
      have cA5 : w2.cell? ⟨A, 5, none⟩ = some (.int .i64 (x.c)) := HQ2.out.at_ 2 rfl 5 _ rfl
      have cA6 : w2.cell? ⟨A, 6, none⟩ = some (.int .i64 (x.mn)) := HQ2.out.at_ 2 rfl 6 _ rfl
      have cA7 : w2.cell? ⟨A, 7, none⟩ = some (.int .i64 (x.mx)) := HQ2.out.at_ 2 rfl 7 _ rfl
      have cA8 : w2.cell? ⟨A, 8, none⟩ = some (.int .i64 (x.s)) := HQ2.out.at_ 2 rfl 8 _ rfl
      have cA9 : w2.cell? ⟨A, 9, none⟩ = some (.int .i64 (x.n)) := HQ2.out.at_ 2 rfl 9 _ rfl
      go_wp2_with fail
      refine (C2.out _).mono ?_
      rintro e w3 ⟨rfl, hb3⟩
      have HQ3 := Lib.hid (HQ2.out.keep hb3)
      clear hb3
      clear HQ2
      clear cC0 cC1 cC2 cC3 cC4 cC5 cC6 cC7 cC8 cC9 cB0 cB1 cB2 cB3 cB4 cB5 cB6 cB7 cB8 cB9 cA0 cA1 cA2 cA3 cA4 cA5 cA6 cA7 cA8 cA9
      have cC0 : w3.cell? ⟨C, 0, none⟩ = some (.int .i64 (z.id)) := HQ3.out.at_ 0 rfl 0 _ rfl
      have cC1 : w3.cell? ⟨C, 1, none⟩ = some (.int .i64 (z.q)) := HQ3.out.at_ 0 rfl 1 _ rfl
      have cC2 : w3.cell? ⟨C, 2, none⟩ = some (.int .i64 (z.p)) := HQ3.out.at_ 0 rfl 2 _ rfl
      have cC3 : w3.cell? ⟨C, 3, none⟩ = some (.int .i64 (z.r)) := HQ3.out.at_ 0 rfl 3 _ rfl
      have cC4 : w3.cell? ⟨C, 4, none⟩ = some (.int .i64 (z.g)) := HQ3.out.at_ 0 rfl 4 _ rfl
      have cC5 : w3.cell? ⟨C, 5, none⟩ = some (.int .i64 (z.c)) := HQ3.out.at_ 0 rfl 5 _ rfl
      have cC6 : w3.cell? ⟨C, 6, none⟩ = some (.int .i64 (z.mn)) := HQ3.out.at_ 0 rfl 6 _ rfl
      have cC7 : w3.cell? ⟨C, 7, none⟩ = some (.int .i64 (z.mx)) := HQ3.out.at_ 0 rfl 7 _ rfl
      have cC8 : w3.cell? ⟨C, 8, none⟩ = some (.int .i64 (z.s)) := HQ3.out.at_ 0 rfl 8 _ rfl
      have cC9 : w3.cell? ⟨C, 9, none⟩ = some (.int .i64 (z.n)) := HQ3.out.at_ 0 rfl 9 _ rfl
      have cB0 : w3.cell? ⟨B, 0, none⟩ = some (.int .i64 (y.id)) := HQ3.out.at_ 1 rfl 0 _ rfl
      have cB1 : w3.cell? ⟨B, 1, none⟩ = some (.int .i64 (y.q)) := HQ3.out.at_ 1 rfl 1 _ rfl
      have cB2 : w3.cell? ⟨B, 2, none⟩ = some (.int .i64 (y.p)) := HQ3.out.at_ 1 rfl 2 _ rfl
      have cB3 : w3.cell? ⟨B, 3, none⟩ = some (.int .i64 (y.r)) := HQ3.out.at_ 1 rfl 3 _ rfl
      have cB4 : w3.cell? ⟨B, 4, none⟩ = some (.int .i64 (y.g)) := HQ3.out.at_ 1 rfl 4 _ rfl
      have cB5 : w3.cell? ⟨B, 5, none⟩ = some (.int .i64 (y.c)) := HQ3.out.at_ 1 rfl 5 _ rfl
      have cB6 : w3.cell? ⟨B, 6, none⟩ = some (.int .i64 (y.mn)) := HQ3.out.at_ 1 rfl 6 _ rfl
      have cB7 : w3.cell? ⟨B, 7, none⟩ = some (.int .i64 (y.mx)) := HQ3.out.at_ 1 rfl 7 _ rfl
      have cB8 : w3.cell? ⟨B, 8, none⟩ = some (.int .i64 (y.s)) := HQ3.out.at_ 1 rfl 8 _ rfl
      have cB9 : w3.cell? ⟨B, 9, none⟩ = some (.int .i64 (y.n)) := HQ3.out.at_ 1 rfl 9 _ rfl
      have cA0 : w3.cell? ⟨A, 0, none⟩ = some (.int .i64 (x.id)) := HQ3.out.at_ 2 rfl 0 _ rfl
      have cA1 : w3.cell? ⟨A, 1, none⟩ = some (.int .i64 (x.q)) := HQ3.out.at_ 2 rfl 1 _ rfl
      have cA2 : w3.cell? ⟨A, 2, none⟩ = some (.int .i64 (x.p)) := HQ3.out.at_ 2 rfl 2 _ rfl
      have cA3 : w3.cell? ⟨A, 3, none⟩ = some (.int .i64 (x.r)) := HQ3.out.at_ 2 rfl 3 _ rfl
      have cA4 : w3.cell? ⟨A, 4, none⟩ = some (.int .i64 (x.g)) := HQ3.out.at_ 2 rfl 4 _ rfl
      have cA5 : w3.cell? ⟨A, 5, none⟩ = some (.int .i64 (x.c)) := HQ3.out.at_ 2 rfl 5 _ rfl
      have cA6 : w3.cell? ⟨A, 6, none⟩ = some (.int .i64 (x.mn)) := HQ3.out.at_ 2 rfl 6 _ rfl
      have cA7 : w3.cell? ⟨A, 7, none⟩ = some (.int .i64 (x.mx)) := HQ3.out.at_ 2 rfl 7 _ rfl
      have cA8 : w3.cell? ⟨A, 8, none⟩ = some (.int .i64 (x.s)) := HQ3.out.at_ 2 rfl 8 _ rfl
      have cA9 : w3.cell? ⟨A, 9, none⟩ = some (.int .i64 (x.n)) := HQ3.out.at_ 2 rfl 9 _ rfl
      go_wp2_with fail
      refine (C3.out _).mono ?_
      rintro e w4 ⟨rfl, hb4⟩
      have HQ4 := Lib.hid (HQ3.out.keep hb4)
      clear hb4
      clear HQ3
      clear cC0 cC1 cC2 cC3 cC4 cC5 cC6 cC7 cC8 cC9 cB0 cB1 cB2 cB3 cB4 cB5 cB6 cB7 cB8 cB9 cA0 cA1 cA2 cA3 cA4 cA5 cA6 cA7 cA8 cA9
      have cC0 : w4.cell? ⟨C, 0, none⟩ = some (.int .i64 (z.id)) := HQ4.out.at_ 0 rfl 0 _ rfl
      have cC1 : w4.cell? ⟨C, 1, none⟩ = some (.int .i64 (z.q)) := HQ4.out.at_ 0 rfl 1 _ rfl
      have cC2 : w4.cell? ⟨C, 2, none⟩ = some (.int .i64 (z.p)) := HQ4.out.at_ 0 rfl 2 _ rfl
      have cC3 : w4.cell? ⟨C, 3, none⟩ = some (.int .i64 (z.r)) := HQ4.out.at_ 0 rfl 3 _ rfl
      have cC4 : w4.cell? ⟨C, 4, none⟩ = some (.int .i64 (z.g)) := HQ4.out.at_ 0 rfl 4 _ rfl
      have cC5 : w4.cell? ⟨C, 5, none⟩ = some (.int .i64 (z.c)) := HQ4.out.at_ 0 rfl 5 _ rfl
      have cC6 : w4.cell? ⟨C, 6, none⟩ = some (.int .i64 (z.mn)) := HQ4.out.at_ 0 rfl 6 _ rfl
      have cC7 : w4.cell? ⟨C, 7, none⟩ = some (.int .i64 (z.mx)) := HQ4.out.at_ 0 rfl 7 _ rfl
      have cC8 : w4.cell? ⟨C, 8, none⟩ = some (.int .i64 (z.s)) := HQ4.out.at_ 0 rfl 8 _ rfl
      have cC9 : w4.cell? ⟨C, 9, none⟩ = some (.int .i64 (z.n)) := HQ4.out.at_ 0 rfl 9 _ rfl
      have cB0 : w4.cell? ⟨B, 0, none⟩ = some (.int .i64 (y.id)) := HQ4.out.at_ 1 rfl 0 _ rfl
      have cB1 : w4.cell? ⟨B, 1, none⟩ = some (.int .i64 (y.q)) := HQ4.out.at_ 1 rfl 1 _ rfl
      have cB2 : w4.cell? ⟨B, 2, none⟩ = some (.int .i64 (y.p)) := HQ4.out.at_ 1 rfl 2 _ rfl
      have cB3 : w4.cell? ⟨B, 3, none⟩ = some (.int .i64 (y.r)) := HQ4.out.at_ 1 rfl 3 _ rfl
      have cB4 : w4.cell? ⟨B, 4, none⟩ = some (.int .i64 (y.g)) := HQ4.out.at_ 1 rfl 4 _ rfl
      have cB5 : w4.cell? ⟨B, 5, none⟩ = some (.int .i64 (y.c)) := HQ4.out.at_ 1 rfl 5 _ rfl
      have cB6 : w4.cell? ⟨B, 6, none⟩ = some (.int .i64 (y.mn)) := HQ4.out.at_ 1 rfl 6 _ rfl
      have cB7 : w4.cell? ⟨B, 7, none⟩ = some (.int .i64 (y.mx)) := HQ4.out.at_ 1 rfl 7 _ rfl
      have cB8 : w4.cell? ⟨B, 8, none⟩ = some (.int .i64 (y.s)) := HQ4.out.at_ 1 rfl 8 _ rfl
      have cB9 : w4.cell? ⟨B, 9, none⟩ = some (.int .i64 (y.n)) := HQ4.out.at_ 1 rfl 9 _ rfl
      have cA0 : w4.cell? ⟨A, 0, none⟩ = some (.int .i64 (x.id)) := HQ4.out.at_ 2 rfl 0 _ rfl
      have cA1 : w4.cell? ⟨A, 1, none⟩ = some (.int .i64 (x.q)) := HQ4.out.at_ 2 rfl 1 _ rfl
      have cA2 : w4.cell? ⟨A, 2, none⟩ = some (.int .i64 (x.p)) := HQ4.out.at_ 2 rfl 2 _ rfl
      have cA3 : w4.cell? ⟨A, 3, none⟩ = some (.int .i64 (x.r)) := HQ4.out.at_ 2 rfl 3 _ rfl
      have cA4 : w4.cell? ⟨A, 4, none⟩ = some (.int .i64 (x.g)) := HQ4.out.at_ 2 rfl 4 _ rfl
      have cA5 : w4.cell? ⟨A, 5, none⟩ = some (.int .i64 (x.c)) := HQ4.out.at_ 2 rfl 5 _ rfl
      have cA6 : w4.cell? ⟨A, 6, none⟩ = some (.int .i64 (x.mn)) := HQ4.out.at_ 2 rfl 6 _ rfl
      have cA7 : w4.cell? ⟨A, 7, none⟩ = some (.int .i64 (x.mx)) := HQ4.out.at_ 2 rfl 7 _ rfl
      have cA8 : w4.cell? ⟨A, 8, none⟩ = some (.int .i64 (x.s)) := HQ4.out.at_ 2 rfl 8 _ rfl
      have cA9 : w4.cell? ⟨A, 9, none⟩ = some (.int .i64 (x.n)) := HQ4.out.at_ 2 rfl 9 _ rfl
      go_wp2_with fail
      refine (C4.out _).mono ?_
      rintro e w5 ⟨rfl, hb5⟩
      have HQ5 := Lib.hid (HQ4.out.keep hb5)
      clear hb5
      clear HQ4
      clear cC0 cC1 cC2 cC3 cC4 cC5 cC6 cC7 cC8 cC9 cB0 cB1 cB2 cB3 cB4 cB5 cB6 cB7 cB8 cB9 cA0 cA1 cA2 cA3 cA4 cA5 cA6 cA7 cA8 cA9
      have cC0 : w5.cell? ⟨C, 0, none⟩ = some (.int .i64 (z.id)) := HQ5.out.at_ 0 rfl 0 _ rfl
      have cC1 : w5.cell? ⟨C, 1, none⟩ = some (.int .i64 (z.q)) := HQ5.out.at_ 0 rfl 1 _ rfl
      have cC2 : w5.cell? ⟨C, 2, none⟩ = some (.int .i64 (z.p)) := HQ5.out.at_ 0 rfl 2 _ rfl
      have cC3 : w5.cell? ⟨C, 3, none⟩ = some (.int .i64 (z.r)) := HQ5.out.at_ 0 rfl 3 _ rfl
      have cC4 : w5.cell? ⟨C, 4, none⟩ = some (.int .i64 (z.g)) := HQ5.out.at_ 0 rfl 4 _ rfl
      have cC5 : w5.cell? ⟨C, 5, none⟩ = some (.int .i64 (z.c)) := HQ5.out.at_ 0 rfl 5 _ rfl
      have cC6 : w5.cell? ⟨C, 6, none⟩ = some (.int .i64 (z.mn)) := HQ5.out.at_ 0 rfl 6 _ rfl
      have cC7 : w5.cell? ⟨C, 7, none⟩ = some (.int .i64 (z.mx)) := HQ5.out.at_ 0 rfl 7 _ rfl
      have cC8 : w5.cell? ⟨C, 8, none⟩ = some (.int .i64 (z.s)) := HQ5.out.at_ 0 rfl 8 _ rfl
      have cC9 : w5.cell? ⟨C, 9, none⟩ = some (.int .i64 (z.n)) := HQ5.out.at_ 0 rfl 9 _ rfl
      have cB0 : w5.cell? ⟨B, 0, none⟩ = some (.int .i64 (y.id)) := HQ5.out.at_ 1 rfl 0 _ rfl
      have cB1 : w5.cell? ⟨B, 1, none⟩ = some (.int .i64 (y.q)) := HQ5.out.at_ 1 rfl 1 _ rfl
      have cB2 : w5.cell? ⟨B, 2, none⟩ = some (.int .i64 (y.p)) := HQ5.out.at_ 1 rfl 2 _ rfl
      have cB3 : w5.cell? ⟨B, 3, none⟩ = some (.int .i64 (y.r)) := HQ5.out.at_ 1 rfl 3 _ rfl
      have cB4 : w5.cell? ⟨B, 4, none⟩ = some (.int .i64 (y.g)) := HQ5.out.at_ 1 rfl 4 _ rfl
      have cB5 : w5.cell? ⟨B, 5, none⟩ = some (.int .i64 (y.c)) := HQ5.out.at_ 1 rfl 5 _ rfl
      have cB6 : w5.cell? ⟨B, 6, none⟩ = some (.int .i64 (y.mn)) := HQ5.out.at_ 1 rfl 6 _ rfl
      have cB7 : w5.cell? ⟨B, 7, none⟩ = some (.int .i64 (y.mx)) := HQ5.out.at_ 1 rfl 7 _ rfl
      have cB8 : w5.cell? ⟨B, 8, none⟩ = some (.int .i64 (y.s)) := HQ5.out.at_ 1 rfl 8 _ rfl
      have cB9 : w5.cell? ⟨B, 9, none⟩ = some (.int .i64 (y.n)) := HQ5.out.at_ 1 rfl 9 _ rfl
      have cA0 : w5.cell? ⟨A, 0, none⟩ = some (.int .i64 (x.id)) := HQ5.out.at_ 2 rfl 0 _ rfl
      have cA1 : w5.cell? ⟨A, 1, none⟩ = some (.int .i64 (x.q)) := HQ5.out.at_ 2 rfl 1 _ rfl
      have cA2 : w5.cell? ⟨A, 2, none⟩ = some (.int .i64 (x.p)) := HQ5.out.at_ 2 rfl 2 _ rfl
      have cA3 : w5.cell? ⟨A, 3, none⟩ = some (.int .i64 (x.r)) := HQ5.out.at_ 2 rfl 3 _ rfl
      have cA4 : w5.cell? ⟨A, 4, none⟩ = some (.int .i64 (x.g)) := HQ5.out.at_ 2 rfl 4 _ rfl
      have cA5 : w5.cell? ⟨A, 5, none⟩ = some (.int .i64 (x.c)) := HQ5.out.at_ 2 rfl 5 _ rfl
      have cA6 : w5.cell? ⟨A, 6, none⟩ = some (.int .i64 (x.mn)) := HQ5.out.at_ 2 rfl 6 _ rfl
      have cA7 : w5.cell? ⟨A, 7, none⟩ = some (.int .i64 (x.mx)) := HQ5.out.at_ 2 rfl 7 _ rfl
      have cA8 : w5.cell? ⟨A, 8, none⟩ = some (.int .i64 (x.s)) := HQ5.out.at_ 2 rfl 8 _ rfl
      have cA9 : w5.cell? ⟨A, 9, none⟩ = some (.int .i64 (x.n)) := HQ5.out.at_ 2 rfl 9 _ rfl
      go_wp2_with fail
      refine (C5.out _).mono ?_
      rintro e w6 ⟨rfl, hb6⟩
      have HQ6 := Lib.hid (HQ5.out.keep hb6)
      clear hb6
      clear HQ5
      clear cC0 cC1 cC2 cC3 cC4 cC5 cC6 cC7 cC8 cC9 cB0 cB1 cB2 cB3 cB4 cB5 cB6 cB7 cB8 cB9 cA0 cA1 cA2 cA3 cA4 cA5 cA6 cA7 cA8 cA9
      have cC0 : w6.cell? ⟨C, 0, none⟩ = some (.int .i64 (z.id)) := HQ6.out.at_ 0 rfl 0 _ rfl
      have cC1 : w6.cell? ⟨C, 1, none⟩ = some (.int .i64 (z.q)) := HQ6.out.at_ 0 rfl 1 _ rfl
      have cC2 : w6.cell? ⟨C, 2, none⟩ = some (.int .i64 (z.p)) := HQ6.out.at_ 0 rfl 2 _ rfl
      have cC3 : w6.cell? ⟨C, 3, none⟩ = some (.int .i64 (z.r)) := HQ6.out.at_ 0 rfl 3 _ rfl
      have cC4 : w6.cell? ⟨C, 4, none⟩ = some (.int .i64 (z.g)) := HQ6.out.at_ 0 rfl 4 _ rfl
      have cC5 : w6.cell? ⟨C, 5, none⟩ = some (.int .i64 (z.c)) := HQ6.out.at_ 0 rfl 5 _ rfl
      have cC6 : w6.cell? ⟨C, 6, none⟩ = some (.int .i64 (z.mn)) := HQ6.out.at_ 0 rfl 6 _ rfl
      have cC7 : w6.cell? ⟨C, 7, none⟩ = some (.int .i64 (z.mx)) := HQ6.out.at_ 0 rfl 7 _ rfl
      have cC8 : w6.cell? ⟨C, 8, none⟩ = some (.int .i64 (z.s)) := HQ6.out.at_ 0 rfl 8 _ rfl
      have cC9 : w6.cell? ⟨C, 9, none⟩ = some (.int .i64 (z.n)) := HQ6.out.at_ 0 rfl 9 _ rfl
      have cB0 : w6.cell? ⟨B, 0, none⟩ = some (.int .i64 (y.id)) := HQ6.out.at_ 1 rfl 0 _ rfl
      have cB1 : w6.cell? ⟨B, 1, none⟩ = some (.int .i64 (y.q)) := HQ6.out.at_ 1 rfl 1 _ rfl
      have cB2 : w6.cell? ⟨B, 2, none⟩ = some (.int .i64 (y.p)) := HQ6.out.at_ 1 rfl 2 _ rfl
      have cB3 : w6.cell? ⟨B, 3, none⟩ = some (.int .i64 (y.r)) := HQ6.out.at_ 1 rfl 3 _ rfl
      have cB4 : w6.cell? ⟨B, 4, none⟩ = some (.int .i64 (y.g)) := HQ6.out.at_ 1 rfl 4 _ rfl
      have cB5 : w6.cell? ⟨B, 5, none⟩ = some (.int .i64 (y.c)) := HQ6.out.at_ 1 rfl 5 _ rfl
      have cB6 : w6.cell? ⟨B, 6, none⟩ = some (.int .i64 (y.mn)) := HQ6.out.at_ 1 rfl 6 _ rfl
      have cB7 : w6.cell? ⟨B, 7, none⟩ = some (.int .i64 (y.mx)) := HQ6.out.at_ 1 rfl 7 _ rfl
      have cB8 : w6.cell? ⟨B, 8, none⟩ = some (.int .i64 (y.s)) := HQ6.out.at_ 1 rfl 8 _ rfl
      have cB9 : w6.cell? ⟨B, 9, none⟩ = some (.int .i64 (y.n)) := HQ6.out.at_ 1 rfl 9 _ rfl
      have cA0 : w6.cell? ⟨A, 0, none⟩ = some (.int .i64 (x.id)) := HQ6.out.at_ 2 rfl 0 _ rfl
      have cA1 : w6.cell? ⟨A, 1, none⟩ = some (.int .i64 (x.q)) := HQ6.out.at_ 2 rfl 1 _ rfl
      have cA2 : w6.cell? ⟨A, 2, none⟩ = some (.int .i64 (x.p)) := HQ6.out.at_ 2 rfl 2 _ rfl
      have cA3 : w6.cell? ⟨A, 3, none⟩ = some (.int .i64 (x.r)) := HQ6.out.at_ 2 rfl 3 _ rfl
      have cA4 : w6.cell? ⟨A, 4, none⟩ = some (.int .i64 (x.g)) := HQ6.out.at_ 2 rfl 4 _ rfl
      have cA5 : w6.cell? ⟨A, 5, none⟩ = some (.int .i64 (x.c)) := HQ6.out.at_ 2 rfl 5 _ rfl
      have cA6 : w6.cell? ⟨A, 6, none⟩ = some (.int .i64 (x.mn)) := HQ6.out.at_ 2 rfl 6 _ rfl
      have cA7 : w6.cell? ⟨A, 7, none⟩ = some (.int .i64 (x.mx)) := HQ6.out.at_ 2 rfl 7 _ rfl
      have cA8 : w6.cell? ⟨A, 8, none⟩ = some (.int .i64 (x.s)) := HQ6.out.at_ 2 rfl 8 _ rfl
      have cA9 : w6.cell? ⟨A, 9, none⟩ = some (.int .i64 (x.n)) := HQ6.out.at_ 2 rfl 9 _ rfl
      go_wp2
      go_ret
      exact ⟨by first | rfl | (simp; done), HQ6.out.b⟩
    · rw [hZ] at C3 C4
      clear hZ
      simp only [Bool.and_self, Bool.and_false, Bool.true_and, if_true, wtV, wtA, wtO] at C1 C2 C3 C4 C5 HQ0 ⊢
      have C1 := Lib.hid C1
      have C2 := Lib.hid C2
      have C3 := Lib.hid C3
      have C4 := Lib.hid C4
      have C5 := Lib.hid C5
      go_enter Try.func5, Try.ntmps5
      go_wp2_with fail
      refine (AW.out _).mono ?_
      rintro e w1 ⟨rfl, hb1⟩
      have HQ1 := Lib.hid (HQ0.out.keep hb1)
      clear hb1
      obtain ⟨C, eC⟩ : ∃ q, q = w.heap.size + 1 + 1 := ⟨_, rfl⟩
      rw [← eC]
      rw [← eC] at HQ1
      have HeC := Lib.hid eC
      clear eC
      obtain ⟨B, eB⟩ : ∃ q, q = w.heap.size + 1 := ⟨_, rfl⟩
      rw [← eB]
      rw [← eB] at HQ1
      have HeB := Lib.hid eB
      clear eB
      obtain ⟨A, eA⟩ : ∃ q, q = w.heap.size := ⟨_, rfl⟩
      rw [← eA]
      rw [← eA] at HQ1
      have HeA := Lib.hid eA
      clear eA
      have cC0 : w1.cell? ⟨C, 0, none⟩ = some (.int .i64 (z.id)) := HQ1.out.at_ 0 rfl 0 _ rfl
      have cC1 : w1.cell? ⟨C, 1, none⟩ = some (.int .i64 (z.q)) := HQ1.out.at_ 0 rfl 1 _ rfl
      have cC2 : w1.cell? ⟨C, 2, none⟩ = some (.int .i64 (z.p)) := HQ1.out.at_ 0 rfl 2 _ rfl
      have cC3 : w1.cell? ⟨C, 3, none⟩ = some (.int .i64 (z.r)) := HQ1.out.at_ 0 rfl 3 _ rfl
      have cC4 : w1.cell? ⟨C, 4, none⟩ = some (.int .i64 (z.g)) := HQ1.out.at_ 0 rfl 4 _ rfl
      have cC5 : w1.cell? ⟨C, 5, none⟩ = some (.int .i64 (z.c)) := HQ1.out.at_ 0 rfl 5 _ rfl
      have cC6 : w1.cell? ⟨C, 6, none⟩ = some (.int .i64 (z.mn)) := HQ1.out.at_ 0 rfl 6 _ rfl
      have cC7 : w1.cell? ⟨C, 7, none⟩ = some (.int .i64 (z.mx)) := HQ1.out.at_ 0 rfl 7 _ rfl
      have cC8 : w1.cell? ⟨C, 8, none⟩ = some (.int .i64 (z.s)) := HQ1.out.at_ 0 rfl 8 _ rfl
      have cC9 : w1.cell? ⟨C, 9, none⟩ = some (.int .i64 (z.n)) := HQ1.out.at_ 0 rfl 9 _ rfl
      have cB0 : w1.cell? ⟨B, 0, none⟩ = some (.int .i64 (y.id)) := HQ1.out.at_ 1 rfl 0 _ rfl
      have cB1 : w1.cell? ⟨B, 1, none⟩ = some (.int .i64 (y.q)) := HQ1.out.at_ 1 rfl 1 _ rfl
      have cB2 : w1.cell? ⟨B, 2, none⟩ = some (.int .i64 (y.p)) := HQ1.out.at_ 1 rfl 2 _ rfl
      have cB3 : w1.cell? ⟨B, 3, none⟩ = some (.int .i64 (y.r)) := HQ1.out.at_ 1 rfl 3 _ rfl
      have cB4 : w1.cell? ⟨B, 4, none⟩ = some (.int .i64 (y.g)) := HQ1.out.at_ 1 rfl 4 _ rfl
      have cB5 : w1.cell? ⟨B, 5, none⟩ = some (.int .i64 (y.c)) := HQ1.out.at_ 1 rfl 5 _ rfl
      have cB6 : w1.cell? ⟨B, 6, none⟩ = some (.int .i64 (y.mn)) := HQ1.out.at_ 1 rfl 6 _ rfl
      have cB7 : w1.cell? ⟨B, 7, none⟩ = some (.int .i64 (y.mx)) := HQ1.out.at_ 1 rfl 7 _ rfl
      have cB8 : w1.cell? ⟨B, 8, none⟩ = some (.int .i64 (y.s)) := HQ1.out.at_ 1 rfl 8 _ rfl
      have cB9 : w1.cell? ⟨B, 9, none⟩ = some (.int .i64 (y.n)) := HQ1.out.at_ 1 rfl 9 _ rfl
      have cA0 : w1.cell? ⟨A, 0, none⟩ = some (.int .i64 (x.id)) := HQ1.out.at_ 2 rfl 0 _ rfl
      have cA1 : w1.cell? ⟨A, 1, none⟩ = some (.int .i64 (x.q)) := HQ1.out.at_ 2 rfl 1 _ rfl
      have cA2 : w1.cell? ⟨A, 2, none⟩ = some (.int .i64 (x.p)) := HQ1.out.at_ 2 rfl 2 _ rfl
      have cA3 : w1.cell? ⟨A, 3, none⟩ = some (.int .i64 (x.r)) := HQ1.out.at_ 2 rfl 3 _ rfl
      have cA4 : w1.cell? ⟨A, 4, none⟩ = some (.int .i64 (x.g)) := HQ1.out.at_ 2 rfl 4 _ rfl
      have cA5 : w1.cell? ⟨A, 5, none⟩ = some (.int .i64 (x.c)) := HQ1.out.at_ 2 rfl 5 _ rfl
      have cA6 : w1.cell? ⟨A, 6, none⟩ = some (.int .i64 (x.mn)) := HQ1.out.at_ 2 rfl 6 _ rfl
      have cA7 : w1.cell? ⟨A, 7, none⟩ = some (.int .i64 (x.mx)) := HQ1.out.at_ 2 rfl 7 _ rfl
      have cA8 : w1.cell? ⟨A, 8, none⟩ = some (.int .i64 (x.s)) := HQ1.out.at_ 2 rfl 8 _ rfl
      have cA9 : w1.cell? ⟨A, 9, none⟩ = some (.int .i64 (x.n)) := HQ1.out.at_ 2 rfl 9 _ rfl
      go_wp2_with fail
      refine (C1.out _).mono ?_
      rintro e w2 ⟨rfl, hb2⟩
      have HQ2 := Lib.hid (HQ1.out.keep hb2)
      clear hb2
      clear HQ1
      clear cC0 cC1 cC2 cC3 cC4 cC5 cC6 cC7 cC8 cC9 cB0 cB1 cB2 cB3 cB4 cB5 cB6 cB7 cB8 cB9 cA0 cA1 cA2 cA3 cA4 cA5 cA6 cA7 cA8 cA9
      have cC0 : w2.cell? ⟨C, 0, none⟩ = some (.int .i64 (z.id)) := HQ2.out.at_ 0 rfl 0 _ rfl
      have cC1 : w2.cell? ⟨C, 1, none⟩ = some (.int .i64 (z.q)) := HQ2.out.at_ 0 rfl 1 _ rfl
      have cC2 : w2.cell? ⟨C, 2, none⟩ = some (.int .i64 (z.p)) := HQ2.out.at_ 0 rfl 2 _ rfl
      have cC3 : w2.cell? ⟨C, 3, none⟩ = some (.int .i64 (z.r)) := HQ2.out.at_ 0 rfl 3 _ rfl
      have cC4 : w2.cell? ⟨C, 4, none⟩ = some (.int .i64 (z.g)) := HQ2.out.at_ 0 rfl 4 _ rfl
      have cC5 : w2.cell? ⟨C, 5, none⟩ = some (.int .i64 (z.c)) := HQ2.out.at_ 0 rfl 5 _ rfl
      have cC6 : w2.cell? ⟨C, 6, none⟩ = some (.int .i64 (z.mn)) := HQ2.out.at_ 0 rfl 6 _ rfl
      have cC7 : w2.cell? ⟨C, 7, none⟩ = some (.int .i64 (z.mx)) := HQ2.out.at_ 0 rfl 7 _ rfl
      have cC8 : w2.cell? ⟨C, 8, none⟩ = some (.int .i64 (z.s)) := HQ2.out.at_ 0 rfl 8 _ rfl
      have cC9 : w2.cell? ⟨C, 9, none⟩ = some (.int .i64 (z.n)) := HQ2.out.at_ 0 rfl 9 _ rfl
      have cB0 : w2.cell? ⟨B, 0, none⟩ = some (.int .i64 (y.id)) := HQ2.out.at_ 1 rfl 0 _ rfl
      have cB1 : w2.cell? ⟨B, 1, none⟩ = some (.int .i64 (y.q)) := HQ2.out.at_ 1 rfl 1 _ rfl
      have cB2 : w2.cell? ⟨B, 2, none⟩ = some (.int .i64 (y.p)) := HQ2.out.at_ 1 rfl 2 _ rfl
      have cB3 : w2.cell? ⟨B, 3, none⟩ = some (.int .i64 (y.r)) := HQ2.out.at_ 1 rfl 3 _ rfl
      have cB4 : w2.cell? ⟨B, 4, none⟩ = some (.int .i64 (y.g)) := HQ2.out.at_ 1 rfl 4 _ rfl
      have cB5 : w2.cell? ⟨B, 5, none⟩ = some (.int .i64 (y.c)) := HQ2.out.at_ 1 rfl 5 _ rfl
      have cB6 : w2.cell? ⟨B, 6, none⟩ = some (.int .i64 (y.mn)) := HQ2.out.at_ 1 rfl 6 _ rfl
      have cB7 : w2.cell? ⟨B, 7, none⟩ = some (.int .i64 (y.mx)) := HQ2.out.at_ 1 rfl 7 _ rfl
      have cB8 : w2.cell? ⟨B, 8, none⟩ = some (.int .i64 (y.s)) := HQ2.out.at_ 1 rfl 8 _ rfl
      have cB9 : w2.cell? ⟨B, 9, none⟩ = some (.int .i64 (y.n)) := HQ2.out.at_ 1 rfl 9 _ rfl
      have cA0 : w2.cell? ⟨A, 0, none⟩ = some (.int .i64 (x.id)) := HQ2.out.at_ 2 rfl 0 _ rfl
      have cA1 : w2.cell? ⟨A, 1, none⟩ = some (.int .i64 (x.q)) := HQ2.out.at_ 2 rfl 1 _ rfl
      have cA2 : w2.cell? ⟨A, 2, none⟩ = some (.int .i64 (x.p)) := HQ2.out.at_ 2 rfl 2 _ rfl
      have cA3 : w2.cell? ⟨A, 3, none⟩ = some (.int .i64 (x.r)) := HQ2.out.at_ 2 rfl 3 _ rfl
      have cA4 : w2.cell? ⟨A, 4, none⟩ = some (.int .i64 (x.g)) := HQ2.out.at_ 2 rfl 4 _ rfl
      have cA5 : w2.cell? ⟨A, 5, none⟩ = some (.int .i64 (x.c)) := HQ2.out.at_ 2 rfl 5 _ rfl
      have cA6 : w2.cell? ⟨A, 6, none⟩ = some (.int .i64 (x.mn)) := HQ2.out.at_ 2 rfl 6 _ rfl
      have cA7 : w2.cell? ⟨A, 7, none⟩ = some (.int .i64 (x.mx)) := HQ2.out.at_ 2 rfl 7 _ rfl
      have cA8 : w2.cell? ⟨A, 8, none⟩ = some (.int .i64 (x.s)) := HQ2.out.at_ 2 rfl 8 _ rfl
      have cA9 : w2.cell? ⟨A, 9, none⟩ = some (.int .i64 (x.n)) := HQ2.out.at_ 2 rfl 9 _ rfl
      go_wp2_with fail
      refine (C2.out _).mono ?_
      rintro e w3 ⟨rfl, hb3⟩
      have HQ3 := Lib.hid (HQ2.out.keep hb3)
      clear hb3
      clear HQ2
      clear cC0 cC1 cC2 cC3 cC4 cC5 cC6 cC7 cC8 cC9 cB0 cB1 cB2 cB3 cB4 cB5 cB6 cB7 cB8 cB9 cA0 cA1 cA2 cA3 cA4 cA5 cA6 cA7 cA8 cA9
      have cC0 : w3.cell? ⟨C, 0, none⟩ = some (.int .i64 (z.id)) := HQ3.out.at_ 0 rfl 0 _ rfl
      have cC1 : w3.cell? ⟨C, 1, none⟩ = some (.int .i64 (z.q)) := HQ3.out.at_ 0 rfl 1 _ rfl
      have cC2 : w3.cell? ⟨C, 2, none⟩ = some (.int .i64 (z.p)) := HQ3.out.at_ 0 rfl 2 _ rfl
      have cC3 : w3.cell? ⟨C, 3, none⟩ = some (.int .i64 (z.r)) := HQ3.out.at_ 0 rfl 3 _ rfl
      have cC4 : w3.cell? ⟨C, 4, none⟩ = some (.int .i64 (z.g)) := HQ3.out.at_ 0 rfl 4 _ rfl
      have cC5 : w3.cell? ⟨C, 5, none⟩ = some (.int .i64 (z.c)) := HQ3.out.at_ 0 rfl 5 _ rfl
      have cC6 : w3.cell? ⟨C, 6, none⟩ = some (.int .i64 (z.mn)) := HQ3.out.at_ 0 rfl 6 _ rfl
      have cC7 : w3.cell? ⟨C, 7, none⟩ = some (.int .i64 (z.mx)) := HQ3.out.at_ 0 rfl 7 _ rfl
      have cC8 : w3.cell? ⟨C, 8, none⟩ = some (.int .i64 (z.s)) := HQ3.out.at_ 0 rfl 8 _ rfl
      have cC9 : w3.cell? ⟨C, 9, none⟩ = some (.int .i64 (z.n)) := HQ3.out.at_ 0 rfl 9 _ rfl
      have cB0 : w3.cell? ⟨B, 0, none⟩ = some (.int .i64 (y.id)) := HQ3.out.at_ 1 rfl 0 _ rfl
      have cB1 : w3.cell? ⟨B, 1, none⟩ = some (.int .i64 (y.q)) := HQ3.out.at_ 1 rfl 1 _ rfl
      have cB2 : w3.cell? ⟨B, 2, none⟩ = some (.int .i64 (y.p)) := HQ3.out.at_ 1 rfl 2 _ rfl
      have cB3 : w3.cell? ⟨B, 3, none⟩ = some (.int .i64 (y.r)) := HQ3.out.at_ 1 rfl 3 _ rfl
      have cB4 : w3.cell? ⟨B, 4, none⟩ = some (.int .i64 (y.g)) := HQ3.out.at_ 1 rfl 4 _ rfl
      have cB5 : w3.cell? ⟨B, 5, none⟩ = some (.int .i64 (y.c)) := HQ3.out.at_ 1 rfl 5 _ rfl
      have cB6 : w3.cell? ⟨B, 6, none⟩ = some (.int .i64 (y.mn)) := HQ3.out.at_ 1 rfl 6 _ rfl
      have cB7 : w3.cell? ⟨B, 7, none⟩ = some (.int .i64 (y.mx)) := HQ3.out.at_ 1 rfl 7 _ rfl
      have cB8 : w3.cell? ⟨B, 8, none⟩ = some (.int .i64 (y.s)) := HQ3.out.at_ 1 rfl 8 _ rfl
      have cB9 : w3.cell? ⟨B, 9, none⟩ = some (.int .i64 (y.n)) := HQ3.out.at_ 1 rfl 9 _ rfl
      have cA0 : w3.cell? ⟨A, 0, none⟩ = some (.int .i64 (x.id)) := HQ3.out.at_ 2 rfl 0 _ rfl
      have cA1 : w3.cell? ⟨A, 1, none⟩ = some (.int .i64 (x.q)) := HQ3.out.at_ 2 rfl 1 _ rfl
      have cA2 : w3.cell? ⟨A, 2, none⟩ = some (.int .i64 (x.p)) := HQ3.out.at_ 2 rfl 2 _ rfl
      have cA3 : w3.cell? ⟨A, 3, none⟩ = some (.int .i64 (x.r)) := HQ3.out.at_ 2 rfl 3 _ rfl
      have cA4 : w3.cell? ⟨A, 4, none⟩ = some (.int .i64 (x.g)) := HQ3.out.at_ 2 rfl 4 _ rfl
      have cA5 : w3.cell? ⟨A, 5, none⟩ = some (.int .i64 (x.c)) := HQ3.out.at_ 2 rfl 5 _ rfl
      have cA6 : w3.cell? ⟨A, 6, none⟩ = some (.int .i64 (x.mn)) := HQ3.out.at_ 2 rfl 6 _ rfl
      have cA7 : w3.cell? ⟨A, 7, none⟩ = some (.int .i64 (x.mx)) := HQ3.out.at_ 2 rfl 7 _ rfl
      have cA8 : w3.cell? ⟨A, 8, none⟩ = some (.int .i64 (x.s)) := HQ3.out.at_ 2 rfl 8 _ rfl
      have cA9 : w3.cell? ⟨A, 9, none⟩ = some (.int .i64 (x.n)) := HQ3.out.at_ 2 rfl 9 _ rfl
      go_wp2_with fail
      refine (C3.out _).mono ?_
      rintro e w4 ⟨rfl, hb4⟩
      have HQ4 := Lib.hid (HQ3.out.keep hb4)
      clear hb4
      clear HQ3
      clear cC0 cC1 cC2 cC3 cC4 cC5 cC6 cC7 cC8 cC9 cB0 cB1 cB2 cB3 cB4 cB5 cB6 cB7 cB8 cB9 cA0 cA1 cA2 cA3 cA4 cA5 cA6 cA7 cA8 cA9
      have cC0 : w4.cell? ⟨C, 0, none⟩ = some (.int .i64 (z.id)) := HQ4.out.at_ 0 rfl 0 _ rfl
      have cC1 : w4.cell? ⟨C, 1, none⟩ = some (.int .i64 (z.q)) := HQ4.out.at_ 0 rfl 1 _ rfl
      have cC2 : w4.cell? ⟨C, 2, none⟩ = some (.int .i64 (z.p)) := HQ4.out.at_ 0 rfl 2 _ rfl
      have cC3 : w4.cell? ⟨C, 3, none⟩ = some (.int .i64 (z.r)) := HQ4.out.at_ 0 rfl 3 _ rfl
      have cC4 : w4.cell? ⟨C, 4, none⟩ = some (.int .i64 (z.g)) := HQ4.out.at_ 0 rfl 4 _ rfl
      have cC5 : w4.cell? ⟨C, 5, none⟩ = some (.int .i64 (z.c)) := HQ4.out.at_ 0 rfl 5 _ rfl
      have cC6 : w4.cell? ⟨C, 6, none⟩ = some (.int .i64 (z.mn)) := HQ4.out.at_ 0 rfl 6 _ rfl
      have cC7 : w4.cell? ⟨C, 7, none⟩ = some (.int .i64 (z.mx)) := HQ4.out.at_ 0 rfl 7 _ rfl
      have cC8 : w4.cell? ⟨C, 8, none⟩ = some (.int .i64 (z.s)) := HQ4.out.at_ 0 rfl 8 _ rfl
      have cC9 : w4.cell? ⟨C, 9, none⟩ = some (.int .i64 (z.n)) := HQ4.out.at_ 0 rfl 9 _ rfl
      have cB0 : w4.cell? ⟨B, 0, none⟩ = some (.int .i64 (y.id)) := HQ4.out.at_ 1 rfl 0 _ rfl
      have cB1 : w4.cell? ⟨B, 1, none⟩ = some (.int .i64 (y.q)) := HQ4.out.at_ 1 rfl 1 _ rfl
      have cB2 : w4.cell? ⟨B, 2, none⟩ = some (.int .i64 (y.p)) := HQ4.out.at_ 1 rfl 2 _ rfl
      have cB3 : w4.cell? ⟨B, 3, none⟩ = some (.int .i64 (y.r)) := HQ4.out.at_ 1 rfl 3 _ rfl
      have cB4 : w4.cell? ⟨B, 4, none⟩ = some (.int .i64 (y.g)) := HQ4.out.at_ 1 rfl 4 _ rfl
      have cB5 : w4.cell? ⟨B, 5, none⟩ = some (.int .i64 (y.c)) := HQ4.out.at_ 1 rfl 5 _ rfl
      have cB6 : w4.cell? ⟨B, 6, none⟩ = some (.int .i64 (y.mn)) := HQ4.out.at_ 1 rfl 6 _ rfl
      have cB7 : w4.cell? ⟨B, 7, none⟩ = some (.int .i64 (y.mx)) := HQ4.out.at_ 1 rfl 7 _ rfl
      have cB8 : w4.cell? ⟨B, 8, none⟩ = some (.int .i64 (y.s)) := HQ4.out.at_ 1 rfl 8 _ rfl
      have cB9 : w4.cell? ⟨B, 9, none⟩ = some (.int .i64 (y.n)) := HQ4.out.at_ 1 rfl 9 _ rfl
      have cA0 : w4.cell? ⟨A, 0, none⟩ = some (.int .i64 (x.id)) := HQ4.out.at_ 2 rfl 0 _ rfl
      have cA1 : w4.cell? ⟨A, 1, none⟩ = some (.int .i64 (x.q)) := HQ4.out.at_ 2 rfl 1 _ rfl
      have cA2 : w4.cell? ⟨A, 2, none⟩ = some (.int .i64 (x.p)) := HQ4.out.at_ 2 rfl 2 _ rfl
      have cA3 : w4.cell? ⟨A, 3, none⟩ = some (.int .i64 (x.r)) := HQ4.out.at_ 2 rfl 3 _ rfl
      have cA4 : w4.cell? ⟨A, 4, none⟩ = some (.int .i64 (x.g)) := HQ4.out.at_ 2 rfl 4 _ rfl
      have cA5 : w4.cell? ⟨A, 5, none⟩ = some (.int .i64 (x.c)) := HQ4.out.at_ 2 rfl 5 _ rfl
      have cA6 : w4.cell? ⟨A, 6, none⟩ = some (.int .i64 (x.mn)) := HQ4.out.at_ 2 rfl 6 _ rfl
      have cA7 : w4.cell? ⟨A, 7, none⟩ = some (.int .i64 (x.mx)) := HQ4.out.at_ 2 rfl 7 _ rfl
      have cA8 : w4.cell? ⟨A, 8, none⟩ = some (.int .i64 (x.s)) := HQ4.out.at_ 2 rfl 8 _ rfl
      have cA9 : w4.cell? ⟨A, 9, none⟩ = some (.int .i64 (x.n)) := HQ4.out.at_ 2 rfl 9 _ rfl
      go_wp2_with fail
      refine (C4.out _).mono ?_
      rintro e w5 ⟨rfl, hb5⟩
      have HQ5 := Lib.hid (HQ4.out.keep hb5)
      clear hb5
      clear HQ4
      clear cC0 cC1 cC2 cC3 cC4 cC5 cC6 cC7 cC8 cC9 cB0 cB1 cB2 cB3 cB4 cB5 cB6 cB7 cB8 cB9 cA0 cA1 cA2 cA3 cA4 cA5 cA6 cA7 cA8 cA9
      have cC0 : w5.cell? ⟨C, 0, none⟩ = some (.int .i64 (z.id)) := HQ5.out.at_ 0 rfl 0 _ rfl
      have cC1 : w5.cell? ⟨C, 1, none⟩ = some (.int .i64 (z.q)) := HQ5.out.at_ 0 rfl 1 _ rfl
      have cC2 : w5.cell? ⟨C, 2, none⟩ = some (.int .i64 (z.p)) := HQ5.out.at_ 0 rfl 2 _ rfl
      have cC3 : w5.cell? ⟨C, 3, none⟩ = some (.int .i64 (z.r)) := HQ5.out.at_ 0 rfl 3 _ rfl
      have cC4 : w5.cell? ⟨C, 4, none⟩ = some (.int .i64 (z.g)) := HQ5.out.at_ 0 rfl 4 _ rfl
      have cC5 : w5.cell? ⟨C, 5, none⟩ = some (.int .i64 (z.c)) := HQ5.out.at_ 0 rfl 5 _ rfl
      have cC6 : w5.cell? ⟨C, 6, none⟩ = some (.int .i64 (z.mn)) := HQ5.out.at_ 0 rfl 6 _ rfl
      have cC7 : w5.cell? ⟨C, 7, none⟩ = some (.int .i64 (z.mx)) := HQ5.out.at_ 0 rfl 7 _ rfl
      have cC8 : w5.cell? ⟨C, 8, none⟩ = some (.int .i64 (z.s)) := HQ5.out.at_ 0 rfl 8 _ rfl
      have cC9 : w5.cell? ⟨C, 9, none⟩ = some (.int .i64 (z.n)) := HQ5.out.at_ 0 rfl 9 _ rfl
      have cB0 : w5.cell? ⟨B, 0, none⟩ = some (.int .i64 (y.id)) := HQ5.out.at_ 1 rfl 0 _ rfl
      have cB1 : w5.cell? ⟨B, 1, none⟩ = some (.int .i64 (y.q)) := HQ5.out.at_ 1 rfl 1 _ rfl
      have cB2 : w5.cell? ⟨B, 2, none⟩ = some (.int .i64 (y.p)) := HQ5.out.at_ 1 rfl 2 _ rfl
      have cB3 : w5.cell? ⟨B, 3, none⟩ = some (.int .i64 (y.r)) := HQ5.out.at_ 1 rfl 3 _ rfl
      have cB4 : w5.cell? ⟨B, 4, none⟩ = some (.int .i64 (y.g)) := HQ5.out.at_ 1 rfl 4 _ rfl
      have cB5 : w5.cell? ⟨B, 5, none⟩ = some (.int .i64 (y.c)) := HQ5.out.at_ 1 rfl 5 _ rfl
      have cB6 : w5.cell? ⟨B, 6, none⟩ = some (.int .i64 (y.mn)) := HQ5.out.at_ 1 rfl 6 _ rfl
      have cB7 : w5.cell? ⟨B, 7, none⟩ = some (.int .i64 (y.mx)) := HQ5.out.at_ 1 rfl 7 _ rfl
      have cB8 : w5.cell? ⟨B, 8, none⟩ = some (.int .i64 (y.s)) := HQ5.out.at_ 1 rfl 8 _ rfl
      have cB9 : w5.cell? ⟨B, 9, none⟩ = some (.int .i64 (y.n)) := HQ5.out.at_ 1 rfl 9 _ rfl
      have cA0 : w5.cell? ⟨A, 0, none⟩ = some (.int .i64 (x.id)) := HQ5.out.at_ 2 rfl 0 _ rfl
      have cA1 : w5.cell? ⟨A, 1, none⟩ = some (.int .i64 (x.q)) := HQ5.out.at_ 2 rfl 1 _ rfl
      have cA2 : w5.cell? ⟨A, 2, none⟩ = some (.int .i64 (x.p)) := HQ5.out.at_ 2 rfl 2 _ rfl
      have cA3 : w5.cell? ⟨A, 3, none⟩ = some (.int .i64 (x.r)) := HQ5.out.at_ 2 rfl 3 _ rfl
      have cA4 : w5.cell? ⟨A, 4, none⟩ = some (.int .i64 (x.g)) := HQ5.out.at_ 2 rfl 4 _ rfl
      have cA5 : w5.cell? ⟨A, 5, none⟩ = some (.int .i64 (x.c)) := HQ5.out.at_ 2 rfl 5 _ rfl
      have cA6 : w5.cell? ⟨A, 6, none⟩ = some (.int .i64 (x.mn)) := HQ5.out.at_ 2 rfl 6 _ rfl
      have cA7 : w5.cell? ⟨A, 7, none⟩ = some (.int .i64 (x.mx)) := HQ5.out.at_ 2 rfl 7 _ rfl
      have cA8 : w5.cell? ⟨A, 8, none⟩ = some (.int .i64 (x.s)) := HQ5.out.at_ 2 rfl 8 _ rfl
      have cA9 : w5.cell? ⟨A, 9, none⟩ = some (.int .i64 (x.n)) := HQ5.out.at_ 2 rfl 9 _ rfl
      go_wp2_with fail
      refine (C5.out _).mono ?_
      rintro e w6 ⟨rfl, hb6⟩
      have HQ6 := Lib.hid (HQ5.out.keep hb6)
      clear hb6
      clear HQ5
      clear cC0 cC1 cC2 cC3 cC4 cC5 cC6 cC7 cC8 cC9 cB0 cB1 cB2 cB3 cB4 cB5 cB6 cB7 cB8 cB9 cA0 cA1 cA2 cA3 cA4 cA5 cA6 cA7 cA8 cA9
      have cC0 : w6.cell? ⟨C, 0, none⟩ = some (.int .i64 (z.id)) := HQ6.out.at_ 0 rfl 0 _ rfl
      have cC1 : w6.cell? ⟨C, 1, none⟩ = some (.int .i64 (z.q)) := HQ6.out.at_ 0 rfl 1 _ rfl
      have cC2 : w6.cell? ⟨C, 2, none⟩ = some (.int .i64 (z.p)) := HQ6.out.at_ 0 rfl 2 _ rfl
      have cC3 : w6.cell? ⟨C, 3, none⟩ = some (.int .i64 (z.r)) := HQ6.out.at_ 0 rfl 3 _ rfl
      have cC4 : w6.cell? ⟨C, 4, none⟩ = some (.int .i64 (z.g)) := HQ6.out.at_ 0 rfl 4 _ rfl
      have cC5 : w6.cell? ⟨C, 5, none⟩ = some (.int .i64 (z.c)) := HQ6.out.at_ 0 rfl 5 _ rfl
      have cC6 : w6.cell? ⟨C, 6, none⟩ = some (.int .i64 (z.mn)) := HQ6.out.at_ 0 rfl 6 _ rfl
      have cC7 : w6.cell? ⟨C, 7, none⟩ = some (.int .i64 (z.mx)) := HQ6.out.at_ 0 rfl 7 _ rfl
      have cC8 : w6.cell? ⟨C, 8, none⟩ = some (.int .i64 (z.s)) := HQ6.out.at_ 0 rfl 8 _ rfl
      have cC9 : w6.cell? ⟨C, 9, none⟩ = some (.int .i64 (z.n)) := HQ6.out.at_ 0 rfl 9 _ rfl
      have cB0 : w6.cell? ⟨B, 0, none⟩ = some (.int .i64 (y.id)) := HQ6.out.at_ 1 rfl 0 _ rfl
      have cB1 : w6.cell? ⟨B, 1, none⟩ = some (.int .i64 (y.q)) := HQ6.out.at_ 1 rfl 1 _ rfl
      have cB2 : w6.cell? ⟨B, 2, none⟩ = some (.int .i64 (y.p)) := HQ6.out.at_ 1 rfl 2 _ rfl
      have cB3 : w6.cell? ⟨B, 3, none⟩ = some (.int .i64 (y.r)) := HQ6.out.at_ 1 rfl 3 _ rfl
      have cB4 : w6.cell? ⟨B, 4, none⟩ = some (.int .i64 (y.g)) := HQ6.out.at_ 1 rfl 4 _ rfl
      have cB5 : w6.cell? ⟨B, 5, none⟩ = some (.int .i64 (y.c)) := HQ6.out.at_ 1 rfl 5 _ rfl
      have cB6 : w6.cell? ⟨B, 6, none⟩ = some (.int .i64 (y.mn)) := HQ6.out.at_ 1 rfl 6 _ rfl
      have cB7 : w6.cell? ⟨B, 7, none⟩ = some (.int .i64 (y.mx)) := HQ6.out.at_ 1 rfl 7 _ rfl
      have cB8 : w6.cell? ⟨B, 8, none⟩ = some (.int .i64 (y.s)) := HQ6.out.at_ 1 rfl 8 _ rfl
      have cB9 : w6.cell? ⟨B, 9, none⟩ = some (.int .i64 (y.n)) := HQ6.out.at_ 1 rfl 9 _ rfl
      have cA0 : w6.cell? ⟨A, 0, none⟩ = some (.int .i64 (x.id)) := HQ6.out.at_ 2 rfl 0 _ rfl
      have cA1 : w6.cell? ⟨A, 1, none⟩ = some (.int .i64 (x.q)) := HQ6.out.at_ 2 rfl 1 _ rfl
      have cA2 : w6.cell? ⟨A, 2, none⟩ = some (.int .i64 (x.p)) := HQ6.out.at_ 2 rfl 2 _ rfl
      have cA3 : w6.cell? ⟨A, 3, none⟩ = some (.int .i64 (x.r)) := HQ6.out.at_ 2 rfl 3 _ rfl
      have cA4 : w6.cell? ⟨A, 4, none⟩ = some (.int .i64 (x.g)) := HQ6.out.at_ 2 rfl 4 _ rfl
      have cA5 : w6.cell? ⟨A, 5, none⟩ = some (.int .i64 (x.c)) := HQ6.out.at_ 2 rfl 5 _ rfl
      have cA6 : w6.cell? ⟨A, 6, none⟩ = some (.int .i64 (x.mn)) := HQ6.out.at_ 2 rfl 6 _ rfl
      have cA7 : w6.cell? ⟨A, 7, none⟩ = some (.int .i64 (x.mx)) := HQ6.out.at_ 2 rfl 7 _ rfl
      have cA8 : w6.cell? ⟨A, 8, none⟩ = some (.int .i64 (x.s)) := HQ6.out.at_ 2 rfl 8 _ rfl
      have cA9 : w6.cell? ⟨A, 9, none⟩ = some (.int .i64 (x.n)) := HQ6.out.at_ 2 rfl 9 _ rfl
      clear C1 C2 C3 C4 C5
      by_cases d1 : x.n = y.n
      · have t1 : (x.n != y.n) = false := by simpa using d1
        by_cases d2 : x.id = y.id
        · have t2 : (x.id != y.id) = false := by simpa using d2
          have H := Lib.hid (show _ ∧ _ ∧ _ from ⟨H1.out, H2.out, H3.out⟩)
          clear d1 d2 H1 H2 H3 H4
          cases ab <;> cases ba <;> cases bc <;> cases ac
          all_goals first
            | (have h := H.out; simp at h; done)
            | (go_wp2; go_ret; exact ⟨by first | rfl | (simp; done), HQ6.out.b⟩)
        · have t2 : (x.id != y.id) = true := by simpa using d2
          have H := Lib.hid (show _ ∧ _ ∧ _ ∧ _ from ⟨H1.out, H2.out, H3.out, H4.out (.inr d2)⟩)
          clear d1 d2 H1 H2 H3 H4
          cases ab <;> cases ba <;> cases bc <;> cases ac
          all_goals first
            | (have h := H.out; simp at h; done)
            | (go_wp2; go_ret; exact ⟨by first | rfl | (simp; done), HQ6.out.b⟩)
      · have t1 : (x.n != y.n) = true := by simpa using d1
        have H := Lib.hid (show _ ∧ _ ∧ _ ∧ _ from ⟨H1.out, H2.out, H3.out, H4.out (.inl d1)⟩)
        clear d1 H1 H2 H3 H4
        cases ab <;> cases ba <;> cases bc <;> cases ac
        all_goals first
          | (have h := H.out; simp at h; done)
          | (go_wp2; go_ret; exact ⟨by first | rfl | (simp; done), HQ6.out.b⟩)

set_option maxRecDepth 100000 in
set_option maxHeartbeats 1000000 in
theorem lifted (os : Os) (started : os.Started) (H : Type) (enc : TypeId × Value → H) :
    ReturnsInHanded {} Try.checked os 5 .any (Rows.orderTotalSpec.pre6 enc Try.prog Try.f5 Rows.orderTotalRow.domain false) (Rows.orderTotalSpec.post enc Try.prog Try.f5 false true false false) := by
  refine returnsInHanded_of_change (C := Try.checked) own started (by kernel_rfl) Try.func5
    (ChangeSpec.witness6 (enc := enc) (C := Try.checked) false ⟨#[], #[.agg #[.int .i64 0, .int .i64 0, .int .i64 0, .int .i64 0, .int .i64 0, .int .i64 0, .int .i64 0, .int .i64 0, .int .i64 0, .int .i64 0], .agg #[.int .i64 0, .int .i64 0, .int .i64 0, .int .i64 0, .int .i64 0, .int .i64 0, .int .i64 0, .int .i64 0, .int .i64 0, .int .i64 0], .agg #[.int .i64 0, .int .i64 0, .int .i64 0, .int .i64 0, .int .i64 0, .int .i64 0, .int .i64 0, .int .i64 0, .int .i64 0, .int .i64 0], .int .i64 0, .int .i64 0], []⟩ 8 (by kernel_rfl) (by kernel_rfl) (by kernel_rfl) (by kernel_rfl)) ?_
  intro W base args ds gs before hval0 hW _ _
  have hval : ∀ (j : Nat) t v, Try.f5.params[j]? = some t → args[j]? = some v → Value.okWide Try.prog W .any base t v := hval0
  have hW' := hW
  obtain ⟨p, q, hA0, hV, rfl, hfz, hnd⟩ := hW
  have hA : DataW.TrodAll enc Try.prog W 0 (fun _ => true) true Try.f5.params.toList args.toList ds p := hA0
  rw [Try.params5] at hA hval
  obtain ⟨v0, vs0, d0, ds0, p0, q0, hargs, rfl, rfl, h0, r0⟩ := trodAll_cons hA
  obtain ⟨v1, vs1, d1, ds1, p1, q1, rfl, rfl, rfl, h1, r1⟩ := trodAll_cons r0
  obtain ⟨v2, vs2, d2, ds2, p2, q2, rfl, rfl, rfl, h2, r2⟩ := trodAll_cons r1
  obtain ⟨v3, vs3, d3, ds3, p3, q3, rfl, rfl, rfl, h3, r3⟩ := trodAll_cons r2
  obtain ⟨v4, vs4, d4, ds4, p4, q4, rfl, rfl, rfl, h4, r4⟩ := trodAll_cons r3
  obtain ⟨rfl, rfl, rfl⟩ := trodAll_nil r4
  obtain rfl : args = #[v0, v1, v2, v3, v4] := by cases args; simp_all
  obtain ⟨rfl, rfl⟩ := trodVars_none hV
  have k0 := h0
  have lt0 : ∀ x ∈ p0, x.block < W.heap.size := by obtain ⟨m, hm⟩ := k0; exact DataW.trod_lt m _ _ _ hm
  obtain ⟨x0, rfl, w0⟩ := wt_of (hval 0 27 v0 rfl rfl) h0
  have k1 := h1
  have lt1 : ∀ x ∈ p1, x.block < W.heap.size := by obtain ⟨m, hm⟩ := k1; exact DataW.trod_lt m _ _ _ hm
  obtain ⟨x1, rfl, w1⟩ := wt_of (hval 1 27 v1 rfl rfl) h1
  have k2 := h2
  have lt2 : ∀ x ∈ p2, x.block < W.heap.size := by obtain ⟨m, hm⟩ := k2; exact DataW.trod_lt m _ _ _ hm
  obtain ⟨x2, rfl, w2⟩ := wt_of (hval 2 27 v2 rfl rfl) h2
  have k3 := h3
  have lt3 : ∀ x ∈ p3, x.block < W.heap.size := by obtain ⟨m, hm⟩ := k3; exact DataW.trod_lt m _ _ _ hm
  obtain ⟨a3, rfl, _, _, w3⟩ := open_int Try.underlying3 (hval 3 3 v3 rfl rfl) h3
  have k4 := h4
  have lt4 : ∀ x ∈ p4, x.block < W.heap.size := by obtain ⟨m, hm⟩ := k4; exact DataW.trod_lt m _ _ _ hm
  obtain ⟨a4, rfl, _, _, w4⟩ := open_int Try.underlying3 (hval 4 3 v4 rfl rfl) h4
  clear hA0 hval0
  refine (walk x0 x1 x2 a3 a4 W w0 w1 w2 w3 w4).mono fun e W' ⟨he, bel⟩ => ?_
  subst he
  exact ⟨_, rfl, _, _, _, [], _, [], hW', trodAll_mk1 (shut_bool Try.underlying4 _), (trodAll_cons_mk (Below.trod laidOut (by kernel_rfl) (of_decide_eq_true (by kernel_rfl)) k0 bel lt0) (trodAll_cons_mk (Below.trod laidOut (by kernel_rfl) (of_decide_eq_true (by kernel_rfl)) k1 bel lt1) (trodAll_cons_mk (Below.trod laidOut (by kernel_rfl) (of_decide_eq_true (by kernel_rfl)) k2 bel lt2) (trodAll_cons_mk (Below.trod laidOut (by kernel_rfl) (of_decide_eq_true (by kernel_rfl)) k3 bel lt3) (trodAll_cons_mk (Below.trod laidOut (by kernel_rfl) (of_decide_eq_true (by kernel_rfl)) k4 bel lt4) trodAll_mk0))))), rfl, bel.frame _, fun h => by cases h⟩

/-- THE STATEMENT. -/
theorem holds : Rows.OrderTotalSaid :=
  OpenClaim.holds_of_wide 5 Try.f5 rfl rfl rfl rfl rfl rfl rfl ⟨rfl, rfl, rfl, rfl, rfl⟩ rfl rfl rfl rfl rfl (by kernel_rfl) Try.func5 (by kernel_rfl)
    (of_decide_eq_true (by kernel_rfl)) (by unfold Func.isWrapper; first | (rw [if_pos (by decide +kernel)]; kernel_rfl) | (rw [if_neg (by decide +kernel)]; exact ⟨rfl, rfl⟩))
    (fun os started H enc _ => lifted os started H enc)
end Go.Proofs.Ytbknkfpgejkmoaa.orderTotal
