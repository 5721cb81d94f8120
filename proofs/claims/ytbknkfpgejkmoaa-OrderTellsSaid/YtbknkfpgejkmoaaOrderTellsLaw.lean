/- The rank of any wait, who of two is ahead, and whether for ever, are told as the document says, or refused: the law OrderTells answers true, at every input. -/
import Derived.Test.YtbknkfpgejkmoaaFrame
import Derived.Test.YtbknkfpgejkmoaaOrdIn
import Derived.Test.YtbknkfpgejkmoaaOrdAwake
import Derived.Test.YtbknkfpgejkmoaaOrdSure
set_option linter.unusedVariables false
namespace Go.Proofs.Ytbknkfpgejkmoaa.orderTells
open Go Go.ChangeShapes Go.WideShapes Go.ChangeAt Go.RowKit
set_option maxRecDepth 100000 in
set_option maxHeartbeats 4000000 in
theorem walk (x y : Wt) (now age : Int) (w : World) (wx : WtW x) (wy : WtW y) (wn : (Lit.int .i64 now).wf = true) (wa : (Lit.int .i64 age).wf = true) :
    Calls Try.prog 3 #[wtV x, wtV y, .int .i64 now, .int .i64 age] w fun e w' => e = .returned (.bool true) ∧ Below w.heap.size w w' := by
  have AW := Lib.hid (fun W => awake_o W)
  have R0 := fun W => prank_any x now age W
  have A0 := fun W => pahead_any x y now age W
  have S0 := fun W => psure_any x y now age W
  have T0 := fun W => reftime_any now age W
  have X0 := fun W => refright_any x W
  have Y0 := fun W => refright_any y W
  have K0 : mayA now age = true → mayW x = true → ∀ W, _ := fun h hx W => refrank_any x now age W (mayA_iff.1 h).1 (by have := mayA_iff.1 h; omega) (mayA_iff.1 h).2.2.1 (mayA_iff.1 h).2.2.2 hx
  have F0 : mayA now age = true → mayW x = true → mayW y = true → ∀ W, _ := fun h hx hy W => refahead_any x y now age W (mayA_iff.1 h).1 (by have := mayA_iff.1 h; omega) (mayA_iff.1 h).2.2.1 (mayA_iff.1 h).2.2.2 hx hy
  have G0 : mayA now age = true → mayW x = true → mayW y = true → ∀ W, _ := fun h hx hy W => refsure_any x y now age W (mayA_iff.1 h).1 (mayA_iff.1 h).2.1 (mayA_iff.1 h).2.2.1 (mayA_iff.1 h).2.2.2 hx hy
  obtain ⟨rk, hrk⟩ : ∃ r, r = rankF x now age := ⟨_, rfl⟩
  rw [← hrk] at R0 K0
  obtain ⟨ah, hah⟩ : ∃ r, r = aheadF now age x y := ⟨_, rfl⟩
  rw [← hah] at A0 F0
  obtain ⟨su, hsu⟩ : ∃ r, r = aheadF y.s age x y := ⟨_, rfl⟩
  rw [← hsu] at S0 G0
  clear hrk hah hsu wx wy wn wa
  have HQ0 := Lib.hid (((Bx.nil w).box x).box y)
  simp only [World.size_alloc] at HQ0
  cases hT : mayA now age
  · rw [hT] at R0 A0 S0 T0
    simp only [Bool.false_and, Bool.false_eq_true, if_false, wtV, wtA, wtO] at R0 A0 S0 T0 HQ0 ⊢
    have R1 := Lib.hid R0
    have A1 := Lib.hid A0
    have S1 := Lib.hid S0
    have T1 := Lib.hid T0
    clear R0 A0 S0 T0 X0 Y0 K0 F0 G0 hT
    go_enter Try.func3, Try.ntmps3
    go_wp2_with fail
    refine (AW.out _).mono ?_
    rintro e w1 ⟨rfl, hb1⟩
    have HQ1 := Lib.hid (HQ0.out.keep hb1)
    clear hb1
    obtain ⟨B, eB⟩ : ∃ q, q = w.heap.size + 1 := ⟨_, rfl⟩
    rw [← eB]
    rw [← eB] at HQ1
    have HeB := Lib.hid eB
    clear eB
    obtain ⟨A, eA⟩ : ∃ q, q = w.heap.size := ⟨_, rfl⟩
    rw [← eA]
    rw [← eA] at HQ1
    have HeA := Lib.hid eA
    clear eA
    have cB0 : w1.cell? ⟨B, 0, none⟩ = some (.int .i64 (y.id)) := HQ1.out.at_ 0 rfl 0 _ rfl
    have cB1 : w1.cell? ⟨B, 1, none⟩ = some (.int .i64 (y.q)) := HQ1.out.at_ 0 rfl 1 _ rfl
    have cB2 : w1.cell? ⟨B, 2, none⟩ = some (.int .i64 (y.p)) := HQ1.out.at_ 0 rfl 2 _ rfl
    have cB3 : w1.cell? ⟨B, 3, none⟩ = some (.int .i64 (y.r)) := HQ1.out.at_ 0 rfl 3 _ rfl
    have cB4 : w1.cell? ⟨B, 4, none⟩ = some (.int .i64 (y.g)) := HQ1.out.at_ 0 rfl 4 _ rfl
    have cB5 : w1.cell? ⟨B, 5, none⟩ = some (.int .i64 (y.c)) := HQ1.out.at_ 0 rfl 5 _ rfl
    have cB6 : w1.cell? ⟨B, 6, none⟩ = some (.int .i64 (y.mn)) := HQ1.out.at_ 0 rfl 6 _ rfl
    have cB7 : w1.cell? ⟨B, 7, none⟩ = some (.int .i64 (y.mx)) := HQ1.out.at_ 0 rfl 7 _ rfl
    have cB8 : w1.cell? ⟨B, 8, none⟩ = some (.int .i64 (y.s)) := HQ1.out.at_ 0 rfl 8 _ rfl
    have cB9 : w1.cell? ⟨B, 9, none⟩ = some (.int .i64 (y.n)) := HQ1.out.at_ 0 rfl 9 _ rfl
    have cA0 : w1.cell? ⟨A, 0, none⟩ = some (.int .i64 (x.id)) := HQ1.out.at_ 1 rfl 0 _ rfl
    have cA1 : w1.cell? ⟨A, 1, none⟩ = some (.int .i64 (x.q)) := HQ1.out.at_ 1 rfl 1 _ rfl
    have cA2 : w1.cell? ⟨A, 2, none⟩ = some (.int .i64 (x.p)) := HQ1.out.at_ 1 rfl 2 _ rfl
    have cA3 : w1.cell? ⟨A, 3, none⟩ = some (.int .i64 (x.r)) := HQ1.out.at_ 1 rfl 3 _ rfl
    have cA4 : w1.cell? ⟨A, 4, none⟩ = some (.int .i64 (x.g)) := HQ1.out.at_ 1 rfl 4 _ rfl
    have cA5 : w1.cell? ⟨A, 5, none⟩ = some (.int .i64 (x.c)) := HQ1.out.at_ 1 rfl 5 _ rfl
    have cA6 : w1.cell? ⟨A, 6, none⟩ = some (.int .i64 (x.mn)) := HQ1.out.at_ 1 rfl 6 _ rfl
    have cA7 : w1.cell? ⟨A, 7, none⟩ = some (.int .i64 (x.mx)) := HQ1.out.at_ 1 rfl 7 _ rfl
    have cA8 : w1.cell? ⟨A, 8, none⟩ = some (.int .i64 (x.s)) := HQ1.out.at_ 1 rfl 8 _ rfl
    have cA9 : w1.cell? ⟨A, 9, none⟩ = some (.int .i64 (x.n)) := HQ1.out.at_ 1 rfl 9 _ rfl
    go_wp2_with fail
    refine (R1.out _).mono ?_
    rintro e w2 ⟨rfl, hb2⟩
    have HQ2 := Lib.hid (HQ1.out.keep hb2)
    clear hb2
    clear HQ1
    clear cB0 cB1 cB2 cB3 cB4 cB5 cB6 cB7 cB8 cB9 cA0 cA1 cA2 cA3 cA4 cA5 cA6 cA7 cA8 cA9
    have cB0 : w2.cell? ⟨B, 0, none⟩ = some (.int .i64 (y.id)) := HQ2.out.at_ 0 rfl 0 _ rfl
    have cB1 : w2.cell? ⟨B, 1, none⟩ = some (.int .i64 (y.q)) := HQ2.out.at_ 0 rfl 1 _ rfl
    have cB2 : w2.cell? ⟨B, 2, none⟩ = some (.int .i64 (y.p)) := HQ2.out.at_ 0 rfl 2 _ rfl
    have cB3 : w2.cell? ⟨B, 3, none⟩ = some (.int .i64 (y.r)) := HQ2.out.at_ 0 rfl 3 _ rfl
    have cB4 : w2.cell? ⟨B, 4, none⟩ = some (.int .i64 (y.g)) := HQ2.out.at_ 0 rfl 4 _ rfl
    have cB5 : w2.cell? ⟨B, 5, none⟩ = some (.int .i64 (y.c)) := HQ2.out.at_ 0 rfl 5 _ rfl
    have cB6 : w2.cell? ⟨B, 6, none⟩ = some (.int .i64 (y.mn)) := HQ2.out.at_ 0 rfl 6 _ rfl
    have cB7 : w2.cell? ⟨B, 7, none⟩ = some (.int .i64 (y.mx)) := HQ2.out.at_ 0 rfl 7 _ rfl
    have cB8 : w2.cell? ⟨B, 8, none⟩ = some (.int .i64 (y.s)) := HQ2.out.at_ 0 rfl 8 _ rfl
    have cB9 : w2.cell? ⟨B, 9, none⟩ = some (.int .i64 (y.n)) := HQ2.out.at_ 0 rfl 9 _ rfl
    have cA0 : w2.cell? ⟨A, 0, none⟩ = some (.int .i64 (x.id)) := HQ2.out.at_ 1 rfl 0 _ rfl
    have cA1 : w2.cell? ⟨A, 1, none⟩ = some (.int .i64 (x.q)) := HQ2.out.at_ 1 rfl 1 _ rfl
    have cA2 : w2.cell? ⟨A, 2, none⟩ = some (.int .i64 (x.p)) := HQ2.out.at_ 1 rfl 2 _ rfl
    have cA3 : w2.cell? ⟨A, 3, none⟩ = some (.int .i64 (x.r)) := HQ2.out.at_ 1 rfl 3 _ rfl
    have cA4 : w2.cell? ⟨A, 4, none⟩ = some (.int .i64 (x.g)) := HQ2.out.at_ 1 rfl 4 _ rfl
    have cA5 : w2.cell? ⟨A, 5, none⟩ = some (.int .i64 (x.c)) := HQ2.out.at_ 1 rfl 5 _ rfl
    have cA6 : w2.cell? ⟨A, 6, none⟩ = some (.int .i64 (x.mn)) := HQ2.out.at_ 1 rfl 6 _ rfl
    have cA7 : w2.cell? ⟨A, 7, none⟩ = some (.int .i64 (x.mx)) := HQ2.out.at_ 1 rfl 7 _ rfl
    have cA8 : w2.cell? ⟨A, 8, none⟩ = some (.int .i64 (x.s)) := HQ2.out.at_ 1 rfl 8 _ rfl
    have cA9 : w2.cell? ⟨A, 9, none⟩ = some (.int .i64 (x.n)) := HQ2.out.at_ 1 rfl 9 _ rfl
    go_wp2_with fail
    refine (A1.out _).mono ?_
    rintro e w3 ⟨rfl, hb3⟩
    have HQ3 := Lib.hid (HQ2.out.keep hb3)
    clear hb3
    clear HQ2
    clear cB0 cB1 cB2 cB3 cB4 cB5 cB6 cB7 cB8 cB9 cA0 cA1 cA2 cA3 cA4 cA5 cA6 cA7 cA8 cA9
    have cB0 : w3.cell? ⟨B, 0, none⟩ = some (.int .i64 (y.id)) := HQ3.out.at_ 0 rfl 0 _ rfl
    have cB1 : w3.cell? ⟨B, 1, none⟩ = some (.int .i64 (y.q)) := HQ3.out.at_ 0 rfl 1 _ rfl
    have cB2 : w3.cell? ⟨B, 2, none⟩ = some (.int .i64 (y.p)) := HQ3.out.at_ 0 rfl 2 _ rfl
    have cB3 : w3.cell? ⟨B, 3, none⟩ = some (.int .i64 (y.r)) := HQ3.out.at_ 0 rfl 3 _ rfl
    have cB4 : w3.cell? ⟨B, 4, none⟩ = some (.int .i64 (y.g)) := HQ3.out.at_ 0 rfl 4 _ rfl
    have cB5 : w3.cell? ⟨B, 5, none⟩ = some (.int .i64 (y.c)) := HQ3.out.at_ 0 rfl 5 _ rfl
    have cB6 : w3.cell? ⟨B, 6, none⟩ = some (.int .i64 (y.mn)) := HQ3.out.at_ 0 rfl 6 _ rfl
    have cB7 : w3.cell? ⟨B, 7, none⟩ = some (.int .i64 (y.mx)) := HQ3.out.at_ 0 rfl 7 _ rfl
    have cB8 : w3.cell? ⟨B, 8, none⟩ = some (.int .i64 (y.s)) := HQ3.out.at_ 0 rfl 8 _ rfl
    have cB9 : w3.cell? ⟨B, 9, none⟩ = some (.int .i64 (y.n)) := HQ3.out.at_ 0 rfl 9 _ rfl
    have cA0 : w3.cell? ⟨A, 0, none⟩ = some (.int .i64 (x.id)) := HQ3.out.at_ 1 rfl 0 _ rfl
    have cA1 : w3.cell? ⟨A, 1, none⟩ = some (.int .i64 (x.q)) := HQ3.out.at_ 1 rfl 1 _ rfl
    have cA2 : w3.cell? ⟨A, 2, none⟩ = some (.int .i64 (x.p)) := HQ3.out.at_ 1 rfl 2 _ rfl
    have cA3 : w3.cell? ⟨A, 3, none⟩ = some (.int .i64 (x.r)) := HQ3.out.at_ 1 rfl 3 _ rfl
    have cA4 : w3.cell? ⟨A, 4, none⟩ = some (.int .i64 (x.g)) := HQ3.out.at_ 1 rfl 4 _ rfl
    have cA5 : w3.cell? ⟨A, 5, none⟩ = some (.int .i64 (x.c)) := HQ3.out.at_ 1 rfl 5 _ rfl
    have cA6 : w3.cell? ⟨A, 6, none⟩ = some (.int .i64 (x.mn)) := HQ3.out.at_ 1 rfl 6 _ rfl
    have cA7 : w3.cell? ⟨A, 7, none⟩ = some (.int .i64 (x.mx)) := HQ3.out.at_ 1 rfl 7 _ rfl
    have cA8 : w3.cell? ⟨A, 8, none⟩ = some (.int .i64 (x.s)) := HQ3.out.at_ 1 rfl 8 _ rfl
    have cA9 : w3.cell? ⟨A, 9, none⟩ = some (.int .i64 (x.n)) := HQ3.out.at_ 1 rfl 9 _ rfl
    go_wp2_with fail
    refine (S1.out _).mono ?_
    rintro e w4 ⟨rfl, hb4⟩
    have HQ4 := Lib.hid (HQ3.out.keep hb4)
    clear hb4
    clear HQ3
    clear cB0 cB1 cB2 cB3 cB4 cB5 cB6 cB7 cB8 cB9 cA0 cA1 cA2 cA3 cA4 cA5 cA6 cA7 cA8 cA9
    have cB0 : w4.cell? ⟨B, 0, none⟩ = some (.int .i64 (y.id)) := HQ4.out.at_ 0 rfl 0 _ rfl
    have cB1 : w4.cell? ⟨B, 1, none⟩ = some (.int .i64 (y.q)) := HQ4.out.at_ 0 rfl 1 _ rfl
    have cB2 : w4.cell? ⟨B, 2, none⟩ = some (.int .i64 (y.p)) := HQ4.out.at_ 0 rfl 2 _ rfl
    have cB3 : w4.cell? ⟨B, 3, none⟩ = some (.int .i64 (y.r)) := HQ4.out.at_ 0 rfl 3 _ rfl
    have cB4 : w4.cell? ⟨B, 4, none⟩ = some (.int .i64 (y.g)) := HQ4.out.at_ 0 rfl 4 _ rfl
    have cB5 : w4.cell? ⟨B, 5, none⟩ = some (.int .i64 (y.c)) := HQ4.out.at_ 0 rfl 5 _ rfl
    have cB6 : w4.cell? ⟨B, 6, none⟩ = some (.int .i64 (y.mn)) := HQ4.out.at_ 0 rfl 6 _ rfl
    have cB7 : w4.cell? ⟨B, 7, none⟩ = some (.int .i64 (y.mx)) := HQ4.out.at_ 0 rfl 7 _ rfl
    have cB8 : w4.cell? ⟨B, 8, none⟩ = some (.int .i64 (y.s)) := HQ4.out.at_ 0 rfl 8 _ rfl
    have cB9 : w4.cell? ⟨B, 9, none⟩ = some (.int .i64 (y.n)) := HQ4.out.at_ 0 rfl 9 _ rfl
    have cA0 : w4.cell? ⟨A, 0, none⟩ = some (.int .i64 (x.id)) := HQ4.out.at_ 1 rfl 0 _ rfl
    have cA1 : w4.cell? ⟨A, 1, none⟩ = some (.int .i64 (x.q)) := HQ4.out.at_ 1 rfl 1 _ rfl
    have cA2 : w4.cell? ⟨A, 2, none⟩ = some (.int .i64 (x.p)) := HQ4.out.at_ 1 rfl 2 _ rfl
    have cA3 : w4.cell? ⟨A, 3, none⟩ = some (.int .i64 (x.r)) := HQ4.out.at_ 1 rfl 3 _ rfl
    have cA4 : w4.cell? ⟨A, 4, none⟩ = some (.int .i64 (x.g)) := HQ4.out.at_ 1 rfl 4 _ rfl
    have cA5 : w4.cell? ⟨A, 5, none⟩ = some (.int .i64 (x.c)) := HQ4.out.at_ 1 rfl 5 _ rfl
    have cA6 : w4.cell? ⟨A, 6, none⟩ = some (.int .i64 (x.mn)) := HQ4.out.at_ 1 rfl 6 _ rfl
    have cA7 : w4.cell? ⟨A, 7, none⟩ = some (.int .i64 (x.mx)) := HQ4.out.at_ 1 rfl 7 _ rfl
    have cA8 : w4.cell? ⟨A, 8, none⟩ = some (.int .i64 (x.s)) := HQ4.out.at_ 1 rfl 8 _ rfl
    have cA9 : w4.cell? ⟨A, 9, none⟩ = some (.int .i64 (x.n)) := HQ4.out.at_ 1 rfl 9 _ rfl
    go_wp2_with fail
    refine (T1.out _).mono ?_
    rintro e w' ⟨rfl, rfl⟩
    go_wp2
    go_ret
    exact ⟨by first | rfl | (simp; done), HQ4.out.b⟩
  · cases hX : mayW x
    · rw [hT, hX] at R0 A0 S0
      rw [hT] at T0
      rw [hX] at X0
      simp only [Bool.false_and, Bool.and_false, Bool.true_and, Bool.false_eq_true, if_false, wtV, wtA, wtO] at R0 A0 S0 T0 X0 HQ0 ⊢
      have R1 := Lib.hid R0
      have A1 := Lib.hid A0
      have S1 := Lib.hid S0
      have T1 := Lib.hid T0
      have X1 := Lib.hid X0
      clear R0 A0 S0 T0 X0 Y0 K0 F0 G0 hT hX
      go_enter Try.func3, Try.ntmps3
      go_wp2_with fail
      refine (AW.out _).mono ?_
      rintro e w1 ⟨rfl, hb1⟩
      have HQ1 := Lib.hid (HQ0.out.keep hb1)
      clear hb1
      obtain ⟨B, eB⟩ : ∃ q, q = w.heap.size + 1 := ⟨_, rfl⟩
      rw [← eB]
      rw [← eB] at HQ1
      have HeB := Lib.hid eB
      clear eB
      obtain ⟨A, eA⟩ : ∃ q, q = w.heap.size := ⟨_, rfl⟩
      rw [← eA]
      rw [← eA] at HQ1
      have HeA := Lib.hid eA
      clear eA
      have cB0 : w1.cell? ⟨B, 0, none⟩ = some (.int .i64 (y.id)) := HQ1.out.at_ 0 rfl 0 _ rfl
      have cB1 : w1.cell? ⟨B, 1, none⟩ = some (.int .i64 (y.q)) := HQ1.out.at_ 0 rfl 1 _ rfl
      have cB2 : w1.cell? ⟨B, 2, none⟩ = some (.int .i64 (y.p)) := HQ1.out.at_ 0 rfl 2 _ rfl
      have cB3 : w1.cell? ⟨B, 3, none⟩ = some (.int .i64 (y.r)) := HQ1.out.at_ 0 rfl 3 _ rfl
      have cB4 : w1.cell? ⟨B, 4, none⟩ = some (.int .i64 (y.g)) := HQ1.out.at_ 0 rfl 4 _ rfl
      have cB5 : w1.cell? ⟨B, 5, none⟩ = some (.int .i64 (y.c)) := HQ1.out.at_ 0 rfl 5 _ rfl
      have cB6 : w1.cell? ⟨B, 6, none⟩ = some (.int .i64 (y.mn)) := HQ1.out.at_ 0 rfl 6 _ rfl
      have cB7 : w1.cell? ⟨B, 7, none⟩ = some (.int .i64 (y.mx)) := HQ1.out.at_ 0 rfl 7 _ rfl
      have cB8 : w1.cell? ⟨B, 8, none⟩ = some (.int .i64 (y.s)) := HQ1.out.at_ 0 rfl 8 _ rfl
      have cB9 : w1.cell? ⟨B, 9, none⟩ = some (.int .i64 (y.n)) := HQ1.out.at_ 0 rfl 9 _ rfl
      have cA0 : w1.cell? ⟨A, 0, none⟩ = some (.int .i64 (x.id)) := HQ1.out.at_ 1 rfl 0 _ rfl
      have cA1 : w1.cell? ⟨A, 1, none⟩ = some (.int .i64 (x.q)) := HQ1.out.at_ 1 rfl 1 _ rfl
      have cA2 : w1.cell? ⟨A, 2, none⟩ = some (.int .i64 (x.p)) := HQ1.out.at_ 1 rfl 2 _ rfl
      have cA3 : w1.cell? ⟨A, 3, none⟩ = some (.int .i64 (x.r)) := HQ1.out.at_ 1 rfl 3 _ rfl
      have cA4 : w1.cell? ⟨A, 4, none⟩ = some (.int .i64 (x.g)) := HQ1.out.at_ 1 rfl 4 _ rfl
      have cA5 : w1.cell? ⟨A, 5, none⟩ = some (.int .i64 (x.c)) := HQ1.out.at_ 1 rfl 5 _ rfl
      have cA6 : w1.cell? ⟨A, 6, none⟩ = some (.int .i64 (x.mn)) := HQ1.out.at_ 1 rfl 6 _ rfl
      have cA7 : w1.cell? ⟨A, 7, none⟩ = some (.int .i64 (x.mx)) := HQ1.out.at_ 1 rfl 7 _ rfl
      have cA8 : w1.cell? ⟨A, 8, none⟩ = some (.int .i64 (x.s)) := HQ1.out.at_ 1 rfl 8 _ rfl
      have cA9 : w1.cell? ⟨A, 9, none⟩ = some (.int .i64 (x.n)) := HQ1.out.at_ 1 rfl 9 _ rfl
      go_wp2_with fail
      refine (R1.out _).mono ?_
      rintro e w2 ⟨rfl, hb2⟩
      have HQ2 := Lib.hid (HQ1.out.keep hb2)
      clear hb2
      clear HQ1
      clear cB0 cB1 cB2 cB3 cB4 cB5 cB6 cB7 cB8 cB9 cA0 cA1 cA2 cA3 cA4 cA5 cA6 cA7 cA8 cA9
      have cB0 : w2.cell? ⟨B, 0, none⟩ = some (.int .i64 (y.id)) := HQ2.out.at_ 0 rfl 0 _ rfl
      have cB1 : w2.cell? ⟨B, 1, none⟩ = some (.int .i64 (y.q)) := HQ2.out.at_ 0 rfl 1 _ rfl
      have cB2 : w2.cell? ⟨B, 2, none⟩ = some (.int .i64 (y.p)) := HQ2.out.at_ 0 rfl 2 _ rfl
      have cB3 : w2.cell? ⟨B, 3, none⟩ = some (.int .i64 (y.r)) := HQ2.out.at_ 0 rfl 3 _ rfl
      have cB4 : w2.cell? ⟨B, 4, none⟩ = some (.int .i64 (y.g)) := HQ2.out.at_ 0 rfl 4 _ rfl
      have cB5 : w2.cell? ⟨B, 5, none⟩ = some (.int .i64 (y.c)) := HQ2.out.at_ 0 rfl 5 _ rfl
      have cB6 : w2.cell? ⟨B, 6, none⟩ = some (.int .i64 (y.mn)) := HQ2.out.at_ 0 rfl 6 _ rfl
      have cB7 : w2.cell? ⟨B, 7, none⟩ = some (.int .i64 (y.mx)) := HQ2.out.at_ 0 rfl 7 _ rfl
      have cB8 : w2.cell? ⟨B, 8, none⟩ = some (.int .i64 (y.s)) := HQ2.out.at_ 0 rfl 8 _ rfl
      have cB9 : w2.cell? ⟨B, 9, none⟩ = some (.int .i64 (y.n)) := HQ2.out.at_ 0 rfl 9 _ rfl
      have cA0 : w2.cell? ⟨A, 0, none⟩ = some (.int .i64 (x.id)) := HQ2.out.at_ 1 rfl 0 _ rfl
      have cA1 : w2.cell? ⟨A, 1, none⟩ = some (.int .i64 (x.q)) := HQ2.out.at_ 1 rfl 1 _ rfl
      have cA2 : w2.cell? ⟨A, 2, none⟩ = some (.int .i64 (x.p)) := HQ2.out.at_ 1 rfl 2 _ rfl
      have cA3 : w2.cell? ⟨A, 3, none⟩ = some (.int .i64 (x.r)) := HQ2.out.at_ 1 rfl 3 _ rfl
      have cA4 : w2.cell? ⟨A, 4, none⟩ = some (.int .i64 (x.g)) := HQ2.out.at_ 1 rfl 4 _ rfl
      have cA5 : w2.cell? ⟨A, 5, none⟩ = some (.int .i64 (x.c)) := HQ2.out.at_ 1 rfl 5 _ rfl
      have cA6 : w2.cell? ⟨A, 6, none⟩ = some (.int .i64 (x.mn)) := HQ2.out.at_ 1 rfl 6 _ rfl
      have cA7 : w2.cell? ⟨A, 7, none⟩ = some (.int .i64 (x.mx)) := HQ2.out.at_ 1 rfl 7 _ rfl
      have cA8 : w2.cell? ⟨A, 8, none⟩ = some (.int .i64 (x.s)) := HQ2.out.at_ 1 rfl 8 _ rfl
      have cA9 : w2.cell? ⟨A, 9, none⟩ = some (.int .i64 (x.n)) := HQ2.out.at_ 1 rfl 9 _ rfl
      go_wp2_with fail
      refine (A1.out _).mono ?_
      rintro e w3 ⟨rfl, hb3⟩
      have HQ3 := Lib.hid (HQ2.out.keep hb3)
      clear hb3
      clear HQ2
      clear cB0 cB1 cB2 cB3 cB4 cB5 cB6 cB7 cB8 cB9 cA0 cA1 cA2 cA3 cA4 cA5 cA6 cA7 cA8 cA9
      have cB0 : w3.cell? ⟨B, 0, none⟩ = some (.int .i64 (y.id)) := HQ3.out.at_ 0 rfl 0 _ rfl
      have cB1 : w3.cell? ⟨B, 1, none⟩ = some (.int .i64 (y.q)) := HQ3.out.at_ 0 rfl 1 _ rfl
      have cB2 : w3.cell? ⟨B, 2, none⟩ = some (.int .i64 (y.p)) := HQ3.out.at_ 0 rfl 2 _ rfl
      have cB3 : w3.cell? ⟨B, 3, none⟩ = some (.int .i64 (y.r)) := HQ3.out.at_ 0 rfl 3 _ rfl
      have cB4 : w3.cell? ⟨B, 4, none⟩ = some (.int .i64 (y.g)) := HQ3.out.at_ 0 rfl 4 _ rfl
      have cB5 : w3.cell? ⟨B, 5, none⟩ = some (.int .i64 (y.c)) := HQ3.out.at_ 0 rfl 5 _ rfl
      have cB6 : w3.cell? ⟨B, 6, none⟩ = some (.int .i64 (y.mn)) := HQ3.out.at_ 0 rfl 6 _ rfl
      have cB7 : w3.cell? ⟨B, 7, none⟩ = some (.int .i64 (y.mx)) := HQ3.out.at_ 0 rfl 7 _ rfl
      have cB8 : w3.cell? ⟨B, 8, none⟩ = some (.int .i64 (y.s)) := HQ3.out.at_ 0 rfl 8 _ rfl
      have cB9 : w3.cell? ⟨B, 9, none⟩ = some (.int .i64 (y.n)) := HQ3.out.at_ 0 rfl 9 _ rfl
      have cA0 : w3.cell? ⟨A, 0, none⟩ = some (.int .i64 (x.id)) := HQ3.out.at_ 1 rfl 0 _ rfl
      have cA1 : w3.cell? ⟨A, 1, none⟩ = some (.int .i64 (x.q)) := HQ3.out.at_ 1 rfl 1 _ rfl
      have cA2 : w3.cell? ⟨A, 2, none⟩ = some (.int .i64 (x.p)) := HQ3.out.at_ 1 rfl 2 _ rfl
      have cA3 : w3.cell? ⟨A, 3, none⟩ = some (.int .i64 (x.r)) := HQ3.out.at_ 1 rfl 3 _ rfl
      have cA4 : w3.cell? ⟨A, 4, none⟩ = some (.int .i64 (x.g)) := HQ3.out.at_ 1 rfl 4 _ rfl
      have cA5 : w3.cell? ⟨A, 5, none⟩ = some (.int .i64 (x.c)) := HQ3.out.at_ 1 rfl 5 _ rfl
      have cA6 : w3.cell? ⟨A, 6, none⟩ = some (.int .i64 (x.mn)) := HQ3.out.at_ 1 rfl 6 _ rfl
      have cA7 : w3.cell? ⟨A, 7, none⟩ = some (.int .i64 (x.mx)) := HQ3.out.at_ 1 rfl 7 _ rfl
      have cA8 : w3.cell? ⟨A, 8, none⟩ = some (.int .i64 (x.s)) := HQ3.out.at_ 1 rfl 8 _ rfl
      have cA9 : w3.cell? ⟨A, 9, none⟩ = some (.int .i64 (x.n)) := HQ3.out.at_ 1 rfl 9 _ rfl
      go_wp2_with fail
      refine (S1.out _).mono ?_
      rintro e w4 ⟨rfl, hb4⟩
      have HQ4 := Lib.hid (HQ3.out.keep hb4)
      clear hb4
      clear HQ3
      clear cB0 cB1 cB2 cB3 cB4 cB5 cB6 cB7 cB8 cB9 cA0 cA1 cA2 cA3 cA4 cA5 cA6 cA7 cA8 cA9
      have cB0 : w4.cell? ⟨B, 0, none⟩ = some (.int .i64 (y.id)) := HQ4.out.at_ 0 rfl 0 _ rfl
      have cB1 : w4.cell? ⟨B, 1, none⟩ = some (.int .i64 (y.q)) := HQ4.out.at_ 0 rfl 1 _ rfl
      have cB2 : w4.cell? ⟨B, 2, none⟩ = some (.int .i64 (y.p)) := HQ4.out.at_ 0 rfl 2 _ rfl
      have cB3 : w4.cell? ⟨B, 3, none⟩ = some (.int .i64 (y.r)) := HQ4.out.at_ 0 rfl 3 _ rfl
      have cB4 : w4.cell? ⟨B, 4, none⟩ = some (.int .i64 (y.g)) := HQ4.out.at_ 0 rfl 4 _ rfl
      have cB5 : w4.cell? ⟨B, 5, none⟩ = some (.int .i64 (y.c)) := HQ4.out.at_ 0 rfl 5 _ rfl
      have cB6 : w4.cell? ⟨B, 6, none⟩ = some (.int .i64 (y.mn)) := HQ4.out.at_ 0 rfl 6 _ rfl
      have cB7 : w4.cell? ⟨B, 7, none⟩ = some (.int .i64 (y.mx)) := HQ4.out.at_ 0 rfl 7 _ rfl
      have cB8 : w4.cell? ⟨B, 8, none⟩ = some (.int .i64 (y.s)) := HQ4.out.at_ 0 rfl 8 _ rfl
      have cB9 : w4.cell? ⟨B, 9, none⟩ = some (.int .i64 (y.n)) := HQ4.out.at_ 0 rfl 9 _ rfl
      have cA0 : w4.cell? ⟨A, 0, none⟩ = some (.int .i64 (x.id)) := HQ4.out.at_ 1 rfl 0 _ rfl
      have cA1 : w4.cell? ⟨A, 1, none⟩ = some (.int .i64 (x.q)) := HQ4.out.at_ 1 rfl 1 _ rfl
      have cA2 : w4.cell? ⟨A, 2, none⟩ = some (.int .i64 (x.p)) := HQ4.out.at_ 1 rfl 2 _ rfl
      have cA3 : w4.cell? ⟨A, 3, none⟩ = some (.int .i64 (x.r)) := HQ4.out.at_ 1 rfl 3 _ rfl
      have cA4 : w4.cell? ⟨A, 4, none⟩ = some (.int .i64 (x.g)) := HQ4.out.at_ 1 rfl 4 _ rfl
      have cA5 : w4.cell? ⟨A, 5, none⟩ = some (.int .i64 (x.c)) := HQ4.out.at_ 1 rfl 5 _ rfl
      have cA6 : w4.cell? ⟨A, 6, none⟩ = some (.int .i64 (x.mn)) := HQ4.out.at_ 1 rfl 6 _ rfl
      have cA7 : w4.cell? ⟨A, 7, none⟩ = some (.int .i64 (x.mx)) := HQ4.out.at_ 1 rfl 7 _ rfl
      have cA8 : w4.cell? ⟨A, 8, none⟩ = some (.int .i64 (x.s)) := HQ4.out.at_ 1 rfl 8 _ rfl
      have cA9 : w4.cell? ⟨A, 9, none⟩ = some (.int .i64 (x.n)) := HQ4.out.at_ 1 rfl 9 _ rfl
      go_wp2_with fail
      refine (T1.out _).mono ?_
      rintro e w' ⟨rfl, rfl⟩
      go_wp2_with fail
      refine (X1.out _).mono ?_
      rintro e w5 ⟨rfl, hb5⟩
      have HQ5 := Lib.hid (HQ4.out.keep hb5)
      clear hb5
      clear HQ4
      clear cB0 cB1 cB2 cB3 cB4 cB5 cB6 cB7 cB8 cB9 cA0 cA1 cA2 cA3 cA4 cA5 cA6 cA7 cA8 cA9
      have cB0 : w5.cell? ⟨B, 0, none⟩ = some (.int .i64 (y.id)) := HQ5.out.at_ 0 rfl 0 _ rfl
      have cB1 : w5.cell? ⟨B, 1, none⟩ = some (.int .i64 (y.q)) := HQ5.out.at_ 0 rfl 1 _ rfl
      have cB2 : w5.cell? ⟨B, 2, none⟩ = some (.int .i64 (y.p)) := HQ5.out.at_ 0 rfl 2 _ rfl
      have cB3 : w5.cell? ⟨B, 3, none⟩ = some (.int .i64 (y.r)) := HQ5.out.at_ 0 rfl 3 _ rfl
      have cB4 : w5.cell? ⟨B, 4, none⟩ = some (.int .i64 (y.g)) := HQ5.out.at_ 0 rfl 4 _ rfl
      have cB5 : w5.cell? ⟨B, 5, none⟩ = some (.int .i64 (y.c)) := HQ5.out.at_ 0 rfl 5 _ rfl
      have cB6 : w5.cell? ⟨B, 6, none⟩ = some (.int .i64 (y.mn)) := HQ5.out.at_ 0 rfl 6 _ rfl
      have cB7 : w5.cell? ⟨B, 7, none⟩ = some (.int .i64 (y.mx)) := HQ5.out.at_ 0 rfl 7 _ rfl
      have cB8 : w5.cell? ⟨B, 8, none⟩ = some (.int .i64 (y.s)) := HQ5.out.at_ 0 rfl 8 _ rfl
      have cB9 : w5.cell? ⟨B, 9, none⟩ = some (.int .i64 (y.n)) := HQ5.out.at_ 0 rfl 9 _ rfl
      have cA0 : w5.cell? ⟨A, 0, none⟩ = some (.int .i64 (x.id)) := HQ5.out.at_ 1 rfl 0 _ rfl
      have cA1 : w5.cell? ⟨A, 1, none⟩ = some (.int .i64 (x.q)) := HQ5.out.at_ 1 rfl 1 _ rfl
      have cA2 : w5.cell? ⟨A, 2, none⟩ = some (.int .i64 (x.p)) := HQ5.out.at_ 1 rfl 2 _ rfl
      have cA3 : w5.cell? ⟨A, 3, none⟩ = some (.int .i64 (x.r)) := HQ5.out.at_ 1 rfl 3 _ rfl
      have cA4 : w5.cell? ⟨A, 4, none⟩ = some (.int .i64 (x.g)) := HQ5.out.at_ 1 rfl 4 _ rfl
      have cA5 : w5.cell? ⟨A, 5, none⟩ = some (.int .i64 (x.c)) := HQ5.out.at_ 1 rfl 5 _ rfl
      have cA6 : w5.cell? ⟨A, 6, none⟩ = some (.int .i64 (x.mn)) := HQ5.out.at_ 1 rfl 6 _ rfl
      have cA7 : w5.cell? ⟨A, 7, none⟩ = some (.int .i64 (x.mx)) := HQ5.out.at_ 1 rfl 7 _ rfl
      have cA8 : w5.cell? ⟨A, 8, none⟩ = some (.int .i64 (x.s)) := HQ5.out.at_ 1 rfl 8 _ rfl
      have cA9 : w5.cell? ⟨A, 9, none⟩ = some (.int .i64 (x.n)) := HQ5.out.at_ 1 rfl 9 _ rfl
      go_wp2
      go_ret
      exact ⟨by first | rfl | (simp; done), HQ5.out.b⟩
    · cases hY : mayW y
      · have K2 := K0 hT hX
        rw [hT, hX] at R0
        rw [hT, hX, hY] at A0 S0
        rw [hT] at T0
        rw [hX] at X0
        rw [hY] at Y0
        simp only [Bool.false_and, Bool.and_false, Bool.true_and, Bool.false_eq_true, if_false, if_true, wtV, wtA, wtO] at R0 A0 S0 T0 X0 Y0 K2 HQ0 ⊢
        have R1 := Lib.hid R0
        have A1 := Lib.hid A0
        have S1 := Lib.hid S0
        have T1 := Lib.hid T0
        have X1 := Lib.hid X0
        have Y1 := Lib.hid Y0
        have K1 := Lib.hid K2
        have t1 : (rk != rk) = false := by simp
        clear R0 A0 S0 T0 X0 Y0 K0 F0 G0 K2 hT hX hY
        go_enter Try.func3, Try.ntmps3
        go_wp2_with fail
        refine (AW.out _).mono ?_
        rintro e w1 ⟨rfl, hb1⟩
        have HQ1 := Lib.hid (HQ0.out.keep hb1)
        clear hb1
        obtain ⟨B, eB⟩ : ∃ q, q = w.heap.size + 1 := ⟨_, rfl⟩
        rw [← eB]
        rw [← eB] at HQ1
        have HeB := Lib.hid eB
        clear eB
        obtain ⟨A, eA⟩ : ∃ q, q = w.heap.size := ⟨_, rfl⟩
        rw [← eA]
        rw [← eA] at HQ1
        have HeA := Lib.hid eA
        clear eA
        have cB0 : w1.cell? ⟨B, 0, none⟩ = some (.int .i64 (y.id)) := HQ1.out.at_ 0 rfl 0 _ rfl
        have cB1 : w1.cell? ⟨B, 1, none⟩ = some (.int .i64 (y.q)) := HQ1.out.at_ 0 rfl 1 _ rfl
        have cB2 : w1.cell? ⟨B, 2, none⟩ = some (.int .i64 (y.p)) := HQ1.out.at_ 0 rfl 2 _ rfl
        have cB3 : w1.cell? ⟨B, 3, none⟩ = some (.int .i64 (y.r)) := HQ1.out.at_ 0 rfl 3 _ rfl
        have cB4 : w1.cell? ⟨B, 4, none⟩ = some (.int .i64 (y.g)) := HQ1.out.at_ 0 rfl 4 _ rfl
        have cB5 : w1.cell? ⟨B, 5, none⟩ = some (.int .i64 (y.c)) := HQ1.out.at_ 0 rfl 5 _ rfl
        have cB6 : w1.cell? ⟨B, 6, none⟩ = some (.int .i64 (y.mn)) := HQ1.out.at_ 0 rfl 6 _ rfl
        have cB7 : w1.cell? ⟨B, 7, none⟩ = some (.int .i64 (y.mx)) := HQ1.out.at_ 0 rfl 7 _ rfl
        have cB8 : w1.cell? ⟨B, 8, none⟩ = some (.int .i64 (y.s)) := HQ1.out.at_ 0 rfl 8 _ rfl
        have cB9 : w1.cell? ⟨B, 9, none⟩ = some (.int .i64 (y.n)) := HQ1.out.at_ 0 rfl 9 _ rfl
        have cA0 : w1.cell? ⟨A, 0, none⟩ = some (.int .i64 (x.id)) := HQ1.out.at_ 1 rfl 0 _ rfl
        have cA1 : w1.cell? ⟨A, 1, none⟩ = some (.int .i64 (x.q)) := HQ1.out.at_ 1 rfl 1 _ rfl
        have cA2 : w1.cell? ⟨A, 2, none⟩ = some (.int .i64 (x.p)) := HQ1.out.at_ 1 rfl 2 _ rfl
        have cA3 : w1.cell? ⟨A, 3, none⟩ = some (.int .i64 (x.r)) := HQ1.out.at_ 1 rfl 3 _ rfl
        have cA4 : w1.cell? ⟨A, 4, none⟩ = some (.int .i64 (x.g)) := HQ1.out.at_ 1 rfl 4 _ rfl
        have cA5 : w1.cell? ⟨A, 5, none⟩ = some (.int .i64 (x.c)) := HQ1.out.at_ 1 rfl 5 _ rfl
        have cA6 : w1.cell? ⟨A, 6, none⟩ = some (.int .i64 (x.mn)) := HQ1.out.at_ 1 rfl 6 _ rfl
        have cA7 : w1.cell? ⟨A, 7, none⟩ = some (.int .i64 (x.mx)) := HQ1.out.at_ 1 rfl 7 _ rfl
        have cA8 : w1.cell? ⟨A, 8, none⟩ = some (.int .i64 (x.s)) := HQ1.out.at_ 1 rfl 8 _ rfl
        have cA9 : w1.cell? ⟨A, 9, none⟩ = some (.int .i64 (x.n)) := HQ1.out.at_ 1 rfl 9 _ rfl
        go_wp2_with fail
        refine (R1.out _).mono ?_
        rintro e w2 ⟨rfl, hb2⟩
        have HQ2 := Lib.hid (HQ1.out.keep hb2)
        clear hb2
        clear HQ1
        clear cB0 cB1 cB2 cB3 cB4 cB5 cB6 cB7 cB8 cB9 cA0 cA1 cA2 cA3 cA4 cA5 cA6 cA7 cA8 cA9
        have cB0 : w2.cell? ⟨B, 0, none⟩ = some (.int .i64 (y.id)) := HQ2.out.at_ 0 rfl 0 _ rfl
        have cB1 : w2.cell? ⟨B, 1, none⟩ = some (.int .i64 (y.q)) := HQ2.out.at_ 0 rfl 1 _ rfl
        have cB2 : w2.cell? ⟨B, 2, none⟩ = some (.int .i64 (y.p)) := HQ2.out.at_ 0 rfl 2 _ rfl
        have cB3 : w2.cell? ⟨B, 3, none⟩ = some (.int .i64 (y.r)) := HQ2.out.at_ 0 rfl 3 _ rfl
        have cB4 : w2.cell? ⟨B, 4, none⟩ = some (.int .i64 (y.g)) := HQ2.out.at_ 0 rfl 4 _ rfl
        have cB5 : w2.cell? ⟨B, 5, none⟩ = some (.int .i64 (y.c)) := HQ2.out.at_ 0 rfl 5 _ rfl
        have cB6 : w2.cell? ⟨B, 6, none⟩ = some (.int .i64 (y.mn)) := HQ2.out.at_ 0 rfl 6 _ rfl
        have cB7 : w2.cell? ⟨B, 7, none⟩ = some (.int .i64 (y.mx)) := HQ2.out.at_ 0 rfl 7 _ rfl
        have cB8 : w2.cell? ⟨B, 8, none⟩ = some (.int .i64 (y.s)) := HQ2.out.at_ 0 rfl 8 _ rfl
        have cB9 : w2.cell? ⟨B, 9, none⟩ = some (.int .i64 (y.n)) := HQ2.out.at_ 0 rfl 9 _ rfl
        have cA0 : w2.cell? ⟨A, 0, none⟩ = some (.int .i64 (x.id)) := HQ2.out.at_ 1 rfl 0 _ rfl
        have cA1 : w2.cell? ⟨A, 1, none⟩ = some (.int .i64 (x.q)) := HQ2.out.at_ 1 rfl 1 _ rfl
        have cA2 : w2.cell? ⟨A, 2, none⟩ = some (.int .i64 (x.p)) := HQ2.out.at_ 1 rfl 2 _ rfl
        have cA3 : w2.cell? ⟨A, 3, none⟩ = some (.int .i64 (x.r)) := HQ2.out.at_ 1 rfl 3 _ rfl
        have cA4 : w2.cell? ⟨A, 4, none⟩ = some (.int .i64 (x.g)) := HQ2.out.at_ 1 rfl 4 _ rfl
        have cA5 : w2.cell? ⟨A, 5, none⟩ = some (.int .i64 (x.c)) := HQ2.out.at_ 1 rfl 5 _ rfl
        have cA6 : w2.cell? ⟨A, 6, none⟩ = some (.int .i64 (x.mn)) := HQ2.out.at_ 1 rfl 6 _ rfl
        have cA7 : w2.cell? ⟨A, 7, none⟩ = some (.int .i64 (x.mx)) := HQ2.out.at_ 1 rfl 7 _ rfl
        have cA8 : w2.cell? ⟨A, 8, none⟩ = some (.int .i64 (x.s)) := HQ2.out.at_ 1 rfl 8 _ rfl
        have cA9 : w2.cell? ⟨A, 9, none⟩ = some (.int .i64 (x.n)) := HQ2.out.at_ 1 rfl 9 _ rfl
        go_wp2_with fail
        refine (A1.out _).mono ?_
        rintro e w3 ⟨rfl, hb3⟩
        have HQ3 := Lib.hid (HQ2.out.keep hb3)
        clear hb3
        clear HQ2
        clear cB0 cB1 cB2 cB3 cB4 cB5 cB6 cB7 cB8 cB9 cA0 cA1 cA2 cA3 cA4 cA5 cA6 cA7 cA8 cA9
        have cB0 : w3.cell? ⟨B, 0, none⟩ = some (.int .i64 (y.id)) := HQ3.out.at_ 0 rfl 0 _ rfl
        have cB1 : w3.cell? ⟨B, 1, none⟩ = some (.int .i64 (y.q)) := HQ3.out.at_ 0 rfl 1 _ rfl
        have cB2 : w3.cell? ⟨B, 2, none⟩ = some (.int .i64 (y.p)) := HQ3.out.at_ 0 rfl 2 _ rfl
        have cB3 : w3.cell? ⟨B, 3, none⟩ = some (.int .i64 (y.r)) := HQ3.out.at_ 0 rfl 3 _ rfl
        have cB4 : w3.cell? ⟨B, 4, none⟩ = some (.int .i64 (y.g)) := HQ3.out.at_ 0 rfl 4 _ rfl
        have cB5 : w3.cell? ⟨B, 5, none⟩ = some (.int .i64 (y.c)) := HQ3.out.at_ 0 rfl 5 _ rfl
        have cB6 : w3.cell? ⟨B, 6, none⟩ = some (.int .i64 (y.mn)) := HQ3.out.at_ 0 rfl 6 _ rfl
        have cB7 : w3.cell? ⟨B, 7, none⟩ = some (.int .i64 (y.mx)) := HQ3.out.at_ 0 rfl 7 _ rfl
        have cB8 : w3.cell? ⟨B, 8, none⟩ = some (.int .i64 (y.s)) := HQ3.out.at_ 0 rfl 8 _ rfl
        have cB9 : w3.cell? ⟨B, 9, none⟩ = some (.int .i64 (y.n)) := HQ3.out.at_ 0 rfl 9 _ rfl
        have cA0 : w3.cell? ⟨A, 0, none⟩ = some (.int .i64 (x.id)) := HQ3.out.at_ 1 rfl 0 _ rfl
        have cA1 : w3.cell? ⟨A, 1, none⟩ = some (.int .i64 (x.q)) := HQ3.out.at_ 1 rfl 1 _ rfl
        have cA2 : w3.cell? ⟨A, 2, none⟩ = some (.int .i64 (x.p)) := HQ3.out.at_ 1 rfl 2 _ rfl
        have cA3 : w3.cell? ⟨A, 3, none⟩ = some (.int .i64 (x.r)) := HQ3.out.at_ 1 rfl 3 _ rfl
        have cA4 : w3.cell? ⟨A, 4, none⟩ = some (.int .i64 (x.g)) := HQ3.out.at_ 1 rfl 4 _ rfl
        have cA5 : w3.cell? ⟨A, 5, none⟩ = some (.int .i64 (x.c)) := HQ3.out.at_ 1 rfl 5 _ rfl
        have cA6 : w3.cell? ⟨A, 6, none⟩ = some (.int .i64 (x.mn)) := HQ3.out.at_ 1 rfl 6 _ rfl
        have cA7 : w3.cell? ⟨A, 7, none⟩ = some (.int .i64 (x.mx)) := HQ3.out.at_ 1 rfl 7 _ rfl
        have cA8 : w3.cell? ⟨A, 8, none⟩ = some (.int .i64 (x.s)) := HQ3.out.at_ 1 rfl 8 _ rfl
        have cA9 : w3.cell? ⟨A, 9, none⟩ = some (.int .i64 (x.n)) := HQ3.out.at_ 1 rfl 9 _ rfl
        go_wp2_with fail
        refine (S1.out _).mono ?_
        rintro e w4 ⟨rfl, hb4⟩
        have HQ4 := Lib.hid (HQ3.out.keep hb4)
        clear hb4
        clear HQ3
        clear cB0 cB1 cB2 cB3 cB4 cB5 cB6 cB7 cB8 cB9 cA0 cA1 cA2 cA3 cA4 cA5 cA6 cA7 cA8 cA9
        have cB0 : w4.cell? ⟨B, 0, none⟩ = some (.int .i64 (y.id)) := HQ4.out.at_ 0 rfl 0 _ rfl
        have cB1 : w4.cell? ⟨B, 1, none⟩ = some (.int .i64 (y.q)) := HQ4.out.at_ 0 rfl 1 _ rfl
        have cB2 : w4.cell? ⟨B, 2, none⟩ = some (.int .i64 (y.p)) := HQ4.out.at_ 0 rfl 2 _ rfl
        have cB3 : w4.cell? ⟨B, 3, none⟩ = some (.int .i64 (y.r)) := HQ4.out.at_ 0 rfl 3 _ rfl
        have cB4 : w4.cell? ⟨B, 4, none⟩ = some (.int .i64 (y.g)) := HQ4.out.at_ 0 rfl 4 _ rfl
        have cB5 : w4.cell? ⟨B, 5, none⟩ = some (.int .i64 (y.c)) := HQ4.out.at_ 0 rfl 5 _ rfl
        have cB6 : w4.cell? ⟨B, 6, none⟩ = some (.int .i64 (y.mn)) := HQ4.out.at_ 0 rfl 6 _ rfl
        have cB7 : w4.cell? ⟨B, 7, none⟩ = some (.int .i64 (y.mx)) := HQ4.out.at_ 0 rfl 7 _ rfl
        have cB8 : w4.cell? ⟨B, 8, none⟩ = some (.int .i64 (y.s)) := HQ4.out.at_ 0 rfl 8 _ rfl
        have cB9 : w4.cell? ⟨B, 9, none⟩ = some (.int .i64 (y.n)) := HQ4.out.at_ 0 rfl 9 _ rfl
        have cA0 : w4.cell? ⟨A, 0, none⟩ = some (.int .i64 (x.id)) := HQ4.out.at_ 1 rfl 0 _ rfl
        have cA1 : w4.cell? ⟨A, 1, none⟩ = some (.int .i64 (x.q)) := HQ4.out.at_ 1 rfl 1 _ rfl
        have cA2 : w4.cell? ⟨A, 2, none⟩ = some (.int .i64 (x.p)) := HQ4.out.at_ 1 rfl 2 _ rfl
        have cA3 : w4.cell? ⟨A, 3, none⟩ = some (.int .i64 (x.r)) := HQ4.out.at_ 1 rfl 3 _ rfl
        have cA4 : w4.cell? ⟨A, 4, none⟩ = some (.int .i64 (x.g)) := HQ4.out.at_ 1 rfl 4 _ rfl
        have cA5 : w4.cell? ⟨A, 5, none⟩ = some (.int .i64 (x.c)) := HQ4.out.at_ 1 rfl 5 _ rfl
        have cA6 : w4.cell? ⟨A, 6, none⟩ = some (.int .i64 (x.mn)) := HQ4.out.at_ 1 rfl 6 _ rfl
        have cA7 : w4.cell? ⟨A, 7, none⟩ = some (.int .i64 (x.mx)) := HQ4.out.at_ 1 rfl 7 _ rfl
        have cA8 : w4.cell? ⟨A, 8, none⟩ = some (.int .i64 (x.s)) := HQ4.out.at_ 1 rfl 8 _ rfl
        have cA9 : w4.cell? ⟨A, 9, none⟩ = some (.int .i64 (x.n)) := HQ4.out.at_ 1 rfl 9 _ rfl
        go_wp2_with fail
        refine (T1.out _).mono ?_
        rintro e w' ⟨rfl, rfl⟩
        go_wp2_with fail
        refine (X1.out _).mono ?_
        rintro e w5 ⟨rfl, hb5⟩
        have HQ5 := Lib.hid (HQ4.out.keep hb5)
        clear hb5
        clear HQ4
        clear cB0 cB1 cB2 cB3 cB4 cB5 cB6 cB7 cB8 cB9 cA0 cA1 cA2 cA3 cA4 cA5 cA6 cA7 cA8 cA9
        have cB0 : w5.cell? ⟨B, 0, none⟩ = some (.int .i64 (y.id)) := HQ5.out.at_ 0 rfl 0 _ rfl
        have cB1 : w5.cell? ⟨B, 1, none⟩ = some (.int .i64 (y.q)) := HQ5.out.at_ 0 rfl 1 _ rfl
        have cB2 : w5.cell? ⟨B, 2, none⟩ = some (.int .i64 (y.p)) := HQ5.out.at_ 0 rfl 2 _ rfl
        have cB3 : w5.cell? ⟨B, 3, none⟩ = some (.int .i64 (y.r)) := HQ5.out.at_ 0 rfl 3 _ rfl
        have cB4 : w5.cell? ⟨B, 4, none⟩ = some (.int .i64 (y.g)) := HQ5.out.at_ 0 rfl 4 _ rfl
        have cB5 : w5.cell? ⟨B, 5, none⟩ = some (.int .i64 (y.c)) := HQ5.out.at_ 0 rfl 5 _ rfl
        have cB6 : w5.cell? ⟨B, 6, none⟩ = some (.int .i64 (y.mn)) := HQ5.out.at_ 0 rfl 6 _ rfl
        have cB7 : w5.cell? ⟨B, 7, none⟩ = some (.int .i64 (y.mx)) := HQ5.out.at_ 0 rfl 7 _ rfl
        have cB8 : w5.cell? ⟨B, 8, none⟩ = some (.int .i64 (y.s)) := HQ5.out.at_ 0 rfl 8 _ rfl
        have cB9 : w5.cell? ⟨B, 9, none⟩ = some (.int .i64 (y.n)) := HQ5.out.at_ 0 rfl 9 _ rfl
        have cA0 : w5.cell? ⟨A, 0, none⟩ = some (.int .i64 (x.id)) := HQ5.out.at_ 1 rfl 0 _ rfl
        have cA1 : w5.cell? ⟨A, 1, none⟩ = some (.int .i64 (x.q)) := HQ5.out.at_ 1 rfl 1 _ rfl
        have cA2 : w5.cell? ⟨A, 2, none⟩ = some (.int .i64 (x.p)) := HQ5.out.at_ 1 rfl 2 _ rfl
        have cA3 : w5.cell? ⟨A, 3, none⟩ = some (.int .i64 (x.r)) := HQ5.out.at_ 1 rfl 3 _ rfl
        have cA4 : w5.cell? ⟨A, 4, none⟩ = some (.int .i64 (x.g)) := HQ5.out.at_ 1 rfl 4 _ rfl
        have cA5 : w5.cell? ⟨A, 5, none⟩ = some (.int .i64 (x.c)) := HQ5.out.at_ 1 rfl 5 _ rfl
        have cA6 : w5.cell? ⟨A, 6, none⟩ = some (.int .i64 (x.mn)) := HQ5.out.at_ 1 rfl 6 _ rfl
        have cA7 : w5.cell? ⟨A, 7, none⟩ = some (.int .i64 (x.mx)) := HQ5.out.at_ 1 rfl 7 _ rfl
        have cA8 : w5.cell? ⟨A, 8, none⟩ = some (.int .i64 (x.s)) := HQ5.out.at_ 1 rfl 8 _ rfl
        have cA9 : w5.cell? ⟨A, 9, none⟩ = some (.int .i64 (x.n)) := HQ5.out.at_ 1 rfl 9 _ rfl
        go_wp2_with fail
        refine (K1.out _).mono ?_
        rintro e w6 ⟨rfl, hb6⟩
        have HQ6 := Lib.hid (HQ5.out.keep hb6)
        clear hb6
        clear HQ5
        clear cB0 cB1 cB2 cB3 cB4 cB5 cB6 cB7 cB8 cB9 cA0 cA1 cA2 cA3 cA4 cA5 cA6 cA7 cA8 cA9
        have cB0 : w6.cell? ⟨B, 0, none⟩ = some (.int .i64 (y.id)) := HQ6.out.at_ 0 rfl 0 _ rfl
        have cB1 : w6.cell? ⟨B, 1, none⟩ = some (.int .i64 (y.q)) := HQ6.out.at_ 0 rfl 1 _ rfl
        have cB2 : w6.cell? ⟨B, 2, none⟩ = some (.int .i64 (y.p)) := HQ6.out.at_ 0 rfl 2 _ rfl
        have cB3 : w6.cell? ⟨B, 3, none⟩ = some (.int .i64 (y.r)) := HQ6.out.at_ 0 rfl 3 _ rfl
        have cB4 : w6.cell? ⟨B, 4, none⟩ = some (.int .i64 (y.g)) := HQ6.out.at_ 0 rfl 4 _ rfl
        have cB5 : w6.cell? ⟨B, 5, none⟩ = some (.int .i64 (y.c)) := HQ6.out.at_ 0 rfl 5 _ rfl
        have cB6 : w6.cell? ⟨B, 6, none⟩ = some (.int .i64 (y.mn)) := HQ6.out.at_ 0 rfl 6 _ rfl
        have cB7 : w6.cell? ⟨B, 7, none⟩ = some (.int .i64 (y.mx)) := HQ6.out.at_ 0 rfl 7 _ rfl
        have cB8 : w6.cell? ⟨B, 8, none⟩ = some (.int .i64 (y.s)) := HQ6.out.at_ 0 rfl 8 _ rfl
        have cB9 : w6.cell? ⟨B, 9, none⟩ = some (.int .i64 (y.n)) := HQ6.out.at_ 0 rfl 9 _ rfl
        have cA0 : w6.cell? ⟨A, 0, none⟩ = some (.int .i64 (x.id)) := HQ6.out.at_ 1 rfl 0 _ rfl
        have cA1 : w6.cell? ⟨A, 1, none⟩ = some (.int .i64 (x.q)) := HQ6.out.at_ 1 rfl 1 _ rfl
        have cA2 : w6.cell? ⟨A, 2, none⟩ = some (.int .i64 (x.p)) := HQ6.out.at_ 1 rfl 2 _ rfl
        have cA3 : w6.cell? ⟨A, 3, none⟩ = some (.int .i64 (x.r)) := HQ6.out.at_ 1 rfl 3 _ rfl
        have cA4 : w6.cell? ⟨A, 4, none⟩ = some (.int .i64 (x.g)) := HQ6.out.at_ 1 rfl 4 _ rfl
        have cA5 : w6.cell? ⟨A, 5, none⟩ = some (.int .i64 (x.c)) := HQ6.out.at_ 1 rfl 5 _ rfl
        have cA6 : w6.cell? ⟨A, 6, none⟩ = some (.int .i64 (x.mn)) := HQ6.out.at_ 1 rfl 6 _ rfl
        have cA7 : w6.cell? ⟨A, 7, none⟩ = some (.int .i64 (x.mx)) := HQ6.out.at_ 1 rfl 7 _ rfl
        have cA8 : w6.cell? ⟨A, 8, none⟩ = some (.int .i64 (x.s)) := HQ6.out.at_ 1 rfl 8 _ rfl
        have cA9 : w6.cell? ⟨A, 9, none⟩ = some (.int .i64 (x.n)) := HQ6.out.at_ 1 rfl 9 _ rfl
        go_wp2_with fail
        refine (Y1.out _).mono ?_
        rintro e w7 ⟨rfl, hb7⟩
        have HQ7 := Lib.hid (HQ6.out.keep hb7)
        clear hb7
        clear HQ6
        clear cB0 cB1 cB2 cB3 cB4 cB5 cB6 cB7 cB8 cB9 cA0 cA1 cA2 cA3 cA4 cA5 cA6 cA7 cA8 cA9
        have cB0 : w7.cell? ⟨B, 0, none⟩ = some (.int .i64 (y.id)) := HQ7.out.at_ 0 rfl 0 _ rfl
        have cB1 : w7.cell? ⟨B, 1, none⟩ = some (.int .i64 (y.q)) := HQ7.out.at_ 0 rfl 1 _ rfl
        have cB2 : w7.cell? ⟨B, 2, none⟩ = some (.int .i64 (y.p)) := HQ7.out.at_ 0 rfl 2 _ rfl
        have cB3 : w7.cell? ⟨B, 3, none⟩ = some (.int .i64 (y.r)) := HQ7.out.at_ 0 rfl 3 _ rfl
        have cB4 : w7.cell? ⟨B, 4, none⟩ = some (.int .i64 (y.g)) := HQ7.out.at_ 0 rfl 4 _ rfl
        have cB5 : w7.cell? ⟨B, 5, none⟩ = some (.int .i64 (y.c)) := HQ7.out.at_ 0 rfl 5 _ rfl
        have cB6 : w7.cell? ⟨B, 6, none⟩ = some (.int .i64 (y.mn)) := HQ7.out.at_ 0 rfl 6 _ rfl
        have cB7 : w7.cell? ⟨B, 7, none⟩ = some (.int .i64 (y.mx)) := HQ7.out.at_ 0 rfl 7 _ rfl
        have cB8 : w7.cell? ⟨B, 8, none⟩ = some (.int .i64 (y.s)) := HQ7.out.at_ 0 rfl 8 _ rfl
        have cB9 : w7.cell? ⟨B, 9, none⟩ = some (.int .i64 (y.n)) := HQ7.out.at_ 0 rfl 9 _ rfl
        have cA0 : w7.cell? ⟨A, 0, none⟩ = some (.int .i64 (x.id)) := HQ7.out.at_ 1 rfl 0 _ rfl
        have cA1 : w7.cell? ⟨A, 1, none⟩ = some (.int .i64 (x.q)) := HQ7.out.at_ 1 rfl 1 _ rfl
        have cA2 : w7.cell? ⟨A, 2, none⟩ = some (.int .i64 (x.p)) := HQ7.out.at_ 1 rfl 2 _ rfl
        have cA3 : w7.cell? ⟨A, 3, none⟩ = some (.int .i64 (x.r)) := HQ7.out.at_ 1 rfl 3 _ rfl
        have cA4 : w7.cell? ⟨A, 4, none⟩ = some (.int .i64 (x.g)) := HQ7.out.at_ 1 rfl 4 _ rfl
        have cA5 : w7.cell? ⟨A, 5, none⟩ = some (.int .i64 (x.c)) := HQ7.out.at_ 1 rfl 5 _ rfl
        have cA6 : w7.cell? ⟨A, 6, none⟩ = some (.int .i64 (x.mn)) := HQ7.out.at_ 1 rfl 6 _ rfl
        have cA7 : w7.cell? ⟨A, 7, none⟩ = some (.int .i64 (x.mx)) := HQ7.out.at_ 1 rfl 7 _ rfl
        have cA8 : w7.cell? ⟨A, 8, none⟩ = some (.int .i64 (x.s)) := HQ7.out.at_ 1 rfl 8 _ rfl
        have cA9 : w7.cell? ⟨A, 9, none⟩ = some (.int .i64 (x.n)) := HQ7.out.at_ 1 rfl 9 _ rfl
        go_wp2
        go_ret
        exact ⟨by first | rfl | (simp; done), HQ7.out.b⟩
      · have K2 := K0 hT hX
        have F2 := F0 hT hX hY
        have G2 := G0 hT hX hY
        rw [hT, hX] at R0
        rw [hT, hX, hY] at A0 S0
        rw [hT] at T0
        rw [hX] at X0
        rw [hY] at Y0
        simp only [Bool.true_and, Bool.and_self, if_true, wtV, wtA, wtO] at R0 A0 S0 T0 X0 Y0 K2 F2 G2 HQ0 ⊢
        have R1 := Lib.hid R0
        have A1 := Lib.hid A0
        have S1 := Lib.hid S0
        have T1 := Lib.hid T0
        have X1 := Lib.hid X0
        have Y1 := Lib.hid Y0
        have K1 := Lib.hid K2
        have F1 := Lib.hid F2
        have G1 := Lib.hid G2
        have t1 : (rk != rk) = false := by simp
        have t2 : (ah == ah) = true := by simp
        have t3 : (su == su) = true := by simp
        clear R0 A0 S0 T0 X0 Y0 K0 F0 G0 K2 F2 G2 hT hX hY
        go_enter Try.func3, Try.ntmps3
        go_wp2_with fail
        refine (AW.out _).mono ?_
        rintro e w1 ⟨rfl, hb1⟩
        have HQ1 := Lib.hid (HQ0.out.keep hb1)
        clear hb1
        obtain ⟨B, eB⟩ : ∃ q, q = w.heap.size + 1 := ⟨_, rfl⟩
        rw [← eB]
        rw [← eB] at HQ1
        have HeB := Lib.hid eB
        clear eB
        obtain ⟨A, eA⟩ : ∃ q, q = w.heap.size := ⟨_, rfl⟩
        rw [← eA]
        rw [← eA] at HQ1
        have HeA := Lib.hid eA
        clear eA
        have cB0 : w1.cell? ⟨B, 0, none⟩ = some (.int .i64 (y.id)) := HQ1.out.at_ 0 rfl 0 _ rfl
        have cB1 : w1.cell? ⟨B, 1, none⟩ = some (.int .i64 (y.q)) := HQ1.out.at_ 0 rfl 1 _ rfl
        have cB2 : w1.cell? ⟨B, 2, none⟩ = some (.int .i64 (y.p)) := HQ1.out.at_ 0 rfl 2 _ rfl
        have cB3 : w1.cell? ⟨B, 3, none⟩ = some (.int .i64 (y.r)) := HQ1.out.at_ 0 rfl 3 _ rfl
        have cB4 : w1.cell? ⟨B, 4, none⟩ = some (.int .i64 (y.g)) := HQ1.out.at_ 0 rfl 4 _ rfl
        have cB5 : w1.cell? ⟨B, 5, none⟩ = some (.int .i64 (y.c)) := HQ1.out.at_ 0 rfl 5 _ rfl
        have cB6 : w1.cell? ⟨B, 6, none⟩ = some (.int .i64 (y.mn)) := HQ1.out.at_ 0 rfl 6 _ rfl
        have cB7 : w1.cell? ⟨B, 7, none⟩ = some (.int .i64 (y.mx)) := HQ1.out.at_ 0 rfl 7 _ rfl
        have cB8 : w1.cell? ⟨B, 8, none⟩ = some (.int .i64 (y.s)) := HQ1.out.at_ 0 rfl 8 _ rfl
        have cB9 : w1.cell? ⟨B, 9, none⟩ = some (.int .i64 (y.n)) := HQ1.out.at_ 0 rfl 9 _ rfl
        have cA0 : w1.cell? ⟨A, 0, none⟩ = some (.int .i64 (x.id)) := HQ1.out.at_ 1 rfl 0 _ rfl
        have cA1 : w1.cell? ⟨A, 1, none⟩ = some (.int .i64 (x.q)) := HQ1.out.at_ 1 rfl 1 _ rfl
        have cA2 : w1.cell? ⟨A, 2, none⟩ = some (.int .i64 (x.p)) := HQ1.out.at_ 1 rfl 2 _ rfl
        have cA3 : w1.cell? ⟨A, 3, none⟩ = some (.int .i64 (x.r)) := HQ1.out.at_ 1 rfl 3 _ rfl
        have cA4 : w1.cell? ⟨A, 4, none⟩ = some (.int .i64 (x.g)) := HQ1.out.at_ 1 rfl 4 _ rfl
        have cA5 : w1.cell? ⟨A, 5, none⟩ = some (.int .i64 (x.c)) := HQ1.out.at_ 1 rfl 5 _ rfl
        have cA6 : w1.cell? ⟨A, 6, none⟩ = some (.int .i64 (x.mn)) := HQ1.out.at_ 1 rfl 6 _ rfl
        have cA7 : w1.cell? ⟨A, 7, none⟩ = some (.int .i64 (x.mx)) := HQ1.out.at_ 1 rfl 7 _ rfl
        have cA8 : w1.cell? ⟨A, 8, none⟩ = some (.int .i64 (x.s)) := HQ1.out.at_ 1 rfl 8 _ rfl
        have cA9 : w1.cell? ⟨A, 9, none⟩ = some (.int .i64 (x.n)) := HQ1.out.at_ 1 rfl 9 _ rfl
        go_wp2_with fail
        refine (R1.out _).mono ?_
        rintro e w2 ⟨rfl, hb2⟩
        have HQ2 := Lib.hid (HQ1.out.keep hb2)
        clear hb2
        clear HQ1
        clear cB0 cB1 cB2 cB3 cB4 cB5 cB6 cB7 cB8 cB9 cA0 cA1 cA2 cA3 cA4 cA5 cA6 cA7 cA8 cA9
        have cB0 : w2.cell? ⟨B, 0, none⟩ = some (.int .i64 (y.id)) := HQ2.out.at_ 0 rfl 0 _ rfl
        have cB1 : w2.cell? ⟨B, 1, none⟩ = some (.int .i64 (y.q)) := HQ2.out.at_ 0 rfl 1 _ rfl
        have cB2 : w2.cell? ⟨B, 2, none⟩ = some (.int .i64 (y.p)) := HQ2.out.at_ 0 rfl 2 _ rfl
        have cB3 : w2.cell? ⟨B, 3, none⟩ = some (.int .i64 (y.r)) := HQ2.out.at_ 0 rfl 3 _ rfl
        have cB4 : w2.cell? ⟨B, 4, none⟩ = some (.int .i64 (y.g)) := HQ2.out.at_ 0 rfl 4 _ rfl
        have cB5 : w2.cell? ⟨B, 5, none⟩ = some (.int .i64 (y.c)) := HQ2.out.at_ 0 rfl 5 _ rfl
        have cB6 : w2.cell? ⟨B, 6, none⟩ = some (.int .i64 (y.mn)) := HQ2.out.at_ 0 rfl 6 _ rfl
        have cB7 : w2.cell? ⟨B, 7, none⟩ = some (.int .i64 (y.mx)) := HQ2.out.at_ 0 rfl 7 _ rfl
        have cB8 : w2.cell? ⟨B, 8, none⟩ = some (.int .i64 (y.s)) := HQ2.out.at_ 0 rfl 8 _ rfl
        have cB9 : w2.cell? ⟨B, 9, none⟩ = some (.int .i64 (y.n)) := HQ2.out.at_ 0 rfl 9 _ rfl
        have cA0 : w2.cell? ⟨A, 0, none⟩ = some (.int .i64 (x.id)) := HQ2.out.at_ 1 rfl 0 _ rfl
        have cA1 : w2.cell? ⟨A, 1, none⟩ = some (.int .i64 (x.q)) := HQ2.out.at_ 1 rfl 1 _ rfl
        have cA2 : w2.cell? ⟨A, 2, none⟩ = some (.int .i64 (x.p)) := HQ2.out.at_ 1 rfl 2 _ rfl
        have cA3 : w2.cell? ⟨A, 3, none⟩ = some (.int .i64 (x.r)) := HQ2.out.at_ 1 rfl 3 _ rfl
        have cA4 : w2.cell? ⟨A, 4, none⟩ = some (.int .i64 (x.g)) := HQ2.out.at_ 1 rfl 4 _ rfl
        have cA5 : w2.cell? ⟨A, 5, none⟩ = some (.int .i64 (x.c)) := HQ2.out.at_ 1 rfl 5 _ rfl
        have cA6 : w2.cell? ⟨A, 6, none⟩ = some (.int .i64 (x.mn)) := HQ2.out.at_ 1 rfl 6 _ rfl
        have cA7 : w2.cell? ⟨A, 7, none⟩ = some (.int .i64 (x.mx)) := HQ2.out.at_ 1 rfl 7 _ rfl
        have cA8 : w2.cell? ⟨A, 8, none⟩ = some (.int .i64 (x.s)) := HQ2.out.at_ 1 rfl 8 _ rfl
        have cA9 : w2.cell? ⟨A, 9, none⟩ = some (.int .i64 (x.n)) := HQ2.out.at_ 1 rfl 9 _ rfl
        go_wp2_with fail
        refine (A1.out _).mono ?_
        rintro e w3 ⟨rfl, hb3⟩
        have HQ3 := Lib.hid (HQ2.out.keep hb3)
        clear hb3
        clear HQ2
        clear cB0 cB1 cB2 cB3 cB4 cB5 cB6 cB7 cB8 cB9 cA0 cA1 cA2 cA3 cA4 cA5 cA6 cA7 cA8 cA9
        have cB0 : w3.cell? ⟨B, 0, none⟩ = some (.int .i64 (y.id)) := HQ3.out.at_ 0 rfl 0 _ rfl
        have cB1 : w3.cell? ⟨B, 1, none⟩ = some (.int .i64 (y.q)) := HQ3.out.at_ 0 rfl 1 _ rfl
        have cB2 : w3.cell? ⟨B, 2, none⟩ = some (.int .i64 (y.p)) := HQ3.out.at_ 0 rfl 2 _ rfl
        have cB3 : w3.cell? ⟨B, 3, none⟩ = some (.int .i64 (y.r)) := HQ3.out.at_ 0 rfl 3 _ rfl
        have cB4 : w3.cell? ⟨B, 4, none⟩ = some (.int .i64 (y.g)) := HQ3.out.at_ 0 rfl 4 _ rfl
        have cB5 : w3.cell? ⟨B, 5, none⟩ = some (.int .i64 (y.c)) := HQ3.out.at_ 0 rfl 5 _ rfl
        have cB6 : w3.cell? ⟨B, 6, none⟩ = some (.int .i64 (y.mn)) := HQ3.out.at_ 0 rfl 6 _ rfl
        have cB7 : w3.cell? ⟨B, 7, none⟩ = some (.int .i64 (y.mx)) := HQ3.out.at_ 0 rfl 7 _ rfl
        have cB8 : w3.cell? ⟨B, 8, none⟩ = some (.int .i64 (y.s)) := HQ3.out.at_ 0 rfl 8 _ rfl
        have cB9 : w3.cell? ⟨B, 9, none⟩ = some (.int .i64 (y.n)) := HQ3.out.at_ 0 rfl 9 _ rfl
        have cA0 : w3.cell? ⟨A, 0, none⟩ = some (.int .i64 (x.id)) := HQ3.out.at_ 1 rfl 0 _ rfl
        have cA1 : w3.cell? ⟨A, 1, none⟩ = some (.int .i64 (x.q)) := HQ3.out.at_ 1 rfl 1 _ rfl
        have cA2 : w3.cell? ⟨A, 2, none⟩ = some (.int .i64 (x.p)) := HQ3.out.at_ 1 rfl 2 _ rfl
        have cA3 : w3.cell? ⟨A, 3, none⟩ = some (.int .i64 (x.r)) := HQ3.out.at_ 1 rfl 3 _ rfl
        have cA4 : w3.cell? ⟨A, 4, none⟩ = some (.int .i64 (x.g)) := HQ3.out.at_ 1 rfl 4 _ rfl
        have cA5 : w3.cell? ⟨A, 5, none⟩ = some (.int .i64 (x.c)) := HQ3.out.at_ 1 rfl 5 _ rfl
        have cA6 : w3.cell? ⟨A, 6, none⟩ = some (.int .i64 (x.mn)) := HQ3.out.at_ 1 rfl 6 _ rfl
        have cA7 : w3.cell? ⟨A, 7, none⟩ = some (.int .i64 (x.mx)) := HQ3.out.at_ 1 rfl 7 _ rfl
        have cA8 : w3.cell? ⟨A, 8, none⟩ = some (.int .i64 (x.s)) := HQ3.out.at_ 1 rfl 8 _ rfl
        have cA9 : w3.cell? ⟨A, 9, none⟩ = some (.int .i64 (x.n)) := HQ3.out.at_ 1 rfl 9 _ rfl
        go_wp2_with fail
        refine (S1.out _).mono ?_
        rintro e w4 ⟨rfl, hb4⟩
        have HQ4 := Lib.hid (HQ3.out.keep hb4)
        clear hb4
        clear HQ3
        clear cB0 cB1 cB2 cB3 cB4 cB5 cB6 cB7 cB8 cB9 cA0 cA1 cA2 cA3 cA4 cA5 cA6 cA7 cA8 cA9
        have cB0 : w4.cell? ⟨B, 0, none⟩ = some (.int .i64 (y.id)) := HQ4.out.at_ 0 rfl 0 _ rfl
        have cB1 : w4.cell? ⟨B, 1, none⟩ = some (.int .i64 (y.q)) := HQ4.out.at_ 0 rfl 1 _ rfl
        have cB2 : w4.cell? ⟨B, 2, none⟩ = some (.int .i64 (y.p)) := HQ4.out.at_ 0 rfl 2 _ rfl
        have cB3 : w4.cell? ⟨B, 3, none⟩ = some (.int .i64 (y.r)) := HQ4.out.at_ 0 rfl 3 _ rfl
        have cB4 : w4.cell? ⟨B, 4, none⟩ = some (.int .i64 (y.g)) := HQ4.out.at_ 0 rfl 4 _ rfl
        have cB5 : w4.cell? ⟨B, 5, none⟩ = some (.int .i64 (y.c)) := HQ4.out.at_ 0 rfl 5 _ rfl
        have cB6 : w4.cell? ⟨B, 6, none⟩ = some (.int .i64 (y.mn)) := HQ4.out.at_ 0 rfl 6 _ rfl
        have cB7 : w4.cell? ⟨B, 7, none⟩ = some (.int .i64 (y.mx)) := HQ4.out.at_ 0 rfl 7 _ rfl
        have cB8 : w4.cell? ⟨B, 8, none⟩ = some (.int .i64 (y.s)) := HQ4.out.at_ 0 rfl 8 _ rfl
        have cB9 : w4.cell? ⟨B, 9, none⟩ = some (.int .i64 (y.n)) := HQ4.out.at_ 0 rfl 9 _ rfl
        have cA0 : w4.cell? ⟨A, 0, none⟩ = some (.int .i64 (x.id)) := HQ4.out.at_ 1 rfl 0 _ rfl
        have cA1 : w4.cell? ⟨A, 1, none⟩ = some (.int .i64 (x.q)) := HQ4.out.at_ 1 rfl 1 _ rfl
        have cA2 : w4.cell? ⟨A, 2, none⟩ = some (.int .i64 (x.p)) := HQ4.out.at_ 1 rfl 2 _ rfl
        have cA3 : w4.cell? ⟨A, 3, none⟩ = some (.int .i64 (x.r)) := HQ4.out.at_ 1 rfl 3 _ rfl
        have cA4 : w4.cell? ⟨A, 4, none⟩ = some (.int .i64 (x.g)) := HQ4.out.at_ 1 rfl 4 _ rfl
        have cA5 : w4.cell? ⟨A, 5, none⟩ = some (.int .i64 (x.c)) := HQ4.out.at_ 1 rfl 5 _ rfl
        have cA6 : w4.cell? ⟨A, 6, none⟩ = some (.int .i64 (x.mn)) := HQ4.out.at_ 1 rfl 6 _ rfl
        have cA7 : w4.cell? ⟨A, 7, none⟩ = some (.int .i64 (x.mx)) := HQ4.out.at_ 1 rfl 7 _ rfl
        have cA8 : w4.cell? ⟨A, 8, none⟩ = some (.int .i64 (x.s)) := HQ4.out.at_ 1 rfl 8 _ rfl
        have cA9 : w4.cell? ⟨A, 9, none⟩ = some (.int .i64 (x.n)) := HQ4.out.at_ 1 rfl 9 _ rfl
        go_wp2_with fail
        refine (T1.out _).mono ?_
        rintro e w' ⟨rfl, rfl⟩
        go_wp2_with fail
        refine (X1.out _).mono ?_
        rintro e w5 ⟨rfl, hb5⟩
        have HQ5 := Lib.hid (HQ4.out.keep hb5)
        clear hb5
        clear HQ4
        clear cB0 cB1 cB2 cB3 cB4 cB5 cB6 cB7 cB8 cB9 cA0 cA1 cA2 cA3 cA4 cA5 cA6 cA7 cA8 cA9
        have cB0 : w5.cell? ⟨B, 0, none⟩ = some (.int .i64 (y.id)) := HQ5.out.at_ 0 rfl 0 _ rfl
        have cB1 : w5.cell? ⟨B, 1, none⟩ = some (.int .i64 (y.q)) := HQ5.out.at_ 0 rfl 1 _ rfl
        have cB2 : w5.cell? ⟨B, 2, none⟩ = some (.int .i64 (y.p)) := HQ5.out.at_ 0 rfl 2 _ rfl
        have cB3 : w5.cell? ⟨B, 3, none⟩ = some (.int .i64 (y.r)) := HQ5.out.at_ 0 rfl 3 _ rfl
        have cB4 : w5.cell? ⟨B, 4, none⟩ = some (.int .i64 (y.g)) := HQ5.out.at_ 0 rfl 4 _ rfl
        have cB5 : w5.cell? ⟨B, 5, none⟩ = some (.int .i64 (y.c)) := HQ5.out.at_ 0 rfl 5 _ rfl
        have cB6 : w5.cell? ⟨B, 6, none⟩ = some (.int .i64 (y.mn)) := HQ5.out.at_ 0 rfl 6 _ rfl
        have cB7 : w5.cell? ⟨B, 7, none⟩ = some (.int .i64 (y.mx)) := HQ5.out.at_ 0 rfl 7 _ rfl
        have cB8 : w5.cell? ⟨B, 8, none⟩ = some (.int .i64 (y.s)) := HQ5.out.at_ 0 rfl 8 _ rfl
        have cB9 : w5.cell? ⟨B, 9, none⟩ = some (.int .i64 (y.n)) := HQ5.out.at_ 0 rfl 9 _ rfl
        have cA0 : w5.cell? ⟨A, 0, none⟩ = some (.int .i64 (x.id)) := HQ5.out.at_ 1 rfl 0 _ rfl
        have cA1 : w5.cell? ⟨A, 1, none⟩ = some (.int .i64 (x.q)) := HQ5.out.at_ 1 rfl 1 _ rfl
        have cA2 : w5.cell? ⟨A, 2, none⟩ = some (.int .i64 (x.p)) := HQ5.out.at_ 1 rfl 2 _ rfl
        have cA3 : w5.cell? ⟨A, 3, none⟩ = some (.int .i64 (x.r)) := HQ5.out.at_ 1 rfl 3 _ rfl
        have cA4 : w5.cell? ⟨A, 4, none⟩ = some (.int .i64 (x.g)) := HQ5.out.at_ 1 rfl 4 _ rfl
        have cA5 : w5.cell? ⟨A, 5, none⟩ = some (.int .i64 (x.c)) := HQ5.out.at_ 1 rfl 5 _ rfl
        have cA6 : w5.cell? ⟨A, 6, none⟩ = some (.int .i64 (x.mn)) := HQ5.out.at_ 1 rfl 6 _ rfl
        have cA7 : w5.cell? ⟨A, 7, none⟩ = some (.int .i64 (x.mx)) := HQ5.out.at_ 1 rfl 7 _ rfl
        have cA8 : w5.cell? ⟨A, 8, none⟩ = some (.int .i64 (x.s)) := HQ5.out.at_ 1 rfl 8 _ rfl
        have cA9 : w5.cell? ⟨A, 9, none⟩ = some (.int .i64 (x.n)) := HQ5.out.at_ 1 rfl 9 _ rfl
        go_wp2_with fail
        refine (K1.out _).mono ?_
        rintro e w6 ⟨rfl, hb6⟩
        have HQ6 := Lib.hid (HQ5.out.keep hb6)
        clear hb6
        clear HQ5
        clear cB0 cB1 cB2 cB3 cB4 cB5 cB6 cB7 cB8 cB9 cA0 cA1 cA2 cA3 cA4 cA5 cA6 cA7 cA8 cA9
        have cB0 : w6.cell? ⟨B, 0, none⟩ = some (.int .i64 (y.id)) := HQ6.out.at_ 0 rfl 0 _ rfl
        have cB1 : w6.cell? ⟨B, 1, none⟩ = some (.int .i64 (y.q)) := HQ6.out.at_ 0 rfl 1 _ rfl
        have cB2 : w6.cell? ⟨B, 2, none⟩ = some (.int .i64 (y.p)) := HQ6.out.at_ 0 rfl 2 _ rfl
        have cB3 : w6.cell? ⟨B, 3, none⟩ = some (.int .i64 (y.r)) := HQ6.out.at_ 0 rfl 3 _ rfl
        have cB4 : w6.cell? ⟨B, 4, none⟩ = some (.int .i64 (y.g)) := HQ6.out.at_ 0 rfl 4 _ rfl
        have cB5 : w6.cell? ⟨B, 5, none⟩ = some (.int .i64 (y.c)) := HQ6.out.at_ 0 rfl 5 _ rfl
        have cB6 : w6.cell? ⟨B, 6, none⟩ = some (.int .i64 (y.mn)) := HQ6.out.at_ 0 rfl 6 _ rfl
        have cB7 : w6.cell? ⟨B, 7, none⟩ = some (.int .i64 (y.mx)) := HQ6.out.at_ 0 rfl 7 _ rfl
        have cB8 : w6.cell? ⟨B, 8, none⟩ = some (.int .i64 (y.s)) := HQ6.out.at_ 0 rfl 8 _ rfl
        have cB9 : w6.cell? ⟨B, 9, none⟩ = some (.int .i64 (y.n)) := HQ6.out.at_ 0 rfl 9 _ rfl
        have cA0 : w6.cell? ⟨A, 0, none⟩ = some (.int .i64 (x.id)) := HQ6.out.at_ 1 rfl 0 _ rfl
        have cA1 : w6.cell? ⟨A, 1, none⟩ = some (.int .i64 (x.q)) := HQ6.out.at_ 1 rfl 1 _ rfl
        have cA2 : w6.cell? ⟨A, 2, none⟩ = some (.int .i64 (x.p)) := HQ6.out.at_ 1 rfl 2 _ rfl
        have cA3 : w6.cell? ⟨A, 3, none⟩ = some (.int .i64 (x.r)) := HQ6.out.at_ 1 rfl 3 _ rfl
        have cA4 : w6.cell? ⟨A, 4, none⟩ = some (.int .i64 (x.g)) := HQ6.out.at_ 1 rfl 4 _ rfl
        have cA5 : w6.cell? ⟨A, 5, none⟩ = some (.int .i64 (x.c)) := HQ6.out.at_ 1 rfl 5 _ rfl
        have cA6 : w6.cell? ⟨A, 6, none⟩ = some (.int .i64 (x.mn)) := HQ6.out.at_ 1 rfl 6 _ rfl
        have cA7 : w6.cell? ⟨A, 7, none⟩ = some (.int .i64 (x.mx)) := HQ6.out.at_ 1 rfl 7 _ rfl
        have cA8 : w6.cell? ⟨A, 8, none⟩ = some (.int .i64 (x.s)) := HQ6.out.at_ 1 rfl 8 _ rfl
        have cA9 : w6.cell? ⟨A, 9, none⟩ = some (.int .i64 (x.n)) := HQ6.out.at_ 1 rfl 9 _ rfl
        go_wp2_with fail
        refine (Y1.out _).mono ?_
        rintro e w7 ⟨rfl, hb7⟩
        have HQ7 := Lib.hid (HQ6.out.keep hb7)
        clear hb7
        clear HQ6
        clear cB0 cB1 cB2 cB3 cB4 cB5 cB6 cB7 cB8 cB9 cA0 cA1 cA2 cA3 cA4 cA5 cA6 cA7 cA8 cA9
        have cB0 : w7.cell? ⟨B, 0, none⟩ = some (.int .i64 (y.id)) := HQ7.out.at_ 0 rfl 0 _ rfl
        have cB1 : w7.cell? ⟨B, 1, none⟩ = some (.int .i64 (y.q)) := HQ7.out.at_ 0 rfl 1 _ rfl
        have cB2 : w7.cell? ⟨B, 2, none⟩ = some (.int .i64 (y.p)) := HQ7.out.at_ 0 rfl 2 _ rfl
        have cB3 : w7.cell? ⟨B, 3, none⟩ = some (.int .i64 (y.r)) := HQ7.out.at_ 0 rfl 3 _ rfl
        have cB4 : w7.cell? ⟨B, 4, none⟩ = some (.int .i64 (y.g)) := HQ7.out.at_ 0 rfl 4 _ rfl
        have cB5 : w7.cell? ⟨B, 5, none⟩ = some (.int .i64 (y.c)) := HQ7.out.at_ 0 rfl 5 _ rfl
        have cB6 : w7.cell? ⟨B, 6, none⟩ = some (.int .i64 (y.mn)) := HQ7.out.at_ 0 rfl 6 _ rfl
        have cB7 : w7.cell? ⟨B, 7, none⟩ = some (.int .i64 (y.mx)) := HQ7.out.at_ 0 rfl 7 _ rfl
        have cB8 : w7.cell? ⟨B, 8, none⟩ = some (.int .i64 (y.s)) := HQ7.out.at_ 0 rfl 8 _ rfl
        have cB9 : w7.cell? ⟨B, 9, none⟩ = some (.int .i64 (y.n)) := HQ7.out.at_ 0 rfl 9 _ rfl
        have cA0 : w7.cell? ⟨A, 0, none⟩ = some (.int .i64 (x.id)) := HQ7.out.at_ 1 rfl 0 _ rfl
        have cA1 : w7.cell? ⟨A, 1, none⟩ = some (.int .i64 (x.q)) := HQ7.out.at_ 1 rfl 1 _ rfl
        have cA2 : w7.cell? ⟨A, 2, none⟩ = some (.int .i64 (x.p)) := HQ7.out.at_ 1 rfl 2 _ rfl
        have cA3 : w7.cell? ⟨A, 3, none⟩ = some (.int .i64 (x.r)) := HQ7.out.at_ 1 rfl 3 _ rfl
        have cA4 : w7.cell? ⟨A, 4, none⟩ = some (.int .i64 (x.g)) := HQ7.out.at_ 1 rfl 4 _ rfl
        have cA5 : w7.cell? ⟨A, 5, none⟩ = some (.int .i64 (x.c)) := HQ7.out.at_ 1 rfl 5 _ rfl
        have cA6 : w7.cell? ⟨A, 6, none⟩ = some (.int .i64 (x.mn)) := HQ7.out.at_ 1 rfl 6 _ rfl
        have cA7 : w7.cell? ⟨A, 7, none⟩ = some (.int .i64 (x.mx)) := HQ7.out.at_ 1 rfl 7 _ rfl
        have cA8 : w7.cell? ⟨A, 8, none⟩ = some (.int .i64 (x.s)) := HQ7.out.at_ 1 rfl 8 _ rfl
        have cA9 : w7.cell? ⟨A, 9, none⟩ = some (.int .i64 (x.n)) := HQ7.out.at_ 1 rfl 9 _ rfl
        go_wp2_with fail
        refine (F1.out _).mono ?_
        rintro e w8 ⟨rfl, hb8⟩
        have HQ8 := Lib.hid (HQ7.out.keep hb8)
        clear hb8
        clear HQ7
        clear cB0 cB1 cB2 cB3 cB4 cB5 cB6 cB7 cB8 cB9 cA0 cA1 cA2 cA3 cA4 cA5 cA6 cA7 cA8 cA9
        have cB0 : w8.cell? ⟨B, 0, none⟩ = some (.int .i64 (y.id)) := HQ8.out.at_ 0 rfl 0 _ rfl
        have cB1 : w8.cell? ⟨B, 1, none⟩ = some (.int .i64 (y.q)) := HQ8.out.at_ 0 rfl 1 _ rfl
        have cB2 : w8.cell? ⟨B, 2, none⟩ = some (.int .i64 (y.p)) := HQ8.out.at_ 0 rfl 2 _ rfl
        have cB3 : w8.cell? ⟨B, 3, none⟩ = some (.int .i64 (y.r)) := HQ8.out.at_ 0 rfl 3 _ rfl
        have cB4 : w8.cell? ⟨B, 4, none⟩ = some (.int .i64 (y.g)) := HQ8.out.at_ 0 rfl 4 _ rfl
        have cB5 : w8.cell? ⟨B, 5, none⟩ = some (.int .i64 (y.c)) := HQ8.out.at_ 0 rfl 5 _ rfl
        have cB6 : w8.cell? ⟨B, 6, none⟩ = some (.int .i64 (y.mn)) := HQ8.out.at_ 0 rfl 6 _ rfl
        have cB7 : w8.cell? ⟨B, 7, none⟩ = some (.int .i64 (y.mx)) := HQ8.out.at_ 0 rfl 7 _ rfl
        have cB8 : w8.cell? ⟨B, 8, none⟩ = some (.int .i64 (y.s)) := HQ8.out.at_ 0 rfl 8 _ rfl
        have cB9 : w8.cell? ⟨B, 9, none⟩ = some (.int .i64 (y.n)) := HQ8.out.at_ 0 rfl 9 _ rfl
        have cA0 : w8.cell? ⟨A, 0, none⟩ = some (.int .i64 (x.id)) := HQ8.out.at_ 1 rfl 0 _ rfl
        have cA1 : w8.cell? ⟨A, 1, none⟩ = some (.int .i64 (x.q)) := HQ8.out.at_ 1 rfl 1 _ rfl
        have cA2 : w8.cell? ⟨A, 2, none⟩ = some (.int .i64 (x.p)) := HQ8.out.at_ 1 rfl 2 _ rfl
        have cA3 : w8.cell? ⟨A, 3, none⟩ = some (.int .i64 (x.r)) := HQ8.out.at_ 1 rfl 3 _ rfl
        have cA4 : w8.cell? ⟨A, 4, none⟩ = some (.int .i64 (x.g)) := HQ8.out.at_ 1 rfl 4 _ rfl
        have cA5 : w8.cell? ⟨A, 5, none⟩ = some (.int .i64 (x.c)) := HQ8.out.at_ 1 rfl 5 _ rfl
        have cA6 : w8.cell? ⟨A, 6, none⟩ = some (.int .i64 (x.mn)) := HQ8.out.at_ 1 rfl 6 _ rfl
        have cA7 : w8.cell? ⟨A, 7, none⟩ = some (.int .i64 (x.mx)) := HQ8.out.at_ 1 rfl 7 _ rfl
        have cA8 : w8.cell? ⟨A, 8, none⟩ = some (.int .i64 (x.s)) := HQ8.out.at_ 1 rfl 8 _ rfl
        have cA9 : w8.cell? ⟨A, 9, none⟩ = some (.int .i64 (x.n)) := HQ8.out.at_ 1 rfl 9 _ rfl
        go_wp2_with fail
        refine (G1.out _).mono ?_
        rintro e w9 ⟨rfl, hb9⟩
        have HQ9 := Lib.hid (HQ8.out.keep hb9)
        clear hb9
        clear HQ8
        clear cB0 cB1 cB2 cB3 cB4 cB5 cB6 cB7 cB8 cB9 cA0 cA1 cA2 cA3 cA4 cA5 cA6 cA7 cA8 cA9
        have cB0 : w9.cell? ⟨B, 0, none⟩ = some (.int .i64 (y.id)) := HQ9.out.at_ 0 rfl 0 _ rfl
        have cB1 : w9.cell? ⟨B, 1, none⟩ = some (.int .i64 (y.q)) := HQ9.out.at_ 0 rfl 1 _ rfl
        have cB2 : w9.cell? ⟨B, 2, none⟩ = some (.int .i64 (y.p)) := HQ9.out.at_ 0 rfl 2 _ rfl
        have cB3 : w9.cell? ⟨B, 3, none⟩ = some (.int .i64 (y.r)) := HQ9.out.at_ 0 rfl 3 _ rfl
        have cB4 : w9.cell? ⟨B, 4, none⟩ = some (.int .i64 (y.g)) := HQ9.out.at_ 0 rfl 4 _ rfl
        have cB5 : w9.cell? ⟨B, 5, none⟩ = some (.int .i64 (y.c)) := HQ9.out.at_ 0 rfl 5 _ rfl
        have cB6 : w9.cell? ⟨B, 6, none⟩ = some (.int .i64 (y.mn)) := HQ9.out.at_ 0 rfl 6 _ rfl
        have cB7 : w9.cell? ⟨B, 7, none⟩ = some (.int .i64 (y.mx)) := HQ9.out.at_ 0 rfl 7 _ rfl
        have cB8 : w9.cell? ⟨B, 8, none⟩ = some (.int .i64 (y.s)) := HQ9.out.at_ 0 rfl 8 _ rfl
        have cB9 : w9.cell? ⟨B, 9, none⟩ = some (.int .i64 (y.n)) := HQ9.out.at_ 0 rfl 9 _ rfl
        have cA0 : w9.cell? ⟨A, 0, none⟩ = some (.int .i64 (x.id)) := HQ9.out.at_ 1 rfl 0 _ rfl
        have cA1 : w9.cell? ⟨A, 1, none⟩ = some (.int .i64 (x.q)) := HQ9.out.at_ 1 rfl 1 _ rfl
        have cA2 : w9.cell? ⟨A, 2, none⟩ = some (.int .i64 (x.p)) := HQ9.out.at_ 1 rfl 2 _ rfl
        have cA3 : w9.cell? ⟨A, 3, none⟩ = some (.int .i64 (x.r)) := HQ9.out.at_ 1 rfl 3 _ rfl
        have cA4 : w9.cell? ⟨A, 4, none⟩ = some (.int .i64 (x.g)) := HQ9.out.at_ 1 rfl 4 _ rfl
        have cA5 : w9.cell? ⟨A, 5, none⟩ = some (.int .i64 (x.c)) := HQ9.out.at_ 1 rfl 5 _ rfl
        have cA6 : w9.cell? ⟨A, 6, none⟩ = some (.int .i64 (x.mn)) := HQ9.out.at_ 1 rfl 6 _ rfl
        have cA7 : w9.cell? ⟨A, 7, none⟩ = some (.int .i64 (x.mx)) := HQ9.out.at_ 1 rfl 7 _ rfl
        have cA8 : w9.cell? ⟨A, 8, none⟩ = some (.int .i64 (x.s)) := HQ9.out.at_ 1 rfl 8 _ rfl
        have cA9 : w9.cell? ⟨A, 9, none⟩ = some (.int .i64 (x.n)) := HQ9.out.at_ 1 rfl 9 _ rfl
        go_wp2
        go_ret
        exact ⟨by first | rfl | (simp; done), HQ9.out.b⟩

set_option maxRecDepth 100000 in
set_option maxHeartbeats 1000000 in
theorem lifted (os : Os) (started : os.Started) (H : Type) (enc : TypeId × Value → H) :
    ReturnsInHanded {} Try.checked os 3 .any (Rows.orderTellsSpec.pre6 enc Try.prog Try.f3 Rows.orderTellsRow.domain false) (Rows.orderTellsSpec.post enc Try.prog Try.f3 false true false false) := by
  refine returnsInHanded_of_change (C := Try.checked) own started (by kernel_rfl) Try.func3
    (ChangeSpec.witness6 (enc := enc) (C := Try.checked) false ⟨#[], #[.agg #[.int .i64 0, .int .i64 0, .int .i64 0, .int .i64 0, .int .i64 0, .int .i64 0, .int .i64 0, .int .i64 0, .int .i64 0, .int .i64 0], .agg #[.int .i64 0, .int .i64 0, .int .i64 0, .int .i64 0, .int .i64 0, .int .i64 0, .int .i64 0, .int .i64 0, .int .i64 0, .int .i64 0], .int .i64 0, .int .i64 0], []⟩ 8 (by kernel_rfl) (by kernel_rfl) (by kernel_rfl) (by kernel_rfl)) ?_
  intro W base args ds gs before hval0 hW _ _
  have hval : ∀ (j : Nat) t v, Try.f3.params[j]? = some t → args[j]? = some v → Value.okWide Try.prog W .any base t v := hval0
  have hW' := hW
  obtain ⟨p, q, hA0, hV, rfl, hfz, hnd⟩ := hW
  have hA : DataW.TrodAll enc Try.prog W 0 (fun _ => true) true Try.f3.params.toList args.toList ds p := hA0
  rw [Try.params3] at hA hval
  obtain ⟨v0, vs0, d0, ds0, p0, q0, hargs, rfl, rfl, h0, r0⟩ := trodAll_cons hA
  obtain ⟨v1, vs1, d1, ds1, p1, q1, rfl, rfl, rfl, h1, r1⟩ := trodAll_cons r0
  obtain ⟨v2, vs2, d2, ds2, p2, q2, rfl, rfl, rfl, h2, r2⟩ := trodAll_cons r1
  obtain ⟨v3, vs3, d3, ds3, p3, q3, rfl, rfl, rfl, h3, r3⟩ := trodAll_cons r2
  obtain ⟨rfl, rfl, rfl⟩ := trodAll_nil r3
  obtain rfl : args = #[v0, v1, v2, v3] := by cases args; simp_all
  obtain ⟨rfl, rfl⟩ := trodVars_none hV
  have k0 := h0
  have lt0 : ∀ x ∈ p0, x.block < W.heap.size := by obtain ⟨m, hm⟩ := k0; exact DataW.trod_lt m _ _ _ hm
  obtain ⟨x0, rfl, w0⟩ := wt_of (hval 0 27 v0 rfl rfl) h0
  have k1 := h1
  have lt1 : ∀ x ∈ p1, x.block < W.heap.size := by obtain ⟨m, hm⟩ := k1; exact DataW.trod_lt m _ _ _ hm
  obtain ⟨x1, rfl, w1⟩ := wt_of (hval 1 27 v1 rfl rfl) h1
  have k2 := h2
  have lt2 : ∀ x ∈ p2, x.block < W.heap.size := by obtain ⟨m, hm⟩ := k2; exact DataW.trod_lt m _ _ _ hm
  obtain ⟨a2, rfl, _, _, w2⟩ := open_int Try.underlying3 (hval 2 3 v2 rfl rfl) h2
  have k3 := h3
  have lt3 : ∀ x ∈ p3, x.block < W.heap.size := by obtain ⟨m, hm⟩ := k3; exact DataW.trod_lt m _ _ _ hm
  obtain ⟨a3, rfl, _, _, w3⟩ := open_int Try.underlying3 (hval 3 3 v3 rfl rfl) h3
  clear hA0 hval0
  refine (walk x0 x1 a2 a3 W w0 w1 w2 w3).mono fun e W' ⟨he, bel⟩ => ?_
  subst he
  exact ⟨_, rfl, _, _, _, [], _, [], hW', trodAll_mk1 (shut_bool Try.underlying4 _), (trodAll_cons_mk (Below.trod laidOut (by kernel_rfl) (of_decide_eq_true (by kernel_rfl)) k0 bel lt0) (trodAll_cons_mk (Below.trod laidOut (by kernel_rfl) (of_decide_eq_true (by kernel_rfl)) k1 bel lt1) (trodAll_cons_mk (Below.trod laidOut (by kernel_rfl) (of_decide_eq_true (by kernel_rfl)) k2 bel lt2) (trodAll_cons_mk (Below.trod laidOut (by kernel_rfl) (of_decide_eq_true (by kernel_rfl)) k3 bel lt3) trodAll_mk0)))), rfl, bel.frame _, fun h => by cases h⟩

/-- THE STATEMENT. -/
theorem holds : Rows.OrderTellsSaid :=
  OpenClaim.holds_of_wide 3 Try.f3 rfl rfl rfl rfl rfl rfl rfl ⟨rfl, rfl, rfl, rfl, rfl⟩ rfl rfl rfl rfl rfl (by kernel_rfl) Try.func3 (by kernel_rfl)
    (of_decide_eq_true (by kernel_rfl)) (by unfold Func.isWrapper; first | (rw [if_pos (by decide +kernel)]; kernel_rfl) | (rw [if_neg (by decide +kernel)]; exact ⟨rfl, rfl⟩))
    (fun os started H enc _ => lifted os started H enc)
end Go.Proofs.Ytbknkfpgejkmoaa.orderTells
