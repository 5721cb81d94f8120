/- One that came 16 steps of age and more ahead of another one, with a lower Number, is surely ahead of it; who is surely ahead now is so at each tick behind: the law OrderAges answers true, at every input. -/
import Derived.Test.YtbknkfpgejkmoaaFrame
import Derived.Test.YtbknkfpgejkmoaaOrdIn
import Derived.Test.YtbknkfpgejkmoaaOrdAwake
import Derived.Test.YtbknkfpgejkmoaaOrdSure
set_option linter.unusedVariables false
namespace Go.Proofs.Ytbknkfpgejkmoaa.orderAges
open Go Go.ChangeShapes Go.WideShapes Go.ChangeAt Go.RowKit
theorem old_sure {x y : Wt} {age : Int} (ha : 1 ≤ age) (hx : 0 ≤ x.p) (hy : y.p ≤ 15) (h1 : 16 * age ≤ y.s - x.s) (h2 : x.n < y.n) : aheadF y.s age x y = true := by
  unfold aheadF rankF
  rw [Int.sub_self, Int.zero_ediv, decide_eq_true_eq]
  have := (Int.le_ediv_iff_mul_le (a := 16) (b := y.s - x.s) (show 0 < age by omega)).2 h1
  omega
set_option maxRecDepth 100000 in
set_option maxHeartbeats 4000000 in
theorem walk (x y : Wt) (now later age : Int) (w : World) (wx : WtW x) (wy : WtW y) (wn : (Lit.int .u16 now).wf = true) (wl : (Lit.int .u16 later).wf = true) (wa : (Lit.int .i64 age).wf = true) :
    Calls Try.prog 6 #[wtV x, wtV y, .int .u16 now, .int .u16 later, .int .i64 age] w fun e w' => e = .returned (.bool true) ∧ Below w.heap.size w w' := by
  have bn := bounds_u16 wn
  have bl := bounds_u16 wl
  obtain ⟨n1, n2⟩ := bn
  obtain ⟨l1, l2⟩ := bl
  have AW := Lib.hid (fun W => awake_o W)
  have S1 := fun W => psure_any x y now age W
  have A1 := fun W => pahead_any x y (now + later) age W
  obtain ⟨su, hsu⟩ : ∃ r, r = aheadF y.s age x y := ⟨_, rfl⟩
  obtain ⟨ah, hah⟩ : ∃ r, r = aheadF (now + later) age x y := ⟨_, rfl⟩
  rw [← hsu] at S1
  rw [← hah] at A1
  clear wx wy wn wl wa
  have HQ0 := Lib.hid (((Bx.nil w).box x).box y)
  simp only [World.size_alloc] at HQ0
  cases hV : (mayA now age && (mayW x && mayW y))
  · rw [hV] at S1
    clear hV hsu hah A1
    simp only [Bool.false_and, Bool.false_eq_true, if_false, wtV, wtA, wtO] at S1 HQ0 ⊢
    have S1 := Lib.hid S1
    go_enter Try.func6, Try.ntmps6
    go_wp2_with fail
    refine (AW.out _).mono ?_
    rintro e w1 ⟨rfl, hb1⟩
    have HQ1 := Lib.hid (HQ0.out.keep hb1)
    clear hb1
    obtain ⟨B, eB⟩ : ∃ q, q = w.heap.size + 1 := ⟨_, rfl⟩
    rw [← eB]
    rw [← eB] at HQ1
    have HeB := Lib.hid eB
    clear eB
    obtain ⟨A, eA⟩ : ∃ q, q = w.heap.size := ⟨_, rfl⟩
    rw [← eA]
    rw [← eA] at HQ1
    have HeA := Lib.hid eA
    clear eA
    have cB0 : w1.cell? ⟨B, 0, none⟩ = some (.int .i64 (y.id)) := HQ1.out.at_ 0 rfl 0 _ rfl
    have cB1 : w1.cell? ⟨B, 1, none⟩ = some (.int .i64 (y.q)) := HQ1.out.at_ 0 rfl 1 _ rfl
    have cB2 : w1.cell? ⟨B, 2, none⟩ = some (.int .i64 (y.p)) := HQ1.out.at_ 0 rfl 2 _ rfl
    have cB3 : w1.cell? ⟨B, 3, none⟩ = some (.int .i64 (y.r)) := HQ1.out.at_ 0 rfl 3 _ rfl
    have cB4 : w1.cell? ⟨B, 4, none⟩ = some (.int .i64 (y.g)) := HQ1.out.at_ 0 rfl 4 _ rfl
    have cB5 : w1.cell? ⟨B, 5, none⟩ = some (.int .i64 (y.c)) := HQ1.out.at_ 0 rfl 5 _ rfl
    have cB6 : w1.cell? ⟨B, 6, none⟩ = some (.int .i64 (y.mn)) := HQ1.out.at_ 0 rfl 6 _ rfl
    have cB7 : w1.cell? ⟨B, 7, none⟩ = some (.int .i64 (y.mx)) := HQ1.out.at_ 0 rfl 7 _ rfl
    have cB8 : w1.cell? ⟨B, 8, none⟩ = some (.int .i64 (y.s)) := HQ1.out.at_ 0 rfl 8 _ rfl
    have cB9 : w1.cell? ⟨B, 9, none⟩ = some (.int .i64 (y.n)) := HQ1.out.at_ 0 rfl 9 _ rfl
    have cA0 : w1.cell? ⟨A, 0, none⟩ = some (.int .i64 (x.id)) := HQ1.out.at_ 1 rfl 0 _ rfl
    have cA1 : w1.cell? ⟨A, 1, none⟩ = some (.int .i64 (x.q)) := HQ1.out.at_ 1 rfl 1 _ rfl
    have cA2 : w1.cell? ⟨A, 2, none⟩ = some (.int .i64 (x.p)) := HQ1.out.at_ 1 rfl 2 _ rfl
    have cA3 : w1.cell? ⟨A, 3, none⟩ = some (.int .i64 (x.r)) := HQ1.out.at_ 1 rfl 3 _ rfl
    have cA4 : w1.cell? ⟨A, 4, none⟩ = some (.int .i64 (x.g)) := HQ1.out.at_ 1 rfl 4 _ rfl
    have cA5 : w1.cell? ⟨A, 5, none⟩ = some (.int .i64 (x.c)) := HQ1.out.at_ 1 rfl 5 _ rfl
    have cA6 : w1.cell? ⟨A, 6, none⟩ = some (.int .i64 (x.mn)) := HQ1.out.at_ 1 rfl 6 _ rfl
    have cA7 : w1.cell? ⟨A, 7, none⟩ = some (.int .i64 (x.mx)) := HQ1.out.at_ 1 rfl 7 _ rfl
    have cA8 : w1.cell? ⟨A, 8, none⟩ = some (.int .i64 (x.s)) := HQ1.out.at_ 1 rfl 8 _ rfl
    have cA9 : w1.cell? ⟨A, 9, none⟩ = some (.int .i64 (x.n)) := HQ1.out.at_ 1 rfl 9 _ rfl
    go_wp2_with fail
    refine (S1.out _).mono ?_
    rintro e w2 ⟨rfl, hb2⟩
    have HQ2 := Lib.hid (HQ1.out.keep hb2)
    clear hb2
    clear HQ1
    clear cB0 cB1 cB2 cB3 cB4 cB5 cB6 cB7 cB8 cB9 cA0 cA1 cA2 cA3 cA4 cA5 cA6 cA7 cA8 cA9
    have cB0 : w2.cell? ⟨B, 0, none⟩ = some (.int .i64 (y.id)) := HQ2.out.at_ 0 rfl 0 _ rfl
    have cB1 : w2.cell? ⟨B, 1, none⟩ = some (.int .i64 (y.q)) := HQ2.out.at_ 0 rfl 1 _ rfl
    have cB2 : w2.cell? ⟨B, 2, none⟩ = some (.int .i64 (y.p)) := HQ2.out.at_ 0 rfl 2 _ rfl
    have cB3 : w2.cell? ⟨B, 3, none⟩ = some (.int .i64 (y.r)) := HQ2.out.at_ 0 rfl 3 _ rfl
    have cB4 : w2.cell? ⟨B, 4, none⟩ = some (.int .i64 (y.g)) := HQ2.out.at_ 0 rfl 4 _ rfl
    have cB5 : w2.cell? ⟨B, 5, none⟩ = some (.int .i64 (y.c)) := HQ2.out.at_ 0 rfl 5 _ rfl
    have cB6 : w2.cell? ⟨B, 6, none⟩ = some (.int .i64 (y.mn)) := HQ2.out.at_ 0 rfl 6 _ rfl
    have cB7 : w2.cell? ⟨B, 7, none⟩ = some (.int .i64 (y.mx)) := HQ2.out.at_ 0 rfl 7 _ rfl
    have cB8 : w2.cell? ⟨B, 8, none⟩ = some (.int .i64 (y.s)) := HQ2.out.at_ 0 rfl 8 _ rfl
    have cB9 : w2.cell? ⟨B, 9, none⟩ = some (.int .i64 (y.n)) := HQ2.out.at_ 0 rfl 9 _ rfl
    have cA0 : w2.cell? ⟨A, 0, none⟩ = some (.int .i64 (x.id)) := HQ2.out.at_ 1 rfl 0 _ rfl
    have cA1 : w2.cell? ⟨A, 1, none⟩ = some (.int .i64 (x.q)) := HQ2.out.at_ 1 rfl 1 _ rfl
    have cA2 : w2.cell? ⟨A, 2, none⟩ = some (.int .i64 (x.p)) := HQ2.out.at_ 1 rfl 2 _ rfl
    have cA3 : w2.cell? ⟨A, 3, none⟩ = some (.int .i64 (x.r)) := HQ2.out.at_ 1 rfl 3 _ rfl
    have cA4 : w2.cell? ⟨A, 4, none⟩ = some (.int .i64 (x.g)) := HQ2.out.at_ 1 rfl 4 _ rfl
    have cA5 : w2.cell? ⟨A, 5, none⟩ = some (.int .i64 (x.c)) := HQ2.out.at_ 1 rfl 5 _ rfl
    have cA6 : w2.cell? ⟨A, 6, none⟩ = some (.int .i64 (x.mn)) := HQ2.out.at_ 1 rfl 6 _ rfl
    have cA7 : w2.cell? ⟨A, 7, none⟩ = some (.int .i64 (x.mx)) := HQ2.out.at_ 1 rfl 7 _ rfl
    have cA8 : w2.cell? ⟨A, 8, none⟩ = some (.int .i64 (x.s)) := HQ2.out.at_ 1 rfl 8 _ rfl
    have cA9 : w2.cell? ⟨A, 9, none⟩ = some (.int .i64 (x.n)) := HQ2.out.at_ 1 rfl 9 _ rfl
    go_wp2
    go_ret
    exact ⟨by first | rfl | (simp; done), HQ2.out.b⟩
  · rw [hV] at S1
    rw [Bool.and_eq_true, Bool.and_eq_true, mayA_iff, mayW_iff, mayW_iff] at hV
    obtain ⟨⟨_, _, g1, g2⟩, ⟨x1, x2, x3, x4⟩, ⟨y1, y2, y3, y4⟩⟩ := hV
    rw [show (mayA (now + later) age && (mayW x && mayW y)) = true by
      rw [Bool.and_eq_true, Bool.and_eq_true, mayA_iff, mayW_iff, mayW_iff]
      exact ⟨⟨by omega, by omega, g1, g2⟩, ⟨x1, x2, x3, x4⟩, ⟨y1, y2, y3, y4⟩⟩] at A1
    have HM := Lib.hid (fun h => ahead_since (now + later) age x y g1 h)
    rw [← hsu, ← hah] at HM
    have HO := Lib.hid (fun h1 h2 => old_sure (x := x) (y := y) g1 x1 y2 h1 h2)
    rw [← hsu] at HO
    clear hsu hah
    simp only [Bool.true_and, if_true, wtV, wtA, wtO] at S1 A1 HQ0 ⊢
    have S1 := Lib.hid S1
    have A1 := Lib.hid A1
    cases su
    · by_cases c1 : 16 * age ≤ y.s - x.s
      · by_cases c2 : x.n < y.n
        · exact absurd (HO.out c1 c2) (by simp)
        · have t1 : decide (16 * age ≤ y.s - x.s) = true := decide_eq_true c1
          have t2 : decide (x.n < y.n) = false := decide_eq_false c2
          clear c1 c2 HO HM
          go_enter Try.func6, Try.ntmps6
          go_wp2_with fail
          refine (AW.out _).mono ?_
          rintro e w1 ⟨rfl, hb1⟩
          have HQ1 := Lib.hid (HQ0.out.keep hb1)
          clear hb1
          obtain ⟨B, eB⟩ : ∃ q, q = w.heap.size + 1 := ⟨_, rfl⟩
          rw [← eB]
          rw [← eB] at HQ1
          have HeB := Lib.hid eB
          clear eB
          obtain ⟨A, eA⟩ : ∃ q, q = w.heap.size := ⟨_, rfl⟩
          rw [← eA]
          rw [← eA] at HQ1
          have HeA := Lib.hid eA
          clear eA
          have cB0 : w1.cell? ⟨B, 0, none⟩ = some (.int .i64 (y.id)) := HQ1.out.at_ 0 rfl 0 _ rfl
          have cB1 : w1.cell? ⟨B, 1, none⟩ = some (.int .i64 (y.q)) := HQ1.out.at_ 0 rfl 1 _ rfl
          have cB2 : w1.cell? ⟨B, 2, none⟩ = some (.int .i64 (y.p)) := HQ1.out.at_ 0 rfl 2 _ rfl
          have cB3 : w1.cell? ⟨B, 3, none⟩ = some (.int .i64 (y.r)) := HQ1.out.at_ 0 rfl 3 _ rfl
          have cB4 : w1.cell? ⟨B, 4, none⟩ = some (.int .i64 (y.g)) := HQ1.out.at_ 0 rfl 4 _ rfl
          have cB5 : w1.cell? ⟨B, 5, none⟩ = some (.int .i64 (y.c)) := HQ1.out.at_ 0 rfl 5 _ rfl
          have cB6 : w1.cell? ⟨B, 6, none⟩ = some (.int .i64 (y.mn)) := HQ1.out.at_ 0 rfl 6 _ rfl
          have cB7 : w1.cell? ⟨B, 7, none⟩ = some (.int .i64 (y.mx)) := HQ1.out.at_ 0 rfl 7 _ rfl
          have cB8 : w1.cell? ⟨B, 8, none⟩ = some (.int .i64 (y.s)) := HQ1.out.at_ 0 rfl 8 _ rfl
          have cB9 : w1.cell? ⟨B, 9, none⟩ = some (.int .i64 (y.n)) := HQ1.out.at_ 0 rfl 9 _ rfl
          have cA0 : w1.cell? ⟨A, 0, none⟩ = some (.int .i64 (x.id)) := HQ1.out.at_ 1 rfl 0 _ rfl
          have cA1 : w1.cell? ⟨A, 1, none⟩ = some (.int .i64 (x.q)) := HQ1.out.at_ 1 rfl 1 _ rfl
          have cA2 : w1.cell? ⟨A, 2, none⟩ = some (.int .i64 (x.p)) := HQ1.out.at_ 1 rfl 2 _ rfl
          have cA3 : w1.cell? ⟨A, 3, none⟩ = some (.int .i64 (x.r)) := HQ1.out.at_ 1 rfl 3 _ rfl
          have cA4 : w1.cell? ⟨A, 4, none⟩ = some (.int .i64 (x.g)) := HQ1.out.at_ 1 rfl 4 _ rfl
          have cA5 : w1.cell? ⟨A, 5, none⟩ = some (.int .i64 (x.c)) := HQ1.out.at_ 1 rfl 5 _ rfl
          have cA6 : w1.cell? ⟨A, 6, none⟩ = some (.int .i64 (x.mn)) := HQ1.out.at_ 1 rfl 6 _ rfl
          have cA7 : w1.cell? ⟨A, 7, none⟩ = some (.int .i64 (x.mx)) := HQ1.out.at_ 1 rfl 7 _ rfl
          have cA8 : w1.cell? ⟨A, 8, none⟩ = some (.int .i64 (x.s)) := HQ1.out.at_ 1 rfl 8 _ rfl
          have cA9 : w1.cell? ⟨A, 9, none⟩ = some (.int .i64 (x.n)) := HQ1.out.at_ 1 rfl 9 _ rfl
          go_wp2_with fail
          refine (S1.out _).mono ?_
          rintro e w2 ⟨rfl, hb2⟩
          have HQ2 := Lib.hid (HQ1.out.keep hb2)
          clear hb2
          clear HQ1
          clear cB0 cB1 cB2 cB3 cB4 cB5 cB6 cB7 cB8 cB9 cA0 cA1 cA2 cA3 cA4 cA5 cA6 cA7 cA8 cA9
          have cB0 : w2.cell? ⟨B, 0, none⟩ = some (.int .i64 (y.id)) := HQ2.out.at_ 0 rfl 0 _ rfl
          have cB1 : w2.cell? ⟨B, 1, none⟩ = some (.int .i64 (y.q)) := HQ2.out.at_ 0 rfl 1 _ rfl
          have cB2 : w2.cell? ⟨B, 2, none⟩ = some (.int .i64 (y.p)) := HQ2.out.at_ 0 rfl 2 _ rfl
          have cB3 : w2.cell? ⟨B, 3, none⟩ = some (.int .i64 (y.r)) := HQ2.out.at_ 0 rfl 3 _ rfl
          have cB4 : w2.cell? ⟨B, 4, none⟩ = some (.int .i64 (y.g)) := HQ2.out.at_ 0 rfl 4 _ rfl
          have cB5 : w2.cell? ⟨B, 5, none⟩ = some (.int .i64 (y.c)) := HQ2.out.at_ 0 rfl 5 _ rfl
          have cB6 : w2.cell? ⟨B, 6, none⟩ = some (.int .i64 (y.mn)) := HQ2.out.at_ 0 rfl 6 _ rfl
          have cB7 : w2.cell? ⟨B, 7, none⟩ = some (.int .i64 (y.mx)) := HQ2.out.at_ 0 rfl 7 _ rfl
          have cB8 : w2.cell? ⟨B, 8, none⟩ = some (.int .i64 (y.s)) := HQ2.out.at_ 0 rfl 8 _ rfl
          have cB9 : w2.cell? ⟨B, 9, none⟩ = some (.int .i64 (y.n)) := HQ2.out.at_ 0 rfl 9 _ rfl
          have cA0 : w2.cell? ⟨A, 0, none⟩ = some (.int .i64 (x.id)) := HQ2.out.at_ 1 rfl 0 _ rfl
          have cA1 : w2.cell? ⟨A, 1, none⟩ = some (.int .i64 (x.q)) := HQ2.out.at_ 1 rfl 1 _ rfl
          have cA2 : w2.cell? ⟨A, 2, none⟩ = some (.int .i64 (x.p)) := HQ2.out.at_ 1 rfl 2 _ rfl
          have cA3 : w2.cell? ⟨A, 3, none⟩ = some (.int .i64 (x.r)) := HQ2.out.at_ 1 rfl 3 _ rfl
          have cA4 : w2.cell? ⟨A, 4, none⟩ = some (.int .i64 (x.g)) := HQ2.out.at_ 1 rfl 4 _ rfl
          have cA5 : w2.cell? ⟨A, 5, none⟩ = some (.int .i64 (x.c)) := HQ2.out.at_ 1 rfl 5 _ rfl
          have cA6 : w2.cell? ⟨A, 6, none⟩ = some (.int .i64 (x.mn)) := HQ2.out.at_ 1 rfl 6 _ rfl
          have cA7 : w2.cell? ⟨A, 7, none⟩ = some (.int .i64 (x.mx)) := HQ2.out.at_ 1 rfl 7 _ rfl
          have cA8 : w2.cell? ⟨A, 8, none⟩ = some (.int .i64 (x.s)) := HQ2.out.at_ 1 rfl 8 _ rfl
          have cA9 : w2.cell? ⟨A, 9, none⟩ = some (.int .i64 (x.n)) := HQ2.out.at_ 1 rfl 9 _ rfl
          go_wp2_with fail
          refine (A1.out _).mono ?_
          rintro e w3 ⟨rfl, hb3⟩
          have HQ3 := Lib.hid (HQ2.out.keep hb3)
          clear hb3
          clear HQ2
          clear cB0 cB1 cB2 cB3 cB4 cB5 cB6 cB7 cB8 cB9 cA0 cA1 cA2 cA3 cA4 cA5 cA6 cA7 cA8 cA9
          have cB0 : w3.cell? ⟨B, 0, none⟩ = some (.int .i64 (y.id)) := HQ3.out.at_ 0 rfl 0 _ rfl
          have cB1 : w3.cell? ⟨B, 1, none⟩ = some (.int .i64 (y.q)) := HQ3.out.at_ 0 rfl 1 _ rfl
          have cB2 : w3.cell? ⟨B, 2, none⟩ = some (.int .i64 (y.p)) := HQ3.out.at_ 0 rfl 2 _ rfl
          have cB3 : w3.cell? ⟨B, 3, none⟩ = some (.int .i64 (y.r)) := HQ3.out.at_ 0 rfl 3 _ rfl
          have cB4 : w3.cell? ⟨B, 4, none⟩ = some (.int .i64 (y.g)) := HQ3.out.at_ 0 rfl 4 _ rfl
          have cB5 : w3.cell? ⟨B, 5, none⟩ = some (.int .i64 (y.c)) := HQ3.out.at_ 0 rfl 5 _ rfl
          have cB6 : w3.cell? ⟨B, 6, none⟩ = some (.int .i64 (y.mn)) := HQ3.out.at_ 0 rfl 6 _ rfl
          have cB7 : w3.cell? ⟨B, 7, none⟩ = some (.int .i64 (y.mx)) := HQ3.out.at_ 0 rfl 7 _ rfl
          have cB8 : w3.cell? ⟨B, 8, none⟩ = some (.int .i64 (y.s)) := HQ3.out.at_ 0 rfl 8 _ rfl
          have cB9 : w3.cell? ⟨B, 9, none⟩ = some (.int .i64 (y.n)) := HQ3.out.at_ 0 rfl 9 _ rfl
          have cA0 : w3.cell? ⟨A, 0, none⟩ = some (.int .i64 (x.id)) := HQ3.out.at_ 1 rfl 0 _ rfl
          have cA1 : w3.cell? ⟨A, 1, none⟩ = some (.int .i64 (x.q)) := HQ3.out.at_ 1 rfl 1 _ rfl
          have cA2 : w3.cell? ⟨A, 2, none⟩ = some (.int .i64 (x.p)) := HQ3.out.at_ 1 rfl 2 _ rfl
          have cA3 : w3.cell? ⟨A, 3, none⟩ = some (.int .i64 (x.r)) := HQ3.out.at_ 1 rfl 3 _ rfl
          have cA4 : w3.cell? ⟨A, 4, none⟩ = some (.int .i64 (x.g)) := HQ3.out.at_ 1 rfl 4 _ rfl
          have cA5 : w3.cell? ⟨A, 5, none⟩ = some (.int .i64 (x.c)) := HQ3.out.at_ 1 rfl 5 _ rfl
          have cA6 : w3.cell? ⟨A, 6, none⟩ = some (.int .i64 (x.mn)) := HQ3.out.at_ 1 rfl 6 _ rfl
          have cA7 : w3.cell? ⟨A, 7, none⟩ = some (.int .i64 (x.mx)) := HQ3.out.at_ 1 rfl 7 _ rfl
          have cA8 : w3.cell? ⟨A, 8, none⟩ = some (.int .i64 (x.s)) := HQ3.out.at_ 1 rfl 8 _ rfl
          have cA9 : w3.cell? ⟨A, 9, none⟩ = some (.int .i64 (x.n)) := HQ3.out.at_ 1 rfl 9 _ rfl
          go_wp2
          go_ret
          exact ⟨by first | rfl | (simp; done), HQ3.out.b⟩
      · have t1 : decide (16 * age ≤ y.s - x.s) = false := decide_eq_false c1
        clear c1 HO HM
        go_enter Try.func6, Try.ntmps6
        go_wp2_with fail
        refine (AW.out _).mono ?_
        rintro e w1 ⟨rfl, hb1⟩
        have HQ1 := Lib.hid (HQ0.out.keep hb1)
        clear hb1
        obtain ⟨B, eB⟩ : ∃ q, q = w.heap.size + 1 := ⟨_, rfl⟩
        rw [← eB]
        rw [← eB] at HQ1
        have HeB := Lib.hid eB
        clear eB
        obtain ⟨A, eA⟩ : ∃ q, q = w.heap.size := ⟨_, rfl⟩
        rw [← eA]
        rw [← eA] at HQ1
        have HeA := Lib.hid eA
        clear eA
        have cB0 : w1.cell? ⟨B, 0, none⟩ = some (.int .i64 (y.id)) := HQ1.out.at_ 0 rfl 0 _ rfl
        have cB1 : w1.cell? ⟨B, 1, none⟩ = some (.int .i64 (y.q)) := HQ1.out.at_ 0 rfl 1 _ rfl
        have cB2 : w1.cell? ⟨B, 2, none⟩ = some (.int .i64 (y.p)) := HQ1.out.at_ 0 rfl 2 _ rfl
        have cB3 : w1.cell? ⟨B, 3, none⟩ = some (.int .i64 (y.r)) := HQ1.out.at_ 0 rfl 3 _ rfl
        have cB4 : w1.cell? ⟨B, 4, none⟩ = some (.int .i64 (y.g)) := HQ1.out.at_ 0 rfl 4 _ rfl
        have cB5 : w1.cell? ⟨B, 5, none⟩ = some (.int .i64 (y.c)) := HQ1.out.at_ 0 rfl 5 _ rfl
        have cB6 : w1.cell? ⟨B, 6, none⟩ = some (.int .i64 (y.mn)) := HQ1.out.at_ 0 rfl 6 _ rfl
        have cB7 : w1.cell? ⟨B, 7, none⟩ = some (.int .i64 (y.mx)) := HQ1.out.at_ 0 rfl 7 _ rfl
        have cB8 : w1.cell? ⟨B, 8, none⟩ = some (.int .i64 (y.s)) := HQ1.out.at_ 0 rfl 8 _ rfl
        have cB9 : w1.cell? ⟨B, 9, none⟩ = some (.int .i64 (y.n)) := HQ1.out.at_ 0 rfl 9 _ rfl
        have cA0 : w1.cell? ⟨A, 0, none⟩ = some (.int .i64 (x.id)) := HQ1.out.at_ 1 rfl 0 _ rfl
        have cA1 : w1.cell? ⟨A, 1, none⟩ = some (.int .i64 (x.q)) := HQ1.out.at_ 1 rfl 1 _ rfl
        have cA2 : w1.cell? ⟨A, 2, none⟩ = some (.int .i64 (x.p)) := HQ1.out.at_ 1 rfl 2 _ rfl
        have cA3 : w1.cell? ⟨A, 3, none⟩ = some (.int .i64 (x.r)) := HQ1.out.at_ 1 rfl 3 _ rfl
        have cA4 : w1.cell? ⟨A, 4, none⟩ = some (.int .i64 (x.g)) := HQ1.out.at_ 1 rfl 4 _ rfl
        have cA5 : w1.cell? ⟨A, 5, none⟩ = some (.int .i64 (x.c)) := HQ1.out.at_ 1 rfl 5 _ rfl
        have cA6 : w1.cell? ⟨A, 6, none⟩ = some (.int .i64 (x.mn)) := HQ1.out.at_ 1 rfl 6 _ rfl
        have cA7 : w1.cell? ⟨A, 7, none⟩ = some (.int .i64 (x.mx)) := HQ1.out.at_ 1 rfl 7 _ rfl
        have cA8 : w1.cell? ⟨A, 8, none⟩ = some (.int .i64 (x.s)) := HQ1.out.at_ 1 rfl 8 _ rfl
        have cA9 : w1.cell? ⟨A, 9, none⟩ = some (.int .i64 (x.n)) := HQ1.out.at_ 1 rfl 9 _ rfl
        go_wp2_with fail
        refine (S1.out _).mono ?_
        rintro e w2 ⟨rfl, hb2⟩
        have HQ2 := Lib.hid (HQ1.out.keep hb2)
        clear hb2
        clear HQ1
        clear cB0 cB1 cB2 cB3 cB4 cB5 cB6 cB7 cB8 cB9 cA0 cA1 cA2 cA3 cA4 cA5 cA6 cA7 cA8 cA9
        have cB0 : w2.cell? ⟨B, 0, none⟩ = some (.int .i64 (y.id)) := HQ2.out.at_ 0 rfl 0 _ rfl
        have cB1 : w2.cell? ⟨B, 1, none⟩ = some (.int .i64 (y.q)) := HQ2.out.at_ 0 rfl 1 _ rfl
        have cB2 : w2.cell? ⟨B, 2, none⟩ = some (.int .i64 (y.p)) := HQ2.out.at_ 0 rfl 2 _ rfl
        have cB3 : w2.cell? ⟨B, 3, none⟩ = some (.int .i64 (y.r)) := HQ2.out.at_ 0 rfl 3 _ rfl
        have cB4 : w2.cell? ⟨B, 4, none⟩ = some (.int .i64 (y.g)) := HQ2.out.at_ 0 rfl 4 _ rfl
        have cB5 : w2.cell? ⟨B, 5, none⟩ = some (.int .i64 (y.c)) := HQ2.out.at_ 0 rfl 5 _ rfl
        have cB6 : w2.cell? ⟨B, 6, none⟩ = some (.int .i64 (y.mn)) := HQ2.out.at_ 0 rfl 6 _ rfl
        have cB7 : w2.cell? ⟨B, 7, none⟩ = some (.int .i64 (y.mx)) := HQ2.out.at_ 0 rfl 7 _ rfl
        have cB8 : w2.cell? ⟨B, 8, none⟩ = some (.int .i64 (y.s)) := HQ2.out.at_ 0 rfl 8 _ rfl
        have cB9 : w2.cell? ⟨B, 9, none⟩ = some (.int .i64 (y.n)) := HQ2.out.at_ 0 rfl 9 _ rfl
        have cA0 : w2.cell? ⟨A, 0, none⟩ = some (.int .i64 (x.id)) := HQ2.out.at_ 1 rfl 0 _ rfl
        have cA1 : w2.cell? ⟨A, 1, none⟩ = some (.int .i64 (x.q)) := HQ2.out.at_ 1 rfl 1 _ rfl
        have cA2 : w2.cell? ⟨A, 2, none⟩ = some (.int .i64 (x.p)) := HQ2.out.at_ 1 rfl 2 _ rfl
        have cA3 : w2.cell? ⟨A, 3, none⟩ = some (.int .i64 (x.r)) := HQ2.out.at_ 1 rfl 3 _ rfl
        have cA4 : w2.cell? ⟨A, 4, none⟩ = some (.int .i64 (x.g)) := HQ2.out.at_ 1 rfl 4 _ rfl
        have cA5 : w2.cell? ⟨A, 5, none⟩ = some (.int .i64 (x.c)) := HQ2.out.at_ 1 rfl 5 _ rfl
        have cA6 : w2.cell? ⟨A, 6, none⟩ = some (.int .i64 (x.mn)) := HQ2.out.at_ 1 rfl 6 _ rfl
        have cA7 : w2.cell? ⟨A, 7, none⟩ = some (.int .i64 (x.mx)) := HQ2.out.at_ 1 rfl 7 _ rfl
        have cA8 : w2.cell? ⟨A, 8, none⟩ = some (.int .i64 (x.s)) := HQ2.out.at_ 1 rfl 8 _ rfl
        have cA9 : w2.cell? ⟨A, 9, none⟩ = some (.int .i64 (x.n)) := HQ2.out.at_ 1 rfl 9 _ rfl
        go_wp2_with fail
        refine (A1.out _).mono ?_
        rintro e w3 ⟨rfl, hb3⟩
        have HQ3 := Lib.hid (HQ2.out.keep hb3)
        clear hb3
        clear HQ2
        clear cB0 cB1 cB2 cB3 cB4 cB5 cB6 cB7 cB8 cB9 cA0 cA1 cA2 cA3 cA4 cA5 cA6 cA7 cA8 cA9
        have cB0 : w3.cell? ⟨B, 0, none⟩ = some (.int .i64 (y.id)) := HQ3.out.at_ 0 rfl 0 _ rfl
        have cB1 : w3.cell? ⟨B, 1, none⟩ = some (.int .i64 (y.q)) := HQ3.out.at_ 0 rfl 1 _ rfl
        have cB2 : w3.cell? ⟨B, 2, none⟩ = some (.int .i64 (y.p)) := HQ3.out.at_ 0 rfl 2 _ rfl
        have cB3 : w3.cell? ⟨B, 3, none⟩ = some (.int .i64 (y.r)) := HQ3.out.at_ 0 rfl 3 _ rfl
        have cB4 : w3.cell? ⟨B, 4, none⟩ = some (.int .i64 (y.g)) := HQ3.out.at_ 0 rfl 4 _ rfl
        have cB5 : w3.cell? ⟨B, 5, none⟩ = some (.int .i64 (y.c)) := HQ3.out.at_ 0 rfl 5 _ rfl
        have cB6 : w3.cell? ⟨B, 6, none⟩ = some (.int .i64 (y.mn)) := HQ3.out.at_ 0 rfl 6 _ rfl
        have cB7 : w3.cell? ⟨B, 7, none⟩ = some (.int .i64 (y.mx)) := HQ3.out.at_ 0 rfl 7 _ rfl
        have cB8 : w3.cell? ⟨B, 8, none⟩ = some (.int .i64 (y.s)) := HQ3.out.at_ 0 rfl 8 _ rfl
        have cB9 : w3.cell? ⟨B, 9, none⟩ = some (.int .i64 (y.n)) := HQ3.out.at_ 0 rfl 9 _ rfl
        have cA0 : w3.cell? ⟨A, 0, none⟩ = some (.int .i64 (x.id)) := HQ3.out.at_ 1 rfl 0 _ rfl
        have cA1 : w3.cell? ⟨A, 1, none⟩ = some (.int .i64 (x.q)) := HQ3.out.at_ 1 rfl 1 _ rfl
        have cA2 : w3.cell? ⟨A, 2, none⟩ = some (.int .i64 (x.p)) := HQ3.out.at_ 1 rfl 2 _ rfl
        have cA3 : w3.cell? ⟨A, 3, none⟩ = some (.int .i64 (x.r)) := HQ3.out.at_ 1 rfl 3 _ rfl
        have cA4 : w3.cell? ⟨A, 4, none⟩ = some (.int .i64 (x.g)) := HQ3.out.at_ 1 rfl 4 _ rfl
        have cA5 : w3.cell? ⟨A, 5, none⟩ = some (.int .i64 (x.c)) := HQ3.out.at_ 1 rfl 5 _ rfl
        have cA6 : w3.cell? ⟨A, 6, none⟩ = some (.int .i64 (x.mn)) := HQ3.out.at_ 1 rfl 6 _ rfl
        have cA7 : w3.cell? ⟨A, 7, none⟩ = some (.int .i64 (x.mx)) := HQ3.out.at_ 1 rfl 7 _ rfl
        have cA8 : w3.cell? ⟨A, 8, none⟩ = some (.int .i64 (x.s)) := HQ3.out.at_ 1 rfl 8 _ rfl
        have cA9 : w3.cell? ⟨A, 9, none⟩ = some (.int .i64 (x.n)) := HQ3.out.at_ 1 rfl 9 _ rfl
        go_wp2
        go_ret
        exact ⟨by first | rfl | (simp; done), HQ3.out.b⟩
    · have e0 := HM.out rfl
      subst e0
      clear HO HM
      cases t1 : decide (16 * age ≤ y.s - x.s)
      · skip
        go_enter Try.func6, Try.ntmps6
        go_wp2_with fail
        refine (AW.out _).mono ?_
        rintro e w1 ⟨rfl, hb1⟩
        have HQ1 := Lib.hid (HQ0.out.keep hb1)
        clear hb1
        obtain ⟨B, eB⟩ : ∃ q, q = w.heap.size + 1 := ⟨_, rfl⟩
        rw [← eB]
        rw [← eB] at HQ1
        have HeB := Lib.hid eB
        clear eB
        obtain ⟨A, eA⟩ : ∃ q, q = w.heap.size := ⟨_, rfl⟩
        rw [← eA]
        rw [← eA] at HQ1
        have HeA := Lib.hid eA
        clear eA
        have cB0 : w1.cell? ⟨B, 0, none⟩ = some (.int .i64 (y.id)) := HQ1.out.at_ 0 rfl 0 _ rfl
        have cB1 : w1.cell? ⟨B, 1, none⟩ = some (.int .i64 (y.q)) := HQ1.out.at_ 0 rfl 1 _ rfl
        have cB2 : w1.cell? ⟨B, 2, none⟩ = some (.int .i64 (y.p)) := HQ1.out.at_ 0 rfl 2 _ rfl
        have cB3 : w1.cell? ⟨B, 3, none⟩ = some (.int .i64 (y.r)) := HQ1.out.at_ 0 rfl 3 _ rfl
        have cB4 : w1.cell? ⟨B, 4, none⟩ = some (.int .i64 (y.g)) := HQ1.out.at_ 0 rfl 4 _ rfl
        have cB5 : w1.cell? ⟨B, 5, none⟩ = some (.int .i64 (y.c)) := HQ1.out.at_ 0 rfl 5 _ rfl
        have cB6 : w1.cell? ⟨B, 6, none⟩ = some (.int .i64 (y.mn)) := HQ1.out.at_ 0 rfl 6 _ rfl
        have cB7 : w1.cell? ⟨B, 7, none⟩ = some (.int .i64 (y.mx)) := HQ1.out.at_ 0 rfl 7 _ rfl
        have cB8 : w1.cell? ⟨B, 8, none⟩ = some (.int .i64 (y.s)) := HQ1.out.at_ 0 rfl 8 _ rfl
        have cB9 : w1.cell? ⟨B, 9, none⟩ = some (.int .i64 (y.n)) := HQ1.out.at_ 0 rfl 9 _ rfl
        have cA0 : w1.cell? ⟨A, 0, none⟩ = some (.int .i64 (x.id)) := HQ1.out.at_ 1 rfl 0 _ rfl
        have cA1 : w1.cell? ⟨A, 1, none⟩ = some (.int .i64 (x.q)) := HQ1.out.at_ 1 rfl 1 _ rfl
        have cA2 : w1.cell? ⟨A, 2, none⟩ = some (.int .i64 (x.p)) := HQ1.out.at_ 1 rfl 2 _ rfl
        have cA3 : w1.cell? ⟨A, 3, none⟩ = some (.int .i64 (x.r)) := HQ1.out.at_ 1 rfl 3 _ rfl
        have cA4 : w1.cell? ⟨A, 4, none⟩ = some (.int .i64 (x.g)) := HQ1.out.at_ 1 rfl 4 _ rfl
        have cA5 : w1.cell? ⟨A, 5, none⟩ = some (.int .i64 (x.c)) := HQ1.out.at_ 1 rfl 5 _ rfl
        have cA6 : w1.cell? ⟨A, 6, none⟩ = some (.int .i64 (x.mn)) := HQ1.out.at_ 1 rfl 6 _ rfl
        have cA7 : w1.cell? ⟨A, 7, none⟩ = some (.int .i64 (x.mx)) := HQ1.out.at_ 1 rfl 7 _ rfl
        have cA8 : w1.cell? ⟨A, 8, none⟩ = some (.int .i64 (x.s)) := HQ1.out.at_ 1 rfl 8 _ rfl
        have cA9 : w1.cell? ⟨A, 9, none⟩ = some (.int .i64 (x.n)) := HQ1.out.at_ 1 rfl 9 _ rfl
        go_wp2_with fail
        refine (S1.out _).mono ?_
        rintro e w2 ⟨rfl, hb2⟩
        have HQ2 := Lib.hid (HQ1.out.keep hb2)
        clear hb2
        clear HQ1
        clear cB0 cB1 cB2 cB3 cB4 cB5 cB6 cB7 cB8 cB9 cA0 cA1 cA2 cA3 cA4 cA5 cA6 cA7 cA8 cA9
        have cB0 : w2.cell? ⟨B, 0, none⟩ = some (.int .i64 (y.id)) := HQ2.out.at_ 0 rfl 0 _ rfl
        have cB1 : w2.cell? ⟨B, 1, none⟩ = some (.int .i64 (y.q)) := HQ2.out.at_ 0 rfl 1 _ rfl
        have cB2 : w2.cell? ⟨B, 2, none⟩ = some (.int .i64 (y.p)) := HQ2.out.at_ 0 rfl 2 _ rfl
        have cB3 : w2.cell? ⟨B, 3, none⟩ = some (.int .i64 (y.r)) := HQ2.out.at_ 0 rfl 3 _ rfl
        have cB4 : w2.cell? ⟨B, 4, none⟩ = some (.int .i64 (y.g)) := HQ2.out.at_ 0 rfl 4 _ rfl
        have cB5 : w2.cell? ⟨B, 5, none⟩ = some (.int .i64 (y.c)) := HQ2.out.at_ 0 rfl 5 _ rfl
        have cB6 : w2.cell? ⟨B, 6, none⟩ = some (.int .i64 (y.mn)) := HQ2.out.at_ 0 rfl 6 _ rfl
        have cB7 : w2.cell? ⟨B, 7, none⟩ = some (.int .i64 (y.mx)) := HQ2.out.at_ 0 rfl 7 _ rfl
        have cB8 : w2.cell? ⟨B, 8, none⟩ = some (.int .i64 (y.s)) := HQ2.out.at_ 0 rfl 8 _ rfl
        have cB9 : w2.cell? ⟨B, 9, none⟩ = some (.int .i64 (y.n)) := HQ2.out.at_ 0 rfl 9 _ rfl
        have cA0 : w2.cell? ⟨A, 0, none⟩ = some (.int .i64 (x.id)) := HQ2.out.at_ 1 rfl 0 _ rfl
        have cA1 : w2.cell? ⟨A, 1, none⟩ = some (.int .i64 (x.q)) := HQ2.out.at_ 1 rfl 1 _ rfl
        have cA2 : w2.cell? ⟨A, 2, none⟩ = some (.int .i64 (x.p)) := HQ2.out.at_ 1 rfl 2 _ rfl
        have cA3 : w2.cell? ⟨A, 3, none⟩ = some (.int .i64 (x.r)) := HQ2.out.at_ 1 rfl 3 _ rfl
        have cA4 : w2.cell? ⟨A, 4, none⟩ = some (.int .i64 (x.g)) := HQ2.out.at_ 1 rfl 4 _ rfl
        have cA5 : w2.cell? ⟨A, 5, none⟩ = some (.int .i64 (x.c)) := HQ2.out.at_ 1 rfl 5 _ rfl
        have cA6 : w2.cell? ⟨A, 6, none⟩ = some (.int .i64 (x.mn)) := HQ2.out.at_ 1 rfl 6 _ rfl
        have cA7 : w2.cell? ⟨A, 7, none⟩ = some (.int .i64 (x.mx)) := HQ2.out.at_ 1 rfl 7 _ rfl
        have cA8 : w2.cell? ⟨A, 8, none⟩ = some (.int .i64 (x.s)) := HQ2.out.at_ 1 rfl 8 _ rfl
        have cA9 : w2.cell? ⟨A, 9, none⟩ = some (.int .i64 (x.n)) := HQ2.out.at_ 1 rfl 9 _ rfl
        go_wp2_with fail
        refine (A1.out _).mono ?_
        rintro e w3 ⟨rfl, hb3⟩
        have HQ3 := Lib.hid (HQ2.out.keep hb3)
        clear hb3
        clear HQ2
        clear cB0 cB1 cB2 cB3 cB4 cB5 cB6 cB7 cB8 cB9 cA0 cA1 cA2 cA3 cA4 cA5 cA6 cA7 cA8 cA9
        have cB0 : w3.cell? ⟨B, 0, none⟩ = some (.int .i64 (y.id)) := HQ3.out.at_ 0 rfl 0 _ rfl
        have cB1 : w3.cell? ⟨B, 1, none⟩ = some (.int .i64 (y.q)) := HQ3.out.at_ 0 rfl 1 _ rfl
        have cB2 : w3.cell? ⟨B, 2, none⟩ = some (.int .i64 (y.p)) := HQ3.out.at_ 0 rfl 2 _ rfl
        have cB3 : w3.cell? ⟨B, 3, none⟩ = some (.int .i64 (y.r)) := HQ3.out.at_ 0 rfl 3 _ rfl
        have cB4 : w3.cell? ⟨B, 4, none⟩ = some (.int .i64 (y.g)) := HQ3.out.at_ 0 rfl 4 _ rfl
        have cB5 : w3.cell? ⟨B, 5, none⟩ = some (.int .i64 (y.c)) := HQ3.out.at_ 0 rfl 5 _ rfl
        have cB6 : w3.cell? ⟨B, 6, none⟩ = some (.int .i64 (y.mn)) := HQ3.out.at_ 0 rfl 6 _ rfl
        have cB7 : w3.cell? ⟨B, 7, none⟩ = some (.int .i64 (y.mx)) := HQ3.out.at_ 0 rfl 7 _ rfl
        have cB8 : w3.cell? ⟨B, 8, none⟩ = some (.int .i64 (y.s)) := HQ3.out.at_ 0 rfl 8 _ rfl
        have cB9 : w3.cell? ⟨B, 9, none⟩ = some (.int .i64 (y.n)) := HQ3.out.at_ 0 rfl 9 _ rfl
        have cA0 : w3.cell? ⟨A, 0, none⟩ = some (.int .i64 (x.id)) := HQ3.out.at_ 1 rfl 0 _ rfl
        have cA1 : w3.cell? ⟨A, 1, none⟩ = some (.int .i64 (x.q)) := HQ3.out.at_ 1 rfl 1 _ rfl
        have cA2 : w3.cell? ⟨A, 2, none⟩ = some (.int .i64 (x.p)) := HQ3.out.at_ 1 rfl 2 _ rfl
        have cA3 : w3.cell? ⟨A, 3, none⟩ = some (.int .i64 (x.r)) := HQ3.out.at_ 1 rfl 3 _ rfl
        have cA4 : w3.cell? ⟨A, 4, none⟩ = some (.int .i64 (x.g)) := HQ3.out.at_ 1 rfl 4 _ rfl
        have cA5 : w3.cell? ⟨A, 5, none⟩ = some (.int .i64 (x.c)) := HQ3.out.at_ 1 rfl 5 _ rfl
        have cA6 : w3.cell? ⟨A, 6, none⟩ = some (.int .i64 (x.mn)) := HQ3.out.at_ 1 rfl 6 _ rfl
        have cA7 : w3.cell? ⟨A, 7, none⟩ = some (.int .i64 (x.mx)) := HQ3.out.at_ 1 rfl 7 _ rfl
        have cA8 : w3.cell? ⟨A, 8, none⟩ = some (.int .i64 (x.s)) := HQ3.out.at_ 1 rfl 8 _ rfl
        have cA9 : w3.cell? ⟨A, 9, none⟩ = some (.int .i64 (x.n)) := HQ3.out.at_ 1 rfl 9 _ rfl
        go_wp2
        go_ret
        exact ⟨by first | rfl | (simp; done), HQ3.out.b⟩
      · cases t2 : decide (x.n < y.n)
        · skip
          go_enter Try.func6, Try.ntmps6
          go_wp2_with fail
          refine (AW.out _).mono ?_
          rintro e w1 ⟨rfl, hb1⟩
          have HQ1 := Lib.hid (HQ0.out.keep hb1)
          clear hb1
          obtain ⟨B, eB⟩ : ∃ q, q = w.heap.size + 1 := ⟨_, rfl⟩
          rw [← eB]
          rw [← eB] at HQ1
          have HeB := Lib.hid eB
          clear eB
          obtain ⟨A, eA⟩ : ∃ q, q = w.heap.size := ⟨_, rfl⟩
          rw [← eA]
          rw [← eA] at HQ1
          have HeA := Lib.hid eA
          clear eA
          have cB0 : w1.cell? ⟨B, 0, none⟩ = some (.int .i64 (y.id)) := HQ1.out.at_ 0 rfl 0 _ rfl
          have cB1 : w1.cell? ⟨B, 1, none⟩ = some (.int .i64 (y.q)) := HQ1.out.at_ 0 rfl 1 _ rfl
          have cB2 : w1.cell? ⟨B, 2, none⟩ = some (.int .i64 (y.p)) := HQ1.out.at_ 0 rfl 2 _ rfl
          have cB3 : w1.cell? ⟨B, 3, none⟩ = some (.int .i64 (y.r)) := HQ1.out.at_ 0 rfl 3 _ rfl
          have cB4 : w1.cell? ⟨B, 4, none⟩ = some (.int .i64 (y.g)) := HQ1.out.at_ 0 rfl 4 _ rfl
          have cB5 : w1.cell? ⟨B, 5, none⟩ = some (.int .i64 (y.c)) := HQ1.out.at_ 0 rfl 5 _ rfl
          have cB6 : w1.cell? ⟨B, 6, none⟩ = some (.int .i64 (y.mn)) := HQ1.out.at_ 0 rfl 6 _ rfl
          have cB7 : w1.cell? ⟨B, 7, none⟩ = some (.int .i64 (y.mx)) := HQ1.out.at_ 0 rfl 7 _ rfl
          have cB8 : w1.cell? ⟨B, 8, none⟩ = some (.int .i64 (y.s)) := HQ1.out.at_ 0 rfl 8 _ rfl
          have cB9 : w1.cell? ⟨B, 9, none⟩ = some (.int .i64 (y.n)) := HQ1.out.at_ 0 rfl 9 _ rfl
          have cA0 : w1.cell? ⟨A, 0, none⟩ = some (.int .i64 (x.id)) := HQ1.out.at_ 1 rfl 0 _ rfl
          have cA1 : w1.cell? ⟨A, 1, none⟩ = some (.int .i64 (x.q)) := HQ1.out.at_ 1 rfl 1 _ rfl
          have cA2 : w1.cell? ⟨A, 2, none⟩ = some (.int .i64 (x.p)) := HQ1.out.at_ 1 rfl 2 _ rfl
          have cA3 : w1.cell? ⟨A, 3, none⟩ = some (.int .i64 (x.r)) := HQ1.out.at_ 1 rfl 3 _ rfl
          have cA4 : w1.cell? ⟨A, 4, none⟩ = some (.int .i64 (x.g)) := HQ1.out.at_ 1 rfl 4 _ rfl
          have cA5 : w1.cell? ⟨A, 5, none⟩ = some (.int .i64 (x.c)) := HQ1.out.at_ 1 rfl 5 _ rfl
          have cA6 : w1.cell? ⟨A, 6, none⟩ = some (.int .i64 (x.mn)) := HQ1.out.at_ 1 rfl 6 _ rfl
          have cA7 : w1.cell? ⟨A, 7, none⟩ = some (.int .i64 (x.mx)) := HQ1.out.at_ 1 rfl 7 _ rfl
          have cA8 : w1.cell? ⟨A, 8, none⟩ = some (.int .i64 (x.s)) := HQ1.out.at_ 1 rfl 8 _ rfl
          have cA9 : w1.cell? ⟨A, 9, none⟩ = some (.int .i64 (x.n)) := HQ1.out.at_ 1 rfl 9 _ rfl
          go_wp2_with fail
          refine (S1.out _).mono ?_
          rintro e w2 ⟨rfl, hb2⟩
          have HQ2 := Lib.hid (HQ1.out.keep hb2)
          clear hb2
          clear HQ1
          clear cB0 cB1 cB2 cB3 cB4 cB5 cB6 cB7 cB8 cB9 cA0 cA1 cA2 cA3 cA4 cA5 cA6 cA7 cA8 cA9
          have cB0 : w2.cell? ⟨B, 0, none⟩ = some (.int .i64 (y.id)) := HQ2.out.at_ 0 rfl 0 _ rfl
          have cB1 : w2.cell? ⟨B, 1, none⟩ = some (.int .i64 (y.q)) := HQ2.out.at_ 0 rfl 1 _ rfl
          have cB2 : w2.cell? ⟨B, 2, none⟩ = some (.int .i64 (y.p)) := HQ2.out.at_ 0 rfl 2 _ rfl
          have cB3 : w2.cell? ⟨B, 3, none⟩ = some (.int .i64 (y.r)) := HQ2.out.at_ 0 rfl 3 _ rfl
          have cB4 : w2.cell? ⟨B, 4, none⟩ = some (.int .i64 (y.g)) := HQ2.out.at_ 0 rfl 4 _ rfl
          have cB5 : w2.cell? ⟨B, 5, none⟩ = some (.int .i64 (y.c)) := HQ2.out.at_ 0 rfl 5 _ rfl
          have cB6 : w2.cell? ⟨B, 6, none⟩ = some (.int .i64 (y.mn)) := HQ2.out.at_ 0 rfl 6 _ rfl
          have cB7 : w2.cell? ⟨B, 7, none⟩ = some (.int .i64 (y.mx)) := HQ2.out.at_ 0 rfl 7 _ rfl
          have cB8 : w2.cell? ⟨B, 8, none⟩ = some (.int .i64 (y.s)) := HQ2.out.at_ 0 rfl 8 _ rfl
          have cB9 : w2.cell? ⟨B, 9, none⟩ = some (.int .i64 (y.n)) := HQ2.out.at_ 0 rfl 9 _ rfl
          have cA0 : w2.cell? ⟨A, 0, none⟩ = some (.int .i64 (x.id)) := HQ2.out.at_ 1 rfl 0 _ rfl
          have cA1 : w2.cell? ⟨A, 1, none⟩ = some (.int .i64 (x.q)) := HQ2.out.at_ 1 rfl 1 _ rfl
          have cA2 : w2.cell? ⟨A, 2, none⟩ = some (.int .i64 (x.p)) := HQ2.out.at_ 1 rfl 2 _ rfl
          have cA3 : w2.cell? ⟨A, 3, none⟩ = some (.int .i64 (x.r)) := HQ2.out.at_ 1 rfl 3 _ rfl
          have cA4 : w2.cell? ⟨A, 4, none⟩ = some (.int .i64 (x.g)) := HQ2.out.at_ 1 rfl 4 _ rfl
          have cA5 : w2.cell? ⟨A, 5, none⟩ = some (.int .i64 (x.c)) := HQ2.out.at_ 1 rfl 5 _ rfl
          have cA6 : w2.cell? ⟨A, 6, none⟩ = some (.int .i64 (x.mn)) := HQ2.out.at_ 1 rfl 6 _ rfl
          have cA7 : w2.cell? ⟨A, 7, none⟩ = some (.int .i64 (x.mx)) := HQ2.out.at_ 1 rfl 7 _ rfl
          have cA8 : w2.cell? ⟨A, 8, none⟩ = some (.int .i64 (x.s)) := HQ2.out.at_ 1 rfl 8 _ rfl
          have cA9 : w2.cell? ⟨A, 9, none⟩ = some (.int .i64 (x.n)) := HQ2.out.at_ 1 rfl 9 _ rfl
          go_wp2_with fail
          refine (A1.out _).mono ?_
          rintro e w3 ⟨rfl, hb3⟩
          have HQ3 := Lib.hid (HQ2.out.keep hb3)
          clear hb3
          clear HQ2
          clear cB0 cB1 cB2 cB3 cB4 cB5 cB6 cB7 cB8 cB9 cA0 cA1 cA2 cA3 cA4 cA5 cA6 cA7 cA8 cA9
          have cB0 : w3.cell? ⟨B, 0, none⟩ = some (.int .i64 (y.id)) := HQ3.out.at_ 0 rfl 0 _ rfl
          have cB1 : w3.cell? ⟨B, 1, none⟩ = some (.int .i64 (y.q)) := HQ3.out.at_ 0 rfl 1 _ rfl
          have cB2 : w3.cell? ⟨B, 2, none⟩ = some (.int .i64 (y.p)) := HQ3.out.at_ 0 rfl 2 _ rfl
          have cB3 : w3.cell? ⟨B, 3, none⟩ = some (.int .i64 (y.r)) := HQ3.out.at_ 0 rfl 3 _ rfl
          have cB4 : w3.cell? ⟨B, 4, none⟩ = some (.int .i64 (y.g)) := HQ3.out.at_ 0 rfl 4 _ rfl
          have cB5 : w3.cell? ⟨B, 5, none⟩ = some (.int .i64 (y.c)) := HQ3.out.at_ 0 rfl 5 _ rfl
          have cB6 : w3.cell? ⟨B, 6, none⟩ = some (.int .i64 (y.mn)) := HQ3.out.at_ 0 rfl 6 _ rfl
          have cB7 : w3.cell? ⟨B, 7, none⟩ = some (.int .i64 (y.mx)) := HQ3.out.at_ 0 rfl 7 _ rfl
          have cB8 : w3.cell? ⟨B, 8, none⟩ = some (.int .i64 (y.s)) := HQ3.out.at_ 0 rfl 8 _ rfl
          have cB9 : w3.cell? ⟨B, 9, none⟩ = some (.int .i64 (y.n)) := HQ3.out.at_ 0 rfl 9 _ rfl
          have cA0 : w3.cell? ⟨A, 0, none⟩ = some (.int .i64 (x.id)) := HQ3.out.at_ 1 rfl 0 _ rfl
          have cA1 : w3.cell? ⟨A, 1, none⟩ = some (.int .i64 (x.q)) := HQ3.out.at_ 1 rfl 1 _ rfl
          have cA2 : w3.cell? ⟨A, 2, none⟩ = some (.int .i64 (x.p)) := HQ3.out.at_ 1 rfl 2 _ rfl
          have cA3 : w3.cell? ⟨A, 3, none⟩ = some (.int .i64 (x.r)) := HQ3.out.at_ 1 rfl 3 _ rfl
          have cA4 : w3.cell? ⟨A, 4, none⟩ = some (.int .i64 (x.g)) := HQ3.out.at_ 1 rfl 4 _ rfl
          have cA5 : w3.cell? ⟨A, 5, none⟩ = some (.int .i64 (x.c)) := HQ3.out.at_ 1 rfl 5 _ rfl
          have cA6 : w3.cell? ⟨A, 6, none⟩ = some (.int .i64 (x.mn)) := HQ3.out.at_ 1 rfl 6 _ rfl
          have cA7 : w3.cell? ⟨A, 7, none⟩ = some (.int .i64 (x.mx)) := HQ3.out.at_ 1 rfl 7 _ rfl
          have cA8 : w3.cell? ⟨A, 8, none⟩ = some (.int .i64 (x.s)) := HQ3.out.at_ 1 rfl 8 _ rfl
          have cA9 : w3.cell? ⟨A, 9, none⟩ = some (.int .i64 (x.n)) := HQ3.out.at_ 1 rfl 9 _ rfl
          go_wp2
          go_ret
          exact ⟨by first | rfl | (simp; done), HQ3.out.b⟩
        · skip
          go_enter Try.func6, Try.ntmps6
          go_wp2_with fail
          refine (AW.out _).mono ?_
          rintro e w1 ⟨rfl, hb1⟩
          have HQ1 := Lib.hid (HQ0.out.keep hb1)
          clear hb1
          obtain ⟨B, eB⟩ : ∃ q, q = w.heap.size + 1 := ⟨_, rfl⟩
          rw [← eB]
          rw [← eB] at HQ1
          have HeB := Lib.hid eB
          clear eB
          obtain ⟨A, eA⟩ : ∃ q, q = w.heap.size := ⟨_, rfl⟩
          rw [← eA]
          rw [← eA] at HQ1
          have HeA := Lib.hid eA
          clear eA
          have cB0 : w1.cell? ⟨B, 0, none⟩ = some (.int .i64 (y.id)) := HQ1.out.at_ 0 rfl 0 _ rfl
          have cB1 : w1.cell? ⟨B, 1, none⟩ = some (.int .i64 (y.q)) := HQ1.out.at_ 0 rfl 1 _ rfl
          have cB2 : w1.cell? ⟨B, 2, none⟩ = some (.int .i64 (y.p)) := HQ1.out.at_ 0 rfl 2 _ rfl
          have cB3 : w1.cell? ⟨B, 3, none⟩ = some (.int .i64 (y.r)) := HQ1.out.at_ 0 rfl 3 _ rfl
          have cB4 : w1.cell? ⟨B, 4, none⟩ = some (.int .i64 (y.g)) := HQ1.out.at_ 0 rfl 4 _ rfl
          have cB5 : w1.cell? ⟨B, 5, none⟩ = some (.int .i64 (y.c)) := HQ1.out.at_ 0 rfl 5 _ rfl
          have cB6 : w1.cell? ⟨B, 6, none⟩ = some (.int .i64 (y.mn)) := HQ1.out.at_ 0 rfl 6 _ rfl
          have cB7 : w1.cell? ⟨B, 7, none⟩ = some (.int .i64 (y.mx)) := HQ1.out.at_ 0 rfl 7 _ rfl
          have cB8 : w1.cell? ⟨B, 8, none⟩ = some (.int .i64 (y.s)) := HQ1.out.at_ 0 rfl 8 _ rfl
          have cB9 : w1.cell? ⟨B, 9, none⟩ = some (.int .i64 (y.n)) := HQ1.out.at_ 0 rfl 9 _ rfl
          have cA0 : w1.cell? ⟨A, 0, none⟩ = some (.int .i64 (x.id)) := HQ1.out.at_ 1 rfl 0 _ rfl
          have cA1 : w1.cell? ⟨A, 1, none⟩ = some (.int .i64 (x.q)) := HQ1.out.at_ 1 rfl 1 _ rfl
          have cA2 : w1.cell? ⟨A, 2, none⟩ = some (.int .i64 (x.p)) := HQ1.out.at_ 1 rfl 2 _ rfl
          have cA3 : w1.cell? ⟨A, 3, none⟩ = some (.int .i64 (x.r)) := HQ1.out.at_ 1 rfl 3 _ rfl
          have cA4 : w1.cell? ⟨A, 4, none⟩ = some (.int .i64 (x.g)) := HQ1.out.at_ 1 rfl 4 _ rfl
          have cA5 : w1.cell? ⟨A, 5, none⟩ = some (.int .i64 (x.c)) := HQ1.out.at_ 1 rfl 5 _ rfl
          have cA6 : w1.cell? ⟨A, 6, none⟩ = some (.int .i64 (x.mn)) := HQ1.out.at_ 1 rfl 6 _ rfl
          have cA7 : w1.cell? ⟨A, 7, none⟩ = some (.int .i64 (x.mx)) := HQ1.out.at_ 1 rfl 7 _ rfl
          have cA8 : w1.cell? ⟨A, 8, none⟩ = some (.int .i64 (x.s)) := HQ1.out.at_ 1 rfl 8 _ rfl
          have cA9 : w1.cell? ⟨A, 9, none⟩ = some (.int .i64 (x.n)) := HQ1.out.at_ 1 rfl 9 _ rfl
          go_wp2_with fail
          refine (S1.out _).mono ?_
          rintro e w2 ⟨rfl, hb2⟩
          have HQ2 := Lib.hid (HQ1.out.keep hb2)
          clear hb2
          clear HQ1
          clear cB0 cB1 cB2 cB3 cB4 cB5 cB6 cB7 cB8 cB9 cA0 cA1 cA2 cA3 cA4 cA5 cA6 cA7 cA8 cA9
          have cB0 : w2.cell? ⟨B, 0, none⟩ = some (.int .i64 (y.id)) := HQ2.out.at_ 0 rfl 0 _ rfl
          have cB1 : w2.cell? ⟨B, 1, none⟩ = some (.int .i64 (y.q)) := HQ2.out.at_ 0 rfl 1 _ rfl
          have cB2 : w2.cell? ⟨B, 2, none⟩ = some (.int .i64 (y.p)) := HQ2.out.at_ 0 rfl 2 _ rfl
          have cB3 : w2.cell? ⟨B, 3, none⟩ = some (.int .i64 (y.r)) := HQ2.out.at_ 0 rfl 3 _ rfl
          have cB4 : w2.cell? ⟨B, 4, none⟩ = some (.int .i64 (y.g)) := HQ2.out.at_ 0 rfl 4 _ rfl
          have cB5 : w2.cell? ⟨B, 5, none⟩ = some (.int .i64 (y.c)) := HQ2.out.at_ 0 rfl 5 _ rfl
          have cB6 : w2.cell? ⟨B, 6, none⟩ = some (.int .i64 (y.mn)) := HQ2.out.at_ 0 rfl 6 _ rfl
          have cB7 : w2.cell? ⟨B, 7, none⟩ = some (.int .i64 (y.mx)) := HQ2.out.at_ 0 rfl 7 _ rfl
          have cB8 : w2.cell? ⟨B, 8, none⟩ = some (.int .i64 (y.s)) := HQ2.out.at_ 0 rfl 8 _ rfl
          have cB9 : w2.cell? ⟨B, 9, none⟩ = some (.int .i64 (y.n)) := HQ2.out.at_ 0 rfl 9 _ rfl
          have cA0 : w2.cell? ⟨A, 0, none⟩ = some (.int .i64 (x.id)) := HQ2.out.at_ 1 rfl 0 _ rfl
          have cA1 : w2.cell? ⟨A, 1, none⟩ = some (.int .i64 (x.q)) := HQ2.out.at_ 1 rfl 1 _ rfl
          have cA2 : w2.cell? ⟨A, 2, none⟩ = some (.int .i64 (x.p)) := HQ2.out.at_ 1 rfl 2 _ rfl
          have cA3 : w2.cell? ⟨A, 3, none⟩ = some (.int .i64 (x.r)) := HQ2.out.at_ 1 rfl 3 _ rfl
          have cA4 : w2.cell? ⟨A, 4, none⟩ = some (.int .i64 (x.g)) := HQ2.out.at_ 1 rfl 4 _ rfl
          have cA5 : w2.cell? ⟨A, 5, none⟩ = some (.int .i64 (x.c)) := HQ2.out.at_ 1 rfl 5 _ rfl
          have cA6 : w2.cell? ⟨A, 6, none⟩ = some (.int .i64 (x.mn)) := HQ2.out.at_ 1 rfl 6 _ rfl
          have cA7 : w2.cell? ⟨A, 7, none⟩ = some (.int .i64 (x.mx)) := HQ2.out.at_ 1 rfl 7 _ rfl
          have cA8 : w2.cell? ⟨A, 8, none⟩ = some (.int .i64 (x.s)) := HQ2.out.at_ 1 rfl 8 _ rfl
          have cA9 : w2.cell? ⟨A, 9, none⟩ = some (.int .i64 (x.n)) := HQ2.out.at_ 1 rfl 9 _ rfl
          go_wp2_with fail
          refine (A1.out _).mono ?_
          rintro e w3 ⟨rfl, hb3⟩
          have HQ3 := Lib.hid (HQ2.out.keep hb3)
          clear hb3
          clear HQ2
          clear cB0 cB1 cB2 cB3 cB4 cB5 cB6 cB7 cB8 cB9 cA0 cA1 cA2 cA3 cA4 cA5 cA6 cA7 cA8 cA9
          have cB0 : w3.cell? ⟨B, 0, none⟩ = some (.int .i64 (y.id)) := HQ3.out.at_ 0 rfl 0 _ rfl
          have cB1 : w3.cell? ⟨B, 1, none⟩ = some (.int .i64 (y.q)) := HQ3.out.at_ 0 rfl 1 _ rfl
          have cB2 : w3.cell? ⟨B, 2, none⟩ = some (.int .i64 (y.p)) := HQ3.out.at_ 0 rfl 2 _ rfl
          have cB3 : w3.cell? ⟨B, 3, none⟩ = some (.int .i64 (y.r)) := HQ3.out.at_ 0 rfl 3 _ rfl
          have cB4 : w3.cell? ⟨B, 4, none⟩ = some (.int .i64 (y.g)) := HQ3.out.at_ 0 rfl 4 _ rfl
          have cB5 : w3.cell? ⟨B, 5, none⟩ = some (.int .i64 (y.c)) := HQ3.out.at_ 0 rfl 5 _ rfl
          have cB6 : w3.cell? ⟨B, 6, none⟩ = some (.int .i64 (y.mn)) := HQ3.out.at_ 0 rfl 6 _ rfl
          have cB7 : w3.cell? ⟨B, 7, none⟩ = some (.int .i64 (y.mx)) := HQ3.out.at_ 0 rfl 7 _ rfl
          have cB8 : w3.cell? ⟨B, 8, none⟩ = some (.int .i64 (y.s)) := HQ3.out.at_ 0 rfl 8 _ rfl
          have cB9 : w3.cell? ⟨B, 9, none⟩ = some (.int .i64 (y.n)) := HQ3.out.at_ 0 rfl 9 _ rfl
          have cA0 : w3.cell? ⟨A, 0, none⟩ = some (.int .i64 (x.id)) := HQ3.out.at_ 1 rfl 0 _ rfl
          have cA1 : w3.cell? ⟨A, 1, none⟩ = some (.int .i64 (x.q)) := HQ3.out.at_ 1 rfl 1 _ rfl
          have cA2 : w3.cell? ⟨A, 2, none⟩ = some (.int .i64 (x.p)) := HQ3.out.at_ 1 rfl 2 _ rfl
          have cA3 : w3.cell? ⟨A, 3, none⟩ = some (.int .i64 (x.r)) := HQ3.out.at_ 1 rfl 3 _ rfl
          have cA4 : w3.cell? ⟨A, 4, none⟩ = some (.int .i64 (x.g)) := HQ3.out.at_ 1 rfl 4 _ rfl
          have cA5 : w3.cell? ⟨A, 5, none⟩ = some (.int .i64 (x.c)) := HQ3.out.at_ 1 rfl 5 _ rfl
          have cA6 : w3.cell? ⟨A, 6, none⟩ = some (.int .i64 (x.mn)) := HQ3.out.at_ 1 rfl 6 _ rfl
          have cA7 : w3.cell? ⟨A, 7, none⟩ = some (.int .i64 (x.mx)) := HQ3.out.at_ 1 rfl 7 _ rfl
          have cA8 : w3.cell? ⟨A, 8, none⟩ = some (.int .i64 (x.s)) := HQ3.out.at_ 1 rfl 8 _ rfl
          have cA9 : w3.cell? ⟨A, 9, none⟩ = some (.int .i64 (x.n)) := HQ3.out.at_ 1 rfl 9 _ rfl
          go_wp2
          go_ret
          exact ⟨by first | rfl | (simp; done), HQ3.out.b⟩

set_option maxRecDepth 100000 in
set_option maxHeartbeats 1000000 in
theorem lifted (os : Os) (started : os.Started) (H : Type) (enc : TypeId × Value → H) :
    ReturnsInHanded {} Try.checked os 6 .any (Rows.orderAgesSpec.pre6 enc Try.prog Try.f6 Rows.orderAgesRow.domain false) (Rows.orderAgesSpec.post enc Try.prog Try.f6 false true false false) := by
  refine returnsInHanded_of_change (C := Try.checked) own started (by kernel_rfl) Try.func6
    (ChangeSpec.witness6 (enc := enc) (C := Try.checked) false ⟨#[], #[.agg #[.int .i64 0, .int .i64 0, .int .i64 0, .int .i64 0, .int .i64 0, .int .i64 0, .int .i64 0, .int .i64 0, .int .i64 0, .int .i64 0], .agg #[.int .i64 0, .int .i64 0, .int .i64 0, .int .i64 0, .int .i64 0, .int .i64 0, .int .i64 0, .int .i64 0, .int .i64 0, .int .i64 0], .int .u16 0, .int .u16 0, .int .i64 0], []⟩ 8 (by kernel_rfl) (by kernel_rfl) (by kernel_rfl) (by kernel_rfl)) ?_
  intro W base args ds gs before hval0 hW _ _
  have hval : ∀ (j : Nat) t v, Try.f6.params[j]? = some t → args[j]? = some v → Value.okWide Try.prog W .any base t v := hval0
  have hW' := hW
  obtain ⟨p, q, hA0, hV, rfl, hfz, hnd⟩ := hW
  have hA : DataW.TrodAll enc Try.prog W 0 (fun _ => true) true Try.f6.params.toList args.toList ds p := hA0
  rw [Try.params6] at hA hval
  obtain ⟨v0, vs0, d0, ds0, p0, q0, hargs, rfl, rfl, h0, r0⟩ := trodAll_cons hA
  obtain ⟨v1, vs1, d1, ds1, p1, q1, rfl, rfl, rfl, h1, r1⟩ := trodAll_cons r0
  obtain ⟨v2, vs2, d2, ds2, p2, q2, rfl, rfl, rfl, h2, r2⟩ := trodAll_cons r1
  obtain ⟨v3, vs3, d3, ds3, p3, q3, rfl, rfl, rfl, h3, r3⟩ := trodAll_cons r2
  obtain ⟨v4, vs4, d4, ds4, p4, q4, rfl, rfl, rfl, h4, r4⟩ := trodAll_cons r3
  obtain ⟨rfl, rfl, rfl⟩ := trodAll_nil r4
  obtain rfl : args = #[v0, v1, v2, v3, v4] := by cases args; simp_all
  obtain ⟨rfl, rfl⟩ := trodVars_none hV
  have k0 := h0
  have lt0 : ∀ x ∈ p0, x.block < W.heap.size := by obtain ⟨m, hm⟩ := k0; exact DataW.trod_lt m _ _ _ hm
  obtain ⟨x0, rfl, w0⟩ := wt_of (hval 0 27 v0 rfl rfl) h0
  have k1 := h1
  have lt1 : ∀ x ∈ p1, x.block < W.heap.size := by obtain ⟨m, hm⟩ := k1; exact DataW.trod_lt m _ _ _ hm
  obtain ⟨x1, rfl, w1⟩ := wt_of (hval 1 27 v1 rfl rfl) h1
  have k2 := h2
  have lt2 : ∀ x ∈ p2, x.block < W.heap.size := by obtain ⟨m, hm⟩ := k2; exact DataW.trod_lt m _ _ _ hm
  obtain ⟨a2, rfl, _, _, w2⟩ := open_int Try.underlying45 (hval 2 45 v2 rfl rfl) h2
  have k3 := h3
  have lt3 : ∀ x ∈ p3, x.block < W.heap.size := by obtain ⟨m, hm⟩ := k3; exact DataW.trod_lt m _ _ _ hm
  obtain ⟨a3, rfl, _, _, w3⟩ := open_int Try.underlying45 (hval 3 45 v3 rfl rfl) h3
  have k4 := h4
  have lt4 : ∀ x ∈ p4, x.block < W.heap.size := by obtain ⟨m, hm⟩ := k4; exact DataW.trod_lt m _ _ _ hm
  obtain ⟨a4, rfl, _, _, w4⟩ := open_int Try.underlying3 (hval 4 3 v4 rfl rfl) h4
  clear hA0 hval0
  refine (walk x0 x1 a2 a3 a4 W w0 w1 w2 w3 w4).mono fun e W' ⟨he, bel⟩ => ?_
  subst he
  exact ⟨_, rfl, _, _, _, [], _, [], hW', trodAll_mk1 (shut_bool Try.underlying4 _), (trodAll_cons_mk (Below.trod laidOut (by kernel_rfl) (of_decide_eq_true (by kernel_rfl)) k0 bel lt0) (trodAll_cons_mk (Below.trod laidOut (by kernel_rfl) (of_decide_eq_true (by kernel_rfl)) k1 bel lt1) (trodAll_cons_mk (Below.trod laidOut (by kernel_rfl) (of_decide_eq_true (by kernel_rfl)) k2 bel lt2) (trodAll_cons_mk (Below.trod laidOut (by kernel_rfl) (of_decide_eq_true (by kernel_rfl)) k3 bel lt3) (trodAll_cons_mk (Below.trod laidOut (by kernel_rfl) (of_decide_eq_true (by kernel_rfl)) k4 bel lt4) trodAll_mk0))))), rfl, bel.frame _, fun h => by cases h⟩

/-- THE STATEMENT. -/
theorem holds : Rows.OrderAgesSaid :=
  OpenClaim.holds_of_wide 6 Try.f6 rfl rfl rfl rfl rfl rfl rfl ⟨rfl, rfl, rfl, rfl, rfl⟩ rfl rfl rfl rfl rfl (by kernel_rfl) Try.func6 (by kernel_rfl)
    (of_decide_eq_true (by kernel_rfl)) (by unfold Func.isWrapper; first | (rw [if_pos (by decide +kernel)]; kernel_rfl) | (rw [if_neg (by decide +kernel)]; exact ⟨rfl, rfl⟩))
    (fun os started H enc _ => lifted os started H enc)
end Go.Proofs.Ytbknkfpgejkmoaa.orderAges
