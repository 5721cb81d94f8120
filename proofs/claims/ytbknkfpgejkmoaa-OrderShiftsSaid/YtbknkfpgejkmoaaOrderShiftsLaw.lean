/- The order of two is the same a whole step of age later, a rank one more then; both come and asked later by so many ticks, all is as it was: the law OrderShifts answers true, at every input. -/
import Derived.Test.YtbknkfpgejkmoaaFrame
import Derived.Test.YtbknkfpgejkmoaaOrdIn
import Derived.Test.YtbknkfpgejkmoaaOrdAwake
set_option linter.unusedVariables false
namespace Go.Proofs.Ytbknkfpgejkmoaa.orderShifts
open Go Go.ChangeShapes Go.WideShapes Go.ChangeAt Go.RowKit
theorem bx_drew {w0 w : World} {L : List (Nat × Wt)} (h : Bx w0 w L) : Bx w0 w.drew L := ⟨h.b.drew, h.c⟩
theorem rank_small {x : Wt} {now age : Int} (h1 : 0 ≤ now) (h2 : now ≤ 1073741825) (h3 : 1 ≤ age) (hx : mayW x = true) : -2147483649 ≤ rankF x now age ∧ rankF x now age ≤ 2147483664 := by
  obtain ⟨p1, p2, p3, p4⟩ := mayW_iff.1 hx
  obtain ⟨f1, f2, f3⟩ := floor_parts (now - x.s) age h3
  unfold rankF
  rcases Int.lt_or_le ((now - x.s).tmod age) 0 with h | h
  · rw [f1 h]; omega
  · rw [f2 h]; omega
theorem rank_whole {x : Wt} {now age : Int} (h3 : 1 ≤ age) : rankF x (now + age) age = rankF x now age + 1 := by
  unfold rankF
  rw [show now + age - x.s = now - x.s + 1 * age by omega, Int.add_mul_ediv_right _ _ (by omega)]
  omega
theorem ahead_whole {x y : Wt} {now age : Int} (h3 : 1 ≤ age) : aheadF (now + age) age x y = aheadF now age x y := by
  unfold aheadF
  rw [rank_whole h3, rank_whole h3, decide_eq_decide]
  omega
theorem rank_by (x : Wt) (now age d : Int) : rankF ⟨x.id, x.q, x.p, x.r, x.g, x.c, x.mn, x.mx, x.s + d, x.n⟩ (now + d) age = rankF x now age := by
  unfold rankF
  simp only
  rw [show now + d - (x.s + d) = now - x.s by omega]
theorem ahead_by (x y : Wt) (now age d : Int) : aheadF (now + d) age ⟨x.id, x.q, x.p, x.r, x.g, x.c, x.mn, x.mx, x.s + d, x.n⟩ ⟨y.id, y.q, y.p, y.r, y.g, y.c, y.mn, y.mx, y.s + d, y.n⟩ = aheadF now age x y := by
  unfold aheadF
  rw [rank_by, rank_by]
set_option maxRecDepth 100000 in
set_option maxHeartbeats 4000000 in
theorem walk (x y : Wt) (now age d : Int) (w : World) (wx : WtW x) (wy : WtW y) (wn : (Lit.int .i64 now).wf = true) (wa : (Lit.int .i64 age).wf = true) (wd : (Lit.int .u8 d).wf = true) :
    Calls Try.prog 9 #[wtV x, wtV y, .int .i64 now, .int .i64 age, .int .u8 d] w fun e w' => e = .returned (.bool true) ∧ Below w.heap.size w w' := by
  obtain ⟨bd1, bd2⟩ := bounds_u8 wd
  have AW := Lib.hid (fun W => awake_o W)
  have A1 := fun W => pahead_any x y now age W
  have R1 := fun W => prank_any x now age W
  obtain ⟨ah, hah⟩ : ∃ r, r = aheadF now age x y := ⟨_, rfl⟩
  obtain ⟨rk, hrk⟩ : ∃ r, r = rankF x now age := ⟨_, rfl⟩
  rw [← hah] at A1
  rw [← hrk] at R1
  clear wx wy wn wa wd
  have HQ0 := Lib.hid (((Bx.nil w).box x).box y)
  simp only [World.size_alloc] at HQ0
  cases hV : (mayA now age && (mayW x && mayW y))
  · rw [hV] at A1
    obtain ⟨v3, hv3⟩ : ∃ r : Int, r = (if mayA now age && mayW x then rk else 0) := ⟨_, rfl⟩
    obtain ⟨n3, hn3⟩ : ∃ r : Int, r = (if mayA now age && mayW x then 0 else 1) := ⟨_, rfl⟩
    rw [← hv3, ← hn3] at R1
    clear hV hah hrk hv3 hn3
    simp only [Bool.false_and, Bool.false_eq_true, if_false, wtV, wtA, wtO] at A1 R1 HQ0 ⊢
    have A1 := Lib.hid A1
    have R1 := Lib.hid R1
    go_enter Try.func9, Try.ntmps9
    go_wp2_with fail
    refine (AW.out _).mono ?_
    rintro e w1 ⟨rfl, hb1⟩
    have HQ1 := Lib.hid (HQ0.out.keep hb1)
    clear hb1
    obtain ⟨B, eB⟩ : ∃ q, q = w.heap.size + 1 := ⟨_, rfl⟩
    rw [← eB]
    rw [← eB] at HQ1
    have HeB := Lib.hid eB
    clear eB
    obtain ⟨A, eA⟩ : ∃ q, q = w.heap.size := ⟨_, rfl⟩
    rw [← eA]
    rw [← eA] at HQ1
    have HeA := Lib.hid eA
    clear eA
    have cB0 : w1.cell? ⟨B, 0, none⟩ = some (.int .i64 (y.id)) := HQ1.out.at_ 0 rfl 0 _ rfl
    have cB1 : w1.cell? ⟨B, 1, none⟩ = some (.int .i64 (y.q)) := HQ1.out.at_ 0 rfl 1 _ rfl
    have cB2 : w1.cell? ⟨B, 2, none⟩ = some (.int .i64 (y.p)) := HQ1.out.at_ 0 rfl 2 _ rfl
    have cB3 : w1.cell? ⟨B, 3, none⟩ = some (.int .i64 (y.r)) := HQ1.out.at_ 0 rfl 3 _ rfl
    have cB4 : w1.cell? ⟨B, 4, none⟩ = some (.int .i64 (y.g)) := HQ1.out.at_ 0 rfl 4 _ rfl
    have cB5 : w1.cell? ⟨B, 5, none⟩ = some (.int .i64 (y.c)) := HQ1.out.at_ 0 rfl 5 _ rfl
    have cB6 : w1.cell? ⟨B, 6, none⟩ = some (.int .i64 (y.mn)) := HQ1.out.at_ 0 rfl 6 _ rfl
    have cB7 : w1.cell? ⟨B, 7, none⟩ = some (.int .i64 (y.mx)) := HQ1.out.at_ 0 rfl 7 _ rfl
    have cB8 : w1.cell? ⟨B, 8, none⟩ = some (.int .i64 (y.s)) := HQ1.out.at_ 0 rfl 8 _ rfl
    have cB9 : w1.cell? ⟨B, 9, none⟩ = some (.int .i64 (y.n)) := HQ1.out.at_ 0 rfl 9 _ rfl
    have cA0 : w1.cell? ⟨A, 0, none⟩ = some (.int .i64 (x.id)) := HQ1.out.at_ 1 rfl 0 _ rfl
    have cA1 : w1.cell? ⟨A, 1, none⟩ = some (.int .i64 (x.q)) := HQ1.out.at_ 1 rfl 1 _ rfl
    have cA2 : w1.cell? ⟨A, 2, none⟩ = some (.int .i64 (x.p)) := HQ1.out.at_ 1 rfl 2 _ rfl
    have cA3 : w1.cell? ⟨A, 3, none⟩ = some (.int .i64 (x.r)) := HQ1.out.at_ 1 rfl 3 _ rfl
    have cA4 : w1.cell? ⟨A, 4, none⟩ = some (.int .i64 (x.g)) := HQ1.out.at_ 1 rfl 4 _ rfl
    have cA5 : w1.cell? ⟨A, 5, none⟩ = some (.int .i64 (x.c)) := HQ1.out.at_ 1 rfl 5 _ rfl
    have cA6 : w1.cell? ⟨A, 6, none⟩ = some (.int .i64 (x.mn)) := HQ1.out.at_ 1 rfl 6 _ rfl
    have cA7 : w1.cell? ⟨A, 7, none⟩ = some (.int .i64 (x.mx)) := HQ1.out.at_ 1 rfl 7 _ rfl
    have cA8 : w1.cell? ⟨A, 8, none⟩ = some (.int .i64 (x.s)) := HQ1.out.at_ 1 rfl 8 _ rfl
    have cA9 : w1.cell? ⟨A, 9, none⟩ = some (.int .i64 (x.n)) := HQ1.out.at_ 1 rfl 9 _ rfl
    go_wp2_with fail
    refine (A1.out _).mono ?_
    rintro e w2 ⟨rfl, hb2⟩
    have HQ2 := Lib.hid (HQ1.out.keep hb2)
    clear hb2
    clear HQ1
    clear cB0 cB1 cB2 cB3 cB4 cB5 cB6 cB7 cB8 cB9 cA0 cA1 cA2 cA3 cA4 cA5 cA6 cA7 cA8 cA9
    have cB0 : w2.cell? ⟨B, 0, none⟩ = some (.int .i64 (y.id)) := HQ2.out.at_ 0 rfl 0 _ rfl
    have cB1 : w2.cell? ⟨B, 1, none⟩ = some (.int .i64 (y.q)) := HQ2.out.at_ 0 rfl 1 _ rfl
    have cB2 : w2.cell? ⟨B, 2, none⟩ = some (.int .i64 (y.p)) := HQ2.out.at_ 0 rfl 2 _ rfl
    have cB3 : w2.cell? ⟨B, 3, none⟩ = some (.int .i64 (y.r)) := HQ2.out.at_ 0 rfl 3 _ rfl
    have cB4 : w2.cell? ⟨B, 4, none⟩ = some (.int .i64 (y.g)) := HQ2.out.at_ 0 rfl 4 _ rfl
    have cB5 : w2.cell? ⟨B, 5, none⟩ = some (.int .i64 (y.c)) := HQ2.out.at_ 0 rfl 5 _ rfl
    have cB6 : w2.cell? ⟨B, 6, none⟩ = some (.int .i64 (y.mn)) := HQ2.out.at_ 0 rfl 6 _ rfl
    have cB7 : w2.cell? ⟨B, 7, none⟩ = some (.int .i64 (y.mx)) := HQ2.out.at_ 0 rfl 7 _ rfl
    have cB8 : w2.cell? ⟨B, 8, none⟩ = some (.int .i64 (y.s)) := HQ2.out.at_ 0 rfl 8 _ rfl
    have cB9 : w2.cell? ⟨B, 9, none⟩ = some (.int .i64 (y.n)) := HQ2.out.at_ 0 rfl 9 _ rfl
    have cA0 : w2.cell? ⟨A, 0, none⟩ = some (.int .i64 (x.id)) := HQ2.out.at_ 1 rfl 0 _ rfl
    have cA1 : w2.cell? ⟨A, 1, none⟩ = some (.int .i64 (x.q)) := HQ2.out.at_ 1 rfl 1 _ rfl
    have cA2 : w2.cell? ⟨A, 2, none⟩ = some (.int .i64 (x.p)) := HQ2.out.at_ 1 rfl 2 _ rfl
    have cA3 : w2.cell? ⟨A, 3, none⟩ = some (.int .i64 (x.r)) := HQ2.out.at_ 1 rfl 3 _ rfl
    have cA4 : w2.cell? ⟨A, 4, none⟩ = some (.int .i64 (x.g)) := HQ2.out.at_ 1 rfl 4 _ rfl
    have cA5 : w2.cell? ⟨A, 5, none⟩ = some (.int .i64 (x.c)) := HQ2.out.at_ 1 rfl 5 _ rfl
    have cA6 : w2.cell? ⟨A, 6, none⟩ = some (.int .i64 (x.mn)) := HQ2.out.at_ 1 rfl 6 _ rfl
    have cA7 : w2.cell? ⟨A, 7, none⟩ = some (.int .i64 (x.mx)) := HQ2.out.at_ 1 rfl 7 _ rfl
    have cA8 : w2.cell? ⟨A, 8, none⟩ = some (.int .i64 (x.s)) := HQ2.out.at_ 1 rfl 8 _ rfl
    have cA9 : w2.cell? ⟨A, 9, none⟩ = some (.int .i64 (x.n)) := HQ2.out.at_ 1 rfl 9 _ rfl
    go_wp2_with fail
    refine (R1.out _).mono ?_
    rintro e w3 ⟨rfl, hb3⟩
    have HQ3 := Lib.hid (HQ2.out.keep hb3)
    clear hb3
    clear HQ2
    clear cB0 cB1 cB2 cB3 cB4 cB5 cB6 cB7 cB8 cB9 cA0 cA1 cA2 cA3 cA4 cA5 cA6 cA7 cA8 cA9
    have cB0 : w3.cell? ⟨B, 0, none⟩ = some (.int .i64 (y.id)) := HQ3.out.at_ 0 rfl 0 _ rfl
    have cB1 : w3.cell? ⟨B, 1, none⟩ = some (.int .i64 (y.q)) := HQ3.out.at_ 0 rfl 1 _ rfl
    have cB2 : w3.cell? ⟨B, 2, none⟩ = some (.int .i64 (y.p)) := HQ3.out.at_ 0 rfl 2 _ rfl
    have cB3 : w3.cell? ⟨B, 3, none⟩ = some (.int .i64 (y.r)) := HQ3.out.at_ 0 rfl 3 _ rfl
    have cB4 : w3.cell? ⟨B, 4, none⟩ = some (.int .i64 (y.g)) := HQ3.out.at_ 0 rfl 4 _ rfl
    have cB5 : w3.cell? ⟨B, 5, none⟩ = some (.int .i64 (y.c)) := HQ3.out.at_ 0 rfl 5 _ rfl
    have cB6 : w3.cell? ⟨B, 6, none⟩ = some (.int .i64 (y.mn)) := HQ3.out.at_ 0 rfl 6 _ rfl
    have cB7 : w3.cell? ⟨B, 7, none⟩ = some (.int .i64 (y.mx)) := HQ3.out.at_ 0 rfl 7 _ rfl
    have cB8 : w3.cell? ⟨B, 8, none⟩ = some (.int .i64 (y.s)) := HQ3.out.at_ 0 rfl 8 _ rfl
    have cB9 : w3.cell? ⟨B, 9, none⟩ = some (.int .i64 (y.n)) := HQ3.out.at_ 0 rfl 9 _ rfl
    have cA0 : w3.cell? ⟨A, 0, none⟩ = some (.int .i64 (x.id)) := HQ3.out.at_ 1 rfl 0 _ rfl
    have cA1 : w3.cell? ⟨A, 1, none⟩ = some (.int .i64 (x.q)) := HQ3.out.at_ 1 rfl 1 _ rfl
    have cA2 : w3.cell? ⟨A, 2, none⟩ = some (.int .i64 (x.p)) := HQ3.out.at_ 1 rfl 2 _ rfl
    have cA3 : w3.cell? ⟨A, 3, none⟩ = some (.int .i64 (x.r)) := HQ3.out.at_ 1 rfl 3 _ rfl
    have cA4 : w3.cell? ⟨A, 4, none⟩ = some (.int .i64 (x.g)) := HQ3.out.at_ 1 rfl 4 _ rfl
    have cA5 : w3.cell? ⟨A, 5, none⟩ = some (.int .i64 (x.c)) := HQ3.out.at_ 1 rfl 5 _ rfl
    have cA6 : w3.cell? ⟨A, 6, none⟩ = some (.int .i64 (x.mn)) := HQ3.out.at_ 1 rfl 6 _ rfl
    have cA7 : w3.cell? ⟨A, 7, none⟩ = some (.int .i64 (x.mx)) := HQ3.out.at_ 1 rfl 7 _ rfl
    have cA8 : w3.cell? ⟨A, 8, none⟩ = some (.int .i64 (x.s)) := HQ3.out.at_ 1 rfl 8 _ rfl
    have cA9 : w3.cell? ⟨A, 9, none⟩ = some (.int .i64 (x.n)) := HQ3.out.at_ 1 rfl 9 _ rfl
    go_wp2
    go_ret
    exact ⟨by first | rfl | (simp; done), HQ3.out.b⟩
  · obtain ⟨hT, hX, hY⟩ : mayA now age = true ∧ mayW x = true ∧ mayW y = true := by simpa using hV
    rw [hV] at A1
    rw [hT, hX] at R1
    obtain ⟨u1, u2, g1, g2⟩ := mayA_iff.1 hT
    obtain ⟨x1, x2, x3, x4⟩ := mayW_iff.1 hX
    obtain ⟨y1, y2, y3, y4⟩ := mayW_iff.1 hY
    obtain ⟨rs1, rs2⟩ := rank_small (x := x) (now := now) (age := age) u1 (by omega) g1 hX
    rw [← hrk] at rs1 rs2
    simp only [Bool.true_and, if_true, wtV, wtA, wtO] at A1 R1 HQ0 ⊢
    have A1 := Lib.hid A1
    have R1 := Lib.hid R1
    by_cases s1 : 1000000 < now
    · have t1 : decide (1000000 < now) = true := decide_eq_true s1
      clear hah hrk hV hT hX hY
      go_enter Try.func9, Try.ntmps9
      go_wp2_with fail
      refine (AW.out _).mono ?_
      rintro e w1 ⟨rfl, hb1⟩
      have HQ1 := Lib.hid (HQ0.out.keep hb1)
      clear hb1
      obtain ⟨B, eB⟩ : ∃ q, q = w.heap.size + 1 := ⟨_, rfl⟩
      rw [← eB]
      rw [← eB] at HQ1
      have HeB := Lib.hid eB
      clear eB
      obtain ⟨A, eA⟩ : ∃ q, q = w.heap.size := ⟨_, rfl⟩
      rw [← eA]
      rw [← eA] at HQ1
      have HeA := Lib.hid eA
      clear eA
      have cB0 : w1.cell? ⟨B, 0, none⟩ = some (.int .i64 (y.id)) := HQ1.out.at_ 0 rfl 0 _ rfl
      have cB1 : w1.cell? ⟨B, 1, none⟩ = some (.int .i64 (y.q)) := HQ1.out.at_ 0 rfl 1 _ rfl
      have cB2 : w1.cell? ⟨B, 2, none⟩ = some (.int .i64 (y.p)) := HQ1.out.at_ 0 rfl 2 _ rfl
      have cB3 : w1.cell? ⟨B, 3, none⟩ = some (.int .i64 (y.r)) := HQ1.out.at_ 0 rfl 3 _ rfl
      have cB4 : w1.cell? ⟨B, 4, none⟩ = some (.int .i64 (y.g)) := HQ1.out.at_ 0 rfl 4 _ rfl
      have cB5 : w1.cell? ⟨B, 5, none⟩ = some (.int .i64 (y.c)) := HQ1.out.at_ 0 rfl 5 _ rfl
      have cB6 : w1.cell? ⟨B, 6, none⟩ = some (.int .i64 (y.mn)) := HQ1.out.at_ 0 rfl 6 _ rfl
      have cB7 : w1.cell? ⟨B, 7, none⟩ = some (.int .i64 (y.mx)) := HQ1.out.at_ 0 rfl 7 _ rfl
      have cB8 : w1.cell? ⟨B, 8, none⟩ = some (.int .i64 (y.s)) := HQ1.out.at_ 0 rfl 8 _ rfl
      have cB9 : w1.cell? ⟨B, 9, none⟩ = some (.int .i64 (y.n)) := HQ1.out.at_ 0 rfl 9 _ rfl
      have cA0 : w1.cell? ⟨A, 0, none⟩ = some (.int .i64 (x.id)) := HQ1.out.at_ 1 rfl 0 _ rfl
      have cA1 : w1.cell? ⟨A, 1, none⟩ = some (.int .i64 (x.q)) := HQ1.out.at_ 1 rfl 1 _ rfl
      have cA2 : w1.cell? ⟨A, 2, none⟩ = some (.int .i64 (x.p)) := HQ1.out.at_ 1 rfl 2 _ rfl
      have cA3 : w1.cell? ⟨A, 3, none⟩ = some (.int .i64 (x.r)) := HQ1.out.at_ 1 rfl 3 _ rfl
      have cA4 : w1.cell? ⟨A, 4, none⟩ = some (.int .i64 (x.g)) := HQ1.out.at_ 1 rfl 4 _ rfl
      have cA5 : w1.cell? ⟨A, 5, none⟩ = some (.int .i64 (x.c)) := HQ1.out.at_ 1 rfl 5 _ rfl
      have cA6 : w1.cell? ⟨A, 6, none⟩ = some (.int .i64 (x.mn)) := HQ1.out.at_ 1 rfl 6 _ rfl
      have cA7 : w1.cell? ⟨A, 7, none⟩ = some (.int .i64 (x.mx)) := HQ1.out.at_ 1 rfl 7 _ rfl
      have cA8 : w1.cell? ⟨A, 8, none⟩ = some (.int .i64 (x.s)) := HQ1.out.at_ 1 rfl 8 _ rfl
      have cA9 : w1.cell? ⟨A, 9, none⟩ = some (.int .i64 (x.n)) := HQ1.out.at_ 1 rfl 9 _ rfl
      go_wp2_with fail
      refine (A1.out _).mono ?_
      rintro e w2 ⟨rfl, hb2⟩
      have HQ2 := Lib.hid (HQ1.out.keep hb2)
      clear hb2
      clear HQ1
      clear cB0 cB1 cB2 cB3 cB4 cB5 cB6 cB7 cB8 cB9 cA0 cA1 cA2 cA3 cA4 cA5 cA6 cA7 cA8 cA9
      have cB0 : w2.cell? ⟨B, 0, none⟩ = some (.int .i64 (y.id)) := HQ2.out.at_ 0 rfl 0 _ rfl
      have cB1 : w2.cell? ⟨B, 1, none⟩ = some (.int .i64 (y.q)) := HQ2.out.at_ 0 rfl 1 _ rfl
      have cB2 : w2.cell? ⟨B, 2, none⟩ = some (.int .i64 (y.p)) := HQ2.out.at_ 0 rfl 2 _ rfl
      have cB3 : w2.cell? ⟨B, 3, none⟩ = some (.int .i64 (y.r)) := HQ2.out.at_ 0 rfl 3 _ rfl
      have cB4 : w2.cell? ⟨B, 4, none⟩ = some (.int .i64 (y.g)) := HQ2.out.at_ 0 rfl 4 _ rfl
      have cB5 : w2.cell? ⟨B, 5, none⟩ = some (.int .i64 (y.c)) := HQ2.out.at_ 0 rfl 5 _ rfl
      have cB6 : w2.cell? ⟨B, 6, none⟩ = some (.int .i64 (y.mn)) := HQ2.out.at_ 0 rfl 6 _ rfl
      have cB7 : w2.cell? ⟨B, 7, none⟩ = some (.int .i64 (y.mx)) := HQ2.out.at_ 0 rfl 7 _ rfl
      have cB8 : w2.cell? ⟨B, 8, none⟩ = some (.int .i64 (y.s)) := HQ2.out.at_ 0 rfl 8 _ rfl
      have cB9 : w2.cell? ⟨B, 9, none⟩ = some (.int .i64 (y.n)) := HQ2.out.at_ 0 rfl 9 _ rfl
      have cA0 : w2.cell? ⟨A, 0, none⟩ = some (.int .i64 (x.id)) := HQ2.out.at_ 1 rfl 0 _ rfl
      have cA1 : w2.cell? ⟨A, 1, none⟩ = some (.int .i64 (x.q)) := HQ2.out.at_ 1 rfl 1 _ rfl
      have cA2 : w2.cell? ⟨A, 2, none⟩ = some (.int .i64 (x.p)) := HQ2.out.at_ 1 rfl 2 _ rfl
      have cA3 : w2.cell? ⟨A, 3, none⟩ = some (.int .i64 (x.r)) := HQ2.out.at_ 1 rfl 3 _ rfl
      have cA4 : w2.cell? ⟨A, 4, none⟩ = some (.int .i64 (x.g)) := HQ2.out.at_ 1 rfl 4 _ rfl
      have cA5 : w2.cell? ⟨A, 5, none⟩ = some (.int .i64 (x.c)) := HQ2.out.at_ 1 rfl 5 _ rfl
      have cA6 : w2.cell? ⟨A, 6, none⟩ = some (.int .i64 (x.mn)) := HQ2.out.at_ 1 rfl 6 _ rfl
      have cA7 : w2.cell? ⟨A, 7, none⟩ = some (.int .i64 (x.mx)) := HQ2.out.at_ 1 rfl 7 _ rfl
      have cA8 : w2.cell? ⟨A, 8, none⟩ = some (.int .i64 (x.s)) := HQ2.out.at_ 1 rfl 8 _ rfl
      have cA9 : w2.cell? ⟨A, 9, none⟩ = some (.int .i64 (x.n)) := HQ2.out.at_ 1 rfl 9 _ rfl
      go_wp2_with fail
      refine (R1.out _).mono ?_
      rintro e w3 ⟨rfl, hb3⟩
      have HQ3 := Lib.hid (HQ2.out.keep hb3)
      clear hb3
      clear HQ2
      clear cB0 cB1 cB2 cB3 cB4 cB5 cB6 cB7 cB8 cB9 cA0 cA1 cA2 cA3 cA4 cA5 cA6 cA7 cA8 cA9
      have cB0 : w3.cell? ⟨B, 0, none⟩ = some (.int .i64 (y.id)) := HQ3.out.at_ 0 rfl 0 _ rfl
      have cB1 : w3.cell? ⟨B, 1, none⟩ = some (.int .i64 (y.q)) := HQ3.out.at_ 0 rfl 1 _ rfl
      have cB2 : w3.cell? ⟨B, 2, none⟩ = some (.int .i64 (y.p)) := HQ3.out.at_ 0 rfl 2 _ rfl
      have cB3 : w3.cell? ⟨B, 3, none⟩ = some (.int .i64 (y.r)) := HQ3.out.at_ 0 rfl 3 _ rfl
      have cB4 : w3.cell? ⟨B, 4, none⟩ = some (.int .i64 (y.g)) := HQ3.out.at_ 0 rfl 4 _ rfl
      have cB5 : w3.cell? ⟨B, 5, none⟩ = some (.int .i64 (y.c)) := HQ3.out.at_ 0 rfl 5 _ rfl
      have cB6 : w3.cell? ⟨B, 6, none⟩ = some (.int .i64 (y.mn)) := HQ3.out.at_ 0 rfl 6 _ rfl
      have cB7 : w3.cell? ⟨B, 7, none⟩ = some (.int .i64 (y.mx)) := HQ3.out.at_ 0 rfl 7 _ rfl
      have cB8 : w3.cell? ⟨B, 8, none⟩ = some (.int .i64 (y.s)) := HQ3.out.at_ 0 rfl 8 _ rfl
      have cB9 : w3.cell? ⟨B, 9, none⟩ = some (.int .i64 (y.n)) := HQ3.out.at_ 0 rfl 9 _ rfl
      have cA0 : w3.cell? ⟨A, 0, none⟩ = some (.int .i64 (x.id)) := HQ3.out.at_ 1 rfl 0 _ rfl
      have cA1 : w3.cell? ⟨A, 1, none⟩ = some (.int .i64 (x.q)) := HQ3.out.at_ 1 rfl 1 _ rfl
      have cA2 : w3.cell? ⟨A, 2, none⟩ = some (.int .i64 (x.p)) := HQ3.out.at_ 1 rfl 2 _ rfl
      have cA3 : w3.cell? ⟨A, 3, none⟩ = some (.int .i64 (x.r)) := HQ3.out.at_ 1 rfl 3 _ rfl
      have cA4 : w3.cell? ⟨A, 4, none⟩ = some (.int .i64 (x.g)) := HQ3.out.at_ 1 rfl 4 _ rfl
      have cA5 : w3.cell? ⟨A, 5, none⟩ = some (.int .i64 (x.c)) := HQ3.out.at_ 1 rfl 5 _ rfl
      have cA6 : w3.cell? ⟨A, 6, none⟩ = some (.int .i64 (x.mn)) := HQ3.out.at_ 1 rfl 6 _ rfl
      have cA7 : w3.cell? ⟨A, 7, none⟩ = some (.int .i64 (x.mx)) := HQ3.out.at_ 1 rfl 7 _ rfl
      have cA8 : w3.cell? ⟨A, 8, none⟩ = some (.int .i64 (x.s)) := HQ3.out.at_ 1 rfl 8 _ rfl
      have cA9 : w3.cell? ⟨A, 9, none⟩ = some (.int .i64 (x.n)) := HQ3.out.at_ 1 rfl 9 _ rfl
      go_wp2
      go_ret
      exact ⟨by first | rfl | (simp; done), HQ3.out.b⟩
    have t1 : decide (1000000 < now) = false := decide_eq_false s1
    by_cases s2 : 1000000 < x.s
    · have t2 : decide (1000000 < x.s) = true := decide_eq_true s2
      clear hah hrk hV hT hX hY
      go_enter Try.func9, Try.ntmps9
      go_wp2_with fail
      refine (AW.out _).mono ?_
      rintro e w1 ⟨rfl, hb1⟩
      have HQ1 := Lib.hid (HQ0.out.keep hb1)
      clear hb1
      obtain ⟨B, eB⟩ : ∃ q, q = w.heap.size + 1 := ⟨_, rfl⟩
      rw [← eB]
      rw [← eB] at HQ1
      have HeB := Lib.hid eB
      clear eB
      obtain ⟨A, eA⟩ : ∃ q, q = w.heap.size := ⟨_, rfl⟩
      rw [← eA]
      rw [← eA] at HQ1
      have HeA := Lib.hid eA
      clear eA
      have cB0 : w1.cell? ⟨B, 0, none⟩ = some (.int .i64 (y.id)) := HQ1.out.at_ 0 rfl 0 _ rfl
      have cB1 : w1.cell? ⟨B, 1, none⟩ = some (.int .i64 (y.q)) := HQ1.out.at_ 0 rfl 1 _ rfl
      have cB2 : w1.cell? ⟨B, 2, none⟩ = some (.int .i64 (y.p)) := HQ1.out.at_ 0 rfl 2 _ rfl
      have cB3 : w1.cell? ⟨B, 3, none⟩ = some (.int .i64 (y.r)) := HQ1.out.at_ 0 rfl 3 _ rfl
      have cB4 : w1.cell? ⟨B, 4, none⟩ = some (.int .i64 (y.g)) := HQ1.out.at_ 0 rfl 4 _ rfl
      have cB5 : w1.cell? ⟨B, 5, none⟩ = some (.int .i64 (y.c)) := HQ1.out.at_ 0 rfl 5 _ rfl
      have cB6 : w1.cell? ⟨B, 6, none⟩ = some (.int .i64 (y.mn)) := HQ1.out.at_ 0 rfl 6 _ rfl
      have cB7 : w1.cell? ⟨B, 7, none⟩ = some (.int .i64 (y.mx)) := HQ1.out.at_ 0 rfl 7 _ rfl
      have cB8 : w1.cell? ⟨B, 8, none⟩ = some (.int .i64 (y.s)) := HQ1.out.at_ 0 rfl 8 _ rfl
      have cB9 : w1.cell? ⟨B, 9, none⟩ = some (.int .i64 (y.n)) := HQ1.out.at_ 0 rfl 9 _ rfl
      have cA0 : w1.cell? ⟨A, 0, none⟩ = some (.int .i64 (x.id)) := HQ1.out.at_ 1 rfl 0 _ rfl
      have cA1 : w1.cell? ⟨A, 1, none⟩ = some (.int .i64 (x.q)) := HQ1.out.at_ 1 rfl 1 _ rfl
      have cA2 : w1.cell? ⟨A, 2, none⟩ = some (.int .i64 (x.p)) := HQ1.out.at_ 1 rfl 2 _ rfl
      have cA3 : w1.cell? ⟨A, 3, none⟩ = some (.int .i64 (x.r)) := HQ1.out.at_ 1 rfl 3 _ rfl
      have cA4 : w1.cell? ⟨A, 4, none⟩ = some (.int .i64 (x.g)) := HQ1.out.at_ 1 rfl 4 _ rfl
      have cA5 : w1.cell? ⟨A, 5, none⟩ = some (.int .i64 (x.c)) := HQ1.out.at_ 1 rfl 5 _ rfl
      have cA6 : w1.cell? ⟨A, 6, none⟩ = some (.int .i64 (x.mn)) := HQ1.out.at_ 1 rfl 6 _ rfl
      have cA7 : w1.cell? ⟨A, 7, none⟩ = some (.int .i64 (x.mx)) := HQ1.out.at_ 1 rfl 7 _ rfl
      have cA8 : w1.cell? ⟨A, 8, none⟩ = some (.int .i64 (x.s)) := HQ1.out.at_ 1 rfl 8 _ rfl
      have cA9 : w1.cell? ⟨A, 9, none⟩ = some (.int .i64 (x.n)) := HQ1.out.at_ 1 rfl 9 _ rfl
      go_wp2_with fail
      refine (A1.out _).mono ?_
      rintro e w2 ⟨rfl, hb2⟩
      have HQ2 := Lib.hid (HQ1.out.keep hb2)
      clear hb2
      clear HQ1
      clear cB0 cB1 cB2 cB3 cB4 cB5 cB6 cB7 cB8 cB9 cA0 cA1 cA2 cA3 cA4 cA5 cA6 cA7 cA8 cA9
      have cB0 : w2.cell? ⟨B, 0, none⟩ = some (.int .i64 (y.id)) := HQ2.out.at_ 0 rfl 0 _ rfl
      have cB1 : w2.cell? ⟨B, 1, none⟩ = some (.int .i64 (y.q)) := HQ2.out.at_ 0 rfl 1 _ rfl
      have cB2 : w2.cell? ⟨B, 2, none⟩ = some (.int .i64 (y.p)) := HQ2.out.at_ 0 rfl 2 _ rfl
      have cB3 : w2.cell? ⟨B, 3, none⟩ = some (.int .i64 (y.r)) := HQ2.out.at_ 0 rfl 3 _ rfl
      have cB4 : w2.cell? ⟨B, 4, none⟩ = some (.int .i64 (y.g)) := HQ2.out.at_ 0 rfl 4 _ rfl
      have cB5 : w2.cell? ⟨B, 5, none⟩ = some (.int .i64 (y.c)) := HQ2.out.at_ 0 rfl 5 _ rfl
      have cB6 : w2.cell? ⟨B, 6, none⟩ = some (.int .i64 (y.mn)) := HQ2.out.at_ 0 rfl 6 _ rfl
      have cB7 : w2.cell? ⟨B, 7, none⟩ = some (.int .i64 (y.mx)) := HQ2.out.at_ 0 rfl 7 _ rfl
      have cB8 : w2.cell? ⟨B, 8, none⟩ = some (.int .i64 (y.s)) := HQ2.out.at_ 0 rfl 8 _ rfl
      have cB9 : w2.cell? ⟨B, 9, none⟩ = some (.int .i64 (y.n)) := HQ2.out.at_ 0 rfl 9 _ rfl
      have cA0 : w2.cell? ⟨A, 0, none⟩ = some (.int .i64 (x.id)) := HQ2.out.at_ 1 rfl 0 _ rfl
      have cA1 : w2.cell? ⟨A, 1, none⟩ = some (.int .i64 (x.q)) := HQ2.out.at_ 1 rfl 1 _ rfl
      have cA2 : w2.cell? ⟨A, 2, none⟩ = some (.int .i64 (x.p)) := HQ2.out.at_ 1 rfl 2 _ rfl
      have cA3 : w2.cell? ⟨A, 3, none⟩ = some (.int .i64 (x.r)) := HQ2.out.at_ 1 rfl 3 _ rfl
      have cA4 : w2.cell? ⟨A, 4, none⟩ = some (.int .i64 (x.g)) := HQ2.out.at_ 1 rfl 4 _ rfl
      have cA5 : w2.cell? ⟨A, 5, none⟩ = some (.int .i64 (x.c)) := HQ2.out.at_ 1 rfl 5 _ rfl
      have cA6 : w2.cell? ⟨A, 6, none⟩ = some (.int .i64 (x.mn)) := HQ2.out.at_ 1 rfl 6 _ rfl
      have cA7 : w2.cell? ⟨A, 7, none⟩ = some (.int .i64 (x.mx)) := HQ2.out.at_ 1 rfl 7 _ rfl
      have cA8 : w2.cell? ⟨A, 8, none⟩ = some (.int .i64 (x.s)) := HQ2.out.at_ 1 rfl 8 _ rfl
      have cA9 : w2.cell? ⟨A, 9, none⟩ = some (.int .i64 (x.n)) := HQ2.out.at_ 1 rfl 9 _ rfl
      go_wp2_with fail
      refine (R1.out _).mono ?_
      rintro e w3 ⟨rfl, hb3⟩
      have HQ3 := Lib.hid (HQ2.out.keep hb3)
      clear hb3
      clear HQ2
      clear cB0 cB1 cB2 cB3 cB4 cB5 cB6 cB7 cB8 cB9 cA0 cA1 cA2 cA3 cA4 cA5 cA6 cA7 cA8 cA9
      have cB0 : w3.cell? ⟨B, 0, none⟩ = some (.int .i64 (y.id)) := HQ3.out.at_ 0 rfl 0 _ rfl
      have cB1 : w3.cell? ⟨B, 1, none⟩ = some (.int .i64 (y.q)) := HQ3.out.at_ 0 rfl 1 _ rfl
      have cB2 : w3.cell? ⟨B, 2, none⟩ = some (.int .i64 (y.p)) := HQ3.out.at_ 0 rfl 2 _ rfl
      have cB3 : w3.cell? ⟨B, 3, none⟩ = some (.int .i64 (y.r)) := HQ3.out.at_ 0 rfl 3 _ rfl
      have cB4 : w3.cell? ⟨B, 4, none⟩ = some (.int .i64 (y.g)) := HQ3.out.at_ 0 rfl 4 _ rfl
      have cB5 : w3.cell? ⟨B, 5, none⟩ = some (.int .i64 (y.c)) := HQ3.out.at_ 0 rfl 5 _ rfl
      have cB6 : w3.cell? ⟨B, 6, none⟩ = some (.int .i64 (y.mn)) := HQ3.out.at_ 0 rfl 6 _ rfl
      have cB7 : w3.cell? ⟨B, 7, none⟩ = some (.int .i64 (y.mx)) := HQ3.out.at_ 0 rfl 7 _ rfl
      have cB8 : w3.cell? ⟨B, 8, none⟩ = some (.int .i64 (y.s)) := HQ3.out.at_ 0 rfl 8 _ rfl
      have cB9 : w3.cell? ⟨B, 9, none⟩ = some (.int .i64 (y.n)) := HQ3.out.at_ 0 rfl 9 _ rfl
      have cA0 : w3.cell? ⟨A, 0, none⟩ = some (.int .i64 (x.id)) := HQ3.out.at_ 1 rfl 0 _ rfl
      have cA1 : w3.cell? ⟨A, 1, none⟩ = some (.int .i64 (x.q)) := HQ3.out.at_ 1 rfl 1 _ rfl
      have cA2 : w3.cell? ⟨A, 2, none⟩ = some (.int .i64 (x.p)) := HQ3.out.at_ 1 rfl 2 _ rfl
      have cA3 : w3.cell? ⟨A, 3, none⟩ = some (.int .i64 (x.r)) := HQ3.out.at_ 1 rfl 3 _ rfl
      have cA4 : w3.cell? ⟨A, 4, none⟩ = some (.int .i64 (x.g)) := HQ3.out.at_ 1 rfl 4 _ rfl
      have cA5 : w3.cell? ⟨A, 5, none⟩ = some (.int .i64 (x.c)) := HQ3.out.at_ 1 rfl 5 _ rfl
      have cA6 : w3.cell? ⟨A, 6, none⟩ = some (.int .i64 (x.mn)) := HQ3.out.at_ 1 rfl 6 _ rfl
      have cA7 : w3.cell? ⟨A, 7, none⟩ = some (.int .i64 (x.mx)) := HQ3.out.at_ 1 rfl 7 _ rfl
      have cA8 : w3.cell? ⟨A, 8, none⟩ = some (.int .i64 (x.s)) := HQ3.out.at_ 1 rfl 8 _ rfl
      have cA9 : w3.cell? ⟨A, 9, none⟩ = some (.int .i64 (x.n)) := HQ3.out.at_ 1 rfl 9 _ rfl
      go_wp2
      go_ret
      exact ⟨by first | rfl | (simp; done), HQ3.out.b⟩
    have t2 : decide (1000000 < x.s) = false := decide_eq_false s2
    by_cases s3 : 1000000 < y.s
    · have t3 : decide (1000000 < y.s) = true := decide_eq_true s3
      clear hah hrk hV hT hX hY
      go_enter Try.func9, Try.ntmps9
      go_wp2_with fail
      refine (AW.out _).mono ?_
      rintro e w1 ⟨rfl, hb1⟩
      have HQ1 := Lib.hid (HQ0.out.keep hb1)
      clear hb1
      obtain ⟨B, eB⟩ : ∃ q, q = w.heap.size + 1 := ⟨_, rfl⟩
      rw [← eB]
      rw [← eB] at HQ1
      have HeB := Lib.hid eB
      clear eB
      obtain ⟨A, eA⟩ : ∃ q, q = w.heap.size := ⟨_, rfl⟩
      rw [← eA]
      rw [← eA] at HQ1
      have HeA := Lib.hid eA
      clear eA
      have cB0 : w1.cell? ⟨B, 0, none⟩ = some (.int .i64 (y.id)) := HQ1.out.at_ 0 rfl 0 _ rfl
      have cB1 : w1.cell? ⟨B, 1, none⟩ = some (.int .i64 (y.q)) := HQ1.out.at_ 0 rfl 1 _ rfl
      have cB2 : w1.cell? ⟨B, 2, none⟩ = some (.int .i64 (y.p)) := HQ1.out.at_ 0 rfl 2 _ rfl
      have cB3 : w1.cell? ⟨B, 3, none⟩ = some (.int .i64 (y.r)) := HQ1.out.at_ 0 rfl 3 _ rfl
      have cB4 : w1.cell? ⟨B, 4, none⟩ = some (.int .i64 (y.g)) := HQ1.out.at_ 0 rfl 4 _ rfl
      have cB5 : w1.cell? ⟨B, 5, none⟩ = some (.int .i64 (y.c)) := HQ1.out.at_ 0 rfl 5 _ rfl
      have cB6 : w1.cell? ⟨B, 6, none⟩ = some (.int .i64 (y.mn)) := HQ1.out.at_ 0 rfl 6 _ rfl
      have cB7 : w1.cell? ⟨B, 7, none⟩ = some (.int .i64 (y.mx)) := HQ1.out.at_ 0 rfl 7 _ rfl
      have cB8 : w1.cell? ⟨B, 8, none⟩ = some (.int .i64 (y.s)) := HQ1.out.at_ 0 rfl 8 _ rfl
      have cB9 : w1.cell? ⟨B, 9, none⟩ = some (.int .i64 (y.n)) := HQ1.out.at_ 0 rfl 9 _ rfl
      have cA0 : w1.cell? ⟨A, 0, none⟩ = some (.int .i64 (x.id)) := HQ1.out.at_ 1 rfl 0 _ rfl
      have cA1 : w1.cell? ⟨A, 1, none⟩ = some (.int .i64 (x.q)) := HQ1.out.at_ 1 rfl 1 _ rfl
      have cA2 : w1.cell? ⟨A, 2, none⟩ = some (.int .i64 (x.p)) := HQ1.out.at_ 1 rfl 2 _ rfl
      have cA3 : w1.cell? ⟨A, 3, none⟩ = some (.int .i64 (x.r)) := HQ1.out.at_ 1 rfl 3 _ rfl
      have cA4 : w1.cell? ⟨A, 4, none⟩ = some (.int .i64 (x.g)) := HQ1.out.at_ 1 rfl 4 _ rfl
      have cA5 : w1.cell? ⟨A, 5, none⟩ = some (.int .i64 (x.c)) := HQ1.out.at_ 1 rfl 5 _ rfl
      have cA6 : w1.cell? ⟨A, 6, none⟩ = some (.int .i64 (x.mn)) := HQ1.out.at_ 1 rfl 6 _ rfl
      have cA7 : w1.cell? ⟨A, 7, none⟩ = some (.int .i64 (x.mx)) := HQ1.out.at_ 1 rfl 7 _ rfl
      have cA8 : w1.cell? ⟨A, 8, none⟩ = some (.int .i64 (x.s)) := HQ1.out.at_ 1 rfl 8 _ rfl
      have cA9 : w1.cell? ⟨A, 9, none⟩ = some (.int .i64 (x.n)) := HQ1.out.at_ 1 rfl 9 _ rfl
      go_wp2_with fail
      refine (A1.out _).mono ?_
      rintro e w2 ⟨rfl, hb2⟩
      have HQ2 := Lib.hid (HQ1.out.keep hb2)
      clear hb2
      clear HQ1
      clear cB0 cB1 cB2 cB3 cB4 cB5 cB6 cB7 cB8 cB9 cA0 cA1 cA2 cA3 cA4 cA5 cA6 cA7 cA8 cA9
      have cB0 : w2.cell? ⟨B, 0, none⟩ = some (.int .i64 (y.id)) := HQ2.out.at_ 0 rfl 0 _ rfl
      have cB1 : w2.cell? ⟨B, 1, none⟩ = some (.int .i64 (y.q)) := HQ2.out.at_ 0 rfl 1 _ rfl
      have cB2 : w2.cell? ⟨B, 2, none⟩ = some (.int .i64 (y.p)) := HQ2.out.at_ 0 rfl 2 _ rfl
      have cB3 : w2.cell? ⟨B, 3, none⟩ = some (.int .i64 (y.r)) := HQ2.out.at_ 0 rfl 3 _ rfl
      have cB4 : w2.cell? ⟨B, 4, none⟩ = some (.int .i64 (y.g)) := HQ2.out.at_ 0 rfl 4 _ rfl
      have cB5 : w2.cell? ⟨B, 5, none⟩ = some (.int .i64 (y.c)) := HQ2.out.at_ 0 rfl 5 _ rfl
      have cB6 : w2.cell? ⟨B, 6, none⟩ = some (.int .i64 (y.mn)) := HQ2.out.at_ 0 rfl 6 _ rfl
      have cB7 : w2.cell? ⟨B, 7, none⟩ = some (.int .i64 (y.mx)) := HQ2.out.at_ 0 rfl 7 _ rfl
      have cB8 : w2.cell? ⟨B, 8, none⟩ = some (.int .i64 (y.s)) := HQ2.out.at_ 0 rfl 8 _ rfl
      have cB9 : w2.cell? ⟨B, 9, none⟩ = some (.int .i64 (y.n)) := HQ2.out.at_ 0 rfl 9 _ rfl
      have cA0 : w2.cell? ⟨A, 0, none⟩ = some (.int .i64 (x.id)) := HQ2.out.at_ 1 rfl 0 _ rfl
      have cA1 : w2.cell? ⟨A, 1, none⟩ = some (.int .i64 (x.q)) := HQ2.out.at_ 1 rfl 1 _ rfl
      have cA2 : w2.cell? ⟨A, 2, none⟩ = some (.int .i64 (x.p)) := HQ2.out.at_ 1 rfl 2 _ rfl
      have cA3 : w2.cell? ⟨A, 3, none⟩ = some (.int .i64 (x.r)) := HQ2.out.at_ 1 rfl 3 _ rfl
      have cA4 : w2.cell? ⟨A, 4, none⟩ = some (.int .i64 (x.g)) := HQ2.out.at_ 1 rfl 4 _ rfl
      have cA5 : w2.cell? ⟨A, 5, none⟩ = some (.int .i64 (x.c)) := HQ2.out.at_ 1 rfl 5 _ rfl
      have cA6 : w2.cell? ⟨A, 6, none⟩ = some (.int .i64 (x.mn)) := HQ2.out.at_ 1 rfl 6 _ rfl
      have cA7 : w2.cell? ⟨A, 7, none⟩ = some (.int .i64 (x.mx)) := HQ2.out.at_ 1 rfl 7 _ rfl
      have cA8 : w2.cell? ⟨A, 8, none⟩ = some (.int .i64 (x.s)) := HQ2.out.at_ 1 rfl 8 _ rfl
      have cA9 : w2.cell? ⟨A, 9, none⟩ = some (.int .i64 (x.n)) := HQ2.out.at_ 1 rfl 9 _ rfl
      go_wp2_with fail
      refine (R1.out _).mono ?_
      rintro e w3 ⟨rfl, hb3⟩
      have HQ3 := Lib.hid (HQ2.out.keep hb3)
      clear hb3
      clear HQ2
      clear cB0 cB1 cB2 cB3 cB4 cB5 cB6 cB7 cB8 cB9 cA0 cA1 cA2 cA3 cA4 cA5 cA6 cA7 cA8 cA9
      have cB0 : w3.cell? ⟨B, 0, none⟩ = some (.int .i64 (y.id)) := HQ3.out.at_ 0 rfl 0 _ rfl
      have cB1 : w3.cell? ⟨B, 1, none⟩ = some (.int .i64 (y.q)) := HQ3.out.at_ 0 rfl 1 _ rfl
      have cB2 : w3.cell? ⟨B, 2, none⟩ = some (.int .i64 (y.p)) := HQ3.out.at_ 0 rfl 2 _ rfl
      have cB3 : w3.cell? ⟨B, 3, none⟩ = some (.int .i64 (y.r)) := HQ3.out.at_ 0 rfl 3 _ rfl
      have cB4 : w3.cell? ⟨B, 4, none⟩ = some (.int .i64 (y.g)) := HQ3.out.at_ 0 rfl 4 _ rfl
      have cB5 : w3.cell? ⟨B, 5, none⟩ = some (.int .i64 (y.c)) := HQ3.out.at_ 0 rfl 5 _ rfl
      have cB6 : w3.cell? ⟨B, 6, none⟩ = some (.int .i64 (y.mn)) := HQ3.out.at_ 0 rfl 6 _ rfl
      have cB7 : w3.cell? ⟨B, 7, none⟩ = some (.int .i64 (y.mx)) := HQ3.out.at_ 0 rfl 7 _ rfl
      have cB8 : w3.cell? ⟨B, 8, none⟩ = some (.int .i64 (y.s)) := HQ3.out.at_ 0 rfl 8 _ rfl
      have cB9 : w3.cell? ⟨B, 9, none⟩ = some (.int .i64 (y.n)) := HQ3.out.at_ 0 rfl 9 _ rfl
      have cA0 : w3.cell? ⟨A, 0, none⟩ = some (.int .i64 (x.id)) := HQ3.out.at_ 1 rfl 0 _ rfl
      have cA1 : w3.cell? ⟨A, 1, none⟩ = some (.int .i64 (x.q)) := HQ3.out.at_ 1 rfl 1 _ rfl
      have cA2 : w3.cell? ⟨A, 2, none⟩ = some (.int .i64 (x.p)) := HQ3.out.at_ 1 rfl 2 _ rfl
      have cA3 : w3.cell? ⟨A, 3, none⟩ = some (.int .i64 (x.r)) := HQ3.out.at_ 1 rfl 3 _ rfl
      have cA4 : w3.cell? ⟨A, 4, none⟩ = some (.int .i64 (x.g)) := HQ3.out.at_ 1 rfl 4 _ rfl
      have cA5 : w3.cell? ⟨A, 5, none⟩ = some (.int .i64 (x.c)) := HQ3.out.at_ 1 rfl 5 _ rfl
      have cA6 : w3.cell? ⟨A, 6, none⟩ = some (.int .i64 (x.mn)) := HQ3.out.at_ 1 rfl 6 _ rfl
      have cA7 : w3.cell? ⟨A, 7, none⟩ = some (.int .i64 (x.mx)) := HQ3.out.at_ 1 rfl 7 _ rfl
      have cA8 : w3.cell? ⟨A, 8, none⟩ = some (.int .i64 (x.s)) := HQ3.out.at_ 1 rfl 8 _ rfl
      have cA9 : w3.cell? ⟨A, 9, none⟩ = some (.int .i64 (x.n)) := HQ3.out.at_ 1 rfl 9 _ rfl
      go_wp2
      go_ret
      exact ⟨by first | rfl | (simp; done), HQ3.out.b⟩
    have t3 : decide (1000000 < y.s) = false := decide_eq_false s3
    have A2 := fun W => pahead_any x y (now + age) age W
    have R2 := fun W => prank_any x (now + age) age W
    have hT2 : mayA (now + age) age = true := mayA_iff.2 ⟨by omega, by omega, g1, g2⟩
    rw [hT2, hX, hY, ahead_whole g1, ← hah] at A2
    rw [hT2, hX, rank_whole g1, ← hrk] at R2
    have hX' : mayW ⟨x.id, x.q, x.p, x.r, x.g, x.c, x.mn, x.mx, x.s + d, x.n⟩ = true := mayW_iff.2 ⟨x1, x2, by simp only; omega, by simp only; omega⟩
    have hY' : mayW ⟨y.id, y.q, y.p, y.r, y.g, y.c, y.mn, y.mx, y.s + d, y.n⟩ = true := mayW_iff.2 ⟨y1, y2, by simp only; omega, by simp only; omega⟩
    have hT3 : mayA (now + d) age = true := mayA_iff.2 ⟨by omega, by omega, g1, g2⟩
    have A3 := fun W => pahead_any ⟨x.id, x.q, x.p, x.r, x.g, x.c, x.mn, x.mx, x.s + d, x.n⟩ ⟨y.id, y.q, y.p, y.r, y.g, y.c, y.mn, y.mx, y.s + d, y.n⟩ (now + d) age W
    have R3 := fun W => prank_any ⟨x.id, x.q, x.p, x.r, x.g, x.c, x.mn, x.mx, x.s + d, x.n⟩ (now + d) age W
    rw [hT3, hX', hY', ahead_by, ← hah] at A3
    rw [hT3, hX', rank_by, ← hrk] at R3
    simp only [Bool.true_and, Bool.and_self, if_true, wtV, wtA] at A2 R2 A3 R3
    have A2 := Lib.hid A2
    have R2 := Lib.hid R2
    have A3 := Lib.hid A3
    have R3 := Lib.hid R3
    have t4 : (ah != ah) = false := by simp
    have t5 : (rk + 1 != rk + 1) = false := by simp
    have t6 : (ah == ah) = true := by simp
    have t7 : (rk == rk) = true := by simp
    clear hah hrk hV hT hX hY hT2 hT3 hX' hY' s1 s2 s3
    go_enter Try.func9, Try.ntmps9
    go_wp2_with fail
    refine (AW.out _).mono ?_
    rintro e w1 ⟨rfl, hb1⟩
    have HQ1 := Lib.hid (HQ0.out.keep hb1)
    clear hb1
    obtain ⟨B, eB⟩ : ∃ q, q = w.heap.size + 1 := ⟨_, rfl⟩
    rw [← eB]
    rw [← eB] at HQ1
    have HeB := Lib.hid eB
    clear eB
    obtain ⟨A, eA⟩ : ∃ q, q = w.heap.size := ⟨_, rfl⟩
    rw [← eA]
    rw [← eA] at HQ1
    have HeA := Lib.hid eA
    clear eA
    have cB0 : w1.cell? ⟨B, 0, none⟩ = some (.int .i64 (y.id)) := HQ1.out.at_ 0 rfl 0 _ rfl
    have cB1 : w1.cell? ⟨B, 1, none⟩ = some (.int .i64 (y.q)) := HQ1.out.at_ 0 rfl 1 _ rfl
    have cB2 : w1.cell? ⟨B, 2, none⟩ = some (.int .i64 (y.p)) := HQ1.out.at_ 0 rfl 2 _ rfl
    have cB3 : w1.cell? ⟨B, 3, none⟩ = some (.int .i64 (y.r)) := HQ1.out.at_ 0 rfl 3 _ rfl
    have cB4 : w1.cell? ⟨B, 4, none⟩ = some (.int .i64 (y.g)) := HQ1.out.at_ 0 rfl 4 _ rfl
    have cB5 : w1.cell? ⟨B, 5, none⟩ = some (.int .i64 (y.c)) := HQ1.out.at_ 0 rfl 5 _ rfl
    have cB6 : w1.cell? ⟨B, 6, none⟩ = some (.int .i64 (y.mn)) := HQ1.out.at_ 0 rfl 6 _ rfl
    have cB7 : w1.cell? ⟨B, 7, none⟩ = some (.int .i64 (y.mx)) := HQ1.out.at_ 0 rfl 7 _ rfl
    have cB8 : w1.cell? ⟨B, 8, none⟩ = some (.int .i64 (y.s)) := HQ1.out.at_ 0 rfl 8 _ rfl
    have cB9 : w1.cell? ⟨B, 9, none⟩ = some (.int .i64 (y.n)) := HQ1.out.at_ 0 rfl 9 _ rfl
    have cA0 : w1.cell? ⟨A, 0, none⟩ = some (.int .i64 (x.id)) := HQ1.out.at_ 1 rfl 0 _ rfl
    have cA1 : w1.cell? ⟨A, 1, none⟩ = some (.int .i64 (x.q)) := HQ1.out.at_ 1 rfl 1 _ rfl
    have cA2 : w1.cell? ⟨A, 2, none⟩ = some (.int .i64 (x.p)) := HQ1.out.at_ 1 rfl 2 _ rfl
    have cA3 : w1.cell? ⟨A, 3, none⟩ = some (.int .i64 (x.r)) := HQ1.out.at_ 1 rfl 3 _ rfl
    have cA4 : w1.cell? ⟨A, 4, none⟩ = some (.int .i64 (x.g)) := HQ1.out.at_ 1 rfl 4 _ rfl
    have cA5 : w1.cell? ⟨A, 5, none⟩ = some (.int .i64 (x.c)) := HQ1.out.at_ 1 rfl 5 _ rfl
    have cA6 : w1.cell? ⟨A, 6, none⟩ = some (.int .i64 (x.mn)) := HQ1.out.at_ 1 rfl 6 _ rfl
    have cA7 : w1.cell? ⟨A, 7, none⟩ = some (.int .i64 (x.mx)) := HQ1.out.at_ 1 rfl 7 _ rfl
    have cA8 : w1.cell? ⟨A, 8, none⟩ = some (.int .i64 (x.s)) := HQ1.out.at_ 1 rfl 8 _ rfl
    have cA9 : w1.cell? ⟨A, 9, none⟩ = some (.int .i64 (x.n)) := HQ1.out.at_ 1 rfl 9 _ rfl
    go_wp2_with fail
    refine (A1.out _).mono ?_
    rintro e w2 ⟨rfl, hb2⟩
    have HQ2 := Lib.hid (HQ1.out.keep hb2)
    clear hb2
    clear HQ1
    clear cB0 cB1 cB2 cB3 cB4 cB5 cB6 cB7 cB8 cB9 cA0 cA1 cA2 cA3 cA4 cA5 cA6 cA7 cA8 cA9
    have cB0 : w2.cell? ⟨B, 0, none⟩ = some (.int .i64 (y.id)) := HQ2.out.at_ 0 rfl 0 _ rfl
    have cB1 : w2.cell? ⟨B, 1, none⟩ = some (.int .i64 (y.q)) := HQ2.out.at_ 0 rfl 1 _ rfl
    have cB2 : w2.cell? ⟨B, 2, none⟩ = some (.int .i64 (y.p)) := HQ2.out.at_ 0 rfl 2 _ rfl
    have cB3 : w2.cell? ⟨B, 3, none⟩ = some (.int .i64 (y.r)) := HQ2.out.at_ 0 rfl 3 _ rfl
    have cB4 : w2.cell? ⟨B, 4, none⟩ = some (.int .i64 (y.g)) := HQ2.out.at_ 0 rfl 4 _ rfl
    have cB5 : w2.cell? ⟨B, 5, none⟩ = some (.int .i64 (y.c)) := HQ2.out.at_ 0 rfl 5 _ rfl
    have cB6 : w2.cell? ⟨B, 6, none⟩ = some (.int .i64 (y.mn)) := HQ2.out.at_ 0 rfl 6 _ rfl
    have cB7 : w2.cell? ⟨B, 7, none⟩ = some (.int .i64 (y.mx)) := HQ2.out.at_ 0 rfl 7 _ rfl
    have cB8 : w2.cell? ⟨B, 8, none⟩ = some (.int .i64 (y.s)) := HQ2.out.at_ 0 rfl 8 _ rfl
    have cB9 : w2.cell? ⟨B, 9, none⟩ = some (.int .i64 (y.n)) := HQ2.out.at_ 0 rfl 9 _ rfl
    have cA0 : w2.cell? ⟨A, 0, none⟩ = some (.int .i64 (x.id)) := HQ2.out.at_ 1 rfl 0 _ rfl
    have cA1 : w2.cell? ⟨A, 1, none⟩ = some (.int .i64 (x.q)) := HQ2.out.at_ 1 rfl 1 _ rfl
    have cA2 : w2.cell? ⟨A, 2, none⟩ = some (.int .i64 (x.p)) := HQ2.out.at_ 1 rfl 2 _ rfl
    have cA3 : w2.cell? ⟨A, 3, none⟩ = some (.int .i64 (x.r)) := HQ2.out.at_ 1 rfl 3 _ rfl
    have cA4 : w2.cell? ⟨A, 4, none⟩ = some (.int .i64 (x.g)) := HQ2.out.at_ 1 rfl 4 _ rfl
    have cA5 : w2.cell? ⟨A, 5, none⟩ = some (.int .i64 (x.c)) := HQ2.out.at_ 1 rfl 5 _ rfl
    have cA6 : w2.cell? ⟨A, 6, none⟩ = some (.int .i64 (x.mn)) := HQ2.out.at_ 1 rfl 6 _ rfl
    have cA7 : w2.cell? ⟨A, 7, none⟩ = some (.int .i64 (x.mx)) := HQ2.out.at_ 1 rfl 7 _ rfl
    have cA8 : w2.cell? ⟨A, 8, none⟩ = some (.int .i64 (x.s)) := HQ2.out.at_ 1 rfl 8 _ rfl
    have cA9 : w2.cell? ⟨A, 9, none⟩ = some (.int .i64 (x.n)) := HQ2.out.at_ 1 rfl 9 _ rfl
    go_wp2_with fail
    refine (R1.out _).mono ?_
    rintro e w3 ⟨rfl, hb3⟩
    have HQ3 := Lib.hid (HQ2.out.keep hb3)
    clear hb3
    clear HQ2
    clear cB0 cB1 cB2 cB3 cB4 cB5 cB6 cB7 cB8 cB9 cA0 cA1 cA2 cA3 cA4 cA5 cA6 cA7 cA8 cA9
    have cB0 : w3.cell? ⟨B, 0, none⟩ = some (.int .i64 (y.id)) := HQ3.out.at_ 0 rfl 0 _ rfl
    have cB1 : w3.cell? ⟨B, 1, none⟩ = some (.int .i64 (y.q)) := HQ3.out.at_ 0 rfl 1 _ rfl
    have cB2 : w3.cell? ⟨B, 2, none⟩ = some (.int .i64 (y.p)) := HQ3.out.at_ 0 rfl 2 _ rfl
    have cB3 : w3.cell? ⟨B, 3, none⟩ = some (.int .i64 (y.r)) := HQ3.out.at_ 0 rfl 3 _ rfl
    have cB4 : w3.cell? ⟨B, 4, none⟩ = some (.int .i64 (y.g)) := HQ3.out.at_ 0 rfl 4 _ rfl
    have cB5 : w3.cell? ⟨B, 5, none⟩ = some (.int .i64 (y.c)) := HQ3.out.at_ 0 rfl 5 _ rfl
    have cB6 : w3.cell? ⟨B, 6, none⟩ = some (.int .i64 (y.mn)) := HQ3.out.at_ 0 rfl 6 _ rfl
    have cB7 : w3.cell? ⟨B, 7, none⟩ = some (.int .i64 (y.mx)) := HQ3.out.at_ 0 rfl 7 _ rfl
    have cB8 : w3.cell? ⟨B, 8, none⟩ = some (.int .i64 (y.s)) := HQ3.out.at_ 0 rfl 8 _ rfl
    have cB9 : w3.cell? ⟨B, 9, none⟩ = some (.int .i64 (y.n)) := HQ3.out.at_ 0 rfl 9 _ rfl
    have cA0 : w3.cell? ⟨A, 0, none⟩ = some (.int .i64 (x.id)) := HQ3.out.at_ 1 rfl 0 _ rfl
    have cA1 : w3.cell? ⟨A, 1, none⟩ = some (.int .i64 (x.q)) := HQ3.out.at_ 1 rfl 1 _ rfl
    have cA2 : w3.cell? ⟨A, 2, none⟩ = some (.int .i64 (x.p)) := HQ3.out.at_ 1 rfl 2 _ rfl
    have cA3 : w3.cell? ⟨A, 3, none⟩ = some (.int .i64 (x.r)) := HQ3.out.at_ 1 rfl 3 _ rfl
    have cA4 : w3.cell? ⟨A, 4, none⟩ = some (.int .i64 (x.g)) := HQ3.out.at_ 1 rfl 4 _ rfl
    have cA5 : w3.cell? ⟨A, 5, none⟩ = some (.int .i64 (x.c)) := HQ3.out.at_ 1 rfl 5 _ rfl
    have cA6 : w3.cell? ⟨A, 6, none⟩ = some (.int .i64 (x.mn)) := HQ3.out.at_ 1 rfl 6 _ rfl
    have cA7 : w3.cell? ⟨A, 7, none⟩ = some (.int .i64 (x.mx)) := HQ3.out.at_ 1 rfl 7 _ rfl
    have cA8 : w3.cell? ⟨A, 8, none⟩ = some (.int .i64 (x.s)) := HQ3.out.at_ 1 rfl 8 _ rfl
    have cA9 : w3.cell? ⟨A, 9, none⟩ = some (.int .i64 (x.n)) := HQ3.out.at_ 1 rfl 9 _ rfl
    go_wp2_with fail
    refine (A2.out _).mono ?_
    rintro e w4 ⟨rfl, hb4⟩
    have HQ4 := Lib.hid (HQ3.out.keep hb4)
    clear hb4
    clear HQ3
    clear cB0 cB1 cB2 cB3 cB4 cB5 cB6 cB7 cB8 cB9 cA0 cA1 cA2 cA3 cA4 cA5 cA6 cA7 cA8 cA9
    have cB0 : w4.cell? ⟨B, 0, none⟩ = some (.int .i64 (y.id)) := HQ4.out.at_ 0 rfl 0 _ rfl
    have cB1 : w4.cell? ⟨B, 1, none⟩ = some (.int .i64 (y.q)) := HQ4.out.at_ 0 rfl 1 _ rfl
    have cB2 : w4.cell? ⟨B, 2, none⟩ = some (.int .i64 (y.p)) := HQ4.out.at_ 0 rfl 2 _ rfl
    have cB3 : w4.cell? ⟨B, 3, none⟩ = some (.int .i64 (y.r)) := HQ4.out.at_ 0 rfl 3 _ rfl
    have cB4 : w4.cell? ⟨B, 4, none⟩ = some (.int .i64 (y.g)) := HQ4.out.at_ 0 rfl 4 _ rfl
    have cB5 : w4.cell? ⟨B, 5, none⟩ = some (.int .i64 (y.c)) := HQ4.out.at_ 0 rfl 5 _ rfl
    have cB6 : w4.cell? ⟨B, 6, none⟩ = some (.int .i64 (y.mn)) := HQ4.out.at_ 0 rfl 6 _ rfl
    have cB7 : w4.cell? ⟨B, 7, none⟩ = some (.int .i64 (y.mx)) := HQ4.out.at_ 0 rfl 7 _ rfl
    have cB8 : w4.cell? ⟨B, 8, none⟩ = some (.int .i64 (y.s)) := HQ4.out.at_ 0 rfl 8 _ rfl
    have cB9 : w4.cell? ⟨B, 9, none⟩ = some (.int .i64 (y.n)) := HQ4.out.at_ 0 rfl 9 _ rfl
    have cA0 : w4.cell? ⟨A, 0, none⟩ = some (.int .i64 (x.id)) := HQ4.out.at_ 1 rfl 0 _ rfl
    have cA1 : w4.cell? ⟨A, 1, none⟩ = some (.int .i64 (x.q)) := HQ4.out.at_ 1 rfl 1 _ rfl
    have cA2 : w4.cell? ⟨A, 2, none⟩ = some (.int .i64 (x.p)) := HQ4.out.at_ 1 rfl 2 _ rfl
    have cA3 : w4.cell? ⟨A, 3, none⟩ = some (.int .i64 (x.r)) := HQ4.out.at_ 1 rfl 3 _ rfl
    have cA4 : w4.cell? ⟨A, 4, none⟩ = some (.int .i64 (x.g)) := HQ4.out.at_ 1 rfl 4 _ rfl
    have cA5 : w4.cell? ⟨A, 5, none⟩ = some (.int .i64 (x.c)) := HQ4.out.at_ 1 rfl 5 _ rfl
    have cA6 : w4.cell? ⟨A, 6, none⟩ = some (.int .i64 (x.mn)) := HQ4.out.at_ 1 rfl 6 _ rfl
    have cA7 : w4.cell? ⟨A, 7, none⟩ = some (.int .i64 (x.mx)) := HQ4.out.at_ 1 rfl 7 _ rfl
    have cA8 : w4.cell? ⟨A, 8, none⟩ = some (.int .i64 (x.s)) := HQ4.out.at_ 1 rfl 8 _ rfl
    have cA9 : w4.cell? ⟨A, 9, none⟩ = some (.int .i64 (x.n)) := HQ4.out.at_ 1 rfl 9 _ rfl
    go_wp2_with fail
    refine (R2.out _).mono ?_
    rintro e w5 ⟨rfl, hb5⟩
    have HQ5 := Lib.hid (HQ4.out.keep hb5)
    clear hb5
    clear HQ4
    clear cB0 cB1 cB2 cB3 cB4 cB5 cB6 cB7 cB8 cB9 cA0 cA1 cA2 cA3 cA4 cA5 cA6 cA7 cA8 cA9
    have cB0 : w5.cell? ⟨B, 0, none⟩ = some (.int .i64 (y.id)) := HQ5.out.at_ 0 rfl 0 _ rfl
    have cB1 : w5.cell? ⟨B, 1, none⟩ = some (.int .i64 (y.q)) := HQ5.out.at_ 0 rfl 1 _ rfl
    have cB2 : w5.cell? ⟨B, 2, none⟩ = some (.int .i64 (y.p)) := HQ5.out.at_ 0 rfl 2 _ rfl
    have cB3 : w5.cell? ⟨B, 3, none⟩ = some (.int .i64 (y.r)) := HQ5.out.at_ 0 rfl 3 _ rfl
    have cB4 : w5.cell? ⟨B, 4, none⟩ = some (.int .i64 (y.g)) := HQ5.out.at_ 0 rfl 4 _ rfl
    have cB5 : w5.cell? ⟨B, 5, none⟩ = some (.int .i64 (y.c)) := HQ5.out.at_ 0 rfl 5 _ rfl
    have cB6 : w5.cell? ⟨B, 6, none⟩ = some (.int .i64 (y.mn)) := HQ5.out.at_ 0 rfl 6 _ rfl
    have cB7 : w5.cell? ⟨B, 7, none⟩ = some (.int .i64 (y.mx)) := HQ5.out.at_ 0 rfl 7 _ rfl
    have cB8 : w5.cell? ⟨B, 8, none⟩ = some (.int .i64 (y.s)) := HQ5.out.at_ 0 rfl 8 _ rfl
    have cB9 : w5.cell? ⟨B, 9, none⟩ = some (.int .i64 (y.n)) := HQ5.out.at_ 0 rfl 9 _ rfl
    have cA0 : w5.cell? ⟨A, 0, none⟩ = some (.int .i64 (x.id)) := HQ5.out.at_ 1 rfl 0 _ rfl
    have cA1 : w5.cell? ⟨A, 1, none⟩ = some (.int .i64 (x.q)) := HQ5.out.at_ 1 rfl 1 _ rfl
    have cA2 : w5.cell? ⟨A, 2, none⟩ = some (.int .i64 (x.p)) := HQ5.out.at_ 1 rfl 2 _ rfl
    have cA3 : w5.cell? ⟨A, 3, none⟩ = some (.int .i64 (x.r)) := HQ5.out.at_ 1 rfl 3 _ rfl
    have cA4 : w5.cell? ⟨A, 4, none⟩ = some (.int .i64 (x.g)) := HQ5.out.at_ 1 rfl 4 _ rfl
    have cA5 : w5.cell? ⟨A, 5, none⟩ = some (.int .i64 (x.c)) := HQ5.out.at_ 1 rfl 5 _ rfl
    have cA6 : w5.cell? ⟨A, 6, none⟩ = some (.int .i64 (x.mn)) := HQ5.out.at_ 1 rfl 6 _ rfl
    have cA7 : w5.cell? ⟨A, 7, none⟩ = some (.int .i64 (x.mx)) := HQ5.out.at_ 1 rfl 7 _ rfl
    have cA8 : w5.cell? ⟨A, 8, none⟩ = some (.int .i64 (x.s)) := HQ5.out.at_ 1 rfl 8 _ rfl
    have cA9 : w5.cell? ⟨A, 9, none⟩ = some (.int .i64 (x.n)) := HQ5.out.at_ 1 rfl 9 _ rfl
    have lA : A < w5.heap.size := (HQ5.out.c (A, x) (by simp)).2
    have lB : B < w5.heap.size := (HQ5.out.c (B, y) (by simp)).2
    have HB5 := Lib.hid HQ5.out.b
    clear HQ5
    go_wp2_with fail
    go_region
    skip
    · go_wp2_with fail
      refine (A3.out _).mono ?_
      rintro e w6 ⟨rfl, hb6⟩
      have HX : Bx w5 w6 [(w5.heap.size + 1, ⟨y.id, y.q, y.p, y.r, y.g, y.c, y.mn, y.mx, y.s + d, y.n⟩), (w5.heap.size, ⟨x.id, x.q, x.p, x.r, x.g, x.c, x.mn, x.mx, x.s + d, x.n⟩)] := by
        have h0 := ((Bx.nil w5).box ⟨x.id, x.q, x.p, x.r, x.g, x.c, x.mn, x.mx, x.s + d, x.n⟩).box ⟨y.id, y.q, y.p, y.r, y.g, y.c, y.mn, y.mx, y.s + d, y.n⟩
        simp only [World.size_alloc] at h0
        first | exact h0.keep hb6 | exact (bx_drew h0).keep hb6
      have HX := Lib.hid HX
      clear hb6
      have c0 : w6.cell? ⟨w5.heap.size, 0, none⟩ = some (.int .i64 (x.id)) := HX.out.at_ 1 rfl 0 _ rfl
      have c1 : w6.cell? ⟨w5.heap.size, 1, none⟩ = some (.int .i64 (x.q)) := HX.out.at_ 1 rfl 1 _ rfl
      have c2 : w6.cell? ⟨w5.heap.size, 2, none⟩ = some (.int .i64 (x.p)) := HX.out.at_ 1 rfl 2 _ rfl
      have c3 : w6.cell? ⟨w5.heap.size, 3, none⟩ = some (.int .i64 (x.r)) := HX.out.at_ 1 rfl 3 _ rfl
      have c4 : w6.cell? ⟨w5.heap.size, 4, none⟩ = some (.int .i64 (x.g)) := HX.out.at_ 1 rfl 4 _ rfl
      have c5 : w6.cell? ⟨w5.heap.size, 5, none⟩ = some (.int .i64 (x.c)) := HX.out.at_ 1 rfl 5 _ rfl
      have c6 : w6.cell? ⟨w5.heap.size, 6, none⟩ = some (.int .i64 (x.mn)) := HX.out.at_ 1 rfl 6 _ rfl
      have c7 : w6.cell? ⟨w5.heap.size, 7, none⟩ = some (.int .i64 (x.mx)) := HX.out.at_ 1 rfl 7 _ rfl
      have c8 : w6.cell? ⟨w5.heap.size, 8, none⟩ = some (.int .i64 (x.s + d)) := HX.out.at_ 1 rfl 8 _ rfl
      have c9 : w6.cell? ⟨w5.heap.size, 9, none⟩ = some (.int .i64 (x.n)) := HX.out.at_ 1 rfl 9 _ rfl
      go_wp2_with fail
      refine (R3.out _).mono ?_
      rintro e w7 ⟨rfl, hb7⟩
      have HB7 := Lib.hid (below_step (below_step HB5.out HX.out.b) hb7)
      clear hb7 HX c0 c1 c2 c3 c4 c5 c6 c7 c8 c9
      go_wp2
      go_ret
      exact ⟨by first | rfl | (simp; done), HB7.out⟩
    · go_wp2_with fail
      refine (A3.out _).mono ?_
      rintro e w6 ⟨rfl, hb6⟩
      have HX : Bx w5 w6 [(w5.heap.size + 1, ⟨x.id, x.q, x.p, x.r, x.g, x.c, x.mn, x.mx, x.s + d, x.n⟩), (w5.heap.size, ⟨y.id, y.q, y.p, y.r, y.g, y.c, y.mn, y.mx, y.s + d, y.n⟩)] := by
        have h0 := ((Bx.nil w5).box ⟨y.id, y.q, y.p, y.r, y.g, y.c, y.mn, y.mx, y.s + d, y.n⟩).box ⟨x.id, x.q, x.p, x.r, x.g, x.c, x.mn, x.mx, x.s + d, x.n⟩
        simp only [World.size_alloc] at h0
        first | exact h0.keep hb6 | exact (bx_drew h0).keep hb6
      have HX := Lib.hid HX
      clear hb6
      have c0 : w6.cell? ⟨w5.heap.size + 1, 0, none⟩ = some (.int .i64 (x.id)) := HX.out.at_ 0 rfl 0 _ rfl
      have c1 : w6.cell? ⟨w5.heap.size + 1, 1, none⟩ = some (.int .i64 (x.q)) := HX.out.at_ 0 rfl 1 _ rfl
      have c2 : w6.cell? ⟨w5.heap.size + 1, 2, none⟩ = some (.int .i64 (x.p)) := HX.out.at_ 0 rfl 2 _ rfl
      have c3 : w6.cell? ⟨w5.heap.size + 1, 3, none⟩ = some (.int .i64 (x.r)) := HX.out.at_ 0 rfl 3 _ rfl
      have c4 : w6.cell? ⟨w5.heap.size + 1, 4, none⟩ = some (.int .i64 (x.g)) := HX.out.at_ 0 rfl 4 _ rfl
      have c5 : w6.cell? ⟨w5.heap.size + 1, 5, none⟩ = some (.int .i64 (x.c)) := HX.out.at_ 0 rfl 5 _ rfl
      have c6 : w6.cell? ⟨w5.heap.size + 1, 6, none⟩ = some (.int .i64 (x.mn)) := HX.out.at_ 0 rfl 6 _ rfl
      have c7 : w6.cell? ⟨w5.heap.size + 1, 7, none⟩ = some (.int .i64 (x.mx)) := HX.out.at_ 0 rfl 7 _ rfl
      have c8 : w6.cell? ⟨w5.heap.size + 1, 8, none⟩ = some (.int .i64 (x.s + d)) := HX.out.at_ 0 rfl 8 _ rfl
      have c9 : w6.cell? ⟨w5.heap.size + 1, 9, none⟩ = some (.int .i64 (x.n)) := HX.out.at_ 0 rfl 9 _ rfl
      go_wp2_with fail
      refine (R3.out _).mono ?_
      rintro e w7 ⟨rfl, hb7⟩
      have HB7 := Lib.hid (below_step (below_step HB5.out HX.out.b) hb7)
      clear hb7 HX c0 c1 c2 c3 c4 c5 c6 c7 c8 c9
      go_wp2
      go_ret
      exact ⟨by first | rfl | (simp; done), HB7.out⟩

set_option maxRecDepth 100000 in
set_option maxHeartbeats 1000000 in
theorem lifted (os : Os) (started : os.Started) (H : Type) (enc : TypeId × Value → H) :
    ReturnsInHanded {} Try.checked os 9 .any (Rows.orderShiftsSpec.pre6 enc Try.prog Try.f9 Rows.orderShiftsRow.domain false) (Rows.orderShiftsSpec.post enc Try.prog Try.f9 false true false false) := by
  refine returnsInHanded_of_change (C := Try.checked) own started (by kernel_rfl) Try.func9
    (ChangeSpec.witness6 (enc := enc) (C := Try.checked) false ⟨#[], #[.agg #[.int .i64 0, .int .i64 0, .int .i64 0, .int .i64 0, .int .i64 0, .int .i64 0, .int .i64 0, .int .i64 0, .int .i64 0, .int .i64 0], .agg #[.int .i64 0, .int .i64 0, .int .i64 0, .int .i64 0, .int .i64 0, .int .i64 0, .int .i64 0, .int .i64 0, .int .i64 0, .int .i64 0], .int .i64 0, .int .i64 0, .int .u8 0], []⟩ 8 (by kernel_rfl) (by kernel_rfl) (by kernel_rfl) (by kernel_rfl)) ?_
  intro W base args ds gs before hval0 hW _ _
  have hval : ∀ (j : Nat) t v, Try.f9.params[j]? = some t → args[j]? = some v → Value.okWide Try.prog W .any base t v := hval0
  have hW' := hW
  obtain ⟨p, q, hA0, hV, rfl, hfz, hnd⟩ := hW
  have hA : DataW.TrodAll enc Try.prog W 0 (fun _ => true) true Try.f9.params.toList args.toList ds p := hA0
  rw [Try.params9] at hA hval
  obtain ⟨v0, vs0, d0, ds0, p0, q0, hargs, rfl, rfl, h0, r0⟩ := trodAll_cons hA
  obtain ⟨v1, vs1, d1, ds1, p1, q1, rfl, rfl, rfl, h1, r1⟩ := trodAll_cons r0
  obtain ⟨v2, vs2, d2, ds2, p2, q2, rfl, rfl, rfl, h2, r2⟩ := trodAll_cons r1
  obtain ⟨v3, vs3, d3, ds3, p3, q3, rfl, rfl, rfl, h3, r3⟩ := trodAll_cons r2
  obtain ⟨v4, vs4, d4, ds4, p4, q4, rfl, rfl, rfl, h4, r4⟩ := trodAll_cons r3
  obtain ⟨rfl, rfl, rfl⟩ := trodAll_nil r4
  obtain rfl : args = #[v0, v1, v2, v3, v4] := by cases args; simp_all
  obtain ⟨rfl, rfl⟩ := trodVars_none hV
  have k0 := h0
  have lt0 : ∀ x ∈ p0, x.block < W.heap.size := by obtain ⟨m, hm⟩ := k0; exact DataW.trod_lt m _ _ _ hm
  obtain ⟨x0, rfl, w0⟩ := wt_of (hval 0 27 v0 rfl rfl) h0
  have k1 := h1
  have lt1 : ∀ x ∈ p1, x.block < W.heap.size := by obtain ⟨m, hm⟩ := k1; exact DataW.trod_lt m _ _ _ hm
  obtain ⟨x1, rfl, w1⟩ := wt_of (hval 1 27 v1 rfl rfl) h1
  have k2 := h2
  have lt2 : ∀ x ∈ p2, x.block < W.heap.size := by obtain ⟨m, hm⟩ := k2; exact DataW.trod_lt m _ _ _ hm
  obtain ⟨a2, rfl, _, _, w2⟩ := open_int Try.underlying3 (hval 2 3 v2 rfl rfl) h2
  have k3 := h3
  have lt3 : ∀ x ∈ p3, x.block < W.heap.size := by obtain ⟨m, hm⟩ := k3; exact DataW.trod_lt m _ _ _ hm
  obtain ⟨a3, rfl, _, _, w3⟩ := open_int Try.underlying3 (hval 3 3 v3 rfl rfl) h3
  have k4 := h4
  have lt4 : ∀ x ∈ p4, x.block < W.heap.size := by obtain ⟨m, hm⟩ := k4; exact DataW.trod_lt m _ _ _ hm
  obtain ⟨a4, rfl, _, _, w4⟩ := open_int Try.underlying5 (hval 4 5 v4 rfl rfl) h4
  clear hA0 hval0
  refine (walk x0 x1 a2 a3 a4 W w0 w1 w2 w3 w4).mono fun e W' ⟨he, bel⟩ => ?_
  subst he
  exact ⟨_, rfl, _, _, _, [], _, [], hW', trodAll_mk1 (shut_bool Try.underlying4 _), (trodAll_cons_mk (Below.trod laidOut (by kernel_rfl) (of_decide_eq_true (by kernel_rfl)) k0 bel lt0) (trodAll_cons_mk (Below.trod laidOut (by kernel_rfl) (of_decide_eq_true (by kernel_rfl)) k1 bel lt1) (trodAll_cons_mk (Below.trod laidOut (by kernel_rfl) (of_decide_eq_true (by kernel_rfl)) k2 bel lt2) (trodAll_cons_mk (Below.trod laidOut (by kernel_rfl) (of_decide_eq_true (by kernel_rfl)) k3 bel lt3) (trodAll_cons_mk (Below.trod laidOut (by kernel_rfl) (of_decide_eq_true (by kernel_rfl)) k4 bel lt4) trodAll_mk0))))), rfl, bel.frame _, fun h => by cases h⟩

/-- THE STATEMENT. -/
theorem holds : Rows.OrderShiftsSaid :=
  OpenClaim.holds_of_wide 9 Try.f9 rfl rfl rfl rfl rfl rfl rfl ⟨rfl, rfl, rfl, rfl, rfl⟩ rfl rfl rfl rfl rfl (by kernel_rfl) Try.func9 (by kernel_rfl)
    (of_decide_eq_true (by kernel_rfl)) (by unfold Func.isWrapper; first | (rw [if_pos (by decide +kernel)]; kernel_rfl) | (rw [if_neg (by decide +kernel)]; exact ⟨rfl, rfl⟩))
    (fun os started H enc _ => lifted os started H enc)
end Go.Proofs.Ytbknkfpgejkmoaa.orderShifts
