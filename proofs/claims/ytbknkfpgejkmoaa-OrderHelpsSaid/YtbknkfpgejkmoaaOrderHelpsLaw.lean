/- A higher Prio, an earlier arrival, a lower Number: none of them ever puts one behind whom it was ahead of; a rank never falls: the law OrderHelps answers true, at every input. -/
import Derived.Test.YtbknkfpgejkmoaaFrame
import Derived.Test.YtbknkfpgejkmoaaOrdIn
import Derived.Test.YtbknkfpgejkmoaaOrdAwake
set_option linter.unusedVariables false
namespace Go.Proofs.Ytbknkfpgejkmoaa.orderHelps
open Go Go.ChangeShapes Go.WideShapes Go.ChangeAt Go.RowKit
theorem rank_small {x : Wt} {now age : Int} (h1 : 0 ≤ now) (h2 : now ≤ 1073741825) (h3 : 1 ≤ age) (hx : mayW x = true) : -2147483649 ≤ rankF x now age ∧ rankF x now age ≤ 2147483664 := by
  obtain ⟨p1, p2, p3, p4⟩ := mayW_iff.1 hx
  obtain ⟨f1, f2, f3⟩ := floor_parts (now - x.s) age h3
  unfold rankF
  rcases Int.lt_or_le ((now - x.s).tmod age) 0 with h | h
  · rw [f1 h]; omega
  · rw [f2 h]; omega
theorem rank_step {x : Wt} {now age : Int} (h3 : 1 ≤ age) : rankF x now age ≤ rankF x (now + 1) age ∧ rankF x (now + 1) age ≤ rankF x now age + 1 := by
  unfold rankF
  have a1 : (now - x.s) / age ≤ (now + 1 - x.s) / age := Int.ediv_le_ediv (by omega) (by omega)
  have a2 : (now + 1 - x.s) / age ≤ (now - x.s + 1 * age) / age := Int.ediv_le_ediv (by omega) (by omega)
  rw [Int.add_mul_ediv_right _ _ (by omega)] at a2
  omega
theorem helps {x y : Wt} {now age p' s' n' : Int} (h3 : 1 ≤ age) (h : x.p ≤ p' ∧ p' ≤ 15 ∧ 0 ≤ s' ∧ s' ≤ x.s ∧ n' ≤ x.n) (ha : aheadF now age x y = true) : aheadF now age ⟨x.id, x.q, p', x.r, x.g, x.c, x.mn, x.mx, s', n'⟩ y = true := by
  have a1 : (now - x.s) / age ≤ (now - s') / age := Int.ediv_le_ediv (by omega) (by omega)
  unfold aheadF rankF at *
  simp only [decide_eq_true_eq] at *
  omega
set_option maxRecDepth 100000 in
set_option maxHeartbeats 4000000 in
theorem walk (x y : Wt) (now age prio since number : Int) (w : World) (wx : WtW x) (wy : WtW y) (wn : (Lit.int .i64 now).wf = true) (wa : (Lit.int .i64 age).wf = true) (wp : (Lit.int .u8 prio).wf = true) (ws : (Lit.int .u8 since).wf = true) (wm : (Lit.int .u8 number).wf = true) :
    Calls Try.prog 8 #[wtV x, wtV y, .int .i64 now, .int .i64 age, .int .u8 prio, .int .u8 since, .int .u8 number] w fun e w' => e = .returned (.bool true) ∧ Below w.heap.size w w' := by
  obtain ⟨bp1, bp2⟩ := bounds_u8 wp
  obtain ⟨bs1, bs2⟩ := bounds_u8 ws
  obtain ⟨bm1, bm2⟩ := bounds_u8 wm
  obtain ⟨bx1, bx2⟩ := bounds_i64 wx.n
  have AW := Lib.hid (fun W => awake_o W)
  have A1 := fun W => pahead_any x y now age W
  have R1 := fun W => prank_any x now age W
  obtain ⟨ah, hah⟩ : ∃ r, r = aheadF now age x y := ⟨_, rfl⟩
  obtain ⟨rk, hrk⟩ : ∃ r, r = rankF x now age := ⟨_, rfl⟩
  rw [← hah] at A1
  rw [← hrk] at R1
  clear wx wy wn wa wp ws wm
  have HQ0 := Lib.hid (((Bx.nil w).box x).box y)
  simp only [World.size_alloc] at HQ0
  cases hV : (mayA now age && (mayW x && mayW y))
  · rw [hV] at A1
    obtain ⟨v3, hv3⟩ : ∃ r : Int, r = (if mayA now age && mayW x then rk else 0) := ⟨_, rfl⟩
    obtain ⟨n3, hn3⟩ : ∃ r : Int, r = (if mayA now age && mayW x then 0 else 1) := ⟨_, rfl⟩
    rw [← hv3, ← hn3] at R1
    clear hV hah hrk hv3 hn3
    simp only [Bool.false_and, Bool.false_eq_true, if_false, wtV, wtA, wtO] at A1 R1 HQ0 ⊢
    have A1 := Lib.hid A1
    have R1 := Lib.hid R1
    go_enter Try.func8, Try.ntmps8
    go_wp2_with fail
    refine (AW.out _).mono ?_
    rintro e w1 ⟨rfl, hb1⟩
    have HQ1 := Lib.hid (HQ0.out.keep hb1)
    clear hb1
    obtain ⟨B, eB⟩ : ∃ q, q = w.heap.size + 1 := ⟨_, rfl⟩
    rw [← eB]
    rw [← eB] at HQ1
    have HeB := Lib.hid eB
    clear eB
    obtain ⟨A, eA⟩ : ∃ q, q = w.heap.size := ⟨_, rfl⟩
    rw [← eA]
    rw [← eA] at HQ1
    have HeA := Lib.hid eA
    clear eA
    have cB0 : w1.cell? ⟨B, 0, none⟩ = some (.int .i64 (y.id)) := HQ1.out.at_ 0 rfl 0 _ rfl
    have cB1 : w1.cell? ⟨B, 1, none⟩ = some (.int .i64 (y.q)) := HQ1.out.at_ 0 rfl 1 _ rfl
    have cB2 : w1.cell? ⟨B, 2, none⟩ = some (.int .i64 (y.p)) := HQ1.out.at_ 0 rfl 2 _ rfl
    have cB3 : w1.cell? ⟨B, 3, none⟩ = some (.int .i64 (y.r)) := HQ1.out.at_ 0 rfl 3 _ rfl
    have cB4 : w1.cell? ⟨B, 4, none⟩ = some (.int .i64 (y.g)) := HQ1.out.at_ 0 rfl 4 _ rfl
    have cB5 : w1.cell? ⟨B, 5, none⟩ = some (.int .i64 (y.c)) := HQ1.out.at_ 0 rfl 5 _ rfl
    have cB6 : w1.cell? ⟨B, 6, none⟩ = some (.int .i64 (y.mn)) := HQ1.out.at_ 0 rfl 6 _ rfl
    have cB7 : w1.cell? ⟨B, 7, none⟩ = some (.int .i64 (y.mx)) := HQ1.out.at_ 0 rfl 7 _ rfl
    have cB8 : w1.cell? ⟨B, 8, none⟩ = some (.int .i64 (y.s)) := HQ1.out.at_ 0 rfl 8 _ rfl
    have cB9 : w1.cell? ⟨B, 9, none⟩ = some (.int .i64 (y.n)) := HQ1.out.at_ 0 rfl 9 _ rfl
    have cA0 : w1.cell? ⟨A, 0, none⟩ = some (.int .i64 (x.id)) := HQ1.out.at_ 1 rfl 0 _ rfl
    have cA1 : w1.cell? ⟨A, 1, none⟩ = some (.int .i64 (x.q)) := HQ1.out.at_ 1 rfl 1 _ rfl
    have cA2 : w1.cell? ⟨A, 2, none⟩ = some (.int .i64 (x.p)) := HQ1.out.at_ 1 rfl 2 _ rfl
    have cA3 : w1.cell? ⟨A, 3, none⟩ = some (.int .i64 (x.r)) := HQ1.out.at_ 1 rfl 3 _ rfl
    have cA4 : w1.cell? ⟨A, 4, none⟩ = some (.int .i64 (x.g)) := HQ1.out.at_ 1 rfl 4 _ rfl
    have cA5 : w1.cell? ⟨A, 5, none⟩ = some (.int .i64 (x.c)) := HQ1.out.at_ 1 rfl 5 _ rfl
    have cA6 : w1.cell? ⟨A, 6, none⟩ = some (.int .i64 (x.mn)) := HQ1.out.at_ 1 rfl 6 _ rfl
    have cA7 : w1.cell? ⟨A, 7, none⟩ = some (.int .i64 (x.mx)) := HQ1.out.at_ 1 rfl 7 _ rfl
    have cA8 : w1.cell? ⟨A, 8, none⟩ = some (.int .i64 (x.s)) := HQ1.out.at_ 1 rfl 8 _ rfl
    have cA9 : w1.cell? ⟨A, 9, none⟩ = some (.int .i64 (x.n)) := HQ1.out.at_ 1 rfl 9 _ rfl
    go_wp2_with fail
    refine (A1.out _).mono ?_
    rintro e w2 ⟨rfl, hb2⟩
    have HQ2 := Lib.hid (HQ1.out.keep hb2)
    clear hb2
    clear HQ1
    clear cB0 cB1 cB2 cB3 cB4 cB5 cB6 cB7 cB8 cB9 cA0 cA1 cA2 cA3 cA4 cA5 cA6 cA7 cA8 cA9
    have cB0 : w2.cell? ⟨B, 0, none⟩ = some (.int .i64 (y.id)) := HQ2.out.at_ 0 rfl 0 _ rfl
    have cB1 : w2.cell? ⟨B, 1, none⟩ = some (.int .i64 (y.q)) := HQ2.out.at_ 0 rfl 1 _ rfl
    have cB2 : w2.cell? ⟨B, 2, none⟩ = some (.int .i64 (y.p)) := HQ2.out.at_ 0 rfl 2 _ rfl
    have cB3 : w2.cell? ⟨B, 3, none⟩ = some (.int .i64 (y.r)) := HQ2.out.at_ 0 rfl 3 _ rfl
    have cB4 : w2.cell? ⟨B, 4, none⟩ = some (.int .i64 (y.g)) := HQ2.out.at_ 0 rfl 4 _ rfl
    have cB5 : w2.cell? ⟨B, 5, none⟩ = some (.int .i64 (y.c)) := HQ2.out.at_ 0 rfl 5 _ rfl
    have cB6 : w2.cell? ⟨B, 6, none⟩ = some (.int .i64 (y.mn)) := HQ2.out.at_ 0 rfl 6 _ rfl
    have cB7 : w2.cell? ⟨B, 7, none⟩ = some (.int .i64 (y.mx)) := HQ2.out.at_ 0 rfl 7 _ rfl
    have cB8 : w2.cell? ⟨B, 8, none⟩ = some (.int .i64 (y.s)) := HQ2.out.at_ 0 rfl 8 _ rfl
    have cB9 : w2.cell? ⟨B, 9, none⟩ = some (.int .i64 (y.n)) := HQ2.out.at_ 0 rfl 9 _ rfl
    have cA0 : w2.cell? ⟨A, 0, none⟩ = some (.int .i64 (x.id)) := HQ2.out.at_ 1 rfl 0 _ rfl
    have cA1 : w2.cell? ⟨A, 1, none⟩ = some (.int .i64 (x.q)) := HQ2.out.at_ 1 rfl 1 _ rfl
    have cA2 : w2.cell? ⟨A, 2, none⟩ = some (.int .i64 (x.p)) := HQ2.out.at_ 1 rfl 2 _ rfl
    have cA3 : w2.cell? ⟨A, 3, none⟩ = some (.int .i64 (x.r)) := HQ2.out.at_ 1 rfl 3 _ rfl
    have cA4 : w2.cell? ⟨A, 4, none⟩ = some (.int .i64 (x.g)) := HQ2.out.at_ 1 rfl 4 _ rfl
    have cA5 : w2.cell? ⟨A, 5, none⟩ = some (.int .i64 (x.c)) := HQ2.out.at_ 1 rfl 5 _ rfl
    have cA6 : w2.cell? ⟨A, 6, none⟩ = some (.int .i64 (x.mn)) := HQ2.out.at_ 1 rfl 6 _ rfl
    have cA7 : w2.cell? ⟨A, 7, none⟩ = some (.int .i64 (x.mx)) := HQ2.out.at_ 1 rfl 7 _ rfl
    have cA8 : w2.cell? ⟨A, 8, none⟩ = some (.int .i64 (x.s)) := HQ2.out.at_ 1 rfl 8 _ rfl
    have cA9 : w2.cell? ⟨A, 9, none⟩ = some (.int .i64 (x.n)) := HQ2.out.at_ 1 rfl 9 _ rfl
    go_wp2_with fail
    refine (R1.out _).mono ?_
    rintro e w3 ⟨rfl, hb3⟩
    have HQ3 := Lib.hid (HQ2.out.keep hb3)
    clear hb3
    clear HQ2
    clear cB0 cB1 cB2 cB3 cB4 cB5 cB6 cB7 cB8 cB9 cA0 cA1 cA2 cA3 cA4 cA5 cA6 cA7 cA8 cA9
    have cB0 : w3.cell? ⟨B, 0, none⟩ = some (.int .i64 (y.id)) := HQ3.out.at_ 0 rfl 0 _ rfl
    have cB1 : w3.cell? ⟨B, 1, none⟩ = some (.int .i64 (y.q)) := HQ3.out.at_ 0 rfl 1 _ rfl
    have cB2 : w3.cell? ⟨B, 2, none⟩ = some (.int .i64 (y.p)) := HQ3.out.at_ 0 rfl 2 _ rfl
    have cB3 : w3.cell? ⟨B, 3, none⟩ = some (.int .i64 (y.r)) := HQ3.out.at_ 0 rfl 3 _ rfl
    have cB4 : w3.cell? ⟨B, 4, none⟩ = some (.int .i64 (y.g)) := HQ3.out.at_ 0 rfl 4 _ rfl
    have cB5 : w3.cell? ⟨B, 5, none⟩ = some (.int .i64 (y.c)) := HQ3.out.at_ 0 rfl 5 _ rfl
    have cB6 : w3.cell? ⟨B, 6, none⟩ = some (.int .i64 (y.mn)) := HQ3.out.at_ 0 rfl 6 _ rfl
    have cB7 : w3.cell? ⟨B, 7, none⟩ = some (.int .i64 (y.mx)) := HQ3.out.at_ 0 rfl 7 _ rfl
    have cB8 : w3.cell? ⟨B, 8, none⟩ = some (.int .i64 (y.s)) := HQ3.out.at_ 0 rfl 8 _ rfl
    have cB9 : w3.cell? ⟨B, 9, none⟩ = some (.int .i64 (y.n)) := HQ3.out.at_ 0 rfl 9 _ rfl
    have cA0 : w3.cell? ⟨A, 0, none⟩ = some (.int .i64 (x.id)) := HQ3.out.at_ 1 rfl 0 _ rfl
    have cA1 : w3.cell? ⟨A, 1, none⟩ = some (.int .i64 (x.q)) := HQ3.out.at_ 1 rfl 1 _ rfl
    have cA2 : w3.cell? ⟨A, 2, none⟩ = some (.int .i64 (x.p)) := HQ3.out.at_ 1 rfl 2 _ rfl
    have cA3 : w3.cell? ⟨A, 3, none⟩ = some (.int .i64 (x.r)) := HQ3.out.at_ 1 rfl 3 _ rfl
    have cA4 : w3.cell? ⟨A, 4, none⟩ = some (.int .i64 (x.g)) := HQ3.out.at_ 1 rfl 4 _ rfl
    have cA5 : w3.cell? ⟨A, 5, none⟩ = some (.int .i64 (x.c)) := HQ3.out.at_ 1 rfl 5 _ rfl
    have cA6 : w3.cell? ⟨A, 6, none⟩ = some (.int .i64 (x.mn)) := HQ3.out.at_ 1 rfl 6 _ rfl
    have cA7 : w3.cell? ⟨A, 7, none⟩ = some (.int .i64 (x.mx)) := HQ3.out.at_ 1 rfl 7 _ rfl
    have cA8 : w3.cell? ⟨A, 8, none⟩ = some (.int .i64 (x.s)) := HQ3.out.at_ 1 rfl 8 _ rfl
    have cA9 : w3.cell? ⟨A, 9, none⟩ = some (.int .i64 (x.n)) := HQ3.out.at_ 1 rfl 9 _ rfl
    go_wp2
    go_ret
    exact ⟨by first | rfl | (simp; done), HQ3.out.b⟩
  · obtain ⟨hT, hX, hY⟩ : mayA now age = true ∧ mayW x = true ∧ mayW y = true := by simpa using hV
    rw [hV] at A1
    rw [hT, hX] at R1
    have CC : ∀ (p' s' n' : Int) (W : World), (x.p ≤ p' ∧ p' ≤ 15 ∧ 0 ≤ s' ∧ s' ≤ x.s ∧ n' ≤ x.n) → Calls Try.prog 12 #[wtV ⟨x.id, x.q, p', x.r, x.g, x.c, x.mn, x.mx, s', n'⟩, wtV y, .int .i64 now, .int .i64 age] W fun e w' => ∃ u : Bool, e = .returned (.tuple #[.bool u, .int .i64 0]) ∧ (ah = true → u = true) ∧ Below W.heap.size W w' := fun p' s' n' W hh => by
      obtain ⟨x1, x2, x3, x4⟩ := mayW_iff.1 hX
      have hC : mayW ⟨x.id, x.q, p', x.r, x.g, x.c, x.mn, x.mx, s', n'⟩ = true := mayW_iff.2 ⟨by simp only; omega, by simp only; omega, by simp only; omega, by simp only; omega⟩
      refine (pahead_any ⟨x.id, x.q, p', x.r, x.g, x.c, x.mn, x.mx, s', n'⟩ y now age W).mono ?_
      rintro e w' ⟨rfl, hb⟩
      refine ⟨aheadF now age ⟨x.id, x.q, p', x.r, x.g, x.c, x.mn, x.mx, s', n'⟩ y, by rw [hT, hC, hY]; simp, fun h => helps (mayA_iff.1 hT).2.2.1 hh (hah ▸ h), hb⟩
    obtain ⟨rs1, rs2⟩ := rank_small (x := x) (now := now) (age := age) (mayA_iff.1 hT).1 (by have := mayA_iff.1 hT; omega) (mayA_iff.1 hT).2.2.1 hX
    obtain ⟨ru1, ru2⟩ := rank_step (x := x) (now := now) (age := age) (mayA_iff.1 hT).2.2.1
    have R2 : now < 1073741824 → ∀ W, _ := fun h W => prank_any x (now + 1) age W
    obtain ⟨m, hm⟩ : ∃ m, m = rankF x (now + 1) age := ⟨_, rfl⟩
    rw [← hm] at R2 ru1 ru2
    rw [← hrk] at rs1 rs2 ru1 ru2
    clear hm
    have Hah := Lib.hid hah
    have Hrk := Lib.hid hrk
    clear hah hrk
    obtain ⟨t1, t2, g1, g2⟩ := mayA_iff.1 hT
    obtain ⟨x1, x2, x3, x4⟩ := mayW_iff.1 hX
    simp only [Bool.true_and, if_true, Bool.and_self, wtV, wtA, wtO] at A1 R1 CC HQ0 ⊢
    have A1 := Lib.hid A1
    have R1 := Lib.hid R1
    have CC := Lib.hid CC
    by_cases hn : now < 1073741824
    · have c1 : decide (now < 1073741824) = true := decide_eq_true hn
      have R2 := R2 hn
      rw [show (mayA (now + 1) age && mayW x) = true by
        rw [hX, Bool.and_true]; exact mayA_iff.2 ⟨by omega, by omega, g1, g2⟩] at R2
      simp only [if_true, wtV, wtA] at R2
      have R2 := Lib.hid R2
      have t1 : decide (m < rk) = false := decide_eq_false (by omega)
      have t2 : decide (rk + 1 < m) = false := decide_eq_false (by omega)
      have m1 : -2147483650 ≤ m := by omega
      have m2 : m ≤ 2147483670 := by omega
      clear hn ru1 ru2
      go_enter Try.func8, Try.ntmps8
      go_wp2_with fail
      refine (AW.out _).mono ?_
      rintro e w1 ⟨rfl, hb1⟩
      have HQ1 := Lib.hid (HQ0.out.keep hb1)
      clear hb1
      obtain ⟨B, eB⟩ : ∃ q, q = w.heap.size + 1 := ⟨_, rfl⟩
      rw [← eB]
      rw [← eB] at HQ1
      have HeB := Lib.hid eB
      clear eB
      obtain ⟨A, eA⟩ : ∃ q, q = w.heap.size := ⟨_, rfl⟩
      rw [← eA]
      rw [← eA] at HQ1
      have HeA := Lib.hid eA
      clear eA
      have cB0 : w1.cell? ⟨B, 0, none⟩ = some (.int .i64 (y.id)) := HQ1.out.at_ 0 rfl 0 _ rfl
      have cB1 : w1.cell? ⟨B, 1, none⟩ = some (.int .i64 (y.q)) := HQ1.out.at_ 0 rfl 1 _ rfl
      have cB2 : w1.cell? ⟨B, 2, none⟩ = some (.int .i64 (y.p)) := HQ1.out.at_ 0 rfl 2 _ rfl
      have cB3 : w1.cell? ⟨B, 3, none⟩ = some (.int .i64 (y.r)) := HQ1.out.at_ 0 rfl 3 _ rfl
      have cB4 : w1.cell? ⟨B, 4, none⟩ = some (.int .i64 (y.g)) := HQ1.out.at_ 0 rfl 4 _ rfl
      have cB5 : w1.cell? ⟨B, 5, none⟩ = some (.int .i64 (y.c)) := HQ1.out.at_ 0 rfl 5 _ rfl
      have cB6 : w1.cell? ⟨B, 6, none⟩ = some (.int .i64 (y.mn)) := HQ1.out.at_ 0 rfl 6 _ rfl
      have cB7 : w1.cell? ⟨B, 7, none⟩ = some (.int .i64 (y.mx)) := HQ1.out.at_ 0 rfl 7 _ rfl
      have cB8 : w1.cell? ⟨B, 8, none⟩ = some (.int .i64 (y.s)) := HQ1.out.at_ 0 rfl 8 _ rfl
      have cB9 : w1.cell? ⟨B, 9, none⟩ = some (.int .i64 (y.n)) := HQ1.out.at_ 0 rfl 9 _ rfl
      have cA0 : w1.cell? ⟨A, 0, none⟩ = some (.int .i64 (x.id)) := HQ1.out.at_ 1 rfl 0 _ rfl
      have cA1 : w1.cell? ⟨A, 1, none⟩ = some (.int .i64 (x.q)) := HQ1.out.at_ 1 rfl 1 _ rfl
      have cA2 : w1.cell? ⟨A, 2, none⟩ = some (.int .i64 (x.p)) := HQ1.out.at_ 1 rfl 2 _ rfl
      have cA3 : w1.cell? ⟨A, 3, none⟩ = some (.int .i64 (x.r)) := HQ1.out.at_ 1 rfl 3 _ rfl
      have cA4 : w1.cell? ⟨A, 4, none⟩ = some (.int .i64 (x.g)) := HQ1.out.at_ 1 rfl 4 _ rfl
      have cA5 : w1.cell? ⟨A, 5, none⟩ = some (.int .i64 (x.c)) := HQ1.out.at_ 1 rfl 5 _ rfl
      have cA6 : w1.cell? ⟨A, 6, none⟩ = some (.int .i64 (x.mn)) := HQ1.out.at_ 1 rfl 6 _ rfl
      have cA7 : w1.cell? ⟨A, 7, none⟩ = some (.int .i64 (x.mx)) := HQ1.out.at_ 1 rfl 7 _ rfl
      have cA8 : w1.cell? ⟨A, 8, none⟩ = some (.int .i64 (x.s)) := HQ1.out.at_ 1 rfl 8 _ rfl
      have cA9 : w1.cell? ⟨A, 9, none⟩ = some (.int .i64 (x.n)) := HQ1.out.at_ 1 rfl 9 _ rfl
      go_wp2_with fail
      refine (A1.out _).mono ?_
      rintro e w2 ⟨rfl, hb2⟩
      have HQ2 := Lib.hid (HQ1.out.keep hb2)
      clear hb2
      clear HQ1
      clear cB0 cB1 cB2 cB3 cB4 cB5 cB6 cB7 cB8 cB9 cA0 cA1 cA2 cA3 cA4 cA5 cA6 cA7 cA8 cA9
      have cB0 : w2.cell? ⟨B, 0, none⟩ = some (.int .i64 (y.id)) := HQ2.out.at_ 0 rfl 0 _ rfl
      have cB1 : w2.cell? ⟨B, 1, none⟩ = some (.int .i64 (y.q)) := HQ2.out.at_ 0 rfl 1 _ rfl
      have cB2 : w2.cell? ⟨B, 2, none⟩ = some (.int .i64 (y.p)) := HQ2.out.at_ 0 rfl 2 _ rfl
      have cB3 : w2.cell? ⟨B, 3, none⟩ = some (.int .i64 (y.r)) := HQ2.out.at_ 0 rfl 3 _ rfl
      have cB4 : w2.cell? ⟨B, 4, none⟩ = some (.int .i64 (y.g)) := HQ2.out.at_ 0 rfl 4 _ rfl
      have cB5 : w2.cell? ⟨B, 5, none⟩ = some (.int .i64 (y.c)) := HQ2.out.at_ 0 rfl 5 _ rfl
      have cB6 : w2.cell? ⟨B, 6, none⟩ = some (.int .i64 (y.mn)) := HQ2.out.at_ 0 rfl 6 _ rfl
      have cB7 : w2.cell? ⟨B, 7, none⟩ = some (.int .i64 (y.mx)) := HQ2.out.at_ 0 rfl 7 _ rfl
      have cB8 : w2.cell? ⟨B, 8, none⟩ = some (.int .i64 (y.s)) := HQ2.out.at_ 0 rfl 8 _ rfl
      have cB9 : w2.cell? ⟨B, 9, none⟩ = some (.int .i64 (y.n)) := HQ2.out.at_ 0 rfl 9 _ rfl
      have cA0 : w2.cell? ⟨A, 0, none⟩ = some (.int .i64 (x.id)) := HQ2.out.at_ 1 rfl 0 _ rfl
      have cA1 : w2.cell? ⟨A, 1, none⟩ = some (.int .i64 (x.q)) := HQ2.out.at_ 1 rfl 1 _ rfl
      have cA2 : w2.cell? ⟨A, 2, none⟩ = some (.int .i64 (x.p)) := HQ2.out.at_ 1 rfl 2 _ rfl
      have cA3 : w2.cell? ⟨A, 3, none⟩ = some (.int .i64 (x.r)) := HQ2.out.at_ 1 rfl 3 _ rfl
      have cA4 : w2.cell? ⟨A, 4, none⟩ = some (.int .i64 (x.g)) := HQ2.out.at_ 1 rfl 4 _ rfl
      have cA5 : w2.cell? ⟨A, 5, none⟩ = some (.int .i64 (x.c)) := HQ2.out.at_ 1 rfl 5 _ rfl
      have cA6 : w2.cell? ⟨A, 6, none⟩ = some (.int .i64 (x.mn)) := HQ2.out.at_ 1 rfl 6 _ rfl
      have cA7 : w2.cell? ⟨A, 7, none⟩ = some (.int .i64 (x.mx)) := HQ2.out.at_ 1 rfl 7 _ rfl
      have cA8 : w2.cell? ⟨A, 8, none⟩ = some (.int .i64 (x.s)) := HQ2.out.at_ 1 rfl 8 _ rfl
      have cA9 : w2.cell? ⟨A, 9, none⟩ = some (.int .i64 (x.n)) := HQ2.out.at_ 1 rfl 9 _ rfl
      go_wp2_with fail
      refine (R1.out _).mono ?_
      rintro e w3 ⟨rfl, hb3⟩
      have HQ3 := Lib.hid (HQ2.out.keep hb3)
      clear hb3
      clear HQ2
      clear cB0 cB1 cB2 cB3 cB4 cB5 cB6 cB7 cB8 cB9 cA0 cA1 cA2 cA3 cA4 cA5 cA6 cA7 cA8 cA9
      have cB0 : w3.cell? ⟨B, 0, none⟩ = some (.int .i64 (y.id)) := HQ3.out.at_ 0 rfl 0 _ rfl
      have cB1 : w3.cell? ⟨B, 1, none⟩ = some (.int .i64 (y.q)) := HQ3.out.at_ 0 rfl 1 _ rfl
      have cB2 : w3.cell? ⟨B, 2, none⟩ = some (.int .i64 (y.p)) := HQ3.out.at_ 0 rfl 2 _ rfl
      have cB3 : w3.cell? ⟨B, 3, none⟩ = some (.int .i64 (y.r)) := HQ3.out.at_ 0 rfl 3 _ rfl
      have cB4 : w3.cell? ⟨B, 4, none⟩ = some (.int .i64 (y.g)) := HQ3.out.at_ 0 rfl 4 _ rfl
      have cB5 : w3.cell? ⟨B, 5, none⟩ = some (.int .i64 (y.c)) := HQ3.out.at_ 0 rfl 5 _ rfl
      have cB6 : w3.cell? ⟨B, 6, none⟩ = some (.int .i64 (y.mn)) := HQ3.out.at_ 0 rfl 6 _ rfl
      have cB7 : w3.cell? ⟨B, 7, none⟩ = some (.int .i64 (y.mx)) := HQ3.out.at_ 0 rfl 7 _ rfl
      have cB8 : w3.cell? ⟨B, 8, none⟩ = some (.int .i64 (y.s)) := HQ3.out.at_ 0 rfl 8 _ rfl
      have cB9 : w3.cell? ⟨B, 9, none⟩ = some (.int .i64 (y.n)) := HQ3.out.at_ 0 rfl 9 _ rfl
      have cA0 : w3.cell? ⟨A, 0, none⟩ = some (.int .i64 (x.id)) := HQ3.out.at_ 1 rfl 0 _ rfl
      have cA1 : w3.cell? ⟨A, 1, none⟩ = some (.int .i64 (x.q)) := HQ3.out.at_ 1 rfl 1 _ rfl
      have cA2 : w3.cell? ⟨A, 2, none⟩ = some (.int .i64 (x.p)) := HQ3.out.at_ 1 rfl 2 _ rfl
      have cA3 : w3.cell? ⟨A, 3, none⟩ = some (.int .i64 (x.r)) := HQ3.out.at_ 1 rfl 3 _ rfl
      have cA4 : w3.cell? ⟨A, 4, none⟩ = some (.int .i64 (x.g)) := HQ3.out.at_ 1 rfl 4 _ rfl
      have cA5 : w3.cell? ⟨A, 5, none⟩ = some (.int .i64 (x.c)) := HQ3.out.at_ 1 rfl 5 _ rfl
      have cA6 : w3.cell? ⟨A, 6, none⟩ = some (.int .i64 (x.mn)) := HQ3.out.at_ 1 rfl 6 _ rfl
      have cA7 : w3.cell? ⟨A, 7, none⟩ = some (.int .i64 (x.mx)) := HQ3.out.at_ 1 rfl 7 _ rfl
      have cA8 : w3.cell? ⟨A, 8, none⟩ = some (.int .i64 (x.s)) := HQ3.out.at_ 1 rfl 8 _ rfl
      have cA9 : w3.cell? ⟨A, 9, none⟩ = some (.int .i64 (x.n)) := HQ3.out.at_ 1 rfl 9 _ rfl
      go_wp2_with fail
      refine (R2.out _).mono ?_
      rintro e w4 ⟨rfl, hb4⟩
      have HQ4 := Lib.hid (HQ3.out.keep hb4)
      clear hb4
      clear HQ3
      clear cB0 cB1 cB2 cB3 cB4 cB5 cB6 cB7 cB8 cB9 cA0 cA1 cA2 cA3 cA4 cA5 cA6 cA7 cA8 cA9
      have cB0 : w4.cell? ⟨B, 0, none⟩ = some (.int .i64 (y.id)) := HQ4.out.at_ 0 rfl 0 _ rfl
      have cB1 : w4.cell? ⟨B, 1, none⟩ = some (.int .i64 (y.q)) := HQ4.out.at_ 0 rfl 1 _ rfl
      have cB2 : w4.cell? ⟨B, 2, none⟩ = some (.int .i64 (y.p)) := HQ4.out.at_ 0 rfl 2 _ rfl
      have cB3 : w4.cell? ⟨B, 3, none⟩ = some (.int .i64 (y.r)) := HQ4.out.at_ 0 rfl 3 _ rfl
      have cB4 : w4.cell? ⟨B, 4, none⟩ = some (.int .i64 (y.g)) := HQ4.out.at_ 0 rfl 4 _ rfl
      have cB5 : w4.cell? ⟨B, 5, none⟩ = some (.int .i64 (y.c)) := HQ4.out.at_ 0 rfl 5 _ rfl
      have cB6 : w4.cell? ⟨B, 6, none⟩ = some (.int .i64 (y.mn)) := HQ4.out.at_ 0 rfl 6 _ rfl
      have cB7 : w4.cell? ⟨B, 7, none⟩ = some (.int .i64 (y.mx)) := HQ4.out.at_ 0 rfl 7 _ rfl
      have cB8 : w4.cell? ⟨B, 8, none⟩ = some (.int .i64 (y.s)) := HQ4.out.at_ 0 rfl 8 _ rfl
      have cB9 : w4.cell? ⟨B, 9, none⟩ = some (.int .i64 (y.n)) := HQ4.out.at_ 0 rfl 9 _ rfl
      have cA0 : w4.cell? ⟨A, 0, none⟩ = some (.int .i64 (x.id)) := HQ4.out.at_ 1 rfl 0 _ rfl
      have cA1 : w4.cell? ⟨A, 1, none⟩ = some (.int .i64 (x.q)) := HQ4.out.at_ 1 rfl 1 _ rfl
      have cA2 : w4.cell? ⟨A, 2, none⟩ = some (.int .i64 (x.p)) := HQ4.out.at_ 1 rfl 2 _ rfl
      have cA3 : w4.cell? ⟨A, 3, none⟩ = some (.int .i64 (x.r)) := HQ4.out.at_ 1 rfl 3 _ rfl
      have cA4 : w4.cell? ⟨A, 4, none⟩ = some (.int .i64 (x.g)) := HQ4.out.at_ 1 rfl 4 _ rfl
      have cA5 : w4.cell? ⟨A, 5, none⟩ = some (.int .i64 (x.c)) := HQ4.out.at_ 1 rfl 5 _ rfl
      have cA6 : w4.cell? ⟨A, 6, none⟩ = some (.int .i64 (x.mn)) := HQ4.out.at_ 1 rfl 6 _ rfl
      have cA7 : w4.cell? ⟨A, 7, none⟩ = some (.int .i64 (x.mx)) := HQ4.out.at_ 1 rfl 7 _ rfl
      have cA8 : w4.cell? ⟨A, 8, none⟩ = some (.int .i64 (x.s)) := HQ4.out.at_ 1 rfl 8 _ rfl
      have cA9 : w4.cell? ⟨A, 9, none⟩ = some (.int .i64 (x.n)) := HQ4.out.at_ 1 rfl 9 _ rfl
      have lA : A < w4.heap.size := (HQ4.out.c (A, x) (by simp)).2
      have lB : B < w4.heap.size := (HQ4.out.c (B, y) (by simp)).2
      have HB3 := Lib.hid HQ4.out.b
      clear HQ4
      go_wp2_with fail
      all_goals
        refine (CC.out _ _ _ _ ?_).mono ?_
        · omega
        rintro e w9 ⟨u, rfl, hu, hb9⟩
        have HB9 := Lib.hid (below_step (below_step HB3.out ((Below.refl _ _).alloc (Nat.le_refl _) _)) hb9)
        clear hb9 CC
        cases ah
        · clear hu
          cases u
          · go_wp2
            go_ret
            exact ⟨by first | rfl | (simp; done), HB9.out⟩
          · go_wp2
            go_ret
            exact ⟨by first | rfl | (simp; done), HB9.out⟩
        · have hu := hu rfl
          subst hu
          go_wp2
          go_ret
          exact ⟨by first | rfl | (simp; done), HB9.out⟩
    · have c1 : decide (now < 1073741824) = false := decide_eq_false hn
      clear R2 ru1 ru2 hn
      go_enter Try.func8, Try.ntmps8
      go_wp2_with fail
      refine (AW.out _).mono ?_
      rintro e w1 ⟨rfl, hb1⟩
      have HQ1 := Lib.hid (HQ0.out.keep hb1)
      clear hb1
      obtain ⟨B, eB⟩ : ∃ q, q = w.heap.size + 1 := ⟨_, rfl⟩
      rw [← eB]
      rw [← eB] at HQ1
      have HeB := Lib.hid eB
      clear eB
      obtain ⟨A, eA⟩ : ∃ q, q = w.heap.size := ⟨_, rfl⟩
      rw [← eA]
      rw [← eA] at HQ1
      have HeA := Lib.hid eA
      clear eA
      have cB0 : w1.cell? ⟨B, 0, none⟩ = some (.int .i64 (y.id)) := HQ1.out.at_ 0 rfl 0 _ rfl
      have cB1 : w1.cell? ⟨B, 1, none⟩ = some (.int .i64 (y.q)) := HQ1.out.at_ 0 rfl 1 _ rfl
      have cB2 : w1.cell? ⟨B, 2, none⟩ = some (.int .i64 (y.p)) := HQ1.out.at_ 0 rfl 2 _ rfl
      have cB3 : w1.cell? ⟨B, 3, none⟩ = some (.int .i64 (y.r)) := HQ1.out.at_ 0 rfl 3 _ rfl
      have cB4 : w1.cell? ⟨B, 4, none⟩ = some (.int .i64 (y.g)) := HQ1.out.at_ 0 rfl 4 _ rfl
      have cB5 : w1.cell? ⟨B, 5, none⟩ = some (.int .i64 (y.c)) := HQ1.out.at_ 0 rfl 5 _ rfl
      have cB6 : w1.cell? ⟨B, 6, none⟩ = some (.int .i64 (y.mn)) := HQ1.out.at_ 0 rfl 6 _ rfl
      have cB7 : w1.cell? ⟨B, 7, none⟩ = some (.int .i64 (y.mx)) := HQ1.out.at_ 0 rfl 7 _ rfl
      have cB8 : w1.cell? ⟨B, 8, none⟩ = some (.int .i64 (y.s)) := HQ1.out.at_ 0 rfl 8 _ rfl
      have cB9 : w1.cell? ⟨B, 9, none⟩ = some (.int .i64 (y.n)) := HQ1.out.at_ 0 rfl 9 _ rfl
      have cA0 : w1.cell? ⟨A, 0, none⟩ = some (.int .i64 (x.id)) := HQ1.out.at_ 1 rfl 0 _ rfl
      have cA1 : w1.cell? ⟨A, 1, none⟩ = some (.int .i64 (x.q)) := HQ1.out.at_ 1 rfl 1 _ rfl
      have cA2 : w1.cell? ⟨A, 2, none⟩ = some (.int .i64 (x.p)) := HQ1.out.at_ 1 rfl 2 _ rfl
      have cA3 : w1.cell? ⟨A, 3, none⟩ = some (.int .i64 (x.r)) := HQ1.out.at_ 1 rfl 3 _ rfl
      have cA4 : w1.cell? ⟨A, 4, none⟩ = some (.int .i64 (x.g)) := HQ1.out.at_ 1 rfl 4 _ rfl
      have cA5 : w1.cell? ⟨A, 5, none⟩ = some (.int .i64 (x.c)) := HQ1.out.at_ 1 rfl 5 _ rfl
      have cA6 : w1.cell? ⟨A, 6, none⟩ = some (.int .i64 (x.mn)) := HQ1.out.at_ 1 rfl 6 _ rfl
      have cA7 : w1.cell? ⟨A, 7, none⟩ = some (.int .i64 (x.mx)) := HQ1.out.at_ 1 rfl 7 _ rfl
      have cA8 : w1.cell? ⟨A, 8, none⟩ = some (.int .i64 (x.s)) := HQ1.out.at_ 1 rfl 8 _ rfl
      have cA9 : w1.cell? ⟨A, 9, none⟩ = some (.int .i64 (x.n)) := HQ1.out.at_ 1 rfl 9 _ rfl
      go_wp2_with fail
      refine (A1.out _).mono ?_
      rintro e w2 ⟨rfl, hb2⟩
      have HQ2 := Lib.hid (HQ1.out.keep hb2)
      clear hb2
      clear HQ1
      clear cB0 cB1 cB2 cB3 cB4 cB5 cB6 cB7 cB8 cB9 cA0 cA1 cA2 cA3 cA4 cA5 cA6 cA7 cA8 cA9
      have cB0 : w2.cell? ⟨B, 0, none⟩ = some (.int .i64 (y.id)) := HQ2.out.at_ 0 rfl 0 _ rfl
      have cB1 : w2.cell? ⟨B, 1, none⟩ = some (.int .i64 (y.q)) := HQ2.out.at_ 0 rfl 1 _ rfl
      have cB2 : w2.cell? ⟨B, 2, none⟩ = some (.int .i64 (y.p)) := HQ2.out.at_ 0 rfl 2 _ rfl
      have cB3 : w2.cell? ⟨B, 3, none⟩ = some (.int .i64 (y.r)) := HQ2.out.at_ 0 rfl 3 _ rfl
      have cB4 : w2.cell? ⟨B, 4, none⟩ = some (.int .i64 (y.g)) := HQ2.out.at_ 0 rfl 4 _ rfl
      have cB5 : w2.cell? ⟨B, 5, none⟩ = some (.int .i64 (y.c)) := HQ2.out.at_ 0 rfl 5 _ rfl
      have cB6 : w2.cell? ⟨B, 6, none⟩ = some (.int .i64 (y.mn)) := HQ2.out.at_ 0 rfl 6 _ rfl
      have cB7 : w2.cell? ⟨B, 7, none⟩ = some (.int .i64 (y.mx)) := HQ2.out.at_ 0 rfl 7 _ rfl
      have cB8 : w2.cell? ⟨B, 8, none⟩ = some (.int .i64 (y.s)) := HQ2.out.at_ 0 rfl 8 _ rfl
      have cB9 : w2.cell? ⟨B, 9, none⟩ = some (.int .i64 (y.n)) := HQ2.out.at_ 0 rfl 9 _ rfl
      have cA0 : w2.cell? ⟨A, 0, none⟩ = some (.int .i64 (x.id)) := HQ2.out.at_ 1 rfl 0 _ rfl
      have cA1 : w2.cell? ⟨A, 1, none⟩ = some (.int .i64 (x.q)) := HQ2.out.at_ 1 rfl 1 _ rfl
      have cA2 : w2.cell? ⟨A, 2, none⟩ = some (.int .i64 (x.p)) := HQ2.out.at_ 1 rfl 2 _ rfl
      have cA3 : w2.cell? ⟨A, 3, none⟩ = some (.int .i64 (x.r)) := HQ2.out.at_ 1 rfl 3 _ rfl
      have cA4 : w2.cell? ⟨A, 4, none⟩ = some (.int .i64 (x.g)) := HQ2.out.at_ 1 rfl 4 _ rfl
      have cA5 : w2.cell? ⟨A, 5, none⟩ = some (.int .i64 (x.c)) := HQ2.out.at_ 1 rfl 5 _ rfl
      have cA6 : w2.cell? ⟨A, 6, none⟩ = some (.int .i64 (x.mn)) := HQ2.out.at_ 1 rfl 6 _ rfl
      have cA7 : w2.cell? ⟨A, 7, none⟩ = some (.int .i64 (x.mx)) := HQ2.out.at_ 1 rfl 7 _ rfl
      have cA8 : w2.cell? ⟨A, 8, none⟩ = some (.int .i64 (x.s)) := HQ2.out.at_ 1 rfl 8 _ rfl
      have cA9 : w2.cell? ⟨A, 9, none⟩ = some (.int .i64 (x.n)) := HQ2.out.at_ 1 rfl 9 _ rfl
      go_wp2_with fail
      refine (R1.out _).mono ?_
      rintro e w3 ⟨rfl, hb3⟩
      have HQ3 := Lib.hid (HQ2.out.keep hb3)
      clear hb3
      clear HQ2
      clear cB0 cB1 cB2 cB3 cB4 cB5 cB6 cB7 cB8 cB9 cA0 cA1 cA2 cA3 cA4 cA5 cA6 cA7 cA8 cA9
      have cB0 : w3.cell? ⟨B, 0, none⟩ = some (.int .i64 (y.id)) := HQ3.out.at_ 0 rfl 0 _ rfl
      have cB1 : w3.cell? ⟨B, 1, none⟩ = some (.int .i64 (y.q)) := HQ3.out.at_ 0 rfl 1 _ rfl
      have cB2 : w3.cell? ⟨B, 2, none⟩ = some (.int .i64 (y.p)) := HQ3.out.at_ 0 rfl 2 _ rfl
      have cB3 : w3.cell? ⟨B, 3, none⟩ = some (.int .i64 (y.r)) := HQ3.out.at_ 0 rfl 3 _ rfl
      have cB4 : w3.cell? ⟨B, 4, none⟩ = some (.int .i64 (y.g)) := HQ3.out.at_ 0 rfl 4 _ rfl
      have cB5 : w3.cell? ⟨B, 5, none⟩ = some (.int .i64 (y.c)) := HQ3.out.at_ 0 rfl 5 _ rfl
      have cB6 : w3.cell? ⟨B, 6, none⟩ = some (.int .i64 (y.mn)) := HQ3.out.at_ 0 rfl 6 _ rfl
      have cB7 : w3.cell? ⟨B, 7, none⟩ = some (.int .i64 (y.mx)) := HQ3.out.at_ 0 rfl 7 _ rfl
      have cB8 : w3.cell? ⟨B, 8, none⟩ = some (.int .i64 (y.s)) := HQ3.out.at_ 0 rfl 8 _ rfl
      have cB9 : w3.cell? ⟨B, 9, none⟩ = some (.int .i64 (y.n)) := HQ3.out.at_ 0 rfl 9 _ rfl
      have cA0 : w3.cell? ⟨A, 0, none⟩ = some (.int .i64 (x.id)) := HQ3.out.at_ 1 rfl 0 _ rfl
      have cA1 : w3.cell? ⟨A, 1, none⟩ = some (.int .i64 (x.q)) := HQ3.out.at_ 1 rfl 1 _ rfl
      have cA2 : w3.cell? ⟨A, 2, none⟩ = some (.int .i64 (x.p)) := HQ3.out.at_ 1 rfl 2 _ rfl
      have cA3 : w3.cell? ⟨A, 3, none⟩ = some (.int .i64 (x.r)) := HQ3.out.at_ 1 rfl 3 _ rfl
      have cA4 : w3.cell? ⟨A, 4, none⟩ = some (.int .i64 (x.g)) := HQ3.out.at_ 1 rfl 4 _ rfl
      have cA5 : w3.cell? ⟨A, 5, none⟩ = some (.int .i64 (x.c)) := HQ3.out.at_ 1 rfl 5 _ rfl
      have cA6 : w3.cell? ⟨A, 6, none⟩ = some (.int .i64 (x.mn)) := HQ3.out.at_ 1 rfl 6 _ rfl
      have cA7 : w3.cell? ⟨A, 7, none⟩ = some (.int .i64 (x.mx)) := HQ3.out.at_ 1 rfl 7 _ rfl
      have cA8 : w3.cell? ⟨A, 8, none⟩ = some (.int .i64 (x.s)) := HQ3.out.at_ 1 rfl 8 _ rfl
      have cA9 : w3.cell? ⟨A, 9, none⟩ = some (.int .i64 (x.n)) := HQ3.out.at_ 1 rfl 9 _ rfl
      have lA : A < w3.heap.size := (HQ3.out.c (A, x) (by simp)).2
      have lB : B < w3.heap.size := (HQ3.out.c (B, y) (by simp)).2
      have HB3 := Lib.hid HQ3.out.b
      clear HQ3
      go_wp2_with fail
      all_goals
        refine (CC.out _ _ _ _ ?_).mono ?_
        · omega
        rintro e w9 ⟨u, rfl, hu, hb9⟩
        have HB9 := Lib.hid (below_step (below_step HB3.out ((Below.refl _ _).alloc (Nat.le_refl _) _)) hb9)
        clear hb9 CC
        cases ah
        · clear hu
          cases u
          · go_wp2
            go_ret
            exact ⟨by first | rfl | (simp; done), HB9.out⟩
          · go_wp2
            go_ret
            exact ⟨by first | rfl | (simp; done), HB9.out⟩
        · have hu := hu rfl
          subst hu
          go_wp2
          go_ret
          exact ⟨by first | rfl | (simp; done), HB9.out⟩

set_option maxRecDepth 100000 in
set_option maxHeartbeats 1000000 in
theorem lifted (os : Os) (started : os.Started) (H : Type) (enc : TypeId × Value → H) :
    ReturnsInHanded {} Try.checked os 8 .any (Rows.orderHelpsSpec.pre6 enc Try.prog Try.f8 Rows.orderHelpsRow.domain false) (Rows.orderHelpsSpec.post enc Try.prog Try.f8 false true false false) := by
  refine returnsInHanded_of_change (C := Try.checked) own started (by kernel_rfl) Try.func8
    (ChangeSpec.witness6 (enc := enc) (C := Try.checked) false ⟨#[], #[.agg #[.int .i64 0, .int .i64 0, .int .i64 0, .int .i64 0, .int .i64 0, .int .i64 0, .int .i64 0, .int .i64 0, .int .i64 0, .int .i64 0], .agg #[.int .i64 0, .int .i64 0, .int .i64 0, .int .i64 0, .int .i64 0, .int .i64 0, .int .i64 0, .int .i64 0, .int .i64 0, .int .i64 0], .int .i64 0, .int .i64 0, .int .u8 0, .int .u8 0, .int .u8 0], []⟩ 8 (by kernel_rfl) (by kernel_rfl) (by kernel_rfl) (by kernel_rfl)) ?_
  intro W base args ds gs before hval0 hW _ _
  have hval : ∀ (j : Nat) t v, Try.f8.params[j]? = some t → args[j]? = some v → Value.okWide Try.prog W .any base t v := hval0
  have hW' := hW
  obtain ⟨p, q, hA0, hV, rfl, hfz, hnd⟩ := hW
  have hA : DataW.TrodAll enc Try.prog W 0 (fun _ => true) true Try.f8.params.toList args.toList ds p := hA0
  rw [Try.params8] at hA hval
  obtain ⟨v0, vs0, d0, ds0, p0, q0, hargs, rfl, rfl, h0, r0⟩ := trodAll_cons hA
  obtain ⟨v1, vs1, d1, ds1, p1, q1, rfl, rfl, rfl, h1, r1⟩ := trodAll_cons r0
  obtain ⟨v2, vs2, d2, ds2, p2, q2, rfl, rfl, rfl, h2, r2⟩ := trodAll_cons r1
  obtain ⟨v3, vs3, d3, ds3, p3, q3, rfl, rfl, rfl, h3, r3⟩ := trodAll_cons r2
  obtain ⟨v4, vs4, d4, ds4, p4, q4, rfl, rfl, rfl, h4, r4⟩ := trodAll_cons r3
  obtain ⟨v5, vs5, d5, ds5, p5, q5, rfl, rfl, rfl, h5, r5⟩ := trodAll_cons r4
  obtain ⟨v6, vs6, d6, ds6, p6, q6, rfl, rfl, rfl, h6, r6⟩ := trodAll_cons r5
  obtain ⟨rfl, rfl, rfl⟩ := trodAll_nil r6
  obtain rfl : args = #[v0, v1, v2, v3, v4, v5, v6] := by cases args; simp_all
  obtain ⟨rfl, rfl⟩ := trodVars_none hV
  have k0 := h0
  have lt0 : ∀ x ∈ p0, x.block < W.heap.size := by obtain ⟨m, hm⟩ := k0; exact DataW.trod_lt m _ _ _ hm
  obtain ⟨x0, rfl, w0⟩ := wt_of (hval 0 27 v0 rfl rfl) h0
  have k1 := h1
  have lt1 : ∀ x ∈ p1, x.block < W.heap.size := by obtain ⟨m, hm⟩ := k1; exact DataW.trod_lt m _ _ _ hm
  obtain ⟨x1, rfl, w1⟩ := wt_of (hval 1 27 v1 rfl rfl) h1
  have k2 := h2
  have lt2 : ∀ x ∈ p2, x.block < W.heap.size := by obtain ⟨m, hm⟩ := k2; exact DataW.trod_lt m _ _ _ hm
  obtain ⟨a2, rfl, _, _, w2⟩ := open_int Try.underlying3 (hval 2 3 v2 rfl rfl) h2
  have k3 := h3
  have lt3 : ∀ x ∈ p3, x.block < W.heap.size := by obtain ⟨m, hm⟩ := k3; exact DataW.trod_lt m _ _ _ hm
  obtain ⟨a3, rfl, _, _, w3⟩ := open_int Try.underlying3 (hval 3 3 v3 rfl rfl) h3
  have k4 := h4
  have lt4 : ∀ x ∈ p4, x.block < W.heap.size := by obtain ⟨m, hm⟩ := k4; exact DataW.trod_lt m _ _ _ hm
  obtain ⟨a4, rfl, _, _, w4⟩ := open_int Try.underlying5 (hval 4 5 v4 rfl rfl) h4
  have k5 := h5
  have lt5 : ∀ x ∈ p5, x.block < W.heap.size := by obtain ⟨m, hm⟩ := k5; exact DataW.trod_lt m _ _ _ hm
  obtain ⟨a5, rfl, _, _, w5⟩ := open_int Try.underlying5 (hval 5 5 v5 rfl rfl) h5
  have k6 := h6
  have lt6 : ∀ x ∈ p6, x.block < W.heap.size := by obtain ⟨m, hm⟩ := k6; exact DataW.trod_lt m _ _ _ hm
  obtain ⟨a6, rfl, _, _, w6⟩ := open_int Try.underlying5 (hval 6 5 v6 rfl rfl) h6
  clear hA0 hval0
  refine (walk x0 x1 a2 a3 a4 a5 a6 W w0 w1 w2 w3 w4 w5 w6).mono fun e W' ⟨he, bel⟩ => ?_
  subst he
  exact ⟨_, rfl, _, _, _, [], _, [], hW', trodAll_mk1 (shut_bool Try.underlying4 _), (trodAll_cons_mk (Below.trod laidOut (by kernel_rfl) (of_decide_eq_true (by kernel_rfl)) k0 bel lt0) (trodAll_cons_mk (Below.trod laidOut (by kernel_rfl) (of_decide_eq_true (by kernel_rfl)) k1 bel lt1) (trodAll_cons_mk (Below.trod laidOut (by kernel_rfl) (of_decide_eq_true (by kernel_rfl)) k2 bel lt2) (trodAll_cons_mk (Below.trod laidOut (by kernel_rfl) (of_decide_eq_true (by kernel_rfl)) k3 bel lt3) (trodAll_cons_mk (Below.trod laidOut (by kernel_rfl) (of_decide_eq_true (by kernel_rfl)) k4 bel lt4) (trodAll_cons_mk (Below.trod laidOut (by kernel_rfl) (of_decide_eq_true (by kernel_rfl)) k5 bel lt5) (trodAll_cons_mk (Below.trod laidOut (by kernel_rfl) (of_decide_eq_true (by kernel_rfl)) k6 bel lt6) trodAll_mk0))))))), rfl, bel.frame _, fun h => by cases h⟩

/-- THE STATEMENT. -/
theorem holds : Rows.OrderHelpsSaid :=
  OpenClaim.holds_of_wide 8 Try.f8 rfl rfl rfl rfl rfl rfl rfl ⟨rfl, rfl, rfl, rfl, rfl⟩ rfl rfl rfl rfl rfl (by kernel_rfl) Try.func8 (by kernel_rfl)
    (of_decide_eq_true (by kernel_rfl)) (by unfold Func.isWrapper; first | (rw [if_pos (by decide +kernel)]; kernel_rfl) | (rw [if_neg (by decide +kernel)]; exact ⟨rfl, rfl⟩))
    (fun os started H enc _ => lifted os started H enc)
end Go.Proofs.Ytbknkfpgejkmoaa.orderHelps
