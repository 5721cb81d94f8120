/- Fits of package promise: is there room for the want's members, and what they need left? -/
import Derived.RegionTactic
import Derived.BigRegion
import Derived.Test.YtmejcmoodbbmoaaGreatDoorProR
set_option linter.unusedVariables false
set_option maxRecDepth 100000
namespace Go.Proofs.YtmejcmoodbbmoaaGreatDoor
open Go.RowKit
set_option maxHeartbeats 4000000 in
theorem pfits_any (A : Option Addr) (c B : Nat) (l : List Fe) (g0 c0 : Int) (X : Wa) (w : World) (h : Fes w B A l) (hB : B ≤ w.heap.size) (hn : l.length ≤ 100000) (hf : ∀ f ∈ l, FeOk f) (hw : WaOk X) (hT : Tab w) :
  Calls Tryz.prog 107 #[.slice A l.length c, .agg #[.int .i64 g0, .int .i64 c0], waV X] w fun e w' => e = .returned (.bool (PR.fits l g0 c0 X)) ∧ Below w.heap.size w w' := by
 obtain ⟨n, hnn⟩ : ∃ n, n = l.length := ⟨_, rfl⟩
 obtain ⟨r, hr⟩ := nx (roomF X.S l)
 have hR := Lib.hid (fun W (hW : Below w.heap.size w W) => show Calls Tryz.prog 121 #[.slice A n c, .agg #[.int .i64 X.S.g, .int .i64 X.S.c, .int .i64 X.S.mn, .int .i64 X.S.mx]] W (fun e w' => e = .returned (.int .i64 (r : Nat)) ∧ Below W.heap.size W w') from by
  rw [hr, hnn]
  exact room_any A c W.heap.size l X.S W (h.keep (hW.mono hB) (Nat.le_trans hB hW.size)) (Nat.le_refl _) (by omega) hw.S hf (hT.below hW hT.size))
 have hN := Lib.hid (fun W => need_any X W hw)
 obtain ⟨b, hb⟩ := nx (PR.fits l g0 c0 X)
 rw [← hnn, ← hb]
 unfold PR.fits at hb
 rw [← hr] at hb
 unfold waV waA at *
 cases hok : X.ok
 ·have hE : (if X.ok = true then (0 : Int) else 1) = 1 := by rw [hok]; rfl
  simp only [hok, Bool.false_eq_true, if_false] at hN
  obtain rfl : b = false := by rw [hb, hok]; rfl
  obtain ⟨G, hG⟩ := nx (X.g)
  obtain ⟨C, hC⟩ := nx (X.c)
  rw [← hG, ← hC] at hN
  clear hb hr hok hE hG hC h hf hw hT hnn hn
  obtain ⟨B0, hB0⟩ := nx (w.heap.size)
  rw [← hB0]
  have HB0 := Lib.hid hB0
  clear hB0
  have HBel := Lib.hid (Below.refl w.heap.size w)
  have hlow : w.heap.size ≤ w.heap.size := Nat.le_refl _
  go_enter Tryz.func107, Tryz.ntmps107
  go_wp2_with fail
  obtain ⟨V1, hV1⟩ := nx ((w.alloc (.cells #[.int .i64 g0, .int .i64 c0] 42)).alloc (.cells #[.int .i64 X.q, .int .i64 X.n, .int .i64 X.S.g, .int .i64 X.S.c, .int .i64 X.S.mn, .int .i64 X.S.mx] 47))
  rw [← hV1]
  have hzV1 := sz2 hV1
  replace HBel := be2 hV1 HBel hlow
  have B_l := Lib.hid (new20 hV1)
  have B_b := Lib.hid (new21 hV1)
  obtain ⟨N_l, hN_l⟩ := nx (w.heap.size)
  obtain ⟨N_b, hN_b⟩ := nx (w.heap.size + 1)
  (try rw [← hN_b])
  rw [← hN_b] at B_b
  (try rw [← hN_l])
  rw [← hN_l] at B_l
  have l_l : N_l < V1.heap.size := by omega
  have l_b : N_b < V1.heap.size := by omega
  have g_l : w.heap.size ≤ N_l := by omega
  have g_b : w.heap.size ≤ N_b := by omega
  have d_l_b : N_l < N_b := by omega
  replace hlow : w.heap.size ≤ V1.heap.size := by omega
  clear hV1 hzV1 hN_l hN_b
  refine (hN.out V1).mono ?_
  rintro e U2 ⟨rfl, hb9⟩
  have hs9 := hb9.size
  replace HBel := bt9 HBel hb9 hlow
  replace B_l := bb9 hb9 B_l l_l
  replace B_b := bb9 hb9 B_b l_b
  replace l_l : N_l < U2.heap.size := by omega
  replace l_b : N_b < U2.heap.size := by omega
  replace hlow : w.heap.size ≤ U2.heap.size := by omega
  clear hb9 hs9
  go_wp2_with fail
  obtain ⟨V3, hV3⟩ := nx (U2.alloc (.cells #[.int .i64 G, .int .i64 C] 42))
  rw [← hV3]
  have hzV3 := sz1 hV3
  replace HBel := be1 hV3 HBel hlow
  replace B_l := bk1 hV3 B_l l_l
  replace B_b := bk1 hV3 B_b l_b
  have B_u := Lib.hid (new10 hV3)
  obtain ⟨N_u, hN_u⟩ := nx (U2.heap.size)
  (try rw [← hN_u])
  rw [← hN_u] at B_u
  have d_l_u : N_l < N_u := by omega
  have d_b_u : N_b < N_u := by omega
  replace l_l : N_l < V3.heap.size := by omega
  replace l_b : N_b < V3.heap.size := by omega
  have l_u : N_u < V3.heap.size := by omega
  have g_u : w.heap.size ≤ N_u := by omega
  replace hlow : w.heap.size ≤ V3.heap.size := by omega
  clear hV3 hzV3 hN_u
  obtain ⟨l0, l1⟩ := cells2 B_l.out
  obtain ⟨b0, b1, b2, b3, b4, b5⟩ := cells6 B_b.out
  obtain ⟨u0, u1⟩ := cells2 B_u.out
  refine held_begin (fun w' : World => w'.cell? ⟨N_l, 0, none⟩ = some (.int .i64 g0) ∧ w'.cell? ⟨N_l, 1, none⟩ = some (.int .i64 c0) ∧ w'.cell? ⟨N_b, 0, none⟩ = some (.int .i64 X.q) ∧ w'.cell? ⟨N_b, 1, none⟩ = some (.int .i64 X.n) ∧ w'.cell? ⟨N_b, 2, none⟩ = some (.int .i64 X.S.g) ∧ w'.cell? ⟨N_b, 3, none⟩ = some (.int .i64 X.S.c) ∧ w'.cell? ⟨N_b, 4, none⟩ = some (.int .i64 X.S.mn) ∧ w'.cell? ⟨N_b, 5, none⟩ = some (.int .i64 X.S.mx) ∧ w'.cell? ⟨N_u, 0, none⟩ = some (.int .i64 G) ∧ w'.cell? ⟨N_u, 1, none⟩ = some (.int .i64 C)) (by kernel_rfl) ?_
  have hBh0 : Below V3.heap.size V3 V3.drew := (Below.refl _ _).drew
  have hSh0 := And.intro l0 (And.intro l1 (And.intro b0 (And.intro b1 (And.intro b2 (And.intro b3 (And.intro b4 (And.intro b5 (And.intro u0 u1))))))))
  refine tkH ?_ 0 14 ?_ hSh0 ?_;rotate_left
  ·rintro w' ⟨x0, x1, x2, x3, x4, x5, x6, x7, x8, x9⟩;go_simp;(try with_reducible rfl)
  simp only [Act.put, pzA, pzB, pzC]
  refine tkH ?_ 1 15 ?_ hSh0 ?_;rotate_left
  ·rintro w' ⟨x0, x1, x2, x3, x4, x5, x6, x7, x8, x9⟩;go_simp;(try with_reducible rfl)
  simp only [Act.put, pzA, pzB, pzC]
  refine tkH ?_ 2 16 ?_ hSh0 ?_;rotate_left
  ·rintro w' ⟨x0, x1, x2, x3, x4, x5, x6, x7, x8, x9⟩;go_simp;(try with_reducible rfl)
  simp only [Act.put, pzA, pzB, pzC]
  refine held_skipK 3 17 rfl rfl (by rfl) hSh0 ?_
  simp only [Act.put, pzA, pzB, pzC]
  refine held_skipK 4 18 rfl rfl (by rfl) hSh0 ?_
  simp only [Act.put, pzA, pzB, pzC]
  refine held_skipK 5 19 rfl rfl (by rfl) hSh0 ?_
  simp only [Act.put, pzA, pzB, pzC]
  refine held_skipK 6 20 rfl rfl (by rfl) hSh0 ?_
  simp only [Act.put, pzA, pzB, pzC]
  refine held_skipK 7 21 rfl rfl (by rfl) hSh0 ?_
  simp only [Act.put, pzA, pzB, pzC]
  refine tkH ?_ 8 22 ?_ hSh0 ?_;rotate_left
  ·rintro w' ⟨x0, x1, x2, x3, x4, x5, x6, x7, x8, x9⟩;go_simp;(try with_reducible rfl)
  simp only [Act.put, pzA, pzB, pzC]
  refine tkH ?_ 9 23 ?_ hSh0 ?_;rotate_left
  ·rintro w' ⟨x0, x1, x2, x3, x4, x5, x6, x7, x8, x9⟩;go_simp;(try with_reducible rfl)
  simp only [Act.put, pzA, pzB, pzC]
  refine held_skipK 10 24 rfl rfl (by rfl) hSh0 ?_
  simp only [Act.put, pzA, pzB, pzC]
  refine held_skipK 11 25 rfl rfl (by rfl) hSh0 ?_
  simp only [Act.put, pzA, pzB, pzC]
  refine held_skipK 12 26 rfl rfl (by rfl) hSh0 ?_
  simp only [Act.put, pzA, pzB, pzC]
  refine held_skipK 13 27 rfl rfl (by rfl) hSh0 ?_
  simp only [Act.put, pzA, pzB, pzC]
  refine held_skipK 14 28 rfl rfl (by rfl) hSh0 ?_
  simp only [Act.put, pzA, pzB, pzC]
  refine tkH ?_ 15 29 ?_ hSh0 ?_;rotate_left
  ·rintro w' ⟨x0, x1, x2, x3, x4, x5, x6, x7, x8, x9⟩;go_simp;(try with_reducible rfl)
  simp only [Act.put, pzA, pzB, pzC]
  refine tkH ?_ 16 30 ?_ hSh0 ?_;rotate_left
  ·rintro w' ⟨x0, x1, x2, x3, x4, x5, x6, x7, x8, x9⟩;go_simp;(try with_reducible rfl)
  simp only [Act.put, pzA, pzB, pzC]
  refine held_skipK 17 31 rfl rfl (by rfl) hSh0 ?_
  simp only [Act.put, pzA, pzB, pzC]
  refine held_skipK 18 32 rfl rfl (by rfl) hSh0 ?_
  simp only [Act.put, pzA, pzB, pzC]
  refine held_skipK 19 33 rfl rfl (by rfl) hSh0 ?_
  simp only [Act.put, pzA, pzB, pzC]
  refine held_skipK 21 35 rfl rfl (by rfl) hSh0 ?_
  simp only [Act.put, pzA, pzB, pzC]
  refine held_skipK 22 36 rfl rfl (by rfl) hSh0 ?_
  simp only [Act.put, pzA, pzB, pzC]
  refine held_skipK 20 34 rfl rfl (by rfl) hSh0 ?_
  simp only [Act.put, pzA, pzB, pzC]
  refine held_skipK 23 37 rfl rfl (by rfl) hSh0 ?_
  simp only [Act.put, pzA, pzB, pzC]
  refine tkH ?_ 24 38 ?_ hSh0 ?_;rotate_left
  ·rintro w' ⟨x0, x1, x2, x3, x4, x5, x6, x7, x8, x9⟩;go_simp;(try with_reducible rfl)
  simp only [Act.put, pzA, pzB, pzC]
  refine tkH ?_ 25 6 ?_ hSh0 ?_;rotate_left
  ·rintro w' ⟨x0, x1, x2, x3, x4, x5, x6, x7, x8, x9⟩;go_simp;(try with_reducible rfl)
  simp only [Act.put, pzA, pzB, pzC]
  refine wpAnyH_done (by kernel_rfl) ?_ _
  obtain ⟨D4, hD9⟩ : ∃ D, D = V3.drew := ⟨_, rfl⟩
  have hb9 : Below V3.heap.size V3 D4 := by rw [hD9]; exact hBh0
  rw [← hD9]
  clear hD9
  clear l0 l1 b0 b1 b2 b3 b4 b5 u0 u1
  have hs9 := hb9.size
  replace HBel := bt9 HBel hb9 hlow
  replace B_l := bb9 hb9 B_l l_l
  replace B_b := bb9 hb9 B_b l_b
  replace B_u := bb9 hb9 B_u l_u
  replace l_l : N_l < D4.heap.size := by omega
  replace l_b : N_b < D4.heap.size := by omega
  replace l_u : N_u < D4.heap.size := by omega
  replace hlow : w.heap.size ≤ D4.heap.size := by omega
  clear hb9 hs9
  go_wp2
  go_ret
  exact ⟨by first | rfl | simp, by rw [HB0.out]; exact HBel.out⟩
 have eg : X.S.g * X.n = X.g := by unfold Wa.g; rw [hok]; rfl
 have ec : X.S.c * X.n = X.c := by unfold Wa.c; rw [hok]; rfl
 rw [hok, eg, ec] at hb
 simp only [hok, if_true] at hN
 obtain ⟨G, hG⟩ := nx (X.g)
 obtain ⟨C, hC⟩ := nx (X.c)
 rw [← hG, ← hC] at hN hb
 clear hr hok hG hC h hf hw hT eg ec hnn hn
 by_cases h1 : G ≤ g0
 ·have t1 : decide (G ≤ g0) = true := decide_eq_true h1
  by_cases h2 : C ≤ c0
  ·have t2 : decide (C ≤ c0) = true := decide_eq_true h2
   have t3 : decide ((r : Int) ≥ X.n) = decide (X.n ≤ (r : Int)) := rfl
   obtain rfl : b = decide (X.n ≤ (r : Int)) := by rw [hb]; simp [h1, h2]
   clear hb h1 h2
   obtain ⟨B0, hB0⟩ := nx (w.heap.size)
   rw [← hB0]
   have HB0 := Lib.hid hB0
   clear hB0
   have HBel := Lib.hid (Below.refl w.heap.size w)
   have hlow : w.heap.size ≤ w.heap.size := Nat.le_refl _
   go_enter Tryz.func107, Tryz.ntmps107
   go_wp2_with fail
   obtain ⟨V1, hV1⟩ := nx ((w.alloc (.cells #[.int .i64 g0, .int .i64 c0] 42)).alloc (.cells #[.int .i64 X.q, .int .i64 X.n, .int .i64 X.S.g, .int .i64 X.S.c, .int .i64 X.S.mn, .int .i64 X.S.mx] 47))
   rw [← hV1]
   have hzV1 := sz2 hV1
   replace HBel := be2 hV1 HBel hlow
   have B_l := Lib.hid (new20 hV1)
   have B_b := Lib.hid (new21 hV1)
   obtain ⟨N_l, hN_l⟩ := nx (w.heap.size)
   obtain ⟨N_b, hN_b⟩ := nx (w.heap.size + 1)
   (try rw [← hN_b])
   rw [← hN_b] at B_b
   (try rw [← hN_l])
   rw [← hN_l] at B_l
   have l_l : N_l < V1.heap.size := by omega
   have l_b : N_b < V1.heap.size := by omega
   have g_l : w.heap.size ≤ N_l := by omega
   have g_b : w.heap.size ≤ N_b := by omega
   have d_l_b : N_l < N_b := by omega
   replace hlow : w.heap.size ≤ V1.heap.size := by omega
   clear hV1 hzV1 hN_l hN_b
   refine (hN.out V1).mono ?_
   rintro e U2 ⟨rfl, hb9⟩
   have hs9 := hb9.size
   replace HBel := bt9 HBel hb9 hlow
   replace B_l := bb9 hb9 B_l l_l
   replace B_b := bb9 hb9 B_b l_b
   replace l_l : N_l < U2.heap.size := by omega
   replace l_b : N_b < U2.heap.size := by omega
   replace hlow : w.heap.size ≤ U2.heap.size := by omega
   clear hb9 hs9
   go_wp2_with fail
   obtain ⟨V3, hV3⟩ := nx (U2.alloc (.cells #[.int .i64 G, .int .i64 C] 42))
   rw [← hV3]
   have hzV3 := sz1 hV3
   replace HBel := be1 hV3 HBel hlow
   replace B_l := bk1 hV3 B_l l_l
   replace B_b := bk1 hV3 B_b l_b
   have B_u := Lib.hid (new10 hV3)
   obtain ⟨N_u, hN_u⟩ := nx (U2.heap.size)
   (try rw [← hN_u])
   rw [← hN_u] at B_u
   have d_l_u : N_l < N_u := by omega
   have d_b_u : N_b < N_u := by omega
   replace l_l : N_l < V3.heap.size := by omega
   replace l_b : N_b < V3.heap.size := by omega
   have l_u : N_u < V3.heap.size := by omega
   have g_u : w.heap.size ≤ N_u := by omega
   replace hlow : w.heap.size ≤ V3.heap.size := by omega
   clear hV3 hzV3 hN_u
   obtain ⟨l0, l1⟩ := cells2 B_l.out
   obtain ⟨b0, b1, b2, b3, b4, b5⟩ := cells6 B_b.out
   obtain ⟨u0, u1⟩ := cells2 B_u.out
   refine held_begin (fun w' : World => w'.cell? ⟨N_l, 0, none⟩ = some (.int .i64 g0) ∧ w'.cell? ⟨N_l, 1, none⟩ = some (.int .i64 c0) ∧ w'.cell? ⟨N_b, 0, none⟩ = some (.int .i64 X.q) ∧ w'.cell? ⟨N_b, 1, none⟩ = some (.int .i64 X.n) ∧ w'.cell? ⟨N_b, 2, none⟩ = some (.int .i64 X.S.g) ∧ w'.cell? ⟨N_b, 3, none⟩ = some (.int .i64 X.S.c) ∧ w'.cell? ⟨N_b, 4, none⟩ = some (.int .i64 X.S.mn) ∧ w'.cell? ⟨N_b, 5, none⟩ = some (.int .i64 X.S.mx) ∧ w'.cell? ⟨N_u, 0, none⟩ = some (.int .i64 G) ∧ w'.cell? ⟨N_u, 1, none⟩ = some (.int .i64 C)) (by kernel_rfl) ?_
   have hBh0 : Below V3.heap.size V3 V3.drew := (Below.refl _ _).drew
   have hSh0 := And.intro l0 (And.intro l1 (And.intro b0 (And.intro b1 (And.intro b2 (And.intro b3 (And.intro b4 (And.intro b5 (And.intro u0 u1))))))))
   refine tkH ?_ 0 14 ?_ hSh0 ?_;rotate_left
   ·rintro w' ⟨x0, x1, x2, x3, x4, x5, x6, x7, x8, x9⟩;go_simp;(try with_reducible rfl)
   simp only [Act.put, pzA, pzB, pzC]
   refine tkH ?_ 1 15 ?_ hSh0 ?_;rotate_left
   ·rintro w' ⟨x0, x1, x2, x3, x4, x5, x6, x7, x8, x9⟩;go_simp;(try with_reducible rfl)
   simp only [Act.put, pzA, pzB, pzC]
   refine tkH ?_ 2 16 ?_ hSh0 ?_;rotate_left
   ·rintro w' ⟨x0, x1, x2, x3, x4, x5, x6, x7, x8, x9⟩;go_simp;(try with_reducible rfl)
   simp only [Act.put, pzA, pzB, pzC]
   refine tkH ?_ 3 17 ?_ hSh0 ?_;rotate_left
   ·rintro w' ⟨x0, x1, x2, x3, x4, x5, x6, x7, x8, x9⟩;go_simp;(try with_reducible rfl)
   simp only [Act.put, pzA, pzB, pzC]
   refine tkH ?_ 4 18 ?_ hSh0 ?_;rotate_left
   ·rintro w' ⟨x0, x1, x2, x3, x4, x5, x6, x7, x8, x9⟩;go_simp;(try with_reducible rfl)
   simp only [Act.put, pzA, pzB, pzC]
   refine tkH ?_ 5 19 ?_ hSh0 ?_;rotate_left
   ·rintro w' ⟨x0, x1, x2, x3, x4, x5, x6, x7, x8, x9⟩;go_simp;(try with_reducible rfl)
   simp only [Act.put, pzA, pzB, pzC]
   refine tkH ?_ 6 20 ?_ hSh0 ?_;rotate_left
   ·rintro w' ⟨x0, x1, x2, x3, x4, x5, x6, x7, x8, x9⟩;go_simp;(try with_reducible rfl)
   simp only [Act.put, pzA, pzB, pzC]
   refine tkH ?_ 7 21 ?_ hSh0 ?_;rotate_left
   ·rintro w' ⟨x0, x1, x2, x3, x4, x5, x6, x7, x8, x9⟩;go_simp;(try with_reducible rfl)
   simp only [Act.put, pzA, pzB, pzC]
   refine tkH ?_ 8 22 ?_ hSh0 ?_;rotate_left
   ·rintro w' ⟨x0, x1, x2, x3, x4, x5, x6, x7, x8, x9⟩;go_simp;(try with_reducible rfl)
   simp only [Act.put, pzA, pzB, pzC]
   refine tkH ?_ 9 23 ?_ hSh0 ?_;rotate_left
   ·rintro w' ⟨x0, x1, x2, x3, x4, x5, x6, x7, x8, x9⟩;go_simp;(try with_reducible rfl)
   simp only [Act.put, pzA, pzB, pzC]
   refine tkH ?_ 10 24 ?_ hSh0 ?_;rotate_left
   ·rintro w' ⟨x0, x1, x2, x3, x4, x5, x6, x7, x8, x9⟩;go_simp;(try with_reducible rfl)
   simp only [Act.put, pzA, pzB, pzC]
   refine tkH ?_ 11 25 ?_ hSh0 ?_;rotate_left
   ·rintro w' ⟨x0, x1, x2, x3, x4, x5, x6, x7, x8, x9⟩;go_simp;(try with_reducible rfl)
   simp only [Act.put, pzA, pzB, pzC]
   refine tkH ?_ 12 26 ?_ hSh0 ?_;rotate_left
   ·rintro w' ⟨x0, x1, x2, x3, x4, x5, x6, x7, x8, x9⟩;go_simp;(try with_reducible rfl)
   simp only [Act.put, pzA, pzB, pzC]
   refine tkH ?_ 13 27 ?_ hSh0 ?_;rotate_left
   ·rintro w' ⟨x0, x1, x2, x3, x4, x5, x6, x7, x8, x9⟩;go_simp;(try with_reducible rfl)
   simp only [Act.put, pzA, pzB, pzC]
   refine tkH ?_ 14 28 ?_ hSh0 ?_;rotate_left
   ·rintro w' ⟨x0, x1, x2, x3, x4, x5, x6, x7, x8, x9⟩;go_simp;(try with_reducible rfl)
   simp only [Act.put, pzA, pzB, pzC]
   refine tkH ?_ 15 29 ?_ hSh0 ?_;rotate_left
   ·rintro w' ⟨x0, x1, x2, x3, x4, x5, x6, x7, x8, x9⟩;go_simp;(try with_reducible rfl)
   simp only [Act.put, pzA, pzB, pzC]
   refine tkH ?_ 16 30 ?_ hSh0 ?_;rotate_left
   ·rintro w' ⟨x0, x1, x2, x3, x4, x5, x6, x7, x8, x9⟩;go_simp;(try with_reducible rfl)
   simp only [Act.put, pzA, pzB, pzC]
   refine tkH ?_ 17 31 ?_ hSh0 ?_;rotate_left
   ·rintro w' ⟨x0, x1, x2, x3, x4, x5, x6, x7, x8, x9⟩;go_simp;(try with_reducible rfl)
   simp only [Act.put, pzA, pzB, pzC]
   refine tkH ?_ 18 32 ?_ hSh0 ?_;rotate_left
   ·rintro w' ⟨x0, x1, x2, x3, x4, x5, x6, x7, x8, x9⟩;go_simp;(try with_reducible rfl)
   simp only [Act.put, pzA, pzB, pzC]
   refine tkH ?_ 19 33 ?_ hSh0 ?_;rotate_left
   ·rintro w' ⟨x0, x1, x2, x3, x4, x5, x6, x7, x8, x9⟩;go_simp;(try with_reducible rfl)
   simp only [Act.put, pzA, pzB, pzC]
   refine tkH ?_ 21 35 ?_ hSh0 ?_;rotate_left
   ·rintro w' ⟨x0, x1, x2, x3, x4, x5, x6, x7, x8, x9⟩;go_simp;(try with_reducible rfl)
   simp only [Act.put, pzA, pzB, pzC]
   refine tkH ?_ 22 36 ?_ hSh0 ?_;rotate_left
   ·rintro w' ⟨x0, x1, x2, x3, x4, x5, x6, x7, x8, x9⟩;go_simp;(try with_reducible rfl)
   simp only [Act.put, pzA, pzB, pzC]
   refine held_one 20 rfl (by kernel_rfl) (by rfl) (fun K hK => ?_)
   go_simp
   go_at_call 121
   refine (hR.out _ (HBel.out.trans (hBh0.mono hlow))).mono ?_
   rintro e wh1 ⟨rfl, hbh1⟩
   have hBh1 : Below V3.heap.size V3 wh1 := below_step hBh0 hbh1
   have hSh1 := And.intro (ck hBh1 l0) (And.intro (ck hBh1 l1) (And.intro (ck hBh1 b0) (And.intro (ck hBh1 b1) (And.intro (ck hBh1 b2) (And.intro (ck hBh1 b3) (And.intro (ck hBh1 b4) (And.intro (ck hBh1 b5) (And.intro (ck hBh1 u0) (ck hBh1 u1)))))))))
   refine hK.out _ _ hSh1 ?_
   clear hK K
   refine tkH ?_ 23 37 ?_ hSh1 ?_;rotate_left
   ·rintro w' ⟨x0, x1, x2, x3, x4, x5, x6, x7, x8, x9⟩;go_simp;(try with_reducible rfl)
   simp only [Act.put, pzA, pzB, pzC]
   refine tkH ?_ 24 38 ?_ hSh1 ?_;rotate_left
   ·rintro w' ⟨x0, x1, x2, x3, x4, x5, x6, x7, x8, x9⟩;go_simp;(try with_reducible rfl)
   simp only [Act.put, pzA, pzB, pzC]
   refine tkH ?_ 25 6 ?_ hSh1 ?_;rotate_left
   ·rintro w' ⟨x0, x1, x2, x3, x4, x5, x6, x7, x8, x9⟩;go_simp;(try with_reducible rfl)
   simp only [Act.put, pzA, pzB, pzC]
   refine wpAnyH_done (by kernel_rfl) ?_ _
   have hb9 := hBh1
   clear l0 l1 b0 b1 b2 b3 b4 b5 u0 u1
   have hs9 := hb9.size
   replace HBel := bt9 HBel hb9 hlow
   replace B_l := bb9 hb9 B_l l_l
   replace B_b := bb9 hb9 B_b l_b
   replace B_u := bb9 hb9 B_u l_u
   replace l_l : N_l < wh1.heap.size := by omega
   replace l_b : N_b < wh1.heap.size := by omega
   replace l_u : N_u < wh1.heap.size := by omega
   replace hlow : w.heap.size ≤ wh1.heap.size := by omega
   clear hb9 hs9 hSh0 hBh0 hSh1 hBh1
   go_wp2
   go_ret
   exact ⟨by first | rfl | simp, by rw [HB0.out]; exact HBel.out⟩
  ·have t2 : decide (C ≤ c0) = false := decide_eq_false h2
   obtain rfl : b = false := by rw [hb]; simp [h2]
   clear hb h1 h2
   obtain ⟨B0, hB0⟩ := nx (w.heap.size)
   rw [← hB0]
   have HB0 := Lib.hid hB0
   clear hB0
   have HBel := Lib.hid (Below.refl w.heap.size w)
   have hlow : w.heap.size ≤ w.heap.size := Nat.le_refl _
   go_enter Tryz.func107, Tryz.ntmps107
   go_wp2_with fail
   obtain ⟨V1, hV1⟩ := nx ((w.alloc (.cells #[.int .i64 g0, .int .i64 c0] 42)).alloc (.cells #[.int .i64 X.q, .int .i64 X.n, .int .i64 X.S.g, .int .i64 X.S.c, .int .i64 X.S.mn, .int .i64 X.S.mx] 47))
   rw [← hV1]
   have hzV1 := sz2 hV1
   replace HBel := be2 hV1 HBel hlow
   have B_l := Lib.hid (new20 hV1)
   have B_b := Lib.hid (new21 hV1)
   obtain ⟨N_l, hN_l⟩ := nx (w.heap.size)
   obtain ⟨N_b, hN_b⟩ := nx (w.heap.size + 1)
   (try rw [← hN_b])
   rw [← hN_b] at B_b
   (try rw [← hN_l])
   rw [← hN_l] at B_l
   have l_l : N_l < V1.heap.size := by omega
   have l_b : N_b < V1.heap.size := by omega
   have g_l : w.heap.size ≤ N_l := by omega
   have g_b : w.heap.size ≤ N_b := by omega
   have d_l_b : N_l < N_b := by omega
   replace hlow : w.heap.size ≤ V1.heap.size := by omega
   clear hV1 hzV1 hN_l hN_b
   refine (hN.out V1).mono ?_
   rintro e U2 ⟨rfl, hb9⟩
   have hs9 := hb9.size
   replace HBel := bt9 HBel hb9 hlow
   replace B_l := bb9 hb9 B_l l_l
   replace B_b := bb9 hb9 B_b l_b
   replace l_l : N_l < U2.heap.size := by omega
   replace l_b : N_b < U2.heap.size := by omega
   replace hlow : w.heap.size ≤ U2.heap.size := by omega
   clear hb9 hs9
   go_wp2_with fail
   obtain ⟨V3, hV3⟩ := nx (U2.alloc (.cells #[.int .i64 G, .int .i64 C] 42))
   rw [← hV3]
   have hzV3 := sz1 hV3
   replace HBel := be1 hV3 HBel hlow
   replace B_l := bk1 hV3 B_l l_l
   replace B_b := bk1 hV3 B_b l_b
   have B_u := Lib.hid (new10 hV3)
   obtain ⟨N_u, hN_u⟩ := nx (U2.heap.size)
   (try rw [← hN_u])
   rw [← hN_u] at B_u
   have d_l_u : N_l < N_u := by omega
   have d_b_u : N_b < N_u := by omega
   replace l_l : N_l < V3.heap.size := by omega
   replace l_b : N_b < V3.heap.size := by omega
   have l_u : N_u < V3.heap.size := by omega
   have g_u : w.heap.size ≤ N_u := by omega
   replace hlow : w.heap.size ≤ V3.heap.size := by omega
   clear hV3 hzV3 hN_u
   obtain ⟨l0, l1⟩ := cells2 B_l.out
   obtain ⟨b0, b1, b2, b3, b4, b5⟩ := cells6 B_b.out
   obtain ⟨u0, u1⟩ := cells2 B_u.out
   refine held_begin (fun w' : World => w'.cell? ⟨N_l, 0, none⟩ = some (.int .i64 g0) ∧ w'.cell? ⟨N_l, 1, none⟩ = some (.int .i64 c0) ∧ w'.cell? ⟨N_b, 0, none⟩ = some (.int .i64 X.q) ∧ w'.cell? ⟨N_b, 1, none⟩ = some (.int .i64 X.n) ∧ w'.cell? ⟨N_b, 2, none⟩ = some (.int .i64 X.S.g) ∧ w'.cell? ⟨N_b, 3, none⟩ = some (.int .i64 X.S.c) ∧ w'.cell? ⟨N_b, 4, none⟩ = some (.int .i64 X.S.mn) ∧ w'.cell? ⟨N_b, 5, none⟩ = some (.int .i64 X.S.mx) ∧ w'.cell? ⟨N_u, 0, none⟩ = some (.int .i64 G) ∧ w'.cell? ⟨N_u, 1, none⟩ = some (.int .i64 C)) (by kernel_rfl) ?_
   have hBh0 : Below V3.heap.size V3 V3.drew := (Below.refl _ _).drew
   have hSh0 := And.intro l0 (And.intro l1 (And.intro b0 (And.intro b1 (And.intro b2 (And.intro b3 (And.intro b4 (And.intro b5 (And.intro u0 u1))))))))
   refine tkH ?_ 0 14 ?_ hSh0 ?_;rotate_left
   ·rintro w' ⟨x0, x1, x2, x3, x4, x5, x6, x7, x8, x9⟩;go_simp;(try with_reducible rfl)
   simp only [Act.put, pzA, pzB, pzC]
   refine tkH ?_ 1 15 ?_ hSh0 ?_;rotate_left
   ·rintro w' ⟨x0, x1, x2, x3, x4, x5, x6, x7, x8, x9⟩;go_simp;(try with_reducible rfl)
   simp only [Act.put, pzA, pzB, pzC]
   refine tkH ?_ 2 16 ?_ hSh0 ?_;rotate_left
   ·rintro w' ⟨x0, x1, x2, x3, x4, x5, x6, x7, x8, x9⟩;go_simp;(try with_reducible rfl)
   simp only [Act.put, pzA, pzB, pzC]
   refine tkH ?_ 3 17 ?_ hSh0 ?_;rotate_left
   ·rintro w' ⟨x0, x1, x2, x3, x4, x5, x6, x7, x8, x9⟩;go_simp;(try with_reducible rfl)
   simp only [Act.put, pzA, pzB, pzC]
   refine tkH ?_ 4 18 ?_ hSh0 ?_;rotate_left
   ·rintro w' ⟨x0, x1, x2, x3, x4, x5, x6, x7, x8, x9⟩;go_simp;(try with_reducible rfl)
   simp only [Act.put, pzA, pzB, pzC]
   refine tkH ?_ 5 19 ?_ hSh0 ?_;rotate_left
   ·rintro w' ⟨x0, x1, x2, x3, x4, x5, x6, x7, x8, x9⟩;go_simp;(try with_reducible rfl)
   simp only [Act.put, pzA, pzB, pzC]
   refine tkH ?_ 6 20 ?_ hSh0 ?_;rotate_left
   ·rintro w' ⟨x0, x1, x2, x3, x4, x5, x6, x7, x8, x9⟩;go_simp;(try with_reducible rfl)
   simp only [Act.put, pzA, pzB, pzC]
   refine tkH ?_ 7 21 ?_ hSh0 ?_;rotate_left
   ·rintro w' ⟨x0, x1, x2, x3, x4, x5, x6, x7, x8, x9⟩;go_simp;(try with_reducible rfl)
   simp only [Act.put, pzA, pzB, pzC]
   refine tkH ?_ 8 22 ?_ hSh0 ?_;rotate_left
   ·rintro w' ⟨x0, x1, x2, x3, x4, x5, x6, x7, x8, x9⟩;go_simp;(try with_reducible rfl)
   simp only [Act.put, pzA, pzB, pzC]
   refine tkH ?_ 9 23 ?_ hSh0 ?_;rotate_left
   ·rintro w' ⟨x0, x1, x2, x3, x4, x5, x6, x7, x8, x9⟩;go_simp;(try with_reducible rfl)
   simp only [Act.put, pzA, pzB, pzC]
   refine tkH ?_ 10 24 ?_ hSh0 ?_;rotate_left
   ·rintro w' ⟨x0, x1, x2, x3, x4, x5, x6, x7, x8, x9⟩;go_simp;(try with_reducible rfl)
   simp only [Act.put, pzA, pzB, pzC]
   refine tkH ?_ 11 25 ?_ hSh0 ?_;rotate_left
   ·rintro w' ⟨x0, x1, x2, x3, x4, x5, x6, x7, x8, x9⟩;go_simp;(try with_reducible rfl)
   simp only [Act.put, pzA, pzB, pzC]
   refine tkH ?_ 12 26 ?_ hSh0 ?_;rotate_left
   ·rintro w' ⟨x0, x1, x2, x3, x4, x5, x6, x7, x8, x9⟩;go_simp;(try with_reducible rfl)
   simp only [Act.put, pzA, pzB, pzC]
   refine tkH ?_ 13 27 ?_ hSh0 ?_;rotate_left
   ·rintro w' ⟨x0, x1, x2, x3, x4, x5, x6, x7, x8, x9⟩;go_simp;(try with_reducible rfl)
   simp only [Act.put, pzA, pzB, pzC]
   refine tkH ?_ 14 28 ?_ hSh0 ?_;rotate_left
   ·rintro w' ⟨x0, x1, x2, x3, x4, x5, x6, x7, x8, x9⟩;go_simp;(try with_reducible rfl)
   simp only [Act.put, pzA, pzB, pzC]
   refine tkH ?_ 15 29 ?_ hSh0 ?_;rotate_left
   ·rintro w' ⟨x0, x1, x2, x3, x4, x5, x6, x7, x8, x9⟩;go_simp;(try with_reducible rfl)
   simp only [Act.put, pzA, pzB, pzC]
   refine tkH ?_ 16 30 ?_ hSh0 ?_;rotate_left
   ·rintro w' ⟨x0, x1, x2, x3, x4, x5, x6, x7, x8, x9⟩;go_simp;(try with_reducible rfl)
   simp only [Act.put, pzA, pzB, pzC]
   refine held_skipK 17 31 rfl rfl (by rfl) hSh0 ?_
   simp only [Act.put, pzA, pzB, pzC]
   refine held_skipK 18 32 rfl rfl (by rfl) hSh0 ?_
   simp only [Act.put, pzA, pzB, pzC]
   refine held_skipK 19 33 rfl rfl (by rfl) hSh0 ?_
   simp only [Act.put, pzA, pzB, pzC]
   refine held_skipK 21 35 rfl rfl (by rfl) hSh0 ?_
   simp only [Act.put, pzA, pzB, pzC]
   refine held_skipK 22 36 rfl rfl (by rfl) hSh0 ?_
   simp only [Act.put, pzA, pzB, pzC]
   refine held_skipK 20 34 rfl rfl (by rfl) hSh0 ?_
   simp only [Act.put, pzA, pzB, pzC]
   refine held_skipK 23 37 rfl rfl (by rfl) hSh0 ?_
   simp only [Act.put, pzA, pzB, pzC]
   refine tkH ?_ 24 38 ?_ hSh0 ?_;rotate_left
   ·rintro w' ⟨x0, x1, x2, x3, x4, x5, x6, x7, x8, x9⟩;go_simp;(try with_reducible rfl)
   simp only [Act.put, pzA, pzB, pzC]
   refine tkH ?_ 25 6 ?_ hSh0 ?_;rotate_left
   ·rintro w' ⟨x0, x1, x2, x3, x4, x5, x6, x7, x8, x9⟩;go_simp;(try with_reducible rfl)
   simp only [Act.put, pzA, pzB, pzC]
   refine wpAnyH_done (by kernel_rfl) ?_ _
   obtain ⟨D4, hD9⟩ : ∃ D, D = V3.drew := ⟨_, rfl⟩
   have hb9 : Below V3.heap.size V3 D4 := by rw [hD9]; exact hBh0
   rw [← hD9]
   clear hD9
   clear l0 l1 b0 b1 b2 b3 b4 b5 u0 u1
   have hs9 := hb9.size
   replace HBel := bt9 HBel hb9 hlow
   replace B_l := bb9 hb9 B_l l_l
   replace B_b := bb9 hb9 B_b l_b
   replace B_u := bb9 hb9 B_u l_u
   replace l_l : N_l < D4.heap.size := by omega
   replace l_b : N_b < D4.heap.size := by omega
   replace l_u : N_u < D4.heap.size := by omega
   replace hlow : w.heap.size ≤ D4.heap.size := by omega
   clear hb9 hs9
   go_wp2
   go_ret
   exact ⟨by first | rfl | simp, by rw [HB0.out]; exact HBel.out⟩
 ·have t1 : decide (G ≤ g0) = false := decide_eq_false h1
  obtain rfl : b = false := by rw [hb]; simp [h1]
  clear hb h1
  obtain ⟨B0, hB0⟩ := nx (w.heap.size)
  rw [← hB0]
  have HB0 := Lib.hid hB0
  clear hB0
  have HBel := Lib.hid (Below.refl w.heap.size w)
  have hlow : w.heap.size ≤ w.heap.size := Nat.le_refl _
  go_enter Tryz.func107, Tryz.ntmps107
  go_wp2_with fail
  obtain ⟨V1, hV1⟩ := nx ((w.alloc (.cells #[.int .i64 g0, .int .i64 c0] 42)).alloc (.cells #[.int .i64 X.q, .int .i64 X.n, .int .i64 X.S.g, .int .i64 X.S.c, .int .i64 X.S.mn, .int .i64 X.S.mx] 47))
  rw [← hV1]
  have hzV1 := sz2 hV1
  replace HBel := be2 hV1 HBel hlow
  have B_l := Lib.hid (new20 hV1)
  have B_b := Lib.hid (new21 hV1)
  obtain ⟨N_l, hN_l⟩ := nx (w.heap.size)
  obtain ⟨N_b, hN_b⟩ := nx (w.heap.size + 1)
  (try rw [← hN_b])
  rw [← hN_b] at B_b
  (try rw [← hN_l])
  rw [← hN_l] at B_l
  have l_l : N_l < V1.heap.size := by omega
  have l_b : N_b < V1.heap.size := by omega
  have g_l : w.heap.size ≤ N_l := by omega
  have g_b : w.heap.size ≤ N_b := by omega
  have d_l_b : N_l < N_b := by omega
  replace hlow : w.heap.size ≤ V1.heap.size := by omega
  clear hV1 hzV1 hN_l hN_b
  refine (hN.out V1).mono ?_
  rintro e U2 ⟨rfl, hb9⟩
  have hs9 := hb9.size
  replace HBel := bt9 HBel hb9 hlow
  replace B_l := bb9 hb9 B_l l_l
  replace B_b := bb9 hb9 B_b l_b
  replace l_l : N_l < U2.heap.size := by omega
  replace l_b : N_b < U2.heap.size := by omega
  replace hlow : w.heap.size ≤ U2.heap.size := by omega
  clear hb9 hs9
  go_wp2_with fail
  obtain ⟨V3, hV3⟩ := nx (U2.alloc (.cells #[.int .i64 G, .int .i64 C] 42))
  rw [← hV3]
  have hzV3 := sz1 hV3
  replace HBel := be1 hV3 HBel hlow
  replace B_l := bk1 hV3 B_l l_l
  replace B_b := bk1 hV3 B_b l_b
  have B_u := Lib.hid (new10 hV3)
  obtain ⟨N_u, hN_u⟩ := nx (U2.heap.size)
  (try rw [← hN_u])
  rw [← hN_u] at B_u
  have d_l_u : N_l < N_u := by omega
  have d_b_u : N_b < N_u := by omega
  replace l_l : N_l < V3.heap.size := by omega
  replace l_b : N_b < V3.heap.size := by omega
  have l_u : N_u < V3.heap.size := by omega
  have g_u : w.heap.size ≤ N_u := by omega
  replace hlow : w.heap.size ≤ V3.heap.size := by omega
  clear hV3 hzV3 hN_u
  obtain ⟨l0, l1⟩ := cells2 B_l.out
  obtain ⟨b0, b1, b2, b3, b4, b5⟩ := cells6 B_b.out
  obtain ⟨u0, u1⟩ := cells2 B_u.out
  refine held_begin (fun w' : World => w'.cell? ⟨N_l, 0, none⟩ = some (.int .i64 g0) ∧ w'.cell? ⟨N_l, 1, none⟩ = some (.int .i64 c0) ∧ w'.cell? ⟨N_b, 0, none⟩ = some (.int .i64 X.q) ∧ w'.cell? ⟨N_b, 1, none⟩ = some (.int .i64 X.n) ∧ w'.cell? ⟨N_b, 2, none⟩ = some (.int .i64 X.S.g) ∧ w'.cell? ⟨N_b, 3, none⟩ = some (.int .i64 X.S.c) ∧ w'.cell? ⟨N_b, 4, none⟩ = some (.int .i64 X.S.mn) ∧ w'.cell? ⟨N_b, 5, none⟩ = some (.int .i64 X.S.mx) ∧ w'.cell? ⟨N_u, 0, none⟩ = some (.int .i64 G) ∧ w'.cell? ⟨N_u, 1, none⟩ = some (.int .i64 C)) (by kernel_rfl) ?_
  have hBh0 : Below V3.heap.size V3 V3.drew := (Below.refl _ _).drew
  have hSh0 := And.intro l0 (And.intro l1 (And.intro b0 (And.intro b1 (And.intro b2 (And.intro b3 (And.intro b4 (And.intro b5 (And.intro u0 u1))))))))
  refine tkH ?_ 0 14 ?_ hSh0 ?_;rotate_left
  ·rintro w' ⟨x0, x1, x2, x3, x4, x5, x6, x7, x8, x9⟩;go_simp;(try with_reducible rfl)
  simp only [Act.put, pzA, pzB, pzC]
  refine tkH ?_ 1 15 ?_ hSh0 ?_;rotate_left
  ·rintro w' ⟨x0, x1, x2, x3, x4, x5, x6, x7, x8, x9⟩;go_simp;(try with_reducible rfl)
  simp only [Act.put, pzA, pzB, pzC]
  refine tkH ?_ 2 16 ?_ hSh0 ?_;rotate_left
  ·rintro w' ⟨x0, x1, x2, x3, x4, x5, x6, x7, x8, x9⟩;go_simp;(try with_reducible rfl)
  simp only [Act.put, pzA, pzB, pzC]
  refine tkH ?_ 3 17 ?_ hSh0 ?_;rotate_left
  ·rintro w' ⟨x0, x1, x2, x3, x4, x5, x6, x7, x8, x9⟩;go_simp;(try with_reducible rfl)
  simp only [Act.put, pzA, pzB, pzC]
  refine tkH ?_ 4 18 ?_ hSh0 ?_;rotate_left
  ·rintro w' ⟨x0, x1, x2, x3, x4, x5, x6, x7, x8, x9⟩;go_simp;(try with_reducible rfl)
  simp only [Act.put, pzA, pzB, pzC]
  refine tkH ?_ 5 19 ?_ hSh0 ?_;rotate_left
  ·rintro w' ⟨x0, x1, x2, x3, x4, x5, x6, x7, x8, x9⟩;go_simp;(try with_reducible rfl)
  simp only [Act.put, pzA, pzB, pzC]
  refine tkH ?_ 6 20 ?_ hSh0 ?_;rotate_left
  ·rintro w' ⟨x0, x1, x2, x3, x4, x5, x6, x7, x8, x9⟩;go_simp;(try with_reducible rfl)
  simp only [Act.put, pzA, pzB, pzC]
  refine tkH ?_ 7 21 ?_ hSh0 ?_;rotate_left
  ·rintro w' ⟨x0, x1, x2, x3, x4, x5, x6, x7, x8, x9⟩;go_simp;(try with_reducible rfl)
  simp only [Act.put, pzA, pzB, pzC]
  refine tkH ?_ 8 22 ?_ hSh0 ?_;rotate_left
  ·rintro w' ⟨x0, x1, x2, x3, x4, x5, x6, x7, x8, x9⟩;go_simp;(try with_reducible rfl)
  simp only [Act.put, pzA, pzB, pzC]
  refine tkH ?_ 9 23 ?_ hSh0 ?_;rotate_left
  ·rintro w' ⟨x0, x1, x2, x3, x4, x5, x6, x7, x8, x9⟩;go_simp;(try with_reducible rfl)
  simp only [Act.put, pzA, pzB, pzC]
  refine held_skipK 10 24 rfl rfl (by rfl) hSh0 ?_
  simp only [Act.put, pzA, pzB, pzC]
  refine held_skipK 11 25 rfl rfl (by rfl) hSh0 ?_
  simp only [Act.put, pzA, pzB, pzC]
  refine held_skipK 12 26 rfl rfl (by rfl) hSh0 ?_
  simp only [Act.put, pzA, pzB, pzC]
  refine held_skipK 13 27 rfl rfl (by rfl) hSh0 ?_
  simp only [Act.put, pzA, pzB, pzC]
  refine held_skipK 14 28 rfl rfl (by rfl) hSh0 ?_
  simp only [Act.put, pzA, pzB, pzC]
  refine tkH ?_ 15 29 ?_ hSh0 ?_;rotate_left
  ·rintro w' ⟨x0, x1, x2, x3, x4, x5, x6, x7, x8, x9⟩;go_simp;(try with_reducible rfl)
  simp only [Act.put, pzA, pzB, pzC]
  refine tkH ?_ 16 30 ?_ hSh0 ?_;rotate_left
  ·rintro w' ⟨x0, x1, x2, x3, x4, x5, x6, x7, x8, x9⟩;go_simp;(try with_reducible rfl)
  simp only [Act.put, pzA, pzB, pzC]
  refine held_skipK 17 31 rfl rfl (by rfl) hSh0 ?_
  simp only [Act.put, pzA, pzB, pzC]
  refine held_skipK 18 32 rfl rfl (by rfl) hSh0 ?_
  simp only [Act.put, pzA, pzB, pzC]
  refine held_skipK 19 33 rfl rfl (by rfl) hSh0 ?_
  simp only [Act.put, pzA, pzB, pzC]
  refine held_skipK 21 35 rfl rfl (by rfl) hSh0 ?_
  simp only [Act.put, pzA, pzB, pzC]
  refine held_skipK 22 36 rfl rfl (by rfl) hSh0 ?_
  simp only [Act.put, pzA, pzB, pzC]
  refine held_skipK 20 34 rfl rfl (by rfl) hSh0 ?_
  simp only [Act.put, pzA, pzB, pzC]
  refine held_skipK 23 37 rfl rfl (by rfl) hSh0 ?_
  simp only [Act.put, pzA, pzB, pzC]
  refine tkH ?_ 24 38 ?_ hSh0 ?_;rotate_left
  ·rintro w' ⟨x0, x1, x2, x3, x4, x5, x6, x7, x8, x9⟩;go_simp;(try with_reducible rfl)
  simp only [Act.put, pzA, pzB, pzC]
  refine tkH ?_ 25 6 ?_ hSh0 ?_;rotate_left
  ·rintro w' ⟨x0, x1, x2, x3, x4, x5, x6, x7, x8, x9⟩;go_simp;(try with_reducible rfl)
  simp only [Act.put, pzA, pzB, pzC]
  refine wpAnyH_done (by kernel_rfl) ?_ _
  obtain ⟨D4, hD9⟩ : ∃ D, D = V3.drew := ⟨_, rfl⟩
  have hb9 : Below V3.heap.size V3 D4 := by rw [hD9]; exact hBh0
  rw [← hD9]
  clear hD9
  clear l0 l1 b0 b1 b2 b3 b4 b5 u0 u1
  have hs9 := hb9.size
  replace HBel := bt9 HBel hb9 hlow
  replace B_l := bb9 hb9 B_l l_l
  replace B_b := bb9 hb9 B_b l_b
  replace B_u := bb9 hb9 B_u l_u
  replace l_l : N_l < D4.heap.size := by omega
  replace l_b : N_b < D4.heap.size := by omega
  replace l_u : N_u < D4.heap.size := by omega
  replace hlow : w.heap.size ≤ D4.heap.size := by omega
  clear hb9 hs9
  go_wp2
  go_ret
  exact ⟨by first | rfl | simp, by rw [HB0.out]; exact HBel.out⟩
end Go.Proofs.YtmejcmoodbbmoaaGreatDoor
