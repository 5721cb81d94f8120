import Derived.Test.YtkkkhonjcbhelaaGreatDoorPackTellsM
import Derived.Test.YtkkkhonjcbhelaaGreatDoorProU
set_option linter.unusedVariables false
set_option maxRecDepth 100000
namespace Go.Proofs.YtkkkhonjcbhelaaGreatDoor
open Go.RowKit
open PR
set_option maxHeartbeats 2000000 in
theorem refright12_any (X : Wa) (w : World) (hw : WaOk X) :
  Calls Tryz.prog 17 #[waV X] w fun e w' => e = .returned (.bool X.ok) ∧ Below w.heap.size w w' := by
 obtain ⟨r, hr⟩ := nx (X.ok);have hRt := Hq (fun W => show Calls Tryz.prog 28 #[.agg #[.int .i64 X.S.g, .int .i64 X.S.c, .int .i64 X.S.mn, .int .i64 X.S.mx]] W (fun e w' => e = .returned (.bool X.S.ok) ∧ Below W.heap.size W w') from refright_any X.S.g X.S.c X.S.mn X.S.mx W hw.S);rw [← hr];unfold Wa.ok at hr;unfold waV waA
 cases hok : X.S.ok
 ·obtain rfl : r = false := by rw [hr, hok]; rfl
  rw [hok] at hRt;clear hr hok hw;obtain ⟨B0, hB0⟩ := nx (w.heap.size);rw [← hB0];have HB0 := Hq hB0;clear hB0;have HBel := Hq (Below.refl w.heap.size w);have hlow : w.heap.size ≤ w.heap.size := Nat.le_refl _;go_enter Tryz.func17, Tryz.ntmps17;go_wp2_with fail;obtain ⟨V1, hV1⟩ := nx (w.alloc (.cells #[.int .i64 X.q, .int .i64 X.n, .int .i64 X.S.g, .int .i64 X.S.c, .int .i64 X.S.mn, .int .i64 X.S.mx] 34));rw [← hV1];have hzV1 := sz1 hV1;replace HBel := be1 hV1 HBel hlow;have B_b := Hq (new10 hV1);obtain ⟨N_b, hN_b⟩ := nx (w.heap.size);(try rw [← hN_b]);rw [← hN_b] at B_b;have l_b : N_b < V1.heap.size := by omega
  have g_b : w.heap.size ≤ N_b := by omega
  replace hlow : w.heap.size ≤ V1.heap.size := by omega
  clear hV1 hzV1 hN_b;refine (hRt.out V1).mono ?_;rintro e U2 ⟨rfl, hb9⟩;have hs9 := hb9.size;replace HBel := bt9 HBel hb9 hlow;replace B_b := bb9 hb9 B_b l_b;replace l_b : N_b < U2.heap.size := by omega
  replace hlow : w.heap.size ≤ U2.heap.size := by omega
  clear hb9 hs9;obtain ⟨b0, b1, b2, b3, b4, b5⟩ := cells6 B_b.out;go_wp2
  go_ret
  exact ⟨by first | rfl | simp, by rw [HB0.out]; exact HBel.out⟩
 rw [hok] at hRt hr;by_cases h1 : 1 ≤ X.n
 ·by_cases h2 : X.n ≤ 16
  ·obtain rfl : r = true := by rw [hr]; simp [h1, h2]
   have t1 : decide (X.n ≥ 1) = true := decide_eq_true h1;have t1' : decide (1 ≤ X.n) = true := decide_eq_true h1;have t2 : decide (X.n ≤ 16) = true := decide_eq_true h2;clear hr hok hw h1 h2;obtain ⟨B0, hB0⟩ := nx (w.heap.size);rw [← hB0];have HB0 := Hq hB0;clear hB0;have HBel := Hq (Below.refl w.heap.size w);have hlow : w.heap.size ≤ w.heap.size := Nat.le_refl _;go_enter Tryz.func17, Tryz.ntmps17;go_wp2_with fail;obtain ⟨V1, hV1⟩ := nx (w.alloc (.cells #[.int .i64 X.q, .int .i64 X.n, .int .i64 X.S.g, .int .i64 X.S.c, .int .i64 X.S.mn, .int .i64 X.S.mx] 34));rw [← hV1];have hzV1 := sz1 hV1;replace HBel := be1 hV1 HBel hlow;have B_b := Hq (new10 hV1);obtain ⟨N_b, hN_b⟩ := nx (w.heap.size);(try rw [← hN_b]);rw [← hN_b] at B_b;have l_b : N_b < V1.heap.size := (by omega);have g_b : w.heap.size ≤ N_b := (by omega);replace hlow : w.heap.size ≤ V1.heap.size := (by omega);clear hV1 hzV1 hN_b;refine (hRt.out V1).mono ?_;rintro e U2 ⟨rfl, hb9⟩;have hs9 := hb9.size;replace HBel := bt9 HBel hb9 hlow;replace B_b := bb9 hb9 B_b l_b;replace l_b : N_b < U2.heap.size := (by omega);replace hlow : w.heap.size ≤ U2.heap.size := (by omega);clear hb9 hs9;obtain ⟨b0, b1, b2, b3, b4, b5⟩ := cells6 B_b.out;go_wp2
   go_ret
   exact ⟨by first | rfl | simp, by rw [HB0.out]; exact HBel.out⟩
  ·obtain rfl : r = false := by rw [hr]; simp [h2]
   have t1 : decide (X.n ≥ 1) = true := decide_eq_true h1;have t1' : decide (1 ≤ X.n) = true := decide_eq_true h1;have t2 : decide (X.n ≤ 16) = false := decide_eq_false h2;clear hr hok hw h1 h2;obtain ⟨B0, hB0⟩ := nx (w.heap.size);rw [← hB0];have HB0 := Hq hB0;clear hB0;have HBel := Hq (Below.refl w.heap.size w);have hlow : w.heap.size ≤ w.heap.size := Nat.le_refl _;go_enter Tryz.func17, Tryz.ntmps17;go_wp2_with fail;obtain ⟨V1, hV1⟩ := nx (w.alloc (.cells #[.int .i64 X.q, .int .i64 X.n, .int .i64 X.S.g, .int .i64 X.S.c, .int .i64 X.S.mn, .int .i64 X.S.mx] 34));rw [← hV1];have hzV1 := sz1 hV1;replace HBel := be1 hV1 HBel hlow;have B_b := Hq (new10 hV1);obtain ⟨N_b, hN_b⟩ := nx (w.heap.size);(try rw [← hN_b]);rw [← hN_b] at B_b;have l_b : N_b < V1.heap.size := (by omega);have g_b : w.heap.size ≤ N_b := (by omega);replace hlow : w.heap.size ≤ V1.heap.size := (by omega);clear hV1 hzV1 hN_b;refine (hRt.out V1).mono ?_;rintro e U2 ⟨rfl, hb9⟩;have hs9 := hb9.size;replace HBel := bt9 HBel hb9 hlow;replace B_b := bb9 hb9 B_b l_b;replace l_b : N_b < U2.heap.size := (by omega);replace hlow : w.heap.size ≤ U2.heap.size := (by omega);clear hb9 hs9;obtain ⟨b0, b1, b2, b3, b4, b5⟩ := cells6 B_b.out;go_wp2
   go_ret
   exact ⟨by first | rfl | simp, by rw [HB0.out]; exact HBel.out⟩
 ·obtain rfl : r = false := by rw [hr]; simp [h1]
  have t1 : decide (X.n ≥ 1) = false := decide_eq_false h1;have t1' : decide (1 ≤ X.n) = false := decide_eq_false h1;clear hr hok hw h1;obtain ⟨B0, hB0⟩ := nx (w.heap.size);rw [← hB0];have HB0 := Hq hB0;clear hB0;have HBel := Hq (Below.refl w.heap.size w);have hlow : w.heap.size ≤ w.heap.size := Nat.le_refl _;go_enter Tryz.func17, Tryz.ntmps17;go_wp2_with fail;obtain ⟨V1, hV1⟩ := nx (w.alloc (.cells #[.int .i64 X.q, .int .i64 X.n, .int .i64 X.S.g, .int .i64 X.S.c, .int .i64 X.S.mn, .int .i64 X.S.mx] 34));rw [← hV1];have hzV1 := sz1 hV1;replace HBel := be1 hV1 HBel hlow;have B_b := Hq (new10 hV1);obtain ⟨N_b, hN_b⟩ := nx (w.heap.size);(try rw [← hN_b]);rw [← hN_b] at B_b;have l_b : N_b < V1.heap.size := by omega
  have g_b : w.heap.size ≤ N_b := by omega
  replace hlow : w.heap.size ≤ V1.heap.size := by omega
  clear hV1 hzV1 hN_b;refine (hRt.out V1).mono ?_;rintro e U2 ⟨rfl, hb9⟩;have hs9 := hb9.size;replace HBel := bt9 HBel hb9 hlow;replace B_b := bb9 hb9 B_b l_b;replace l_b : N_b < U2.heap.size := by omega
  replace hlow : w.heap.size ≤ U2.heap.size := by omega
  clear hb9 hs9;obtain ⟨b0, b1, b2, b3, b4, b5⟩ := cells6 B_b.out;go_wp2
  go_ret
  exact ⟨by first | rfl | simp, by rw [HB0.out]; exact HBel.out⟩
theorem refunits_want (X : Wa) (w : World) (hok : X.ok = true) :
  Calls Tryz.prog 18 #[.agg #[.int .i64 X.S.g, .int .i64 X.S.c, .int .i64 X.S.mn, .int .i64 X.S.mx], .int .i64 X.n] w fun e w' => e = .returned (.agg #[.int .i64 X.g, .int .i64 X.c]) ∧ Below w.heap.size w w' := by
 have eg : X.S.g * X.n = X.g := by unfold Wa.g; rw [hok]; rfl
 have ec : X.S.c * X.n = X.c := by unfold Wa.c; rw [hok]; rfl
 rw [← eg, ← ec];obtain ⟨q, n, ⟨g, c, mn, mx⟩⟩ := X;unfold Wa.ok at hok;simp only [Bool.and_eq_true, decide_eq_true_eq] at hok;obtain ⟨h1, h2, h3⟩ := hok;obtain ⟨g', c', rfl, rfl, hg, hc, _⟩ := Shp.nat h1;obtain ⟨m, rfl⟩ : ∃ m : Nat, n = m := ⟨n.toNat, by omega⟩
 have h9 := refunits_ok g' c' mn mx m w hg hc (by omega);simpa using h9
set_option maxHeartbeats 4000000 in
theorem reffits12_any (A : Option Addr) (c B : Nat) (l : List Fe) (g0 c0 : Int) (X : Wa) (w : World) (h : Fes w B A l) (hB : B ≤ w.heap.size) (hn : l.length ≤ 100000) (hf : View l) (hw : WaOk X) (hT : Tab w) :
  Calls Tryz.prog 9 #[.slice A l.length c, .agg #[.int .i64 g0, .int .i64 c0], waV X] w fun e w' => e = .returned (.bool (PR.fits l g0 c0 X)) ∧ Below w.heap.size w w' := by
 obtain ⟨n, hnn⟩ : ∃ n, n = l.length := ⟨_, rfl⟩
 obtain ⟨r, hr⟩ := nx (roomF X.S l);have hR := Hq (fun W (hW : Below w.heap.size w W) => show Calls Tryz.prog 19 #[.slice A n c, .agg #[.int .i64 X.S.g, .int .i64 X.S.c, .int .i64 X.S.mn, .int .i64 X.S.mx]] W (fun e w' => e = .returned (.int .i64 (r : Nat)) ∧ Below W.heap.size W w') from by
  rw [hr, hnn];exact refroom_any A c W.heap.size l X.S W (h.keep (hW.mono hB) (Nat.le_trans hB hW.size)) (Nat.le_refl _) (by omega) hw.S (fun f hm => ⟨(hf.ok f hm).1, (hf.ok f hm).2.1⟩) (hT.below hW hT.size))
 have hN := Hq (fun W => refright12_any X W hw);have hU := Hq (fun (hok : X.ok = true) W => refunits_want X W hok);obtain ⟨b, hb⟩ := nx (PR.fits l g0 c0 X);rw [← hnn, ← hb];unfold PR.fits at hb;rw [← hr] at hb;unfold waV waA at *
 cases hok : X.ok
 ·rw [hok] at hN;obtain rfl : b = false := by rw [hb, hok]; rfl
  clear hb hr hok h hf hw hT hnn hn hU;obtain ⟨B0, hB0⟩ := nx (w.heap.size);rw [← hB0];have HB0 := Hq hB0;clear hB0;have HBel := Hq (Below.refl w.heap.size w);have hlow : w.heap.size ≤ w.heap.size := Nat.le_refl _;go_enter Tryz.func9, Tryz.ntmps9;go_wp2_with fail;obtain ⟨V1, hV1⟩ := nx ((w.alloc (.cells #[.int .i64 g0, .int .i64 c0] 42)).alloc (.cells #[.int .i64 X.q, .int .i64 X.n, .int .i64 X.S.g, .int .i64 X.S.c, .int .i64 X.S.mn, .int .i64 X.S.mx] 34));rw [← hV1];have hzV1 := sz2 hV1;replace HBel := be2 hV1 HBel hlow;have B_f := Hq (new20 hV1);have B_b := Hq (new21 hV1);obtain ⟨N_f, hN_f⟩ := nx (w.heap.size);obtain ⟨N_b, hN_b⟩ := nx (w.heap.size + 1);(try rw [← hN_b]);rw [← hN_b] at B_b;(try rw [← hN_f]);rw [← hN_f] at B_f;have l_f : N_f < V1.heap.size := by omega
  have l_b : N_b < V1.heap.size := by omega
  have g_f : w.heap.size ≤ N_f := by omega
  have g_b : w.heap.size ≤ N_b := by omega
  have d_f_b : N_f < N_b := by omega
  replace hlow : w.heap.size ≤ V1.heap.size := by omega
  clear hV1 hzV1 hN_f hN_b;refine (hN.out V1).mono ?_;rintro e U2 ⟨rfl, hb9⟩;have hs9 := hb9.size;replace HBel := bt9 HBel hb9 hlow;replace B_f := bb9 hb9 B_f l_f;replace B_b := bb9 hb9 B_b l_b;replace l_f : N_f < U2.heap.size := by omega
  replace l_b : N_b < U2.heap.size := by omega
  replace hlow : w.heap.size ≤ U2.heap.size := by omega
  clear hb9 hs9;obtain ⟨b0, b1, b2, b3, b4, b5⟩ := cells6 B_b.out;go_wp2
  go_ret
  exact ⟨by first | rfl | simp, by rw [HB0.out]; exact HBel.out⟩
 have eg : X.S.g * X.n = X.g := by unfold Wa.g; rw [hok]; rfl
 have ec : X.S.c * X.n = X.c := by unfold Wa.c; rw [hok]; rfl
 rw [hok, eg, ec] at hb;rw [hok] at hN;replace hU := Hq (hU.out hok);obtain ⟨G, hG⟩ := nx (X.g);obtain ⟨C, hC⟩ := nx (X.c);rw [← hG, ← hC] at hU hb;clear hr hok hG hC h hf hw hT eg ec hnn hn;by_cases h1 : G ≤ g0
 ·have t1 : decide (G ≤ g0) = true := decide_eq_true h1;by_cases h2 : C ≤ c0
  ·have t2 : decide (C ≤ c0) = true := decide_eq_true h2;have t3 : decide ((r : Int) ≥ X.n) = decide (X.n ≤ (r : Int)) := rfl;obtain rfl : b = decide (X.n ≤ (r : Int)) := by rw [hb]; simp [h1, h2]
   clear hb h1 h2;obtain ⟨B0, hB0⟩ := nx (w.heap.size);rw [← hB0];have HB0 := Hq hB0;clear hB0;have HBel := Hq (Below.refl w.heap.size w);have hlow : w.heap.size ≤ w.heap.size := Nat.le_refl _;go_enter Tryz.func9, Tryz.ntmps9;go_wp2_with fail;obtain ⟨V1, hV1⟩ := nx ((w.alloc (.cells #[.int .i64 g0, .int .i64 c0] 42)).alloc (.cells #[.int .i64 X.q, .int .i64 X.n, .int .i64 X.S.g, .int .i64 X.S.c, .int .i64 X.S.mn, .int .i64 X.S.mx] 34));rw [← hV1];have hzV1 := sz2 hV1;replace HBel := be2 hV1 HBel hlow;have B_f := Hq (new20 hV1);have B_b := Hq (new21 hV1);obtain ⟨N_f, hN_f⟩ := nx (w.heap.size);obtain ⟨N_b, hN_b⟩ := nx (w.heap.size + 1);(try rw [← hN_b]);rw [← hN_b] at B_b;(try rw [← hN_f]);rw [← hN_f] at B_f;have l_f : N_f < V1.heap.size := (by omega);have l_b : N_b < V1.heap.size := (by omega);have g_f : w.heap.size ≤ N_f := (by omega);have g_b : w.heap.size ≤ N_b := (by omega);have d_f_b : N_f < N_b := (by omega);replace hlow : w.heap.size ≤ V1.heap.size := (by omega);clear hV1 hzV1 hN_f hN_b;refine (hN.out V1).mono ?_;rintro e U2 ⟨rfl, hb9⟩;have hs9 := hb9.size;replace HBel := bt9 HBel hb9 hlow;replace B_f := bb9 hb9 B_f l_f;replace B_b := bb9 hb9 B_b l_b;replace l_f : N_f < U2.heap.size := (by omega);replace l_b : N_b < U2.heap.size := (by omega);replace hlow : w.heap.size ≤ U2.heap.size := (by omega);clear hb9 hs9;obtain ⟨b0, b1, b2, b3, b4, b5⟩ := cells6 B_b.out;go_wp2_with fail;refine (hU.out U2).mono ?_;rintro e U3 ⟨rfl, hb9⟩;clear b0 b1 b2 b3 b4 b5;have hs9 := hb9.size;replace HBel := bt9 HBel hb9 hlow;replace B_f := bb9 hb9 B_f l_f;replace B_b := bb9 hb9 B_b l_b;replace l_f : N_f < U3.heap.size := (by omega);replace l_b : N_b < U3.heap.size := (by omega);replace hlow : w.heap.size ≤ U3.heap.size := (by omega);clear hb9 hs9;go_wp2_with fail;obtain ⟨V4, hV4⟩ := nx (U3.alloc (.cells #[.int .i64 G, .int .i64 C] 42));rw [← hV4];have hzV4 := sz1 hV4;replace HBel := be1 hV4 HBel hlow;replace B_f := bk1 hV4 B_f l_f;replace B_b := bk1 hV4 B_b l_b;have B_u := Hq (new10 hV4);obtain ⟨N_u, hN_u⟩ := nx (U3.heap.size);(try rw [← hN_u]);rw [← hN_u] at B_u;have d_f_u : N_f < N_u := (by omega);have d_b_u : N_b < N_u := (by omega);replace l_f : N_f < V4.heap.size := (by omega);replace l_b : N_b < V4.heap.size := (by omega);have l_u : N_u < V4.heap.size := (by omega);have g_u : w.heap.size ≤ N_u := (by omega);replace hlow : w.heap.size ≤ V4.heap.size := (by omega);clear hV4 hzV4 hN_u;obtain ⟨f0, f1⟩ := cells2 B_f.out;obtain ⟨b0, b1, b2, b3, b4, b5⟩ := cells6 B_b.out;obtain ⟨u0, u1⟩ := cells2 B_u.out;refine held_begin (fun w' : World => w'.cell? ⟨N_f, 0, none⟩ = some (.int .i64 g0) ∧ w'.cell? ⟨N_f, 1, none⟩ = some (.int .i64 c0) ∧ w'.cell? ⟨N_b, 0, none⟩ = some (.int .i64 X.q) ∧ w'.cell? ⟨N_b, 1, none⟩ = some (.int .i64 X.n) ∧ w'.cell? ⟨N_b, 2, none⟩ = some (.int .i64 X.S.g) ∧ w'.cell? ⟨N_b, 3, none⟩ = some (.int .i64 X.S.c) ∧ w'.cell? ⟨N_b, 4, none⟩ = some (.int .i64 X.S.mn) ∧ w'.cell? ⟨N_b, 5, none⟩ = some (.int .i64 X.S.mx) ∧ w'.cell? ⟨N_u, 0, none⟩ = some (.int .i64 G) ∧ w'.cell? ⟨N_u, 1, none⟩ = some (.int .i64 C)) (by kernel_rfl) ?_
   have hBh0 : Below V4.heap.size V4 V4.drew := (Below.refl _ _).drew;have hSh0 := Ai f0 (Ai f1 (Ai b0 (Ai b1 (Ai b2 (Ai b3 (Ai b4 (Ai b5 (Ai u0 u1))))))));refine tkA 0 16 hSh0 ?_;refine tkA 1 17 hSh0 ?_;refine tkA 2 18 hSh0 ?_;refine tkA 3 19 hSh0 ?_;refine tkA 4 20 hSh0 ?_;refine tkA 5 21 hSh0 ?_;refine tkA 6 22 hSh0 ?_;refine tkA 7 23 hSh0 ?_;refine tkA 8 24 hSh0 ?_;refine tkA 9 25 hSh0 ?_;refine tkA 10 26 hSh0 ?_;refine tkA 11 27 hSh0 ?_;refine tkA 12 28 hSh0 ?_;refine tkA 13 29 hSh0 ?_;refine tkA 14 30 hSh0 ?_;refine tkA 15 31 hSh0 ?_;refine tkA 17 33 hSh0 ?_;refine tkA 18 34 hSh0 ?_;refine held_one 16 rfl (by kernel_rfl) (by rfl) (fun K hK => ?_);go_simp
   go_at_call 19
   refine (hR.out _ (HBel.out.trans (hBh0.mono hlow))).mono ?_;rintro e wh1 ⟨rfl, hbh1⟩;have hBh1 : Below V4.heap.size V4 wh1 := below_step hBh0 hbh1;have hSh1 := Ai (ck hBh1 f0) (Ai (ck hBh1 f1) (Ai (ck hBh1 b0) (Ai (ck hBh1 b1) (Ai (ck hBh1 b2) (Ai (ck hBh1 b3) (Ai (ck hBh1 b4) (Ai (ck hBh1 b5) (Ai (ck hBh1 u0) (ck hBh1 u1)))))))));refine hK.out _ _ hSh1 ?_;clear hK K;refine tkA 19 35 hSh1 ?_;refine tkA 20 36 hSh1 ?_;refine tkA 21 6 hSh1 ?_;refine wpAnyH_done (by kernel_rfl) ?_ _;have hb9 := hBh1;clear f0 f1 b0 b1 b2 b3 b4 b5 u0 u1;have hs9 := hb9.size;replace HBel := bt9 HBel hb9 hlow;replace B_f := bb9 hb9 B_f l_f;replace B_b := bb9 hb9 B_b l_b;replace B_u := bb9 hb9 B_u l_u;replace l_f : N_f < wh1.heap.size := (by omega);replace l_b : N_b < wh1.heap.size := (by omega);replace l_u : N_u < wh1.heap.size := (by omega);replace hlow : w.heap.size ≤ wh1.heap.size := (by omega);clear hb9 hs9 hSh0 hBh0 hSh1 hBh1;go_wp2
   go_ret
   exact ⟨by first | rfl | simp, by rw [HB0.out]; exact HBel.out⟩
  ·have t2 : decide (C ≤ c0) = false := decide_eq_false h2;obtain rfl : b = false := by rw [hb]; simp [h2]
   clear hb h1 h2;obtain ⟨B0, hB0⟩ := nx (w.heap.size);rw [← hB0];have HB0 := Hq hB0;clear hB0;have HBel := Hq (Below.refl w.heap.size w);have hlow : w.heap.size ≤ w.heap.size := Nat.le_refl _;go_enter Tryz.func9, Tryz.ntmps9;go_wp2_with fail;obtain ⟨V1, hV1⟩ := nx ((w.alloc (.cells #[.int .i64 g0, .int .i64 c0] 42)).alloc (.cells #[.int .i64 X.q, .int .i64 X.n, .int .i64 X.S.g, .int .i64 X.S.c, .int .i64 X.S.mn, .int .i64 X.S.mx] 34));rw [← hV1];have hzV1 := sz2 hV1;replace HBel := be2 hV1 HBel hlow;have B_f := Hq (new20 hV1);have B_b := Hq (new21 hV1);obtain ⟨N_f, hN_f⟩ := nx (w.heap.size);obtain ⟨N_b, hN_b⟩ := nx (w.heap.size + 1);(try rw [← hN_b]);rw [← hN_b] at B_b;(try rw [← hN_f]);rw [← hN_f] at B_f;have l_f : N_f < V1.heap.size := (by omega);have l_b : N_b < V1.heap.size := (by omega);have g_f : w.heap.size ≤ N_f := (by omega);have g_b : w.heap.size ≤ N_b := (by omega);have d_f_b : N_f < N_b := (by omega);replace hlow : w.heap.size ≤ V1.heap.size := (by omega);clear hV1 hzV1 hN_f hN_b;refine (hN.out V1).mono ?_;rintro e U2 ⟨rfl, hb9⟩;have hs9 := hb9.size;replace HBel := bt9 HBel hb9 hlow;replace B_f := bb9 hb9 B_f l_f;replace B_b := bb9 hb9 B_b l_b;replace l_f : N_f < U2.heap.size := (by omega);replace l_b : N_b < U2.heap.size := (by omega);replace hlow : w.heap.size ≤ U2.heap.size := (by omega);clear hb9 hs9;obtain ⟨b0, b1, b2, b3, b4, b5⟩ := cells6 B_b.out;go_wp2_with fail;refine (hU.out U2).mono ?_;rintro e U3 ⟨rfl, hb9⟩;clear b0 b1 b2 b3 b4 b5;have hs9 := hb9.size;replace HBel := bt9 HBel hb9 hlow;replace B_f := bb9 hb9 B_f l_f;replace B_b := bb9 hb9 B_b l_b;replace l_f : N_f < U3.heap.size := (by omega);replace l_b : N_b < U3.heap.size := (by omega);replace hlow : w.heap.size ≤ U3.heap.size := (by omega);clear hb9 hs9;go_wp2_with fail;obtain ⟨V4, hV4⟩ := nx (U3.alloc (.cells #[.int .i64 G, .int .i64 C] 42));rw [← hV4];have hzV4 := sz1 hV4;replace HBel := be1 hV4 HBel hlow;replace B_f := bk1 hV4 B_f l_f;replace B_b := bk1 hV4 B_b l_b;have B_u := Hq (new10 hV4);obtain ⟨N_u, hN_u⟩ := nx (U3.heap.size);(try rw [← hN_u]);rw [← hN_u] at B_u;have d_f_u : N_f < N_u := (by omega);have d_b_u : N_b < N_u := (by omega);replace l_f : N_f < V4.heap.size := (by omega);replace l_b : N_b < V4.heap.size := (by omega);have l_u : N_u < V4.heap.size := (by omega);have g_u : w.heap.size ≤ N_u := (by omega);replace hlow : w.heap.size ≤ V4.heap.size := (by omega);clear hV4 hzV4 hN_u;obtain ⟨f0, f1⟩ := cells2 B_f.out;obtain ⟨b0, b1, b2, b3, b4, b5⟩ := cells6 B_b.out;obtain ⟨u0, u1⟩ := cells2 B_u.out;refine held_begin (fun w' : World => w'.cell? ⟨N_f, 0, none⟩ = some (.int .i64 g0) ∧ w'.cell? ⟨N_f, 1, none⟩ = some (.int .i64 c0) ∧ w'.cell? ⟨N_b, 0, none⟩ = some (.int .i64 X.q) ∧ w'.cell? ⟨N_b, 1, none⟩ = some (.int .i64 X.n) ∧ w'.cell? ⟨N_b, 2, none⟩ = some (.int .i64 X.S.g) ∧ w'.cell? ⟨N_b, 3, none⟩ = some (.int .i64 X.S.c) ∧ w'.cell? ⟨N_b, 4, none⟩ = some (.int .i64 X.S.mn) ∧ w'.cell? ⟨N_b, 5, none⟩ = some (.int .i64 X.S.mx) ∧ w'.cell? ⟨N_u, 0, none⟩ = some (.int .i64 G) ∧ w'.cell? ⟨N_u, 1, none⟩ = some (.int .i64 C)) (by kernel_rfl) ?_
   have hBh0 : Below V4.heap.size V4 V4.drew := (Below.refl _ _).drew;have hSh0 := Ai f0 (Ai f1 (Ai b0 (Ai b1 (Ai b2 (Ai b3 (Ai b4 (Ai b5 (Ai u0 u1))))))));refine tkA 0 16 hSh0 ?_;refine tkA 1 17 hSh0 ?_;refine tkA 2 18 hSh0 ?_;refine tkA 3 19 hSh0 ?_;refine tkA 4 20 hSh0 ?_;refine tkA 5 21 hSh0 ?_;refine tkA 6 22 hSh0 ?_;refine tkA 7 23 hSh0 ?_;refine tkA 8 24 hSh0 ?_;refine tkA 9 25 hSh0 ?_;refine tkA 10 26 hSh0 ?_;refine tkA 11 27 hSh0 ?_;refine tkA 12 28 hSh0 ?_;refine skA 13 29 hSh0 ?_;refine skA 14 30 hSh0 ?_;refine skA 15 31 hSh0 ?_;refine skA 17 33 hSh0 ?_;refine skA 18 34 hSh0 ?_;refine skA 16 32 hSh0 ?_;refine skA 19 35 hSh0 ?_;refine tkA 20 36 hSh0 ?_;refine tkA 21 6 hSh0 ?_;refine wpAnyH_done (by kernel_rfl) ?_ _;obtain ⟨D5, hD9⟩ : ∃ D, D = V4.drew := ⟨_, rfl⟩
   have hb9 : Below V4.heap.size V4 D5 := by rw [hD9]; exact hBh0
   rw [← hD9];clear hD9;clear f0 f1 b0 b1 b2 b3 b4 b5 u0 u1;have hs9 := hb9.size;replace HBel := bt9 HBel hb9 hlow;replace B_f := bb9 hb9 B_f l_f;replace B_b := bb9 hb9 B_b l_b;replace B_u := bb9 hb9 B_u l_u;replace l_f : N_f < D5.heap.size := (by omega);replace l_b : N_b < D5.heap.size := (by omega);replace l_u : N_u < D5.heap.size := (by omega);replace hlow : w.heap.size ≤ D5.heap.size := (by omega);clear hb9 hs9;go_wp2
   go_ret
   exact ⟨by first | rfl | simp, by rw [HB0.out]; exact HBel.out⟩
 ·have t1 : decide (G ≤ g0) = false := decide_eq_false h1;obtain rfl : b = false := by rw [hb]; simp [h1]
  clear hb h1;obtain ⟨B0, hB0⟩ := nx (w.heap.size);rw [← hB0];have HB0 := Hq hB0;clear hB0;have HBel := Hq (Below.refl w.heap.size w);have hlow : w.heap.size ≤ w.heap.size := Nat.le_refl _;go_enter Tryz.func9, Tryz.ntmps9;go_wp2_with fail;obtain ⟨V1, hV1⟩ := nx ((w.alloc (.cells #[.int .i64 g0, .int .i64 c0] 42)).alloc (.cells #[.int .i64 X.q, .int .i64 X.n, .int .i64 X.S.g, .int .i64 X.S.c, .int .i64 X.S.mn, .int .i64 X.S.mx] 34));rw [← hV1];have hzV1 := sz2 hV1;replace HBel := be2 hV1 HBel hlow;have B_f := Hq (new20 hV1);have B_b := Hq (new21 hV1);obtain ⟨N_f, hN_f⟩ := nx (w.heap.size);obtain ⟨N_b, hN_b⟩ := nx (w.heap.size + 1);(try rw [← hN_b]);rw [← hN_b] at B_b;(try rw [← hN_f]);rw [← hN_f] at B_f;have l_f : N_f < V1.heap.size := by omega
  have l_b : N_b < V1.heap.size := by omega
  have g_f : w.heap.size ≤ N_f := by omega
  have g_b : w.heap.size ≤ N_b := by omega
  have d_f_b : N_f < N_b := by omega
  replace hlow : w.heap.size ≤ V1.heap.size := by omega
  clear hV1 hzV1 hN_f hN_b;refine (hN.out V1).mono ?_;rintro e U2 ⟨rfl, hb9⟩;have hs9 := hb9.size;replace HBel := bt9 HBel hb9 hlow;replace B_f := bb9 hb9 B_f l_f;replace B_b := bb9 hb9 B_b l_b;replace l_f : N_f < U2.heap.size := by omega
  replace l_b : N_b < U2.heap.size := by omega
  replace hlow : w.heap.size ≤ U2.heap.size := by omega
  clear hb9 hs9;obtain ⟨b0, b1, b2, b3, b4, b5⟩ := cells6 B_b.out;go_wp2_with fail;refine (hU.out U2).mono ?_;rintro e U3 ⟨rfl, hb9⟩;clear b0 b1 b2 b3 b4 b5;have hs9 := hb9.size;replace HBel := bt9 HBel hb9 hlow;replace B_f := bb9 hb9 B_f l_f;replace B_b := bb9 hb9 B_b l_b;replace l_f : N_f < U3.heap.size := by omega
  replace l_b : N_b < U3.heap.size := by omega
  replace hlow : w.heap.size ≤ U3.heap.size := by omega
  clear hb9 hs9;go_wp2_with fail;obtain ⟨V4, hV4⟩ := nx (U3.alloc (.cells #[.int .i64 G, .int .i64 C] 42));rw [← hV4];have hzV4 := sz1 hV4;replace HBel := be1 hV4 HBel hlow;replace B_f := bk1 hV4 B_f l_f;replace B_b := bk1 hV4 B_b l_b;have B_u := Hq (new10 hV4);obtain ⟨N_u, hN_u⟩ := nx (U3.heap.size);(try rw [← hN_u]);rw [← hN_u] at B_u;have d_f_u : N_f < N_u := by omega
  have d_b_u : N_b < N_u := by omega
  replace l_f : N_f < V4.heap.size := by omega
  replace l_b : N_b < V4.heap.size := by omega
  have l_u : N_u < V4.heap.size := by omega
  have g_u : w.heap.size ≤ N_u := by omega
  replace hlow : w.heap.size ≤ V4.heap.size := by omega
  clear hV4 hzV4 hN_u;obtain ⟨f0, f1⟩ := cells2 B_f.out;obtain ⟨b0, b1, b2, b3, b4, b5⟩ := cells6 B_b.out;obtain ⟨u0, u1⟩ := cells2 B_u.out;refine held_begin (fun w' : World => w'.cell? ⟨N_f, 0, none⟩ = some (.int .i64 g0) ∧ w'.cell? ⟨N_f, 1, none⟩ = some (.int .i64 c0) ∧ w'.cell? ⟨N_b, 0, none⟩ = some (.int .i64 X.q) ∧ w'.cell? ⟨N_b, 1, none⟩ = some (.int .i64 X.n) ∧ w'.cell? ⟨N_b, 2, none⟩ = some (.int .i64 X.S.g) ∧ w'.cell? ⟨N_b, 3, none⟩ = some (.int .i64 X.S.c) ∧ w'.cell? ⟨N_b, 4, none⟩ = some (.int .i64 X.S.mn) ∧ w'.cell? ⟨N_b, 5, none⟩ = some (.int .i64 X.S.mx) ∧ w'.cell? ⟨N_u, 0, none⟩ = some (.int .i64 G) ∧ w'.cell? ⟨N_u, 1, none⟩ = some (.int .i64 C)) (by kernel_rfl) ?_;have hBh0 : Below V4.heap.size V4 V4.drew := (Below.refl _ _).drew;have hSh0 := Ai f0 (Ai f1 (Ai b0 (Ai b1 (Ai b2 (Ai b3 (Ai b4 (Ai b5 (Ai u0 u1))))))));refine tkA 0 16 hSh0 ?_;refine tkA 1 17 hSh0 ?_;refine tkA 2 18 hSh0 ?_;refine tkA 3 19 hSh0 ?_;refine tkA 4 20 hSh0 ?_;refine tkA 5 21 hSh0 ?_;refine skA 6 22 hSh0 ?_;refine skA 7 23 hSh0 ?_;refine skA 8 24 hSh0 ?_;refine skA 9 25 hSh0 ?_;refine skA 10 26 hSh0 ?_;refine tkA 11 27 hSh0 ?_;refine tkA 12 28 hSh0 ?_;refine skA 13 29 hSh0 ?_;refine skA 14 30 hSh0 ?_;refine skA 15 31 hSh0 ?_;refine skA 17 33 hSh0 ?_;refine skA 18 34 hSh0 ?_;refine skA 16 32 hSh0 ?_;refine skA 19 35 hSh0 ?_;refine tkA 20 36 hSh0 ?_;refine tkA 21 6 hSh0 ?_;refine wpAnyH_done (by kernel_rfl) ?_ _;obtain ⟨D5, hD9⟩ : ∃ D, D = V4.drew := ⟨_, rfl⟩
  have hb9 : Below V4.heap.size V4 D5 := by rw [hD9]; exact hBh0
  rw [← hD9];clear hD9;clear f0 f1 b0 b1 b2 b3 b4 b5 u0 u1;have hs9 := hb9.size;replace HBel := bt9 HBel hb9 hlow;replace B_f := bb9 hb9 B_f l_f;replace B_b := bb9 hb9 B_b l_b;replace B_u := bb9 hb9 B_u l_u;replace l_f : N_f < D5.heap.size := by omega
  replace l_b : N_b < D5.heap.size := by omega
  replace l_u : N_u < D5.heap.size := by omega
  replace hlow : w.heap.size ≤ D5.heap.size := by omega
  clear hb9 hs9;go_wp2
  go_ret
  exact ⟨by first | rfl | simp, by rw [HB0.out]; exact HBel.out⟩
theorem over_next {l : List Ho} {k : Nat} {x : Ho} {t : Int} (h : l[k]? = some x) : over (l.take (k + 1)) t = over (l.take k) t ++ if x.u ≤ t then [x] else [] := by
 rw [take_next h]; unfold over; rw [List.filter_append, List.filter_cons];by_cases e : x.u ≤ t
 ·simp [e]
 ·simp [e]
theorem over_many {l : List Ho} (h : Many l) (t : Int) (k : Nat) : (sl (over (l.take k) t)).length ≤ 1000000 := by
 have h1 := sl_many h k;have h2 : (sl (over (l.take k) t)).length ≤ (sl (l.take k)).length := by
  have hp := (sl_perm (over_rest (l.take k) t)).length_eq;rw [sl_app, List.length_append] at hp;omega
 omega
set_option maxHeartbeats 4000000 in
theorem refall12_any (A : Option Addr) (c : Nat) (l : List Ho) (t : Int) (w : World) (h : HosIn w w.heap.size A l) (hm : Many l) :
  Calls Tryz.prog 32 #[.slice A l.length c, .int .i64 t] w fun e w' => ∃ A' c', e = .returned (.slice A' (sl (over l t)).length c') ∧ Fes w' w'.heap.size A' (sl (over l t)) ∧ Below w.heap.size w w' := by
 obtain ⟨i0, hi, hz0, hz1, hz2⟩ := info_parts info_slot4;obtain ⟨n, hn⟩ := nx (l.length);have hn1 := hm.n;rw [← hn] at hn1 ⊢;have H := Hq (Ai h (Ai hn hm));have HB0 := Hq (Ai (Below.refl w.heap.size w) (show w.ownsRow w.heap.size 64 4 (.slice none 0 0) 0 ((sl (over (l.take 0) t)).flatMap feC) from World.ownsRow_nil _ _ _ _));clear h hn hm;go_enter Tryz.func32, Tryz.ntmps32;go_wp2;go_loopw [5, 6] (fun v vi wr => ∃ (k u : Nat) (A : Option Addr) (cp : Nat), vi = .int .i64 k ∧ v = .slice A u cp ∧ k ≤ n ∧ u = (sl (over (l.take k) t)).length ∧ Hid (Below w.heap.size w wr ∧ wr.ownsRow w.heap.size 64 4 (.slice A u cp) u ((sl (over (l.take k) t)).flatMap feC))) (fun _ vi _ => n - (intOf vi).toNat)
 case atStart => exact ⟨0, 0, none, 0, rfl, rfl, by omega, rfl, HB0⟩
 case round =>
  clear HB0;obtain ⟨k, u, A1, cp, rfl, rfl, hkn, hu, hB⟩ := hrel;by_cases hlt : k < n
  ·have t1 : decide (k < n) = true := decide_eq_true hlt;obtain ⟨x, hx⟩ := get_lt (l := l) (k := k) (by rw [← H.out.2.1]; exact hlt);obtain ⟨b, off, rfl, hb, hall⟩ := H.out.1.at_.at_ hx;have hk := (hall k x hx).keep hb hB.out.1;have h2 := hk 2 _ rfl;have h4 := hk 4 _ rfl;have hu6 := over_many H.out.2.2 t k;rw [← hu] at hu6;have hnx := over_next (t := t) hx;have hsz := hB.out.1.size;by_cases hxt : x.u ≤ t
   ·have t2 : decide (x.u ≤ t) = true := decide_eq_true hxt;rw [if_pos hxt] at hnx;obtain ⟨v, hv⟩ := nx (x.sl.length);have hv6 := H.out.2.2.s x (List.mem_of_getElem? hx);rw [← hv] at h4 hv6;have hF := (H.out.1.sl x (List.mem_of_getElem? hx)).keep hB.out.1 hsz;have hsx : sl [x] = x.sl := by simp [sl]
    have HV := Hq (Ai hv (Ai hu hB.out));have hn1 : Hid (u + v = (sl (over (l.take (k + 1)) t)).length) := Hq (by rw [hnx, sl_app, hsx, List.length_append, ← hu, ← hv]);have hn2 : Hid ((sl (over (l.take (k + 1)) t)).flatMap feC = (sl (over (l.take k) t)).flatMap feC ++ x.sl.flatMap feC) := Hq (by rw [hnx, sl_app, hsx, List.flatMap_append]);have HO := Hq hB.out.2;have HE := Hq (fes_els hF);clear hv hu hB hk hall hx hF hnx hsx hxt;go_wp2_with (at_builtin; refine wpList_append_els (C := feC) (k := 4) _ rfl _ _ 37 rfl w.heap.size 64 i0 _ 32 Tryz.underlying37 hi hz0 hz1 hz2 rfl (by decide) (.slice A1 u cp) u ((sl (over (l.take k) t)).flatMap feC) rfl HO.out _ x.A x.c v x.sl rfl HE.out HV.out.1 feC_len1 feC_one1 (by unfold maxLen; omega) (by omega) (by first | omega | (simp; omega)) ?_; intro A5 c5 w5 own5 g5 k5);have HN : Hid (Below w.heap.size w w5 ∧ w5.ownsRow w.heap.size 64 4 (.slice A5 (u + v) c5) (u + v) ((sl (over (l.take (k + 1)) t)).flatMap feC)) := Hq ⟨HV.out.2.2.1.grown g5 hsz (fun i e => (HV.out.2.2.2.lt i e).1), by rw [hn2.out]; exact own5⟩;clear own5 g5 k5 HO HE;go_wp2
    go_roundw
    case rel => exact ⟨k + 1, u + v, A5, c5, by go_num, rfl, by omega, hn1.out, HN⟩
    case measure => simp [intOf]; omega
   ·have t2 : decide (x.u ≤ t) = false := decide_eq_false hxt;rw [if_neg hxt, List.append_nil] at hnx;have HN := Hq hnx;clear hk hall hx hnx hxt;go_wp2
    go_roundw
    case rel => exact ⟨k + 1, u, A1, cp, by go_num, rfl, by omega, by rw [HN.out]; exact hu, by rw [HN.out]; exact hB⟩
    case measure => simp [intOf]; omega
  ·obtain rfl : k = n := by omega
   have t1 : decide (k < k) = false := decide_eq_false hlt;have e9 : l.take k = l := by rw [H.out.2.1]; exact List.take_length
   rw [e9] at hu hB;have HU := Hq hu;clear hu e9;go_wp2
   go_ret
   have ho := hB.out.2;rw [HU.out] at ho ⊢;exact ⟨A1, cp, rfl, fe_own ho, hB.out.1⟩
end Go.Proofs.YtkkkhonjcbhelaaGreatDoor
