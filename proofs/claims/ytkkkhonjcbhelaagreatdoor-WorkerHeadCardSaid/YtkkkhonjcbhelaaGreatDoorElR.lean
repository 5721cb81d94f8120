import Derived.Test.YtkkkhonjcbhelaaGreatDoorElQ
import Derived.Test.YtkkkhonjcbhelaaGreatDoorFilAft
set_option maxRecDepth 100000
set_option linter.unusedVariables false
namespace Go.Proofs.YtkkkhonjcbhelaaGreatDoor
section
open Go.RowKit
open PR
set_option maxHeartbeats 16000000 in
theorem let_any (L : Lk) (j : Jb) (un : Int) (A : Option Addr) (c : Nat) (l9 : List Fe) (w : World) (h : LkIn w w.heap.size L) (hW : LkW L) (hF : LkF L) (hj : JbW j) (hu : (Lit.int .i64 un).wf = true)
  (hs : Fes w w.heap.size A l9) (hso : ∀ s ∈ l9, FeOk s) (hl : l9.length ≤ c) (hc : c ≤ maxLen) (hn9 : l9.length ≤ 1000) (hT : Tab w) :
  Calls Tryz.prog 53 #[lkV L, jbV j, .int .i64 un, .slice A l9.length c] w fun e w' => ∃ r, e = .returned (.int .i64 r) ∧ LetR L j.id j.q un l9 r ∧ Below w.heap.size w w' := by
 obtain ⟨n1, hn1⟩ := nx (L.lv.length);obtain ⟨n2, hn2⟩ := nx (L.lf.length);obtain ⟨n3, hn3⟩ := nx (L.le.length);obtain ⟨n4, hn4⟩ := nx (L.lw.length);obtain ⟨n5, hn5⟩ := nx (L.lr.length);obtain ⟨k, hk9⟩ : ∃ n, n = l9.length := ⟨_, rfl⟩
 have hH := Hq (fun W (hk : Below w.heap.size w W) => show Calls Tryz.prog 63 #[.agg #[.int .i64 L.now, .int .i64 L.hd, .int .i64 L.pr, .int .i64 L.to, .slice L.A1 n1 L.c1, .slice L.A2 n2 L.c2, .slice L.A3 n3 L.c3, .slice L.A4 n4 L.c4, .slice L.A5 n5 L.c5]] W (fun e w' => HeadR (headL L) e ∧ Below W.heap.size W w') from by
  have h9 := head_any L W (h.keep hk hk.size) hW;unfold lkV lkA at h9;rw [← hn1, ← hn2, ← hn3, ← hn4, ← hn5] at h9;exact h9)
 have hL := Hq (fun X (hX : headL L = some X) W (hk : Below w.heap.size w W) => show Calls Tryz.prog 56 #[.agg #[.int .i64 L.now, .int .i64 L.hd, .int .i64 L.pr, .int .i64 L.to, .slice L.A1 n1 L.c1, .slice L.A2 n2 L.c2, .slice L.A3 n3 L.c3, .slice L.A4 n4 L.c4, .slice L.A5 n5 L.c5], .int .i64 X.q] W (fun e w' => LeftR (leftL L X.q) e ∧ Below W.heap.size W w') from by
  have h9 := leftof_any L X.q W (h.keep hk hk.size) (head_ok hW hX).q hW;unfold lkV lkA at h9;rw [← hn1, ← hn2, ← hn3, ← hn4, ← hn5] at h9;exact h9)
 have hS := Hq (fun X (hX : headL L = some X) (U : Lu) (hU : leftL L X.q = some U) W (hk : Below w.heap.size w W) => show Calls Tryz.prog 64 #[.int .i64 L.now, .slice L.A1 n1 L.c1, .agg #[.int .i64 U.g, .int .i64 U.c], .slice L.A3 n3 L.c3, .agg #[.int .i64 X.q, .int .i64 X.n, .int .i64 X.S.g, .int .i64 X.S.c, .int .i64 X.S.mn, .int .i64 X.S.mx], .int .i64 L.pr, .agg #[.int .i64 j.id, .int .i64 j.q, .int .i64 un, .bool false, .slice A k c]] W (fun e w' => ∃ T E, e = .returned (.tuple #[.bool (safeB L.now L.pr T E), .int .i64 E]) ∧ Aft L.now L.lv U.g U.c L.le X (hoOf j.q un l9) T E ∧ Below W.heap.size W w') from by
  have hb := hF.f U (left_in hU).1;have h9 := psafe_any L.now L.A1 L.c1 L.lv U.g U.c L.A3 L.c3 L.le X L.pr ⟨j.id, j.q, un, false, A, c, l9⟩ W (h.v.keep hk hk.size) hF.v (by have := hF.n; omega) (h.e.keep hk hk.size) hW.e (by have := hF.e1; omega) (fun x hx => by have := hF.e2 x hx; omega) (head_ok hW hX) (Fes.keep hs hk hk.size) ⟨hj.q, hu, hl, hc, hso⟩ hn9 (by omega) (by omega) (hT.below hk hT.size);unfold hoV hoA waV waA at h9;rw [← hn1, ← hn3, ← hk9] at h9;refine h9.mono ?_;rintro e w' ⟨T, E, he, ha, hb9⟩;exact ⟨T, E, he, Aft.of_ (H := ⟨j.id, j.q, un, false, A, c, l9⟩) (H' := hoOf j.q un l9) rfl rfl rfl ha, hb9⟩)
 unfold lkV lkA jbV jbA;rw [← hn1, ← hn2, ← hn3, ← hn4, ← hn5];rw [← hk9];clear hn1 hn2 hn3 hn4 hn5 h hW hF hj hu hs hso hl hc hn9 hT hk9;by_cases hid : j.id = L.hd
 ·have HI := Hq hid;have t1 : (j.id == L.hd) = true := by simp [hid]
  clear hid;obtain ⟨B0, hB0⟩ := nx (w.heap.size);rw [← hB0];have HB0 := Hq hB0;clear hB0;have HBel := Hq (Below.refl w.heap.size w);have hlow : w.heap.size ≤ w.heap.size := Nat.le_refl _;go_enter Tryz.func53, Tryz.ntmps53;go_wp2_with fail;obtain ⟨V1, hV1⟩ := nx ((w.alloc (.cells #[.int .i64 L.now, .int .i64 L.hd, .int .i64 L.pr, .int .i64 L.to, .slice L.A1 n1 L.c1, .slice L.A2 n2 L.c2, .slice L.A3 n3 L.c3, .slice L.A4 n4 L.c4, .slice L.A5 n5 L.c5] 28)).alloc (.cells #[.int .i64 j.id, .int .i64 j.q, .int .i64 j.p, .int .i64 j.r, .int .i64 j.g, .int .i64 j.c, .int .i64 j.mn, .int .i64 j.mx] 47));rw [← hV1];have hzV1 := sz2 hV1;replace HBel := be2 hV1 HBel hlow;have B_l := Hq (new20 hV1);have B_j := Hq (new21 hV1);obtain ⟨N_l, hN_l⟩ := nx (w.heap.size);obtain ⟨N_j, hN_j⟩ := nx (w.heap.size + 1);(try rw [← hN_j]);rw [← hN_j] at B_j;(try rw [← hN_l]);rw [← hN_l] at B_l;have l_l : N_l < V1.heap.size := by omega
  have l_j : N_j < V1.heap.size := by omega
  have g_l : w.heap.size ≤ N_l := by omega
  have g_j : w.heap.size ≤ N_j := by omega
  have d_l_j : N_l < N_j := by omega
  replace hlow : w.heap.size ≤ V1.heap.size := by omega
  clear hV1 hzV1 hN_l hN_j;obtain ⟨l0, l1, l2, l3, l4, l5, l6, l7, l8⟩ := cells9 B_l.out;go_wp2_with fail;refine (hH.out V1 HBel.out).mono ?_;rintro e U2 ⟨hh, hb9⟩;clear l0 l1 l2 l3 l4 l5 l6 l7 l8;have hs9 := hb9.size;replace HBel := bt9 HBel hb9 hlow;replace B_l := bb9 hb9 B_l l_l;replace B_j := bb9 hb9 B_j l_j;replace l_l : N_l < U2.heap.size := by omega
  replace l_j : N_j < U2.heap.size := by omega
  replace hlow : w.heap.size ≤ U2.heap.size := by omega
  clear hb9 hs9;rcases hh with ⟨hn, rfl⟩ | ⟨X, hX, rfl⟩
  ·have HN := Hq hn;clear hn;obtain ⟨l0, l1, l2, l3, l4, l5, l6, l7, l8⟩ := cells9 B_l.out;have l_l_0 : N_l < U2.heap.size + 1 := (by omega);obtain ⟨j0, j1, j2, j3, j4, j5, j6, j7⟩ := cells8 B_j.out;have l_j_0 : N_j < U2.heap.size + 1 := (by omega);go_wp2;clear l0 l1 l2 l3 l4 l5 l6 l7 l8 l_l_0 j0 j1 j2 j3 j4 j5 j6 j7 l_j_0
   go_ret
   exact ⟨0, rfl, .inl ⟨.inl HN.out, rfl⟩, by rw [HB0.out]; exact HBel.out.alloc hlow _⟩
  ·have HX := Hq hX;clear hX;obtain ⟨l0, l1, l2, l3, l4, l5, l6, l7, l8⟩ := cells9 B_l.out;have l_l_0 : N_l < U2.heap.size + 1 := (by omega);obtain ⟨j0, j1, j2, j3, j4, j5, j6, j7⟩ := cells8 B_j.out;have l_j_0 : N_j < U2.heap.size + 1 := (by omega);go_wp2;clear l0 l1 l2 l3 l4 l5 l6 l7 l8 l_l_0 j0 j1 j2 j3 j4 j5 j6 j7 l_j_0
   go_ret
   exact ⟨0, rfl, .inl ⟨.inr HI.out, rfl⟩, by rw [HB0.out]; exact HBel.out.alloc hlow _⟩
 ·have HI := Hq hid;have t1 : (j.id == L.hd) = false := by simp [hid]
  clear hid;obtain ⟨B0, hB0⟩ := nx (w.heap.size);rw [← hB0];have HB0 := Hq hB0;clear hB0;have HBel := Hq (Below.refl w.heap.size w);have hlow : w.heap.size ≤ w.heap.size := Nat.le_refl _;go_enter Tryz.func53, Tryz.ntmps53;go_wp2_with fail;obtain ⟨V1, hV1⟩ := nx ((w.alloc (.cells #[.int .i64 L.now, .int .i64 L.hd, .int .i64 L.pr, .int .i64 L.to, .slice L.A1 n1 L.c1, .slice L.A2 n2 L.c2, .slice L.A3 n3 L.c3, .slice L.A4 n4 L.c4, .slice L.A5 n5 L.c5] 28)).alloc (.cells #[.int .i64 j.id, .int .i64 j.q, .int .i64 j.p, .int .i64 j.r, .int .i64 j.g, .int .i64 j.c, .int .i64 j.mn, .int .i64 j.mx] 47));rw [← hV1];have hzV1 := sz2 hV1;replace HBel := be2 hV1 HBel hlow;have B_l := Hq (new20 hV1);have B_j := Hq (new21 hV1);obtain ⟨N_l, hN_l⟩ := nx (w.heap.size);obtain ⟨N_j, hN_j⟩ := nx (w.heap.size + 1);(try rw [← hN_j]);rw [← hN_j] at B_j;(try rw [← hN_l]);rw [← hN_l] at B_l;have l_l : N_l < V1.heap.size := by omega
  have l_j : N_j < V1.heap.size := by omega
  have g_l : w.heap.size ≤ N_l := by omega
  have g_j : w.heap.size ≤ N_j := by omega
  have d_l_j : N_l < N_j := by omega
  replace hlow : w.heap.size ≤ V1.heap.size := by omega
  clear hV1 hzV1 hN_l hN_j;obtain ⟨l0, l1, l2, l3, l4, l5, l6, l7, l8⟩ := cells9 B_l.out;go_wp2_with fail;refine (hH.out V1 HBel.out).mono ?_;rintro e U2 ⟨hh, hb9⟩;clear l0 l1 l2 l3 l4 l5 l6 l7 l8;have hs9 := hb9.size;replace HBel := bt9 HBel hb9 hlow;replace B_l := bb9 hb9 B_l l_l;replace B_j := bb9 hb9 B_j l_j;replace l_l : N_l < U2.heap.size := by omega
  replace l_j : N_j < U2.heap.size := by omega
  replace hlow : w.heap.size ≤ U2.heap.size := by omega
  clear hb9 hs9;rcases hh with ⟨hn, rfl⟩ | ⟨X, hX, rfl⟩
  ·have HN := Hq hn;clear hn;obtain ⟨l0, l1, l2, l3, l4, l5, l6, l7, l8⟩ := cells9 B_l.out;have l_l_0 : N_l < U2.heap.size + 1 := (by omega);obtain ⟨j0, j1, j2, j3, j4, j5, j6, j7⟩ := cells8 B_j.out;have l_j_0 : N_j < U2.heap.size + 1 := (by omega);go_wp2;clear l0 l1 l2 l3 l4 l5 l6 l7 l8 l_l_0 j0 j1 j2 j3 j4 j5 j6 j7 l_j_0
   go_ret
   exact ⟨0, rfl, .inl ⟨.inl HN.out, rfl⟩, by rw [HB0.out]; exact HBel.out.alloc hlow _⟩
  ·have HX := Hq hX;clear hX;obtain ⟨l0, l1, l2, l3, l4, l5, l6, l7, l8⟩ := cells9 B_l.out;have l_l_0 : N_l < U2.heap.size + 1 := (by omega);obtain ⟨j0, j1, j2, j3, j4, j5, j6, j7⟩ := cells8 B_j.out;have l_j_0 : N_j < U2.heap.size + 1 := (by omega);go_wp2_with fail;clear l0 l1 l2 l3 l4 l5 l6 l7 l8 l_l_0 j0 j1 j2 j3 j4 j5 j6 j7 l_j_0;obtain ⟨V3, hV3⟩ := nx (U2.alloc (.cells #[.int .i64 X.q, .int .i64 X.n, .int .i64 X.S.g, .int .i64 X.S.c, .int .i64 X.S.mn, .int .i64 X.S.mx] 34));rw [← hV3];have hzV3 := sz1 hV3;replace HBel := be1 hV3 HBel hlow;replace B_l := bk1 hV3 B_l l_l;replace B_j := bk1 hV3 B_j l_j;have B_x := Hq (new10 hV3);obtain ⟨N_x, hN_x⟩ := nx (U2.heap.size);(try rw [← hN_x]);rw [← hN_x] at B_x;have d_l_x : N_l < N_x := (by omega);have d_j_x : N_j < N_x := (by omega);replace l_l : N_l < V3.heap.size := (by omega);replace l_j : N_j < V3.heap.size := (by omega);have l_x : N_x < V3.heap.size := (by omega);have g_x : w.heap.size ≤ N_x := (by omega);replace hlow : w.heap.size ≤ V3.heap.size := (by omega);clear hV3 hzV3 hN_x;refine (hL.out X HX.out V3 HBel.out).mono ?_;rintro e U4 ⟨hq, hb9⟩;have hs9 := hb9.size;replace HBel := bt9 HBel hb9 hlow;replace B_l := bb9 hb9 B_l l_l;replace B_j := bb9 hb9 B_j l_j;replace B_x := bb9 hb9 B_x l_x;replace l_l : N_l < U4.heap.size := (by omega);replace l_j : N_j < U4.heap.size := (by omega);replace l_x : N_x < U4.heap.size := (by omega);replace hlow : w.heap.size ≤ U4.heap.size := (by omega);clear hb9 hs9;rcases hq with ⟨hq, rfl⟩ | ⟨U, hq, rfl⟩
   ·have HQ := Hq hq;clear hq;go_wp2
    go_ret
    exact ⟨5, rfl, .inr ⟨HI.out, X, HX.out, .inl ⟨HQ.out, rfl⟩⟩, by rw [HB0.out]; exact HBel.out.alloc hlow _⟩
   ·have HQ := Hq hq;clear hq;obtain ⟨l0, l1, l2, l3, l4, l5, l6, l7, l8⟩ := cells9 B_l.out;have l_l_0 : N_l < U4.heap.size + 1 := (by omega);have l_l_1 : N_l < U4.heap.size + 1 + 1 := (by omega);obtain ⟨j0, j1, j2, j3, j4, j5, j6, j7⟩ := cells8 B_j.out;have l_j_0 : N_j < U4.heap.size + 1 := (by omega);have l_j_1 : N_j < U4.heap.size + 1 + 1 := (by omega);obtain ⟨x0, x1, x2, x3, x4, x5⟩ := cells6 B_x.out;have l_x_0 : N_x < U4.heap.size + 1 := (by omega);have l_x_1 : N_x < U4.heap.size + 1 + 1 := (by omega);go_wp2_with fail;clear l0 l1 l2 l3 l4 l5 l6 l7 l8 l_l_0 l_l_1 j0 j1 j2 j3 j4 j5 j6 j7 l_j_0 l_j_1 x0 x1 x2 x3 x4 x5 l_x_0 l_x_1;obtain ⟨V5, hV5⟩ := nx ((U4.alloc (.cells #[.int .i64 U.g, .int .i64 U.c] 42)).alloc (.cells #[.int .i64 j.id, .int .i64 j.q, .int .i64 un, .bool false, .slice A k c] 53));rw [← hV5];have hzV5 := sz2 hV5;replace HBel := be2 hV5 HBel hlow;replace B_l := bk2 hV5 B_l l_l;replace B_j := bk2 hV5 B_j l_j;replace B_x := bk2 hV5 B_x l_x;have B_u := Hq (new20 hV5);have B_h := Hq (new21 hV5);obtain ⟨N_u, hN_u⟩ := nx (U4.heap.size);obtain ⟨N_h, hN_h⟩ := nx (U4.heap.size + 1);(try rw [← hN_h]);rw [← hN_h] at B_h;(try rw [← hN_u]);rw [← hN_u] at B_u;have d_l_u : N_l < N_u := (by omega);have d_j_u : N_j < N_u := (by omega);have d_x_u : N_x < N_u := (by omega);have d_l_h : N_l < N_h := (by omega);have d_j_h : N_j < N_h := (by omega);have d_x_h : N_x < N_h := (by omega);replace l_l : N_l < V5.heap.size := (by omega);replace l_j : N_j < V5.heap.size := (by omega);replace l_x : N_x < V5.heap.size := (by omega);have l_u : N_u < V5.heap.size := (by omega);have l_h : N_h < V5.heap.size := (by omega);have g_u : w.heap.size ≤ N_u := (by omega);have g_h : w.heap.size ≤ N_h := (by omega);have d_u_h : N_u < N_h := (by omega);replace hlow : w.heap.size ≤ V5.heap.size := (by omega);clear hV5 hzV5 hN_u hN_h;refine (hS.out X HX.out U HQ.out V5 HBel.out).mono ?_;rintro e U6 ⟨T, E, rfl, ha, hb9⟩;have hs9 := hb9.size;have HA := Hq ha;clear ha;replace HBel := bt9 HBel hb9 hlow;replace B_l := bb9 hb9 B_l l_l;replace B_j := bb9 hb9 B_j l_j;replace B_x := bb9 hb9 B_x l_x;replace B_u := bb9 hb9 B_u l_u;replace B_h := bb9 hb9 B_h l_h;replace l_l : N_l < U6.heap.size := (by omega);replace l_j : N_j < U6.heap.size := (by omega);replace l_x : N_x < U6.heap.size := (by omega);replace l_u : N_u < U6.heap.size := (by omega);replace l_h : N_h < U6.heap.size := (by omega);replace hlow : w.heap.size ≤ U6.heap.size := (by omega);clear hb9 hs9;obtain ⟨q, hq⟩ := nx (safeB L.now L.pr T E);rw [← hq];have HQ2 := Hq hq.symm;clear hq
    cases q
    ·go_wp2
     go_ret
     exact ⟨5, rfl, .inr ⟨HI.out, X, HX.out, .inr ⟨U, HQ.out, T, E, HA.out, by rw [HQ2.out]; rfl⟩⟩, by rw [HB0.out]; exact HBel.out⟩
    ·go_wp2
     go_ret
     exact ⟨0, rfl, .inr ⟨HI.out, X, HX.out, .inr ⟨U, HQ.out, T, E, HA.out, by rw [HQ2.out]; rfl⟩⟩, by rw [HB0.out]; exact HBel.out⟩
end
set_option linter.unusedVariables false
set_option maxRecDepth 100000
section
open Go.RowKit
open PR
abbrev FlR (L : Lk) (j : Jb) (un : Int) : Nat → Int → Prop := fun m r => LetR L j.id j.q un (placeF j.S L.lv m) r
set_option maxHeartbeats 16000000 in
theorem fillcl_any (a b d : Nat) (n1 n2 n3 n4 n5 : Nat) (L : Lk) (j : Jb) (un : Int) (p : Nat) (w : World) (hn1 : n1 = L.lv.length) (hn2 : n2 = L.lf.length) (hn3 : n3 = L.le.length) (hn4 : n4 = L.lw.length) (hn5 : n5 = L.lr.length) (h : LkIn w w.heap.size L) (hW : LkW L) (hF : LkF L) (hj : JbW j) (hu : (Lit.int .i64 un).wf = true) (hT : Tab w)
  (hok : j.S.ok = true) (h1 : 1 ≤ p) (h16 : p ≤ 16) (hr : p ≤ roomF j.S L.lv)
  (bl : w.heap[a]? = some (.cells #[.int .i64 L.now, .int .i64 L.hd, .int .i64 L.pr, .int .i64 L.to, .slice L.A1 n1 L.c1, .slice L.A2 n2 L.c2, .slice L.A3 n3 L.c3, .slice L.A4 n4 L.c4, .slice L.A5 n5 L.c5] 28 (0, 0))) (bj : w.heap[b]? = some (.cells #[.int .i64 j.id, .int .i64 j.q, .int .i64 j.p, .int .i64 j.r, .int .i64 j.g, .int .i64 j.c, .int .i64 j.mn, .int .i64 j.mx] 47 (0, 0))) (bu : w.heap[d]? = some (.cells #[.int .i64 un] 3 (0, 0))) :
  Calls Tryz.prog 51 #[.int .i64 (p : Nat), .pointer (some ⟨a, 0, none⟩), .pointer (some ⟨b, 0, none⟩), .pointer (some ⟨d, 0, none⟩)] w fun e w' => TryR (FlR L j un) (placeF j.S L.lv) p w' e ∧ Below w.heap.size w w' := by
 have hlen : (placeF j.S L.lv p).length = p := placeF_len hr;have hsok : ∀ s ∈ placeF j.S L.lv p, FeOk s := fun s hs => (placeL_ok hj.S hW.v _ _ s hs).1
 have hP := Hq (show Calls Tryz.prog 52 #[.slice L.A1 n1 L.c1, .agg #[.int .i64 j.g, .int .i64 j.c, .int .i64 j.mn, .int .i64 j.mx], .int .i64 (p : Nat)] w (fun e w' => ∃ b off cap', e = .returned (.tuple #[.slice (some ⟨b, off, none⟩) p cap', .int .i64 0]) ∧ p ≤ cap' ∧ cap' ≤ maxLen ∧ Below w.heap.size w w' ∧ Hid (Fes w' w'.heap.size (some ⟨b, off, none⟩) (placeF j.S L.lv p))) from by
  rw [hn1];exact place_own L.A1 L.c1 w.heap.size L.lv j.S p w h.v (Nat.le_refl _) (by have := hF.n; omega) hj.S hW.v hT hok h1 h16 hr)
 have hL := Hq (fun (A : Option Addr) (c : Nat) W (hk : Below w.heap.size w W) (hs : Fes W W.heap.size A (placeF j.S L.lv p)) (hc1 : p ≤ c) (hc2 : c ≤ maxLen) => show Calls Tryz.prog 53 #[.agg #[.int .i64 L.now, .int .i64 L.hd, .int .i64 L.pr, .int .i64 L.to, .slice L.A1 n1 L.c1, .slice L.A2 n2 L.c2, .slice L.A3 n3 L.c3, .slice L.A4 n4 L.c4, .slice L.A5 n5 L.c5], .agg #[.int .i64 j.id, .int .i64 j.q, .int .i64 j.p, .int .i64 j.r, .int .i64 j.g, .int .i64 j.c, .int .i64 j.mn, .int .i64 j.mx], .int .i64 un, .slice A p c] W (fun e w' => ∃ r, e = .returned (.int .i64 r) ∧ LetR L j.id j.q un (placeF j.S L.lv p) r ∧ Below W.heap.size W w') from by
  have h9 := let_any L j un A c (placeF j.S L.lv p) W (h.keep hk hk.size) hW hF hj hu hs hsok (by rw [hlen]; exact hc1) hc2 (by rw [hlen]; omega) (hT.below hk hT.size);unfold lkV lkA jbV jbA at h9;rw [hlen, ← hn1, ← hn2, ← hn3, ← hn4, ← hn5] at h9;exact h9)
 have B_l := Hq bl;have B_j := Hq bj;have B_u := Hq bu;have l_l : a < w.heap.size := blk_lt bl;have l_j : b < w.heap.size := blk_lt bj;have l_u : d < w.heap.size := blk_lt bu;have HLN := Hq hlen;clear bl bj bu hn1 hn2 hn3 hn4 hn5 h hW hF hj hu hT hok h1 h16 hr hlen hsok;obtain ⟨B0, hB0⟩ := nx (w.heap.size);rw [← hB0];have HB0 := Hq hB0;clear hB0;have HBel := Hq (Below.refl w.heap.size w);have hlow : w.heap.size ≤ w.heap.size := Nat.le_refl _;go_enter Tryz.func51, Tryz.ntmps51;obtain ⟨l0, l1, l2, l3, l4, l5, l6, l7, l8⟩ := cells9 B_l.out;obtain ⟨j0, j1, j2, j3, j4, j5, j6, j7⟩ := cells8 B_j.out;go_wp2_with fail;refine (hP.out).mono ?_;rintro e U1 ⟨g, off, c, rfl, hc1, hc2, hb9, hf⟩;clear l0 l1 l2 l3 l4 l5 l6 l7 l8 j0 j1 j2 j3 j4 j5 j6 j7;have hs9 := hb9.size;have HC := Hq (Ai hc1 (Ai hc2 hf.out));clear hc1 hc2 hf;replace HBel := bt9 HBel hb9 hlow;replace B_l := bb9 hb9 B_l l_l;replace B_j := bb9 hb9 B_j l_j;replace B_u := bb9 hb9 B_u l_u;replace l_l : a < U1.heap.size := by omega
 replace l_j : b < U1.heap.size := by omega
 replace l_u : d < U1.heap.size := by omega
 replace hlow : w.heap.size ≤ U1.heap.size := by omega
 clear hb9 hs9;obtain ⟨l0, l1, l2, l3, l4, l5, l6, l7, l8⟩ := cells9 B_l.out;obtain ⟨j0, j1, j2, j3, j4, j5, j6, j7⟩ := cells8 B_j.out;have u0 : U1.cell? ⟨d, 0, none⟩ = some (.int .i64 un) := cell_blk (i := 0) B_u.out rfl;go_wp2_with fail;refine (hL.out (some ⟨g, off, none⟩) c U1 HBel.out HC.out.2.2 HC.out.1 HC.out.2.1).mono ?_;rintro e U2 ⟨r, rfl, hr9, hb9⟩;clear l0 l1 l2 l3 l4 l5 l6 l7 l8 j0 j1 j2 j3 j4 j5 j6 j7 u0;have hs9 := hb9.size;have HR := Hq (Ai hr9 (HC.out.2.2.keep hb9 hb9.size));clear hr9;replace HBel := bt9 HBel hb9 hlow;replace B_l := bb9 hb9 B_l l_l;replace B_j := bb9 hb9 B_j l_j;replace B_u := bb9 hb9 B_u l_u;replace l_l : a < U2.heap.size := by omega
 replace l_j : b < U2.heap.size := by omega
 replace l_u : d < U2.heap.size := by omega
 replace hlow : w.heap.size ≤ U2.heap.size := by omega
 clear hb9 hs9;go_wp2
 go_ret2
 exact ⟨⟨_, _, _, r, rfl, HR.out.1, fun _ => ⟨HLN.out.symm, HC.out.1, HC.out.2.1, HR.out.2⟩⟩, by rw [HB0.out]; exact HBel.out⟩
def FillE (L : Lk) (j : Jb) (un : Int) (n n' : Nat) (r : Int) : Prop := (∃ E, MostE L j n E ∧ E ≠ 0 ∧ r = E) ∨ (MostE L j n 0 ∧ FillR L j.id j.q un j.S n n' r)
def FillJ (L : Lk) (j : Jb) (un : Int) (w' : World) (e : Ending) : Prop :=
 ∃ A k c r n n', e = .returned (.tuple #[.slice A k c, .int .i64 r]) ∧ FillE L j un n n' r ∧ (r = 0 → n' ≤ n ∧ n ≤ 16 ∧ n' ≤ roomF j.S L.lv ∧ k = n' ∧ k = (placeF j.S L.lv n').length ∧ k ≤ c ∧ c ≤ maxLen ∧ Fes w' w'.heap.size A (placeF j.S L.lv n')) ∧ (r ≠ 0 → k = 0)
theorem most_bounds {L : Lk} {j : Jb} {n : Nat} (h : MostE L j n 0) : j.S.ok = true ∧ j.S.mn.toNat ≤ n ∧ n ≤ j.S.mx.toNat ∧ n ≤ roomF j.S L.lv ∧ ∃ U, leftL L j.q = some U ∧ MostR j.S L.lv U.g U.c n 0 := by
 rcases h with ⟨_, h⟩ | ⟨h0, ⟨_, h⟩ | ⟨U, hU, h⟩⟩
 ·cases h
 ·cases h
 ·refine ⟨h0, ?_, ?_, ?_, U, hU, h⟩ <;> rcases h with ⟨_, h1, h2, h3, _⟩ | ⟨h9, _⟩
  ·exact h1
  ·exact absurd rfl h9
  ·exact h2
  ·exact absurd rfl h9
  ·exact (plE_zero.1 h3.symm).1
  ·exact absurd rfl h9
set_option maxHeartbeats 16000000 in
theorem fill_any (L : Lk) (j : Jb) (un : Int) (w : World) (h : LkIn w w.heap.size L) (hW : LkW L) (hF : LkF L) (hj : JbW j) (hu : (Lit.int .i64 un).wf = true) (hT : Tab w) :
  Calls Tryz.prog 40 #[lkV L, jbV j, .int .i64 un] w fun e w' => FillJ L j un w' e ∧ Below w.heap.size w w' := by
 obtain ⟨n1, hn1⟩ := nx (L.lv.length);obtain ⟨n2, hn2⟩ := nx (L.lf.length);obtain ⟨n3, hn3⟩ := nx (L.le.length);obtain ⟨n4, hn4⟩ := nx (L.lw.length);obtain ⟨n5, hn5⟩ := nx (L.lr.length);have hM := Hq (fun W (hk : Below w.heap.size w W) => show Calls Tryz.prog 39 #[.agg #[.int .i64 L.now, .int .i64 L.hd, .int .i64 L.pr, .int .i64 L.to, .slice L.A1 n1 L.c1, .slice L.A2 n2 L.c2, .slice L.A3 n3 L.c3, .slice L.A4 n4 L.c4, .slice L.A5 n5 L.c5], .agg #[.int .i64 j.id, .int .i64 j.q, .int .i64 j.p, .int .i64 j.r, .int .i64 j.g, .int .i64 j.c, .int .i64 j.mn, .int .i64 j.mx]] W (fun e w' => MostJ L j w' e ∧ Below W.heap.size W w') from by
  have h9 := most_any L j W (h.keep hk hk.size) hW hj (by have := hF.n; omega) (hT.below hk hT.size);unfold lkV lkA jbV jbA at h9;rw [← hn1, ← hn2, ← hn3, ← hn4, ← hn5] at h9;exact h9)
 have hCl := Hq (fun (a b d p : Nat) W (hk : Below w.heap.size w W) (hok : j.S.ok = true) (h1 : 1 ≤ p) (h16 : p ≤ 16) (hr : p ≤ roomF j.S L.lv) (bl : W.heap[a]? = some (.cells #[.int .i64 L.now, .int .i64 L.hd, .int .i64 L.pr, .int .i64 L.to, .slice L.A1 n1 L.c1, .slice L.A2 n2 L.c2, .slice L.A3 n3 L.c3, .slice L.A4 n4 L.c4, .slice L.A5 n5 L.c5] 28 (0, 0))) (bj : W.heap[b]? = some (.cells #[.int .i64 j.id, .int .i64 j.q, .int .i64 j.p, .int .i64 j.r, .int .i64 j.g, .int .i64 j.c, .int .i64 j.mn, .int .i64 j.mx] 47 (0, 0))) (bu : W.heap[d]? = some (.cells #[.int .i64 un] 3 (0, 0))) =>
  fillcl_any a b d n1 n2 n3 n4 n5 L j un p W hn1 hn2 hn3 hn4 hn5 (h.keep hk hk.size) hW hF hj hu (hT.below hk hT.size) hok h1 h16 hr bl bj bu)
 unfold lkV lkA jbV jbA;rw [← hn1, ← hn2, ← hn3, ← hn4, ← hn5];clear hn1 hn2 hn3 hn4 hn5 h hW hF hj hu hT;obtain ⟨B0, hB0⟩ := nx (w.heap.size);rw [← hB0];have HB0 := Hq hB0;clear hB0;have HBel := Hq (Below.refl w.heap.size w);have hlow : w.heap.size ≤ w.heap.size := Nat.le_refl _;go_enter Tryz.func40, Tryz.ntmps40;go_wp2_with fail;obtain ⟨V1, hV1⟩ := nx (((w.alloc (.cells #[.int .i64 L.now, .int .i64 L.hd, .int .i64 L.pr, .int .i64 L.to, .slice L.A1 n1 L.c1, .slice L.A2 n2 L.c2, .slice L.A3 n3 L.c3, .slice L.A4 n4 L.c4, .slice L.A5 n5 L.c5] 28)).alloc (.cells #[.int .i64 j.id, .int .i64 j.q, .int .i64 j.p, .int .i64 j.r, .int .i64 j.g, .int .i64 j.c, .int .i64 j.mn, .int .i64 j.mx] 47)).alloc (.cells #[.int .i64 un] 3));rw [← hV1];have hzV1 := sz3 hV1;replace HBel := be3 hV1 HBel hlow;have B_l := Hq (new30 hV1);have B_j := Hq (new31 hV1);have B_u := Hq (new32 hV1);obtain ⟨N_l, hN_l⟩ := nx (w.heap.size);obtain ⟨N_j, hN_j⟩ := nx (w.heap.size + 1);obtain ⟨N_u, hN_u⟩ := nx (w.heap.size + 1 + 1);(try rw [← hN_u]);rw [← hN_u] at B_u;(try rw [← hN_j]);rw [← hN_j] at B_j;(try rw [← hN_l]);rw [← hN_l] at B_l;have l_l : N_l < V1.heap.size := by omega
 have l_j : N_j < V1.heap.size := by omega
 have l_u : N_u < V1.heap.size := by omega
 have g_l : w.heap.size ≤ N_l := by omega
 have g_j : w.heap.size ≤ N_j := by omega
 have g_u : w.heap.size ≤ N_u := by omega
 have d_l_j : N_l < N_j := by omega
 have d_j_u : N_j < N_u := by omega
 replace hlow : w.heap.size ≤ V1.heap.size := by omega
 clear hV1 hzV1 hN_l hN_j hN_u;obtain ⟨l0, l1, l2, l3, l4, l5, l6, l7, l8⟩ := cells9 B_l.out;obtain ⟨j0, j1, j2, j3, j4, j5, j6, j7⟩ := cells8 B_j.out;go_wp2_with fail;refine (hM.out V1 HBel.out).mono ?_;rintro e U2 ⟨⟨A, k, c, r, n, rfl, hE, hS, hN⟩, hb9⟩;clear l0 l1 l2 l3 l4 l5 l6 l7 l8 j0 j1 j2 j3 j4 j5 j6 j7;have hs9 := hb9.size;have HE := Hq (Ai hE (Ai hS hN));clear hE hS hN;replace HBel := bt9 HBel hb9 hlow;replace B_l := bb9 hb9 B_l l_l;replace B_j := bb9 hb9 B_j l_j;replace B_u := bb9 hb9 B_u l_u;replace l_l : N_l < U2.heap.size := by omega
 replace l_j : N_j < U2.heap.size := by omega
 replace l_u : N_u < U2.heap.size := by omega
 replace hlow : w.heap.size ≤ U2.heap.size := by omega
 clear hb9 hs9;by_cases hr : r = 0
 ·subst hr;have hME := HE.out.1;obtain ⟨hok, hlo, hhi, hroom, U9, hU9, hMR⟩ := most_bounds hME;have hk0 := (HE.out.2.1 rfl).1;have hok2 := hok;unfold Shp.ok Jb.S at hok2;simp at hok2;have hj7 : j.S.mn = j.mn := rfl;have hj8 : j.S.mx = j.mx := rfl;obtain ⟨y, hy⟩ : ∃ y : Nat, j.mn = y := ⟨j.mn.toNat, by omega⟩
  have hlo1 : 1 ≤ y := by omega
  have hlh : y ≤ n := by rw [hj7, hy] at hlo; simpa using hlo
  have hhi16 : n ≤ 16 := by rw [hj8] at hhi; omega
  subst hk0;have HY := Hq (Ai hy (Ai hok (Ai hroom hhi16)));clear hok2 hhi hlo hok hroom hME hU9 hMR hj7 hj8;have y6 : U2.cell? ⟨N_j, 6, none⟩ = some (.int .i64 (y : Nat)) := (cell_blk (i := 6) B_j.out rfl).trans (by rw [← hy]; rfl);clear hy;go_wp2_with fail;refine (mostof_any 51 #[.pointer (some ⟨N_l, 0, none⟩), .pointer (some ⟨N_j, 0, none⟩), .pointer (some ⟨N_u, 0, none⟩)] (FlR L j un) (placeF j.S L.lv) y k hlo1 hlh (by omega) U2 (enters_of Tryz.func51 (by kernel_rfl) rfl) (fun m W h1 h2 hk => hCl.out N_l N_j N_u m W (HBel.out.trans (hk.mono hlow)) HY.out.2.1 (by omega) (by omega) (by have := HY.out.2.2.1; omega) ((hk.block _ l_l).trans B_l.out) ((hk.block _ l_j).trans B_j.out) ((hk.block _ l_u).trans B_u.out))).mono ?_;rintro e U3 ⟨⟨A2, k2, c2, r2, n2', rfl, hT9, hS9, hN9⟩, hb9⟩;have hs9 := hb9.size;have HS := Hq (Ai hT9 (Ai hS9 hN9));clear hT9 hS9 hN9 y6;replace HBel := bt9 HBel hb9 hlow;replace B_l := bb9 hb9 B_l l_l;replace B_j := bb9 hb9 B_j l_j;replace B_u := bb9 hb9 B_u l_u;replace l_l : N_l < U3.heap.size := by omega
  replace l_j : N_j < U3.heap.size := by omega
  replace l_u : N_u < U3.heap.size := by omega
  replace hlow : w.heap.size ≤ U3.heap.size := by omega
  clear hb9 hs9;go_wp2
  go_ret2
  refine ⟨⟨A2, k2, c2, r2, k, n2', rfl, .inr ⟨HE.out.1, ?_⟩, fun e => ?_, fun e => (HS.out.2.2 e).2.1⟩, by rw [HB0.out]; exact HBel.out⟩
  ·have e1 : j.S.mn.toNat = y := by show j.mn.toNat = y; rw [HY.out.1]; rfl
   unfold FillR;rw [e1];exact HS.out.1
  ·obtain ⟨a1, a2, a3, a4⟩ := HS.out.2.1 e;have hn9 : n2' ≤ k := by
    rcases HS.out.1 with ⟨_, _, h9, _⟩ | ⟨h9, _⟩
    ·exact h9
    ·exact absurd e h9
   have hr9 : n2' ≤ roomF j.S L.lv := Nat.le_trans hn9 HY.out.2.2.1;exact ⟨hn9, HY.out.2.2.2, hr9, by rw [a1, placeF_len hr9], a1, a2, a3, a4⟩
 ·have t1 : (r != 0) = true := by simp [hr]
  have HR := Hq hr;clear hr;go_wp2
  go_ret2
  exact ⟨⟨_, _, _, r, n, 0, rfl, .inl ⟨r, HE.out.1, HR.out, rfl⟩, (fun e => absurd e HR.out), fun _ => rfl⟩, by rw [HB0.out]; exact HBel.out⟩
end
end Go.Proofs.YtkkkhonjcbhelaaGreatDoor
