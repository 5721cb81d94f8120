/- What is filled, or grown, leaves the head its promise, if it had it; without a head a gang is filled with all that it can get: the law ElasticSafe answers true, at every input. The library's table of lowest units is as the program's text lays it (tied). -/
import Derived.Test.YtppapmacngdefaaGreatDoorElAwake
import Derived.Test.YtppapmacngdefaaGreatDoorElFew
import Derived.Test.YtppapmacngdefaaGreatDoorElSafeM
import Derived.Test.YtppapmacngdefaaGreatDoorElGrow
import Derived.Test.YtppapmacngdefaaGreatDoorProRefC
import Derived.Test.YtppapmacngdefaaGreatDoorHoIn
import Derived.SevenTiedAt
import Derived.Test.YtppapmacngdefaaGreatDoorTie
import Derived.Test.YtppapmacngdefaaGreatDoorCards
set_option linter.unusedVariables false
namespace Go.Proofs.YtppapmacngdefaaGreatDoor.elasticSafe
open Go Go.ChangeShapes Go.WideShapes Go.ChangeAt Go.RowKit
open PR
set_option maxRecDepth 100000 in
set_option maxHeartbeats 16000000 in
theorem walk (L : Lk) (j : Jb) (un : Int) (H : Ho) (w : World) (v0 : LkIn w w.heap.size L) (q0 : LkW L) (w1 : JbW j) (w2 : (Lit.int .i64 un).wf = true) (v3 : Fes w w.heap.size H.A H.sl) (q3 : HoOk H) (hT : Tab w) :
  Calls Tryz.prog 3 #[lkV L, jbV j, .int .i64 un, hoV H] w fun e w' => e = .returned (.bool true) ∧ Below w.heap.size w w' := by
 obtain ⟨n1, hn1⟩ : ∃ n, n = L.lv.length := ⟨_, rfl⟩
 obtain ⟨n2, hn2⟩ : ∃ n, n = L.lf.length := ⟨_, rfl⟩
 obtain ⟨n3, hn3⟩ : ∃ n, n = L.le.length := ⟨_, rfl⟩
 obtain ⟨n4, hn4⟩ : ∃ n, n = L.lw.length := ⟨_, rfl⟩
 obtain ⟨n5, hn5⟩ : ∃ n, n = L.lr.length := ⟨_, rfl⟩
 have HT := Lib.hid hT
 have hAw := Lib.hid (fun W (hT : Tab W) => awake14 W hT)
 have hFw := Lib.hid (fun W (hk : Below w.heap.size w W) => show Calls Tryz.prog 5 #[.agg #[.int .i64 L.now, .int .i64 L.hd, .int .i64 L.pr, .int .i64 L.to, .slice L.A1 n1 L.c1, .slice L.A2 n2 L.c2, .slice L.A3 n3 L.c3, .slice L.A4 n4 L.c4, .slice L.A5 n5 L.c5]] W (fun e w' => ∃ b, e = .returned (.bool b) ∧ (b = true → LkF L) ∧ Below W.heap.size W w') from by
  have h9 := few14_any L W (v0.keep hk hk.size) q0
  unfold lkV lkA at h9
  rw [← hn1, ← hn2, ← hn3, ← hn4, ← hn5] at h9
  exact h9)
 have hM := Lib.hid (fun (hF : LkF L) W (hk : Below w.heap.size w W) => show Calls Tryz.prog 7 #[.agg #[.int .i64 L.now, .int .i64 L.hd, .int .i64 L.pr, .int .i64 L.to, .slice L.A1 n1 L.c1, .slice L.A2 n2 L.c2, .slice L.A3 n3 L.c3, .slice L.A4 n4 L.c4, .slice L.A5 n5 L.c5], .agg #[.int .i64 j.id, .int .i64 j.q, .int .i64 j.p, .int .i64 j.r, .int .i64 j.g, .int .i64 j.c, .int .i64 j.mn, .int .i64 j.mx]] W (fun e w' => MostJ L j w' e ∧ Below W.heap.size W w') from by
  have h9 := most_any L j W (v0.keep hk hk.size) q0 w1 (by have := hF.n; omega) (hT.below hk hT.size)
  unfold lkV lkA jbV jbA at h9
  rw [← hn1, ← hn2, ← hn3, ← hn4, ← hn5] at h9
  exact h9)
 obtain ⟨kh, hkh⟩ : ∃ n, n = H.sl.length := ⟨_, rfl⟩
 have hFi := Lib.hid (fun (hF : LkF L) W (hk : Below w.heap.size w W) => show Calls Tryz.prog 6 #[.agg #[.int .i64 L.now, .int .i64 L.hd, .int .i64 L.pr, .int .i64 L.to, .slice L.A1 n1 L.c1, .slice L.A2 n2 L.c2, .slice L.A3 n3 L.c3, .slice L.A4 n4 L.c4, .slice L.A5 n5 L.c5], .agg #[.int .i64 j.id, .int .i64 j.q, .int .i64 j.p, .int .i64 j.r, .int .i64 j.g, .int .i64 j.c, .int .i64 j.mn, .int .i64 j.mx], .int .i64 un] W (fun e w' => FillJ L j un w' e ∧ Below W.heap.size W w') from by
  have h9 := fill_any L j un W (v0.keep hk hk.size) q0 hF w1 w2 (hT.below hk hT.size)
  unfold lkV lkA jbV jbA at h9
  rw [← hn1, ← hn2, ← hn3, ← hn4, ← hn5] at h9
  exact h9)
 have hGr := Lib.hid (fun (hF : LkF L) W (hk : Below w.heap.size w W) => show Calls Tryz.prog 8 #[.agg #[.int .i64 L.now, .int .i64 L.hd, .int .i64 L.pr, .int .i64 L.to, .slice L.A1 n1 L.c1, .slice L.A2 n2 L.c2, .slice L.A3 n3 L.c3, .slice L.A4 n4 L.c4, .slice L.A5 n5 L.c5], .agg #[.int .i64 H.id, .int .i64 H.q, .int .i64 H.u, .bool H.r, .slice H.A kh H.c], .agg #[.int .i64 j.id, .int .i64 j.q, .int .i64 j.p, .int .i64 j.r, .int .i64 j.g, .int .i64 j.c, .int .i64 j.mn, .int .i64 j.mx]] W (fun e w' => GrowJ L j H.u e ∧ Below W.heap.size W w') from by
  have h9 := grow_any L H j W (v0.keep hk hk.size) q0 hF q3 w1 (hT.below hk hT.size)
  unfold lkV lkA jbV jbA hoV hoA at h9
  rw [← hn1, ← hn2, ← hn3, ← hn4, ← hn5, ← hkh] at h9
  exact h9)
 have hHe := Lib.hid (fun W (hk : Below w.heap.size w W) => show Calls Tryz.prog 9 #[.agg #[.int .i64 L.now, .int .i64 L.hd, .int .i64 L.pr, .int .i64 L.to, .slice L.A1 n1 L.c1, .slice L.A2 n2 L.c2, .slice L.A3 n3 L.c3, .slice L.A4 n4 L.c4, .slice L.A5 n5 L.c5]] W (fun e w' => HeadR (headL L) e ∧ Below W.heap.size W w') from by
  have h9 := head_any L W (v0.keep hk hk.size) q0
  unfold lkV lkA at h9
  rw [← hn1, ← hn2, ← hn3, ← hn4, ← hn5] at h9
  exact h9)
 have hSf := Lib.hid (fun (hF : LkF L) (X : Wa) (hX : headL L = some X) (U : Lu) (hU : leftL L X.q = some U) (u : Int) (hu : (Lit.int .i64 u).wf = true) (A : Option Addr) (k c : Nat) (l9 : List Fe) (hk9 : k = l9.length) (hkc : k ≤ c) (hc : c ≤ maxLen) (hn9 : k ≤ 1000) (hso : ∀ s ∈ l9, FeOk s) W (hk : Below w.heap.size w W) (hs : Fes W W.heap.size A l9) => show Calls Tryz.prog 11 #[.int .i64 L.now, .slice L.A1 n1 L.c1, .agg #[.int .i64 U.g, .int .i64 U.c], .slice L.A3 n3 L.c3, .agg #[.int .i64 X.q, .int .i64 X.n, .int .i64 X.S.g, .int .i64 X.S.c, .int .i64 X.S.mn, .int .i64 X.S.mx], .int .i64 L.pr, .agg #[.int .i64 0, .int .i64 j.q, .int .i64 u, .bool false, .slice A k c]] W (fun e w' => ∃ T E, e = .returned (.tuple #[.bool (safeB L.now L.pr T E), .int .i64 E]) ∧ Aft L.now L.lv U.g U.c L.le X ⟨0, j.q, u, false, A, c, l9⟩ T E ∧ Below W.heap.size W w') from by
  have hb := hF.f U (left_in hU).1
  have h9 := psafe_any L.now L.A1 L.c1 L.lv U.g U.c L.A3 L.c3 L.le X L.pr ⟨0, j.q, u, false, A, c, l9⟩ W (v0.v.keep hk hk.size) hF.v (by have := hF.n; omega) (v0.e.keep hk hk.size) q0.e (by have := hF.e1; omega) (fun x hx => by have := hF.e2 x hx; omega) (head_ok q0 hX) hs ⟨w1.q, hu, by simp only; omega, hc, hso⟩ (by simp only; omega) (by omega) (by omega) (hT.below hk hT.size)
  unfold hoV hoA waV waA at h9
  rw [← hn1, ← hn3, ← hk9] at h9
  exact h9)
 have hEa := Lib.hid (fun (hF : LkF L) (X : Wa) (hX : headL L = some X) (U : Lu) (hU : leftL L X.q = some U) W (hk : Below w.heap.size w W) => show Calls Tryz.prog 12 #[.int .i64 L.now, .slice L.A1 n1 L.c1, .agg #[.int .i64 U.g, .int .i64 U.c], .slice L.A3 n3 L.c3, .agg #[.int .i64 X.q, .int .i64 X.n, .int .i64 X.S.g, .int .i64 X.S.c, .int .i64 X.S.mn, .int .i64 X.S.mx]] W (fun e w' => ∃ T E, e = .returned (.tuple #[.int .i64 T, .int .i64 E]) ∧ Earl L.now L.lv U.g U.c L.le X T E ∧ Below W.heap.size W w') from by
  have hb := hF.f U (left_in hU).1
  have hsl : ∀ x ∈ L.le, x.sl.length ≤ 1000 := fun x hx => by have := hF.e2 x hx; omega
  have h9 := refearliest12_any L.now L.A1 L.c1 L.lv U.g U.c L.A3 L.c3 L.le X W (v0.v.keep hk hk.size) hF.v (by have := hF.n; omega) (v0.e.keep hk hk.size) q0.e ⟨by have := hF.e1; omega, hsl⟩ (by have := sl_len hsl; have := hF.e1; omega) (head_ok q0 hX) (by omega) (by omega) (hT.below hk hT.size)
  unfold waV waA at h9
  rw [← hn1, ← hn3] at h9
  exact h9)
 have hSa := Lib.hid (fun (A1 A2 : Option Addr) (c1 c2 k : Nat) (l9 : List Fe) (hk9 : k = l9.length) (hk16 : k ≤ 16) W (h1 : Fes W W.heap.size A1 l9) (h2 : Fes W W.heap.size A2 l9) => show Calls Tryz.prog 10 #[.slice A1 k c1, .slice A2 k c2] W (fun e w' => e = .returned (.bool true) ∧ Below W.heap.size W w') from by
  rw [hk9]; exact same_slots A1 A2 c1 c2 W.heap.size l9 W h1 h2 (by omega))
 have HV := Lib.hid (And.intro hn2 (And.intro q0.v (And.intro w1.S (And.intro v0.f (And.intro w2 q3.u)))))
 have hkb : kh ≤ 9223372036854775807 := by rw [hkh]; exact Nat.le_trans q3.l q3.m
 unfold lkV lkA jbV jbA hoV hoA
 rw [← hn1, ← hn2, ← hn3, ← hn4, ← hn5]
 rw [← hkh]
 clear hn1 hn2 hn3 hn4 hn5 v0 q0 w1 hT w2 v3 q3 hkh
 obtain ⟨B0, hB0⟩ : ∃ B, B = w.heap.size := ⟨_, rfl⟩
 rw [← hB0]
 have HB0 := Lib.hid hB0
 clear hB0
 have HBel := Lib.hid (Below.refl w.heap.size w)
 have hlow : w.heap.size ≤ w.heap.size := Nat.le_refl _
 go_enter Tryz.func3, Tryz.ntmps3
 go_wp2_with fail
 obtain ⟨V1, hV1⟩ : ∃ W, W = ((w.alloc (.cells #[.int .i64 L.now, .int .i64 L.hd, .int .i64 L.pr, .int .i64 L.to, .slice L.A1 n1 L.c1, .slice L.A2 n2 L.c2, .slice L.A3 n3 L.c3, .slice L.A4 n4 L.c4, .slice L.A5 n5 L.c5] 28)).alloc (.cells #[.int .i64 j.id, .int .i64 j.q, .int .i64 j.p, .int .i64 j.r, .int .i64 j.g, .int .i64 j.c, .int .i64 j.mn, .int .i64 j.mx] 32)).alloc (.cells #[.int .i64 H.id, .int .i64 H.q, .int .i64 H.u, .bool H.r, .slice H.A kh H.c] 35) := ⟨_, rfl⟩
 rw [← hV1]
 have hzV1 : V1.heap.size = w.heap.size + 1 + 1 + 1 := by rw [hV1]; simp
 replace HBel := Lib.hid (below_eq hV1 ((((HBel.out.alloc (hlow) _).alloc (by simp <;> omega) _).alloc (by simp <;> omega) _)))
 have B_l := Lib.hid (new30 hV1)
 have B_j := Lib.hid (new31 hV1)
 have B_h := Lib.hid (new32 hV1)
 obtain ⟨N_l, hN_l⟩ : ∃ N, N = w.heap.size := ⟨_, rfl⟩
 obtain ⟨N_j, hN_j⟩ : ∃ N, N = w.heap.size + 1 := ⟨_, rfl⟩
 obtain ⟨N_h, hN_h⟩ : ∃ N, N = w.heap.size + 1 + 1 := ⟨_, rfl⟩
 (try rw [← hN_h])
 rw [← hN_h] at B_h
 (try rw [← hN_j])
 rw [← hN_j] at B_j
 (try rw [← hN_l])
 rw [← hN_l] at B_l
 have l_l : N_l < V1.heap.size := by omega
 have l_j : N_j < V1.heap.size := by omega
 have l_h : N_h < V1.heap.size := by omega
 have g_l : w.heap.size ≤ N_l := by omega
 have g_j : w.heap.size ≤ N_j := by omega
 have g_h : w.heap.size ≤ N_h := by omega
 have d_l_j : N_l < N_j := by omega
 have d_j_h : N_j < N_h := by omega
 replace hlow : w.heap.size ≤ V1.heap.size := by omega
 clear hV1 hzV1 hN_l hN_j hN_h
 refine (hAw.out V1 (HT.out.below HBel.out HT.out.size)).mono ?_
 rintro e U2 ⟨rfl, hb9⟩
 have hs9 := hb9.size
 replace HBel := Lib.hid (HBel.out.trans (hb9.mono hlow))
 replace B_l := Lib.hid ((hb9.block _ l_l).trans B_l.out)
 replace B_j := Lib.hid ((hb9.block _ l_j).trans B_j.out)
 replace B_h := Lib.hid ((hb9.block _ l_h).trans B_h.out)
 replace l_l : N_l < U2.heap.size := by omega
 replace l_j : N_j < U2.heap.size := by omega
 replace l_h : N_h < U2.heap.size := by omega
 replace hlow : w.heap.size ≤ U2.heap.size := by omega
 clear hb9 hs9
 obtain ⟨l0, l1, l2, l3, l4, l5, l6, l7, l8⟩ := cells9 B_l.out
 go_wp2_with fail
 refine (hFw.out U2 HBel.out).mono ?_
 rintro e U3 ⟨b, rfl, hf, hb9⟩
 clear l0 l1 l2 l3 l4 l5 l6 l7 l8
 have hs9 := hb9.size
 replace HBel := Lib.hid (HBel.out.trans (hb9.mono hlow))
 replace B_l := Lib.hid ((hb9.block _ l_l).trans B_l.out)
 replace B_j := Lib.hid ((hb9.block _ l_j).trans B_j.out)
 replace B_h := Lib.hid ((hb9.block _ l_h).trans B_h.out)
 replace l_l : N_l < U3.heap.size := by omega
 replace l_j : N_j < U3.heap.size := by omega
 replace l_h : N_h < U3.heap.size := by omega
 replace hlow : w.heap.size ≤ U3.heap.size := by omega
 clear hb9 hs9
 cases b
 ·clear hf
  obtain ⟨h0, h1, h2, h3, h4⟩ := cells5 B_h.out
  go_wp2
  clear h0 h1 h2 h3 h4
  go_ret
  exact ⟨by first | rfl | (simp; done), by rw [HB0.out]; exact HBel.out⟩
 ·have hF := hf rfl
  have HF := Lib.hid hF
  clear hf hF
  by_cases h40 : 40 < kh
  ·have t1 : decide ((40 : Int) < (kh : Int)) = true := decide_eq_true (by omega)
   clear h40
   obtain ⟨h0, h1, h2, h3, h4⟩ := cells5 B_h.out
   go_wp2
   clear h0 h1 h2 h3 h4
   go_ret
   exact ⟨by first | rfl | (simp; done), by rw [HB0.out]; exact HBel.out⟩
  ·have t1 : decide ((40 : Int) < (kh : Int)) = false := decide_eq_false (by omega)
   clear h40
   obtain ⟨l0, l1, l2, l3, l4, l5, l6, l7, l8⟩ := cells9 B_l.out
   obtain ⟨j0, j1, j2, j3, j4, j5, j6, j7⟩ := cells8 B_j.out
   obtain ⟨h0, h1, h2, h3, h4⟩ := cells5 B_h.out
   go_wp2_with fail
   refine (hFi.out HF.out U3 HBel.out).mono ?_
   rintro e U4 ⟨⟨A1, k1, c1, r1, n, n1', rfl, hE, hS, hN⟩, hb9⟩
   clear l0 l1 l2 l3 l4 l5 l6 l7 l8 j0 j1 j2 j3 j4 j5 j6 j7 h0 h1 h2 h3 h4
   have hs9 := hb9.size
   have HE1 := Lib.hid (And.intro hE (And.intro hS hN))
   clear hE hS hN
   replace HBel := Lib.hid (HBel.out.trans (hb9.mono hlow))
   replace B_l := Lib.hid ((hb9.block _ l_l).trans B_l.out)
   replace B_j := Lib.hid ((hb9.block _ l_j).trans B_j.out)
   replace B_h := Lib.hid ((hb9.block _ l_h).trans B_h.out)
   replace l_l : N_l < U4.heap.size := by omega
   replace l_j : N_j < U4.heap.size := by omega
   replace l_h : N_h < U4.heap.size := by omega
   replace hlow : w.heap.size ≤ U4.heap.size := by omega
   clear hb9 hs9
   clear t1
   have HB_f := Lib.hid (Below.refl U4.heap.size U4)
   have hl_f : U4.heap.size ≤ U4.heap.size := Nat.le_refl _
   obtain ⟨l0, l1, l2, l3, l4, l5, l6, l7, l8⟩ := cells9 B_l.out
   obtain ⟨j0, j1, j2, j3, j4, j5, j6, j7⟩ := cells8 B_j.out
   go_wp2_with fail
   refine (hM.out HF.out U4 HBel.out).mono ?_
   rintro e U5 ⟨⟨A2, k2, c2, r2, m, rfl, hE, hS, hN⟩, hb9⟩
   clear l0 l1 l2 l3 l4 l5 l6 l7 l8 j0 j1 j2 j3 j4 j5 j6 j7
   have hs9 := hb9.size
   have HE2 := Lib.hid (And.intro hE (And.intro hS hN))
   clear hE hS hN
   replace HB_f := Lib.hid (HB_f.out.trans (hb9.mono hl_f))
   replace hl_f : U4.heap.size ≤ U5.heap.size := by omega
   replace HBel := Lib.hid (HBel.out.trans (hb9.mono hlow))
   replace B_l := Lib.hid ((hb9.block _ l_l).trans B_l.out)
   replace B_j := Lib.hid ((hb9.block _ l_j).trans B_j.out)
   replace B_h := Lib.hid ((hb9.block _ l_h).trans B_h.out)
   replace l_l : N_l < U5.heap.size := by omega
   replace l_j : N_j < U5.heap.size := by omega
   replace l_h : N_h < U5.heap.size := by omega
   replace hlow : w.heap.size ≤ U5.heap.size := by omega
   clear hb9 hs9
   have HB_m := Lib.hid (Below.refl U5.heap.size U5)
   have hl_m : U5.heap.size ≤ U5.heap.size := Nat.le_refl _
   obtain ⟨l0, l1, l2, l3, l4, l5, l6, l7, l8⟩ := cells9 B_l.out
   obtain ⟨j0, j1, j2, j3, j4, j5, j6, j7⟩ := cells8 B_j.out
   obtain ⟨h0, h1, h2, h3, h4⟩ := cells5 B_h.out
   go_wp2_with fail
   refine (hGr.out HF.out U5 HBel.out).mono ?_
   rintro e U6 ⟨⟨s, r3, rfl, hG⟩, hb9⟩
   clear l0 l1 l2 l3 l4 l5 l6 l7 l8 j0 j1 j2 j3 j4 j5 j6 j7 h0 h1 h2 h3 h4
   have hs9 := hb9.size
   have HG := Lib.hid hG
   clear hG
   replace HB_f := Lib.hid (HB_f.out.trans (hb9.mono hl_f))
   replace hl_f : U4.heap.size ≤ U6.heap.size := by omega
   replace HB_m := Lib.hid (HB_m.out.trans (hb9.mono hl_m))
   replace hl_m : U5.heap.size ≤ U6.heap.size := by omega
   replace HBel := Lib.hid (HBel.out.trans (hb9.mono hlow))
   replace B_l := Lib.hid ((hb9.block _ l_l).trans B_l.out)
   replace B_j := Lib.hid ((hb9.block _ l_j).trans B_j.out)
   replace B_h := Lib.hid ((hb9.block _ l_h).trans B_h.out)
   replace l_l : N_l < U6.heap.size := by omega
   replace l_j : N_j < U6.heap.size := by omega
   replace l_h : N_h < U6.heap.size := by omega
   replace hlow : w.heap.size ≤ U6.heap.size := by omega
   clear hb9 hs9
   obtain ⟨l0, l1, l2, l3, l4, l5, l6, l7, l8⟩ := cells9 B_l.out
   have ll1 : N_l < U6.heap.size + 1 := by omega
   go_wp2_with fail
   clear l0 l1 l2 l3 l4 l5 l6 l7 l8 ll1
   obtain ⟨V7, hV7⟩ : ∃ W, W = U6.alloc (.cells #[.int .i64 s.n, .int .i64 s.d, .int .u64 (s.m : Nat), .int .i64 s.c] 46) := ⟨_, rfl⟩
   rw [← hV7]
   have hzV7 : V7.heap.size = U6.heap.size + 1 := by rw [hV7]; simp
   replace HBel := Lib.hid (below_eq hV7 ((HBel.out.alloc (hlow) _)))
   replace B_l := Lib.hid (blk_eq hV7 (((Below.heap_alloc _ _ _ (by first | omega | (simp <;> omega))).trans B_l.out)))
   replace B_j := Lib.hid (blk_eq hV7 (((Below.heap_alloc _ _ _ (by first | omega | (simp <;> omega))).trans B_j.out)))
   replace B_h := Lib.hid (blk_eq hV7 (((Below.heap_alloc _ _ _ (by first | omega | (simp <;> omega))).trans B_h.out)))
   have B_z := Lib.hid (new10 hV7)
   obtain ⟨N_z, hN_z⟩ : ∃ N, N = U6.heap.size := ⟨_, rfl⟩
   (try rw [← hN_z])
   rw [← hN_z] at B_z
   have d_l_z : N_l < N_z := by omega
   have d_j_z : N_j < N_z := by omega
   have d_h_z : N_h < N_z := by omega
   replace l_l : N_l < V7.heap.size := by omega
   replace l_j : N_j < V7.heap.size := by omega
   replace l_h : N_h < V7.heap.size := by omega
   have l_z : N_z < V7.heap.size := by omega
   have g_z : w.heap.size ≤ N_z := by omega
   replace hlow : w.heap.size ≤ V7.heap.size := by omega
   replace HB_f := Lib.hid (below_eq hV7 ((HB_f.out.alloc (hl_f) _)))
   replace hl_f : U4.heap.size ≤ V7.heap.size := by omega
   replace HB_m := Lib.hid (below_eq hV7 ((HB_m.out.alloc (hl_m) _)))
   replace hl_m : U5.heap.size ≤ V7.heap.size := by omega
   clear hV7 hzV7 hN_z
   refine (hHe.out V7 HBel.out).mono ?_
   rintro e U8 ⟨hh, hb9⟩
   have hs9 := hb9.size
   replace HB_f := Lib.hid (HB_f.out.trans (hb9.mono hl_f))
   replace hl_f : U4.heap.size ≤ U8.heap.size := by omega
   replace HB_m := Lib.hid (HB_m.out.trans (hb9.mono hl_m))
   replace hl_m : U5.heap.size ≤ U8.heap.size := by omega
   replace HBel := Lib.hid (HBel.out.trans (hb9.mono hlow))
   replace B_l := Lib.hid ((hb9.block _ l_l).trans B_l.out)
   replace B_j := Lib.hid ((hb9.block _ l_j).trans B_j.out)
   replace B_h := Lib.hid ((hb9.block _ l_h).trans B_h.out)
   replace B_z := Lib.hid ((hb9.block _ l_z).trans B_z.out)
   replace l_l : N_l < U8.heap.size := by omega
   replace l_j : N_j < U8.heap.size := by omega
   replace l_h : N_h < U8.heap.size := by omega
   replace l_z : N_z < U8.heap.size := by omega
   replace hlow : w.heap.size ≤ U8.heap.size := by omega
   clear hb9 hs9
   rcases hh with ⟨hn, rfl⟩ | ⟨X, hX, rfl⟩
   ·obtain ⟨hrr, hnn⟩ := FillE.none_ HE1.out.1 HE2.out.1 (.inl hn)
    subst hrr
    by_cases hr : r1 = 0
    ·subst hr
     obtain rfl := hnn rfl
     obtain ⟨fb1, fb2, fb3, fb4, fb5, fb6, fb7, fb8⟩ := HE1.out.2.1 rfl
     obtain ⟨fd1, fd2, fd3, fd4, fd5⟩ := HE2.out.2.1 rfl
     subst fb4
     replace fd1 := fd1.symm
     subst fd1
     have HS := Lib.hid (And.intro fb5 (And.intro (show k1 ≤ 16 by omega) (And.intro fb8 fd5)))
     clear fb1 fb2 fb3 fb5 fb6 fb7 fb8 fd2 fd3 fd4 fd5 hnn
     obtain ⟨l0, l1, l2, l3, l4, l5, l6, l7, l8⟩ := cells9 B_l.out
     obtain ⟨j0, j1, j2, j3, j4, j5, j6, j7⟩ := cells8 B_j.out
     go_wp2_with fail
     clear l0 l1 l2 l3 l4 l5 l6 l7 l8 j0 j1 j2 j3 j4 j5 j6 j7
     obtain ⟨V9, hV9⟩ : ∃ W, W = U8.alloc (.cells #[.int .i64 0, .int .i64 0, .int .i64 0, .int .i64 0, .int .i64 0, .int .i64 0] 50) := ⟨_, rfl⟩
     rw [← hV9]
     have hzV9 : V9.heap.size = U8.heap.size + 1 := by rw [hV9]; simp
     replace HBel := Lib.hid (below_eq hV9 ((HBel.out.alloc (hlow) _)))
     replace B_l := Lib.hid (blk_eq hV9 (((Below.heap_alloc _ _ _ (by first | omega | (simp <;> omega))).trans B_l.out)))
     replace B_j := Lib.hid (blk_eq hV9 (((Below.heap_alloc _ _ _ (by first | omega | (simp <;> omega))).trans B_j.out)))
     replace B_h := Lib.hid (blk_eq hV9 (((Below.heap_alloc _ _ _ (by first | omega | (simp <;> omega))).trans B_h.out)))
     replace B_z := Lib.hid (blk_eq hV9 (((Below.heap_alloc _ _ _ (by first | omega | (simp <;> omega))).trans B_z.out)))
     have B_x := Lib.hid (new10 hV9)
     obtain ⟨N_x, hN_x⟩ : ∃ N, N = U8.heap.size := ⟨_, rfl⟩
     (try rw [← hN_x])
     rw [← hN_x] at B_x
     have d_l_x : N_l < N_x := by omega
     have d_j_x : N_j < N_x := by omega
     have d_h_x : N_h < N_x := by omega
     have d_z_x : N_z < N_x := by omega
     replace l_l : N_l < V9.heap.size := by omega
     replace l_j : N_j < V9.heap.size := by omega
     replace l_h : N_h < V9.heap.size := by omega
     replace l_z : N_z < V9.heap.size := by omega
     have l_x : N_x < V9.heap.size := by omega
     have g_x : w.heap.size ≤ N_x := by omega
     replace hlow : w.heap.size ≤ V9.heap.size := by omega
     replace HB_f := Lib.hid (below_eq hV9 ((HB_f.out.alloc (hl_f) _)))
     replace hl_f : U4.heap.size ≤ V9.heap.size := by omega
     replace HB_m := Lib.hid (below_eq hV9 ((HB_m.out.alloc (hl_m) _)))
     replace hl_m : U5.heap.size ≤ V9.heap.size := by omega
     clear hV9 hzV9 hN_x
     refine (hSa.out A1 A2 c1 c2 k1 (placeF j.S L.lv k1) HS.out.1 HS.out.2.1 V9 (HS.out.2.2.1.keep (HB_f.out) hl_f) (HS.out.2.2.2.keep HB_m.out hl_m)).mono ?_
     rintro e U10 ⟨rfl, hb9⟩
     have hs9 := hb9.size
     replace HB_f := Lib.hid (HB_f.out.trans (hb9.mono hl_f))
     replace hl_f : U4.heap.size ≤ U10.heap.size := by omega
     replace HB_m := Lib.hid (HB_m.out.trans (hb9.mono hl_m))
     replace hl_m : U5.heap.size ≤ U10.heap.size := by omega
     replace HBel := Lib.hid (HBel.out.trans (hb9.mono hlow))
     replace B_l := Lib.hid ((hb9.block _ l_l).trans B_l.out)
     replace B_j := Lib.hid ((hb9.block _ l_j).trans B_j.out)
     replace B_h := Lib.hid ((hb9.block _ l_h).trans B_h.out)
     replace B_z := Lib.hid ((hb9.block _ l_z).trans B_z.out)
     replace B_x := Lib.hid ((hb9.block _ l_x).trans B_x.out)
     replace l_l : N_l < U10.heap.size := by omega
     replace l_j : N_j < U10.heap.size := by omega
     replace l_h : N_h < U10.heap.size := by omega
     replace l_z : N_z < U10.heap.size := by omega
     replace l_x : N_x < U10.heap.size := by omega
     replace hlow : w.heap.size ≤ U10.heap.size := by omega
     clear hb9 hs9
     go_wp2
     go_ret
     exact ⟨by first | rfl | (simp; done), by rw [HB0.out]; exact HBel.out⟩
    ·obtain rfl := HE1.out.2.2 hr
     obtain ⟨rfl, rfl, rfl⟩ := HE2.out.2.2 hr
     have v1 : (r1 == r1) = true := by simp
     clear hnn hr
     obtain ⟨l0, l1, l2, l3, l4, l5, l6, l7, l8⟩ := cells9 B_l.out
     obtain ⟨j0, j1, j2, j3, j4, j5, j6, j7⟩ := cells8 B_j.out
     go_wp2_with fail
     clear l0 l1 l2 l3 l4 l5 l6 l7 l8 j0 j1 j2 j3 j4 j5 j6 j7
     obtain ⟨V9, hV9⟩ : ∃ W, W = U8.alloc (.cells #[.int .i64 0, .int .i64 0, .int .i64 0, .int .i64 0, .int .i64 0, .int .i64 0] 50) := ⟨_, rfl⟩
     rw [← hV9]
     have hzV9 : V9.heap.size = U8.heap.size + 1 := by rw [hV9]; simp
     replace HBel := Lib.hid (below_eq hV9 ((HBel.out.alloc (hlow) _)))
     replace B_l := Lib.hid (blk_eq hV9 (((Below.heap_alloc _ _ _ (by first | omega | (simp <;> omega))).trans B_l.out)))
     replace B_j := Lib.hid (blk_eq hV9 (((Below.heap_alloc _ _ _ (by first | omega | (simp <;> omega))).trans B_j.out)))
     replace B_h := Lib.hid (blk_eq hV9 (((Below.heap_alloc _ _ _ (by first | omega | (simp <;> omega))).trans B_h.out)))
     replace B_z := Lib.hid (blk_eq hV9 (((Below.heap_alloc _ _ _ (by first | omega | (simp <;> omega))).trans B_z.out)))
     have B_x := Lib.hid (new10 hV9)
     obtain ⟨N_x, hN_x⟩ : ∃ N, N = U8.heap.size := ⟨_, rfl⟩
     (try rw [← hN_x])
     rw [← hN_x] at B_x
     have d_l_x : N_l < N_x := by omega
     have d_j_x : N_j < N_x := by omega
     have d_h_x : N_h < N_x := by omega
     have d_z_x : N_z < N_x := by omega
     replace l_l : N_l < V9.heap.size := by omega
     replace l_j : N_j < V9.heap.size := by omega
     replace l_h : N_h < V9.heap.size := by omega
     replace l_z : N_z < V9.heap.size := by omega
     have l_x : N_x < V9.heap.size := by omega
     have g_x : w.heap.size ≤ N_x := by omega
     replace hlow : w.heap.size ≤ V9.heap.size := by omega
     replace HB_f := Lib.hid (below_eq hV9 ((HB_f.out.alloc (hl_f) _)))
     replace hl_f : U4.heap.size ≤ V9.heap.size := by omega
     replace HB_m := Lib.hid (below_eq hV9 ((HB_m.out.alloc (hl_m) _)))
     replace hl_m : U5.heap.size ≤ V9.heap.size := by omega
     clear hV9 hzV9 hN_x
     refine (hSa.out A1 none c1 0 0 [] rfl (by omega) V9 (.inl rfl) (.inl rfl)).mono ?_
     rintro e U10 ⟨rfl, hb9⟩
     have hs9 := hb9.size
     replace HB_f := Lib.hid (HB_f.out.trans (hb9.mono hl_f))
     replace hl_f : U4.heap.size ≤ U10.heap.size := by omega
     replace HB_m := Lib.hid (HB_m.out.trans (hb9.mono hl_m))
     replace hl_m : U5.heap.size ≤ U10.heap.size := by omega
     replace HBel := Lib.hid (HBel.out.trans (hb9.mono hlow))
     replace B_l := Lib.hid ((hb9.block _ l_l).trans B_l.out)
     replace B_j := Lib.hid ((hb9.block _ l_j).trans B_j.out)
     replace B_h := Lib.hid ((hb9.block _ l_h).trans B_h.out)
     replace B_z := Lib.hid ((hb9.block _ l_z).trans B_z.out)
     replace B_x := Lib.hid ((hb9.block _ l_x).trans B_x.out)
     replace l_l : N_l < U10.heap.size := by omega
     replace l_j : N_j < U10.heap.size := by omega
     replace l_h : N_h < U10.heap.size := by omega
     replace l_z : N_z < U10.heap.size := by omega
     replace l_x : N_x < U10.heap.size := by omega
     replace hlow : w.heap.size ≤ U10.heap.size := by omega
     clear hb9 hs9
     go_wp2
     go_ret
     exact ⟨by first | rfl | (simp; done), by rw [HB0.out]; exact HBel.out⟩
   ·by_cases hid : j.id = L.hd
    ·obtain ⟨hrr, hnn⟩ := FillE.none_ HE1.out.1 HE2.out.1 (.inr hid)
     subst hrr
     by_cases hr : r1 = 0
     ·subst hr
      obtain rfl := hnn rfl
      obtain ⟨fb1, fb2, fb3, fb4, fb5, fb6, fb7, fb8⟩ := HE1.out.2.1 rfl
      obtain ⟨fd1, fd2, fd3, fd4, fd5⟩ := HE2.out.2.1 rfl
      subst fb4
      replace fd1 := fd1.symm
      subst fd1
      have HS := Lib.hid (And.intro fb5 (And.intro (show k1 ≤ 16 by omega) (And.intro fb8 fd5)))
      clear fb1 fb2 fb3 fb5 fb6 fb7 fb8 fd2 fd3 fd4 fd5 hnn
      have t2 : (j.id == L.hd) = true := by simp [hid]
      obtain ⟨l0, l1, l2, l3, l4, l5, l6, l7, l8⟩ := cells9 B_l.out
      obtain ⟨j0, j1, j2, j3, j4, j5, j6, j7⟩ := cells8 B_j.out
      go_wp2_with fail
      clear l0 l1 l2 l3 l4 l5 l6 l7 l8 j0 j1 j2 j3 j4 j5 j6 j7
      obtain ⟨V9, hV9⟩ : ∃ W, W = U8.alloc (.cells #[.int .i64 X.q, .int .i64 X.n, .int .i64 X.S.g, .int .i64 X.S.c, .int .i64 X.S.mn, .int .i64 X.S.mx] 50) := ⟨_, rfl⟩
      rw [← hV9]
      have hzV9 : V9.heap.size = U8.heap.size + 1 := by rw [hV9]; simp
      replace HBel := Lib.hid (below_eq hV9 ((HBel.out.alloc (hlow) _)))
      replace B_l := Lib.hid (blk_eq hV9 (((Below.heap_alloc _ _ _ (by first | omega | (simp <;> omega))).trans B_l.out)))
      replace B_j := Lib.hid (blk_eq hV9 (((Below.heap_alloc _ _ _ (by first | omega | (simp <;> omega))).trans B_j.out)))
      replace B_h := Lib.hid (blk_eq hV9 (((Below.heap_alloc _ _ _ (by first | omega | (simp <;> omega))).trans B_h.out)))
      replace B_z := Lib.hid (blk_eq hV9 (((Below.heap_alloc _ _ _ (by first | omega | (simp <;> omega))).trans B_z.out)))
      have B_x := Lib.hid (new10 hV9)
      obtain ⟨N_x, hN_x⟩ : ∃ N, N = U8.heap.size := ⟨_, rfl⟩
      (try rw [← hN_x])
      rw [← hN_x] at B_x
      have d_l_x : N_l < N_x := by omega
      have d_j_x : N_j < N_x := by omega
      have d_h_x : N_h < N_x := by omega
      have d_z_x : N_z < N_x := by omega
      replace l_l : N_l < V9.heap.size := by omega
      replace l_j : N_j < V9.heap.size := by omega
      replace l_h : N_h < V9.heap.size := by omega
      replace l_z : N_z < V9.heap.size := by omega
      have l_x : N_x < V9.heap.size := by omega
      have g_x : w.heap.size ≤ N_x := by omega
      replace hlow : w.heap.size ≤ V9.heap.size := by omega
      replace HB_f := Lib.hid (below_eq hV9 ((HB_f.out.alloc (hl_f) _)))
      replace hl_f : U4.heap.size ≤ V9.heap.size := by omega
      replace HB_m := Lib.hid (below_eq hV9 ((HB_m.out.alloc (hl_m) _)))
      replace hl_m : U5.heap.size ≤ V9.heap.size := by omega
      clear hV9 hzV9 hN_x
      refine (hSa.out A1 A2 c1 c2 k1 (placeF j.S L.lv k1) HS.out.1 HS.out.2.1 V9 (HS.out.2.2.1.keep (HB_f.out) hl_f) (HS.out.2.2.2.keep HB_m.out hl_m)).mono ?_
      rintro e U10 ⟨rfl, hb9⟩
      have hs9 := hb9.size
      replace HB_f := Lib.hid (HB_f.out.trans (hb9.mono hl_f))
      replace hl_f : U4.heap.size ≤ U10.heap.size := by omega
      replace HB_m := Lib.hid (HB_m.out.trans (hb9.mono hl_m))
      replace hl_m : U5.heap.size ≤ U10.heap.size := by omega
      replace HBel := Lib.hid (HBel.out.trans (hb9.mono hlow))
      replace B_l := Lib.hid ((hb9.block _ l_l).trans B_l.out)
      replace B_j := Lib.hid ((hb9.block _ l_j).trans B_j.out)
      replace B_h := Lib.hid ((hb9.block _ l_h).trans B_h.out)
      replace B_z := Lib.hid ((hb9.block _ l_z).trans B_z.out)
      replace B_x := Lib.hid ((hb9.block _ l_x).trans B_x.out)
      replace l_l : N_l < U10.heap.size := by omega
      replace l_j : N_j < U10.heap.size := by omega
      replace l_h : N_h < U10.heap.size := by omega
      replace l_z : N_z < U10.heap.size := by omega
      replace l_x : N_x < U10.heap.size := by omega
      replace hlow : w.heap.size ≤ U10.heap.size := by omega
      clear hb9 hs9
      go_wp2
      go_ret
      exact ⟨by first | rfl | (simp; done), by rw [HB0.out]; exact HBel.out⟩
     ·obtain rfl := HE1.out.2.2 hr
      obtain ⟨rfl, rfl, rfl⟩ := HE2.out.2.2 hr
      have v1 : (r1 == r1) = true := by simp
      clear hnn hr
      have t2 : (j.id == L.hd) = true := by simp [hid]
      obtain ⟨l0, l1, l2, l3, l4, l5, l6, l7, l8⟩ := cells9 B_l.out
      obtain ⟨j0, j1, j2, j3, j4, j5, j6, j7⟩ := cells8 B_j.out
      go_wp2_with fail
      clear l0 l1 l2 l3 l4 l5 l6 l7 l8 j0 j1 j2 j3 j4 j5 j6 j7
      obtain ⟨V9, hV9⟩ : ∃ W, W = U8.alloc (.cells #[.int .i64 X.q, .int .i64 X.n, .int .i64 X.S.g, .int .i64 X.S.c, .int .i64 X.S.mn, .int .i64 X.S.mx] 50) := ⟨_, rfl⟩
      rw [← hV9]
      have hzV9 : V9.heap.size = U8.heap.size + 1 := by rw [hV9]; simp
      replace HBel := Lib.hid (below_eq hV9 ((HBel.out.alloc (hlow) _)))
      replace B_l := Lib.hid (blk_eq hV9 (((Below.heap_alloc _ _ _ (by first | omega | (simp <;> omega))).trans B_l.out)))
      replace B_j := Lib.hid (blk_eq hV9 (((Below.heap_alloc _ _ _ (by first | omega | (simp <;> omega))).trans B_j.out)))
      replace B_h := Lib.hid (blk_eq hV9 (((Below.heap_alloc _ _ _ (by first | omega | (simp <;> omega))).trans B_h.out)))
      replace B_z := Lib.hid (blk_eq hV9 (((Below.heap_alloc _ _ _ (by first | omega | (simp <;> omega))).trans B_z.out)))
      have B_x := Lib.hid (new10 hV9)
      obtain ⟨N_x, hN_x⟩ : ∃ N, N = U8.heap.size := ⟨_, rfl⟩
      (try rw [← hN_x])
      rw [← hN_x] at B_x
      have d_l_x : N_l < N_x := by omega
      have d_j_x : N_j < N_x := by omega
      have d_h_x : N_h < N_x := by omega
      have d_z_x : N_z < N_x := by omega
      replace l_l : N_l < V9.heap.size := by omega
      replace l_j : N_j < V9.heap.size := by omega
      replace l_h : N_h < V9.heap.size := by omega
      replace l_z : N_z < V9.heap.size := by omega
      have l_x : N_x < V9.heap.size := by omega
      have g_x : w.heap.size ≤ N_x := by omega
      replace hlow : w.heap.size ≤ V9.heap.size := by omega
      replace HB_f := Lib.hid (below_eq hV9 ((HB_f.out.alloc (hl_f) _)))
      replace hl_f : U4.heap.size ≤ V9.heap.size := by omega
      replace HB_m := Lib.hid (below_eq hV9 ((HB_m.out.alloc (hl_m) _)))
      replace hl_m : U5.heap.size ≤ V9.heap.size := by omega
      clear hV9 hzV9 hN_x
      refine (hSa.out A1 none c1 0 0 [] rfl (by omega) V9 (.inl rfl) (.inl rfl)).mono ?_
      rintro e U10 ⟨rfl, hb9⟩
      have hs9 := hb9.size
      replace HB_f := Lib.hid (HB_f.out.trans (hb9.mono hl_f))
      replace hl_f : U4.heap.size ≤ U10.heap.size := by omega
      replace HB_m := Lib.hid (HB_m.out.trans (hb9.mono hl_m))
      replace hl_m : U5.heap.size ≤ U10.heap.size := by omega
      replace HBel := Lib.hid (HBel.out.trans (hb9.mono hlow))
      replace B_l := Lib.hid ((hb9.block _ l_l).trans B_l.out)
      replace B_j := Lib.hid ((hb9.block _ l_j).trans B_j.out)
      replace B_h := Lib.hid ((hb9.block _ l_h).trans B_h.out)
      replace B_z := Lib.hid ((hb9.block _ l_z).trans B_z.out)
      replace B_x := Lib.hid ((hb9.block _ l_x).trans B_x.out)
      replace l_l : N_l < U10.heap.size := by omega
      replace l_j : N_j < U10.heap.size := by omega
      replace l_h : N_h < U10.heap.size := by omega
      replace l_z : N_z < U10.heap.size := by omega
      replace l_x : N_x < U10.heap.size := by omega
      replace hlow : w.heap.size ≤ U10.heap.size := by omega
      clear hb9 hs9
      go_wp2
      go_ret
      exact ⟨by first | rfl | (simp; done), by rw [HB0.out]; exact HBel.out⟩
    ·have HI := Lib.hid hid
     have HX := Lib.hid hX
     have t2 : (j.id == L.hd) = false := by simp [hid]
     have HLe := Lib.hid (FillE.le HE1.out.1 HE2.out.1)
     have t3 : decide (k2 < k1) = false := decide_eq_false (by
      by_cases hr : r1 = 0
      ·obtain ⟨fb1, fb2, fb3, fb4, fb5, fb6, fb7, fb8⟩ := HE1.out.2.1 hr
       obtain ⟨e1, e2, _⟩ := HLe.out.2 hr
       have := (HE2.out.2.1 e1).1
       omega
      ·have := HE1.out.2.2 hr
       omega)
     have HN1 := Lib.hid (fun (h : leftL L X.q = none) => show r1 ≠ 0 from fun e => by
      obtain ⟨_, _, hl⟩ := HLe.out.2 e
      obtain ⟨U, hU, _⟩ := LetR.safe hl HI.out HX.out
      rw [h] at hU; cases hU)
     have HN3 := Lib.hid (fun (h : leftL L X.q = none) => show r3 ≠ 0 from fun e => by
      obtain ⟨U, hU, _⟩ := LetR.safe (HG.out e).2 HI.out HX.out
      rw [h] at hU; cases hU)
     clear hid hX
     by_cases hr2 : r2 = 0
     ·subst hr2
      cases hq : leftL L X.q with
      | none =>
       have h1 := HN1.out hq
       have h3 := HN3.out hq
       have t6 : (r1 != 0) = true := by simp [h1]
       have t7 : (r3 != 0) = true := by simp [h3]
       rcases left_no hq with hlt | hlt
       ·have t8 : decide (X.q < 0) = true := decide_eq_true hlt
        clear h1 h3 hq hlt
        obtain ⟨l0, l1, l2, l3, l4, l5, l6, l7, l8⟩ := cells9 B_l.out
        obtain ⟨j0, j1, j2, j3, j4, j5, j6, j7⟩ := cells8 B_j.out
        go_wp2
        clear l0 l1 l2 l3 l4 l5 l6 l7 l8 j0 j1 j2 j3 j4 j5 j6 j7
        go_ret
        exact ⟨by first | rfl | (simp; done), by rw [HB0.out]; exact HBel.out.alloc hlow _⟩
       ·have t8 : decide (X.q < 0) = false := decide_eq_false (by omega)
        have t9 : decide ((n2 : Int) ≤ X.q) = true := decide_eq_true (by rw [HV.out.1]; exact hlt)
        clear h1 h3 hq hlt
        obtain ⟨l0, l1, l2, l3, l4, l5, l6, l7, l8⟩ := cells9 B_l.out
        obtain ⟨j0, j1, j2, j3, j4, j5, j6, j7⟩ := cells8 B_j.out
        have ll1 : N_l < U8.heap.size + 1 := by omega
        go_wp2
        clear l0 l1 l2 l3 l4 l5 l6 l7 l8 j0 j1 j2 j3 j4 j5 j6 j7 ll1
        go_ret
        exact ⟨by first | rfl | (simp; done), by rw [HB0.out]; exact HBel.out.alloc hlow _⟩
      | some U =>
       obtain ⟨hUm, hq0, hqn⟩ := left_in hq
       obtain ⟨q, hqq⟩ : ∃ q : Nat, X.q = q := ⟨X.q.toNat, by omega⟩
       have hUq : L.lf[q]? = some U := by
        have h9 := hq
        unfold leftL at h9
        rw [if_pos hq0, hqq] at h9
        simpa using h9
       have hqn2 : q < n2 := by have := HV.out.1; omega
       have hSX := hSf.out HF.out X HX.out U hq
       have hEX := hEa.out HF.out X HX.out U hq
       rw [hqq] at hSX hEX ⊢
       have HSX := Lib.hid hSX
       have HEX := Lib.hid hEX
       have HQ := Lib.hid hq
       obtain ⟨b2, off2, hA, hb2, hall⟩ := HV.out.2.2.2.1.at_ hUq
       have HCA := Lib.hid (hall q U hUq)
       have l5 : U8.cell? ⟨N_l, 5, none⟩ = some (.slice (some ⟨b2, off2, none⟩) n2 L.c2) := by rw [← hA]; exact cell_blk (i := 5) B_l.out rfl
       have t8 : decide (q < 0) = false := decide_eq_false (by omega)
       have t9 : decide ((q : Int) < 0) = false := decide_eq_false (by omega)
       have t10 : decide (n2 ≤ q) = false := decide_eq_false (by omega)
       have HL5 := Lib.hid l5
       clear hSX hEX hUm hq0 hqn hqq hUq hall hA hq l5
       by_cases hr1 : r1 = 0
       ·subst hr1
        obtain ⟨_, _, hl⟩ := HLe.out.2 rfl
        obtain ⟨U9, hU9, TT, EE, hAA, hSS⟩ := LetR.safe hl HI.out HX.out
        rw [HQ.out] at hU9
        injection hU9 with hU9
        subst hU9
        have HSS1 := Lib.hid (And.intro hAA hSS)
        obtain ⟨fb1, fb2, fb3, fb4, fb5, fb6, fb7, fb8⟩ := HE1.out.2.1 rfl
        have HFB := Lib.hid (And.intro fb5 (And.intro fb6 (And.intro fb7 (And.intro (show k1 ≤ 1000 by omega) fb8))))
        clear hl hAA hSS fb1 fb2 fb3 fb4 fb5 fb6 fb7 fb8
        obtain ⟨l0, l1, l2, l3, l4, l5, l6, l7, l8⟩ := cells9 B_l.out
        obtain ⟨j0, j1, j2, j3, j4, j5, j6, j7⟩ := cells8 B_j.out
        obtain ⟨z0, z1, z2, z3⟩ := cells4 B_z.out
        obtain ⟨h0, h1, h2, h3, h4⟩ := cells5 B_h.out
        clear l5
        have l5 := HL5.out
        have l_l_0 : N_l < U8.heap.size + 1 := by omega
        have l_l_1 : N_l < U8.heap.size + 1 + 1 := by omega
        have l_j_0 : N_j < U8.heap.size + 1 := by omega
        have l_j_1 : N_j < U8.heap.size + 1 + 1 := by omega
        have l_z_0 : N_z < U8.heap.size + 1 := by omega
        have l_z_1 : N_z < U8.heap.size + 1 + 1 := by omega
        have l_h_0 : N_h < U8.heap.size + 1 := by omega
        have l_h_1 : N_h < U8.heap.size + 1 + 1 := by omega
        go_wp2_with (refine wpList_load_lu rfl _ rfl b2 (off2 + q * 2) U rfl (HCA.out.keep hb2 (HBel.out.alloc hlow _)) ?_)
        clear l0 l1 l2 l3 l4 l6 l7 l8 j0 j1 j2 j3 j4 j5 j6 j7 z0 z1 z2 z3 h0 h1 h2 h3 h4 l5 l_l_0 l_l_1 l_j_0 l_j_1 l_z_0 l_z_1 l_h_0 l_h_1
        obtain ⟨V9, hV9⟩ : ∃ W, W = (U8.alloc (.cells #[.int .i64 (q : Nat), .int .i64 X.n, .int .i64 X.S.g, .int .i64 X.S.c, .int .i64 X.S.mn, .int .i64 X.S.mx] 50)).alloc (.cells #[.int .i64 U.g, .int .i64 U.c] 55) := ⟨_, rfl⟩
        rw [← hV9]
        have hzV9 : V9.heap.size = U8.heap.size + 1 + 1 := by rw [hV9]; simp
        replace HBel := Lib.hid (below_eq hV9 (((HBel.out.alloc (hlow) _).alloc (by simp <;> omega) _)))
        replace B_l := Lib.hid (blk_eq hV9 (((Below.heap_alloc _ _ _ (by first | omega | (simp <;> omega))).trans ((Below.heap_alloc _ _ _ (by first | omega | (simp <;> omega))).trans B_l.out))))
        replace B_j := Lib.hid (blk_eq hV9 (((Below.heap_alloc _ _ _ (by first | omega | (simp <;> omega))).trans ((Below.heap_alloc _ _ _ (by first | omega | (simp <;> omega))).trans B_j.out))))
        replace B_h := Lib.hid (blk_eq hV9 (((Below.heap_alloc _ _ _ (by first | omega | (simp <;> omega))).trans ((Below.heap_alloc _ _ _ (by first | omega | (simp <;> omega))).trans B_h.out))))
        replace B_z := Lib.hid (blk_eq hV9 (((Below.heap_alloc _ _ _ (by first | omega | (simp <;> omega))).trans ((Below.heap_alloc _ _ _ (by first | omega | (simp <;> omega))).trans B_z.out))))
        have B_x := Lib.hid (new20 hV9)
        have B_u := Lib.hid (new21 hV9)
        obtain ⟨N_x, hN_x⟩ : ∃ N, N = U8.heap.size := ⟨_, rfl⟩
        obtain ⟨N_u, hN_u⟩ : ∃ N, N = U8.heap.size + 1 := ⟨_, rfl⟩
        (try rw [← hN_u])
        rw [← hN_u] at B_u
        (try rw [← hN_x])
        rw [← hN_x] at B_x
        have d_l_x : N_l < N_x := by omega
        have d_j_x : N_j < N_x := by omega
        have d_h_x : N_h < N_x := by omega
        have d_z_x : N_z < N_x := by omega
        have d_l_u : N_l < N_u := by omega
        have d_j_u : N_j < N_u := by omega
        have d_h_u : N_h < N_u := by omega
        have d_z_u : N_z < N_u := by omega
        replace l_l : N_l < V9.heap.size := by omega
        replace l_j : N_j < V9.heap.size := by omega
        replace l_h : N_h < V9.heap.size := by omega
        replace l_z : N_z < V9.heap.size := by omega
        have l_x : N_x < V9.heap.size := by omega
        have l_u : N_u < V9.heap.size := by omega
        have g_x : w.heap.size ≤ N_x := by omega
        have g_u : w.heap.size ≤ N_u := by omega
        have d_x_u : N_x < N_u := by omega
        replace hlow : w.heap.size ≤ V9.heap.size := by omega
        replace HB_f := Lib.hid (below_eq hV9 (((HB_f.out.alloc (hl_f) _).alloc (by simp <;> omega) _)))
        replace hl_f : U4.heap.size ≤ V9.heap.size := by omega
        replace HB_m := Lib.hid (below_eq hV9 (((HB_m.out.alloc (hl_m) _).alloc (by simp <;> omega) _)))
        replace hl_m : U5.heap.size ≤ V9.heap.size := by omega
        clear hV9 hzV9 hN_x hN_u
        refine (HSX.out un HV.out.2.2.2.2.1 A1 k1 c1 (placeF j.S L.lv n1') HFB.out.1 HFB.out.2.1 HFB.out.2.2.1 HFB.out.2.2.2.1 (fun s hs => (placeL_ok HV.out.2.2.1 HV.out.2.1 _ _ s hs).1) V9 HBel.out (HFB.out.2.2.2.2.keep HB_f.out hl_f)).mono ?_
        rintro e U10 ⟨T1, E1, rfl, hA1, hb9⟩
        have hs9 := hb9.size
        replace HB_f := Lib.hid (HB_f.out.trans (hb9.mono hl_f))
        replace hl_f : U4.heap.size ≤ U10.heap.size := by omega
        replace HB_m := Lib.hid (HB_m.out.trans (hb9.mono hl_m))
        replace hl_m : U5.heap.size ≤ U10.heap.size := by omega
        replace HBel := Lib.hid (HBel.out.trans (hb9.mono hlow))
        replace B_l := Lib.hid ((hb9.block _ l_l).trans B_l.out)
        replace B_j := Lib.hid ((hb9.block _ l_j).trans B_j.out)
        replace B_h := Lib.hid ((hb9.block _ l_h).trans B_h.out)
        replace B_z := Lib.hid ((hb9.block _ l_z).trans B_z.out)
        replace B_x := Lib.hid ((hb9.block _ l_x).trans B_x.out)
        replace B_u := Lib.hid ((hb9.block _ l_u).trans B_u.out)
        replace l_l : N_l < U10.heap.size := by omega
        replace l_j : N_j < U10.heap.size := by omega
        replace l_h : N_h < U10.heap.size := by omega
        replace l_z : N_z < U10.heap.size := by omega
        replace l_x : N_x < U10.heap.size := by omega
        replace l_u : N_u < U10.heap.size := by omega
        replace hlow : w.heap.size ≤ U10.heap.size := by omega
        clear hb9 hs9
        obtain ⟨hs1, hs2⟩ := safe_again HSS1.out.1 HSS1.out.2 hA1 rfl rfl rfl
        rw [hs1]
        subst hs2
        clear hA1 hs1
        by_cases hr3 : r3 = 0
        ·subst hr3
         obtain ⟨gs1, gs2⟩ := HG.out rfl
         obtain ⟨U9, hU9, TT, EE, hAA, hSS⟩ := LetR.safe gs2 HI.out HX.out
         rw [HQ.out] at hU9
         injection hU9 with hU9
         subst hU9
         have HSS := Lib.hid (And.intro gs1 (And.intro hAA hSS))
         clear gs1 gs2 hAA hSS
         obtain ⟨l0, l1, l2, l3, l4, l5, l6, l7, l8⟩ := cells9 B_l.out
         obtain ⟨x0, x1, x2, x3, x4, x5⟩ := cells6 B_x.out
         obtain ⟨u0, u1⟩ := cells2 B_u.out
         go_wp2_with fail
         refine (HEX.out U10 HBel.out).mono ?_
         rintro e U11 ⟨tt, ii, rfl, hEl, hb9⟩
         clear l0 l1 l2 l3 l4 l5 l6 l7 l8 x0 x1 x2 x3 x4 x5 u0 u1
         have hs9 := hb9.size
         replace HB_f := Lib.hid (HB_f.out.trans (hb9.mono hl_f))
         replace hl_f : U4.heap.size ≤ U11.heap.size := by omega
         replace HB_m := Lib.hid (HB_m.out.trans (hb9.mono hl_m))
         replace hl_m : U5.heap.size ≤ U11.heap.size := by omega
         replace HBel := Lib.hid (HBel.out.trans (hb9.mono hlow))
         replace B_l := Lib.hid ((hb9.block _ l_l).trans B_l.out)
         replace B_j := Lib.hid ((hb9.block _ l_j).trans B_j.out)
         replace B_h := Lib.hid ((hb9.block _ l_h).trans B_h.out)
         replace B_z := Lib.hid ((hb9.block _ l_z).trans B_z.out)
         replace B_x := Lib.hid ((hb9.block _ l_x).trans B_x.out)
         replace B_u := Lib.hid ((hb9.block _ l_u).trans B_u.out)
         replace l_l : N_l < U11.heap.size := by omega
         replace l_j : N_j < U11.heap.size := by omega
         replace l_h : N_h < U11.heap.size := by omega
         replace l_z : N_z < U11.heap.size := by omega
         replace l_x : N_x < U11.heap.size := by omega
         replace l_u : N_u < U11.heap.size := by omega
         replace hlow : w.heap.size ≤ U11.heap.size := by omega
         clear hb9 hs9
         obtain ⟨hi0, htt⟩ := safe_earl HF.out.v (fun y hy => by rw [List.mem_singleton.1 hy]; exact HSS.out.1) HSS.out.2.1 HSS.out.2.2 hEl
         subst hi0
         have HTT := Lib.hid htt
         clear hEl htt
         obtain ⟨l0, l1, l2, l3, l4, l5, l6, l7, l8⟩ := cells9 B_l.out
         obtain ⟨x0, x1, x2, x3, x4, x5⟩ := cells6 B_x.out
         obtain ⟨u0, u1⟩ := cells2 B_u.out
         obtain ⟨j0, j1, j2, j3, j4, j5, j6, j7⟩ := cells8 B_j.out
         obtain ⟨h0, h1, h2, h3, h4⟩ := cells5 B_h.out
         obtain ⟨z0, z1, z2, z3⟩ := cells4 B_z.out
         go_wp2_with fail
         clear l0 l1 l2 l3 l4 l5 l6 l7 l8 x0 x1 x2 x3 x4 x5 u0 u1 j0 j1 j2 j3 j4 j5 j6 j7 h0 h1 h2 h3 h4 z0 z1 z2 z3
         obtain ⟨V12, hV12⟩ : ∃ W, W = U11.alloc (.cells #[.int .i64 s.n, .int .i64 s.d, .int .u64 (s.m : Nat), .int .i64 s.c] 46) := ⟨_, rfl⟩
         rw [← hV12]
         have hzV12 : V12.heap.size = U11.heap.size + 1 := by rw [hV12]; simp
         replace HBel := Lib.hid (below_eq hV12 ((HBel.out.alloc (hlow) _)))
         replace B_l := Lib.hid (blk_eq hV12 (((Below.heap_alloc _ _ _ (by first | omega | (simp <;> omega))).trans B_l.out)))
         replace B_j := Lib.hid (blk_eq hV12 (((Below.heap_alloc _ _ _ (by first | omega | (simp <;> omega))).trans B_j.out)))
         replace B_h := Lib.hid (blk_eq hV12 (((Below.heap_alloc _ _ _ (by first | omega | (simp <;> omega))).trans B_h.out)))
         replace B_z := Lib.hid (blk_eq hV12 (((Below.heap_alloc _ _ _ (by first | omega | (simp <;> omega))).trans B_z.out)))
         replace B_x := Lib.hid (blk_eq hV12 (((Below.heap_alloc _ _ _ (by first | omega | (simp <;> omega))).trans B_x.out)))
         replace B_u := Lib.hid (blk_eq hV12 (((Below.heap_alloc _ _ _ (by first | omega | (simp <;> omega))).trans B_u.out)))
         have B_y := Lib.hid (new10 hV12)
         obtain ⟨N_y, hN_y⟩ : ∃ N, N = U11.heap.size := ⟨_, rfl⟩
         (try rw [← hN_y])
         rw [← hN_y] at B_y
         have d_l_y : N_l < N_y := by omega
         have d_j_y : N_j < N_y := by omega
         have d_h_y : N_h < N_y := by omega
         have d_z_y : N_z < N_y := by omega
         have d_x_y : N_x < N_y := by omega
         have d_u_y : N_u < N_y := by omega
         replace l_l : N_l < V12.heap.size := by omega
         replace l_j : N_j < V12.heap.size := by omega
         replace l_h : N_h < V12.heap.size := by omega
         replace l_z : N_z < V12.heap.size := by omega
         replace l_x : N_x < V12.heap.size := by omega
         replace l_u : N_u < V12.heap.size := by omega
         have l_y : N_y < V12.heap.size := by omega
         have g_y : w.heap.size ≤ N_y := by omega
         replace hlow : w.heap.size ≤ V12.heap.size := by omega
         replace HB_f := Lib.hid (below_eq hV12 ((HB_f.out.alloc (hl_f) _)))
         replace hl_f : U4.heap.size ≤ V12.heap.size := by omega
         replace HB_m := Lib.hid (below_eq hV12 ((HB_m.out.alloc (hl_m) _)))
         replace hl_m : U5.heap.size ≤ V12.heap.size := by omega
         clear hV12 hzV12 hN_y
         refine (HSX.out H.u HV.out.2.2.2.2.2 (some ⟨N_y, 0, none⟩) 1 1 [s] rfl (Nat.le_refl _) (by unfold maxLen; omega) (by omega) (fun y hy => by rw [List.mem_singleton.1 hy]; exact HSS.out.1) V12 HBel.out (fe_blk (cs := [s].flatMap feC) B_y.out (fun _ _ h => h) (blk_lt B_y.out))).mono ?_
         rintro e U13 ⟨T2, E2, rfl, hA2, hb9⟩
         have hs9 := hb9.size
         replace HB_f := Lib.hid (HB_f.out.trans (hb9.mono hl_f))
         replace hl_f : U4.heap.size ≤ U13.heap.size := by omega
         replace HB_m := Lib.hid (HB_m.out.trans (hb9.mono hl_m))
         replace hl_m : U5.heap.size ≤ U13.heap.size := by omega
         replace HBel := Lib.hid (HBel.out.trans (hb9.mono hlow))
         replace B_l := Lib.hid ((hb9.block _ l_l).trans B_l.out)
         replace B_j := Lib.hid ((hb9.block _ l_j).trans B_j.out)
         replace B_h := Lib.hid ((hb9.block _ l_h).trans B_h.out)
         replace B_z := Lib.hid ((hb9.block _ l_z).trans B_z.out)
         replace B_x := Lib.hid ((hb9.block _ l_x).trans B_x.out)
         replace B_u := Lib.hid ((hb9.block _ l_u).trans B_u.out)
         replace B_y := Lib.hid ((hb9.block _ l_y).trans B_y.out)
         replace l_l : N_l < U13.heap.size := by omega
         replace l_j : N_j < U13.heap.size := by omega
         replace l_h : N_h < U13.heap.size := by omega
         replace l_z : N_z < U13.heap.size := by omega
         replace l_x : N_x < U13.heap.size := by omega
         replace l_u : N_u < U13.heap.size := by omega
         replace l_y : N_y < U13.heap.size := by omega
         replace hlow : w.heap.size ≤ U13.heap.size := by omega
         clear hb9 hs9
         obtain ⟨hs1, hs2⟩ := safe_again HSS.out.2.1 HSS.out.2.2 hA2 rfl rfl rfl
         rw [hs1]
         subst hs2
         clear hA2 hs1
         by_cases htp : tt ≤ L.pr
         ·have u4 : decide (tt ≤ L.pr) = true := decide_eq_true htp
          clear htp
          obtain ⟨l0, l1, l2, l3, l4, l5, l6, l7, l8⟩ := cells9 B_l.out
          go_wp2
          clear l0 l1 l2 l3 l4 l5 l6 l7 l8
          go_ret
          exact ⟨by first | rfl | (simp; done), by rw [HB0.out]; exact HBel.out⟩
         ·have u4 : decide (tt ≤ L.pr) = false := decide_eq_false htp
          have u5 : decide (tt ≤ L.now) = true := decide_eq_true (by have := HTT.out; omega)
          clear htp
          obtain ⟨l0, l1, l2, l3, l4, l5, l6, l7, l8⟩ := cells9 B_l.out
          go_wp2
          clear l0 l1 l2 l3 l4 l5 l6 l7 l8
          go_ret
          exact ⟨by first | rfl | (simp; done), by rw [HB0.out]; exact HBel.out⟩
        ·have u2 : (r3 == 0) = false := by simp [hr3]
         clear hr3
         go_wp2
         go_ret
         exact ⟨by first | rfl | (simp; done), by rw [HB0.out]; exact HBel.out⟩
       ·have u1 : (r1 == 0) = false := by simp [hr1]
        clear hr1
        by_cases hr3 : r3 = 0
        ·subst hr3
         obtain ⟨gs1, gs2⟩ := HG.out rfl
         obtain ⟨U9, hU9, TT, EE, hAA, hSS⟩ := LetR.safe gs2 HI.out HX.out
         rw [HQ.out] at hU9
         injection hU9 with hU9
         subst hU9
         have HSS := Lib.hid (And.intro gs1 (And.intro hAA hSS))
         clear gs1 gs2 hAA hSS
         obtain ⟨l0, l1, l2, l3, l4, l5, l6, l7, l8⟩ := cells9 B_l.out
         obtain ⟨j0, j1, j2, j3, j4, j5, j6, j7⟩ := cells8 B_j.out
         obtain ⟨z0, z1, z2, z3⟩ := cells4 B_z.out
         obtain ⟨h0, h1, h2, h3, h4⟩ := cells5 B_h.out
         clear l5
         have l5 := HL5.out
         have l_l_0 : N_l < U8.heap.size + 1 := by omega
         have l_l_1 : N_l < U8.heap.size + 1 + 1 := by omega
         have l_j_0 : N_j < U8.heap.size + 1 := by omega
         have l_j_1 : N_j < U8.heap.size + 1 + 1 := by omega
         have l_z_0 : N_z < U8.heap.size + 1 := by omega
         have l_z_1 : N_z < U8.heap.size + 1 + 1 := by omega
         have l_h_0 : N_h < U8.heap.size + 1 := by omega
         have l_h_1 : N_h < U8.heap.size + 1 + 1 := by omega
         go_wp2_with (refine wpList_load_lu rfl _ rfl b2 (off2 + q * 2) U rfl (HCA.out.keep hb2 (HBel.out.alloc hlow _)) ?_)
         clear l0 l1 l2 l3 l4 l6 l7 l8 j0 j1 j2 j3 j4 j5 j6 j7 z0 z1 z2 z3 h0 h1 h2 h3 h4 l5 l_l_0 l_l_1 l_j_0 l_j_1 l_z_0 l_z_1 l_h_0 l_h_1
         obtain ⟨V9, hV9⟩ : ∃ W, W = (U8.alloc (.cells #[.int .i64 (q : Nat), .int .i64 X.n, .int .i64 X.S.g, .int .i64 X.S.c, .int .i64 X.S.mn, .int .i64 X.S.mx] 50)).alloc (.cells #[.int .i64 U.g, .int .i64 U.c] 55) := ⟨_, rfl⟩
         rw [← hV9]
         have hzV9 : V9.heap.size = U8.heap.size + 1 + 1 := by rw [hV9]; simp
         replace HBel := Lib.hid (below_eq hV9 (((HBel.out.alloc (hlow) _).alloc (by simp <;> omega) _)))
         replace B_l := Lib.hid (blk_eq hV9 (((Below.heap_alloc _ _ _ (by first | omega | (simp <;> omega))).trans ((Below.heap_alloc _ _ _ (by first | omega | (simp <;> omega))).trans B_l.out))))
         replace B_j := Lib.hid (blk_eq hV9 (((Below.heap_alloc _ _ _ (by first | omega | (simp <;> omega))).trans ((Below.heap_alloc _ _ _ (by first | omega | (simp <;> omega))).trans B_j.out))))
         replace B_h := Lib.hid (blk_eq hV9 (((Below.heap_alloc _ _ _ (by first | omega | (simp <;> omega))).trans ((Below.heap_alloc _ _ _ (by first | omega | (simp <;> omega))).trans B_h.out))))
         replace B_z := Lib.hid (blk_eq hV9 (((Below.heap_alloc _ _ _ (by first | omega | (simp <;> omega))).trans ((Below.heap_alloc _ _ _ (by first | omega | (simp <;> omega))).trans B_z.out))))
         have B_x := Lib.hid (new20 hV9)
         have B_u := Lib.hid (new21 hV9)
         obtain ⟨N_x, hN_x⟩ : ∃ N, N = U8.heap.size := ⟨_, rfl⟩
         obtain ⟨N_u, hN_u⟩ : ∃ N, N = U8.heap.size + 1 := ⟨_, rfl⟩
         (try rw [← hN_u])
         rw [← hN_u] at B_u
         (try rw [← hN_x])
         rw [← hN_x] at B_x
         have d_l_x : N_l < N_x := by omega
         have d_j_x : N_j < N_x := by omega
         have d_h_x : N_h < N_x := by omega
         have d_z_x : N_z < N_x := by omega
         have d_l_u : N_l < N_u := by omega
         have d_j_u : N_j < N_u := by omega
         have d_h_u : N_h < N_u := by omega
         have d_z_u : N_z < N_u := by omega
         replace l_l : N_l < V9.heap.size := by omega
         replace l_j : N_j < V9.heap.size := by omega
         replace l_h : N_h < V9.heap.size := by omega
         replace l_z : N_z < V9.heap.size := by omega
         have l_x : N_x < V9.heap.size := by omega
         have l_u : N_u < V9.heap.size := by omega
         have g_x : w.heap.size ≤ N_x := by omega
         have g_u : w.heap.size ≤ N_u := by omega
         have d_x_u : N_x < N_u := by omega
         replace hlow : w.heap.size ≤ V9.heap.size := by omega
         replace HB_f := Lib.hid (below_eq hV9 (((HB_f.out.alloc (hl_f) _).alloc (by simp <;> omega) _)))
         replace hl_f : U4.heap.size ≤ V9.heap.size := by omega
         replace HB_m := Lib.hid (below_eq hV9 (((HB_m.out.alloc (hl_m) _).alloc (by simp <;> omega) _)))
         replace hl_m : U5.heap.size ≤ V9.heap.size := by omega
         clear hV9 hzV9 hN_x hN_u
         refine (HEX.out V9 HBel.out).mono ?_
         rintro e U10 ⟨tt, ii, rfl, hEl, hb9⟩
         have hs9 := hb9.size
         replace HB_f := Lib.hid (HB_f.out.trans (hb9.mono hl_f))
         replace hl_f : U4.heap.size ≤ U10.heap.size := by omega
         replace HB_m := Lib.hid (HB_m.out.trans (hb9.mono hl_m))
         replace hl_m : U5.heap.size ≤ U10.heap.size := by omega
         replace HBel := Lib.hid (HBel.out.trans (hb9.mono hlow))
         replace B_l := Lib.hid ((hb9.block _ l_l).trans B_l.out)
         replace B_j := Lib.hid ((hb9.block _ l_j).trans B_j.out)
         replace B_h := Lib.hid ((hb9.block _ l_h).trans B_h.out)
         replace B_z := Lib.hid ((hb9.block _ l_z).trans B_z.out)
         replace B_x := Lib.hid ((hb9.block _ l_x).trans B_x.out)
         replace B_u := Lib.hid ((hb9.block _ l_u).trans B_u.out)
         replace l_l : N_l < U10.heap.size := by omega
         replace l_j : N_j < U10.heap.size := by omega
         replace l_h : N_h < U10.heap.size := by omega
         replace l_z : N_z < U10.heap.size := by omega
         replace l_x : N_x < U10.heap.size := by omega
         replace l_u : N_u < U10.heap.size := by omega
         replace hlow : w.heap.size ≤ U10.heap.size := by omega
         clear hb9 hs9
         obtain ⟨hi0, htt⟩ := safe_earl HF.out.v (fun y hy => by rw [List.mem_singleton.1 hy]; exact HSS.out.1) HSS.out.2.1 HSS.out.2.2 hEl
         subst hi0
         have HTT := Lib.hid htt
         clear hEl htt
         obtain ⟨l0, l1, l2, l3, l4, l5, l6, l7, l8⟩ := cells9 B_l.out
         obtain ⟨x0, x1, x2, x3, x4, x5⟩ := cells6 B_x.out
         obtain ⟨u0, u1⟩ := cells2 B_u.out
         obtain ⟨j0, j1, j2, j3, j4, j5, j6, j7⟩ := cells8 B_j.out
         obtain ⟨h0, h1, h2, h3, h4⟩ := cells5 B_h.out
         obtain ⟨z0, z1, z2, z3⟩ := cells4 B_z.out
         go_wp2_with fail
         clear l0 l1 l2 l3 l4 l5 l6 l7 l8 x0 x1 x2 x3 x4 x5 u0 u1 j0 j1 j2 j3 j4 j5 j6 j7 h0 h1 h2 h3 h4 z0 z1 z2 z3
         obtain ⟨V11, hV11⟩ : ∃ W, W = U10.alloc (.cells #[.int .i64 s.n, .int .i64 s.d, .int .u64 (s.m : Nat), .int .i64 s.c] 46) := ⟨_, rfl⟩
         rw [← hV11]
         have hzV11 : V11.heap.size = U10.heap.size + 1 := by rw [hV11]; simp
         replace HBel := Lib.hid (below_eq hV11 ((HBel.out.alloc (hlow) _)))
         replace B_l := Lib.hid (blk_eq hV11 (((Below.heap_alloc _ _ _ (by first | omega | (simp <;> omega))).trans B_l.out)))
         replace B_j := Lib.hid (blk_eq hV11 (((Below.heap_alloc _ _ _ (by first | omega | (simp <;> omega))).trans B_j.out)))
         replace B_h := Lib.hid (blk_eq hV11 (((Below.heap_alloc _ _ _ (by first | omega | (simp <;> omega))).trans B_h.out)))
         replace B_z := Lib.hid (blk_eq hV11 (((Below.heap_alloc _ _ _ (by first | omega | (simp <;> omega))).trans B_z.out)))
         replace B_x := Lib.hid (blk_eq hV11 (((Below.heap_alloc _ _ _ (by first | omega | (simp <;> omega))).trans B_x.out)))
         replace B_u := Lib.hid (blk_eq hV11 (((Below.heap_alloc _ _ _ (by first | omega | (simp <;> omega))).trans B_u.out)))
         have B_y := Lib.hid (new10 hV11)
         obtain ⟨N_y, hN_y⟩ : ∃ N, N = U10.heap.size := ⟨_, rfl⟩
         (try rw [← hN_y])
         rw [← hN_y] at B_y
         have d_l_y : N_l < N_y := by omega
         have d_j_y : N_j < N_y := by omega
         have d_h_y : N_h < N_y := by omega
         have d_z_y : N_z < N_y := by omega
         have d_x_y : N_x < N_y := by omega
         have d_u_y : N_u < N_y := by omega
         replace l_l : N_l < V11.heap.size := by omega
         replace l_j : N_j < V11.heap.size := by omega
         replace l_h : N_h < V11.heap.size := by omega
         replace l_z : N_z < V11.heap.size := by omega
         replace l_x : N_x < V11.heap.size := by omega
         replace l_u : N_u < V11.heap.size := by omega
         have l_y : N_y < V11.heap.size := by omega
         have g_y : w.heap.size ≤ N_y := by omega
         replace hlow : w.heap.size ≤ V11.heap.size := by omega
         replace HB_f := Lib.hid (below_eq hV11 ((HB_f.out.alloc (hl_f) _)))
         replace hl_f : U4.heap.size ≤ V11.heap.size := by omega
         replace HB_m := Lib.hid (below_eq hV11 ((HB_m.out.alloc (hl_m) _)))
         replace hl_m : U5.heap.size ≤ V11.heap.size := by omega
         clear hV11 hzV11 hN_y
         refine (HSX.out H.u HV.out.2.2.2.2.2 (some ⟨N_y, 0, none⟩) 1 1 [s] rfl (Nat.le_refl _) (by unfold maxLen; omega) (by omega) (fun y hy => by rw [List.mem_singleton.1 hy]; exact HSS.out.1) V11 HBel.out (fe_blk (cs := [s].flatMap feC) B_y.out (fun _ _ h => h) (blk_lt B_y.out))).mono ?_
         rintro e U12 ⟨T2, E2, rfl, hA2, hb9⟩
         have hs9 := hb9.size
         replace HB_f := Lib.hid (HB_f.out.trans (hb9.mono hl_f))
         replace hl_f : U4.heap.size ≤ U12.heap.size := by omega
         replace HB_m := Lib.hid (HB_m.out.trans (hb9.mono hl_m))
         replace hl_m : U5.heap.size ≤ U12.heap.size := by omega
         replace HBel := Lib.hid (HBel.out.trans (hb9.mono hlow))
         replace B_l := Lib.hid ((hb9.block _ l_l).trans B_l.out)
         replace B_j := Lib.hid ((hb9.block _ l_j).trans B_j.out)
         replace B_h := Lib.hid ((hb9.block _ l_h).trans B_h.out)
         replace B_z := Lib.hid ((hb9.block _ l_z).trans B_z.out)
         replace B_x := Lib.hid ((hb9.block _ l_x).trans B_x.out)
         replace B_u := Lib.hid ((hb9.block _ l_u).trans B_u.out)
         replace B_y := Lib.hid ((hb9.block _ l_y).trans B_y.out)
         replace l_l : N_l < U12.heap.size := by omega
         replace l_j : N_j < U12.heap.size := by omega
         replace l_h : N_h < U12.heap.size := by omega
         replace l_z : N_z < U12.heap.size := by omega
         replace l_x : N_x < U12.heap.size := by omega
         replace l_u : N_u < U12.heap.size := by omega
         replace l_y : N_y < U12.heap.size := by omega
         replace hlow : w.heap.size ≤ U12.heap.size := by omega
         clear hb9 hs9
         obtain ⟨hs1, hs2⟩ := safe_again HSS.out.2.1 HSS.out.2.2 hA2 rfl rfl rfl
         rw [hs1]
         subst hs2
         clear hA2 hs1
         by_cases htp : tt ≤ L.pr
         ·have u4 : decide (tt ≤ L.pr) = true := decide_eq_true htp
          clear htp
          obtain ⟨l0, l1, l2, l3, l4, l5, l6, l7, l8⟩ := cells9 B_l.out
          go_wp2
          clear l0 l1 l2 l3 l4 l5 l6 l7 l8
          go_ret
          exact ⟨by first | rfl | (simp; done), by rw [HB0.out]; exact HBel.out⟩
         ·have u4 : decide (tt ≤ L.pr) = false := decide_eq_false htp
          have u5 : decide (tt ≤ L.now) = true := decide_eq_true (by have := HTT.out; omega)
          clear htp
          obtain ⟨l0, l1, l2, l3, l4, l5, l6, l7, l8⟩ := cells9 B_l.out
          go_wp2
          clear l0 l1 l2 l3 l4 l5 l6 l7 l8
          go_ret
          exact ⟨by first | rfl | (simp; done), by rw [HB0.out]; exact HBel.out⟩
        ·have u2 : (r3 == 0) = false := by simp [hr3]
         clear hr3
         obtain ⟨l0, l1, l2, l3, l4, l5, l6, l7, l8⟩ := cells9 B_l.out
         obtain ⟨j0, j1, j2, j3, j4, j5, j6, j7⟩ := cells8 B_j.out
         obtain ⟨z0, z1, z2, z3⟩ := cells4 B_z.out
         obtain ⟨h0, h1, h2, h3, h4⟩ := cells5 B_h.out
         clear l5
         have l5 := HL5.out
         have l_l_0 : N_l < U8.heap.size + 1 := by omega
         have l_l_1 : N_l < U8.heap.size + 1 + 1 := by omega
         have l_j_0 : N_j < U8.heap.size + 1 := by omega
         have l_j_1 : N_j < U8.heap.size + 1 + 1 := by omega
         have l_z_0 : N_z < U8.heap.size + 1 := by omega
         have l_z_1 : N_z < U8.heap.size + 1 + 1 := by omega
         have l_h_0 : N_h < U8.heap.size + 1 := by omega
         have l_h_1 : N_h < U8.heap.size + 1 + 1 := by omega
         go_wp2_with (refine wpList_load_lu rfl _ rfl b2 (off2 + q * 2) U rfl (HCA.out.keep hb2 (HBel.out.alloc hlow _)) ?_)
         clear l0 l1 l2 l3 l4 l6 l7 l8 j0 j1 j2 j3 j4 j5 j6 j7 z0 z1 z2 z3 h0 h1 h2 h3 h4 l5 l_l_0 l_l_1 l_j_0 l_j_1 l_z_0 l_z_1 l_h_0 l_h_1
         go_ret
         exact ⟨by first | rfl | (simp; done), by rw [HB0.out]; exact (HBel.out.alloc hlow _).alloc (by simp; omega) _⟩
     ·have hr12 := HLe.out.1 hr2
      subst hr12
      have t4 : (r1 != 0) = true := by simp [hr2]
      have t5 : (r1 != r1) = false := by simp
      have HR2 := Lib.hid hr2
      clear hr2
      cases hq : leftL L X.q with
      | none =>
       have h1 := HN1.out hq
       have h3 := HN3.out hq
       have t6 : (r1 != 0) = true := by simp [h1]
       have t7 : (r3 != 0) = true := by simp [h3]
       rcases left_no hq with hlt | hlt
       ·have t8 : decide (X.q < 0) = true := decide_eq_true hlt
        clear h1 h3 hq hlt
        obtain ⟨l0, l1, l2, l3, l4, l5, l6, l7, l8⟩ := cells9 B_l.out
        obtain ⟨j0, j1, j2, j3, j4, j5, j6, j7⟩ := cells8 B_j.out
        go_wp2
        clear l0 l1 l2 l3 l4 l5 l6 l7 l8 j0 j1 j2 j3 j4 j5 j6 j7
        go_ret
        exact ⟨by first | rfl | (simp; done), by rw [HB0.out]; exact HBel.out.alloc hlow _⟩
       ·have t8 : decide (X.q < 0) = false := decide_eq_false (by omega)
        have t9 : decide ((n2 : Int) ≤ X.q) = true := decide_eq_true (by rw [HV.out.1]; exact hlt)
        clear h1 h3 hq hlt
        obtain ⟨l0, l1, l2, l3, l4, l5, l6, l7, l8⟩ := cells9 B_l.out
        obtain ⟨j0, j1, j2, j3, j4, j5, j6, j7⟩ := cells8 B_j.out
        have ll1 : N_l < U8.heap.size + 1 := by omega
        go_wp2
        clear l0 l1 l2 l3 l4 l5 l6 l7 l8 j0 j1 j2 j3 j4 j5 j6 j7 ll1
        go_ret
        exact ⟨by first | rfl | (simp; done), by rw [HB0.out]; exact HBel.out.alloc hlow _⟩
      | some U =>
       obtain ⟨hUm, hq0, hqn⟩ := left_in hq
       obtain ⟨q, hqq⟩ : ∃ q : Nat, X.q = q := ⟨X.q.toNat, by omega⟩
       have hUq : L.lf[q]? = some U := by
        have h9 := hq
        unfold leftL at h9
        rw [if_pos hq0, hqq] at h9
        simpa using h9
       have hqn2 : q < n2 := by have := HV.out.1; omega
       have hSX := hSf.out HF.out X HX.out U hq
       have hEX := hEa.out HF.out X HX.out U hq
       rw [hqq] at hSX hEX ⊢
       have HSX := Lib.hid hSX
       have HEX := Lib.hid hEX
       have HQ := Lib.hid hq
       obtain ⟨b2, off2, hA, hb2, hall⟩ := HV.out.2.2.2.1.at_ hUq
       have HCA := Lib.hid (hall q U hUq)
       have l5 : U8.cell? ⟨N_l, 5, none⟩ = some (.slice (some ⟨b2, off2, none⟩) n2 L.c2) := by rw [← hA]; exact cell_blk (i := 5) B_l.out rfl
       have t8 : decide (q < 0) = false := decide_eq_false (by omega)
       have t9 : decide ((q : Int) < 0) = false := decide_eq_false (by omega)
       have t10 : decide (n2 ≤ q) = false := decide_eq_false (by omega)
       have HL5 := Lib.hid l5
       clear hSX hEX hUm hq0 hqn hqq hUq hall hA hq l5
       have u1 : (r1 == 0) = false := by simp [HR2.out]
       by_cases hr3 : r3 = 0
       ·subst hr3
        obtain ⟨gs1, gs2⟩ := HG.out rfl
        obtain ⟨U9, hU9, TT, EE, hAA, hSS⟩ := LetR.safe gs2 HI.out HX.out
        rw [HQ.out] at hU9
        injection hU9 with hU9
        subst hU9
        have HSS := Lib.hid (And.intro gs1 (And.intro hAA hSS))
        clear gs1 gs2 hAA hSS
        obtain ⟨l0, l1, l2, l3, l4, l5, l6, l7, l8⟩ := cells9 B_l.out
        obtain ⟨j0, j1, j2, j3, j4, j5, j6, j7⟩ := cells8 B_j.out
        obtain ⟨z0, z1, z2, z3⟩ := cells4 B_z.out
        obtain ⟨h0, h1, h2, h3, h4⟩ := cells5 B_h.out
        clear l5
        have l5 := HL5.out
        have l_l_0 : N_l < U8.heap.size + 1 := by omega
        have l_l_1 : N_l < U8.heap.size + 1 + 1 := by omega
        have l_j_0 : N_j < U8.heap.size + 1 := by omega
        have l_j_1 : N_j < U8.heap.size + 1 + 1 := by omega
        have l_z_0 : N_z < U8.heap.size + 1 := by omega
        have l_z_1 : N_z < U8.heap.size + 1 + 1 := by omega
        have l_h_0 : N_h < U8.heap.size + 1 := by omega
        have l_h_1 : N_h < U8.heap.size + 1 + 1 := by omega
        go_wp2_with (refine wpList_load_lu rfl _ rfl b2 (off2 + q * 2) U rfl (HCA.out.keep hb2 (HBel.out.alloc hlow _)) ?_)
        clear l0 l1 l2 l3 l4 l6 l7 l8 j0 j1 j2 j3 j4 j5 j6 j7 z0 z1 z2 z3 h0 h1 h2 h3 h4 l5 l_l_0 l_l_1 l_j_0 l_j_1 l_z_0 l_z_1 l_h_0 l_h_1
        obtain ⟨V9, hV9⟩ : ∃ W, W = (U8.alloc (.cells #[.int .i64 (q : Nat), .int .i64 X.n, .int .i64 X.S.g, .int .i64 X.S.c, .int .i64 X.S.mn, .int .i64 X.S.mx] 50)).alloc (.cells #[.int .i64 U.g, .int .i64 U.c] 55) := ⟨_, rfl⟩
        rw [← hV9]
        have hzV9 : V9.heap.size = U8.heap.size + 1 + 1 := by rw [hV9]; simp
        replace HBel := Lib.hid (below_eq hV9 (((HBel.out.alloc (hlow) _).alloc (by simp <;> omega) _)))
        replace B_l := Lib.hid (blk_eq hV9 (((Below.heap_alloc _ _ _ (by first | omega | (simp <;> omega))).trans ((Below.heap_alloc _ _ _ (by first | omega | (simp <;> omega))).trans B_l.out))))
        replace B_j := Lib.hid (blk_eq hV9 (((Below.heap_alloc _ _ _ (by first | omega | (simp <;> omega))).trans ((Below.heap_alloc _ _ _ (by first | omega | (simp <;> omega))).trans B_j.out))))
        replace B_h := Lib.hid (blk_eq hV9 (((Below.heap_alloc _ _ _ (by first | omega | (simp <;> omega))).trans ((Below.heap_alloc _ _ _ (by first | omega | (simp <;> omega))).trans B_h.out))))
        replace B_z := Lib.hid (blk_eq hV9 (((Below.heap_alloc _ _ _ (by first | omega | (simp <;> omega))).trans ((Below.heap_alloc _ _ _ (by first | omega | (simp <;> omega))).trans B_z.out))))
        have B_x := Lib.hid (new20 hV9)
        have B_u := Lib.hid (new21 hV9)
        obtain ⟨N_x, hN_x⟩ : ∃ N, N = U8.heap.size := ⟨_, rfl⟩
        obtain ⟨N_u, hN_u⟩ : ∃ N, N = U8.heap.size + 1 := ⟨_, rfl⟩
        (try rw [← hN_u])
        rw [← hN_u] at B_u
        (try rw [← hN_x])
        rw [← hN_x] at B_x
        have d_l_x : N_l < N_x := by omega
        have d_j_x : N_j < N_x := by omega
        have d_h_x : N_h < N_x := by omega
        have d_z_x : N_z < N_x := by omega
        have d_l_u : N_l < N_u := by omega
        have d_j_u : N_j < N_u := by omega
        have d_h_u : N_h < N_u := by omega
        have d_z_u : N_z < N_u := by omega
        replace l_l : N_l < V9.heap.size := by omega
        replace l_j : N_j < V9.heap.size := by omega
        replace l_h : N_h < V9.heap.size := by omega
        replace l_z : N_z < V9.heap.size := by omega
        have l_x : N_x < V9.heap.size := by omega
        have l_u : N_u < V9.heap.size := by omega
        have g_x : w.heap.size ≤ N_x := by omega
        have g_u : w.heap.size ≤ N_u := by omega
        have d_x_u : N_x < N_u := by omega
        replace hlow : w.heap.size ≤ V9.heap.size := by omega
        replace HB_f := Lib.hid (below_eq hV9 (((HB_f.out.alloc (hl_f) _).alloc (by simp <;> omega) _)))
        replace hl_f : U4.heap.size ≤ V9.heap.size := by omega
        replace HB_m := Lib.hid (below_eq hV9 (((HB_m.out.alloc (hl_m) _).alloc (by simp <;> omega) _)))
        replace hl_m : U5.heap.size ≤ V9.heap.size := by omega
        clear hV9 hzV9 hN_x hN_u
        refine (HEX.out V9 HBel.out).mono ?_
        rintro e U10 ⟨tt, ii, rfl, hEl, hb9⟩
        have hs9 := hb9.size
        replace HB_f := Lib.hid (HB_f.out.trans (hb9.mono hl_f))
        replace hl_f : U4.heap.size ≤ U10.heap.size := by omega
        replace HB_m := Lib.hid (HB_m.out.trans (hb9.mono hl_m))
        replace hl_m : U5.heap.size ≤ U10.heap.size := by omega
        replace HBel := Lib.hid (HBel.out.trans (hb9.mono hlow))
        replace B_l := Lib.hid ((hb9.block _ l_l).trans B_l.out)
        replace B_j := Lib.hid ((hb9.block _ l_j).trans B_j.out)
        replace B_h := Lib.hid ((hb9.block _ l_h).trans B_h.out)
        replace B_z := Lib.hid ((hb9.block _ l_z).trans B_z.out)
        replace B_x := Lib.hid ((hb9.block _ l_x).trans B_x.out)
        replace B_u := Lib.hid ((hb9.block _ l_u).trans B_u.out)
        replace l_l : N_l < U10.heap.size := by omega
        replace l_j : N_j < U10.heap.size := by omega
        replace l_h : N_h < U10.heap.size := by omega
        replace l_z : N_z < U10.heap.size := by omega
        replace l_x : N_x < U10.heap.size := by omega
        replace l_u : N_u < U10.heap.size := by omega
        replace hlow : w.heap.size ≤ U10.heap.size := by omega
        clear hb9 hs9
        obtain ⟨hi0, htt⟩ := safe_earl HF.out.v (fun y hy => by rw [List.mem_singleton.1 hy]; exact HSS.out.1) HSS.out.2.1 HSS.out.2.2 hEl
        subst hi0
        have HTT := Lib.hid htt
        clear hEl htt
        obtain ⟨l0, l1, l2, l3, l4, l5, l6, l7, l8⟩ := cells9 B_l.out
        obtain ⟨x0, x1, x2, x3, x4, x5⟩ := cells6 B_x.out
        obtain ⟨u0, u1⟩ := cells2 B_u.out
        obtain ⟨j0, j1, j2, j3, j4, j5, j6, j7⟩ := cells8 B_j.out
        obtain ⟨h0, h1, h2, h3, h4⟩ := cells5 B_h.out
        obtain ⟨z0, z1, z2, z3⟩ := cells4 B_z.out
        go_wp2_with fail
        clear l0 l1 l2 l3 l4 l5 l6 l7 l8 x0 x1 x2 x3 x4 x5 u0 u1 j0 j1 j2 j3 j4 j5 j6 j7 h0 h1 h2 h3 h4 z0 z1 z2 z3
        obtain ⟨V11, hV11⟩ : ∃ W, W = U10.alloc (.cells #[.int .i64 s.n, .int .i64 s.d, .int .u64 (s.m : Nat), .int .i64 s.c] 46) := ⟨_, rfl⟩
        rw [← hV11]
        have hzV11 : V11.heap.size = U10.heap.size + 1 := by rw [hV11]; simp
        replace HBel := Lib.hid (below_eq hV11 ((HBel.out.alloc (hlow) _)))
        replace B_l := Lib.hid (blk_eq hV11 (((Below.heap_alloc _ _ _ (by first | omega | (simp <;> omega))).trans B_l.out)))
        replace B_j := Lib.hid (blk_eq hV11 (((Below.heap_alloc _ _ _ (by first | omega | (simp <;> omega))).trans B_j.out)))
        replace B_h := Lib.hid (blk_eq hV11 (((Below.heap_alloc _ _ _ (by first | omega | (simp <;> omega))).trans B_h.out)))
        replace B_z := Lib.hid (blk_eq hV11 (((Below.heap_alloc _ _ _ (by first | omega | (simp <;> omega))).trans B_z.out)))
        replace B_x := Lib.hid (blk_eq hV11 (((Below.heap_alloc _ _ _ (by first | omega | (simp <;> omega))).trans B_x.out)))
        replace B_u := Lib.hid (blk_eq hV11 (((Below.heap_alloc _ _ _ (by first | omega | (simp <;> omega))).trans B_u.out)))
        have B_y := Lib.hid (new10 hV11)
        obtain ⟨N_y, hN_y⟩ : ∃ N, N = U10.heap.size := ⟨_, rfl⟩
        (try rw [← hN_y])
        rw [← hN_y] at B_y
        have d_l_y : N_l < N_y := by omega
        have d_j_y : N_j < N_y := by omega
        have d_h_y : N_h < N_y := by omega
        have d_z_y : N_z < N_y := by omega
        have d_x_y : N_x < N_y := by omega
        have d_u_y : N_u < N_y := by omega
        replace l_l : N_l < V11.heap.size := by omega
        replace l_j : N_j < V11.heap.size := by omega
        replace l_h : N_h < V11.heap.size := by omega
        replace l_z : N_z < V11.heap.size := by omega
        replace l_x : N_x < V11.heap.size := by omega
        replace l_u : N_u < V11.heap.size := by omega
        have l_y : N_y < V11.heap.size := by omega
        have g_y : w.heap.size ≤ N_y := by omega
        replace hlow : w.heap.size ≤ V11.heap.size := by omega
        replace HB_f := Lib.hid (below_eq hV11 ((HB_f.out.alloc (hl_f) _)))
        replace hl_f : U4.heap.size ≤ V11.heap.size := by omega
        replace HB_m := Lib.hid (below_eq hV11 ((HB_m.out.alloc (hl_m) _)))
        replace hl_m : U5.heap.size ≤ V11.heap.size := by omega
        clear hV11 hzV11 hN_y
        refine (HSX.out H.u HV.out.2.2.2.2.2 (some ⟨N_y, 0, none⟩) 1 1 [s] rfl (Nat.le_refl _) (by unfold maxLen; omega) (by omega) (fun y hy => by rw [List.mem_singleton.1 hy]; exact HSS.out.1) V11 HBel.out (fe_blk (cs := [s].flatMap feC) B_y.out (fun _ _ h => h) (blk_lt B_y.out))).mono ?_
        rintro e U12 ⟨T2, E2, rfl, hA2, hb9⟩
        have hs9 := hb9.size
        replace HB_f := Lib.hid (HB_f.out.trans (hb9.mono hl_f))
        replace hl_f : U4.heap.size ≤ U12.heap.size := by omega
        replace HB_m := Lib.hid (HB_m.out.trans (hb9.mono hl_m))
        replace hl_m : U5.heap.size ≤ U12.heap.size := by omega
        replace HBel := Lib.hid (HBel.out.trans (hb9.mono hlow))
        replace B_l := Lib.hid ((hb9.block _ l_l).trans B_l.out)
        replace B_j := Lib.hid ((hb9.block _ l_j).trans B_j.out)
        replace B_h := Lib.hid ((hb9.block _ l_h).trans B_h.out)
        replace B_z := Lib.hid ((hb9.block _ l_z).trans B_z.out)
        replace B_x := Lib.hid ((hb9.block _ l_x).trans B_x.out)
        replace B_u := Lib.hid ((hb9.block _ l_u).trans B_u.out)
        replace B_y := Lib.hid ((hb9.block _ l_y).trans B_y.out)
        replace l_l : N_l < U12.heap.size := by omega
        replace l_j : N_j < U12.heap.size := by omega
        replace l_h : N_h < U12.heap.size := by omega
        replace l_z : N_z < U12.heap.size := by omega
        replace l_x : N_x < U12.heap.size := by omega
        replace l_u : N_u < U12.heap.size := by omega
        replace l_y : N_y < U12.heap.size := by omega
        replace hlow : w.heap.size ≤ U12.heap.size := by omega
        clear hb9 hs9
        obtain ⟨hs1, hs2⟩ := safe_again HSS.out.2.1 HSS.out.2.2 hA2 rfl rfl rfl
        rw [hs1]
        subst hs2
        clear hA2 hs1
        by_cases htp : tt ≤ L.pr
        ·have u4 : decide (tt ≤ L.pr) = true := decide_eq_true htp
         clear htp
         obtain ⟨l0, l1, l2, l3, l4, l5, l6, l7, l8⟩ := cells9 B_l.out
         go_wp2
         clear l0 l1 l2 l3 l4 l5 l6 l7 l8
         go_ret
         exact ⟨by first | rfl | (simp; done), by rw [HB0.out]; exact HBel.out⟩
        ·have u4 : decide (tt ≤ L.pr) = false := decide_eq_false htp
         have u5 : decide (tt ≤ L.now) = true := decide_eq_true (by have := HTT.out; omega)
         clear htp
         obtain ⟨l0, l1, l2, l3, l4, l5, l6, l7, l8⟩ := cells9 B_l.out
         go_wp2
         clear l0 l1 l2 l3 l4 l5 l6 l7 l8
         go_ret
         exact ⟨by first | rfl | (simp; done), by rw [HB0.out]; exact HBel.out⟩
       ·have u2 : (r3 == 0) = false := by simp [hr3]
        clear hr3
        obtain ⟨l0, l1, l2, l3, l4, l5, l6, l7, l8⟩ := cells9 B_l.out
        obtain ⟨j0, j1, j2, j3, j4, j5, j6, j7⟩ := cells8 B_j.out
        obtain ⟨z0, z1, z2, z3⟩ := cells4 B_z.out
        obtain ⟨h0, h1, h2, h3, h4⟩ := cells5 B_h.out
        clear l5
        have l5 := HL5.out
        have l_l_0 : N_l < U8.heap.size + 1 := by omega
        have l_l_1 : N_l < U8.heap.size + 1 + 1 := by omega
        have l_j_0 : N_j < U8.heap.size + 1 := by omega
        have l_j_1 : N_j < U8.heap.size + 1 + 1 := by omega
        have l_z_0 : N_z < U8.heap.size + 1 := by omega
        have l_z_1 : N_z < U8.heap.size + 1 + 1 := by omega
        have l_h_0 : N_h < U8.heap.size + 1 := by omega
        have l_h_1 : N_h < U8.heap.size + 1 + 1 := by omega
        go_wp2_with (refine wpList_load_lu rfl _ rfl b2 (off2 + q * 2) U rfl (HCA.out.keep hb2 (HBel.out.alloc hlow _)) ?_)
        clear l0 l1 l2 l3 l4 l6 l7 l8 j0 j1 j2 j3 j4 j5 j6 j7 z0 z1 z2 z3 h0 h1 h2 h3 h4 l5 l_l_0 l_l_1 l_j_0 l_j_1 l_z_0 l_z_1 l_h_0 l_h_1
        go_ret
        exact ⟨by first | rfl | (simp; done), by rw [HB0.out]; exact (HBel.out.alloc hlow _).alloc (by simp; omega) _⟩

set_option maxRecDepth 100000 in
set_option maxHeartbeats 1000000 in
theorem lifted (os : Os) (started : os.Started) (H : Type) (enc : TypeId × Value → H) :
  ReturnsInHanded {} Tryz.checked os 3 .any (fun w args => (Rows.elasticSafeSpec.pre enc Tryz.prog Tryz.f3 [] false w args ∧ laidMetH Tryz.prog laid1 w) ∧ sizedMet enc Tryz.prog Tryz.f3 (OpenSpec.ofChange Rows.elasticSafeSpec) false w args)
   (Rows.elasticSafeSpec.post enc Tryz.prog Tryz.f3 false true false false) := by
 refine returnsInHanded_of_change_and (C := Tryz.checked) (X := fun w _ => laidMetH Tryz.prog laid1 w) (fun _ _ _ hh h => h.of_heap hh) own started (by kernel_rfl) Tryz.func3
  (ChangeSpec.witness_shaped (enc := enc) (C := Tryz.checked) (os := os) (X := fun w _ => laidMetH Tryz.prog laid1 w) false (World.doorLaid Tryz.prog 400 os) #[.agg #[.int .i64 0, .int .i64 0, .int .i64 0, .int .i64 0, .slice none 0 0, .slice none 0 0, .slice none 0 0, .slice none 0 0, .slice none 0 0], .agg #[.int .i64 0, .int .i64 0, .int .i64 0, .int .i64 0, .int .i64 0, .int .i64 0, .int .i64 0, .int .i64 0], .int .i64 0, .agg #[.int .i64 0, .int .i64 0, .int .i64 0, .bool false, .slice none 0 0]] 8 rfl (World.shaped_of_RefB (by kernel_rfl) (by kernel_rfl)) (by kernel_rfl) (by kernel_rfl) (by kernel_rfl) (door_met os _)) ?_
 intro W base args ds gs before hval0 hW _ _ hL _
 have hval : ∀ (j : Nat) t v, Tryz.f3.params[j]? = some t → args[j]? = some v → Value.okWide Tryz.prog W .any base t v := hval0
 have hW' := hW
 obtain ⟨p, q, hA0, hV, rfl, hfz, hnd⟩ := hW
 have hA : DataW.TrodAll enc Tryz.prog W 0 (fun _ => true) true Tryz.f3.params.toList args.toList ds p := hA0
 rw [Tryz.params3] at hA hval
 obtain ⟨v0, vs0, d0, ds0, p0, q0, hargs, rfl, rfl, h0, r0⟩ := trodAll_cons hA
 obtain ⟨v1, vs1, d1, ds1, p1, q1, rfl, rfl, rfl, h1, r1⟩ := trodAll_cons r0
 obtain ⟨v2, vs2, d2, ds2, p2, q2, rfl, rfl, rfl, h2, r2⟩ := trodAll_cons r1
 obtain ⟨v3, vs3, d3, ds3, p3, q3, rfl, rfl, rfl, h3, r3⟩ := trodAll_cons r2
 obtain ⟨rfl, rfl, rfl⟩ := trodAll_nil r3
 obtain rfl : args = #[v0, v1, v2, v3] := by cases args; simp_all
 obtain ⟨rfl, rfl⟩ := trodVars_none hV
 have k0 := h0
 have lt0 : ∀ x ∈ p0, x.block < W.heap.size := by obtain ⟨m, hm⟩ := k0; exact DataW.trod_lt m _ _ _ hm
 obtain ⟨x0, rfl, v0, q0⟩ := lk_of (hval 0 28 v0 rfl rfl) h0
 have k1 := h1
 have lt1 : ∀ x ∈ p1, x.block < W.heap.size := by obtain ⟨m, hm⟩ := k1; exact DataW.trod_lt m _ _ _ hm
 obtain ⟨x1, rfl, w1⟩ := jb_of (hval 1 32 v1 rfl rfl) h1
 have k2 := h2
 have lt2 : ∀ x ∈ p2, x.block < W.heap.size := by obtain ⟨m, hm⟩ := k2; exact DataW.trod_lt m _ _ _ hm
 obtain ⟨a2, rfl, _, _, w2⟩ := open_int Tryz.underlying3 (hval 2 3 v2 rfl rfl) h2
 have k3 := h3
 have lt3 : ∀ x ∈ p3, x.block < W.heap.size := by obtain ⟨m, hm⟩ := k3; exact DataW.trod_lt m _ _ _ hm
 obtain ⟨x3, rfl, v3, q3⟩ := ho_of (hval 3 35 v3 rfl rfl) h3
 have hT := of_laid hL
 clear hL
 clear hA0 hval0
 refine (walk x0 x1 a2 x3 W v0 q0 w1 w2 v3 q3 hT).mono fun e W' ⟨he, bel⟩ => ?_
 subst he
 exact ⟨_, rfl, _, _, _, [], _, [], hW', trodAll_mk1 (shut_bool Tryz.underlying4 _), (trodAll_cons_mk (Below.trod laidOut (by kernel_rfl) (of_decide_eq_true (by kernel_rfl)) k0 bel lt0) (trodAll_cons_mk (Below.trod laidOut (by kernel_rfl) (of_decide_eq_true (by kernel_rfl)) k1 bel lt1) (trodAll_cons_mk (Below.trod laidOut (by kernel_rfl) (of_decide_eq_true (by kernel_rfl)) k2 bel lt2) (trodAll_cons_mk (Below.trod laidOut (by kernel_rfl) (of_decide_eq_true (by kernel_rfl)) k3 bel lt3) trodAll_mk0)))), rfl, bel.frame _, fun h => by cases h⟩

theorem row_holds : Rows.ElasticSafeSaid :=
 OpenClaim.holds_of_wide 3 Tryz.f3 rfl rfl rfl rfl rfl rfl rfl ⟨rfl, rfl, rfl, rfl, rfl⟩ rfl rfl rfl rfl rfl (by kernel_rfl) Tryz.func3 (by kernel_rfl)
  (of_decide_eq_true (by kernel_rfl)) (by unfold Func.isWrapper; first | (rw [if_pos (by decide +kernel)]; kernel_rfl) | (rw [if_neg (by decide +kernel)]; exact ⟨rfl, rfl⟩))
  (fun os started H enc _ => lifted os started H enc)

theorem card_holds : Rows.ElasticSafeCardSaid :=
 Claim7.holds_tied_plain_at .later [] [.data] true (true, Rows.elasticSafeCard.stood.harness.2) false
  row_holds (fun _ h => by cases h) (by kernel_rfl) (fun _ h => by cases h) elasticSafe_row_tie rfl ⟨rfl, rfl⟩ (by kernel_rfl) rfl
  (fun f fn hf hfn => by
   obtain rfl : f = 3 := Option.some.inj ((show Tryz.prog.funcNamed Rows.elasticSafeRow.func = some 3 by kernel_rfl).symm.trans hf) |>.symm
   obtain rfl : fn = Tryz.f3 := (Option.some.inj (Tryz.func3.symm.trans hfn)).symm
   exact ⟨by kernel_rfl, fun j t ht => by
    rw [Tryz.params3] at ht
    have hm : t ∈ [28, 32, 3, 35] := by simpa using Array.mem_of_getElem? ht
    have hall : ([28, 32, 3, 35].all fun u => !Tryz.prog.wantsStandIn u) = true := by kernel_rfl
    exact (show Tryz.prog.wantsStandIn t = false by simpa using List.all_eq_true.1 hall t hm)⟩)
  (by kernel_rfl)
end Go.Proofs.YtppapmacngdefaaGreatDoor.elasticSafe
