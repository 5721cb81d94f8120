/- Most of the document's layer 14. -/
import Derived.RegionTactic
import Derived.BigRegion
import Derived.Deep.QuietTactic
import Derived.BigQuiet
import Derived.Deep.RegionWith
import Derived.OwnWalk
import Derived.Test.YtmejcmoodbbmoaaGreatDoorWkM
import Derived.Test.YtmejcmoodbbmoaaGreatDoorPackRef
import Derived.Test.YtmejcmoodbbmoaaGreatDoorProRefA
set_option linter.unusedVariables false
set_option maxRecDepth 100000
namespace Go.Proofs.YtmejcmoodbbmoaaGreatDoor
open Go.RowKit
open PR
def FirstR (L : Lk) (j : Jb) (r : Int) : Prop := (j.S.ok = false ∧ r = 1) ∨ (j.S.ok = true ∧ ((leftL L j.q = none ∧ r = 3) ∨ ∃ U, leftL L j.q = some U ∧ r = 0))
set_option maxHeartbeats 8000000 in
theorem rfirst14_any (L : Lk) (j : Jb) (w : World) (hj : JbW j) :
  Calls Tryz.prog 33 #[lkV L, jbV j] w fun e w' => ∃ r, e = .returned (.int .i64 r) ∧ FirstR L j r ∧ Below w.heap.size w w' := by
 obtain ⟨n1, hn1⟩ := nx (L.lv.length)
 obtain ⟨n2, hn2⟩ := nx (L.lf.length)
 obtain ⟨n3, hn3⟩ := nx (L.le.length)
 obtain ⟨n4, hn4⟩ := nx (L.lw.length)
 obtain ⟨n5, hn5⟩ := nx (L.lr.length)
 have hRt := Lib.hid (fun W => show Calls Tryz.prog 42 #[.agg #[.int .i64 j.g, .int .i64 j.c, .int .i64 j.mn, .int .i64 j.mx]] W (fun e w' => e = .returned (.bool j.S.ok) ∧ Below W.heap.size W w') from refright_any j.g j.c j.mn j.mx W hj.S)
 have HV := Lib.hid hn2
 unfold lkV lkA jbV jbA
 rw [← hn1, ← hn2, ← hn3, ← hn4, ← hn5]
 clear hn1 hn2 hn3 hn4 hn5 hj
 obtain ⟨ok, hok⟩ := nx (j.S.ok)
 rw [← hok] at hRt
 have HO := Lib.hid hok
 clear hok
 cases ok
 ·obtain ⟨B0, hB0⟩ := nx (w.heap.size)
  rw [← hB0]
  have HB0 := Lib.hid hB0
  clear hB0
  have HBel := Lib.hid (Below.refl w.heap.size w)
  have hlow : w.heap.size ≤ w.heap.size := Nat.le_refl _
  go_enter Tryz.func33, Tryz.ntmps33
  go_wp2_with fail
  obtain ⟨V1, hV1⟩ := nx ((w.alloc (.cells #[.int .i64 L.now, .int .i64 L.hd, .int .i64 L.pr, .int .i64 L.to, .slice L.A1 n1 L.c1, .slice L.A2 n2 L.c2, .slice L.A3 n3 L.c3, .slice L.A4 n4 L.c4, .slice L.A5 n5 L.c5] 28)).alloc (.cells #[.int .i64 j.id, .int .i64 j.q, .int .i64 j.p, .int .i64 j.r, .int .i64 j.g, .int .i64 j.c, .int .i64 j.mn, .int .i64 j.mx] 38))
  rw [← hV1]
  have hzV1 := sz2 hV1
  replace HBel := be2 hV1 HBel hlow
  have B_l := Lib.hid (new20 hV1)
  have B_j := Lib.hid (new21 hV1)
  obtain ⟨N_l, hN_l⟩ := nx (w.heap.size)
  obtain ⟨N_j, hN_j⟩ := nx (w.heap.size + 1)
  (try rw [← hN_j])
  rw [← hN_j] at B_j
  (try rw [← hN_l])
  rw [← hN_l] at B_l
  have l_l : N_l < V1.heap.size := by omega
  have l_j : N_j < V1.heap.size := by omega
  have g_l : w.heap.size ≤ N_l := by omega
  have g_j : w.heap.size ≤ N_j := by omega
  have d_l_j : N_l < N_j := by omega
  replace hlow : w.heap.size ≤ V1.heap.size := by omega
  clear hV1 hzV1 hN_l hN_j
  obtain ⟨j0, j1, j2, j3, j4, j5, j6, j7⟩ := cells8 B_j.out
  go_wp2_with fail
  refine (hRt.out V1).mono ?_
  rintro e U2 ⟨rfl, hb9⟩
  clear j0 j1 j2 j3 j4 j5 j6 j7
  have hs9 := hb9.size
  replace HBel := bt9 HBel hb9 hlow
  replace B_l := bb9 hb9 B_l l_l
  replace B_j := bb9 hb9 B_j l_j
  replace l_l : N_l < U2.heap.size := by omega
  replace l_j : N_j < U2.heap.size := by omega
  replace hlow : w.heap.size ≤ U2.heap.size := by omega
  clear hb9 hs9
  go_wp2
  go_ret
  exact ⟨1, rfl, .inl ⟨HO.out.symm, rfl⟩, by rw [HB0.out]; exact HBel.out⟩
 ·cases hq : leftL L j.q with
  | none =>
   have HN := Lib.hid hq
   rcases left_no hq with hlt | hlt
   ·have t8 : decide (j.q < 0) = true := decide_eq_true hlt
    clear hq hlt
    obtain ⟨B0, hB0⟩ := nx (w.heap.size)
    rw [← hB0]
    have HB0 := Lib.hid hB0
    clear hB0
    have HBel := Lib.hid (Below.refl w.heap.size w)
    have hlow : w.heap.size ≤ w.heap.size := Nat.le_refl _
    go_enter Tryz.func33, Tryz.ntmps33
    go_wp2_with fail
    obtain ⟨V1, hV1⟩ := nx ((w.alloc (.cells #[.int .i64 L.now, .int .i64 L.hd, .int .i64 L.pr, .int .i64 L.to, .slice L.A1 n1 L.c1, .slice L.A2 n2 L.c2, .slice L.A3 n3 L.c3, .slice L.A4 n4 L.c4, .slice L.A5 n5 L.c5] 28)).alloc (.cells #[.int .i64 j.id, .int .i64 j.q, .int .i64 j.p, .int .i64 j.r, .int .i64 j.g, .int .i64 j.c, .int .i64 j.mn, .int .i64 j.mx] 38))
    rw [← hV1]
    have hzV1 := sz2 hV1
    replace HBel := be2 hV1 HBel hlow
    have B_l := Lib.hid (new20 hV1)
    have B_j := Lib.hid (new21 hV1)
    obtain ⟨N_l, hN_l⟩ := nx (w.heap.size)
    obtain ⟨N_j, hN_j⟩ := nx (w.heap.size + 1)
    (try rw [← hN_j])
    rw [← hN_j] at B_j
    (try rw [← hN_l])
    rw [← hN_l] at B_l
    have l_l : N_l < V1.heap.size := by omega
    have l_j : N_j < V1.heap.size := by omega
    have g_l : w.heap.size ≤ N_l := by omega
    have g_j : w.heap.size ≤ N_j := by omega
    have d_l_j : N_l < N_j := by omega
    replace hlow : w.heap.size ≤ V1.heap.size := by omega
    clear hV1 hzV1 hN_l hN_j
    obtain ⟨j0, j1, j2, j3, j4, j5, j6, j7⟩ := cells8 B_j.out
    go_wp2_with fail
    refine (hRt.out V1).mono ?_
    rintro e U2 ⟨rfl, hb9⟩
    clear j0 j1 j2 j3 j4 j5 j6 j7
    have hs9 := hb9.size
    replace HBel := bt9 HBel hb9 hlow
    replace B_l := bb9 hb9 B_l l_l
    replace B_j := bb9 hb9 B_j l_j
    replace l_l : N_l < U2.heap.size := by omega
    replace l_j : N_j < U2.heap.size := by omega
    replace hlow : w.heap.size ≤ U2.heap.size := by omega
    clear hb9 hs9
    obtain ⟨j0, j1, j2, j3, j4, j5, j6, j7⟩ := cells8 B_j.out
    go_wp2
    go_ret
    exact ⟨3, rfl, .inr ⟨HO.out.symm, .inl ⟨HN.out, rfl⟩⟩, by rw [HB0.out]; exact HBel.out⟩
   ·have t9 : decide ((n2 : Int) ≤ j.q) = true := decide_eq_true (by rw [HV.out]; exact hlt)
    have t8 : decide (j.q < 0) = false := decide_eq_false (by omega)
    clear hq hlt
    obtain ⟨B0, hB0⟩ := nx (w.heap.size)
    rw [← hB0]
    have HB0 := Lib.hid hB0
    clear hB0
    have HBel := Lib.hid (Below.refl w.heap.size w)
    have hlow : w.heap.size ≤ w.heap.size := Nat.le_refl _
    go_enter Tryz.func33, Tryz.ntmps33
    go_wp2_with fail
    obtain ⟨V1, hV1⟩ := nx ((w.alloc (.cells #[.int .i64 L.now, .int .i64 L.hd, .int .i64 L.pr, .int .i64 L.to, .slice L.A1 n1 L.c1, .slice L.A2 n2 L.c2, .slice L.A3 n3 L.c3, .slice L.A4 n4 L.c4, .slice L.A5 n5 L.c5] 28)).alloc (.cells #[.int .i64 j.id, .int .i64 j.q, .int .i64 j.p, .int .i64 j.r, .int .i64 j.g, .int .i64 j.c, .int .i64 j.mn, .int .i64 j.mx] 38))
    rw [← hV1]
    have hzV1 := sz2 hV1
    replace HBel := be2 hV1 HBel hlow
    have B_l := Lib.hid (new20 hV1)
    have B_j := Lib.hid (new21 hV1)
    obtain ⟨N_l, hN_l⟩ := nx (w.heap.size)
    obtain ⟨N_j, hN_j⟩ := nx (w.heap.size + 1)
    (try rw [← hN_j])
    rw [← hN_j] at B_j
    (try rw [← hN_l])
    rw [← hN_l] at B_l
    have l_l : N_l < V1.heap.size := by omega
    have l_j : N_j < V1.heap.size := by omega
    have g_l : w.heap.size ≤ N_l := by omega
    have g_j : w.heap.size ≤ N_j := by omega
    have d_l_j : N_l < N_j := by omega
    replace hlow : w.heap.size ≤ V1.heap.size := by omega
    clear hV1 hzV1 hN_l hN_j
    obtain ⟨j0, j1, j2, j3, j4, j5, j6, j7⟩ := cells8 B_j.out
    go_wp2_with fail
    refine (hRt.out V1).mono ?_
    rintro e U2 ⟨rfl, hb9⟩
    clear j0 j1 j2 j3 j4 j5 j6 j7
    have hs9 := hb9.size
    replace HBel := bt9 HBel hb9 hlow
    replace B_l := bb9 hb9 B_l l_l
    replace B_j := bb9 hb9 B_j l_j
    replace l_l : N_l < U2.heap.size := by omega
    replace l_j : N_j < U2.heap.size := by omega
    replace hlow : w.heap.size ≤ U2.heap.size := by omega
    clear hb9 hs9
    obtain ⟨l0, l1, l2, l3, l4, l5, l6, l7, l8⟩ := cells9 B_l.out
    obtain ⟨j0, j1, j2, j3, j4, j5, j6, j7⟩ := cells8 B_j.out
    go_wp2
    go_ret
    exact ⟨3, rfl, .inr ⟨HO.out.symm, .inl ⟨HN.out, rfl⟩⟩, by rw [HB0.out]; exact HBel.out⟩
  | some U =>
   have HU := Lib.hid hq
   have t8 : decide (j.q < 0) = false := decide_eq_false (by have := (left_in hq).2.1; omega)
   have t9 : decide ((n2 : Int) ≤ j.q) = false := decide_eq_false (by have := (left_in hq).2.2; rw [HV.out]; omega)
   clear hq
   obtain ⟨B0, hB0⟩ := nx (w.heap.size)
   rw [← hB0]
   have HB0 := Lib.hid hB0
   clear hB0
   have HBel := Lib.hid (Below.refl w.heap.size w)
   have hlow : w.heap.size ≤ w.heap.size := Nat.le_refl _
   go_enter Tryz.func33, Tryz.ntmps33
   go_wp2_with fail
   obtain ⟨V1, hV1⟩ := nx ((w.alloc (.cells #[.int .i64 L.now, .int .i64 L.hd, .int .i64 L.pr, .int .i64 L.to, .slice L.A1 n1 L.c1, .slice L.A2 n2 L.c2, .slice L.A3 n3 L.c3, .slice L.A4 n4 L.c4, .slice L.A5 n5 L.c5] 28)).alloc (.cells #[.int .i64 j.id, .int .i64 j.q, .int .i64 j.p, .int .i64 j.r, .int .i64 j.g, .int .i64 j.c, .int .i64 j.mn, .int .i64 j.mx] 38))
   rw [← hV1]
   have hzV1 := sz2 hV1
   replace HBel := be2 hV1 HBel hlow
   have B_l := Lib.hid (new20 hV1)
   have B_j := Lib.hid (new21 hV1)
   obtain ⟨N_l, hN_l⟩ := nx (w.heap.size)
   obtain ⟨N_j, hN_j⟩ := nx (w.heap.size + 1)
   (try rw [← hN_j])
   rw [← hN_j] at B_j
   (try rw [← hN_l])
   rw [← hN_l] at B_l
   have l_l : N_l < V1.heap.size := by omega
   have l_j : N_j < V1.heap.size := by omega
   have g_l : w.heap.size ≤ N_l := by omega
   have g_j : w.heap.size ≤ N_j := by omega
   have d_l_j : N_l < N_j := by omega
   replace hlow : w.heap.size ≤ V1.heap.size := by omega
   clear hV1 hzV1 hN_l hN_j
   obtain ⟨j0, j1, j2, j3, j4, j5, j6, j7⟩ := cells8 B_j.out
   go_wp2_with fail
   refine (hRt.out V1).mono ?_
   rintro e U2 ⟨rfl, hb9⟩
   clear j0 j1 j2 j3 j4 j5 j6 j7
   have hs9 := hb9.size
   replace HBel := bt9 HBel hb9 hlow
   replace B_l := bb9 hb9 B_l l_l
   replace B_j := bb9 hb9 B_j l_j
   replace l_l : N_l < U2.heap.size := by omega
   replace l_j : N_j < U2.heap.size := by omega
   replace hlow : w.heap.size ≤ U2.heap.size := by omega
   clear hb9 hs9
   obtain ⟨l0, l1, l2, l3, l4, l5, l6, l7, l8⟩ := cells9 B_l.out
   obtain ⟨j0, j1, j2, j3, j4, j5, j6, j7⟩ := cells8 B_j.out
   go_wp2
   go_ret
   exact ⟨0, rfl, .inr ⟨HO.out.symm, .inr ⟨U, HU.out, rfl⟩⟩, by rw [HB0.out]; exact HBel.out⟩
def enB (j : Jb) (U : Lu) (n : Nat) : Bool := decide (j.S.g * n ≤ U.g) && decide (j.S.c * n ≤ U.c)
set_option maxHeartbeats 8000000 in
theorem renough14_any (L : Lk) (j : Jb) (U : Lu) (n : Nat) (w : World) (h : LkIn w w.heap.size L) (hok : j.S.ok = true) (hU : leftL L j.q = some U) (h1 : 1 ≤ n) (h16 : n ≤ 16) :
  Calls Tryz.prog 34 #[lkV L, jbV j, .int .i64 (n : Nat)] w fun e w' => e = .returned (.bool (enB j U n)) ∧ Below w.heap.size w w' := by
 obtain ⟨n1, hn1⟩ := nx (L.lv.length)
 obtain ⟨n2, hn2⟩ := nx (L.lf.length)
 obtain ⟨n3, hn3⟩ := nx (L.le.length)
 obtain ⟨n4, hn4⟩ := nx (L.lw.length)
 obtain ⟨n5, hn5⟩ := nx (L.lr.length)
 have hUn := Lib.hid (fun W => show Calls Tryz.prog 28 #[.agg #[.int .i64 j.g, .int .i64 j.c, .int .i64 j.mn, .int .i64 j.mx], .int .i64 (n : Nat)] W (fun e w' => e = .returned (.agg #[.int .i64 (j.S.g * n), .int .i64 (j.S.c * n)]) ∧ Below W.heap.size W w') from by
  have hX : (⟨0, (n : Int), j.S⟩ : Wa).ok = true := by unfold Wa.ok; simp only [hok, Bool.true_and, decide_eq_true_eq]; omega
  have h9 := refunits_want ⟨0, (n : Int), j.S⟩ W hX
  unfold Wa.g Wa.c at h9
  rw [hX] at h9
  exact h9)
 obtain ⟨hUm, hq0, hqn⟩ := left_in hU
 obtain ⟨q, hqq⟩ : ∃ q : Nat, j.q = q := ⟨j.q.toNat, by omega⟩
 have hUq : L.lf[q]? = some U := by
  have h9 := hU
  unfold leftL at h9
  rw [if_pos hq0, hqq] at h9
  simpa using h9
 have hqn2 : q < n2 := by omega
 obtain ⟨b2, off2, hA, hb2, hall⟩ := h.f.at_ hUq
 have HCA := Lib.hid (And.intro (hall q U hUq) hb2)
 have HA2 := Lib.hid hA
 have t8 : decide (q < 0) = false := decide_eq_false (by omega)
 have t11 : decide (q < n2) = true := decide_eq_true hqn2
 unfold enB
 obtain ⟨G, hG⟩ := nx (j.S.g * n)
 obtain ⟨C, hC⟩ := nx (j.S.c * n)
 rw [← hG, ← hC] at hUn ⊢
 unfold lkV lkA jbV jbA
 rw [← hn1, ← hn2, ← hn3, ← hn4, ← hn5]
 rw [hqq]
 clear hn1 hn2 hn3 hn4 hn5 h hok hU h1 h16 hUm hq0 hqn hqq hUq hA hb2 hall hG hC
 by_cases e1 : G ≤ U.g
 ·have t1 : decide (G ≤ U.g) = true := decide_eq_true e1
  rw [t1]
  clear e1
  obtain ⟨B0, hB0⟩ := nx (w.heap.size)
  rw [← hB0]
  have HB0 := Lib.hid hB0
  clear hB0
  have HBel := Lib.hid (Below.refl w.heap.size w)
  have hlow : w.heap.size ≤ w.heap.size := Nat.le_refl _
  go_enter Tryz.func34, Tryz.ntmps34
  go_wp2_with fail
  obtain ⟨V1, hV1⟩ := nx ((w.alloc (.cells #[.int .i64 L.now, .int .i64 L.hd, .int .i64 L.pr, .int .i64 L.to, .slice L.A1 n1 L.c1, .slice L.A2 n2 L.c2, .slice L.A3 n3 L.c3, .slice L.A4 n4 L.c4, .slice L.A5 n5 L.c5] 28)).alloc (.cells #[.int .i64 j.id, .int .i64 (q : Nat), .int .i64 j.p, .int .i64 j.r, .int .i64 j.g, .int .i64 j.c, .int .i64 j.mn, .int .i64 j.mx] 38))
  rw [← hV1]
  have hzV1 := sz2 hV1
  replace HBel := be2 hV1 HBel hlow
  have B_l := Lib.hid (new20 hV1)
  have B_j := Lib.hid (new21 hV1)
  obtain ⟨N_l, hN_l⟩ := nx (w.heap.size)
  obtain ⟨N_j, hN_j⟩ := nx (w.heap.size + 1)
  (try rw [← hN_j])
  rw [← hN_j] at B_j
  (try rw [← hN_l])
  rw [← hN_l] at B_l
  have l_l : N_l < V1.heap.size := by omega
  have l_j : N_j < V1.heap.size := by omega
  have g_l : w.heap.size ≤ N_l := by omega
  have g_j : w.heap.size ≤ N_j := by omega
  have d_l_j : N_l < N_j := by omega
  replace hlow : w.heap.size ≤ V1.heap.size := by omega
  clear hV1 hzV1 hN_l hN_j
  obtain ⟨j0, j1, j2, j3, j4, j5, j6, j7⟩ := cells8 B_j.out
  go_wp2_with fail
  refine (hUn.out V1).mono ?_
  rintro e U2 ⟨rfl, hb9⟩
  clear j0 j1 j2 j3 j4 j5 j6 j7
  have hs9 := hb9.size
  replace HBel := bt9 HBel hb9 hlow
  replace B_l := bb9 hb9 B_l l_l
  replace B_j := bb9 hb9 B_j l_j
  replace l_l : N_l < U2.heap.size := by omega
  replace l_j : N_j < U2.heap.size := by omega
  replace hlow : w.heap.size ≤ U2.heap.size := by omega
  clear hb9 hs9
  go_wp2_with fail
  obtain ⟨V3, hV3⟩ := nx (U2.alloc (.cells #[.int .i64 G, .int .i64 C] 42))
  rw [← hV3]
  have hzV3 := sz1 hV3
  replace HBel := be1 hV3 HBel hlow
  replace B_l := bk1 hV3 B_l l_l
  replace B_j := bk1 hV3 B_j l_j
  have B_u := Lib.hid (new10 hV3)
  obtain ⟨N_u, hN_u⟩ := nx (U2.heap.size)
  (try rw [← hN_u])
  rw [← hN_u] at B_u
  have d_l_u : N_l < N_u := by omega
  have d_j_u : N_j < N_u := by omega
  replace l_l : N_l < V3.heap.size := by omega
  replace l_j : N_j < V3.heap.size := by omega
  have l_u : N_u < V3.heap.size := by omega
  have g_u : w.heap.size ≤ N_u := by omega
  replace hlow : w.heap.size ≤ V3.heap.size := by omega
  clear hV3 hzV3 hN_u
  have hb2W : b2 < V3.heap.size := by have := HCA.out.2; omega
  have l5 : V3.cell? ⟨N_l, 5, none⟩ = some (.slice (some ⟨b2, off2, none⟩) n2 L.c2) := by rw [← HA2.out]; exact cell_blk (i := 5) B_l.out rfl
  have y0 : V3.cell? ⟨b2, off2 + q * 2, none⟩ = some (.int .i64 U.g) := (HCA.out.1.keep HCA.out.2 HBel.out) 0 _ rfl
  have y1 : V3.cell? ⟨b2, off2 + q * 2 + 1, none⟩ = some (.int .i64 U.c) := (HCA.out.1.keep HCA.out.2 HBel.out) 1 _ rfl
  obtain ⟨j0, j1, j2, j3, j4, j5, j6, j7⟩ := cells8 B_j.out
  obtain ⟨u0, u1⟩ := cells2 B_u.out
  refine held_begin (fun w' : World => w'.cell? ⟨N_l, 5, none⟩ = some (.slice (some ⟨b2, off2, none⟩) n2 L.c2) ∧ w'.cell? ⟨N_j, 1, none⟩ = some (.int .i64 (q : Nat)) ∧ w'.cell? ⟨N_u, 0, none⟩ = some (.int .i64 G) ∧ w'.cell? ⟨N_u, 1, none⟩ = some (.int .i64 C) ∧ w'.cell? ⟨b2, off2 + q * 2, none⟩ = some (.int .i64 U.g) ∧ w'.cell? ⟨b2, off2 + q * 2 + 1, none⟩ = some (.int .i64 U.c)) (by kernel_rfl) ?_
  have hBh0 : Below V3.heap.size V3 V3.drew := (Below.refl _ _).drew
  have hSh0 := And.intro l5 (And.intro j1 (And.intro u0 (And.intro u1 (And.intro y0 y1))))
  refine tkH ?_ 0 12 ?_ hSh0 ?_;rotate_left
  ·rintro w' ⟨x0, x1, x2, x3, x4, x5⟩;go_simp;(try with_reducible rfl)
  simp only [Act.put, pzA, pzB, pzC]
  refine tkH ?_ 1 13 ?_ hSh0 ?_;rotate_left
  ·rintro w' ⟨x0, x1, x2, x3, x4, x5⟩;go_simp;(try with_reducible rfl)
  simp only [Act.put, pzA, pzB, pzC]
  refine tkH ?_ 2 14 ?_ hSh0 ?_;rotate_left
  ·rintro w' ⟨x0, x1, x2, x3, x4, x5⟩;go_simp;(try with_reducible rfl)
  simp only [Act.put, pzA, pzB, pzC]
  refine tkH ?_ 3 15 ?_ hSh0 ?_;rotate_left
  ·rintro w' ⟨x0, x1, x2, x3, x4, x5⟩;go_simp;(try with_reducible rfl)
  simp only [Act.put, pzA, pzB, pzC]
  refine tkH ?_ 4 16 ?_ hSh0 ?_;rotate_left
  ·rintro w' ⟨x0, x1, x2, x3, x4, x5⟩;go_simp;(try with_reducible rfl)
  simp only [Act.put, pzA, pzB, pzC]
  refine tkH ?_ 5 17 ?_ hSh0 ?_;rotate_left
  ·rintro w' ⟨x0, x1, x2, x3, x4, x5⟩;go_simp;(try with_reducible rfl)
  simp only [Act.put, pzA, pzB, pzC]
  refine tkH ?_ 6 18 ?_ hSh0 ?_;rotate_left
  ·rintro w' ⟨x0, x1, x2, x3, x4, x5⟩;go_simp;(try with_reducible rfl)
  simp only [Act.put, pzA, pzB, pzC]
  refine tkH ?_ 7 19 ?_ hSh0 ?_;rotate_left
  ·rintro w' ⟨x0, x1, x2, x3, x4, x5⟩;go_simp;(try with_reducible rfl)
  simp only [Act.put, pzA, pzB, pzC]
  refine tkH ?_ 8 20 ?_ hSh0 ?_;rotate_left
  ·rintro w' ⟨x0, x1, x2, x3, x4, x5⟩;go_simp;(try with_reducible rfl)
  simp only [Act.put, pzA, pzB, pzC]
  refine tkH ?_ 9 21 ?_ hSh0 ?_;rotate_left
  ·rintro w' ⟨x0, x1, x2, x3, x4, x5⟩;go_simp;(try with_reducible rfl)
  simp only [Act.put, pzA, pzB, pzC]
  refine tkH ?_ 10 22 ?_ hSh0 ?_;rotate_left
  ·rintro w' ⟨x0, x1, x2, x3, x4, x5⟩;go_simp;(try with_reducible rfl)
  simp only [Act.put, pzA, pzB, pzC]
  refine tkH ?_ 11 23 ?_ hSh0 ?_;rotate_left
  ·rintro w' ⟨x0, x1, x2, x3, x4, x5⟩;go_simp;(try with_reducible rfl)
  simp only [Act.put, pzA, pzB, pzC]
  refine tkH ?_ 12 24 ?_ hSh0 ?_;rotate_left
  ·rintro w' ⟨x0, x1, x2, x3, x4, x5⟩;go_simp;(try with_reducible rfl)
  simp only [Act.put, pzA, pzB, pzC]
  refine tkH ?_ 13 25 ?_ hSh0 ?_;rotate_left
  ·rintro w' ⟨x0, x1, x2, x3, x4, x5⟩;go_simp;(try with_reducible rfl)
  simp only [Act.put, pzA, pzB, pzC]
  refine tkH ?_ 14 26 ?_ hSh0 ?_;rotate_left
  ·rintro w' ⟨x0, x1, x2, x3, x4, x5⟩;go_simp;(try with_reducible rfl)
  simp only [Act.put, pzA, pzB, pzC]
  refine tkH ?_ 15 27 ?_ hSh0 ?_;rotate_left
  ·rintro w' ⟨x0, x1, x2, x3, x4, x5⟩;go_simp;(try with_reducible rfl)
  simp only [Act.put, pzA, pzB, pzC]
  refine tkH ?_ 16 28 ?_ hSh0 ?_;rotate_left
  ·rintro w' ⟨x0, x1, x2, x3, x4, x5⟩;go_simp;(try with_reducible rfl)
  simp only [Act.put, pzA, pzB, pzC]
  refine tkH ?_ 17 29 ?_ hSh0 ?_;rotate_left
  ·rintro w' ⟨x0, x1, x2, x3, x4, x5⟩;go_simp;(try with_reducible rfl)
  simp only [Act.put, pzA, pzB, pzC]
  refine tkH ?_ 18 30 ?_ hSh0 ?_;rotate_left
  ·rintro w' ⟨x0, x1, x2, x3, x4, x5⟩;go_simp;(try with_reducible rfl)
  simp only [Act.put, pzA, pzB, pzC]
  refine tkH ?_ 19 31 ?_ hSh0 ?_;rotate_left
  ·rintro w' ⟨x0, x1, x2, x3, x4, x5⟩;go_simp;(try with_reducible rfl)
  simp only [Act.put, pzA, pzB, pzC]
  refine tkH ?_ 20 32 ?_ hSh0 ?_;rotate_left
  ·rintro w' ⟨x0, x1, x2, x3, x4, x5⟩;go_simp;(try with_reducible rfl)
  simp only [Act.put, pzA, pzB, pzC]
  refine tkH ?_ 21 33 ?_ hSh0 ?_;rotate_left
  ·rintro w' ⟨x0, x1, x2, x3, x4, x5⟩;go_simp;(try with_reducible rfl)
  simp only [Act.put, pzA, pzB, pzC]
  refine tkH ?_ 22 6 ?_ hSh0 ?_;rotate_left
  ·rintro w' ⟨x0, x1, x2, x3, x4, x5⟩;go_simp;(try with_reducible rfl)
  simp only [Act.put, pzA, pzB, pzC]
  refine wpAnyH_done (by kernel_rfl) ?_ _
  obtain ⟨D4, hD9⟩ : ∃ D, D = V3.drew := ⟨_, rfl⟩
  have hb9 : Below V3.heap.size V3 D4 := by rw [hD9]; exact hBh0
  rw [← hD9]
  clear hD9
  have hs9 := hb9.size
  replace HBel := bt9 HBel hb9 hlow
  replace B_l := bb9 hb9 B_l l_l
  replace B_j := bb9 hb9 B_j l_j
  replace B_u := bb9 hb9 B_u l_u
  replace l_l : N_l < D4.heap.size := by omega
  replace l_j : N_j < D4.heap.size := by omega
  replace l_u : N_u < D4.heap.size := by omega
  replace hlow : w.heap.size ≤ D4.heap.size := by omega
  clear hb9 hs9 hSh0 hBh0 l5 y0 y1 hb2W j0 j1 j2 j3 j4 j5 j6 j7 u0 u1
  go_wp2
  go_ret
  exact ⟨by first | rfl | (simp; done), by rw [HB0.out]; exact HBel.out⟩
 ·have t1 : decide (G ≤ U.g) = false := decide_eq_false e1
  rw [t1]
  clear e1
  obtain ⟨B0, hB0⟩ := nx (w.heap.size)
  rw [← hB0]
  have HB0 := Lib.hid hB0
  clear hB0
  have HBel := Lib.hid (Below.refl w.heap.size w)
  have hlow : w.heap.size ≤ w.heap.size := Nat.le_refl _
  go_enter Tryz.func34, Tryz.ntmps34
  go_wp2_with fail
  obtain ⟨V1, hV1⟩ := nx ((w.alloc (.cells #[.int .i64 L.now, .int .i64 L.hd, .int .i64 L.pr, .int .i64 L.to, .slice L.A1 n1 L.c1, .slice L.A2 n2 L.c2, .slice L.A3 n3 L.c3, .slice L.A4 n4 L.c4, .slice L.A5 n5 L.c5] 28)).alloc (.cells #[.int .i64 j.id, .int .i64 (q : Nat), .int .i64 j.p, .int .i64 j.r, .int .i64 j.g, .int .i64 j.c, .int .i64 j.mn, .int .i64 j.mx] 38))
  rw [← hV1]
  have hzV1 := sz2 hV1
  replace HBel := be2 hV1 HBel hlow
  have B_l := Lib.hid (new20 hV1)
  have B_j := Lib.hid (new21 hV1)
  obtain ⟨N_l, hN_l⟩ := nx (w.heap.size)
  obtain ⟨N_j, hN_j⟩ := nx (w.heap.size + 1)
  (try rw [← hN_j])
  rw [← hN_j] at B_j
  (try rw [← hN_l])
  rw [← hN_l] at B_l
  have l_l : N_l < V1.heap.size := by omega
  have l_j : N_j < V1.heap.size := by omega
  have g_l : w.heap.size ≤ N_l := by omega
  have g_j : w.heap.size ≤ N_j := by omega
  have d_l_j : N_l < N_j := by omega
  replace hlow : w.heap.size ≤ V1.heap.size := by omega
  clear hV1 hzV1 hN_l hN_j
  obtain ⟨j0, j1, j2, j3, j4, j5, j6, j7⟩ := cells8 B_j.out
  go_wp2_with fail
  refine (hUn.out V1).mono ?_
  rintro e U2 ⟨rfl, hb9⟩
  clear j0 j1 j2 j3 j4 j5 j6 j7
  have hs9 := hb9.size
  replace HBel := bt9 HBel hb9 hlow
  replace B_l := bb9 hb9 B_l l_l
  replace B_j := bb9 hb9 B_j l_j
  replace l_l : N_l < U2.heap.size := by omega
  replace l_j : N_j < U2.heap.size := by omega
  replace hlow : w.heap.size ≤ U2.heap.size := by omega
  clear hb9 hs9
  go_wp2_with fail
  obtain ⟨V3, hV3⟩ := nx (U2.alloc (.cells #[.int .i64 G, .int .i64 C] 42))
  rw [← hV3]
  have hzV3 := sz1 hV3
  replace HBel := be1 hV3 HBel hlow
  replace B_l := bk1 hV3 B_l l_l
  replace B_j := bk1 hV3 B_j l_j
  have B_u := Lib.hid (new10 hV3)
  obtain ⟨N_u, hN_u⟩ := nx (U2.heap.size)
  (try rw [← hN_u])
  rw [← hN_u] at B_u
  have d_l_u : N_l < N_u := by omega
  have d_j_u : N_j < N_u := by omega
  replace l_l : N_l < V3.heap.size := by omega
  replace l_j : N_j < V3.heap.size := by omega
  have l_u : N_u < V3.heap.size := by omega
  have g_u : w.heap.size ≤ N_u := by omega
  replace hlow : w.heap.size ≤ V3.heap.size := by omega
  clear hV3 hzV3 hN_u
  have hb2W : b2 < V3.heap.size := by have := HCA.out.2; omega
  have l5 : V3.cell? ⟨N_l, 5, none⟩ = some (.slice (some ⟨b2, off2, none⟩) n2 L.c2) := by rw [← HA2.out]; exact cell_blk (i := 5) B_l.out rfl
  have y0 : V3.cell? ⟨b2, off2 + q * 2, none⟩ = some (.int .i64 U.g) := (HCA.out.1.keep HCA.out.2 HBel.out) 0 _ rfl
  have y1 : V3.cell? ⟨b2, off2 + q * 2 + 1, none⟩ = some (.int .i64 U.c) := (HCA.out.1.keep HCA.out.2 HBel.out) 1 _ rfl
  obtain ⟨j0, j1, j2, j3, j4, j5, j6, j7⟩ := cells8 B_j.out
  obtain ⟨u0, u1⟩ := cells2 B_u.out
  refine held_begin (fun w' : World => w'.cell? ⟨N_l, 5, none⟩ = some (.slice (some ⟨b2, off2, none⟩) n2 L.c2) ∧ w'.cell? ⟨N_j, 1, none⟩ = some (.int .i64 (q : Nat)) ∧ w'.cell? ⟨N_u, 0, none⟩ = some (.int .i64 G) ∧ w'.cell? ⟨N_u, 1, none⟩ = some (.int .i64 C) ∧ w'.cell? ⟨b2, off2 + q * 2, none⟩ = some (.int .i64 U.g) ∧ w'.cell? ⟨b2, off2 + q * 2 + 1, none⟩ = some (.int .i64 U.c)) (by kernel_rfl) ?_
  have hBh0 : Below V3.heap.size V3 V3.drew := (Below.refl _ _).drew
  have hSh0 := And.intro l5 (And.intro j1 (And.intro u0 (And.intro u1 (And.intro y0 y1))))
  refine tkH ?_ 0 12 ?_ hSh0 ?_;rotate_left
  ·rintro w' ⟨x0, x1, x2, x3, x4, x5⟩;go_simp;(try with_reducible rfl)
  simp only [Act.put, pzA, pzB, pzC]
  refine tkH ?_ 1 13 ?_ hSh0 ?_;rotate_left
  ·rintro w' ⟨x0, x1, x2, x3, x4, x5⟩;go_simp;(try with_reducible rfl)
  simp only [Act.put, pzA, pzB, pzC]
  refine tkH ?_ 2 14 ?_ hSh0 ?_;rotate_left
  ·rintro w' ⟨x0, x1, x2, x3, x4, x5⟩;go_simp;(try with_reducible rfl)
  simp only [Act.put, pzA, pzB, pzC]
  refine tkH ?_ 3 15 ?_ hSh0 ?_;rotate_left
  ·rintro w' ⟨x0, x1, x2, x3, x4, x5⟩;go_simp;(try with_reducible rfl)
  simp only [Act.put, pzA, pzB, pzC]
  refine tkH ?_ 4 16 ?_ hSh0 ?_;rotate_left
  ·rintro w' ⟨x0, x1, x2, x3, x4, x5⟩;go_simp;(try with_reducible rfl)
  simp only [Act.put, pzA, pzB, pzC]
  refine tkH ?_ 5 17 ?_ hSh0 ?_;rotate_left
  ·rintro w' ⟨x0, x1, x2, x3, x4, x5⟩;go_simp;(try with_reducible rfl)
  simp only [Act.put, pzA, pzB, pzC]
  refine tkH ?_ 6 18 ?_ hSh0 ?_;rotate_left
  ·rintro w' ⟨x0, x1, x2, x3, x4, x5⟩;go_simp;(try with_reducible rfl)
  simp only [Act.put, pzA, pzB, pzC]
  refine tkH ?_ 7 19 ?_ hSh0 ?_;rotate_left
  ·rintro w' ⟨x0, x1, x2, x3, x4, x5⟩;go_simp;(try with_reducible rfl)
  simp only [Act.put, pzA, pzB, pzC]
  refine tkH ?_ 8 20 ?_ hSh0 ?_;rotate_left
  ·rintro w' ⟨x0, x1, x2, x3, x4, x5⟩;go_simp;(try with_reducible rfl)
  simp only [Act.put, pzA, pzB, pzC]
  refine tkH ?_ 9 21 ?_ hSh0 ?_;rotate_left
  ·rintro w' ⟨x0, x1, x2, x3, x4, x5⟩;go_simp;(try with_reducible rfl)
  simp only [Act.put, pzA, pzB, pzC]
  refine tkH ?_ 10 22 ?_ hSh0 ?_;rotate_left
  ·rintro w' ⟨x0, x1, x2, x3, x4, x5⟩;go_simp;(try with_reducible rfl)
  simp only [Act.put, pzA, pzB, pzC]
  refine held_skipK 11 23 rfl rfl (by rfl) hSh0 ?_
  simp only [Act.put, pzA, pzB, pzC]
  refine held_skipK 12 24 rfl rfl (by rfl) hSh0 ?_
  simp only [Act.put, pzA, pzB, pzC]
  refine held_skipK 13 25 rfl rfl (by rfl) hSh0 ?_
  simp only [Act.put, pzA, pzB, pzC]
  refine held_skipK 14 26 rfl rfl (by rfl) hSh0 ?_
  simp only [Act.put, pzA, pzB, pzC]
  refine held_skipK 15 27 rfl rfl (by rfl) hSh0 ?_
  simp only [Act.put, pzA, pzB, pzC]
  refine held_skipK 16 28 rfl rfl (by rfl) hSh0 ?_
  simp only [Act.put, pzA, pzB, pzC]
  refine held_skipK 17 29 rfl rfl (by rfl) hSh0 ?_
  simp only [Act.put, pzA, pzB, pzC]
  refine held_skipK 18 30 rfl rfl (by rfl) hSh0 ?_
  simp only [Act.put, pzA, pzB, pzC]
  refine held_skipK 19 31 rfl rfl (by rfl) hSh0 ?_
  simp only [Act.put, pzA, pzB, pzC]
  refine held_skipK 20 32 rfl rfl (by rfl) hSh0 ?_
  simp only [Act.put, pzA, pzB, pzC]
  refine tkH ?_ 21 33 ?_ hSh0 ?_;rotate_left
  ·rintro w' ⟨x0, x1, x2, x3, x4, x5⟩;go_simp;(try with_reducible rfl)
  simp only [Act.put, pzA, pzB, pzC]
  refine tkH ?_ 22 6 ?_ hSh0 ?_;rotate_left
  ·rintro w' ⟨x0, x1, x2, x3, x4, x5⟩;go_simp;(try with_reducible rfl)
  simp only [Act.put, pzA, pzB, pzC]
  refine wpAnyH_done (by kernel_rfl) ?_ _
  obtain ⟨D4, hD9⟩ : ∃ D, D = V3.drew := ⟨_, rfl⟩
  have hb9 : Below V3.heap.size V3 D4 := by rw [hD9]; exact hBh0
  rw [← hD9]
  clear hD9
  have hs9 := hb9.size
  replace HBel := bt9 HBel hb9 hlow
  replace B_l := bb9 hb9 B_l l_l
  replace B_j := bb9 hb9 B_j l_j
  replace B_u := bb9 hb9 B_u l_u
  replace l_l : N_l < D4.heap.size := by omega
  replace l_j : N_j < D4.heap.size := by omega
  replace l_u : N_u < D4.heap.size := by omega
  replace hlow : w.heap.size ≤ D4.heap.size := by omega
  clear hb9 hs9 hSh0 hBh0 l5 y0 y1 hb2W j0 j1 j2 j3 j4 j5 j6 j7 u0 u1
  go_wp2
  go_ret
  exact ⟨by first | rfl | (simp; done), by rw [HB0.out]; exact HBel.out⟩
def RMostJ (L : Lk) (j : Jb) (w' : World) (e : Ending) : Prop :=
 ∃ A k c r n, e = .returned (.tuple #[.slice A k c, .int .i64 r]) ∧ MostE L j n r ∧ (r = 0 → k = n ∧ n ≤ 16 ∧ n = (placeF j.S L.lv n).length ∧ Fes w' w'.heap.size A (placeF j.S L.lv n))
theorem enB_plE {j : Jb} {lv : List Fe} {U : Lu} {n : Nat} (hr : n ≤ roomF j.S lv) : enB j U n = true ↔ plE j.S lv U.g U.c n = 0 := by
 unfold enB
 rw [plE_zero]
 simp only [Bool.and_eq_true, decide_eq_true_eq]
 exact ⟨fun h => ⟨hr, h.1, h.2⟩, fun h => ⟨h.2.1, h.2.2⟩⟩
theorem most_top {L : Lk} {j : Jb} {U : Lu} {n : Nat} (hok : j.S.ok = true) (hU : leftL L j.q = some U) (h1 : j.S.mn.toNat ≤ n) (h2 : n ≤ j.S.mx.toNat) (h3 : plE j.S L.lv U.g U.c n = 0) (h4 : n + 1 ≤ j.S.mx.toNat → n + 1 ≤ roomF j.S L.lv → enB j U (n + 1) = false) : MostE L j n 0 :=
 .inr ⟨hok, .inr ⟨U, hU, .inl ⟨rfl, h1, h2, h3.symm, fun m hm hx => by
  refine ⟨_, fun h0 => ?_, rfl⟩
  have h5 := plE_fewer hok h0 (show n + 1 ≤ m by omega)
  have h6 := (plE_zero.1 h5).1
  have h7 := h4 (by omega) h6
  rw [(enB_plE h6).2 h5] at h7
  cases h7⟩⟩⟩
theorem most_bad {L : Lk} {j : Jb} {U : Lu} {r : Int} (hok : j.S.ok = true) (hU : leftL L j.q = some U) (h3 : plE j.S L.lv U.g U.c j.S.mn.toNat = r) (h0 : r ≠ 0) : MostE L j 0 r :=
 .inr ⟨hok, .inr ⟨U, hU, .inr ⟨h0, h3.symm, fun m h1 h2 => ⟨_, fun h9 => h0 (by rw [← h3]; exact plE_fewer hok h9 h1), rfl⟩⟩⟩⟩
set_option maxHeartbeats 8000000 in
theorem rmost14_any (L : Lk) (j : Jb) (w : World) (h : LkIn w w.heap.size L) (hW : LkW L) (hF : LkF L) (hj : JbW j) (hT : Tab w) :
  Calls Tryz.prog 18 #[lkV L, jbV j] w fun e w' => RMostJ L j w' e ∧ Below w.heap.size w w' := by
 obtain ⟨n1, hn1⟩ := nx (L.lv.length)
 obtain ⟨n2, hn2⟩ := nx (L.lf.length)
 obtain ⟨n3, hn3⟩ := nx (L.le.length)
 obtain ⟨n4, hn4⟩ := nx (L.lw.length)
 obtain ⟨n5, hn5⟩ := nx (L.lr.length)
 have hFi := Lib.hid (fun W => show Calls Tryz.prog 33 #[.agg #[.int .i64 L.now, .int .i64 L.hd, .int .i64 L.pr, .int .i64 L.to, .slice L.A1 n1 L.c1, .slice L.A2 n2 L.c2, .slice L.A3 n3 L.c3, .slice L.A4 n4 L.c4, .slice L.A5 n5 L.c5], .agg #[.int .i64 j.id, .int .i64 j.q, .int .i64 j.p, .int .i64 j.r, .int .i64 j.g, .int .i64 j.c, .int .i64 j.mn, .int .i64 j.mx]] W (fun e w' => ∃ r, e = .returned (.int .i64 r) ∧ FirstR L j r ∧ Below W.heap.size W w') from by
  have h9 := rfirst14_any L j W hj
  unfold lkV lkA jbV jbA at h9
  rw [← hn1, ← hn2, ← hn3, ← hn4, ← hn5] at h9
  exact h9)
 have hRo := Lib.hid (fun W (hk : Below w.heap.size w W) => show Calls Tryz.prog 29 #[.slice L.A1 n1 L.c1, .agg #[.int .i64 j.g, .int .i64 j.c, .int .i64 j.mn, .int .i64 j.mx]] W (fun e w' => e = .returned (.int .i64 (roomF j.S L.lv : Nat)) ∧ Below W.heap.size W w') from by
  rw [hn1]
  exact refroom_any L.A1 L.c1 W.heap.size L.lv j.S W (h.v.keep hk hk.size) (Nat.le_refl _) (by have := hF.n; omega) hj.S (fun f hf => ⟨(hF.v.ok f hf).1, (hF.v.ok f hf).2.1⟩) (hT.below hk hT.size))
 have hEn := Lib.hid (fun (hok : j.S.ok = true) (U : Lu) (hU : leftL L j.q = some U) (n : Nat) (h1 : 1 ≤ n) (h16 : n ≤ 16) W (hk : Below w.heap.size w W) => show Calls Tryz.prog 34 #[.agg #[.int .i64 L.now, .int .i64 L.hd, .int .i64 L.pr, .int .i64 L.to, .slice L.A1 n1 L.c1, .slice L.A2 n2 L.c2, .slice L.A3 n3 L.c3, .slice L.A4 n4 L.c4, .slice L.A5 n5 L.c5], .agg #[.int .i64 j.id, .int .i64 j.q, .int .i64 j.p, .int .i64 j.r, .int .i64 j.g, .int .i64 j.c, .int .i64 j.mn, .int .i64 j.mx], .int .i64 (n : Nat)] W (fun e w' => e = .returned (.bool (enB j U n)) ∧ Below W.heap.size W w') from by
  have h9 := renough14_any L j U n W (h.keep hk hk.size) hok hU h1 h16
  unfold lkV lkA jbV jbA at h9
  rw [← hn1, ← hn2, ← hn3, ← hn4, ← hn5] at h9
  exact h9)
 have hPl := Lib.hid (fun (hok : j.S.ok = true) (n : Nat) (h1 : 1 ≤ n) (h16 : n ≤ 16) (hr : n ≤ roomF j.S L.lv) W (hk : Below w.heap.size w W) => show Calls Tryz.prog 35 #[.slice L.A1 n1 L.c1, .agg #[.int .i64 j.g, .int .i64 j.c, .int .i64 j.mn, .int .i64 j.mx], .int .i64 (n : Nat)] W (fun e w' => ∃ A' cap', e = .returned (.tuple #[.slice A' n cap', .int .i64 0]) ∧ Below W.heap.size W w' ∧ Hid (Fes w' w'.heap.size A' (placeF j.S L.lv n))) from by
  rw [hn1]
  exact refplace_ok L.A1 L.c1 W.heap.size L.lv j.S n W (h.v.keep hk hk.size) (Nat.le_refl _) (by have := hF.n; omega) hj.S (fun f hf => ⟨(hF.v.ok f hf).1, (hF.v.ok f hf).2.1⟩) (hT.below hk hT.size) hok h1 h16 hr)
 unfold lkV lkA jbV jbA
 rw [← hn1, ← hn2, ← hn3, ← hn4, ← hn5]
 clear hn1 hn2 hn3 hn4 hn5 h hW hF hj hT
 obtain ⟨B0, hB0⟩ := nx (w.heap.size)
 rw [← hB0]
 have HB0 := Lib.hid hB0
 clear hB0
 have HBel := Lib.hid (Below.refl w.heap.size w)
 have hlow : w.heap.size ≤ w.heap.size := Nat.le_refl _
 go_enter Tryz.func18, Tryz.ntmps18
 go_wp2_with fail
 obtain ⟨V1, hV1⟩ := nx ((w.alloc (.cells #[.int .i64 L.now, .int .i64 L.hd, .int .i64 L.pr, .int .i64 L.to, .slice L.A1 n1 L.c1, .slice L.A2 n2 L.c2, .slice L.A3 n3 L.c3, .slice L.A4 n4 L.c4, .slice L.A5 n5 L.c5] 28)).alloc (.cells #[.int .i64 j.id, .int .i64 j.q, .int .i64 j.p, .int .i64 j.r, .int .i64 j.g, .int .i64 j.c, .int .i64 j.mn, .int .i64 j.mx] 38))
 rw [← hV1]
 have hzV1 := sz2 hV1
 replace HBel := be2 hV1 HBel hlow
 have B_l := Lib.hid (new20 hV1)
 have B_j := Lib.hid (new21 hV1)
 obtain ⟨N_l, hN_l⟩ := nx (w.heap.size)
 obtain ⟨N_j, hN_j⟩ := nx (w.heap.size + 1)
 (try rw [← hN_j])
 rw [← hN_j] at B_j
 (try rw [← hN_l])
 rw [← hN_l] at B_l
 have l_l : N_l < V1.heap.size := by omega
 have l_j : N_j < V1.heap.size := by omega
 have g_l : w.heap.size ≤ N_l := by omega
 have g_j : w.heap.size ≤ N_j := by omega
 have d_l_j : N_l < N_j := by omega
 replace hlow : w.heap.size ≤ V1.heap.size := by omega
 clear hV1 hzV1 hN_l hN_j
 obtain ⟨l0, l1, l2, l3, l4, l5, l6, l7, l8⟩ := cells9 B_l.out
 obtain ⟨j0, j1, j2, j3, j4, j5, j6, j7⟩ := cells8 B_j.out
 go_wp2_with fail
 refine (hFi.out V1).mono ?_
 rintro e U2 ⟨r, rfl, hf, hb9⟩
 clear l0 l1 l2 l3 l4 l5 l6 l7 l8 j0 j1 j2 j3 j4 j5 j6 j7
 have hs9 := hb9.size
 replace HBel := bt9 HBel hb9 hlow
 replace B_l := bb9 hb9 B_l l_l
 replace B_j := bb9 hb9 B_j l_j
 replace l_l : N_l < U2.heap.size := by omega
 replace l_j : N_j < U2.heap.size := by omega
 replace hlow : w.heap.size ≤ U2.heap.size := by omega
 clear hb9 hs9
 rcases hf with ⟨h0, rfl⟩ | ⟨hok, ⟨hq, rfl⟩ | ⟨U, hq, rfl⟩⟩
 ·have HE := Lib.hid (show MostE L j 0 1 from .inl ⟨h0, rfl⟩)
  clear h0
  go_wp2
  go_ret2
  exact ⟨⟨_, _, _, 1, 0, rfl, HE.out, fun e => by cases e⟩, by rw [HB0.out]; exact HBel.out⟩
 ·have HE := Lib.hid (show MostE L j 0 3 from .inr ⟨hok, .inl ⟨hq, rfl⟩⟩)
  clear hok hq
  go_wp2
  go_ret2
  exact ⟨⟨_, _, _, 3, 0, rfl, HE.out, fun e => by cases e⟩, by rw [HB0.out]; exact HBel.out⟩
 ·have HOK := Lib.hid hok
  have HU := Lib.hid hq
  have hp := Shp.ok_pos hok
  have ey : j.S.mn = j.mn := rfl
  have ex : j.S.mx = j.mx := rfl
  obtain ⟨x, hx⟩ : ∃ x : Nat, j.mx = x := ⟨j.mx.toNat, by omega⟩
  obtain ⟨y, hy⟩ : ∃ y : Nat, j.mn = y := ⟨j.mn.toNat, by omega⟩
  have hlo : 1 ≤ y := by omega
  have hlh : y ≤ x := by omega
  have hhi : x ≤ 16 := by omega
  have HY := Lib.hid (show j.S.mn.toNat = y ∧ j.S.mx.toNat = x from ⟨by omega, by omega⟩)
  have hEn1 := hEn.out hok U hq
  have hPl1 := hPl.out hok
  obtain ⟨room, hroom⟩ := nx (roomF j.S L.lv)
  rw [← hroom] at hRo hPl1
  have HRM := Lib.hid hroom
  rw [hx, hy] at B_j hRo hEn1 hPl1
  have hEn2 := Lib.hid hEn1
  have hPl2 := Lib.hid hPl1
  clear hok hq hp ey ex hx hy hEn1 hPl1 hroom hEn hPl
  obtain ⟨l0, l1, l2, l3, l4, l5, l6, l7, l8⟩ := cells9 B_l.out
  obtain ⟨j0, j1, j2, j3, j4, j5, j6, j7⟩ := cells8 B_j.out
  go_wp2_with fail
  refine (hRo.out U2 HBel.out).mono ?_
  rintro e U3 ⟨rfl, hb9⟩
  clear l0 l1 l2 l3 l4 l5 l6 l7 l8 j0 j1 j2 j3 j4 j5 j6 j7
  have hs9 := hb9.size
  replace HBel := bt9 HBel hb9 hlow
  replace B_l := bb9 hb9 B_l l_l
  replace B_j := bb9 hb9 B_j l_j
  replace l_l : N_l < U3.heap.size := by omega
  replace l_j : N_j < U3.heap.size := by omega
  replace hlow : w.heap.size ≤ U3.heap.size := by omega
  clear hb9 hs9
  by_cases hry : room < y
  ·have t1 : decide (room < y) = true := decide_eq_true hry
   have HE := Lib.hid (show MostE L j 0 7 from most_bad HOK.out HU.out (by unfold plE; rw [HY.out.1, ← HRM.out, if_pos hry]) (by decide))
   clear hry
   obtain ⟨j0, j1, j2, j3, j4, j5, j6, j7⟩ := cells8 B_j.out
   go_wp2
   go_ret2
   exact ⟨⟨_, _, _, 7, 0, rfl, HE.out, fun e => by cases e⟩, by rw [HB0.out]; exact HBel.out⟩
  ·have t1 : decide (room < y) = false := decide_eq_false hry
   have hyr : y ≤ room := by omega
   obtain ⟨eb, heb⟩ := nx (enB j U y)
   have hEy := hEn2.out y hlo (by omega)
   rw [← heb] at hEy
   have HEy := Lib.hid hEy
   have HEB := Lib.hid heb
   clear hry hEy heb
   obtain ⟨l0, l1, l2, l3, l4, l5, l6, l7, l8⟩ := cells9 B_l.out
   obtain ⟨j0, j1, j2, j3, j4, j5, j6, j7⟩ := cells8 B_j.out
   go_wp2_with fail
   refine (HEy.out U3 HBel.out).mono ?_
   rintro e U4 ⟨rfl, hb9⟩
   clear l0 l1 l2 l3 l4 l5 l6 l7 l8 j0 j1 j2 j3 j4 j5 j6 j7
   have hs9 := hb9.size
   replace HBel := bt9 HBel hb9 hlow
   replace B_l := bb9 hb9 B_l l_l
   replace B_j := bb9 hb9 B_j l_j
   replace l_l : N_l < U4.heap.size := by omega
   replace l_j : N_j < U4.heap.size := by omega
   replace hlow : w.heap.size ≤ U4.heap.size := by omega
   clear hb9 hs9
   clear t1
   cases eb
   ·have HE := Lib.hid (show MostE L j 0 6 from most_bad HOK.out HU.out (by
     have h8 := HEB.out
     unfold enB at h8
     unfold plE
     rw [HY.out.1, ← HRM.out, if_neg (by omega), if_neg (fun h9 => by rw [decide_eq_true h9.1, decide_eq_true h9.2] at h8; cases h8)]) (by decide))
    go_wp2
    go_ret2
    exact ⟨⟨_, _, _, 6, 0, rfl, HE.out, fun e => by cases e⟩, by rw [HB0.out]; exact HBel.out⟩
   ·have HP0 : Hid (plE j.S L.lv U.g U.c y = 0) := Lib.hid ((enB_plE (by rw [← HRM.out]; exact hyr)).1 HEB.out.symm)
    obtain ⟨j0, j1, j2, j3, j4, j5, j6, j7⟩ := cells8 B_j.out
    go_wp2
    go_loopw [8] (fun vi wr => ∃ k : Nat, vi = .int .i64 k ∧ y ≤ k ∧ k ≤ x ∧ k ≤ room ∧ N_l < wr.heap.size ∧ N_j < wr.heap.size ∧ Hid (Below w.heap.size w wr) ∧ Hid (wr.heap[N_l]? = some (.cells #[.int .i64 L.now, .int .i64 L.hd, .int .i64 L.pr, .int .i64 L.to, .slice L.A1 n1 L.c1, .slice L.A2 n2 L.c2, .slice L.A3 n3 L.c3, .slice L.A4 n4 L.c4, .slice L.A5 n5 L.c5] 28 (0, 0))) ∧ Hid (wr.heap[N_j]? = some (.cells #[.int .i64 j.id, .int .i64 j.q, .int .i64 j.p, .int .i64 j.r, .int .i64 j.g, .int .i64 j.c, .int .i64 (y : Nat), .int .i64 (x : Nat)] 38 (0, 0))) ∧ Hid (plE j.S L.lv U.g U.c k = 0)) (fun vi _ => x - (intOf vi).toNat)
    case atStart => exact ⟨y, rfl, Nat.le_refl _, hlh, hyr, l_l, l_j, HBel, B_l, B_j, HP0⟩
    case round =>
     clear HBel B_l B_j l_l l_j hlow HP0 HEB j0 j1 j2 j3 j4 j5 j6 j7
     obtain ⟨k, rfl, hk1, hk2, hk3, l_l, l_j, HBel, B_l, B_j, hP⟩ := hrel
     have hlow := HBel.out.size
     by_cases hkx : k < x
     rotate_left
     ·have u1 : decide (k < x) = false := decide_eq_false hkx
      have HE := Lib.hid (show MostE L j k 0 from most_top HOK.out HU.out (by rw [HY.out.1]; exact hk1) (by rw [HY.out.2]; exact hk2) hP.out fun g1 g2 => absurd g1 (by rw [HY.out.2]; omega))
      clear hkx hP
      obtain ⟨l0, l1, l2, l3, l4, l5, l6, l7, l8⟩ := cells9 B_l.out
      obtain ⟨j0, j1, j2, j3, j4, j5, j6, j7⟩ := cells8 B_j.out
      go_wp2_with fail
      refine (hPl2.out k (by omega) (by omega) hk3 wr HBel.out).mono ?_
      rintro e U1 ⟨A9, c9, rfl, hb9, hfe⟩
      clear l0 l1 l2 l3 l4 l5 l6 l7 l8 j0 j1 j2 j3 j4 j5 j6 j7
      have hs9 := hb9.size
      have HFE := Lib.hid hfe.out
      clear hfe
      replace HBel := bt9 HBel hb9 hlow
      replace B_l := bb9 hb9 B_l l_l
      replace B_j := bb9 hb9 B_j l_j
      replace l_l : N_l < U1.heap.size := by omega
      replace l_j : N_j < U1.heap.size := by omega
      replace hlow : w.heap.size ≤ U1.heap.size := by omega
      clear hb9 hs9
      go_wp2
      go_ret2
      exact ⟨⟨_, _, _, 0, k, rfl, HE.out, fun _ => ⟨rfl, by omega, (placeF_len (by rw [← HRM.out]; exact hk3)).symm, HFE.out⟩⟩, by rw [HB0.out]; exact HBel.out⟩
     ·by_cases hkr : k < room
      rotate_left
      ·have u1 : decide (k < x) = true := decide_eq_true hkx
       have u2 : decide (k < room) = false := decide_eq_false hkr
       have HE := Lib.hid (show MostE L j k 0 from most_top HOK.out HU.out (by rw [HY.out.1]; exact hk1) (by rw [HY.out.2]; exact hk2) hP.out fun g1 g2 => absurd g2 (by rw [← HRM.out]; omega))
       clear hkx hkr hP
       obtain ⟨l0, l1, l2, l3, l4, l5, l6, l7, l8⟩ := cells9 B_l.out
       obtain ⟨j0, j1, j2, j3, j4, j5, j6, j7⟩ := cells8 B_j.out
       go_wp2_with fail
       refine (hPl2.out k (by omega) (by omega) hk3 wr HBel.out).mono ?_
       rintro e U1 ⟨A9, c9, rfl, hb9, hfe⟩
       clear l0 l1 l2 l3 l4 l5 l6 l7 l8 j0 j1 j2 j3 j4 j5 j6 j7
       have hs9 := hb9.size
       have HFE := Lib.hid hfe.out
       clear hfe
       replace HBel := bt9 HBel hb9 hlow
       replace B_l := bb9 hb9 B_l l_l
       replace B_j := bb9 hb9 B_j l_j
       replace l_l : N_l < U1.heap.size := by omega
       replace l_j : N_j < U1.heap.size := by omega
       replace hlow : w.heap.size ≤ U1.heap.size := by omega
       clear hb9 hs9
       go_wp2
       go_ret2
       exact ⟨⟨_, _, _, 0, k, rfl, HE.out, fun _ => ⟨rfl, by omega, (placeF_len (by rw [← HRM.out]; exact hk3)).symm, HFE.out⟩⟩, by rw [HB0.out]; exact HBel.out⟩
      ·have u1 : decide (k < x) = true := decide_eq_true hkx
       have u2 : decide (k < room) = true := decide_eq_true hkr
       obtain ⟨eb, heb⟩ := nx (enB j U (k + 1))
       have hEy := hEn2.out (k + 1) (by omega) (by omega)
       rw [← heb] at hEy
       have ek : ((k + 1 : Nat) : Int) = (k : Int) + 1 := by omega
       rw [ek] at hEy
       have HEy := Lib.hid hEy
       have HEB := Lib.hid heb
       have hkw : wrap64 ((k : Int) + 1) = (k : Int) + 1 := IntWalk.wrap64_in _ (by omega)
       clear hEy heb ek
       obtain ⟨l0, l1, l2, l3, l4, l5, l6, l7, l8⟩ := cells9 B_l.out
       obtain ⟨j0, j1, j2, j3, j4, j5, j6, j7⟩ := cells8 B_j.out
       go_wp2_with fail
       (try rw [hkw])
       clear hkw
       refine (HEy.out wr HBel.out).mono ?_
       rintro e U1 ⟨rfl, hb9⟩
       clear l0 l1 l2 l3 l4 l5 l6 l7 l8 j0 j1 j2 j3 j4 j5 j6 j7
       have hs9 := hb9.size
       replace HBel := bt9 HBel hb9 hlow
       replace B_l := bb9 hb9 B_l l_l
       replace B_j := bb9 hb9 B_j l_j
       replace l_l : N_l < U1.heap.size := by omega
       replace l_j : N_j < U1.heap.size := by omega
       replace hlow : w.heap.size ≤ U1.heap.size := by omega
       clear hb9 hs9
       clear u1 u2
       cases eb
       ·have HE := Lib.hid (show MostE L j k 0 from most_top HOK.out HU.out (by rw [HY.out.1]; exact hk1) (by rw [HY.out.2]; exact hk2) hP.out fun g1 g2 => HEB.out.symm)
        clear hkx hkr hP
        obtain ⟨l0, l1, l2, l3, l4, l5, l6, l7, l8⟩ := cells9 B_l.out
        obtain ⟨j0, j1, j2, j3, j4, j5, j6, j7⟩ := cells8 B_j.out
        go_wp2_with fail
        refine (hPl2.out k (by omega) (by omega) hk3 U1 HBel.out).mono ?_
        rintro e U2 ⟨A9, c9, rfl, hb9, hfe⟩
        clear l0 l1 l2 l3 l4 l5 l6 l7 l8 j0 j1 j2 j3 j4 j5 j6 j7
        have hs9 := hb9.size
        have HFE := Lib.hid hfe.out
        clear hfe
        replace HBel := bt9 HBel hb9 hlow
        replace B_l := bb9 hb9 B_l l_l
        replace B_j := bb9 hb9 B_j l_j
        replace l_l : N_l < U2.heap.size := by omega
        replace l_j : N_j < U2.heap.size := by omega
        replace hlow : w.heap.size ≤ U2.heap.size := by omega
        clear hb9 hs9
        go_wp2
        go_ret2
        exact ⟨⟨_, _, _, 0, k, rfl, HE.out, fun _ => ⟨rfl, by omega, (placeF_len (by rw [← HRM.out]; exact hk3)).symm, HFE.out⟩⟩, by rw [HB0.out]; exact HBel.out⟩
       ·have HN : Hid (plE j.S L.lv U.g U.c (k + 1) = 0) := Lib.hid ((enB_plE (by rw [← HRM.out]; omega)).1 HEB.out.symm)
        go_wp2
        go_roundw
        case rel => exact ⟨k + 1, by go_num, by omega, by omega, by omega, l_l, l_j, HBel, B_l, B_j, HN⟩
        case measure => simp [intOf]; omega
end Go.Proofs.YtmejcmoodbbmoaaGreatDoor
