/- Grow of package elastic. -/
import Derived.Test.YthnjbhkhmoddpaaGreatDoorElR
set_option linter.unusedVariables false
set_option maxRecDepth 100000
namespace Go.Proofs.YthnjbhkhmoddpaaGreatDoor
open Go.RowKit
open PR
def GrowJ (L : Lk) (j : Jb) (u : Int) (e : Ending) : Prop :=
 ∃ (s : Fe) (r : Int), e = .returned (.tuple #[.agg #[.int .i64 s.n, .int .i64 s.d, .int .u64 (s.m : Nat), .int .i64 s.c], .int .i64 r]) ∧ (r = 0 → FeOk s ∧ LetR L j.id j.q u [s] 0 ∧ j.S.ok = true ∧ ∃ U, leftL L j.q = some U ∧ plE j.S L.lv U.g U.c 1 = 0 ∧ placeF j.S L.lv 1 = [s])
set_option maxHeartbeats 16000000 in
theorem grow_any (L : Lk) (H : Ho) (j : Jb) (w : World) (h : LkIn w w.heap.size L) (hW : LkW L) (hF : LkF L) (hH : HoOk H) (hj : JbW j) (hT : Tab w) :
  Calls Tryz.prog 44 #[lkV L, hoV H, jbV j] w fun e w' => GrowJ L j H.u e ∧ Below w.heap.size w w' := by
 obtain ⟨n1, hn1⟩ : ∃ n, n = L.lv.length := ⟨_, rfl⟩
 obtain ⟨n2, hn2⟩ : ∃ n, n = L.lf.length := ⟨_, rfl⟩
 obtain ⟨n3, hn3⟩ : ∃ n, n = L.le.length := ⟨_, rfl⟩
 obtain ⟨n4, hn4⟩ : ∃ n, n = L.lw.length := ⟨_, rfl⟩
 obtain ⟨n5, hn5⟩ : ∃ n, n = L.lr.length := ⟨_, rfl⟩
 obtain ⟨kh, hkh⟩ : ∃ n, n = H.sl.length := ⟨_, rfl⟩
 have hL := Lib.hid (fun W (hk : Below w.heap.size w W) => show Calls Tryz.prog 48 #[.agg #[.int .i64 L.now, .int .i64 L.hd, .int .i64 L.pr, .int .i64 L.to, .slice L.A1 n1 L.c1, .slice L.A2 n2 L.c2, .slice L.A3 n3 L.c3, .slice L.A4 n4 L.c4, .slice L.A5 n5 L.c5], .agg #[.int .i64 j.id, .int .i64 j.q, .int .i64 j.p, .int .i64 j.r, .int .i64 j.g, .int .i64 j.c, .int .i64 j.mn, .int .i64 j.mx]] W (fun e w' => ForR L j e ∧ Below W.heap.size W w') from by
  have h9 := leftfor_any L j W (h.keep hk hk.size) hj hW
  unfold lkV lkA jbV jbA at h9
  rw [← hn1, ← hn2, ← hn3, ← hn4, ← hn5] at h9
  exact h9)
 have hP := Lib.hid (fun (hok : j.S.ok = true) (U : Lu) W (hk : Below w.heap.size w W) => show Calls Tryz.prog 51 #[.slice L.A1 n1 L.c1, .agg #[.int .i64 U.g, .int .i64 U.c], .agg #[.int .i64 j.g, .int .i64 j.c, .int .i64 j.mn, .int .i64 j.mx], .int .i64 1] W (fun e w' => TryR (PlR j.S L.lv U.g U.c) (placeF j.S L.lv) 1 w' e ∧ Below W.heap.size W w') from by
  rw [hn1]
  exact placed_any L.A1 L.c1 W.heap.size L.lv U.g U.c j.S 1 W (h.v.keep hk hk.size) (Nat.le_refl _) (by have := hF.n; omega) hj.S hW.v (hT.below hk hT.size) hok (Nat.le_refl _) (by omega))
 have hLe := Lib.hid (fun (A : Option Addr) (c : Nat) (l9 : List Fe) W (hk : Below w.heap.size w W) (hs : Fes W W.heap.size A l9) (hso : ∀ s ∈ l9, FeOk s) (h1 : l9.length = 1) (hc1 : 1 ≤ c) (hc2 : c ≤ maxLen) => show Calls Tryz.prog 54 #[.agg #[.int .i64 L.now, .int .i64 L.hd, .int .i64 L.pr, .int .i64 L.to, .slice L.A1 n1 L.c1, .slice L.A2 n2 L.c2, .slice L.A3 n3 L.c3, .slice L.A4 n4 L.c4, .slice L.A5 n5 L.c5], .agg #[.int .i64 j.id, .int .i64 j.q, .int .i64 j.p, .int .i64 j.r, .int .i64 j.g, .int .i64 j.c, .int .i64 j.mn, .int .i64 j.mx], .int .i64 H.u, .slice A 1 c] W (fun e w' => ∃ r, e = .returned (.int .i64 r) ∧ LetR L j.id j.q H.u l9 r ∧ Below W.heap.size W w') from by
  have h9 := let_any L j H.u A c l9 W (h.keep hk hk.size) hW hF hj hH.u hs hso (by omega) hc2 (by omega) (hT.below hk hT.size)
  unfold lkV lkA jbV jbA at h9
  rw [h1, ← hn1, ← hn2, ← hn3, ← hn4, ← hn5] at h9
  exact h9)
 have hko : kh ≤ 9223372036854775807 := by rw [hkh]; exact Nat.le_trans hH.l hH.m
 have HX := Lib.hid (And.intro hW.v hj.S)
 unfold lkV lkA jbV jbA hoV hoA
 rw [← hn1, ← hn2, ← hn3, ← hn4, ← hn5]
 rw [← hkh]
 cases hok : j.S.ok
 ·have HO := Lib.hid hok
  clear hok hn1 hn2 hn3 hn4 hn5 h hW hF hj hT hkh hH hP hLe
  obtain ⟨B0, hB0⟩ : ∃ B, B = w.heap.size := ⟨_, rfl⟩
  rw [← hB0]
  have HB0 := Lib.hid hB0
  clear hB0
  have HBel := Lib.hid (Below.refl w.heap.size w)
  have hlow : w.heap.size ≤ w.heap.size := Nat.le_refl _
  go_enter Tryz.func44, Tryz.ntmps44
  go_wp2_with fail
  obtain ⟨V1, hV1⟩ : ∃ W, W = (((w.alloc (.cells #[.int .i64 L.now, .int .i64 L.hd, .int .i64 L.pr, .int .i64 L.to, .slice L.A1 n1 L.c1, .slice L.A2 n2 L.c2, .slice L.A3 n3 L.c3, .slice L.A4 n4 L.c4, .slice L.A5 n5 L.c5] 28)).alloc (.cells #[.int .i64 H.id, .int .i64 H.q, .int .i64 H.u, .bool H.r, .slice H.A kh H.c] 53)).alloc (.cells #[.int .i64 j.id, .int .i64 j.q, .int .i64 j.p, .int .i64 j.r, .int .i64 j.g, .int .i64 j.c, .int .i64 j.mn, .int .i64 j.mx] 47)).alloc (.cells #[.int .i64 0, .int .i64 0, .int .u64 0, .int .i64 0] 64) := ⟨_, rfl⟩
  rw [← hV1]
  have hzV1 : V1.heap.size = w.heap.size + 1 + 1 + 1 + 1 := by rw [hV1]; simp
  replace HBel := Lib.hid (below_eq hV1 (((((HBel.out.alloc (hlow) _).alloc (by simp <;> omega) _).alloc (by simp <;> omega) _).alloc (by simp <;> omega) _)))
  have B_l := Lib.hid (new40 hV1)
  have B_h := Lib.hid (new41 hV1)
  have B_j := Lib.hid (new42 hV1)
  have B_z := Lib.hid (new43 hV1)
  obtain ⟨N_l, hN_l⟩ : ∃ N, N = w.heap.size := ⟨_, rfl⟩
  obtain ⟨N_h, hN_h⟩ : ∃ N, N = w.heap.size + 1 := ⟨_, rfl⟩
  obtain ⟨N_j, hN_j⟩ : ∃ N, N = w.heap.size + 1 + 1 := ⟨_, rfl⟩
  obtain ⟨N_z, hN_z⟩ : ∃ N, N = w.heap.size + 1 + 1 + 1 := ⟨_, rfl⟩
  (try rw [← hN_z])
  rw [← hN_z] at B_z
  (try rw [← hN_j])
  rw [← hN_j] at B_j
  (try rw [← hN_h])
  rw [← hN_h] at B_h
  (try rw [← hN_l])
  rw [← hN_l] at B_l
  have l_l : N_l < V1.heap.size := by omega
  have l_h : N_h < V1.heap.size := by omega
  have l_j : N_j < V1.heap.size := by omega
  have l_z : N_z < V1.heap.size := by omega
  have g_l : w.heap.size ≤ N_l := by omega
  have g_h : w.heap.size ≤ N_h := by omega
  have g_j : w.heap.size ≤ N_j := by omega
  have g_z : w.heap.size ≤ N_z := by omega
  have d_l_h : N_l < N_h := by omega
  have d_h_j : N_h < N_j := by omega
  have d_j_z : N_j < N_z := by omega
  replace hlow : w.heap.size ≤ V1.heap.size := by omega
  clear hV1 hzV1 hN_l hN_h hN_j hN_z
  obtain ⟨l0, l1, l2, l3, l4, l5, l6, l7, l8⟩ := cells9 B_l.out
  obtain ⟨j0, j1, j2, j3, j4, j5, j6, j7⟩ := cells8 B_j.out
  go_wp2_with fail
  refine (hL.out V1 HBel.out).mono ?_
  rintro e U2 ⟨hf, hb9⟩
  clear l0 l1 l2 l3 l4 l5 l6 l7 l8 j0 j1 j2 j3 j4 j5 j6 j7
  have hs9 := hb9.size
  replace HBel := Lib.hid (HBel.out.trans (hb9.mono hlow))
  replace B_l := Lib.hid ((hb9.block _ l_l).trans B_l.out)
  replace B_h := Lib.hid ((hb9.block _ l_h).trans B_h.out)
  replace B_j := Lib.hid ((hb9.block _ l_j).trans B_j.out)
  replace B_z := Lib.hid ((hb9.block _ l_z).trans B_z.out)
  replace l_l : N_l < U2.heap.size := by omega
  replace l_h : N_h < U2.heap.size := by omega
  replace l_j : N_j < U2.heap.size := by omega
  replace l_z : N_z < U2.heap.size := by omega
  replace hlow : w.heap.size ≤ U2.heap.size := by omega
  clear hb9 hs9
  rcases hf with ⟨_, rfl⟩ | ⟨h0, _⟩
  ·obtain ⟨z0, z1, z2, z3⟩ := cells4 B_z.out
   have l_z_0 : N_z < U2.heap.size + 1 := by omega
   have zz0 : U2.frozen? ⟨N_z, 0, none⟩ = false := frozen_blk B_z.out
   have zz1 : U2.frozen? ⟨N_z, 1, none⟩ = false := frozen_blk B_z.out
   have zz2 : U2.frozen? ⟨N_z, 2, none⟩ = false := frozen_blk B_z.out
   have zz3 : U2.frozen? ⟨N_z, 3, none⟩ = false := frozen_blk B_z.out
   go_wp2_with fail
   clear z0 z1 z2 z3 l_z_0 zz0 zz1 zz2 zz3
   obtain ⟨S3, hS3⟩ : ∃ W, W = ((((U2).setCell ⟨N_z, 0, none⟩ (.int .i64 0)).setCell ⟨N_z, 1, none⟩ (.int .i64 0)).setCell ⟨N_z, 2, none⟩ (.int .u64 0)).setCell ⟨N_z, 3, none⟩ (.int .i64 0) := ⟨_, rfl⟩
   rw [← hS3]
   have hzS3 : S3.heap.size = U2.heap.size := by rw [hS3]; simp
   replace HBel : Hid (Below w.heap.size w S3) := Lib.hid (by rw [hS3]; exact ((((HBel.out.setCell (g_z) _).setCell (g_z) _).setCell (g_z) _).setCell (g_z) _))
   replace B_l := Lib.hid (blk_eq hS3 (((Below.heap_setCell _ _ _ _ (show N_l ≠ N_z by omega)).trans ((Below.heap_setCell _ _ _ _ (show N_l ≠ N_z by omega)).trans ((Below.heap_setCell _ _ _ _ (show N_l ≠ N_z by omega)).trans ((Below.heap_setCell _ _ _ _ (show N_l ≠ N_z by omega)).trans B_l.out))))))
   replace B_h := Lib.hid (blk_eq hS3 (((Below.heap_setCell _ _ _ _ (show N_h ≠ N_z by omega)).trans ((Below.heap_setCell _ _ _ _ (show N_h ≠ N_z by omega)).trans ((Below.heap_setCell _ _ _ _ (show N_h ≠ N_z by omega)).trans ((Below.heap_setCell _ _ _ _ (show N_h ≠ N_z by omega)).trans B_h.out))))))
   replace B_j := Lib.hid (blk_eq hS3 (((Below.heap_setCell _ _ _ _ (show N_j ≠ N_z by omega)).trans ((Below.heap_setCell _ _ _ _ (show N_j ≠ N_z by omega)).trans ((Below.heap_setCell _ _ _ _ (show N_j ≠ N_z by omega)).trans ((Below.heap_setCell _ _ _ _ (show N_j ≠ N_z by omega)).trans B_j.out))))))
   replace B_z : Hid (S3.heap[N_z]? = some (.cells #[.int .i64 0, .int .i64 0, .int .u64 0, .int .i64 0] 64 (0, 0))) := Lib.hid (by rw [hS3]; exact (blk_put (i := 3) _ (blk_put (i := 2) _ (blk_put (i := 1) _ (blk_put (i := 0) _ B_z.out)))))
   replace l_l : N_l < S3.heap.size := by omega
   replace l_h : N_h < S3.heap.size := by omega
   replace l_j : N_j < S3.heap.size := by omega
   replace l_z : N_z < S3.heap.size := by omega
   replace hlow : w.heap.size ≤ S3.heap.size := by omega
   clear hS3 hzS3
   obtain ⟨V4, hV4⟩ : ∃ W, W = S3.alloc (.cells #[.int .i64 0, .int .i64 0] 42) := ⟨_, rfl⟩
   rw [← hV4]
   have hzV4 : V4.heap.size = S3.heap.size + 1 := by rw [hV4]; simp
   replace HBel := Lib.hid (below_eq hV4 ((HBel.out.alloc (hlow) _)))
   replace B_l := Lib.hid (blk_eq hV4 (((Below.heap_alloc _ _ _ (by first | omega | (simp <;> omega))).trans B_l.out)))
   replace B_h := Lib.hid (blk_eq hV4 (((Below.heap_alloc _ _ _ (by first | omega | (simp <;> omega))).trans B_h.out)))
   replace B_j := Lib.hid (blk_eq hV4 (((Below.heap_alloc _ _ _ (by first | omega | (simp <;> omega))).trans B_j.out)))
   replace B_z := Lib.hid (blk_eq hV4 (((Below.heap_alloc _ _ _ (by first | omega | (simp <;> omega))).trans B_z.out)))
   have B_u := Lib.hid (new10 hV4)
   obtain ⟨N_u, hN_u⟩ : ∃ N, N = S3.heap.size := ⟨_, rfl⟩
   (try rw [← hN_u])
   rw [← hN_u] at B_u
   have d_l_u : N_l < N_u := by omega
   have d_h_u : N_h < N_u := by omega
   have d_j_u : N_j < N_u := by omega
   have d_z_u : N_z < N_u := by omega
   replace l_l : N_l < V4.heap.size := by omega
   replace l_h : N_h < V4.heap.size := by omega
   replace l_j : N_j < V4.heap.size := by omega
   replace l_z : N_z < V4.heap.size := by omega
   have l_u : N_u < V4.heap.size := by omega
   have g_u : w.heap.size ≤ N_u := by omega
   replace hlow : w.heap.size ≤ V4.heap.size := by omega
   clear hV4 hzV4 hN_u
   obtain ⟨z0, z1, z2, z3⟩ := cells4 B_z.out
   refine bodyPost_ret (v := .tuple #[.agg #[.int .i64 0, .int .i64 0, .int .u64 0, .int .i64 0], .int .i64 1]) (by simp [results, Tryz.results44, go_sem, z0, z1, z2, z3]) rfl ?_
   exact ⟨⟨⟨0, 0, 0, 0⟩, _, rfl, fun e => absurd e (by decide)⟩, by rw [HB0.out]; exact HBel.out⟩
  ·rw [HO.out] at h0; cases h0
 ·have HO := Lib.hid hok
  have hok2 := hok
  unfold Shp.ok Jb.S at hok2
  simp at hok2
  obtain ⟨x, hx⟩ : ∃ x : Nat, j.mx = x := ⟨j.mx.toNat, by omega⟩
  rw [hx] at hL hP hLe ⊢
  clear hok hok2 hx hn1 hn2 hn3 hn4 hn5 h hW hF hj hT hkh hH
  obtain ⟨B0, hB0⟩ : ∃ B, B = w.heap.size := ⟨_, rfl⟩
  rw [← hB0]
  have HB0 := Lib.hid hB0
  clear hB0
  have HBel := Lib.hid (Below.refl w.heap.size w)
  have hlow : w.heap.size ≤ w.heap.size := Nat.le_refl _
  go_enter Tryz.func44, Tryz.ntmps44
  go_wp2_with fail
  obtain ⟨V1, hV1⟩ : ∃ W, W = (((w.alloc (.cells #[.int .i64 L.now, .int .i64 L.hd, .int .i64 L.pr, .int .i64 L.to, .slice L.A1 n1 L.c1, .slice L.A2 n2 L.c2, .slice L.A3 n3 L.c3, .slice L.A4 n4 L.c4, .slice L.A5 n5 L.c5] 28)).alloc (.cells #[.int .i64 H.id, .int .i64 H.q, .int .i64 H.u, .bool H.r, .slice H.A kh H.c] 53)).alloc (.cells #[.int .i64 j.id, .int .i64 j.q, .int .i64 j.p, .int .i64 j.r, .int .i64 j.g, .int .i64 j.c, .int .i64 j.mn, .int .i64 (x : Nat)] 47)).alloc (.cells #[.int .i64 0, .int .i64 0, .int .u64 0, .int .i64 0] 64) := ⟨_, rfl⟩
  rw [← hV1]
  have hzV1 : V1.heap.size = w.heap.size + 1 + 1 + 1 + 1 := by rw [hV1]; simp
  replace HBel := Lib.hid (below_eq hV1 (((((HBel.out.alloc (hlow) _).alloc (by simp <;> omega) _).alloc (by simp <;> omega) _).alloc (by simp <;> omega) _)))
  have B_l := Lib.hid (new40 hV1)
  have B_h := Lib.hid (new41 hV1)
  have B_j := Lib.hid (new42 hV1)
  have B_z := Lib.hid (new43 hV1)
  obtain ⟨N_l, hN_l⟩ : ∃ N, N = w.heap.size := ⟨_, rfl⟩
  obtain ⟨N_h, hN_h⟩ : ∃ N, N = w.heap.size + 1 := ⟨_, rfl⟩
  obtain ⟨N_j, hN_j⟩ : ∃ N, N = w.heap.size + 1 + 1 := ⟨_, rfl⟩
  obtain ⟨N_z, hN_z⟩ : ∃ N, N = w.heap.size + 1 + 1 + 1 := ⟨_, rfl⟩
  (try rw [← hN_z])
  rw [← hN_z] at B_z
  (try rw [← hN_j])
  rw [← hN_j] at B_j
  (try rw [← hN_h])
  rw [← hN_h] at B_h
  (try rw [← hN_l])
  rw [← hN_l] at B_l
  have l_l : N_l < V1.heap.size := by omega
  have l_h : N_h < V1.heap.size := by omega
  have l_j : N_j < V1.heap.size := by omega
  have l_z : N_z < V1.heap.size := by omega
  have g_l : w.heap.size ≤ N_l := by omega
  have g_h : w.heap.size ≤ N_h := by omega
  have g_j : w.heap.size ≤ N_j := by omega
  have g_z : w.heap.size ≤ N_z := by omega
  have d_l_h : N_l < N_h := by omega
  have d_h_j : N_h < N_j := by omega
  have d_j_z : N_j < N_z := by omega
  replace hlow : w.heap.size ≤ V1.heap.size := by omega
  clear hV1 hzV1 hN_l hN_h hN_j hN_z
  obtain ⟨l0, l1, l2, l3, l4, l5, l6, l7, l8⟩ := cells9 B_l.out
  obtain ⟨j0, j1, j2, j3, j4, j5, j6, j7⟩ := cells8 B_j.out
  go_wp2_with fail
  refine (hL.out V1 HBel.out).mono ?_
  rintro e U2 ⟨hf, hb9⟩
  clear l0 l1 l2 l3 l4 l5 l6 l7 l8 j0 j1 j2 j3 j4 j5 j6 j7
  have hs9 := hb9.size
  replace HBel := Lib.hid (HBel.out.trans (hb9.mono hlow))
  replace B_l := Lib.hid ((hb9.block _ l_l).trans B_l.out)
  replace B_h := Lib.hid ((hb9.block _ l_h).trans B_h.out)
  replace B_j := Lib.hid ((hb9.block _ l_j).trans B_j.out)
  replace B_z := Lib.hid ((hb9.block _ l_z).trans B_z.out)
  replace l_l : N_l < U2.heap.size := by omega
  replace l_h : N_h < U2.heap.size := by omega
  replace l_j : N_j < U2.heap.size := by omega
  replace l_z : N_z < U2.heap.size := by omega
  replace hlow : w.heap.size ≤ U2.heap.size := by omega
  clear hb9 hs9
  rcases hf with ⟨h0, _⟩ | ⟨_, ⟨hq, rfl⟩ | ⟨U, hq, rfl⟩⟩
  ·rw [HO.out] at h0; cases h0
  ·obtain ⟨z0, z1, z2, z3⟩ := cells4 B_z.out
   have l_z_0 : N_z < U2.heap.size + 1 := by omega
   have zz0 : U2.frozen? ⟨N_z, 0, none⟩ = false := frozen_blk B_z.out
   have zz1 : U2.frozen? ⟨N_z, 1, none⟩ = false := frozen_blk B_z.out
   have zz2 : U2.frozen? ⟨N_z, 2, none⟩ = false := frozen_blk B_z.out
   have zz3 : U2.frozen? ⟨N_z, 3, none⟩ = false := frozen_blk B_z.out
   go_wp2_with fail
   clear z0 z1 z2 z3 l_z_0 zz0 zz1 zz2 zz3
   obtain ⟨S3, hS3⟩ : ∃ W, W = ((((U2).setCell ⟨N_z, 0, none⟩ (.int .i64 0)).setCell ⟨N_z, 1, none⟩ (.int .i64 0)).setCell ⟨N_z, 2, none⟩ (.int .u64 0)).setCell ⟨N_z, 3, none⟩ (.int .i64 0) := ⟨_, rfl⟩
   rw [← hS3]
   have hzS3 : S3.heap.size = U2.heap.size := by rw [hS3]; simp
   replace HBel : Hid (Below w.heap.size w S3) := Lib.hid (by rw [hS3]; exact ((((HBel.out.setCell (g_z) _).setCell (g_z) _).setCell (g_z) _).setCell (g_z) _))
   replace B_l := Lib.hid (blk_eq hS3 (((Below.heap_setCell _ _ _ _ (show N_l ≠ N_z by omega)).trans ((Below.heap_setCell _ _ _ _ (show N_l ≠ N_z by omega)).trans ((Below.heap_setCell _ _ _ _ (show N_l ≠ N_z by omega)).trans ((Below.heap_setCell _ _ _ _ (show N_l ≠ N_z by omega)).trans B_l.out))))))
   replace B_h := Lib.hid (blk_eq hS3 (((Below.heap_setCell _ _ _ _ (show N_h ≠ N_z by omega)).trans ((Below.heap_setCell _ _ _ _ (show N_h ≠ N_z by omega)).trans ((Below.heap_setCell _ _ _ _ (show N_h ≠ N_z by omega)).trans ((Below.heap_setCell _ _ _ _ (show N_h ≠ N_z by omega)).trans B_h.out))))))
   replace B_j := Lib.hid (blk_eq hS3 (((Below.heap_setCell _ _ _ _ (show N_j ≠ N_z by omega)).trans ((Below.heap_setCell _ _ _ _ (show N_j ≠ N_z by omega)).trans ((Below.heap_setCell _ _ _ _ (show N_j ≠ N_z by omega)).trans ((Below.heap_setCell _ _ _ _ (show N_j ≠ N_z by omega)).trans B_j.out))))))
   replace B_z : Hid (S3.heap[N_z]? = some (.cells #[.int .i64 0, .int .i64 0, .int .u64 0, .int .i64 0] 64 (0, 0))) := Lib.hid (by rw [hS3]; exact (blk_put (i := 3) _ (blk_put (i := 2) _ (blk_put (i := 1) _ (blk_put (i := 0) _ B_z.out)))))
   replace l_l : N_l < S3.heap.size := by omega
   replace l_h : N_h < S3.heap.size := by omega
   replace l_j : N_j < S3.heap.size := by omega
   replace l_z : N_z < S3.heap.size := by omega
   replace hlow : w.heap.size ≤ S3.heap.size := by omega
   clear hS3 hzS3
   obtain ⟨V4, hV4⟩ : ∃ W, W = S3.alloc (.cells #[.int .i64 0, .int .i64 0] 42) := ⟨_, rfl⟩
   rw [← hV4]
   have hzV4 : V4.heap.size = S3.heap.size + 1 := by rw [hV4]; simp
   replace HBel := Lib.hid (below_eq hV4 ((HBel.out.alloc (hlow) _)))
   replace B_l := Lib.hid (blk_eq hV4 (((Below.heap_alloc _ _ _ (by first | omega | (simp <;> omega))).trans B_l.out)))
   replace B_h := Lib.hid (blk_eq hV4 (((Below.heap_alloc _ _ _ (by first | omega | (simp <;> omega))).trans B_h.out)))
   replace B_j := Lib.hid (blk_eq hV4 (((Below.heap_alloc _ _ _ (by first | omega | (simp <;> omega))).trans B_j.out)))
   replace B_z := Lib.hid (blk_eq hV4 (((Below.heap_alloc _ _ _ (by first | omega | (simp <;> omega))).trans B_z.out)))
   have B_u := Lib.hid (new10 hV4)
   obtain ⟨N_u, hN_u⟩ : ∃ N, N = S3.heap.size := ⟨_, rfl⟩
   (try rw [← hN_u])
   rw [← hN_u] at B_u
   have d_l_u : N_l < N_u := by omega
   have d_h_u : N_h < N_u := by omega
   have d_j_u : N_j < N_u := by omega
   have d_z_u : N_z < N_u := by omega
   replace l_l : N_l < V4.heap.size := by omega
   replace l_h : N_h < V4.heap.size := by omega
   replace l_j : N_j < V4.heap.size := by omega
   replace l_z : N_z < V4.heap.size := by omega
   have l_u : N_u < V4.heap.size := by omega
   have g_u : w.heap.size ≤ N_u := by omega
   replace hlow : w.heap.size ≤ V4.heap.size := by omega
   clear hV4 hzV4 hN_u
   obtain ⟨z0, z1, z2, z3⟩ := cells4 B_z.out
   refine bodyPost_ret (v := .tuple #[.agg #[.int .i64 0, .int .i64 0, .int .u64 0, .int .i64 0], .int .i64 3]) (by simp [results, Tryz.results44, go_sem, z0, z1, z2, z3]) rfl ?_
   exact ⟨⟨⟨0, 0, 0, 0⟩, _, rfl, fun e => absurd e (by decide)⟩, by rw [HB0.out]; exact HBel.out⟩
  ·have HQ := Lib.hid hq
   clear hq
   by_cases hfull : x ≤ kh
   ·have t1 : decide (x ≤ kh) = true := decide_eq_true hfull
    clear hfull
    obtain ⟨h0, h1, h2, h3, h4⟩ := cells5 B_h.out
    have l_h_0 : N_h < U2.heap.size + 1 := by omega
    obtain ⟨j0, j1, j2, j3, j4, j5, j6, j7⟩ := cells8 B_j.out
    have l_j_0 : N_j < U2.heap.size + 1 := by omega
    obtain ⟨z0, z1, z2, z3⟩ := cells4 B_z.out
    have l_z_0 : N_z < U2.heap.size + 1 := by omega
    have zz0 : U2.frozen? ⟨N_z, 0, none⟩ = false := frozen_blk B_z.out
    have zz1 : U2.frozen? ⟨N_z, 1, none⟩ = false := frozen_blk B_z.out
    have zz2 : U2.frozen? ⟨N_z, 2, none⟩ = false := frozen_blk B_z.out
    have zz3 : U2.frozen? ⟨N_z, 3, none⟩ = false := frozen_blk B_z.out
    go_wp2_with fail
    clear h0 h1 h2 h3 h4 l_h_0 j0 j1 j2 j3 j4 j5 j6 j7 l_j_0 z0 z1 z2 z3 l_z_0 zz0 zz1 zz2 zz3
    obtain ⟨S3, hS3⟩ : ∃ W, W = ((((U2).setCell ⟨N_z, 0, none⟩ (.int .i64 0)).setCell ⟨N_z, 1, none⟩ (.int .i64 0)).setCell ⟨N_z, 2, none⟩ (.int .u64 0)).setCell ⟨N_z, 3, none⟩ (.int .i64 0) := ⟨_, rfl⟩
    rw [← hS3]
    have hzS3 : S3.heap.size = U2.heap.size := by rw [hS3]; simp
    replace HBel : Hid (Below w.heap.size w S3) := Lib.hid (by rw [hS3]; exact ((((HBel.out.setCell (g_z) _).setCell (g_z) _).setCell (g_z) _).setCell (g_z) _))
    replace B_l := Lib.hid (blk_eq hS3 (((Below.heap_setCell _ _ _ _ (show N_l ≠ N_z by omega)).trans ((Below.heap_setCell _ _ _ _ (show N_l ≠ N_z by omega)).trans ((Below.heap_setCell _ _ _ _ (show N_l ≠ N_z by omega)).trans ((Below.heap_setCell _ _ _ _ (show N_l ≠ N_z by omega)).trans B_l.out))))))
    replace B_h := Lib.hid (blk_eq hS3 (((Below.heap_setCell _ _ _ _ (show N_h ≠ N_z by omega)).trans ((Below.heap_setCell _ _ _ _ (show N_h ≠ N_z by omega)).trans ((Below.heap_setCell _ _ _ _ (show N_h ≠ N_z by omega)).trans ((Below.heap_setCell _ _ _ _ (show N_h ≠ N_z by omega)).trans B_h.out))))))
    replace B_j := Lib.hid (blk_eq hS3 (((Below.heap_setCell _ _ _ _ (show N_j ≠ N_z by omega)).trans ((Below.heap_setCell _ _ _ _ (show N_j ≠ N_z by omega)).trans ((Below.heap_setCell _ _ _ _ (show N_j ≠ N_z by omega)).trans ((Below.heap_setCell _ _ _ _ (show N_j ≠ N_z by omega)).trans B_j.out))))))
    replace B_z : Hid (S3.heap[N_z]? = some (.cells #[.int .i64 0, .int .i64 0, .int .u64 0, .int .i64 0] 64 (0, 0))) := Lib.hid (by rw [hS3]; exact (blk_put (i := 3) _ (blk_put (i := 2) _ (blk_put (i := 1) _ (blk_put (i := 0) _ B_z.out)))))
    replace l_l : N_l < S3.heap.size := by omega
    replace l_h : N_h < S3.heap.size := by omega
    replace l_j : N_j < S3.heap.size := by omega
    replace l_z : N_z < S3.heap.size := by omega
    replace hlow : w.heap.size ≤ S3.heap.size := by omega
    clear hS3 hzS3
    obtain ⟨V4, hV4⟩ : ∃ W, W = S3.alloc (.cells #[.int .i64 U.g, .int .i64 U.c] 42) := ⟨_, rfl⟩
    rw [← hV4]
    have hzV4 : V4.heap.size = S3.heap.size + 1 := by rw [hV4]; simp
    replace HBel := Lib.hid (below_eq hV4 ((HBel.out.alloc (hlow) _)))
    replace B_l := Lib.hid (blk_eq hV4 (((Below.heap_alloc _ _ _ (by first | omega | (simp <;> omega))).trans B_l.out)))
    replace B_h := Lib.hid (blk_eq hV4 (((Below.heap_alloc _ _ _ (by first | omega | (simp <;> omega))).trans B_h.out)))
    replace B_j := Lib.hid (blk_eq hV4 (((Below.heap_alloc _ _ _ (by first | omega | (simp <;> omega))).trans B_j.out)))
    replace B_z := Lib.hid (blk_eq hV4 (((Below.heap_alloc _ _ _ (by first | omega | (simp <;> omega))).trans B_z.out)))
    have B_u := Lib.hid (new10 hV4)
    obtain ⟨N_u, hN_u⟩ : ∃ N, N = S3.heap.size := ⟨_, rfl⟩
    (try rw [← hN_u])
    rw [← hN_u] at B_u
    have d_l_u : N_l < N_u := by omega
    have d_h_u : N_h < N_u := by omega
    have d_j_u : N_j < N_u := by omega
    have d_z_u : N_z < N_u := by omega
    replace l_l : N_l < V4.heap.size := by omega
    replace l_h : N_h < V4.heap.size := by omega
    replace l_j : N_j < V4.heap.size := by omega
    replace l_z : N_z < V4.heap.size := by omega
    have l_u : N_u < V4.heap.size := by omega
    have g_u : w.heap.size ≤ N_u := by omega
    replace hlow : w.heap.size ≤ V4.heap.size := by omega
    clear hV4 hzV4 hN_u
    obtain ⟨z0, z1, z2, z3⟩ := cells4 B_z.out
    refine bodyPost_ret (v := .tuple #[.agg #[.int .i64 0, .int .i64 0, .int .u64 0, .int .i64 0], .int .i64 2]) (by simp [results, Tryz.results44, go_sem, z0, z1, z2, z3]) rfl ?_
    exact ⟨⟨⟨0, 0, 0, 0⟩, _, rfl, fun e => absurd e (by decide)⟩, by rw [HB0.out]; exact HBel.out⟩
   ·have t1 : decide (x ≤ kh) = false := decide_eq_false hfull
    clear hfull
    obtain ⟨l0, l1, l2, l3, l4, l5, l6, l7, l8⟩ := cells9 B_l.out
    have l_l_0 : N_l < U2.heap.size + 1 := by omega
    obtain ⟨h0, h1, h2, h3, h4⟩ := cells5 B_h.out
    have l_h_0 : N_h < U2.heap.size + 1 := by omega
    obtain ⟨j0, j1, j2, j3, j4, j5, j6, j7⟩ := cells8 B_j.out
    have l_j_0 : N_j < U2.heap.size + 1 := by omega
    go_wp2_with fail
    clear l0 l1 l2 l3 l4 l5 l6 l7 l8 l_l_0 h0 h1 h2 h3 h4 l_h_0 j0 j1 j2 j3 j4 j5 j6 j7 l_j_0
    obtain ⟨V3, hV3⟩ : ∃ W, W = U2.alloc (.cells #[.int .i64 U.g, .int .i64 U.c] 42) := ⟨_, rfl⟩
    rw [← hV3]
    have hzV3 : V3.heap.size = U2.heap.size + 1 := by rw [hV3]; simp
    replace HBel := Lib.hid (below_eq hV3 ((HBel.out.alloc (hlow) _)))
    replace B_l := Lib.hid (blk_eq hV3 (((Below.heap_alloc _ _ _ (by first | omega | (simp <;> omega))).trans B_l.out)))
    replace B_h := Lib.hid (blk_eq hV3 (((Below.heap_alloc _ _ _ (by first | omega | (simp <;> omega))).trans B_h.out)))
    replace B_j := Lib.hid (blk_eq hV3 (((Below.heap_alloc _ _ _ (by first | omega | (simp <;> omega))).trans B_j.out)))
    replace B_z := Lib.hid (blk_eq hV3 (((Below.heap_alloc _ _ _ (by first | omega | (simp <;> omega))).trans B_z.out)))
    have B_u := Lib.hid (new10 hV3)
    obtain ⟨N_u, hN_u⟩ : ∃ N, N = U2.heap.size := ⟨_, rfl⟩
    (try rw [← hN_u])
    rw [← hN_u] at B_u
    have d_l_u : N_l < N_u := by omega
    have d_h_u : N_h < N_u := by omega
    have d_j_u : N_j < N_u := by omega
    have d_z_u : N_z < N_u := by omega
    replace l_l : N_l < V3.heap.size := by omega
    replace l_h : N_h < V3.heap.size := by omega
    replace l_j : N_j < V3.heap.size := by omega
    replace l_z : N_z < V3.heap.size := by omega
    have l_u : N_u < V3.heap.size := by omega
    have g_u : w.heap.size ≤ N_u := by omega
    replace hlow : w.heap.size ≤ V3.heap.size := by omega
    clear hV3 hzV3 hN_u
    refine (hP.out HO.out U V3 HBel.out).mono ?_
    rintro e U4 ⟨⟨A, k, c, r, rfl, hR, hS⟩, hb9⟩
    have hs9 := hb9.size
    have HR := Lib.hid hR
    have HS := Lib.hid hS
    have hE9 := hb9
    clear hR hS hE9
    replace HBel := Lib.hid (HBel.out.trans (hb9.mono hlow))
    replace B_l := Lib.hid ((hb9.block _ l_l).trans B_l.out)
    replace B_h := Lib.hid ((hb9.block _ l_h).trans B_h.out)
    replace B_j := Lib.hid ((hb9.block _ l_j).trans B_j.out)
    replace B_z := Lib.hid ((hb9.block _ l_z).trans B_z.out)
    replace B_u := Lib.hid ((hb9.block _ l_u).trans B_u.out)
    replace l_l : N_l < U4.heap.size := by omega
    replace l_h : N_h < U4.heap.size := by omega
    replace l_j : N_j < U4.heap.size := by omega
    replace l_z : N_z < U4.heap.size := by omega
    replace l_u : N_u < U4.heap.size := by omega
    replace hlow : w.heap.size ≤ U4.heap.size := by omega
    clear hb9 hs9
    by_cases hr : r = 0
    ·subst hr
     obtain ⟨hk1, hk2, hk3, hfe⟩ := HS.out rfl
     have hroom : 1 ≤ roomF j.S L.lv := (plE_zero.1 HR.out.symm).1
     have hlen : (placeF j.S L.lv 1).length = 1 := placeF_len hroom
     rw [hlen] at hk1
     subst hk1
     obtain ⟨s, hs⟩ := List.length_eq_one_iff.1 hlen
     have hsok : FeOk s := (placeL_ok HX.out.2 HX.out.1 _ _ s (show s ∈ placeF j.S L.lv 1 by rw [hs]; simp)).1
     have HG := Lib.hid (show ∃ U, leftL L j.q = some U ∧ plE j.S L.lv U.g U.c 1 = 0 ∧ placeF j.S L.lv 1 = [s] from ⟨U, HQ.out, HR.out.symm, hs⟩)
     rw [hs] at hfe
     rcases id hfe with h0 | ⟨b, off, rfl, hbl, hc⟩
     ·simp at h0
     have hfa := hc 0 s rfl
     rw [Nat.zero_mul, Nat.add_zero] at hfa
     have HA := Lib.hid (And.intro hfa (And.intro hbl (And.intro hsok (And.intro hfe (And.intro hk2 hk3)))))
     clear hroom hlen hs hsok hfe hbl hc hfa hk2 hk3
     obtain ⟨l0, l1, l2, l3, l4, l5, l6, l7, l8⟩ := cells9 B_l.out
     obtain ⟨j0, j1, j2, j3, j4, j5, j6, j7⟩ := cells8 B_j.out
     obtain ⟨h0, h1, h2, h3, h4⟩ := cells5 B_h.out
     go_wp2_with fail
     refine (hLe.out (some ⟨b, off, none⟩) c [s] U4 HBel.out HA.out.2.2.2.1 (fun y hy => by rw [List.mem_singleton.1 hy]; exact HA.out.2.2.1) rfl HA.out.2.2.2.2.1 HA.out.2.2.2.2.2).mono ?_
     rintro e U5 ⟨r2, rfl, hr2, hb9⟩
     clear l0 l1 l2 l3 l4 l5 l6 l7 l8 j0 j1 j2 j3 j4 j5 j6 j7 h0 h1 h2 h3 h4
     have hs9 := hb9.size
     have HL2 := Lib.hid hr2
     have HA2 := Lib.hid (show FeAt U5 b off s from HA.out.1.keep HA.out.2.1 hb9)
     clear hr2
     replace HBel := Lib.hid (HBel.out.trans (hb9.mono hlow))
     replace B_l := Lib.hid ((hb9.block _ l_l).trans B_l.out)
     replace B_h := Lib.hid ((hb9.block _ l_h).trans B_h.out)
     replace B_j := Lib.hid ((hb9.block _ l_j).trans B_j.out)
     replace B_z := Lib.hid ((hb9.block _ l_z).trans B_z.out)
     replace B_u := Lib.hid ((hb9.block _ l_u).trans B_u.out)
     replace l_l : N_l < U5.heap.size := by omega
     replace l_h : N_h < U5.heap.size := by omega
     replace l_j : N_j < U5.heap.size := by omega
     replace l_z : N_z < U5.heap.size := by omega
     replace l_u : N_u < U5.heap.size := by omega
     replace hlow : w.heap.size ≤ U5.heap.size := by omega
     clear hb9 hs9
     by_cases hr : r2 = 0
     ·subst hr
      obtain ⟨a0, a1, a2, a3⟩ := HA2.out
      obtain ⟨z0, z1, z2, z3⟩ := cells4 B_z.out
      have zz0 : U5.frozen? ⟨N_z, 0, none⟩ = false := frozen_blk B_z.out
      have zz1 : U5.frozen? ⟨N_z, 1, none⟩ = false := frozen_blk B_z.out
      have zz2 : U5.frozen? ⟨N_z, 2, none⟩ = false := frozen_blk B_z.out
      have zz3 : U5.frozen? ⟨N_z, 3, none⟩ = false := frozen_blk B_z.out
      go_wp2_with fail
      clear z0 z1 z2 z3 zz0 zz1 zz2 zz3
      obtain ⟨S6, hS6⟩ : ∃ W, W = ((((U5).setCell ⟨N_z, 0, none⟩ (.int .i64 s.n)).setCell ⟨N_z, 1, none⟩ (.int .i64 s.d)).setCell ⟨N_z, 2, none⟩ (.int .u64 (s.m : Nat))).setCell ⟨N_z, 3, none⟩ (.int .i64 s.c) := ⟨_, rfl⟩
      rw [← hS6]
      have hzS6 : S6.heap.size = U5.heap.size := by rw [hS6]; simp
      replace HBel : Hid (Below w.heap.size w S6) := Lib.hid (by rw [hS6]; exact ((((HBel.out.setCell (g_z) _).setCell (g_z) _).setCell (g_z) _).setCell (g_z) _))
      replace B_l := Lib.hid (blk_eq hS6 (((Below.heap_setCell _ _ _ _ (show N_l ≠ N_z by omega)).trans ((Below.heap_setCell _ _ _ _ (show N_l ≠ N_z by omega)).trans ((Below.heap_setCell _ _ _ _ (show N_l ≠ N_z by omega)).trans ((Below.heap_setCell _ _ _ _ (show N_l ≠ N_z by omega)).trans B_l.out))))))
      replace B_h := Lib.hid (blk_eq hS6 (((Below.heap_setCell _ _ _ _ (show N_h ≠ N_z by omega)).trans ((Below.heap_setCell _ _ _ _ (show N_h ≠ N_z by omega)).trans ((Below.heap_setCell _ _ _ _ (show N_h ≠ N_z by omega)).trans ((Below.heap_setCell _ _ _ _ (show N_h ≠ N_z by omega)).trans B_h.out))))))
      replace B_j := Lib.hid (blk_eq hS6 (((Below.heap_setCell _ _ _ _ (show N_j ≠ N_z by omega)).trans ((Below.heap_setCell _ _ _ _ (show N_j ≠ N_z by omega)).trans ((Below.heap_setCell _ _ _ _ (show N_j ≠ N_z by omega)).trans ((Below.heap_setCell _ _ _ _ (show N_j ≠ N_z by omega)).trans B_j.out))))))
      replace B_u := Lib.hid (blk_eq hS6 (((Below.heap_setCell _ _ _ _ (show N_u ≠ N_z by omega)).trans ((Below.heap_setCell _ _ _ _ (show N_u ≠ N_z by omega)).trans ((Below.heap_setCell _ _ _ _ (show N_u ≠ N_z by omega)).trans ((Below.heap_setCell _ _ _ _ (show N_u ≠ N_z by omega)).trans B_u.out))))))
      replace B_z : Hid (S6.heap[N_z]? = some (.cells #[.int .i64 s.n, .int .i64 s.d, .int .u64 (s.m : Nat), .int .i64 s.c] 64 (0, 0))) := Lib.hid (by rw [hS6]; exact (blk_put (i := 3) _ (blk_put (i := 2) _ (blk_put (i := 1) _ (blk_put (i := 0) _ B_z.out)))))
      replace l_l : N_l < S6.heap.size := by omega
      replace l_h : N_h < S6.heap.size := by omega
      replace l_j : N_j < S6.heap.size := by omega
      replace l_z : N_z < S6.heap.size := by omega
      replace l_u : N_u < S6.heap.size := by omega
      replace hlow : w.heap.size ≤ S6.heap.size := by omega
      clear hS6 hzS6
      obtain ⟨z0, z1, z2, z3⟩ := cells4 B_z.out
      refine bodyPost_ret (v := .tuple #[.agg #[.int .i64 s.n, .int .i64 s.d, .int .u64 (s.m : Nat), .int .i64 s.c], .int .i64 0]) (by simp [results, Tryz.results44, go_sem, z0, z1, z2, z3]) rfl ?_
      exact ⟨⟨s, 0, rfl, fun _ => ⟨HA.out.2.2.1, HL2.out, HO.out, HG.out⟩⟩, by rw [HB0.out]; exact HBel.out⟩
     ·have t2 : (r2 != 0) = true := by simp [hr]
      have HN := Lib.hid hr
      clear hr
      obtain ⟨z0, z1, z2, z3⟩ := cells4 B_z.out
      have zz0 : U5.frozen? ⟨N_z, 0, none⟩ = false := frozen_blk B_z.out
      have zz1 : U5.frozen? ⟨N_z, 1, none⟩ = false := frozen_blk B_z.out
      have zz2 : U5.frozen? ⟨N_z, 2, none⟩ = false := frozen_blk B_z.out
      have zz3 : U5.frozen? ⟨N_z, 3, none⟩ = false := frozen_blk B_z.out
      go_wp2_with fail
      clear z0 z1 z2 z3 zz0 zz1 zz2 zz3
      obtain ⟨S6, hS6⟩ : ∃ W, W = ((((U5).setCell ⟨N_z, 0, none⟩ (.int .i64 0)).setCell ⟨N_z, 1, none⟩ (.int .i64 0)).setCell ⟨N_z, 2, none⟩ (.int .u64 0)).setCell ⟨N_z, 3, none⟩ (.int .i64 0) := ⟨_, rfl⟩
      rw [← hS6]
      have hzS6 : S6.heap.size = U5.heap.size := by rw [hS6]; simp
      replace HBel : Hid (Below w.heap.size w S6) := Lib.hid (by rw [hS6]; exact ((((HBel.out.setCell (g_z) _).setCell (g_z) _).setCell (g_z) _).setCell (g_z) _))
      replace B_l := Lib.hid (blk_eq hS6 (((Below.heap_setCell _ _ _ _ (show N_l ≠ N_z by omega)).trans ((Below.heap_setCell _ _ _ _ (show N_l ≠ N_z by omega)).trans ((Below.heap_setCell _ _ _ _ (show N_l ≠ N_z by omega)).trans ((Below.heap_setCell _ _ _ _ (show N_l ≠ N_z by omega)).trans B_l.out))))))
      replace B_h := Lib.hid (blk_eq hS6 (((Below.heap_setCell _ _ _ _ (show N_h ≠ N_z by omega)).trans ((Below.heap_setCell _ _ _ _ (show N_h ≠ N_z by omega)).trans ((Below.heap_setCell _ _ _ _ (show N_h ≠ N_z by omega)).trans ((Below.heap_setCell _ _ _ _ (show N_h ≠ N_z by omega)).trans B_h.out))))))
      replace B_j := Lib.hid (blk_eq hS6 (((Below.heap_setCell _ _ _ _ (show N_j ≠ N_z by omega)).trans ((Below.heap_setCell _ _ _ _ (show N_j ≠ N_z by omega)).trans ((Below.heap_setCell _ _ _ _ (show N_j ≠ N_z by omega)).trans ((Below.heap_setCell _ _ _ _ (show N_j ≠ N_z by omega)).trans B_j.out))))))
      replace B_u := Lib.hid (blk_eq hS6 (((Below.heap_setCell _ _ _ _ (show N_u ≠ N_z by omega)).trans ((Below.heap_setCell _ _ _ _ (show N_u ≠ N_z by omega)).trans ((Below.heap_setCell _ _ _ _ (show N_u ≠ N_z by omega)).trans ((Below.heap_setCell _ _ _ _ (show N_u ≠ N_z by omega)).trans B_u.out))))))
      replace B_z : Hid (S6.heap[N_z]? = some (.cells #[.int .i64 0, .int .i64 0, .int .u64 0, .int .i64 0] 64 (0, 0))) := Lib.hid (by rw [hS6]; exact (blk_put (i := 3) _ (blk_put (i := 2) _ (blk_put (i := 1) _ (blk_put (i := 0) _ B_z.out)))))
      replace l_l : N_l < S6.heap.size := by omega
      replace l_h : N_h < S6.heap.size := by omega
      replace l_j : N_j < S6.heap.size := by omega
      replace l_z : N_z < S6.heap.size := by omega
      replace l_u : N_u < S6.heap.size := by omega
      replace hlow : w.heap.size ≤ S6.heap.size := by omega
      clear hS6 hzS6
      obtain ⟨z0, z1, z2, z3⟩ := cells4 B_z.out
      refine bodyPost_ret (v := .tuple #[.agg #[.int .i64 0, .int .i64 0, .int .u64 0, .int .i64 0], .int .i64 r2]) (by simp [results, Tryz.results44, go_sem, z0, z1, z2, z3]) rfl ?_
      exact ⟨⟨⟨0, 0, 0, 0⟩, _, rfl, fun e => absurd e (HN.out)⟩, by rw [HB0.out]; exact HBel.out⟩
    ·have t2 : (r != 0) = true := by simp [hr]
     have HN := Lib.hid hr
     clear hr
     obtain ⟨z0, z1, z2, z3⟩ := cells4 B_z.out
     have zz0 : U4.frozen? ⟨N_z, 0, none⟩ = false := frozen_blk B_z.out
     have zz1 : U4.frozen? ⟨N_z, 1, none⟩ = false := frozen_blk B_z.out
     have zz2 : U4.frozen? ⟨N_z, 2, none⟩ = false := frozen_blk B_z.out
     have zz3 : U4.frozen? ⟨N_z, 3, none⟩ = false := frozen_blk B_z.out
     go_wp2_with fail
     clear z0 z1 z2 z3 zz0 zz1 zz2 zz3
     obtain ⟨S5, hS5⟩ : ∃ W, W = ((((U4).setCell ⟨N_z, 0, none⟩ (.int .i64 0)).setCell ⟨N_z, 1, none⟩ (.int .i64 0)).setCell ⟨N_z, 2, none⟩ (.int .u64 0)).setCell ⟨N_z, 3, none⟩ (.int .i64 0) := ⟨_, rfl⟩
     rw [← hS5]
     have hzS5 : S5.heap.size = U4.heap.size := by rw [hS5]; simp
     replace HBel : Hid (Below w.heap.size w S5) := Lib.hid (by rw [hS5]; exact ((((HBel.out.setCell (g_z) _).setCell (g_z) _).setCell (g_z) _).setCell (g_z) _))
     replace B_l := Lib.hid (blk_eq hS5 (((Below.heap_setCell _ _ _ _ (show N_l ≠ N_z by omega)).trans ((Below.heap_setCell _ _ _ _ (show N_l ≠ N_z by omega)).trans ((Below.heap_setCell _ _ _ _ (show N_l ≠ N_z by omega)).trans ((Below.heap_setCell _ _ _ _ (show N_l ≠ N_z by omega)).trans B_l.out))))))
     replace B_h := Lib.hid (blk_eq hS5 (((Below.heap_setCell _ _ _ _ (show N_h ≠ N_z by omega)).trans ((Below.heap_setCell _ _ _ _ (show N_h ≠ N_z by omega)).trans ((Below.heap_setCell _ _ _ _ (show N_h ≠ N_z by omega)).trans ((Below.heap_setCell _ _ _ _ (show N_h ≠ N_z by omega)).trans B_h.out))))))
     replace B_j := Lib.hid (blk_eq hS5 (((Below.heap_setCell _ _ _ _ (show N_j ≠ N_z by omega)).trans ((Below.heap_setCell _ _ _ _ (show N_j ≠ N_z by omega)).trans ((Below.heap_setCell _ _ _ _ (show N_j ≠ N_z by omega)).trans ((Below.heap_setCell _ _ _ _ (show N_j ≠ N_z by omega)).trans B_j.out))))))
     replace B_u := Lib.hid (blk_eq hS5 (((Below.heap_setCell _ _ _ _ (show N_u ≠ N_z by omega)).trans ((Below.heap_setCell _ _ _ _ (show N_u ≠ N_z by omega)).trans ((Below.heap_setCell _ _ _ _ (show N_u ≠ N_z by omega)).trans ((Below.heap_setCell _ _ _ _ (show N_u ≠ N_z by omega)).trans B_u.out))))))
     replace B_z : Hid (S5.heap[N_z]? = some (.cells #[.int .i64 0, .int .i64 0, .int .u64 0, .int .i64 0] 64 (0, 0))) := Lib.hid (by rw [hS5]; exact (blk_put (i := 3) _ (blk_put (i := 2) _ (blk_put (i := 1) _ (blk_put (i := 0) _ B_z.out)))))
     replace l_l : N_l < S5.heap.size := by omega
     replace l_h : N_h < S5.heap.size := by omega
     replace l_j : N_j < S5.heap.size := by omega
     replace l_z : N_z < S5.heap.size := by omega
     replace l_u : N_u < S5.heap.size := by omega
     replace hlow : w.heap.size ≤ S5.heap.size := by omega
     clear hS5 hzS5
     obtain ⟨z0, z1, z2, z3⟩ := cells4 B_z.out
     refine bodyPost_ret (v := .tuple #[.agg #[.int .i64 0, .int .i64 0, .int .u64 0, .int .i64 0], .int .i64 r]) (by simp [results, Tryz.results44, go_sem, z0, z1, z2, z3]) rfl ?_
     exact ⟨⟨⟨0, 0, 0, 0⟩, _, rfl, fun e => absurd e (HN.out)⟩, by rw [HB0.out]; exact HBel.out⟩
end Go.Proofs.YthnjbhkhmoddpaaGreatDoor
