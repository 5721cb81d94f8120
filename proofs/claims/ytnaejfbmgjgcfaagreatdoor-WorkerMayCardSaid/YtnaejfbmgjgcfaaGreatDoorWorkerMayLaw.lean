/- What is chosen can be taken, and is no more than is left; it is of one that waits, or runs, as many members as may be; a rest takes nothing: the law WorkerMay answers true, at every input. The library's table of lowest units is as the program's text lays it (tied). -/
import Derived.RegionTactic
import Derived.BigRegion
import Derived.Test.YtnaejfbmgjgcfaaGreatDoorWkS
import Derived.Test.YtnaejfbmgjgcfaaGreatDoorWkT
import Derived.Test.YtnaejfbmgjgcfaaGreatDoorFilRefL
import Derived.Test.YtnaejfbmgjgcfaaGreatDoorProU
import Derived.SevenTiedAt
import Derived.Test.YtnaejfbmgjgcfaaGreatDoorTie
import Derived.Test.YtnaejfbmgjgcfaaGreatDoorCards
set_option linter.unusedVariables false
namespace Go.Proofs.YtnaejfbmgjgcfaaGreatDoor.workerMay
open Go Go.ChangeShapes Go.WideShapes Go.ChangeAt Go.RowKit
open PR
theorem choice_rest {L : Lk} {id : Int} {s : List Fe} (h : ChoiceR L 0 id s) : id = 0 ∧ s = [] := by
 rcases h with ⟨e, _⟩ | ⟨_, ⟨e, _⟩ | ⟨_, ⟨e, _⟩ | ⟨_, h⟩⟩⟩
 ·exact absurd e (by decide)
 ·exact absurd e (by decide)
 ·exact absurd e (by decide)
 ·exact h
theorem fit_low {L : Lk} {j : Jb} {n : Nat} {s : List Fe} (hW : LkW L) (hj : JbW j) (h : FitR L j n s) : Low s := by
 obtain ⟨h1, rfl, _⟩ := h
 intro f hf
 obtain ⟨a, _, c⟩ := placeL_ok hj.S hW.v _ _ f hf
 unfold Shp.ok at h1
 simp at h1
 exact ⟨a, by rw [c]; omega, by rw [c]; omega⟩
set_option maxRecDepth 100000 in
set_option maxHeartbeats 16000000 in
theorem walk (L : Lk) (w : World) (v0 : LkIn w w.heap.size L) (q0 : LkW L) (hT : Tab w) :
  Calls Tryz.prog 3 #[lkV L] w fun e w' => e = .returned (.bool true) ∧ Below w.heap.size w w' := by
 obtain ⟨n1, hn1⟩ : ∃ n, n = L.lv.length := ⟨_, rfl⟩
 obtain ⟨n2, hn2⟩ : ∃ n, n = L.lf.length := ⟨_, rfl⟩
 obtain ⟨n3, hn3⟩ : ∃ n, n = L.le.length := ⟨_, rfl⟩
 obtain ⟨n4, hn4⟩ : ∃ n, n = L.lw.length := ⟨_, rfl⟩
 obtain ⟨n5, hn5⟩ : ∃ n, n = L.lr.length := ⟨_, rfl⟩
 have HT := Lib.hid hT
 have hAw := Lib.hid (fun W (hT : Tab W) => awake15 W hT)
 have hFw := Lib.hid (fun W (hk : Below w.heap.size w W) => show Calls Tryz.prog 5 #[.agg #[.int .i64 L.now, .int .i64 L.hd, .int .i64 L.pr, .int .i64 L.to, .slice L.A1 n1 L.c1, .slice L.A2 n2 L.c2, .slice L.A3 n3 L.c3, .slice L.A4 n4 L.c4, .slice L.A5 n5 L.c5]] W (fun e w' => ∃ b, e = .returned (.bool b) ∧ (b = true → WkF L) ∧ Below W.heap.size W w') from by
  have h9 := few15_any L W (v0.keep hk hk.size) q0
  unfold lkV lkA at h9
  rw [← hn1, ← hn2, ← hn3, ← hn4, ← hn5] at h9
  exact h9)
 have hCh := Lib.hid (fun (hF : WkF L) W (hk : Below w.heap.size w W) => show Calls Tryz.prog 6 #[.agg #[.int .i64 L.now, .int .i64 L.hd, .int .i64 L.pr, .int .i64 L.to, .slice L.A1 n1 L.c1, .slice L.A2 n2 L.c2, .slice L.A3 n3 L.c3, .slice L.A4 n4 L.c4, .slice L.A5 n5 L.c5]] W (fun e w' => ChooseJ L w' e ∧ Below W.heap.size W w') from by
  have h9 := choose_any L W (v0.keep hk hk.size) q0 hF (hT.below hk hT.size)
  unfold lkV lkA at h9
  rw [← hn1, ← hn2, ← hn3, ← hn4, ← hn5] at h9
  exact h9)
 have hJo := Lib.hid (fun (d id : Int) (A : Option Addr) (kc c : Nat) W (hk : Below w.heap.size w W) => show Calls Tryz.prog 7 #[.agg #[.int .i64 L.now, .int .i64 L.hd, .int .i64 L.pr, .int .i64 L.to, .slice L.A1 n1 L.c1, .slice L.A2 n2 L.c2, .slice L.A3 n3 L.c3, .slice L.A4 n4 L.c4, .slice L.A5 n5 L.c5], .agg #[.int .i64 d, .int .i64 id, .slice A kc c]] W (fun e w' => JobR (jobL L d id) e ∧ Below W.heap.size W w') from by
  have h9 := job_any L d id A kc c W (v0.keep hk hk.size) q0
  unfold lkV lkA at h9
  rw [← hn1, ← hn2, ← hn3, ← hn4, ← hn5] at h9
  exact h9)
 have hTw := Lib.hid (fun W (hk : Below w.heap.size w W) => show Calls Tryz.prog 8 #[.agg #[.int .i64 L.now, .int .i64 L.hd, .int .i64 L.pr, .int .i64 L.to, .slice L.A1 n1 L.c1, .slice L.A2 n2 L.c2, .slice L.A3 n3 L.c3, .slice L.A4 n4 L.c4, .slice L.A5 n5 L.c5]] W (fun e w' => ∃ b, e = .returned (.bool b) ∧ (b = false → Once L) ∧ Below W.heap.size W w') from by
  have h9 := twice_any L W (v0.keep hk hk.size) q0
  unfold lkV lkA at h9
  rw [← hn1, ← hn2, ← hn3, ← hn4, ← hn5] at h9
  exact h9)
 have hUn := Lib.hid (fun (A : Option Addr) (kc c : Nat) (s : List Fe) (hs : kc = s.length) (hn9 : kc ≤ 1000) (hso : Low s) W (h9 : Fes W W.heap.size A s) => show Calls Tryz.prog 9 #[.slice A kc c] W (fun e w' => e = .returned (.agg #[.int .i64 (gs s : Nat), .int .i64 (cs s)]) ∧ Below W.heap.size W w') from by
  rw [hs]
  exact refunits8_any A c s W h9 hso (by omega))
 have hLe := Lib.hid (fun (hF : WkF L) (A : Option Addr) (kc c : Nat) (s : List Fe) (hs : kc = s.length) (hn9 : kc ≤ 1000) (hso : ∀ f ∈ s, FeOk f) (h0 : (turnL lessC L.lv s).1 = 0) W (hk : Below w.heap.size w W) (h9 : Fes W W.heap.size A s) => show Calls Tryz.prog 10 #[.slice L.A1 n1 L.c1, .slice A kc c] W (fun e w' => ∃ V, e = .returned (.tuple #[V, .int .i64 0]) ∧ Below W.heap.size W w') from by
  rw [hs, hn1]
  refine (refless05_any L.A1 L.c1 L.lv A c s W (v0.v.keep hk hk.size) hF.f.v (by have := hF.f.n; omega) h9 hso (by omega)).mono ?_
  rintro e w' ⟨hb, A', c', _, rfl⟩
  exact ⟨_, by rw [h0], hb⟩)
 have HV := Lib.hid (And.intro hn2 (And.intro q0 v0.f))
 unfold lkV lkA
 rw [← hn1, ← hn2, ← hn3, ← hn4, ← hn5]
 clear hn1 hn2 hn3 hn4 hn5 v0 q0 hT
 obtain ⟨B0, hB0⟩ : ∃ B, B = w.heap.size := ⟨_, rfl⟩
 rw [← hB0]
 have HB0 := Lib.hid hB0
 clear hB0
 have HBel := Lib.hid (Below.refl w.heap.size w)
 have hlow : w.heap.size ≤ w.heap.size := Nat.le_refl _
 go_enter Tryz.func3, Tryz.ntmps3
 go_wp2_with fail
 obtain ⟨V1, hV1⟩ : ∃ W, W = w.alloc (.cells #[.int .i64 L.now, .int .i64 L.hd, .int .i64 L.pr, .int .i64 L.to, .slice L.A1 n1 L.c1, .slice L.A2 n2 L.c2, .slice L.A3 n3 L.c3, .slice L.A4 n4 L.c4, .slice L.A5 n5 L.c5] 28) := ⟨_, rfl⟩
 rw [← hV1]
 have hzV1 : V1.heap.size = w.heap.size + 1 := by rw [hV1]; simp
 replace HBel := Lib.hid (below_eq hV1 ((HBel.out.alloc (hlow) _)))
 have B_l := Lib.hid (new10 hV1)
 obtain ⟨N_l, hN_l⟩ : ∃ N, N = w.heap.size := ⟨_, rfl⟩
 (try rw [← hN_l])
 rw [← hN_l] at B_l
 have l_l : N_l < V1.heap.size := by omega
 have g_l : w.heap.size ≤ N_l := by omega
 replace hlow : w.heap.size ≤ V1.heap.size := by omega
 clear hV1 hzV1 hN_l
 refine (hAw.out V1 (HT.out.below HBel.out HT.out.size)).mono ?_
 rintro e U2 ⟨rfl, hb9⟩
 have hs9 := hb9.size
 replace HBel := Lib.hid (HBel.out.trans (hb9.mono hlow))
 replace B_l := Lib.hid ((hb9.block _ l_l).trans B_l.out)
 replace l_l : N_l < U2.heap.size := by omega
 replace hlow : w.heap.size ≤ U2.heap.size := by omega
 clear hb9 hs9
 obtain ⟨l0, l1, l2, l3, l4, l5, l6, l7, l8⟩ := cells9 B_l.out
 go_wp2_with fail
 refine (hFw.out U2 HBel.out).mono ?_
 rintro e U3 ⟨b, rfl, hf, hb9⟩
 clear l0 l1 l2 l3 l4 l5 l6 l7 l8
 have hs9 := hb9.size
 replace HBel := Lib.hid (HBel.out.trans (hb9.mono hlow))
 replace B_l := Lib.hid ((hb9.block _ l_l).trans B_l.out)
 replace l_l : N_l < U3.heap.size := by omega
 replace hlow : w.heap.size ≤ U3.heap.size := by omega
 clear hb9 hs9
 cases b
 ·clear hf
  go_wp2
  go_ret
  exact ⟨by first | rfl | (simp; done), by rw [HB0.out]; exact HBel.out⟩
 ·have HF := Lib.hid (hf rfl)
  clear hf
  obtain ⟨l0, l1, l2, l3, l4, l5, l6, l7, l8⟩ := cells9 B_l.out
  go_wp2_with fail
  refine (hCh.out HF.out U3 HBel.out).mono ?_
  rintro e U4 ⟨⟨d, id, sl, A, kc, c, rfl, hc, hk, hkc, hcm, hfe⟩, hb9⟩
  clear l0 l1 l2 l3 l4 l5 l6 l7 l8
  have hs9 := hb9.size
  have HC := Lib.hid hc
  have HK := Lib.hid (And.intro hk (And.intro hkc hcm))
  have HS := Lib.hid hfe
  clear hc hk hkc hcm hfe
  replace HBel := Lib.hid (HBel.out.trans (hb9.mono hlow))
  replace B_l := Lib.hid ((hb9.block _ l_l).trans B_l.out)
  replace l_l : N_l < U4.heap.size := by omega
  replace hlow : w.heap.size ≤ U4.heap.size := by omega
  clear hb9 hs9
  have HB_m := Lib.hid (Below.refl U4.heap.size U4)
  have hl_m : U4.heap.size ≤ U4.heap.size := Nat.le_refl _
  by_cases hd : d = 0
  ·subst hd
   obtain ⟨rfl, rfl⟩ := choice_rest HC.out
   obtain rfl := HK.out.1
   go_wp2_with fail
   obtain ⟨V5, hV5⟩ : ∃ W, W = U4.alloc (.cells #[.int .i64 0, .int .i64 0, .slice A 0 c] 33) := ⟨_, rfl⟩
   rw [← hV5]
   have hzV5 : V5.heap.size = U4.heap.size + 1 := by rw [hV5]; simp
   replace HBel := Lib.hid (below_eq hV5 ((HBel.out.alloc (hlow) _)))
   replace B_l := Lib.hid (blk_eq hV5 (((Below.heap_alloc _ _ _ (by first | omega | (simp <;> omega))).trans B_l.out)))
   have B_c := Lib.hid (new10 hV5)
   obtain ⟨N_c, hN_c⟩ : ∃ N, N = U4.heap.size := ⟨_, rfl⟩
   (try rw [← hN_c])
   rw [← hN_c] at B_c
   have d_l_c : N_l < N_c := by omega
   replace l_l : N_l < V5.heap.size := by omega
   have l_c : N_c < V5.heap.size := by omega
   have g_c : w.heap.size ≤ N_c := by omega
   replace hlow : w.heap.size ≤ V5.heap.size := by omega
   replace HB_m := Lib.hid (below_eq hV5 ((HB_m.out.alloc (hl_m) _)))
   replace hl_m : U4.heap.size ≤ V5.heap.size := by omega
   clear hV5 hzV5 hN_c
   obtain ⟨c0, c1, c2⟩ := cells3 B_c.out
   go_wp2
   clear c0 c1 c2
   go_ret
   exact ⟨by first | rfl | (simp; done), by rw [HB0.out]; exact HBel.out⟩
  ·have HD := Lib.hid hd
   have t0 : (d == 0) = false := by simp [hd]
   obtain ⟨hd3, j, hj, hjw, hji⟩ := HC.out.job HV.out.2.1 hd
   have HJ := Lib.hid (And.intro hj (And.intro hjw hji))
   have t1 : decide (d < 1) = false := decide_eq_false (by omega)
   have t2 : decide (3 < d) = false := decide_eq_false (by omega)
   clear hd hd3 hj hjw hji
   obtain ⟨l0, l1, l2, l3, l4, l5, l6, l7, l8⟩ := cells9 B_l.out
   have l_l_0 : N_l < U4.heap.size + 1 := by omega
   go_wp2_with fail
   clear l0 l1 l2 l3 l4 l5 l6 l7 l8 l_l_0
   obtain ⟨V5, hV5⟩ : ∃ W, W = U4.alloc (.cells #[.int .i64 d, .int .i64 id, .slice A kc c] 33) := ⟨_, rfl⟩
   rw [← hV5]
   have hzV5 : V5.heap.size = U4.heap.size + 1 := by rw [hV5]; simp
   replace HBel := Lib.hid (below_eq hV5 ((HBel.out.alloc (hlow) _)))
   replace B_l := Lib.hid (blk_eq hV5 (((Below.heap_alloc _ _ _ (by first | omega | (simp <;> omega))).trans B_l.out)))
   have B_c := Lib.hid (new10 hV5)
   obtain ⟨N_c, hN_c⟩ : ∃ N, N = U4.heap.size := ⟨_, rfl⟩
   (try rw [← hN_c])
   rw [← hN_c] at B_c
   have d_l_c : N_l < N_c := by omega
   replace l_l : N_l < V5.heap.size := by omega
   have l_c : N_c < V5.heap.size := by omega
   have g_c : w.heap.size ≤ N_c := by omega
   replace hlow : w.heap.size ≤ V5.heap.size := by omega
   replace HB_m := Lib.hid (below_eq hV5 ((HB_m.out.alloc (hl_m) _)))
   replace hl_m : U4.heap.size ≤ V5.heap.size := by omega
   clear hV5 hzV5 hN_c
   refine (hJo.out d id A kc c V5 HBel.out).mono ?_
   rintro e U6 ⟨hj, hb9⟩
   have hs9 := hb9.size
   replace HB_m := Lib.hid (HB_m.out.trans (hb9.mono hl_m))
   replace hl_m : U4.heap.size ≤ U6.heap.size := by omega
   replace HBel := Lib.hid (HBel.out.trans (hb9.mono hlow))
   replace B_l := Lib.hid ((hb9.block _ l_l).trans B_l.out)
   replace B_c := Lib.hid ((hb9.block _ l_c).trans B_c.out)
   replace l_l : N_l < U6.heap.size := by omega
   replace l_c : N_c < U6.heap.size := by omega
   replace hlow : w.heap.size ≤ U6.heap.size := by omega
   clear hb9 hs9
   obtain ⟨h9, rfl⟩ : jobL L d id = some j ∧ e = .returned (.tuple #[.agg #[.int .i64 j.id, .int .i64 j.q, .int .i64 j.p, .int .i64 j.r, .int .i64 j.g, .int .i64 j.c, .int .i64 j.mn, .int .i64 j.mx], .bool true]) := by
    rcases hj with ⟨h9, _⟩ | ⟨j2, h9, he⟩
    ·rw [HJ.out.1] at h9; cases h9
    ·rw [HJ.out.1] at h9; injection h9 with h9; subst h9; exact ⟨HJ.out.1, he⟩
   clear hj h9
   obtain ⟨l0, l1, l2, l3, l4, l5, l6, l7, l8⟩ := cells9 B_l.out
   have l_l_0 : N_l < U6.heap.size + 1 := by omega
   obtain ⟨c0, c1, c2⟩ := cells3 B_c.out
   have l_c_0 : N_c < U6.heap.size + 1 := by omega
   go_wp2_with fail
   clear l0 l1 l2 l3 l4 l5 l6 l7 l8 l_l_0 c0 c1 c2 l_c_0
   obtain ⟨V7, hV7⟩ : ∃ W, W = U6.alloc (.cells #[.int .i64 j.id, .int .i64 j.q, .int .i64 j.p, .int .i64 j.r, .int .i64 j.g, .int .i64 j.c, .int .i64 j.mn, .int .i64 j.mx] 38) := ⟨_, rfl⟩
   rw [← hV7]
   have hzV7 : V7.heap.size = U6.heap.size + 1 := by rw [hV7]; simp
   replace HBel := Lib.hid (below_eq hV7 ((HBel.out.alloc (hlow) _)))
   replace B_l := Lib.hid (blk_eq hV7 (((Below.heap_alloc _ _ _ (by first | omega | (simp <;> omega))).trans B_l.out)))
   replace B_c := Lib.hid (blk_eq hV7 (((Below.heap_alloc _ _ _ (by first | omega | (simp <;> omega))).trans B_c.out)))
   have B_j := Lib.hid (new10 hV7)
   obtain ⟨N_j, hN_j⟩ : ∃ N, N = U6.heap.size := ⟨_, rfl⟩
   (try rw [← hN_j])
   rw [← hN_j] at B_j
   have d_l_j : N_l < N_j := by omega
   have d_c_j : N_c < N_j := by omega
   replace l_l : N_l < V7.heap.size := by omega
   replace l_c : N_c < V7.heap.size := by omega
   have l_j : N_j < V7.heap.size := by omega
   have g_j : w.heap.size ≤ N_j := by omega
   replace hlow : w.heap.size ≤ V7.heap.size := by omega
   replace HB_m := Lib.hid (below_eq hV7 ((HB_m.out.alloc (hl_m) _)))
   replace hl_m : U4.heap.size ≤ V7.heap.size := by omega
   clear hV7 hzV7 hN_j
   refine (hTw.out V7 HBel.out).mono ?_
   rintro e U8 ⟨b, rfl, ho, hb9⟩
   have hs9 := hb9.size
   replace HB_m := Lib.hid (HB_m.out.trans (hb9.mono hl_m))
   replace hl_m : U4.heap.size ≤ U8.heap.size := by omega
   replace HBel := Lib.hid (HBel.out.trans (hb9.mono hlow))
   replace B_l := Lib.hid ((hb9.block _ l_l).trans B_l.out)
   replace B_c := Lib.hid ((hb9.block _ l_c).trans B_c.out)
   replace B_j := Lib.hid ((hb9.block _ l_j).trans B_j.out)
   replace l_l : N_l < U8.heap.size := by omega
   replace l_c : N_c < U8.heap.size := by omega
   replace l_j : N_j < U8.heap.size := by omega
   replace hlow : w.heap.size ≤ U8.heap.size := by omega
   clear hb9 hs9
   clear t1 t2
   cases b
   ·obtain ⟨n, hft, hn3, hnb, hd1, hd2⟩ := HC.out.fit HV.out.2.1 (ho rfl) HJ.out.1 HD.out
    obtain ⟨hlen, hso, ⟨U, hU, hug, huc⟩, htl⟩ := hft.facts HV.out.2.1 HJ.out.2.1 HF.out.f.v
    have hlow := hlow
    have hLow := fit_low HV.out.2.1 HJ.out.2.1 hft
    obtain ⟨hUm, hq0, hqn⟩ := left_in hU
    obtain ⟨q, hqq⟩ : ∃ q : Nat, j.q = q := ⟨j.q.toNat, by omega⟩
    have hUq : L.lf[q]? = some U := by
     have h9 := hU
     unfold leftL at h9
     rw [if_pos hq0, hqq] at h9
     simpa using h9
    have hqn2 : q < n2 := by have := HV.out.1; omega
    have hkn : kc = n := by rw [HK.out.1, hlen]
    have hn16 : n ≤ 16 := by
     by_cases h3 : d = 3
     ·rw [hn3 h3]; omega
     ·have h9 := Shp.ok_pos hft.1; have := (hnb h3).2; omega
    rw [hqq] at B_j
    have HFit := Lib.hid (And.intro hso (And.intro hLow (And.intro htl (And.intro hug huc))))
    have HN := Lib.hid (And.intro hft.1 (And.intro hn3 (And.intro hnb (And.intro hd1 hd2))))
    obtain ⟨b2, off2, hA, hb2, hall⟩ := HV.out.2.2.at_ hUq
    have HCA := Lib.hid (And.intro (hall q U hUq) hb2)
    have HA2 := Lib.hid hA
    have hk1000 : kc ≤ 1000 := by omega
    have HKN := Lib.hid hkn
    clear hkn
    have t8 : decide (q < 0) = false := decide_eq_false (by omega)
    have t9 : decide ((q : Int) < 0) = false := decide_eq_false (by omega)
    have t10 : decide (n2 ≤ q) = false := decide_eq_false (by omega)
    have t10b : decide ((n2 : Int) ≤ (q : Int)) = false := decide_eq_false (by omega)
    clear ho hft hn3 hnb hd1 hd2 hlen hso hU hug huc htl hLow hUm hq0 hqn hqq hUq hA hb2 hall hn16
    obtain ⟨l0, l1, l2, l3, l4, l5, l6, l7, l8⟩ := cells9 B_l.out
    obtain ⟨j0, j1, j2, j3, j4, j5, j6, j7⟩ := cells8 B_j.out
    obtain ⟨c0, c1, c2⟩ := cells3 B_c.out
    go_wp2_with fail
    refine (hUn.out A kc c sl HK.out.1 hk1000 HFit.out.2.1 U8 (HS.out.keep HB_m.out hl_m)).mono ?_
    rintro e U9 ⟨rfl, hb9⟩
    clear l0 l1 l2 l3 l4 l5 l6 l7 l8 j0 j1 j2 j3 j4 j5 j6 j7 c0 c1 c2
    have hs9 := hb9.size
    replace HB_m := Lib.hid (HB_m.out.trans (hb9.mono hl_m))
    replace hl_m : U4.heap.size ≤ U9.heap.size := by omega
    replace HBel := Lib.hid (HBel.out.trans (hb9.mono hlow))
    replace B_l := Lib.hid ((hb9.block _ l_l).trans B_l.out)
    replace B_c := Lib.hid ((hb9.block _ l_c).trans B_c.out)
    replace B_j := Lib.hid ((hb9.block _ l_j).trans B_j.out)
    replace l_l : N_l < U9.heap.size := by omega
    replace l_c : N_c < U9.heap.size := by omega
    replace l_j : N_j < U9.heap.size := by omega
    replace hlow : w.heap.size ≤ U9.heap.size := by omega
    clear hb9 hs9
    obtain ⟨l0, l1, l2, l3, l4, l5, l6, l7, l8⟩ := cells9 B_l.out
    have l_l_0 : N_l < U9.heap.size + 1 := by omega
    obtain ⟨c0, c1, c2⟩ := cells3 B_c.out
    have l_c_0 : N_c < U9.heap.size + 1 := by omega
    go_wp2_with fail
    clear l0 l1 l2 l3 l4 l5 l6 l7 l8 l_l_0 c0 c1 c2 l_c_0
    obtain ⟨V10, hV10⟩ : ∃ W, W = U9.alloc (.cells #[.int .i64 (gs sl : Nat), .int .i64 (cs sl)] 42) := ⟨_, rfl⟩
    rw [← hV10]
    have hzV10 : V10.heap.size = U9.heap.size + 1 := by rw [hV10]; simp
    replace HBel := Lib.hid (below_eq hV10 ((HBel.out.alloc (hlow) _)))
    replace B_l := Lib.hid (blk_eq hV10 (((Below.heap_alloc _ _ _ (by first | omega | (simp <;> omega))).trans B_l.out)))
    replace B_c := Lib.hid (blk_eq hV10 (((Below.heap_alloc _ _ _ (by first | omega | (simp <;> omega))).trans B_c.out)))
    replace B_j := Lib.hid (blk_eq hV10 (((Below.heap_alloc _ _ _ (by first | omega | (simp <;> omega))).trans B_j.out)))
    have B_u := Lib.hid (new10 hV10)
    obtain ⟨N_u, hN_u⟩ : ∃ N, N = U9.heap.size := ⟨_, rfl⟩
    (try rw [← hN_u])
    rw [← hN_u] at B_u
    have d_l_u : N_l < N_u := by omega
    have d_c_u : N_c < N_u := by omega
    have d_j_u : N_j < N_u := by omega
    replace l_l : N_l < V10.heap.size := by omega
    replace l_c : N_c < V10.heap.size := by omega
    replace l_j : N_j < V10.heap.size := by omega
    have l_u : N_u < V10.heap.size := by omega
    have g_u : w.heap.size ≤ N_u := by omega
    replace hlow : w.heap.size ≤ V10.heap.size := by omega
    replace HB_m := Lib.hid (below_eq hV10 ((HB_m.out.alloc (hl_m) _)))
    replace hl_m : U4.heap.size ≤ V10.heap.size := by omega
    clear hV10 hzV10 hN_u
    refine (hLe.out HF.out A kc c sl HK.out.1 hk1000 HFit.out.1 HFit.out.2.2.1 V10 HBel.out (HS.out.keep HB_m.out hl_m)).mono ?_
    rintro e U11 ⟨V, rfl, hb9⟩
    have hs9 := hb9.size
    replace HB_m := Lib.hid (HB_m.out.trans (hb9.mono hl_m))
    replace hl_m : U4.heap.size ≤ U11.heap.size := by omega
    replace HBel := Lib.hid (HBel.out.trans (hb9.mono hlow))
    replace B_l := Lib.hid ((hb9.block _ l_l).trans B_l.out)
    replace B_c := Lib.hid ((hb9.block _ l_c).trans B_c.out)
    replace B_j := Lib.hid ((hb9.block _ l_j).trans B_j.out)
    replace B_u := Lib.hid ((hb9.block _ l_u).trans B_u.out)
    replace l_l : N_l < U11.heap.size := by omega
    replace l_c : N_c < U11.heap.size := by omega
    replace l_j : N_j < U11.heap.size := by omega
    replace l_u : N_u < U11.heap.size := by omega
    replace hlow : w.heap.size ≤ U11.heap.size := by omega
    clear hb9 hs9
    have t3 : decide (U.g < (gs sl : Nat)) = false := decide_eq_false (by have := HFit.out.2.2.2.1; omega)
    have t4 : decide (U.c < cs sl) = false := decide_eq_false (by have := HFit.out.2.2.2.2; omega)
    have hb2W : b2 < U11.heap.size := by have := HCA.out.2; omega
    have l5 : U11.cell? ⟨N_l, 5, none⟩ = some (.slice (some ⟨b2, off2, none⟩) n2 L.c2) := by rw [← HA2.out]; exact cell_blk (i := 5) B_l.out rfl
    have y0 : U11.cell? ⟨b2, off2 + q * 2, none⟩ = some (.int .i64 U.g) := (HCA.out.1.keep HCA.out.2 HBel.out) 0 _ rfl
    have y1 : U11.cell? ⟨b2, off2 + q * 2 + 1, none⟩ = some (.int .i64 U.c) := (HCA.out.1.keep HCA.out.2 HBel.out) 1 _ rfl
    have t11 : decide (q < n2) = true := decide_eq_true hqn2
    obtain ⟨j0, j1, j2, j3, j4, j5, j6, j7⟩ := cells8 B_j.out
    obtain ⟨u0, u1⟩ := cells2 B_u.out
    go_wp2_with fail
    refine held_begin (fun w' : World => w'.cell? ⟨N_l, 5, none⟩ = some (.slice (some ⟨b2, off2, none⟩) n2 L.c2) ∧ w'.cell? ⟨N_j, 1, none⟩ = some (.int .i64 (q : Nat)) ∧ w'.cell? ⟨N_u, 0, none⟩ = some (.int .i64 (gs sl : Nat)) ∧ w'.cell? ⟨N_u, 1, none⟩ = some (.int .i64 (cs sl)) ∧ w'.cell? ⟨b2, off2 + q * 2, none⟩ = some (.int .i64 U.g) ∧ w'.cell? ⟨b2, off2 + q * 2 + 1, none⟩ = some (.int .i64 U.c)) (by kernel_rfl) ?_
    have hBh0 : Below U11.heap.size U11 U11.drew := (Below.refl _ _).drew
    have hSh0 := And.intro l5 (And.intro j1 (And.intro u0 (And.intro u1 (And.intro y0 y1))))
    refine tkH ?_ 0 70 rfl rfl ⟨by rfl, ?_⟩ hSh0 ?_;rotate_left
    ·rintro w' ⟨x0, x1, x2, x3, x4, x5⟩;go_simp;(try with_reducible rfl)
    simp only [Act.put, pzA, pzB, pzC]
    refine tkH ?_ 1 71 rfl rfl ⟨by rfl, ?_⟩ hSh0 ?_;rotate_left
    ·rintro w' ⟨x0, x1, x2, x3, x4, x5⟩;go_simp;(try with_reducible rfl)
    simp only [Act.put, pzA, pzB, pzC]
    refine tkH ?_ 2 72 rfl rfl ⟨by rfl, ?_⟩ hSh0 ?_;rotate_left
    ·rintro w' ⟨x0, x1, x2, x3, x4, x5⟩;go_simp;(try with_reducible rfl)
    simp only [Act.put, pzA, pzB, pzC]
    refine tkH ?_ 3 73 rfl rfl ⟨by rfl, ?_⟩ hSh0 ?_;rotate_left
    ·rintro w' ⟨x0, x1, x2, x3, x4, x5⟩;go_simp;(try with_reducible rfl)
    simp only [Act.put, pzA, pzB, pzC]
    refine tkH ?_ 4 74 rfl rfl ⟨by rfl, ?_⟩ hSh0 ?_;rotate_left
    ·rintro w' ⟨x0, x1, x2, x3, x4, x5⟩;go_simp;(try with_reducible rfl)
    simp only [Act.put, pzA, pzB, pzC]
    refine tkH ?_ 5 75 rfl rfl ⟨by rfl, ?_⟩ hSh0 ?_;rotate_left
    ·rintro w' ⟨x0, x1, x2, x3, x4, x5⟩;go_simp;(try with_reducible rfl)
    simp only [Act.put, pzA, pzB, pzC]
    refine tkH ?_ 6 76 rfl rfl ⟨by rfl, ?_⟩ hSh0 ?_;rotate_left
    ·rintro w' ⟨x0, x1, x2, x3, x4, x5⟩;go_simp;(try with_reducible rfl)
    simp only [Act.put, pzA, pzB, pzC]
    refine tkH ?_ 7 77 rfl rfl ⟨by rfl, ?_⟩ hSh0 ?_;rotate_left
    ·rintro w' ⟨x0, x1, x2, x3, x4, x5⟩;go_simp;(try with_reducible rfl)
    simp only [Act.put, pzA, pzB, pzC]
    refine tkH ?_ 8 78 rfl rfl ⟨by rfl, ?_⟩ hSh0 ?_;rotate_left
    ·rintro w' ⟨x0, x1, x2, x3, x4, x5⟩;go_simp;(try with_reducible rfl)
    simp only [Act.put, pzA, pzB, pzC]
    refine tkH ?_ 9 79 rfl rfl ⟨by rfl, ?_⟩ hSh0 ?_;rotate_left
    ·rintro w' ⟨x0, x1, x2, x3, x4, x5⟩;go_simp;(try with_reducible rfl)
    simp only [Act.put, pzA, pzB, pzC]
    refine tkH ?_ 10 80 rfl rfl ⟨by rfl, ?_⟩ hSh0 ?_;rotate_left
    ·rintro w' ⟨x0, x1, x2, x3, x4, x5⟩;go_simp;(try with_reducible rfl)
    simp only [Act.put, pzA, pzB, pzC]
    refine tkH ?_ 11 81 rfl rfl ⟨by rfl, ?_⟩ hSh0 ?_;rotate_left
    ·rintro w' ⟨x0, x1, x2, x3, x4, x5⟩;go_simp;(try with_reducible rfl)
    simp only [Act.put, pzA, pzB, pzC]
    refine tkH ?_ 12 82 rfl rfl ⟨by rfl, ?_⟩ hSh0 ?_;rotate_left
    ·rintro w' ⟨x0, x1, x2, x3, x4, x5⟩;go_simp;(try with_reducible rfl)
    simp only [Act.put, pzA, pzB, pzC]
    refine tkH ?_ 13 83 rfl rfl ⟨by rfl, ?_⟩ hSh0 ?_;rotate_left
    ·rintro w' ⟨x0, x1, x2, x3, x4, x5⟩;go_simp;(try with_reducible rfl)
    simp only [Act.put, pzA, pzB, pzC]
    refine tkH ?_ 14 84 rfl rfl ⟨by rfl, ?_⟩ hSh0 ?_;rotate_left
    ·rintro w' ⟨x0, x1, x2, x3, x4, x5⟩;go_simp;(try with_reducible rfl)
    simp only [Act.put, pzA, pzB, pzC]
    refine tkH ?_ 15 85 rfl rfl ⟨by rfl, ?_⟩ hSh0 ?_;rotate_left
    ·rintro w' ⟨x0, x1, x2, x3, x4, x5⟩;go_simp;(try with_reducible rfl)
    simp only [Act.put, pzA, pzB, pzC]
    refine tkH ?_ 16 86 rfl rfl ⟨by rfl, ?_⟩ hSh0 ?_;rotate_left
    ·rintro w' ⟨x0, x1, x2, x3, x4, x5⟩;go_simp;(try with_reducible rfl)
    simp only [Act.put, pzA, pzB, pzC]
    refine tkH ?_ 17 87 rfl rfl ⟨by rfl, ?_⟩ hSh0 ?_;rotate_left
    ·rintro w' ⟨x0, x1, x2, x3, x4, x5⟩;go_simp;(try with_reducible rfl)
    simp only [Act.put, pzA, pzB, pzC]
    refine tkH ?_ 18 88 rfl rfl ⟨by rfl, ?_⟩ hSh0 ?_;rotate_left
    ·rintro w' ⟨x0, x1, x2, x3, x4, x5⟩;go_simp;(try with_reducible rfl)
    simp only [Act.put, pzA, pzB, pzC]
    refine tkH ?_ 19 89 rfl rfl ⟨by rfl, ?_⟩ hSh0 ?_;rotate_left
    ·rintro w' ⟨x0, x1, x2, x3, x4, x5⟩;go_simp;(try with_reducible rfl)
    simp only [Act.put, pzA, pzB, pzC]
    refine tkH ?_ 20 90 rfl rfl ⟨by rfl, ?_⟩ hSh0 ?_;rotate_left
    ·rintro w' ⟨x0, x1, x2, x3, x4, x5⟩;go_simp;(try with_reducible rfl)
    simp only [Act.put, pzA, pzB, pzC]
    refine tkH ?_ 21 91 rfl rfl ⟨by rfl, ?_⟩ hSh0 ?_;rotate_left
    ·rintro w' ⟨x0, x1, x2, x3, x4, x5⟩;go_simp;(try with_reducible rfl)
    simp only [Act.put, pzA, pzB, pzC]
    refine tkH ?_ 22 92 rfl rfl ⟨by rfl, ?_⟩ hSh0 ?_;rotate_left
    ·rintro w' ⟨x0, x1, x2, x3, x4, x5⟩;go_simp;(try with_reducible rfl)
    simp only [Act.put, pzA, pzB, pzC]
    refine tkH ?_ 23 93 rfl rfl ⟨by rfl, ?_⟩ hSh0 ?_;rotate_left
    ·rintro w' ⟨x0, x1, x2, x3, x4, x5⟩;go_simp;(try with_reducible rfl)
    simp only [Act.put, pzA, pzB, pzC]
    refine tkH ?_ 24 94 rfl rfl ⟨by rfl, ?_⟩ hSh0 ?_;rotate_left
    ·rintro w' ⟨x0, x1, x2, x3, x4, x5⟩;go_simp;(try with_reducible rfl)
    simp only [Act.put, pzA, pzB, pzC]
    refine tkH ?_ 25 95 rfl rfl ⟨by rfl, ?_⟩ hSh0 ?_;rotate_left
    ·rintro w' ⟨x0, x1, x2, x3, x4, x5⟩;go_simp;(try with_reducible rfl)
    simp only [Act.put, pzA, pzB, pzC]
    refine wpAnyH_done (by kernel_rfl) ?_ _
    obtain ⟨D12, hD9⟩ : ∃ D, D = U11.drew := ⟨_, rfl⟩
    have hb9 : Below U11.heap.size U11 D12 := by rw [hD9]; exact hBh0
    rw [← hD9]
    clear hD9
    have hs9 := hb9.size
    replace HBel := Lib.hid (HBel.out.trans (hb9.mono hlow))
    replace B_l := Lib.hid ((hb9.block _ l_l).trans B_l.out)
    replace B_c := Lib.hid ((hb9.block _ l_c).trans B_c.out)
    replace B_j := Lib.hid ((hb9.block _ l_j).trans B_j.out)
    replace B_u := Lib.hid ((hb9.block _ l_u).trans B_u.out)
    replace l_l : N_l < D12.heap.size := by omega
    replace l_c : N_c < D12.heap.size := by omega
    replace l_j : N_j < D12.heap.size := by omega
    replace l_u : N_u < D12.heap.size := by omega
    replace hlow : w.heap.size ≤ D12.heap.size := by omega
    clear hb9 hs9 hSh0 hBh0 l5 y0 y1 hb2W t3 t4 t11 j0 j1 j2 j3 j4 j5 j6 j7 u0 u1
    by_cases hd3 : d = 3
    ·subst hd3
     obtain rfl : kc = 1 := by rw [HKN.out]; exact HN.out.2.1 rfl
     have t5 : ((3 : Int) == 3) = true := rfl
     obtain ⟨c0, c1, c2⟩ := cells3 B_c.out
     go_wp2
     go_ret
     exact ⟨by first | rfl | (simp; done), by rw [HB0.out]; exact HBel.out⟩
    ·have t5 : (d == 3) = false := by simp [hd3]
     have hkn := HKN.out
     have hnb := HN.out.2.2.1 hd3
     have h9 := Shp.ok_pos HN.out.1
     have e1 : j.S.mn = j.mn := rfl
     have e2 : j.S.mx = j.mx := rfl
     have t6 : decide (j.mn ≤ (kc : Int)) = true := decide_eq_true (by omega)
     have t7 : decide ((kc : Int) ≤ j.mx) = true := decide_eq_true (by omega)
     clear hnb h9 e1 e2 hkn
     by_cases hd1 : d = 1
     ·obtain ⟨h8, h9⟩ := hdB_true.1 (HN.out.2.2.2.1 hd1)
      have e3 : (d == 1) = true := by simp [hd1]
      have e4 : (id == L.hd) = true := by simp [h9]
      have e5 : (L.hd != 0) = true := by simp [h8]
      clear h8 h9 hd1 hd3
      obtain ⟨l0, l1, l2, l3, l4, l5, l6, l7, l8⟩ := cells9 B_l.out
      obtain ⟨j0, j1, j2, j3, j4, j5, j6, j7⟩ := cells8 B_j.out
      obtain ⟨c0, c1, c2⟩ := cells3 B_c.out
      go_wp2
      go_ret
      exact ⟨by first | rfl | (simp; done), by rw [HB0.out]; exact HBel.out⟩
     ·have e3 : (d == 1) = false := by simp [hd1]
      have h2 := HN.out.2.2.2.2 (by have := (HC.out.job HV.out.2.1 HD.out).1; omega)
      by_cases hi : id = L.hd
      ·have e4 : (id == L.hd) = true := by simp [hi]
       have e5 : (L.hd != 0) = false := by
        unfold hdB at h2
        rw [e4] at h2
        simpa using h2
       clear h2 hd1 hd3 hi
       obtain ⟨l0, l1, l2, l3, l4, l5, l6, l7, l8⟩ := cells9 B_l.out
       obtain ⟨j0, j1, j2, j3, j4, j5, j6, j7⟩ := cells8 B_j.out
       obtain ⟨c0, c1, c2⟩ := cells3 B_c.out
       go_wp2
       go_ret
       exact ⟨by first | rfl | (simp; done), by rw [HB0.out]; exact HBel.out⟩
      ·have e4 : (id == L.hd) = false := by simp [hi]
       clear h2 hd1 hd3 hi
       obtain ⟨l0, l1, l2, l3, l4, l5, l6, l7, l8⟩ := cells9 B_l.out
       obtain ⟨j0, j1, j2, j3, j4, j5, j6, j7⟩ := cells8 B_j.out
       obtain ⟨c0, c1, c2⟩ := cells3 B_c.out
       go_wp2
       go_ret
       exact ⟨by first | rfl | (simp; done), by rw [HB0.out]; exact HBel.out⟩
   ·clear ho
    go_wp2
    go_ret
    exact ⟨by first | rfl | (simp; done), by rw [HB0.out]; exact HBel.out⟩

set_option maxRecDepth 100000 in
set_option maxHeartbeats 1000000 in
theorem lifted (os : Os) (started : os.Started) (H : Type) (enc : TypeId × Value → H) :
  ReturnsInHanded {} Tryz.checked os 3 .any (fun w args => (Rows.workerMaySpec.pre enc Tryz.prog Tryz.f3 [] false w args ∧ laidMetH Tryz.prog laid1 w) ∧ sizedMet enc Tryz.prog Tryz.f3 (OpenSpec.ofChange Rows.workerMaySpec) false w args)
   (Rows.workerMaySpec.post enc Tryz.prog Tryz.f3 false true false false) := by
 refine returnsInHanded_of_change_and (C := Tryz.checked) (X := fun w _ => laidMetH Tryz.prog laid1 w) (fun _ _ _ hh h => h.of_heap hh) own started (by kernel_rfl) Tryz.func3
  (ChangeSpec.witness_shaped (enc := enc) (C := Tryz.checked) (os := os) (X := fun w _ => laidMetH Tryz.prog laid1 w) false (World.doorLaid Tryz.prog 400 os) #[.agg #[.int .i64 0, .int .i64 0, .int .i64 0, .int .i64 0, .slice none 0 0, .slice none 0 0, .slice none 0 0, .slice none 0 0, .slice none 0 0]] 8 rfl (World.shaped_of_RefB (by kernel_rfl) (by kernel_rfl)) (by kernel_rfl) (by kernel_rfl) (by kernel_rfl) (door_met os _)) ?_
 intro W base args ds gs before hval0 hW _ _ hL _
 have hval : ∀ (j : Nat) t v, Tryz.f3.params[j]? = some t → args[j]? = some v → Value.okWide Tryz.prog W .any base t v := hval0
 have hW' := hW
 obtain ⟨p, q, hA0, hV, rfl, hfz, hnd⟩ := hW
 have hA : DataW.TrodAll enc Tryz.prog W 0 (fun _ => true) true Tryz.f3.params.toList args.toList ds p := hA0
 rw [Tryz.params3] at hA hval
 obtain ⟨v0, vs0, d0, ds0, p0, q0, hargs, rfl, rfl, h0, r0⟩ := trodAll_cons hA
 obtain ⟨rfl, rfl, rfl⟩ := trodAll_nil r0
 obtain rfl : args = #[v0] := by cases args; simp_all
 obtain ⟨rfl, rfl⟩ := trodVars_none hV
 have k0 := h0
 have lt0 : ∀ x ∈ p0, x.block < W.heap.size := by obtain ⟨m, hm⟩ := k0; exact DataW.trod_lt m _ _ _ hm
 obtain ⟨x0, rfl, v0, q0⟩ := lk_of (hval 0 28 v0 rfl rfl) h0
 have hT := of_laid hL
 clear hL
 clear hA0 hval0
 refine (walk x0 W v0 q0 hT).mono fun e W' ⟨he, bel⟩ => ?_
 subst he
 exact ⟨_, rfl, _, _, _, [], _, [], hW', trodAll_mk1 (shut_bool Tryz.underlying4 _), (trodAll_cons_mk (Below.trod laidOut (by kernel_rfl) (of_decide_eq_true (by kernel_rfl)) k0 bel lt0) trodAll_mk0), rfl, bel.frame _, fun h => by cases h⟩

theorem row_holds : Rows.WorkerMaySaid :=
 OpenClaim.holds_of_wide 3 Tryz.f3 rfl rfl rfl rfl rfl rfl rfl ⟨rfl, rfl, rfl, rfl, rfl⟩ rfl rfl rfl rfl rfl (by kernel_rfl) Tryz.func3 (by kernel_rfl)
  (of_decide_eq_true (by kernel_rfl)) (by unfold Func.isWrapper; first | (rw [if_pos (by decide +kernel)]; kernel_rfl) | (rw [if_neg (by decide +kernel)]; exact ⟨rfl, rfl⟩))
  (fun os started H enc _ => lifted os started H enc)

theorem card_holds : Rows.WorkerMayCardSaid :=
 Claim7.holds_tied_plain_at .later [] [.data] true (true, Rows.workerMayCard.stood.harness.2) false
  row_holds (fun _ h => by cases h) (by kernel_rfl) (fun _ h => by cases h) workerMay_row_tie rfl ⟨rfl, rfl⟩ (by kernel_rfl) rfl
  (fun f fn hf hfn => by
   obtain rfl : f = 3 := Option.some.inj ((show Tryz.prog.funcNamed Rows.workerMayRow.func = some 3 by kernel_rfl).symm.trans hf) |>.symm
   obtain rfl : fn = Tryz.f3 := (Option.some.inj (Tryz.func3.symm.trans hfn)).symm
   exact ⟨by kernel_rfl, fun j t ht => by
    rw [Tryz.params3] at ht
    have hm : t ∈ [28] := by simpa using Array.mem_of_getElem? ht
    have hall : ([28].all fun u => !Tryz.prog.wantsStandIn u) = true := by kernel_rfl
    exact (show Tryz.prog.wantsStandIn t = false by simpa using List.all_eq_true.1 hall t hm)⟩)
  (by kernel_rfl)
end Go.Proofs.YtnaejfbmgjgcfaaGreatDoor.workerMay
