/- A gang gets from Min to Max members, for which there is room, and enough is left; one more would not go: the law ElasticMost answers true, at every input. The library's table of lowest units is as the program's text lays it (tied). -/
import Derived.Test.YtppapmacngdefaaDoorElAwake
import Derived.Test.YtppapmacngdefaaDoorElFew
import Derived.Test.YtppapmacngdefaaDoorElFill
import Derived.Test.YtppapmacngdefaaDoorFilRefB
import Derived.Test.YtppapmacngdefaaDoorPackTellsM
import Derived.SevenTiedAt
import Derived.Test.YtppapmacngdefaaDoorTie
import Derived.Test.YtppapmacngdefaaDoorCards
set_option linter.unusedVariables false
namespace Go.Proofs.YtppapmacngdefaaDoor.elasticMost
open Go Go.ChangeShapes Go.WideShapes Go.ChangeAt Go.RowKit
open PR
set_option maxRecDepth 100000 in
set_option maxHeartbeats 16000000 in
theorem walk (L : Lk) (j : Jb) (w : World) (v0 : LkIn w w.heap.size L) (q0 : LkW L) (w1 : JbW j) (hT : Tab w) :
    Calls Tryd.prog 3 #[lkV L, jbV j] w fun e w' => e = .returned (.bool true) ∧ Below w.heap.size w w' := by
  obtain ⟨n1, hn1⟩ : ∃ n, n = L.lv.length := ⟨_, rfl⟩
  obtain ⟨n2, hn2⟩ : ∃ n, n = L.lf.length := ⟨_, rfl⟩
  obtain ⟨n3, hn3⟩ : ∃ n, n = L.le.length := ⟨_, rfl⟩
  obtain ⟨n4, hn4⟩ : ∃ n, n = L.lw.length := ⟨_, rfl⟩
  obtain ⟨n5, hn5⟩ : ∃ n, n = L.lr.length := ⟨_, rfl⟩
  have HT := Lib.hid hT
  have hAw := Lib.hid (fun W (hT : Tab W) => awake14 W hT)
  have hFw := Lib.hid (fun W (hk : Below w.heap.size w W) => show Calls Tryd.prog 6 #[.agg #[.int .i64 L.now, .int .i64 L.hd, .int .i64 L.pr, .int .i64 L.to, .slice L.A1 n1 L.c1, .slice L.A2 n2 L.c2, .slice L.A3 n3 L.c3, .slice L.A4 n4 L.c4, .slice L.A5 n5 L.c5]] W (fun e w' => ∃ b, e = .returned (.bool b) ∧ (b = true → LkF L) ∧ Below W.heap.size W w') from by
    have h9 := few14_any L W (v0.keep hk hk.size) q0
    unfold lkV lkA at h9
    rw [← hn1, ← hn2, ← hn3, ← hn4, ← hn5] at h9
    exact h9)
  have hM := Lib.hid (fun (hF : LkF L) W (hk : Below w.heap.size w W) => show Calls Tryd.prog 7 #[.agg #[.int .i64 L.now, .int .i64 L.hd, .int .i64 L.pr, .int .i64 L.to, .slice L.A1 n1 L.c1, .slice L.A2 n2 L.c2, .slice L.A3 n3 L.c3, .slice L.A4 n4 L.c4, .slice L.A5 n5 L.c5], .agg #[.int .i64 j.id, .int .i64 j.q, .int .i64 j.p, .int .i64 j.r, .int .i64 j.g, .int .i64 j.c, .int .i64 j.mn, .int .i64 j.mx]] W (fun e w' => MostJ L j w' e ∧ Below W.heap.size W w') from by
    have h9 := most_any L j W (v0.keep hk hk.size) q0 w1 (by have := hF.n; omega) (hT.below hk hT.size)
    unfold lkV lkA jbV jbA at h9
    rw [← hn1, ← hn2, ← hn3, ← hn4, ← hn5] at h9
    exact h9)
  have hU := Lib.hid (fun (A : Option Addr) (c : Nat) (l : List Fe) W (h1 : Fes W W.heap.size A l) (h2 : Low l) (h3 : l.length ≤ 1000) => refunits8_any A c l W h1 h2 h3)
  have hLs := Lib.hid (fun (hF : LkF L) (n : Nat) (hn : n ≤ 16) (hr : n ≤ roomF j.S L.lv) (SA : Option Addr) (sc : Nat) W (hk : Below w.heap.size w W) (hs : Fes W W.heap.size SA (placeF j.S L.lv n)) => show Calls Tryd.prog 9 #[.slice L.A1 n1 L.c1, .slice SA n sc] W (fun e w' => ∃ V, e = .returned (.tuple #[V, .int .i64 0]) ∧ Below W.heap.size W w') from by
    obtain ⟨l', hl', _⟩ := less_placeF (S := j.S) (p := n) hF.v.one
    have hlen : (placeF j.S L.lv n).length = n := placeF_len hr
    have h9 := refless_of L.A1 L.c1 L.lv SA sc (placeF j.S L.lv n) 0 l' W hl' (v0.v.keep hk hk.size) hF.v (by have := hF.n; omega) hs (fun s hs => (placeL_ok w1.S q0.v _ _ s hs).1) (by omega)
    rw [hlen, ← hn1] at h9
    refine h9.mono ?_
    rintro e w' ⟨h0, _, hb⟩
    obtain ⟨A', c', _, he⟩ := h0 rfl
    exact ⟨_, he, hb⟩)
  have hRo := Lib.hid (fun (hF : LkF L) W (hk : Below w.heap.size w W) => show Calls Tryd.prog 10 #[.slice L.A1 n1 L.c1, .agg #[.int .i64 j.g, .int .i64 j.c, .int .i64 j.mn, .int .i64 j.mx]] W (fun e w' => e = .returned (.int .i64 (roomF j.S L.lv : Nat)) ∧ Below W.heap.size W w') from by
    rw [hn1]
    exact refroom_any L.A1 L.c1 W.heap.size L.lv j.S W (v0.v.keep hk hk.size) (Nat.le_refl _) (by have := hF.n; omega) w1.S (fun f hf => ⟨(hF.v.ok f hf).1, (hF.v.ok f hf).2.1⟩) (hT.below hk hT.size))
  have HV := Lib.hid (And.intro hn2 (And.intro q0.v (And.intro w1.S (And.intro v0.f q0.f))))
  unfold lkV lkA jbV jbA
  rw [← hn1, ← hn2, ← hn3, ← hn4, ← hn5]
  clear hn1 hn2 hn3 hn4 hn5 v0 q0 w1 hT
  obtain ⟨B0, hB0⟩ : ∃ B, B = w.heap.size := ⟨_, rfl⟩
  rw [← hB0]
  have HB0 := Lib.hid hB0
  clear hB0
  have HBel := Lib.hid (Below.refl w.heap.size w)
  have hlow : w.heap.size ≤ w.heap.size := Nat.le_refl _
  go_enter Tryd.func3, Tryd.ntmps3
  go_wp2_with fail
  obtain ⟨V1, hV1⟩ : ∃ W, W = (w.alloc (.cells #[.int .i64 L.now, .int .i64 L.hd, .int .i64 L.pr, .int .i64 L.to, .slice L.A1 n1 L.c1, .slice L.A2 n2 L.c2, .slice L.A3 n3 L.c3, .slice L.A4 n4 L.c4, .slice L.A5 n5 L.c5] 28)).alloc (.cells #[.int .i64 j.id, .int .i64 j.q, .int .i64 j.p, .int .i64 j.r, .int .i64 j.g, .int .i64 j.c, .int .i64 j.mn, .int .i64 j.mx] 32) := ⟨_, rfl⟩
  rw [← hV1]
  have hzV1 : V1.heap.size = w.heap.size + 1 + 1 := by rw [hV1]; simp
  replace HBel : Hid (Below w.heap.size w V1) := Lib.hid (by rw [hV1]; exact ((HBel.out.alloc (hlow) _).alloc (by simp <;> omega) _))
  have B_l : Hid (V1.heap[w.heap.size]? = some (.cells #[.int .i64 L.now, .int .i64 L.hd, .int .i64 L.pr, .int .i64 L.to, .slice L.A1 n1 L.c1, .slice L.A2 n2 L.c2, .slice L.A3 n3 L.c3, .slice L.A4 n4 L.c4, .slice L.A5 n5 L.c5] 28 (0, 0))) := Lib.hid (by
    have h9 := heap_alloc_new (w) (.cells #[.int .i64 L.now, .int .i64 L.hd, .int .i64 L.pr, .int .i64 L.to, .slice L.A1 n1 L.c1, .slice L.A2 n2 L.c2, .slice L.A3 n3 L.c3, .slice L.A4 n4 L.c4, .slice L.A5 n5 L.c5] 28)
    rw [hV1]; exact ((Below.heap_alloc _ _ _ (by simp <;> omega)).trans h9))
  have B_j : Hid (V1.heap[w.heap.size + 1]? = some (.cells #[.int .i64 j.id, .int .i64 j.q, .int .i64 j.p, .int .i64 j.r, .int .i64 j.g, .int .i64 j.c, .int .i64 j.mn, .int .i64 j.mx] 32 (0, 0))) := Lib.hid (by
    have h9 := heap_alloc_new (w.alloc (.cells #[.int .i64 L.now, .int .i64 L.hd, .int .i64 L.pr, .int .i64 L.to, .slice L.A1 n1 L.c1, .slice L.A2 n2 L.c2, .slice L.A3 n3 L.c3, .slice L.A4 n4 L.c4, .slice L.A5 n5 L.c5] 28)) (.cells #[.int .i64 j.id, .int .i64 j.q, .int .i64 j.p, .int .i64 j.r, .int .i64 j.g, .int .i64 j.c, .int .i64 j.mn, .int .i64 j.mx] 32)
    rw [World.size_alloc] at h9
    rw [hV1]; exact h9)
  obtain ⟨N_l, hN_l⟩ : ∃ N, N = w.heap.size := ⟨_, rfl⟩
  obtain ⟨N_j, hN_j⟩ : ∃ N, N = w.heap.size + 1 := ⟨_, rfl⟩
  (try rw [← hN_j])
  rw [← hN_j] at B_j
  (try rw [← hN_l])
  rw [← hN_l] at B_l
  have l_l : N_l < V1.heap.size := by omega
  have l_j : N_j < V1.heap.size := by omega
  have g_l : w.heap.size ≤ N_l := by omega
  have g_j : w.heap.size ≤ N_j := by omega
  have d_l_j : N_l < N_j := by omega
  replace hlow : w.heap.size ≤ V1.heap.size := by omega
  clear hV1 hzV1 hN_l hN_j
  refine (hAw.out V1 (HT.out.below HBel.out HT.out.size)).mono ?_
  rintro e U2 ⟨rfl, hb9⟩
  have hs9 := hb9.size
  replace HBel := Lib.hid (HBel.out.trans (hb9.mono hlow))
  replace B_l : Hid (U2.heap[N_l]? = some (.cells #[.int .i64 L.now, .int .i64 L.hd, .int .i64 L.pr, .int .i64 L.to, .slice L.A1 n1 L.c1, .slice L.A2 n2 L.c2, .slice L.A3 n3 L.c3, .slice L.A4 n4 L.c4, .slice L.A5 n5 L.c5] 28 (0, 0))) := Lib.hid ((hb9.block _ l_l).trans B_l.out)
  replace B_j : Hid (U2.heap[N_j]? = some (.cells #[.int .i64 j.id, .int .i64 j.q, .int .i64 j.p, .int .i64 j.r, .int .i64 j.g, .int .i64 j.c, .int .i64 j.mn, .int .i64 j.mx] 32 (0, 0))) := Lib.hid ((hb9.block _ l_j).trans B_j.out)
  replace l_l : N_l < U2.heap.size := by omega
  replace l_j : N_j < U2.heap.size := by omega
  replace hlow : w.heap.size ≤ U2.heap.size := by omega
  clear hb9 hs9
  have l0 : U2.cell? ⟨N_l, 0, none⟩ = some (.int .i64 L.now) := cell_blk (i := 0) B_l.out rfl
  have l1 : U2.cell? ⟨N_l, 1, none⟩ = some (.int .i64 L.hd) := cell_blk (i := 1) B_l.out rfl
  have l2 : U2.cell? ⟨N_l, 2, none⟩ = some (.int .i64 L.pr) := cell_blk (i := 2) B_l.out rfl
  have l3 : U2.cell? ⟨N_l, 3, none⟩ = some (.int .i64 L.to) := cell_blk (i := 3) B_l.out rfl
  have l4 : U2.cell? ⟨N_l, 4, none⟩ = some (.slice L.A1 n1 L.c1) := cell_blk (i := 4) B_l.out rfl
  have l5 : U2.cell? ⟨N_l, 5, none⟩ = some (.slice L.A2 n2 L.c2) := cell_blk (i := 5) B_l.out rfl
  have l6 : U2.cell? ⟨N_l, 6, none⟩ = some (.slice L.A3 n3 L.c3) := cell_blk (i := 6) B_l.out rfl
  have l7 : U2.cell? ⟨N_l, 7, none⟩ = some (.slice L.A4 n4 L.c4) := cell_blk (i := 7) B_l.out rfl
  have l8 : U2.cell? ⟨N_l, 8, none⟩ = some (.slice L.A5 n5 L.c5) := cell_blk (i := 8) B_l.out rfl
  go_wp2_with fail
  refine (hFw.out U2 HBel.out).mono ?_
  rintro e U3 ⟨b, rfl, hf, hb9⟩
  clear l0 l1 l2 l3 l4 l5 l6 l7 l8
  have hs9 := hb9.size
  replace HBel := Lib.hid (HBel.out.trans (hb9.mono hlow))
  replace B_l : Hid (U3.heap[N_l]? = some (.cells #[.int .i64 L.now, .int .i64 L.hd, .int .i64 L.pr, .int .i64 L.to, .slice L.A1 n1 L.c1, .slice L.A2 n2 L.c2, .slice L.A3 n3 L.c3, .slice L.A4 n4 L.c4, .slice L.A5 n5 L.c5] 28 (0, 0))) := Lib.hid ((hb9.block _ l_l).trans B_l.out)
  replace B_j : Hid (U3.heap[N_j]? = some (.cells #[.int .i64 j.id, .int .i64 j.q, .int .i64 j.p, .int .i64 j.r, .int .i64 j.g, .int .i64 j.c, .int .i64 j.mn, .int .i64 j.mx] 32 (0, 0))) := Lib.hid ((hb9.block _ l_j).trans B_j.out)
  replace l_l : N_l < U3.heap.size := by omega
  replace l_j : N_j < U3.heap.size := by omega
  replace hlow : w.heap.size ≤ U3.heap.size := by omega
  clear hb9 hs9
  cases b
  · clear hf
    go_wp2
    go_ret
    exact ⟨by first | rfl | (simp; done), by rw [HB0.out]; exact HBel.out⟩
  · have hF := hf rfl
    have HF := Lib.hid hF
    clear hf hF
    have l0 : U3.cell? ⟨N_l, 0, none⟩ = some (.int .i64 L.now) := cell_blk (i := 0) B_l.out rfl
    have l1 : U3.cell? ⟨N_l, 1, none⟩ = some (.int .i64 L.hd) := cell_blk (i := 1) B_l.out rfl
    have l2 : U3.cell? ⟨N_l, 2, none⟩ = some (.int .i64 L.pr) := cell_blk (i := 2) B_l.out rfl
    have l3 : U3.cell? ⟨N_l, 3, none⟩ = some (.int .i64 L.to) := cell_blk (i := 3) B_l.out rfl
    have l4 : U3.cell? ⟨N_l, 4, none⟩ = some (.slice L.A1 n1 L.c1) := cell_blk (i := 4) B_l.out rfl
    have l5 : U3.cell? ⟨N_l, 5, none⟩ = some (.slice L.A2 n2 L.c2) := cell_blk (i := 5) B_l.out rfl
    have l6 : U3.cell? ⟨N_l, 6, none⟩ = some (.slice L.A3 n3 L.c3) := cell_blk (i := 6) B_l.out rfl
    have l7 : U3.cell? ⟨N_l, 7, none⟩ = some (.slice L.A4 n4 L.c4) := cell_blk (i := 7) B_l.out rfl
    have l8 : U3.cell? ⟨N_l, 8, none⟩ = some (.slice L.A5 n5 L.c5) := cell_blk (i := 8) B_l.out rfl
    have j0 : U3.cell? ⟨N_j, 0, none⟩ = some (.int .i64 j.id) := cell_blk (i := 0) B_j.out rfl
    have j1 : U3.cell? ⟨N_j, 1, none⟩ = some (.int .i64 j.q) := cell_blk (i := 1) B_j.out rfl
    have j2 : U3.cell? ⟨N_j, 2, none⟩ = some (.int .i64 j.p) := cell_blk (i := 2) B_j.out rfl
    have j3 : U3.cell? ⟨N_j, 3, none⟩ = some (.int .i64 j.r) := cell_blk (i := 3) B_j.out rfl
    have j4 : U3.cell? ⟨N_j, 4, none⟩ = some (.int .i64 j.g) := cell_blk (i := 4) B_j.out rfl
    have j5 : U3.cell? ⟨N_j, 5, none⟩ = some (.int .i64 j.c) := cell_blk (i := 5) B_j.out rfl
    have j6 : U3.cell? ⟨N_j, 6, none⟩ = some (.int .i64 j.mn) := cell_blk (i := 6) B_j.out rfl
    have j7 : U3.cell? ⟨N_j, 7, none⟩ = some (.int .i64 j.mx) := cell_blk (i := 7) B_j.out rfl
    go_wp2_with fail
    refine (hM.out HF.out U3 HBel.out).mono ?_
    rintro e U4 ⟨⟨A, k, c, r, n, rfl, hE, hS, hN⟩, hb9⟩
    clear l0 l1 l2 l3 l4 l5 l6 l7 l8 j0 j1 j2 j3 j4 j5 j6 j7
    have hs9 := hb9.size
    replace HBel := Lib.hid (HBel.out.trans (hb9.mono hlow))
    replace B_l : Hid (U4.heap[N_l]? = some (.cells #[.int .i64 L.now, .int .i64 L.hd, .int .i64 L.pr, .int .i64 L.to, .slice L.A1 n1 L.c1, .slice L.A2 n2 L.c2, .slice L.A3 n3 L.c3, .slice L.A4 n4 L.c4, .slice L.A5 n5 L.c5] 28 (0, 0))) := Lib.hid ((hb9.block _ l_l).trans B_l.out)
    replace B_j : Hid (U4.heap[N_j]? = some (.cells #[.int .i64 j.id, .int .i64 j.q, .int .i64 j.p, .int .i64 j.r, .int .i64 j.g, .int .i64 j.c, .int .i64 j.mn, .int .i64 j.mx] 32 (0, 0))) := Lib.hid ((hb9.block _ l_j).trans B_j.out)
    replace l_l : N_l < U4.heap.size := by omega
    replace l_j : N_j < U4.heap.size := by omega
    replace hlow : w.heap.size ≤ U4.heap.size := by omega
    clear hb9 hs9
    by_cases hr : r ≠ 0
    · have t1 : (r != 0) = true := by simp [hr]
      obtain ⟨_, rfl, _⟩ := hN hr
      clear hr hE hS hN
      go_wp2
      go_ret
      exact ⟨by first | rfl | (simp; done), by rw [HB0.out]; exact HBel.out⟩
    · obtain rfl : r = 0 := Classical.not_not.1 hr
      obtain ⟨hkn, hkl, hkc, hcm, hfe⟩ := hS rfl
      subst hkn
      obtain ⟨hok, hlo, hhi, hroom, U, hU, hMR⟩ := most_bounds hE
      have hok2 := hok
      unfold Shp.ok Jb.S at hok2
      simp at hok2
      have hj7 : j.S.mn = j.mn := rfl
      have hj8 : j.S.mx = j.mx := rfl
      obtain ⟨x, hx⟩ : ∃ x : Nat, j.mx = x := ⟨j.mx.toNat, by omega⟩
      obtain ⟨y, hy⟩ : ∃ y : Nat, j.mn = y := ⟨j.mn.toNat, by omega⟩
      have hlo1 : y ≤ k := by rw [hj7, hy] at hlo; simpa using hlo
      have hhi1 : k ≤ x := by rw [hj8, hx] at hhi; simpa using hhi
      have hx16 : x ≤ 16 := by omega
      obtain ⟨hUm, hq0, hqn⟩ := left_in hU
      obtain ⟨q, hq⟩ : ∃ q : Nat, j.q = q := ⟨j.q.toNat, by omega⟩
      have hUq : L.lf[q]? = some U := by
        unfold leftL at hU
        rw [if_pos hq0, hq] at hU
        simpa using hU
      have hqn2 : q < n2 := by have := HV.out.1; omega
      have hub := HF.out.f U hUm
      obtain ⟨hpg, hpc⟩ := placeF_units HV.out.2.2.1 hok HV.out.2.1 hroom
      obtain ⟨G, hG⟩ : ∃ G : Nat, G = gs (placeF j.S L.lv k) := ⟨_, rfl⟩
      obtain ⟨C, hC⟩ : ∃ C : Int, C = cs (placeF j.S L.lv k) := ⟨_, rfl⟩
      rw [← hG] at hpg
      rw [← hC] at hpc
      have hfit : (G : Int) ≤ U.g ∧ C ≤ U.c := by
        rcases hMR with ⟨_, _, _, h9, _⟩ | ⟨h9, _⟩
        · have h8 := (plE_zero.1 h9.symm).2
          rw [← hpg, ← hpc] at h8
          exact h8
        · exact absurd rfl h9
      have hmore := hMR.more
      have hSg : j.S.g = j.g := rfl
      have hSc : j.S.c = j.c := rfl
      have hg1 : j.S.g * ((k + 1 : Nat) : Int) = G + j.g := by rw [hpg, ← hSg, Int.natCast_add, Int.mul_add]; simp
      have hc1 : j.S.c * ((k + 1 : Nat) : Int) = C + j.c := by rw [hpc, ← hSc, Int.natCast_add, Int.mul_add]; simp
      rw [hg1, hc1] at hmore
      have hmx : j.S.mx.toNat = x := by rw [hj8, hx]; rfl
      rw [hmx] at hmore
      have hlow9 : Low (placeF j.S L.lv k) := fun s hs => by
        obtain ⟨a1, a2, a3⟩ := placeL_ok HV.out.2.2.1 HV.out.2.1 _ _ s hs
        exact ⟨a1, by rw [a3, hSc]; omega, by rw [a3, hSc]; omega⟩
      have hlen : (placeF j.S L.lv k).length = k := placeF_len hroom
      have HP := Lib.hid (And.intro hfe (And.intro hlow9 (And.intro hlen (And.intro hroom (And.intro hG hC)))))
      have HMo := Lib.hid hmore
      have hG2 : (G : Int) + j.g ≤ 2000000 := by omega
      have hC2 : C + j.c ≤ 2000000 := by omega
      have hC0 : 0 ≤ C := by rw [hpc]; exact Int.mul_nonneg (by rw [hSc]; omega) (by omega)
      have hgc : 0 ≤ j.g ∧ 0 ≤ j.c := by omega
      have HB9 := Lib.hid (And.intro hG2 (And.intro hC2 (And.intro hC0 hgc)))
      have HFI := Lib.hid hfit
      have HUQ := Lib.hid hUq
      clear hr hE hS hN hok hlo hhi hMR hok2 hj7 hj8 hUm hq0 hqn hub hpg hpc hfit hmore hSg hSc hg1 hc1 hmx hlow9 hfe hG hC hlen hkl hU hroom hG2 hC2 hC0 hgc hUq
      have t0 : decide (q < 0) = false := decide_eq_false (by omega)
      have t1 : decide ((q : Int) < 0) = false := decide_eq_false (by omega)
      have t2 : decide (n2 ≤ q) = false := decide_eq_false (by omega)
      have t3 : decide (k < y) = false := decide_eq_false (by omega)
      have t4 : decide (x < k) = false := decide_eq_false (by omega)
      have HQ := Lib.hid (And.intro hq (And.intro hx hy))
      replace B_j := Lib.hid B_j.out
      rw [hq, hx, hy] at B_j
      rw [hx, hy] at hRo
      clear hq hx hy
      have j0 : U4.cell? ⟨N_j, 0, none⟩ = some (.int .i64 j.id) := cell_blk (i := 0) B_j.out rfl
      have j1 : U4.cell? ⟨N_j, 1, none⟩ = some (.int .i64 (q : Nat)) := cell_blk (i := 1) B_j.out rfl
      have j2 : U4.cell? ⟨N_j, 2, none⟩ = some (.int .i64 j.p) := cell_blk (i := 2) B_j.out rfl
      have j3 : U4.cell? ⟨N_j, 3, none⟩ = some (.int .i64 j.r) := cell_blk (i := 3) B_j.out rfl
      have j4 : U4.cell? ⟨N_j, 4, none⟩ = some (.int .i64 j.g) := cell_blk (i := 4) B_j.out rfl
      have j5 : U4.cell? ⟨N_j, 5, none⟩ = some (.int .i64 j.c) := cell_blk (i := 5) B_j.out rfl
      have j6 : U4.cell? ⟨N_j, 6, none⟩ = some (.int .i64 (y : Nat)) := cell_blk (i := 6) B_j.out rfl
      have j7 : U4.cell? ⟨N_j, 7, none⟩ = some (.int .i64 (x : Nat)) := cell_blk (i := 7) B_j.out rfl
      have l0 : U4.cell? ⟨N_l, 0, none⟩ = some (.int .i64 L.now) := cell_blk (i := 0) B_l.out rfl
      have l1 : U4.cell? ⟨N_l, 1, none⟩ = some (.int .i64 L.hd) := cell_blk (i := 1) B_l.out rfl
      have l2 : U4.cell? ⟨N_l, 2, none⟩ = some (.int .i64 L.pr) := cell_blk (i := 2) B_l.out rfl
      have l3 : U4.cell? ⟨N_l, 3, none⟩ = some (.int .i64 L.to) := cell_blk (i := 3) B_l.out rfl
      have l4 : U4.cell? ⟨N_l, 4, none⟩ = some (.slice L.A1 n1 L.c1) := cell_blk (i := 4) B_l.out rfl
      have l5 : U4.cell? ⟨N_l, 5, none⟩ = some (.slice L.A2 n2 L.c2) := cell_blk (i := 5) B_l.out rfl
      have l6 : U4.cell? ⟨N_l, 6, none⟩ = some (.slice L.A3 n3 L.c3) := cell_blk (i := 6) B_l.out rfl
      have l7 : U4.cell? ⟨N_l, 7, none⟩ = some (.slice L.A4 n4 L.c4) := cell_blk (i := 7) B_l.out rfl
      have l8 : U4.cell? ⟨N_l, 8, none⟩ = some (.slice L.A5 n5 L.c5) := cell_blk (i := 8) B_l.out rfl
      go_wp2_with fail
      have hU9 := hU.out A c (placeF j.S L.lv k) U4 HP.out.1 HP.out.2.1 (by rw [HP.out.2.2.1]; omega)
      rw [HP.out.2.2.1, ← HP.out.2.2.2.2.1, ← HP.out.2.2.2.2.2] at hU9
      refine (hU9).mono ?_
      rintro e U5 ⟨rfl, hb9⟩
      clear j0 j1 j2 j3 j4 j5 j6 j7 l0 l1 l2 l3 l4 l5 l6 l7 l8
      have hs9 := hb9.size
      have HP2 := Lib.hid (HP.out.1.keep hb9 hb9.size)
      clear hU9
      replace HBel := Lib.hid (HBel.out.trans (hb9.mono hlow))
      replace B_l : Hid (U5.heap[N_l]? = some (.cells #[.int .i64 L.now, .int .i64 L.hd, .int .i64 L.pr, .int .i64 L.to, .slice L.A1 n1 L.c1, .slice L.A2 n2 L.c2, .slice L.A3 n3 L.c3, .slice L.A4 n4 L.c4, .slice L.A5 n5 L.c5] 28 (0, 0))) := Lib.hid ((hb9.block _ l_l).trans B_l.out)
      replace B_j : Hid (U5.heap[N_j]? = some (.cells #[.int .i64 j.id, .int .i64 (q : Nat), .int .i64 j.p, .int .i64 j.r, .int .i64 j.g, .int .i64 j.c, .int .i64 (y : Nat), .int .i64 (x : Nat)] 32 (0, 0))) := Lib.hid ((hb9.block _ l_j).trans B_j.out)
      replace l_l : N_l < U5.heap.size := by omega
      replace l_j : N_j < U5.heap.size := by omega
      replace hlow : w.heap.size ≤ U5.heap.size := by omega
      clear hb9 hs9
      obtain ⟨b2, off2, hA, hb2, hall⟩ := HV.out.2.2.2.1.at_ HUQ.out
      have HCA := Lib.hid (hall q U HUQ.out)
      have l5 : U5.cell? ⟨N_l, 5, none⟩ = some (.slice (some ⟨b2, off2, none⟩) n2 L.c2) := by rw [← hA]; exact cell_blk (i := 5) B_l.out rfl
      have l4 : U5.cell? ⟨N_l, 4, none⟩ = some (.slice L.A1 n1 L.c1) := cell_blk (i := 4) B_l.out rfl
      have ll1 : N_l < U5.heap.size + 1 := by omega
      have ll2 : N_l < U5.heap.size + 1 + 1 := by omega
      have lj1 : N_j < U5.heap.size + 1 := by omega
      have lj2 : N_j < U5.heap.size + 1 + 1 := by omega
      clear hall hA
      have j0 : U5.cell? ⟨N_j, 0, none⟩ = some (.int .i64 j.id) := cell_blk (i := 0) B_j.out rfl
      have j1 : U5.cell? ⟨N_j, 1, none⟩ = some (.int .i64 (q : Nat)) := cell_blk (i := 1) B_j.out rfl
      have j2 : U5.cell? ⟨N_j, 2, none⟩ = some (.int .i64 j.p) := cell_blk (i := 2) B_j.out rfl
      have j3 : U5.cell? ⟨N_j, 3, none⟩ = some (.int .i64 j.r) := cell_blk (i := 3) B_j.out rfl
      have j4 : U5.cell? ⟨N_j, 4, none⟩ = some (.int .i64 j.g) := cell_blk (i := 4) B_j.out rfl
      have j5 : U5.cell? ⟨N_j, 5, none⟩ = some (.int .i64 j.c) := cell_blk (i := 5) B_j.out rfl
      have j6 : U5.cell? ⟨N_j, 6, none⟩ = some (.int .i64 (y : Nat)) := cell_blk (i := 6) B_j.out rfl
      have j7 : U5.cell? ⟨N_j, 7, none⟩ = some (.int .i64 (x : Nat)) := cell_blk (i := 7) B_j.out rfl
      go_wp2_with (refine wpList_load_lu rfl _ rfl b2 (off2 + q * 2) U rfl (HCA.out.keep hb2 (HBel.out.alloc hlow _)) ?_)
      clear j0 j1 j2 j3 j4 j5 j6 j7 l5 l4 ll1 ll2 lj1 lj2
      obtain ⟨V6, hV6⟩ : ∃ W, W = (U5.alloc (.cells #[.int .i64 (G : Nat), .int .i64 C] 40)).alloc (.cells #[.int .i64 U.g, .int .i64 U.c] 40) := ⟨_, rfl⟩
      rw [← hV6]
      have hzV6 : V6.heap.size = U5.heap.size + 1 + 1 := by rw [hV6]; simp
      replace HBel : Hid (Below w.heap.size w V6) := Lib.hid (by rw [hV6]; exact ((HBel.out.alloc (hlow) _).alloc (by simp <;> omega) _))
      replace B_l : Hid (V6.heap[N_l]? = some (.cells #[.int .i64 L.now, .int .i64 L.hd, .int .i64 L.pr, .int .i64 L.to, .slice L.A1 n1 L.c1, .slice L.A2 n2 L.c2, .slice L.A3 n3 L.c3, .slice L.A4 n4 L.c4, .slice L.A5 n5 L.c5] 28 (0, 0))) := Lib.hid (by rw [hV6]; exact ((Below.heap_alloc _ _ _ (by first | omega | (simp <;> omega))).trans ((Below.heap_alloc _ _ _ (by first | omega | (simp <;> omega))).trans B_l.out)))
      replace B_j : Hid (V6.heap[N_j]? = some (.cells #[.int .i64 j.id, .int .i64 (q : Nat), .int .i64 j.p, .int .i64 j.r, .int .i64 j.g, .int .i64 j.c, .int .i64 (y : Nat), .int .i64 (x : Nat)] 32 (0, 0))) := Lib.hid (by rw [hV6]; exact ((Below.heap_alloc _ _ _ (by first | omega | (simp <;> omega))).trans ((Below.heap_alloc _ _ _ (by first | omega | (simp <;> omega))).trans B_j.out)))
      have B_u : Hid (V6.heap[U5.heap.size]? = some (.cells #[.int .i64 (G : Nat), .int .i64 C] 40 (0, 0))) := Lib.hid (by
        have h9 := heap_alloc_new (U5) (.cells #[.int .i64 (G : Nat), .int .i64 C] 40)
        rw [hV6]; exact ((Below.heap_alloc _ _ _ (by simp <;> omega)).trans h9))
      have B_z : Hid (V6.heap[U5.heap.size + 1]? = some (.cells #[.int .i64 U.g, .int .i64 U.c] 40 (0, 0))) := Lib.hid (by
        have h9 := heap_alloc_new (U5.alloc (.cells #[.int .i64 (G : Nat), .int .i64 C] 40)) (.cells #[.int .i64 U.g, .int .i64 U.c] 40)
        rw [World.size_alloc] at h9
        rw [hV6]; exact h9)
      obtain ⟨N_u, hN_u⟩ : ∃ N, N = U5.heap.size := ⟨_, rfl⟩
      obtain ⟨N_z, hN_z⟩ : ∃ N, N = U5.heap.size + 1 := ⟨_, rfl⟩
      (try rw [← hN_z])
      rw [← hN_z] at B_z
      (try rw [← hN_u])
      rw [← hN_u] at B_u
      have d_l_u : N_l < N_u := by omega
      have d_j_u : N_j < N_u := by omega
      have d_l_z : N_l < N_z := by omega
      have d_j_z : N_j < N_z := by omega
      replace l_l : N_l < V6.heap.size := by omega
      replace l_j : N_j < V6.heap.size := by omega
      have l_u : N_u < V6.heap.size := by omega
      have l_z : N_z < V6.heap.size := by omega
      have g_u : w.heap.size ≤ N_u := by omega
      have g_z : w.heap.size ≤ N_z := by omega
      have d_u_z : N_u < N_z := by omega
      replace hlow : w.heap.size ≤ V6.heap.size := by omega
      have hbz : Below U5.heap.size U5 V6 := by rw [hV6]; exact ((Below.refl _ _).alloc (Nat.le_refl _) _).alloc (by simp <;> omega) _
      clear hV6 hzV6 hN_u hN_z
      refine (hLs.out HF.out k (by have := HV.out.1; omega) HP.out.2.2.2.1 A c V6 HBel.out (HP2.out.keep hbz hbz.size)).mono ?_
      rintro e U7 ⟨V9, rfl, hb9⟩
      have hs9 := hb9.size
      replace HBel := Lib.hid (HBel.out.trans (hb9.mono hlow))
      replace B_l : Hid (U7.heap[N_l]? = some (.cells #[.int .i64 L.now, .int .i64 L.hd, .int .i64 L.pr, .int .i64 L.to, .slice L.A1 n1 L.c1, .slice L.A2 n2 L.c2, .slice L.A3 n3 L.c3, .slice L.A4 n4 L.c4, .slice L.A5 n5 L.c5] 28 (0, 0))) := Lib.hid ((hb9.block _ l_l).trans B_l.out)
      replace B_j : Hid (U7.heap[N_j]? = some (.cells #[.int .i64 j.id, .int .i64 (q : Nat), .int .i64 j.p, .int .i64 j.r, .int .i64 j.g, .int .i64 j.c, .int .i64 (y : Nat), .int .i64 (x : Nat)] 32 (0, 0))) := Lib.hid ((hb9.block _ l_j).trans B_j.out)
      replace B_u : Hid (U7.heap[N_u]? = some (.cells #[.int .i64 (G : Nat), .int .i64 C] 40 (0, 0))) := Lib.hid ((hb9.block _ l_u).trans B_u.out)
      replace B_z : Hid (U7.heap[N_z]? = some (.cells #[.int .i64 U.g, .int .i64 U.c] 40 (0, 0))) := Lib.hid ((hb9.block _ l_z).trans B_z.out)
      replace l_l : N_l < U7.heap.size := by omega
      replace l_j : N_j < U7.heap.size := by omega
      replace l_u : N_u < U7.heap.size := by omega
      replace l_z : N_z < U7.heap.size := by omega
      replace hlow : w.heap.size ≤ U7.heap.size := by omega
      clear hb9 hs9
      have t5 : decide (U.g < (G : Int)) = false := decide_eq_false (by have := HFI.out; omega)
      have t6 : decide (U.c < C) = false := decide_eq_false (by have := HFI.out; omega)
      have wz1 : wrap64 ((G : Int) + j.g) = (G : Int) + j.g := IntWalk.wrap64_in _ (by have := HB9.out; omega)
      have wz2 : wrap64 (C + j.c) = C + j.c := IntWalk.wrap64_in _ (by have := HB9.out; omega)
      by_cases hkx : k = x
      · subst hkx
        have v1 : (k == k) = true := by simp
        have u0 : U7.cell? ⟨N_u, 0, none⟩ = some (.int .i64 (G : Nat)) := cell_blk (i := 0) B_u.out rfl
        have u1 : U7.cell? ⟨N_u, 1, none⟩ = some (.int .i64 C) := cell_blk (i := 1) B_u.out rfl
        have z0 : U7.cell? ⟨N_z, 0, none⟩ = some (.int .i64 U.g) := cell_blk (i := 0) B_z.out rfl
        have z1 : U7.cell? ⟨N_z, 1, none⟩ = some (.int .i64 U.c) := cell_blk (i := 1) B_z.out rfl
        have j7 : U7.cell? ⟨N_j, 7, none⟩ = some (.int .i64 (k : Nat)) := cell_blk (i := 7) B_j.out rfl
        go_wp2
        clear u0 u1 z0 z1 j7
        go_ret
        exact ⟨by first | rfl | (simp; done), by rw [HB0.out]; exact HBel.out⟩
      have v1 : (k == x) = false := by simp [hkx]
      have v2 : ((k : Int) == (x : Int)) = false := by simp; omega
      rcases HMo.out with e | hor
      · exact absurd e hkx
      obtain ⟨RM, hRM⟩ : ∃ n : Nat, n = roomF j.S L.lv := ⟨_, rfl⟩
      rw [← hRM] at hor hRo
      clear hRM
      clear hkx
      have u0 : U7.cell? ⟨N_u, 0, none⟩ = some (.int .i64 (G : Nat)) := cell_blk (i := 0) B_u.out rfl
      have u1 : U7.cell? ⟨N_u, 1, none⟩ = some (.int .i64 C) := cell_blk (i := 1) B_u.out rfl
      have z0 : U7.cell? ⟨N_z, 0, none⟩ = some (.int .i64 U.g) := cell_blk (i := 0) B_z.out rfl
      have z1 : U7.cell? ⟨N_z, 1, none⟩ = some (.int .i64 U.c) := cell_blk (i := 1) B_z.out rfl
      have l0 : U7.cell? ⟨N_l, 0, none⟩ = some (.int .i64 L.now) := cell_blk (i := 0) B_l.out rfl
      have l1 : U7.cell? ⟨N_l, 1, none⟩ = some (.int .i64 L.hd) := cell_blk (i := 1) B_l.out rfl
      have l2 : U7.cell? ⟨N_l, 2, none⟩ = some (.int .i64 L.pr) := cell_blk (i := 2) B_l.out rfl
      have l3 : U7.cell? ⟨N_l, 3, none⟩ = some (.int .i64 L.to) := cell_blk (i := 3) B_l.out rfl
      have l4 : U7.cell? ⟨N_l, 4, none⟩ = some (.slice L.A1 n1 L.c1) := cell_blk (i := 4) B_l.out rfl
      have l5 : U7.cell? ⟨N_l, 5, none⟩ = some (.slice L.A2 n2 L.c2) := cell_blk (i := 5) B_l.out rfl
      have l6 : U7.cell? ⟨N_l, 6, none⟩ = some (.slice L.A3 n3 L.c3) := cell_blk (i := 6) B_l.out rfl
      have l7 : U7.cell? ⟨N_l, 7, none⟩ = some (.slice L.A4 n4 L.c4) := cell_blk (i := 7) B_l.out rfl
      have l8 : U7.cell? ⟨N_l, 8, none⟩ = some (.slice L.A5 n5 L.c5) := cell_blk (i := 8) B_l.out rfl
      have j0 : U7.cell? ⟨N_j, 0, none⟩ = some (.int .i64 j.id) := cell_blk (i := 0) B_j.out rfl
      have j1 : U7.cell? ⟨N_j, 1, none⟩ = some (.int .i64 (q : Nat)) := cell_blk (i := 1) B_j.out rfl
      have j2 : U7.cell? ⟨N_j, 2, none⟩ = some (.int .i64 j.p) := cell_blk (i := 2) B_j.out rfl
      have j3 : U7.cell? ⟨N_j, 3, none⟩ = some (.int .i64 j.r) := cell_blk (i := 3) B_j.out rfl
      have j4 : U7.cell? ⟨N_j, 4, none⟩ = some (.int .i64 j.g) := cell_blk (i := 4) B_j.out rfl
      have j5 : U7.cell? ⟨N_j, 5, none⟩ = some (.int .i64 j.c) := cell_blk (i := 5) B_j.out rfl
      have j6 : U7.cell? ⟨N_j, 6, none⟩ = some (.int .i64 (y : Nat)) := cell_blk (i := 6) B_j.out rfl
      have j7 : U7.cell? ⟨N_j, 7, none⟩ = some (.int .i64 (x : Nat)) := cell_blk (i := 7) B_j.out rfl
      go_wp2_with fail
      refine (hRo.out HF.out U7 HBel.out).mono ?_
      rintro e U8 ⟨rfl, hb9⟩
      clear u0 u1 z0 z1 l0 l1 l2 l3 l4 l5 l6 l7 l8 j0 j1 j2 j3 j4 j5 j6 j7
      have hs9 := hb9.size
      replace HBel := Lib.hid (HBel.out.trans (hb9.mono hlow))
      replace B_l : Hid (U8.heap[N_l]? = some (.cells #[.int .i64 L.now, .int .i64 L.hd, .int .i64 L.pr, .int .i64 L.to, .slice L.A1 n1 L.c1, .slice L.A2 n2 L.c2, .slice L.A3 n3 L.c3, .slice L.A4 n4 L.c4, .slice L.A5 n5 L.c5] 28 (0, 0))) := Lib.hid ((hb9.block _ l_l).trans B_l.out)
      replace B_j : Hid (U8.heap[N_j]? = some (.cells #[.int .i64 j.id, .int .i64 (q : Nat), .int .i64 j.p, .int .i64 j.r, .int .i64 j.g, .int .i64 j.c, .int .i64 (y : Nat), .int .i64 (x : Nat)] 32 (0, 0))) := Lib.hid ((hb9.block _ l_j).trans B_j.out)
      replace B_u : Hid (U8.heap[N_u]? = some (.cells #[.int .i64 (G : Nat), .int .i64 C] 40 (0, 0))) := Lib.hid ((hb9.block _ l_u).trans B_u.out)
      replace B_z : Hid (U8.heap[N_z]? = some (.cells #[.int .i64 U.g, .int .i64 U.c] 40 (0, 0))) := Lib.hid ((hb9.block _ l_z).trans B_z.out)
      replace l_l : N_l < U8.heap.size := by omega
      replace l_j : N_j < U8.heap.size := by omega
      replace l_u : N_u < U8.heap.size := by omega
      replace l_z : N_z < U8.heap.size := by omega
      replace hlow : w.heap.size ≤ U8.heap.size := by omega
      clear hb9 hs9
      by_cases hrk : RM ≤ k
      · have v3 : decide (RM ≤ k) = true := decide_eq_true hrk
        clear hrk hor
        have u0 : U8.cell? ⟨N_u, 0, none⟩ = some (.int .i64 (G : Nat)) := cell_blk (i := 0) B_u.out rfl
        have u1 : U8.cell? ⟨N_u, 1, none⟩ = some (.int .i64 C) := cell_blk (i := 1) B_u.out rfl
        have z0 : U8.cell? ⟨N_z, 0, none⟩ = some (.int .i64 U.g) := cell_blk (i := 0) B_z.out rfl
        have z1 : U8.cell? ⟨N_z, 1, none⟩ = some (.int .i64 U.c) := cell_blk (i := 1) B_z.out rfl
        have j0 : U8.cell? ⟨N_j, 0, none⟩ = some (.int .i64 j.id) := cell_blk (i := 0) B_j.out rfl
        have j1 : U8.cell? ⟨N_j, 1, none⟩ = some (.int .i64 (q : Nat)) := cell_blk (i := 1) B_j.out rfl
        have j2 : U8.cell? ⟨N_j, 2, none⟩ = some (.int .i64 j.p) := cell_blk (i := 2) B_j.out rfl
        have j3 : U8.cell? ⟨N_j, 3, none⟩ = some (.int .i64 j.r) := cell_blk (i := 3) B_j.out rfl
        have j4 : U8.cell? ⟨N_j, 4, none⟩ = some (.int .i64 j.g) := cell_blk (i := 4) B_j.out rfl
        have j5 : U8.cell? ⟨N_j, 5, none⟩ = some (.int .i64 j.c) := cell_blk (i := 5) B_j.out rfl
        have j6 : U8.cell? ⟨N_j, 6, none⟩ = some (.int .i64 (y : Nat)) := cell_blk (i := 6) B_j.out rfl
        have j7 : U8.cell? ⟨N_j, 7, none⟩ = some (.int .i64 (x : Nat)) := cell_blk (i := 7) B_j.out rfl
        go_wp2
        clear u0 u1 z0 z1 j0 j1 j2 j3 j4 j5 j6 j7
        go_ret
        exact ⟨by first | rfl | (simp; done), by rw [HB0.out]; exact HBel.out⟩
      by_cases hug : U.g < (G : Int) + j.g
      · have v3 : decide (RM ≤ k) = false := decide_eq_false hrk
        have v4 : decide (U.g < (G : Int) + j.g) = true := decide_eq_true hug
        clear hrk hor hug
        have u0 : U8.cell? ⟨N_u, 0, none⟩ = some (.int .i64 (G : Nat)) := cell_blk (i := 0) B_u.out rfl
        have u1 : U8.cell? ⟨N_u, 1, none⟩ = some (.int .i64 C) := cell_blk (i := 1) B_u.out rfl
        have z0 : U8.cell? ⟨N_z, 0, none⟩ = some (.int .i64 U.g) := cell_blk (i := 0) B_z.out rfl
        have z1 : U8.cell? ⟨N_z, 1, none⟩ = some (.int .i64 U.c) := cell_blk (i := 1) B_z.out rfl
        have j0 : U8.cell? ⟨N_j, 0, none⟩ = some (.int .i64 j.id) := cell_blk (i := 0) B_j.out rfl
        have j1 : U8.cell? ⟨N_j, 1, none⟩ = some (.int .i64 (q : Nat)) := cell_blk (i := 1) B_j.out rfl
        have j2 : U8.cell? ⟨N_j, 2, none⟩ = some (.int .i64 j.p) := cell_blk (i := 2) B_j.out rfl
        have j3 : U8.cell? ⟨N_j, 3, none⟩ = some (.int .i64 j.r) := cell_blk (i := 3) B_j.out rfl
        have j4 : U8.cell? ⟨N_j, 4, none⟩ = some (.int .i64 j.g) := cell_blk (i := 4) B_j.out rfl
        have j5 : U8.cell? ⟨N_j, 5, none⟩ = some (.int .i64 j.c) := cell_blk (i := 5) B_j.out rfl
        have j6 : U8.cell? ⟨N_j, 6, none⟩ = some (.int .i64 (y : Nat)) := cell_blk (i := 6) B_j.out rfl
        have j7 : U8.cell? ⟨N_j, 7, none⟩ = some (.int .i64 (x : Nat)) := cell_blk (i := 7) B_j.out rfl
        go_wp2
        clear u0 u1 z0 z1 j0 j1 j2 j3 j4 j5 j6 j7
        go_ret
        exact ⟨by first | rfl | (simp; done), by rw [HB0.out]; exact HBel.out⟩
      · have v3 : decide (RM ≤ k) = false := decide_eq_false hrk
        have v4 : decide (U.g < (G : Int) + j.g) = false := decide_eq_false hug
        have v5 : decide (U.c < C + j.c) = true := decide_eq_true (by omega)
        clear hrk hor hug
        have u0 : U8.cell? ⟨N_u, 0, none⟩ = some (.int .i64 (G : Nat)) := cell_blk (i := 0) B_u.out rfl
        have u1 : U8.cell? ⟨N_u, 1, none⟩ = some (.int .i64 C) := cell_blk (i := 1) B_u.out rfl
        have z0 : U8.cell? ⟨N_z, 0, none⟩ = some (.int .i64 U.g) := cell_blk (i := 0) B_z.out rfl
        have z1 : U8.cell? ⟨N_z, 1, none⟩ = some (.int .i64 U.c) := cell_blk (i := 1) B_z.out rfl
        have j0 : U8.cell? ⟨N_j, 0, none⟩ = some (.int .i64 j.id) := cell_blk (i := 0) B_j.out rfl
        have j1 : U8.cell? ⟨N_j, 1, none⟩ = some (.int .i64 (q : Nat)) := cell_blk (i := 1) B_j.out rfl
        have j2 : U8.cell? ⟨N_j, 2, none⟩ = some (.int .i64 j.p) := cell_blk (i := 2) B_j.out rfl
        have j3 : U8.cell? ⟨N_j, 3, none⟩ = some (.int .i64 j.r) := cell_blk (i := 3) B_j.out rfl
        have j4 : U8.cell? ⟨N_j, 4, none⟩ = some (.int .i64 j.g) := cell_blk (i := 4) B_j.out rfl
        have j5 : U8.cell? ⟨N_j, 5, none⟩ = some (.int .i64 j.c) := cell_blk (i := 5) B_j.out rfl
        have j6 : U8.cell? ⟨N_j, 6, none⟩ = some (.int .i64 (y : Nat)) := cell_blk (i := 6) B_j.out rfl
        have j7 : U8.cell? ⟨N_j, 7, none⟩ = some (.int .i64 (x : Nat)) := cell_blk (i := 7) B_j.out rfl
        go_wp2
        clear u0 u1 z0 z1 j0 j1 j2 j3 j4 j5 j6 j7
        go_ret
        exact ⟨by first | rfl | (simp; done), by rw [HB0.out]; exact HBel.out⟩

set_option maxRecDepth 100000 in
set_option maxHeartbeats 1000000 in
theorem lifted (os : Os) (started : os.Started) (H : Type) (enc : TypeId × Value → H) :
    ReturnsInHanded {} Tryd.checked os 3 .any (fun w args => (Rows.elasticMostSpec.pre enc Tryd.prog Tryd.f3 [] false w args ∧ laidMetH Tryd.prog laid1 w) ∧ sizedMet enc Tryd.prog Tryd.f3 (OpenSpec.ofChange Rows.elasticMostSpec) false w args)
      (Rows.elasticMostSpec.post enc Tryd.prog Tryd.f3 false true false false) := by
  refine returnsInHanded_of_change_and (C := Tryd.checked) (X := fun w _ => laidMetH Tryd.prog laid1 w) (fun _ _ _ hh h => h.of_heap hh) own started (by kernel_rfl) Tryd.func3
    (ChangeSpec.witness_shaped (enc := enc) (C := Tryd.checked) (os := os) (X := fun w _ => laidMetH Tryd.prog laid1 w) false (World.doorLaid Tryd.prog 400 os) #[.agg #[.int .i64 0, .int .i64 0, .int .i64 0, .int .i64 0, .slice none 0 0, .slice none 0 0, .slice none 0 0, .slice none 0 0, .slice none 0 0], .agg #[.int .i64 0, .int .i64 0, .int .i64 0, .int .i64 0, .int .i64 0, .int .i64 0, .int .i64 0, .int .i64 0]] 8 rfl (World.shaped_of_RefB (by kernel_rfl) (by kernel_rfl)) (by kernel_rfl) (by kernel_rfl) (by kernel_rfl) (door_met os _)) ?_
  intro W base args ds gs before hval0 hW _ _ hL _
  have hval : ∀ (j : Nat) t v, Tryd.f3.params[j]? = some t → args[j]? = some v → Value.okWide Tryd.prog W .any base t v := hval0
  have hW' := hW
  obtain ⟨p, q, hA0, hV, rfl, hfz, hnd⟩ := hW
  have hA : DataW.TrodAll enc Tryd.prog W 0 (fun _ => true) true Tryd.f3.params.toList args.toList ds p := hA0
  rw [Tryd.params3] at hA hval
  obtain ⟨v0, vs0, d0, ds0, p0, q0, hargs, rfl, rfl, h0, r0⟩ := trodAll_cons hA
  obtain ⟨v1, vs1, d1, ds1, p1, q1, rfl, rfl, rfl, h1, r1⟩ := trodAll_cons r0
  obtain ⟨rfl, rfl, rfl⟩ := trodAll_nil r1
  obtain rfl : args = #[v0, v1] := by cases args; simp_all
  obtain ⟨rfl, rfl⟩ := trodVars_none hV
  have k0 := h0
  have lt0 : ∀ x ∈ p0, x.block < W.heap.size := by obtain ⟨m, hm⟩ := k0; exact DataW.trod_lt m _ _ _ hm
  obtain ⟨x0, rfl, v0, q0⟩ := lk_of (hval 0 28 v0 rfl rfl) h0
  have k1 := h1
  have lt1 : ∀ x ∈ p1, x.block < W.heap.size := by obtain ⟨m, hm⟩ := k1; exact DataW.trod_lt m _ _ _ hm
  obtain ⟨x1, rfl, w1⟩ := jb_of (hval 1 32 v1 rfl rfl) h1
  have hT := of_laid hL
  clear hL
  clear hA0 hval0
  refine (walk x0 x1 W v0 q0 w1 hT).mono fun e W' ⟨he, bel⟩ => ?_
  subst he
  exact ⟨_, rfl, _, _, _, [], _, [], hW', trodAll_mk1 (shut_bool Tryd.underlying4 _), (trodAll_cons_mk (Below.trod laidOut (by kernel_rfl) (of_decide_eq_true (by kernel_rfl)) k0 bel lt0) (trodAll_cons_mk (Below.trod laidOut (by kernel_rfl) (of_decide_eq_true (by kernel_rfl)) k1 bel lt1) trodAll_mk0)), rfl, bel.frame _, fun h => by cases h⟩

/-- THE ROW. -/
theorem row_holds : Rows.ElasticMostSaid :=
  OpenClaim.holds_of_wide 3 Tryd.f3 rfl rfl rfl rfl rfl rfl rfl ⟨rfl, rfl, rfl, rfl, rfl⟩ rfl rfl rfl rfl rfl (by kernel_rfl) Tryd.func3 (by kernel_rfl)
    (of_decide_eq_true (by kernel_rfl)) (by unfold Func.isWrapper; first | (rw [if_pos (by decide +kernel)]; kernel_rfl) | (rw [if_neg (by decide +kernel)]; exact ⟨rfl, rfl⟩))
    (fun os started H enc _ => lifted os started H enc)

/-- THE STATEMENT. -/
theorem card_holds : Rows.ElasticMostCardSaid :=
  Claim7.holds_tied_plain_at .later [] [.data] true (true, Rows.elasticMostCard.stood.harness.2) false
    row_holds (fun _ h => by cases h) (by kernel_rfl) (fun _ h => by cases h) elasticMost_row_tie rfl ⟨rfl, rfl⟩ (by kernel_rfl) rfl
    (fun f fn hf hfn => by
      obtain rfl : f = 3 := Option.some.inj ((show Tryd.prog.funcNamed Rows.elasticMostRow.func = some 3 by kernel_rfl).symm.trans hf) |>.symm
      obtain rfl : fn = Tryd.f3 := (Option.some.inj (Tryd.func3.symm.trans hfn)).symm
      exact ⟨by kernel_rfl, fun j t ht => by
        rw [Tryd.params3] at ht
        have hm : t ∈ [28, 32] := by simpa using Array.mem_of_getElem? ht
        have hall : ([28, 32].all fun u => !Tryd.prog.wantsStandIn u) = true := by kernel_rfl
        exact (show Tryd.prog.wantsStandIn t = false by simpa using List.all_eq_true.1 hall t hm)⟩)
    (by kernel_rfl)
end Go.Proofs.YtppapmacngdefaaDoor.elasticMost
