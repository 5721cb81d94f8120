/- Placing so many members leaves room for no fewer than so many less, and for no more than there was: the law PackLeft answers true, at every input. The library's table of lowest units is as the program's text lays it (tied). -/
import Derived.Test.YtjbjjdcmkbigdaaDoorPackLeftM
import Derived.SevenTiedAt
import Derived.Test.YtjbjjdcmkbigdaaDoorTie
import Derived.Test.YtjbjjdcmkbigdaaDoorCards
set_option linter.unusedVariables false
namespace Go.Proofs.YtjbjjdcmkbigdaaDoor.packLeft
open Go Go.ChangeShapes Go.WideShapes Go.ChangeAt Go.RowKit
set_option maxRecDepth 100000 in
set_option maxHeartbeats 16000000 in
theorem walk (a0 : Option Addr) (c0 : Nat) (l0 : List Fe) (g1 c1 mn1 mx1 : Int) (a2 : Int) (w : World) (v0 : Fes w w.heap.size a0 l0) (q0 : ∀ s ∈ l0, FeOk s) (lc0 : l0.length ≤ c0) (mc0 : c0 ≤ maxLen) (w1 : Shp.Wf ⟨g1, c1, mn1, mx1⟩) (w2 : (Lit.int .i64 a2).wf = true) (hT : Tab w) :
    Calls Tryd.prog 9 #[.slice a0 l0.length c0, .agg #[.int .i64 g1, .int .i64 c1, .int .i64 mn1, .int .i64 mx1], .int .i64 a2] w fun e w' => e = .returned (.bool true) ∧ Below w.heap.size w w' := by
  obtain ⟨S, hS⟩ : ∃ S : Shp, S = ⟨g1, c1, mn1, mx1⟩ := ⟨_, rfl⟩
  have e1 : g1 = S.g := by rw [hS]
  have e2 : c1 = S.c := by rw [hS]
  have e3 : mn1 = S.mn := by rw [hS]
  have e4 : mx1 = S.mx := by rw [hS]
  rw [← hS] at w1
  rw [e1, e2, e3, e4]
  clear hS e1 e2 e3 e4
  have HT := Lib.hid hT
  have hAw := Lib.hid (fun W (hT : Tab W) => awake_p W hT)
  have hFw := Lib.hid (fun W (hW : Below w.heap.size w W) => fewp_any a0 c0 W.heap.size l0 W (fes_up v0 (Nat.le_refl _) hW) (Nat.le_refl _) lc0)
  cases hv : viewL l0
  · rw [hv] at hFw
    obtain ⟨n0, hn0⟩ : ∃ n, l0.length = n := ⟨_, rfl⟩
    rw [hn0] at hFw ⊢
    clear hn0 hv v0 q0 lc0 w1 hT w2
    have HBel := Lib.hid (Below.refl w.heap.size w)
    have hlow : w.heap.size ≤ w.heap.size := Nat.le_refl _
    go_enter Tryd.func9, Tryd.ntmps9
    go_wp2_with fail
    obtain ⟨V1, hV1⟩ : ∃ W, W = w.alloc (.cells #[.int .i64 S.g, .int .i64 S.c, .int .i64 S.mn, .int .i64 S.mx] 24) := ⟨_, rfl⟩
    rw [← hV1]
    have hzV1 : V1.heap.size = w.heap.size + 1 := by rw [hV1]; simp
    replace HBel : Hid (Below w.heap.size w V1) := Lib.hid (by rw [hV1]; exact (HBel.out.alloc (hlow) _))
    have B_s : Hid (V1.heap[w.heap.size]? = some (.cells #[.int .i64 S.g, .int .i64 S.c, .int .i64 S.mn, .int .i64 S.mx] 24 (0, 0))) := Lib.hid (by
      have h9 := heap_alloc_new (w) (.cells #[.int .i64 S.g, .int .i64 S.c, .int .i64 S.mn, .int .i64 S.mx] 24)
      rw [hV1]; exact h9)
    obtain ⟨N_s, hN_s⟩ : ∃ N, N = w.heap.size := ⟨_, rfl⟩
    (try rw [← hN_s])
    rw [← hN_s] at B_s
    have l_s : N_s < V1.heap.size := by omega
    have g_s : w.heap.size ≤ N_s := by omega
    replace hlow : w.heap.size ≤ V1.heap.size := by omega
    clear hV1 hzV1 hN_s
    refine (hAw.out V1 (HT.out.below HBel.out HT.out.size)).mono ?_
    rintro e U2 ⟨rfl, hb9⟩
    have hs9 := hb9.size
    replace HBel := Lib.hid (HBel.out.trans (hb9.mono hlow))
    replace B_s : Hid (U2.heap[N_s]? = some (.cells #[.int .i64 S.g, .int .i64 S.c, .int .i64 S.mn, .int .i64 S.mx] 24 (0, 0))) := Lib.hid ((hb9.block _ l_s).trans B_s.out)
    replace l_s : N_s < U2.heap.size := by omega
    replace hlow : w.heap.size ≤ U2.heap.size := by omega
    clear hb9 hs9
    go_wp2_with fail
    refine (hFw.out U2 HBel.out).mono ?_
    rintro e U3 ⟨rfl, hb9⟩
    have hs9 := hb9.size
    replace HBel := Lib.hid (HBel.out.trans (hb9.mono hlow))
    replace B_s : Hid (U3.heap[N_s]? = some (.cells #[.int .i64 S.g, .int .i64 S.c, .int .i64 S.mn, .int .i64 S.mx] 24 (0, 0))) := Lib.hid ((hb9.block _ l_s).trans B_s.out)
    replace l_s : N_s < U3.heap.size := by omega
    replace hlow : w.heap.size ≤ U3.heap.size := by omega
    clear hb9 hs9
    go_wp2
    go_ret
    exact ⟨rfl, HBel.out⟩
  have hvv := hv
  unfold viewL at hvv
  rw [Bool.and_eq_true] at hvv
  have hlen : l0.length ≤ 70 := of_decide_eq_true hvv.1
  have hview := view_of_right q0 hvv.2
  obtain ⟨n0, hn0⟩ : ∃ n, l0.length = n := ⟨_, rfl⟩
  have H := Lib.hid (And.intro v0 (And.intro q0 (And.intro w1 (And.intro hT hn0))))
  rw [hv] at hFw
  rw [hn0] at hFw hlen lc0 ⊢
  obtain ⟨b1, b2⟩ := bounds_i64 w2
  have hr16 := roomF_le S l0
  rw [hn0] at hr16
  obtain ⟨r, hr⟩ : ∃ r, r = roomF S l0 := ⟨_, rfl⟩
  rw [← hr] at hr16
  have cR := Lib.hid (fun W (hW : Below w.heap.size w W) => show Calls Tryd.prog 14 #[.slice a0 n0 c0, .agg #[.int .i64 S.g, .int .i64 S.c, .int .i64 S.mn, .int .i64 S.mx]] W (fun e w' => e = .returned (.int .i64 (r : Nat)) ∧ Below W.heap.size W w') from (by
    have h9 := room_any a0 c0 W.heap.size l0 S W (fes_up H.out.1 (Nat.le_refl _) hW) (Nat.le_refl _) (by omega) H.out.2.2.1 H.out.2.1 (H.out.2.2.2.1.below hW H.out.2.2.2.1.size)
    rw [hn0, ← hr] at h9; exact h9))
  by_cases hbad : S.ok = false ∨ a2 < 1 ∨ 16 < a2
  · have hP := Lib.hid (fun W => place_bad a0 n0 c0 S a2 W w1 hbad)
    unfold shV at hP
    clear hn0 hv hvv hview v0 q0 w1 hT w2 hr hr16 lc0 b1 b2 hbad
    have HBel := Lib.hid (Below.refl w.heap.size w)
    have hlow : w.heap.size ≤ w.heap.size := Nat.le_refl _
    go_enter Tryd.func9, Tryd.ntmps9
    go_wp2_with fail
    obtain ⟨V1, hV1⟩ : ∃ W, W = w.alloc (.cells #[.int .i64 S.g, .int .i64 S.c, .int .i64 S.mn, .int .i64 S.mx] 24) := ⟨_, rfl⟩
    rw [← hV1]
    have hzV1 : V1.heap.size = w.heap.size + 1 := by rw [hV1]; simp
    replace HBel : Hid (Below w.heap.size w V1) := Lib.hid (by rw [hV1]; exact (HBel.out.alloc (hlow) _))
    have B_s : Hid (V1.heap[w.heap.size]? = some (.cells #[.int .i64 S.g, .int .i64 S.c, .int .i64 S.mn, .int .i64 S.mx] 24 (0, 0))) := Lib.hid (by
      have h9 := heap_alloc_new (w) (.cells #[.int .i64 S.g, .int .i64 S.c, .int .i64 S.mn, .int .i64 S.mx] 24)
      rw [hV1]; exact h9)
    obtain ⟨N_s, hN_s⟩ : ∃ N, N = w.heap.size := ⟨_, rfl⟩
    (try rw [← hN_s])
    rw [← hN_s] at B_s
    have l_s : N_s < V1.heap.size := by omega
    have g_s : w.heap.size ≤ N_s := by omega
    replace hlow : w.heap.size ≤ V1.heap.size := by omega
    clear hV1 hzV1 hN_s
    refine (hAw.out V1 (HT.out.below HBel.out HT.out.size)).mono ?_
    rintro e U2 ⟨rfl, hb9⟩
    have hs9 := hb9.size
    replace HBel := Lib.hid (HBel.out.trans (hb9.mono hlow))
    replace B_s : Hid (U2.heap[N_s]? = some (.cells #[.int .i64 S.g, .int .i64 S.c, .int .i64 S.mn, .int .i64 S.mx] 24 (0, 0))) := Lib.hid ((hb9.block _ l_s).trans B_s.out)
    replace l_s : N_s < U2.heap.size := by omega
    replace hlow : w.heap.size ≤ U2.heap.size := by omega
    clear hb9 hs9
    go_wp2_with fail
    refine (hFw.out U2 HBel.out).mono ?_
    rintro e U3 ⟨rfl, hb9⟩
    have hs9 := hb9.size
    replace HBel := Lib.hid (HBel.out.trans (hb9.mono hlow))
    replace B_s : Hid (U3.heap[N_s]? = some (.cells #[.int .i64 S.g, .int .i64 S.c, .int .i64 S.mn, .int .i64 S.mx] 24 (0, 0))) := Lib.hid ((hb9.block _ l_s).trans B_s.out)
    replace l_s : N_s < U3.heap.size := by omega
    replace hlow : w.heap.size ≤ U3.heap.size := by omega
    clear hb9 hs9
    have s0 : U3.cell? ⟨N_s, 0, none⟩ = some (.int .i64 S.g) := cell_blk (i := 0) B_s.out rfl
    have s1 : U3.cell? ⟨N_s, 1, none⟩ = some (.int .i64 S.c) := cell_blk (i := 1) B_s.out rfl
    have s2 : U3.cell? ⟨N_s, 2, none⟩ = some (.int .i64 S.mn) := cell_blk (i := 2) B_s.out rfl
    have s3 : U3.cell? ⟨N_s, 3, none⟩ = some (.int .i64 S.mx) := cell_blk (i := 3) B_s.out rfl
    go_wp2_with fail
    refine (cR.out U3 HBel.out).mono ?_
    rintro e U4 ⟨rfl, hb9⟩
    clear s0 s1 s2 s3
    have hs9 := hb9.size
    replace HBel := Lib.hid (HBel.out.trans (hb9.mono hlow))
    replace B_s : Hid (U4.heap[N_s]? = some (.cells #[.int .i64 S.g, .int .i64 S.c, .int .i64 S.mn, .int .i64 S.mx] 24 (0, 0))) := Lib.hid ((hb9.block _ l_s).trans B_s.out)
    replace l_s : N_s < U4.heap.size := by omega
    replace hlow : w.heap.size ≤ U4.heap.size := by omega
    clear hb9 hs9
    have s0 : U4.cell? ⟨N_s, 0, none⟩ = some (.int .i64 S.g) := cell_blk (i := 0) B_s.out rfl
    have s1 : U4.cell? ⟨N_s, 1, none⟩ = some (.int .i64 S.c) := cell_blk (i := 1) B_s.out rfl
    have s2 : U4.cell? ⟨N_s, 2, none⟩ = some (.int .i64 S.mn) := cell_blk (i := 2) B_s.out rfl
    have s3 : U4.cell? ⟨N_s, 3, none⟩ = some (.int .i64 S.mx) := cell_blk (i := 3) B_s.out rfl
    go_wp2_with fail
    refine (hP.out _).mono ?_
    rintro e U5 ⟨rfl, hb9⟩
    clear s0 s1 s2 s3
    have hs9 := hb9.size
    replace HBel := Lib.hid (HBel.out.trans (hb9.mono hlow))
    replace B_s : Hid (U5.heap[N_s]? = some (.cells #[.int .i64 S.g, .int .i64 S.c, .int .i64 S.mn, .int .i64 S.mx] 24 (0, 0))) := Lib.hid ((hb9.block _ l_s).trans B_s.out)
    replace l_s : N_s < U5.heap.size := by omega
    replace hlow : w.heap.size ≤ U5.heap.size := by omega
    clear hb9 hs9
    go_wp2
    go_ret
    exact ⟨rfl, HBel.out⟩
  obtain ⟨p, rfl⟩ : ∃ p : Nat, a2 = p := ⟨a2.toNat, by omega⟩
  have hok : S.ok = true := by cases h : S.ok; exact absurd (.inl h) hbad; rfl
  have hp16 : p ≤ 16 := by omega
  have hp1 : 1 ≤ p := by omega
  by_cases hfull : roomF S l0 < p
  · have hP := Lib.hid (fun W (hW : Below w.heap.size w W) => show Calls Tryd.prog 12 #[.slice a0 n0 c0, .agg #[.int .i64 S.g, .int .i64 S.c, .int .i64 S.mn, .int .i64 S.mx], .int .i64 (p : Nat)] W (fun e w' => e = .returned (.tuple #[.slice none 0 0, .int .i64 7]) ∧ Below W.heap.size W w') from (by
      have h9 := place_full a0 c0 W.heap.size l0 S p W (fes_up H.out.1 (Nat.le_refl _) hW) (Nat.le_refl _) (by omega) H.out.2.2.1 H.out.2.1 (H.out.2.2.2.1.below hW H.out.2.2.2.1.size) hok (by omega) (by omega) (by omega)
      rw [hn0] at h9; exact h9))
    clear hn0 hv hvv hview v0 q0 w1 hT w2 hr hr16 lc0 b1 b2 hbad hfull hok
    have HBel := Lib.hid (Below.refl w.heap.size w)
    have hlow : w.heap.size ≤ w.heap.size := Nat.le_refl _
    go_enter Tryd.func9, Tryd.ntmps9
    go_wp2_with fail
    obtain ⟨V1, hV1⟩ : ∃ W, W = w.alloc (.cells #[.int .i64 S.g, .int .i64 S.c, .int .i64 S.mn, .int .i64 S.mx] 24) := ⟨_, rfl⟩
    rw [← hV1]
    have hzV1 : V1.heap.size = w.heap.size + 1 := by rw [hV1]; simp
    replace HBel : Hid (Below w.heap.size w V1) := Lib.hid (by rw [hV1]; exact (HBel.out.alloc (hlow) _))
    have B_s : Hid (V1.heap[w.heap.size]? = some (.cells #[.int .i64 S.g, .int .i64 S.c, .int .i64 S.mn, .int .i64 S.mx] 24 (0, 0))) := Lib.hid (by
      have h9 := heap_alloc_new (w) (.cells #[.int .i64 S.g, .int .i64 S.c, .int .i64 S.mn, .int .i64 S.mx] 24)
      rw [hV1]; exact h9)
    obtain ⟨N_s, hN_s⟩ : ∃ N, N = w.heap.size := ⟨_, rfl⟩
    (try rw [← hN_s])
    rw [← hN_s] at B_s
    have l_s : N_s < V1.heap.size := by omega
    have g_s : w.heap.size ≤ N_s := by omega
    replace hlow : w.heap.size ≤ V1.heap.size := by omega
    clear hV1 hzV1 hN_s
    refine (hAw.out V1 (HT.out.below HBel.out HT.out.size)).mono ?_
    rintro e U2 ⟨rfl, hb9⟩
    have hs9 := hb9.size
    replace HBel := Lib.hid (HBel.out.trans (hb9.mono hlow))
    replace B_s : Hid (U2.heap[N_s]? = some (.cells #[.int .i64 S.g, .int .i64 S.c, .int .i64 S.mn, .int .i64 S.mx] 24 (0, 0))) := Lib.hid ((hb9.block _ l_s).trans B_s.out)
    replace l_s : N_s < U2.heap.size := by omega
    replace hlow : w.heap.size ≤ U2.heap.size := by omega
    clear hb9 hs9
    go_wp2_with fail
    refine (hFw.out U2 HBel.out).mono ?_
    rintro e U3 ⟨rfl, hb9⟩
    have hs9 := hb9.size
    replace HBel := Lib.hid (HBel.out.trans (hb9.mono hlow))
    replace B_s : Hid (U3.heap[N_s]? = some (.cells #[.int .i64 S.g, .int .i64 S.c, .int .i64 S.mn, .int .i64 S.mx] 24 (0, 0))) := Lib.hid ((hb9.block _ l_s).trans B_s.out)
    replace l_s : N_s < U3.heap.size := by omega
    replace hlow : w.heap.size ≤ U3.heap.size := by omega
    clear hb9 hs9
    have s0 : U3.cell? ⟨N_s, 0, none⟩ = some (.int .i64 S.g) := cell_blk (i := 0) B_s.out rfl
    have s1 : U3.cell? ⟨N_s, 1, none⟩ = some (.int .i64 S.c) := cell_blk (i := 1) B_s.out rfl
    have s2 : U3.cell? ⟨N_s, 2, none⟩ = some (.int .i64 S.mn) := cell_blk (i := 2) B_s.out rfl
    have s3 : U3.cell? ⟨N_s, 3, none⟩ = some (.int .i64 S.mx) := cell_blk (i := 3) B_s.out rfl
    go_wp2_with fail
    refine (cR.out U3 HBel.out).mono ?_
    rintro e U4 ⟨rfl, hb9⟩
    clear s0 s1 s2 s3
    have hs9 := hb9.size
    replace HBel := Lib.hid (HBel.out.trans (hb9.mono hlow))
    replace B_s : Hid (U4.heap[N_s]? = some (.cells #[.int .i64 S.g, .int .i64 S.c, .int .i64 S.mn, .int .i64 S.mx] 24 (0, 0))) := Lib.hid ((hb9.block _ l_s).trans B_s.out)
    replace l_s : N_s < U4.heap.size := by omega
    replace hlow : w.heap.size ≤ U4.heap.size := by omega
    clear hb9 hs9
    have s0 : U4.cell? ⟨N_s, 0, none⟩ = some (.int .i64 S.g) := cell_blk (i := 0) B_s.out rfl
    have s1 : U4.cell? ⟨N_s, 1, none⟩ = some (.int .i64 S.c) := cell_blk (i := 1) B_s.out rfl
    have s2 : U4.cell? ⟨N_s, 2, none⟩ = some (.int .i64 S.mn) := cell_blk (i := 2) B_s.out rfl
    have s3 : U4.cell? ⟨N_s, 3, none⟩ = some (.int .i64 S.mx) := cell_blk (i := 3) B_s.out rfl
    go_wp2_with fail
    refine (hP.out U4 HBel.out).mono ?_
    rintro e U5 ⟨rfl, hb9⟩
    clear s0 s1 s2 s3
    have hs9 := hb9.size
    replace HBel := Lib.hid (HBel.out.trans (hb9.mono hlow))
    replace B_s : Hid (U5.heap[N_s]? = some (.cells #[.int .i64 S.g, .int .i64 S.c, .int .i64 S.mn, .int .i64 S.mx] 24 (0, 0))) := Lib.hid ((hb9.block _ l_s).trans B_s.out)
    replace l_s : N_s < U5.heap.size := by omega
    replace hlow : w.heap.size ≤ U5.heap.size := by omega
    clear hb9 hs9
    go_wp2
    go_ret
    exact ⟨rfl, HBel.out⟩
  have hP := Lib.hid (fun W (hW : Below w.heap.size w W) => show Calls Tryd.prog 12 #[.slice a0 n0 c0, .agg #[.int .i64 S.g, .int .i64 S.c, .int .i64 S.mn, .int .i64 S.mx], .int .i64 (p : Nat)] W (fun e w' => ∃ b off cap', e = .returned (.tuple #[.slice (some ⟨b, off, none⟩) (p) cap', .int .i64 0]) ∧ p ≤ cap' ∧ Below W.heap.size W w' ∧ Hid (Fes w' w'.heap.size (some ⟨b, off, none⟩) (placeF S l0 (p)))) from (by
    have h9 := place_row a0 c0 W.heap.size l0 S (p) W (fes_up H.out.1 (Nat.le_refl _) hW) (Nat.le_refl _) (by omega) H.out.2.2.1 H.out.2.1 (H.out.2.2.2.1.below hW H.out.2.2.2.1.size) hok (by omega) (by omega) (by omega)
    rw [hn0] at h9; exact h9))
  have hpl : (placeF S l0 p).length = p := placeF_len (by omega)
  obtain ⟨l1, hl1, hsp1, hle1, hge1⟩ := less_placeF (S := S) (l := l0) (p := p) hview.one
  have hl1n : l1.length = n0 := by have := congrArg List.length hsp1; unfold spotsL at this; rw [List.length_map, List.length_map] at this; rw [this, hn0]
  obtain ⟨b, off, rfl, hb, hc⟩ : ∃ b off, a0 = some ⟨b, off, none⟩ ∧ b < w.heap.size ∧ ∀ (i : Nat) (x : Fe), l0[i]? = some x → FeAt w b (off + i * 4) x := by
    rcases v0 with h | h
    · rw [h] at hfull; exact absurd (show roomF S [] < p by show 0 < p; omega) hfull
    · exact h
  have hl0 : 0 < n0 := by omega
  have hLs := Lib.hid (fun (x1 o1 k1 : Nat) W (h : Fes W W.heap.size (some ⟨x1, o1, none⟩) (placeF S l0 p)) (hW : Below w.heap.size w W) => show Calls Tryd.prog 19 #[.slice (some ⟨b, off, none⟩) n0 c0, .slice (some ⟨x1, o1, none⟩) p k1] W (fun e w' => ∃ g cap', e = .returned (.tuple #[.slice (some ⟨g, 0, none⟩) n0 cap', .int .i64 0]) ∧ Below W.heap.size W w' ∧ Hid (Fes w' w'.heap.size (some ⟨g, 0, none⟩) l1 ∧ View l1)) from (by
    have h9 := less_any b off c0 (some ⟨x1, o1, none⟩) k1 l0 (placeF S l0 p) W (fun i x hx => (hc i x hx).keep (B := w.heap.size) hb hW) (by have := hW.size; omega) (by omega) (by omega) hview h (fun s hs => (placeL_ok H.out.2.2.1 H.out.2.1 _ _ s hs).1) (by omega)
    rw [hn0, hpl] at h9
    refine h9.mono ?_
    rintro e w' ⟨hb9, h1, _⟩
    rw [hl1] at h1
    obtain ⟨g, cap', he, hf⟩ := h1 rfl
    exact ⟨g, cap', he, hb9, Lib.hid ⟨hf.out.1, hf.out.2.2⟩⟩))
  obtain ⟨r1, hr1⟩ : ∃ r, r = roomF S l1 := ⟨_, rfl⟩
  rw [← hr1] at hle1 hge1
  rw [← hr] at hle1 hge1
  have cR1 := Lib.hid (fun (g cap' : Nat) W (h : Fes W W.heap.size (some ⟨g, 0, none⟩) l1) (hv1 : View l1) (hW : Below w.heap.size w W) => show Calls Tryd.prog 14 #[.slice (some ⟨g, 0, none⟩) n0 cap', .agg #[.int .i64 S.g, .int .i64 S.c, .int .i64 S.mn, .int .i64 S.mx]] W (fun e w' => e = .returned (.int .i64 (r1 : Nat)) ∧ Below W.heap.size W w') from (by
    have h9 := room_any (some ⟨g, 0, none⟩) cap' W.heap.size l1 S W h (Nat.le_refl _) (by omega) H.out.2.2.1 (fun f hf => (hv1.ok f hf).1) (H.out.2.2.2.1.below hW H.out.2.2.2.1.size)
    rw [hl1n, ← hr1] at h9; exact h9))
  have hrb : r ≤ 2000 := by omega
  have t1 : decide ((r : Int) - (p : Int) ≤ (r1 : Int)) = true := decide_eq_true (by omega)
  have t2 : decide (r1 ≤ r) = true := decide_eq_true hle1
  clear hn0 hv hvv hview v0 q0 w1 hT w2 hr lc0 b1 b2 hbad hfull hok hl1 hsp1 hl1n hpl hr1 hc
  have HBel := Lib.hid (Below.refl w.heap.size w)
  have hlow : w.heap.size ≤ w.heap.size := Nat.le_refl _
  go_enter Tryd.func9, Tryd.ntmps9
  go_wp2_with fail
  obtain ⟨V1, hV1⟩ : ∃ W, W = w.alloc (.cells #[.int .i64 S.g, .int .i64 S.c, .int .i64 S.mn, .int .i64 S.mx] 24) := ⟨_, rfl⟩
  rw [← hV1]
  have hzV1 : V1.heap.size = w.heap.size + 1 := by rw [hV1]; simp
  replace HBel : Hid (Below w.heap.size w V1) := Lib.hid (by rw [hV1]; exact (HBel.out.alloc (hlow) _))
  have B_s : Hid (V1.heap[w.heap.size]? = some (.cells #[.int .i64 S.g, .int .i64 S.c, .int .i64 S.mn, .int .i64 S.mx] 24 (0, 0))) := Lib.hid (by
    have h9 := heap_alloc_new (w) (.cells #[.int .i64 S.g, .int .i64 S.c, .int .i64 S.mn, .int .i64 S.mx] 24)
    rw [hV1]; exact h9)
  obtain ⟨N_s, hN_s⟩ : ∃ N, N = w.heap.size := ⟨_, rfl⟩
  (try rw [← hN_s])
  rw [← hN_s] at B_s
  have l_s : N_s < V1.heap.size := by omega
  have g_s : w.heap.size ≤ N_s := by omega
  replace hlow : w.heap.size ≤ V1.heap.size := by omega
  clear hV1 hzV1 hN_s
  refine (hAw.out V1 (HT.out.below HBel.out HT.out.size)).mono ?_
  rintro e U2 ⟨rfl, hb9⟩
  have hs9 := hb9.size
  replace HBel := Lib.hid (HBel.out.trans (hb9.mono hlow))
  replace B_s : Hid (U2.heap[N_s]? = some (.cells #[.int .i64 S.g, .int .i64 S.c, .int .i64 S.mn, .int .i64 S.mx] 24 (0, 0))) := Lib.hid ((hb9.block _ l_s).trans B_s.out)
  replace l_s : N_s < U2.heap.size := by omega
  replace hlow : w.heap.size ≤ U2.heap.size := by omega
  clear hb9 hs9
  go_wp2_with fail
  refine (hFw.out U2 HBel.out).mono ?_
  rintro e U3 ⟨rfl, hb9⟩
  have hs9 := hb9.size
  replace HBel := Lib.hid (HBel.out.trans (hb9.mono hlow))
  replace B_s : Hid (U3.heap[N_s]? = some (.cells #[.int .i64 S.g, .int .i64 S.c, .int .i64 S.mn, .int .i64 S.mx] 24 (0, 0))) := Lib.hid ((hb9.block _ l_s).trans B_s.out)
  replace l_s : N_s < U3.heap.size := by omega
  replace hlow : w.heap.size ≤ U3.heap.size := by omega
  clear hb9 hs9
  have s0 : U3.cell? ⟨N_s, 0, none⟩ = some (.int .i64 S.g) := cell_blk (i := 0) B_s.out rfl
  have s1 : U3.cell? ⟨N_s, 1, none⟩ = some (.int .i64 S.c) := cell_blk (i := 1) B_s.out rfl
  have s2 : U3.cell? ⟨N_s, 2, none⟩ = some (.int .i64 S.mn) := cell_blk (i := 2) B_s.out rfl
  have s3 : U3.cell? ⟨N_s, 3, none⟩ = some (.int .i64 S.mx) := cell_blk (i := 3) B_s.out rfl
  go_wp2_with fail
  refine (cR.out U3 HBel.out).mono ?_
  rintro e U4 ⟨rfl, hb9⟩
  clear s0 s1 s2 s3
  have hs9 := hb9.size
  replace HBel := Lib.hid (HBel.out.trans (hb9.mono hlow))
  replace B_s : Hid (U4.heap[N_s]? = some (.cells #[.int .i64 S.g, .int .i64 S.c, .int .i64 S.mn, .int .i64 S.mx] 24 (0, 0))) := Lib.hid ((hb9.block _ l_s).trans B_s.out)
  replace l_s : N_s < U4.heap.size := by omega
  replace hlow : w.heap.size ≤ U4.heap.size := by omega
  clear hb9 hs9
  have s0 : U4.cell? ⟨N_s, 0, none⟩ = some (.int .i64 S.g) := cell_blk (i := 0) B_s.out rfl
  have s1 : U4.cell? ⟨N_s, 1, none⟩ = some (.int .i64 S.c) := cell_blk (i := 1) B_s.out rfl
  have s2 : U4.cell? ⟨N_s, 2, none⟩ = some (.int .i64 S.mn) := cell_blk (i := 2) B_s.out rfl
  have s3 : U4.cell? ⟨N_s, 3, none⟩ = some (.int .i64 S.mx) := cell_blk (i := 3) B_s.out rfl
  go_wp2_with fail
  refine (hP.out U4 HBel.out).mono ?_
  rintro e U5 ⟨x1, o1, k1, rfl, hk1, hb9, hz1⟩
  clear s0 s1 s2 s3
  have hs9 := hb9.size
  replace HBel := Lib.hid (HBel.out.trans (hb9.mono hlow))
  replace B_s : Hid (U5.heap[N_s]? = some (.cells #[.int .i64 S.g, .int .i64 S.c, .int .i64 S.mn, .int .i64 S.mx] 24 (0, 0))) := Lib.hid ((hb9.block _ l_s).trans B_s.out)
  replace l_s : N_s < U5.heap.size := by omega
  replace hlow : w.heap.size ≤ U5.heap.size := by omega
  clear hb9 hs9
  go_wp2_with fail
  refine (hLs.out x1 o1 k1 U5 hz1.out HBel.out).mono ?_
  rintro e U6 ⟨g2, k2, rfl, hb9, hz2⟩
  have hs9 := hb9.size
  replace HBel := Lib.hid (HBel.out.trans (hb9.mono hlow))
  replace B_s : Hid (U6.heap[N_s]? = some (.cells #[.int .i64 S.g, .int .i64 S.c, .int .i64 S.mn, .int .i64 S.mx] 24 (0, 0))) := Lib.hid ((hb9.block _ l_s).trans B_s.out)
  replace l_s : N_s < U6.heap.size := by omega
  replace hlow : w.heap.size ≤ U6.heap.size := by omega
  clear hb9 hs9
  have s0 : U6.cell? ⟨N_s, 0, none⟩ = some (.int .i64 S.g) := cell_blk (i := 0) B_s.out rfl
  have s1 : U6.cell? ⟨N_s, 1, none⟩ = some (.int .i64 S.c) := cell_blk (i := 1) B_s.out rfl
  have s2 : U6.cell? ⟨N_s, 2, none⟩ = some (.int .i64 S.mn) := cell_blk (i := 2) B_s.out rfl
  have s3 : U6.cell? ⟨N_s, 3, none⟩ = some (.int .i64 S.mx) := cell_blk (i := 3) B_s.out rfl
  go_wp2_with fail
  refine (cR1.out g2 k2 U6 hz2.out.1 hz2.out.2 HBel.out).mono ?_
  rintro e U7 ⟨rfl, hb9⟩
  clear s0 s1 s2 s3
  have hs9 := hb9.size
  replace HBel := Lib.hid (HBel.out.trans (hb9.mono hlow))
  replace B_s : Hid (U7.heap[N_s]? = some (.cells #[.int .i64 S.g, .int .i64 S.c, .int .i64 S.mn, .int .i64 S.mx] 24 (0, 0))) := Lib.hid ((hb9.block _ l_s).trans B_s.out)
  replace l_s : N_s < U7.heap.size := by omega
  replace hlow : w.heap.size ≤ U7.heap.size := by omega
  clear hb9 hs9
  go_wp2
  go_ret
  exact ⟨rfl, HBel.out⟩

set_option maxRecDepth 100000 in
set_option maxHeartbeats 1000000 in
theorem lifted (os : Os) (started : os.Started) (H : Type) (enc : TypeId × Value → H) :
    ReturnsInHanded {} Tryd.checked os 9 .any (fun w args => (Rows.packLeftSpec.pre enc Tryd.prog Tryd.f9 [] false w args ∧ laidMetH Tryd.prog laid1 w) ∧ sizedMet enc Tryd.prog Tryd.f9 (OpenSpec.ofChange Rows.packLeftSpec) false w args)
      (Rows.packLeftSpec.post enc Tryd.prog Tryd.f9 false true false false) := by
  refine returnsInHanded_of_change_and (C := Tryd.checked) (X := fun w _ => laidMetH Tryd.prog laid1 w) (fun _ _ _ hh h => h.of_heap hh) own started (by kernel_rfl) Tryd.func9
    (ChangeSpec.witness_shaped (enc := enc) (C := Tryd.checked) (os := os) (X := fun w _ => laidMetH Tryd.prog laid1 w) false (World.doorLaid Tryd.prog 400 os) #[.slice none 0 0, .agg #[.int .i64 0, .int .i64 0, .int .i64 0, .int .i64 0], .int .i64 0] 8 rfl (World.shaped_of_RefB (by kernel_rfl) (by kernel_rfl)) (by kernel_rfl) (by kernel_rfl) (by kernel_rfl) (door_met os _)) ?_
  intro W base args ds gs before hval0 hW _ _ hL _
  have hval : ∀ (j : Nat) t v, Tryd.f9.params[j]? = some t → args[j]? = some v → Value.okWide Tryd.prog W .any base t v := hval0
  have hW' := hW
  obtain ⟨p, q, hA0, hV, rfl, hfz, hnd⟩ := hW
  have hA : DataW.TrodAll enc Tryd.prog W 0 (fun _ => true) true Tryd.f9.params.toList args.toList ds p := hA0
  rw [Tryd.params9] at hA hval
  obtain ⟨v0, vs0, d0, ds0, p0, q0, hargs, rfl, rfl, h0, r0⟩ := trodAll_cons hA
  obtain ⟨v1, vs1, d1, ds1, p1, q1, rfl, rfl, rfl, h1, r1⟩ := trodAll_cons r0
  obtain ⟨v2, vs2, d2, ds2, p2, q2, rfl, rfl, rfl, h2, r2⟩ := trodAll_cons r1
  obtain ⟨rfl, rfl, rfl⟩ := trodAll_nil r2
  obtain rfl : args = #[v0, v1, v2] := by cases args; simp_all
  obtain ⟨rfl, rfl⟩ := trodVars_none hV
  have k0 := h0
  have lt0 : ∀ x ∈ p0, x.block < W.heap.size := by obtain ⟨m, hm⟩ := k0; exact DataW.trod_lt m _ _ _ hm
  obtain ⟨a0, c0, l0, rfl, lc0, mc0, v0, q0⟩ := view_of (hval 0 22 v0 rfl rfl) h0
  have k1 := h1
  have lt1 : ∀ x ∈ p1, x.block < W.heap.size := by obtain ⟨m, hm⟩ := k1; exact DataW.trod_lt m _ _ _ hm
  obtain ⟨g1, c1, mn1, mx1, rfl, w1⟩ := shape_of (hval 1 24 v1 rfl rfl) h1
  have k2 := h2
  have lt2 : ∀ x ∈ p2, x.block < W.heap.size := by obtain ⟨m, hm⟩ := k2; exact DataW.trod_lt m _ _ _ hm
  obtain ⟨a2, rfl, _, _, w2⟩ := open_int Tryd.underlying3 (hval 2 3 v2 rfl rfl) h2
  have hT := of_laid hL
  clear hL
  clear hA0 hval0
  refine (walk a0 c0 l0 g1 c1 mn1 mx1 a2 W v0 q0 lc0 mc0 w1 w2 hT).mono fun e W' ⟨he, bel⟩ => ?_
  subst he
  exact ⟨_, rfl, _, _, _, [], _, [], hW', trodAll_mk1 (shut_bool Tryd.underlying4 _), (trodAll_cons_mk (Below.trod laidOut (by kernel_rfl) (of_decide_eq_true (by kernel_rfl)) k0 bel lt0) (trodAll_cons_mk (Below.trod laidOut (by kernel_rfl) (of_decide_eq_true (by kernel_rfl)) k1 bel lt1) (trodAll_cons_mk (Below.trod laidOut (by kernel_rfl) (of_decide_eq_true (by kernel_rfl)) k2 bel lt2) trodAll_mk0))), rfl, bel.frame _, fun h => by cases h⟩

/-- THE ROW. -/
theorem row_holds : Rows.PackLeftSaid :=
  OpenClaim.holds_of_wide 9 Tryd.f9 rfl rfl rfl rfl rfl rfl rfl ⟨rfl, rfl, rfl, rfl, rfl⟩ rfl rfl rfl rfl rfl (by kernel_rfl) Tryd.func9 (by kernel_rfl)
    (of_decide_eq_true (by kernel_rfl)) (by unfold Func.isWrapper; first | (rw [if_pos (by decide +kernel)]; kernel_rfl) | (rw [if_neg (by decide +kernel)]; exact ⟨rfl, rfl⟩))
    (fun os started H enc _ => lifted os started H enc)

/-- THE STATEMENT. -/
theorem card_holds : Rows.PackLeftCardSaid :=
  Claim7.holds_tied_plain_at .later [] [.data] true (true, Rows.packLeftCard.stood.harness.2) false
    row_holds (fun _ h => by cases h) (by kernel_rfl) (fun _ h => by cases h) packLeft_row_tie rfl ⟨rfl, rfl⟩ (by kernel_rfl) rfl
    (fun f fn hf hfn => by
      obtain rfl : f = 9 := Option.some.inj ((show Tryd.prog.funcNamed Rows.packLeftRow.func = some 9 by kernel_rfl).symm.trans hf) |>.symm
      obtain rfl : fn = Tryd.f9 := (Option.some.inj (Tryd.func9.symm.trans hfn)).symm
      exact ⟨by kernel_rfl, fun j t ht => by
        rw [Tryd.params9] at ht
        have hm : t ∈ [22, 24, 3] := by simpa using Array.mem_of_getElem? ht
        have hall : ([22, 24, 3].all fun u => !Tryd.prog.wantsStandIn u) = true := by kernel_rfl
        exact (show Tryd.prog.wantsStandIn t = false by simpa using List.all_eq_true.1 hall t hm)⟩)
    (by kernel_rfl)
end Go.Proofs.YtjbjjdcmkbigdaaDoor.packLeft
