/- When any want can start, of any view, units left and holds, is just as the document says, or refused; so is whether it fits: the law PromiseTells answers true, at every input. The library's table of lowest units is as the program's text lays it (tied). -/
import Derived.Test.YtenldgnfjjchiaaDoorProT
import Derived.Test.YtenldgnfjjchiaaDoorProRefC
import Derived.SevenTiedAt
import Derived.Test.YtenldgnfjjchiaaDoorTie
import Derived.Test.YtenldgnfjjchiaaDoorCards
set_option linter.unusedVariables false
namespace Go.Proofs.YtenldgnfjjchiaaDoor.promiseTells
open Go Go.ChangeShapes Go.WideShapes Go.ChangeAt Go.RowKit
open PR
set_option maxRecDepth 100000 in
set_option maxHeartbeats 16000000 in
theorem walk (now : Int) (a1 : Option Addr) (c1 : Nat) (l1 : List Fe) (g c : Int) (a3 : Option Addr) (c3 : Nat) (l3 : List Ho) (X : Wa) (w : World) (w0 : (Lit.int .i64 now).wf = true) (v1 : Fes w w.heap.size a1 l1) (q1 : ∀ s ∈ l1, FeOk s) (lc1 : l1.length ≤ c1) (mc1 : c1 ≤ maxLen) (wg : (Lit.int .i64 g).wf = true) (wc : (Lit.int .i64 c).wf = true) (v3 : HosIn w w.heap.size a3 l3) (q3 : ∀ x ∈ l3, HoOk x) (lc3 : l3.length ≤ c3) (mc3 : c3 ≤ maxLen) (w4 : WaOk X) (hT : Tab w) :
    Calls Tryd.prog 3 #[.int .i64 now, .slice a1 l1.length c1, .agg #[.int .i64 g, .int .i64 c], .slice a3 l3.length c3, waV X] w fun e w' => e = .returned (.bool true) ∧ Below w.heap.size w w' := by
  have HT := Lib.hid hT
  have hAw := Lib.hid (fun W (hT : Tab W) => awake12 W hT)
  obtain ⟨n, hn⟩ : ∃ n, n = l1.length := ⟨_, rfl⟩
  obtain ⟨m, hm⟩ : ∃ m, m = l3.length := ⟨_, rfl⟩
  unfold waV waA
  have hFw := Lib.hid (fun W (hW : Below w.heap.size w W) => show Calls Tryd.prog 9 #[.slice a1 n c1, .agg #[.int .i64 g, .int .i64 c], .slice a3 m c3] W (fun e w' => e = .returned (.bool (fewH l1 g c l3)) ∧ Below W.heap.size W w') from by
    rw [hn, hm]
    exact few12_any a1 c1 l1 g c a3 c3 l3 W (v1.keep hW hW.size) lc1 (v3.keep hW hW.size).at_ (fun x hx => Nat.le_trans (q3 x hx).l (q3 x hx).m))
  rw [← hn, ← hm]
  cases hfew : fewH l1 g c l3
  · rw [hfew] at hFw
    clear hfew hn hm w0 v1 q1 lc1 mc1 wg wc v3 q3 lc3 mc3 w4 hT 
    obtain ⟨B0, hB0⟩ : ∃ B, B = w.heap.size := ⟨_, rfl⟩
    rw [← hB0]
    have HB0 := Lib.hid hB0
    clear hB0
    have HBel := Lib.hid (Below.refl w.heap.size w)
    have hlow : w.heap.size ≤ w.heap.size := Nat.le_refl _
    go_enter Tryd.func3, Tryd.ntmps3
    go_wp2_with fail
    obtain ⟨V1, hV1⟩ : ∃ W, W = (w.alloc (.cells #[.int .i64 g, .int .i64 c] 24)).alloc (.cells #[.int .i64 X.q, .int .i64 X.n, .int .i64 X.S.g, .int .i64 X.S.c, .int .i64 X.S.mn, .int .i64 X.S.mx] 29) := ⟨_, rfl⟩
    rw [← hV1]
    have hzV1 : V1.heap.size = w.heap.size + 1 + 1 := by rw [hV1]; simp
    replace HBel : Hid (Below w.heap.size w V1) := Lib.hid (by rw [hV1]; exact ((HBel.out.alloc (hlow) _).alloc (by simp <;> omega) _))
    have B_f : Hid (V1.heap[w.heap.size]? = some (.cells #[.int .i64 g, .int .i64 c] 24 (0, 0))) := Lib.hid (by
      have h9 := heap_alloc_new (w) (.cells #[.int .i64 g, .int .i64 c] 24)
      rw [hV1]; exact ((Below.heap_alloc _ _ _ (by simp <;> omega)).trans h9))
    have B_b : Hid (V1.heap[w.heap.size + 1]? = some (.cells #[.int .i64 X.q, .int .i64 X.n, .int .i64 X.S.g, .int .i64 X.S.c, .int .i64 X.S.mn, .int .i64 X.S.mx] 29 (0, 0))) := Lib.hid (by
      have h9 := heap_alloc_new (w.alloc (.cells #[.int .i64 g, .int .i64 c] 24)) (.cells #[.int .i64 X.q, .int .i64 X.n, .int .i64 X.S.g, .int .i64 X.S.c, .int .i64 X.S.mn, .int .i64 X.S.mx] 29)
      rw [World.size_alloc] at h9
      rw [hV1]; exact h9)
    obtain ⟨N_f, hN_f⟩ : ∃ N, N = w.heap.size := ⟨_, rfl⟩
    obtain ⟨N_b, hN_b⟩ : ∃ N, N = w.heap.size + 1 := ⟨_, rfl⟩
    (try rw [← hN_b])
    rw [← hN_b] at B_b
    (try rw [← hN_f])
    rw [← hN_f] at B_f
    have l_f : N_f < V1.heap.size := by omega
    have l_b : N_b < V1.heap.size := by omega
    have g_f : w.heap.size ≤ N_f := by omega
    have g_b : w.heap.size ≤ N_b := by omega
    have d_f_b : N_f < N_b := by omega
    replace hlow : w.heap.size ≤ V1.heap.size := by omega
    clear hV1 hzV1 hN_f hN_b
    refine (hAw.out V1 (HT.out.below HBel.out HT.out.size)).mono ?_
    rintro e U2 ⟨rfl, hb9⟩
    have hs9 := hb9.size
    replace HBel := Lib.hid (HBel.out.trans (hb9.mono hlow))
    replace B_f : Hid (U2.heap[N_f]? = some (.cells #[.int .i64 g, .int .i64 c] 24 (0, 0))) := Lib.hid ((hb9.block _ l_f).trans B_f.out)
    replace B_b : Hid (U2.heap[N_b]? = some (.cells #[.int .i64 X.q, .int .i64 X.n, .int .i64 X.S.g, .int .i64 X.S.c, .int .i64 X.S.mn, .int .i64 X.S.mx] 29 (0, 0))) := Lib.hid ((hb9.block _ l_b).trans B_b.out)
    replace l_f : N_f < U2.heap.size := by omega
    replace l_b : N_b < U2.heap.size := by omega
    replace hlow : w.heap.size ≤ U2.heap.size := by omega
    clear hb9 hs9
    have f0 : U2.cell? ⟨N_f, 0, none⟩ = some (.int .i64 g) := cell_blk (i := 0) B_f.out rfl
    have f1 : U2.cell? ⟨N_f, 1, none⟩ = some (.int .i64 c) := cell_blk (i := 1) B_f.out rfl
    go_wp2_with fail
    refine (hFw.out U2 HBel.out).mono ?_
    rintro e U3 ⟨rfl, hb9⟩
    clear f0 f1
    have hs9 := hb9.size
    replace HBel := Lib.hid (HBel.out.trans (hb9.mono hlow))
    replace B_f : Hid (U3.heap[N_f]? = some (.cells #[.int .i64 g, .int .i64 c] 24 (0, 0))) := Lib.hid ((hb9.block _ l_f).trans B_f.out)
    replace B_b : Hid (U3.heap[N_b]? = some (.cells #[.int .i64 X.q, .int .i64 X.n, .int .i64 X.S.g, .int .i64 X.S.c, .int .i64 X.S.mn, .int .i64 X.S.mx] 29 (0, 0))) := Lib.hid ((hb9.block _ l_b).trans B_b.out)
    replace l_f : N_f < U3.heap.size := by omega
    replace l_b : N_b < U3.heap.size := by omega
    replace hlow : w.heap.size ≤ U3.heap.size := by omega
    clear hb9 hs9
    go_wp2
    go_ret
    exact ⟨rfl, by rw [HB0.out]; exact HBel.out⟩
  rw [hfew] at hFw
  obtain ⟨hview, hn70, hgc, hmany, hsl, hm20, hs20⟩ := few_true hfew q1
  have hE := Lib.hid (fun W (hW : Below w.heap.size w W) => show Calls Tryd.prog 10 #[.int .i64 now, .slice a1 n c1, .agg #[.int .i64 g, .int .i64 c], .slice a3 m c3, .agg #[.int .i64 X.q, .int .i64 X.n, .int .i64 X.S.g, .int .i64 X.S.c, .int .i64 X.S.mn, .int .i64 X.S.mx]] W (fun e w' => ∃ T E, e = .returned (.tuple #[.int .i64 T, .int .i64 E]) ∧ Earl now l1 g c l3 X T E ∧ Below W.heap.size W w') from by
    have h9 := pearliest_any now a1 c1 l1 g c a3 c3 l3 X W (v1.keep hW hW.size) hview (by omega) (v3.keep hW hW.size) q3 hmany (by omega) w4 (by omega) (by omega) (hT.below hW hT.size)
    rw [← hn, ← hm] at h9
    exact h9)
  have hFi := Lib.hid (fun W (hW : Below w.heap.size w W) => show Calls Tryd.prog 12 #[.slice a1 n c1, .agg #[.int .i64 g, .int .i64 c], .agg #[.int .i64 X.q, .int .i64 X.n, .int .i64 X.S.g, .int .i64 X.S.c, .int .i64 X.S.mn, .int .i64 X.S.mx]] W (fun e w' => e = .returned (.bool (PR.fits l1 g c X)) ∧ Below W.heap.size W w') from by
    have h9 := pfits_any a1 c1 W.heap.size l1 g c X W (v1.keep hW hW.size) (Nat.le_refl _) (by omega) q1 w4 (hT.below hW hT.size)
    rw [← hn] at h9
    exact h9)
  have hE2 := Lib.hid (fun W (hW : Below w.heap.size w W) => show Calls Tryd.prog 11 #[.int .i64 now, .slice a1 n c1, .agg #[.int .i64 g, .int .i64 c], .slice a3 m c3, .agg #[.int .i64 X.q, .int .i64 X.n, .int .i64 X.S.g, .int .i64 X.S.c, .int .i64 X.S.mn, .int .i64 X.S.mx]] W (fun e w' => ∃ T E, e = .returned (.tuple #[.int .i64 T, .int .i64 E]) ∧ Earl now l1 g c l3 X T E ∧ Below W.heap.size W w') from by
    have h9 := refearliest12_any now a1 c1 l1 g c a3 c3 l3 X W (v1.keep hW hW.size) hview (by omega) (v3.keep hW hW.size) q3 hmany (by omega) w4 (by omega) (by omega) (hT.below hW hT.size)
    rw [← hn, ← hm] at h9
    exact h9)
  have hF2 := Lib.hid (fun W (hW : Below w.heap.size w W) => show Calls Tryd.prog 13 #[.slice a1 n c1, .agg #[.int .i64 g, .int .i64 c], .agg #[.int .i64 X.q, .int .i64 X.n, .int .i64 X.S.g, .int .i64 X.S.c, .int .i64 X.S.mn, .int .i64 X.S.mx]] W (fun e w' => e = .returned (.bool (PR.fits l1 g c X)) ∧ Below W.heap.size W w') from by
    have h9 := reffits12_any a1 c1 W.heap.size l1 g c X W (v1.keep hW hW.size) (Nat.le_refl _) (by omega) hview w4 (hT.below hW hT.size)
    rw [← hn] at h9
    exact h9)
  obtain ⟨ft, hft⟩ : ∃ ft, ft = PR.fits l1 g c X := ⟨_, rfl⟩
  rw [← hft] at hFi hF2
  clear hfew hview hn70 hgc hmany hsl hs20 w0 v1 q1 lc1 mc1 wg wc q3 lc3 mc3 w4 hT v3 hn hm hm20 hft
  obtain ⟨B0, hB0⟩ : ∃ B, B = w.heap.size := ⟨_, rfl⟩
  rw [← hB0]
  have HB0 := Lib.hid hB0
  clear hB0
  have HBel := Lib.hid (Below.refl w.heap.size w)
  have hlow : w.heap.size ≤ w.heap.size := Nat.le_refl _
  go_enter Tryd.func3, Tryd.ntmps3
  go_wp2_with fail
  obtain ⟨V1, hV1⟩ : ∃ W, W = (w.alloc (.cells #[.int .i64 g, .int .i64 c] 24)).alloc (.cells #[.int .i64 X.q, .int .i64 X.n, .int .i64 X.S.g, .int .i64 X.S.c, .int .i64 X.S.mn, .int .i64 X.S.mx] 29) := ⟨_, rfl⟩
  rw [← hV1]
  have hzV1 : V1.heap.size = w.heap.size + 1 + 1 := by rw [hV1]; simp
  replace HBel : Hid (Below w.heap.size w V1) := Lib.hid (by rw [hV1]; exact ((HBel.out.alloc (hlow) _).alloc (by simp <;> omega) _))
  have B_f : Hid (V1.heap[w.heap.size]? = some (.cells #[.int .i64 g, .int .i64 c] 24 (0, 0))) := Lib.hid (by
    have h9 := heap_alloc_new (w) (.cells #[.int .i64 g, .int .i64 c] 24)
    rw [hV1]; exact ((Below.heap_alloc _ _ _ (by simp <;> omega)).trans h9))
  have B_b : Hid (V1.heap[w.heap.size + 1]? = some (.cells #[.int .i64 X.q, .int .i64 X.n, .int .i64 X.S.g, .int .i64 X.S.c, .int .i64 X.S.mn, .int .i64 X.S.mx] 29 (0, 0))) := Lib.hid (by
    have h9 := heap_alloc_new (w.alloc (.cells #[.int .i64 g, .int .i64 c] 24)) (.cells #[.int .i64 X.q, .int .i64 X.n, .int .i64 X.S.g, .int .i64 X.S.c, .int .i64 X.S.mn, .int .i64 X.S.mx] 29)
    rw [World.size_alloc] at h9
    rw [hV1]; exact h9)
  obtain ⟨N_f, hN_f⟩ : ∃ N, N = w.heap.size := ⟨_, rfl⟩
  obtain ⟨N_b, hN_b⟩ : ∃ N, N = w.heap.size + 1 := ⟨_, rfl⟩
  (try rw [← hN_b])
  rw [← hN_b] at B_b
  (try rw [← hN_f])
  rw [← hN_f] at B_f
  have l_f : N_f < V1.heap.size := by omega
  have l_b : N_b < V1.heap.size := by omega
  have g_f : w.heap.size ≤ N_f := by omega
  have g_b : w.heap.size ≤ N_b := by omega
  have d_f_b : N_f < N_b := by omega
  replace hlow : w.heap.size ≤ V1.heap.size := by omega
  clear hV1 hzV1 hN_f hN_b
  refine (hAw.out V1 (HT.out.below HBel.out HT.out.size)).mono ?_
  rintro e U2 ⟨rfl, hb9⟩
  have hs9 := hb9.size
  replace HBel := Lib.hid (HBel.out.trans (hb9.mono hlow))
  replace B_f : Hid (U2.heap[N_f]? = some (.cells #[.int .i64 g, .int .i64 c] 24 (0, 0))) := Lib.hid ((hb9.block _ l_f).trans B_f.out)
  replace B_b : Hid (U2.heap[N_b]? = some (.cells #[.int .i64 X.q, .int .i64 X.n, .int .i64 X.S.g, .int .i64 X.S.c, .int .i64 X.S.mn, .int .i64 X.S.mx] 29 (0, 0))) := Lib.hid ((hb9.block _ l_b).trans B_b.out)
  replace l_f : N_f < U2.heap.size := by omega
  replace l_b : N_b < U2.heap.size := by omega
  replace hlow : w.heap.size ≤ U2.heap.size := by omega
  clear hb9 hs9
  have f0 : U2.cell? ⟨N_f, 0, none⟩ = some (.int .i64 g) := cell_blk (i := 0) B_f.out rfl
  have f1 : U2.cell? ⟨N_f, 1, none⟩ = some (.int .i64 c) := cell_blk (i := 1) B_f.out rfl
  go_wp2_with fail
  refine (hFw.out U2 HBel.out).mono ?_
  rintro e U3 ⟨rfl, hb9⟩
  clear f0 f1
  have hs9 := hb9.size
  replace HBel := Lib.hid (HBel.out.trans (hb9.mono hlow))
  replace B_f : Hid (U3.heap[N_f]? = some (.cells #[.int .i64 g, .int .i64 c] 24 (0, 0))) := Lib.hid ((hb9.block _ l_f).trans B_f.out)
  replace B_b : Hid (U3.heap[N_b]? = some (.cells #[.int .i64 X.q, .int .i64 X.n, .int .i64 X.S.g, .int .i64 X.S.c, .int .i64 X.S.mn, .int .i64 X.S.mx] 29 (0, 0))) := Lib.hid ((hb9.block _ l_b).trans B_b.out)
  replace l_f : N_f < U3.heap.size := by omega
  replace l_b : N_b < U3.heap.size := by omega
  replace hlow : w.heap.size ≤ U3.heap.size := by omega
  clear hb9 hs9
  have f0 : U3.cell? ⟨N_f, 0, none⟩ = some (.int .i64 g) := cell_blk (i := 0) B_f.out rfl
  have f1 : U3.cell? ⟨N_f, 1, none⟩ = some (.int .i64 c) := cell_blk (i := 1) B_f.out rfl
  have b0 : U3.cell? ⟨N_b, 0, none⟩ = some (.int .i64 X.q) := cell_blk (i := 0) B_b.out rfl
  have b1 : U3.cell? ⟨N_b, 1, none⟩ = some (.int .i64 X.n) := cell_blk (i := 1) B_b.out rfl
  have b2 : U3.cell? ⟨N_b, 2, none⟩ = some (.int .i64 X.S.g) := cell_blk (i := 2) B_b.out rfl
  have b3 : U3.cell? ⟨N_b, 3, none⟩ = some (.int .i64 X.S.c) := cell_blk (i := 3) B_b.out rfl
  have b4 : U3.cell? ⟨N_b, 4, none⟩ = some (.int .i64 X.S.mn) := cell_blk (i := 4) B_b.out rfl
  have b5 : U3.cell? ⟨N_b, 5, none⟩ = some (.int .i64 X.S.mx) := cell_blk (i := 5) B_b.out rfl
  go_wp2_with fail
  refine (hE.out U3 HBel.out).mono ?_
  rintro e U4 ⟨T, E, rfl, hEr, hb9⟩
  clear f0 f1 b0 b1 b2 b3 b4 b5
  have hs9 := hb9.size
  have HEr := Lib.hid hEr
  clear hEr
  replace HBel := Lib.hid (HBel.out.trans (hb9.mono hlow))
  replace B_f : Hid (U4.heap[N_f]? = some (.cells #[.int .i64 g, .int .i64 c] 24 (0, 0))) := Lib.hid ((hb9.block _ l_f).trans B_f.out)
  replace B_b : Hid (U4.heap[N_b]? = some (.cells #[.int .i64 X.q, .int .i64 X.n, .int .i64 X.S.g, .int .i64 X.S.c, .int .i64 X.S.mn, .int .i64 X.S.mx] 29 (0, 0))) := Lib.hid ((hb9.block _ l_b).trans B_b.out)
  replace l_f : N_f < U4.heap.size := by omega
  replace l_b : N_b < U4.heap.size := by omega
  replace hlow : w.heap.size ≤ U4.heap.size := by omega
  clear hb9 hs9
  have f0 : U4.cell? ⟨N_f, 0, none⟩ = some (.int .i64 g) := cell_blk (i := 0) B_f.out rfl
  have f1 : U4.cell? ⟨N_f, 1, none⟩ = some (.int .i64 c) := cell_blk (i := 1) B_f.out rfl
  have b0 : U4.cell? ⟨N_b, 0, none⟩ = some (.int .i64 X.q) := cell_blk (i := 0) B_b.out rfl
  have b1 : U4.cell? ⟨N_b, 1, none⟩ = some (.int .i64 X.n) := cell_blk (i := 1) B_b.out rfl
  have b2 : U4.cell? ⟨N_b, 2, none⟩ = some (.int .i64 X.S.g) := cell_blk (i := 2) B_b.out rfl
  have b3 : U4.cell? ⟨N_b, 3, none⟩ = some (.int .i64 X.S.c) := cell_blk (i := 3) B_b.out rfl
  have b4 : U4.cell? ⟨N_b, 4, none⟩ = some (.int .i64 X.S.mn) := cell_blk (i := 4) B_b.out rfl
  have b5 : U4.cell? ⟨N_b, 5, none⟩ = some (.int .i64 X.S.mx) := cell_blk (i := 5) B_b.out rfl
  go_wp2_with fail
  refine (hE2.out U4 HBel.out).mono ?_
  rintro e U5 ⟨T2, E2, rfl, hEr2, hb9⟩
  clear f0 f1 b0 b1 b2 b3 b4 b5
  have hs9 := hb9.size
  obtain ⟨rfl, rfl⟩ := hEr2.same HEr.out
  clear hEr2
  replace HBel := Lib.hid (HBel.out.trans (hb9.mono hlow))
  replace B_f : Hid (U5.heap[N_f]? = some (.cells #[.int .i64 g, .int .i64 c] 24 (0, 0))) := Lib.hid ((hb9.block _ l_f).trans B_f.out)
  replace B_b : Hid (U5.heap[N_b]? = some (.cells #[.int .i64 X.q, .int .i64 X.n, .int .i64 X.S.g, .int .i64 X.S.c, .int .i64 X.S.mn, .int .i64 X.S.mx] 29 (0, 0))) := Lib.hid ((hb9.block _ l_b).trans B_b.out)
  replace l_f : N_f < U5.heap.size := by omega
  replace l_b : N_b < U5.heap.size := by omega
  replace hlow : w.heap.size ≤ U5.heap.size := by omega
  clear hb9 hs9
  have v1 : (T2 == T2) = true := by simp
  have v2 : (E2 == E2) = true := by simp
  have v3 : (ft == ft) = true := by simp
  have f0 : U5.cell? ⟨N_f, 0, none⟩ = some (.int .i64 g) := cell_blk (i := 0) B_f.out rfl
  have f1 : U5.cell? ⟨N_f, 1, none⟩ = some (.int .i64 c) := cell_blk (i := 1) B_f.out rfl
  have b0 : U5.cell? ⟨N_b, 0, none⟩ = some (.int .i64 X.q) := cell_blk (i := 0) B_b.out rfl
  have b1 : U5.cell? ⟨N_b, 1, none⟩ = some (.int .i64 X.n) := cell_blk (i := 1) B_b.out rfl
  have b2 : U5.cell? ⟨N_b, 2, none⟩ = some (.int .i64 X.S.g) := cell_blk (i := 2) B_b.out rfl
  have b3 : U5.cell? ⟨N_b, 3, none⟩ = some (.int .i64 X.S.c) := cell_blk (i := 3) B_b.out rfl
  have b4 : U5.cell? ⟨N_b, 4, none⟩ = some (.int .i64 X.S.mn) := cell_blk (i := 4) B_b.out rfl
  have b5 : U5.cell? ⟨N_b, 5, none⟩ = some (.int .i64 X.S.mx) := cell_blk (i := 5) B_b.out rfl
  go_wp2_with fail
  clear f0 f1 b0 b1 b2 b3 b4 b5
  have f0 : U5.cell? ⟨N_f, 0, none⟩ = some (.int .i64 g) := cell_blk (i := 0) B_f.out rfl
  have f1 : U5.cell? ⟨N_f, 1, none⟩ = some (.int .i64 c) := cell_blk (i := 1) B_f.out rfl
  have b0 : U5.cell? ⟨N_b, 0, none⟩ = some (.int .i64 X.q) := cell_blk (i := 0) B_b.out rfl
  have b1 : U5.cell? ⟨N_b, 1, none⟩ = some (.int .i64 X.n) := cell_blk (i := 1) B_b.out rfl
  have b2 : U5.cell? ⟨N_b, 2, none⟩ = some (.int .i64 X.S.g) := cell_blk (i := 2) B_b.out rfl
  have b3 : U5.cell? ⟨N_b, 3, none⟩ = some (.int .i64 X.S.c) := cell_blk (i := 3) B_b.out rfl
  have b4 : U5.cell? ⟨N_b, 4, none⟩ = some (.int .i64 X.S.mn) := cell_blk (i := 4) B_b.out rfl
  have b5 : U5.cell? ⟨N_b, 5, none⟩ = some (.int .i64 X.S.mx) := cell_blk (i := 5) B_b.out rfl
  refine held_begin (fun w' : World => w'.cell? ⟨N_f, 0, none⟩ = some (.int .i64 g) ∧ w'.cell? ⟨N_f, 1, none⟩ = some (.int .i64 c) ∧ w'.cell? ⟨N_b, 0, none⟩ = some (.int .i64 X.q) ∧ w'.cell? ⟨N_b, 1, none⟩ = some (.int .i64 X.n) ∧ w'.cell? ⟨N_b, 2, none⟩ = some (.int .i64 X.S.g) ∧ w'.cell? ⟨N_b, 3, none⟩ = some (.int .i64 X.S.c) ∧ w'.cell? ⟨N_b, 4, none⟩ = some (.int .i64 X.S.mn) ∧ w'.cell? ⟨N_b, 5, none⟩ = some (.int .i64 X.S.mx)) (by kernel_rfl) ?_
  have hBh0 : Below U5.heap.size U5 U5.drew := (Below.refl _ _).drew
  have hSh0 : (fun w' : World => w'.cell? ⟨N_f, 0, none⟩ = some (.int .i64 g) ∧ w'.cell? ⟨N_f, 1, none⟩ = some (.int .i64 c) ∧ w'.cell? ⟨N_b, 0, none⟩ = some (.int .i64 X.q) ∧ w'.cell? ⟨N_b, 1, none⟩ = some (.int .i64 X.n) ∧ w'.cell? ⟨N_b, 2, none⟩ = some (.int .i64 X.S.g) ∧ w'.cell? ⟨N_b, 3, none⟩ = some (.int .i64 X.S.c) ∧ w'.cell? ⟨N_b, 4, none⟩ = some (.int .i64 X.S.mn) ∧ w'.cell? ⟨N_b, 5, none⟩ = some (.int .i64 X.S.mx)) U5.drew := ⟨f0, f1, b0, b1, b2, b3, b4, b5⟩
  refine held_take (v := ?_) 0 40 rfl rfl (by kernel_rfl) (by kernel_rfl) (by kernel_rfl) (fun _ _ _ h => h) ⟨by rfl, ?_⟩ hSh0 ?_
  rotate_left
  · intro w' hw'; obtain ⟨x0, x1, x2, x3, x4, x5, x6, x7⟩ := hw'; go_simp; (try with_reducible rfl)
  simp only [Act.put, List.setIfInBounds_toArray, List.set_cons_zero, List.set_cons_succ]
  refine held_take (v := ?_) 1 41 rfl rfl (by kernel_rfl) (by kernel_rfl) (by kernel_rfl) (fun _ _ _ h => h) ⟨by rfl, ?_⟩ hSh0 ?_
  rotate_left
  · intro w' hw'; obtain ⟨x0, x1, x2, x3, x4, x5, x6, x7⟩ := hw'; go_simp; (try with_reducible rfl)
  simp only [Act.put, List.setIfInBounds_toArray, List.set_cons_zero, List.set_cons_succ]
  refine held_take (v := ?_) 2 42 rfl rfl (by kernel_rfl) (by kernel_rfl) (by kernel_rfl) (fun _ _ _ h => h) ⟨by rfl, ?_⟩ hSh0 ?_
  rotate_left
  · intro w' hw'; obtain ⟨x0, x1, x2, x3, x4, x5, x6, x7⟩ := hw'; go_simp; (try with_reducible rfl)
  simp only [Act.put, List.setIfInBounds_toArray, List.set_cons_zero, List.set_cons_succ]
  refine held_take (v := ?_) 3 43 rfl rfl (by kernel_rfl) (by kernel_rfl) (by kernel_rfl) (fun _ _ _ h => h) ⟨by rfl, ?_⟩ hSh0 ?_
  rotate_left
  · intro w' hw'; obtain ⟨x0, x1, x2, x3, x4, x5, x6, x7⟩ := hw'; go_simp; (try with_reducible rfl)
  simp only [Act.put, List.setIfInBounds_toArray, List.set_cons_zero, List.set_cons_succ]
  refine held_take (v := ?_) 4 44 rfl rfl (by kernel_rfl) (by kernel_rfl) (by kernel_rfl) (fun _ _ _ h => h) ⟨by rfl, ?_⟩ hSh0 ?_
  rotate_left
  · intro w' hw'; obtain ⟨x0, x1, x2, x3, x4, x5, x6, x7⟩ := hw'; go_simp; (try with_reducible rfl)
  simp only [Act.put, List.setIfInBounds_toArray, List.set_cons_zero, List.set_cons_succ]
  refine held_take (v := ?_) 5 45 rfl rfl (by kernel_rfl) (by kernel_rfl) (by kernel_rfl) (fun _ _ _ h => h) ⟨by rfl, ?_⟩ hSh0 ?_
  rotate_left
  · intro w' hw'; obtain ⟨x0, x1, x2, x3, x4, x5, x6, x7⟩ := hw'; go_simp; (try with_reducible rfl)
  simp only [Act.put, List.setIfInBounds_toArray, List.set_cons_zero, List.set_cons_succ]
  refine held_take (v := ?_) 6 46 rfl rfl (by kernel_rfl) (by kernel_rfl) (by kernel_rfl) (fun _ _ _ h => h) ⟨by rfl, ?_⟩ hSh0 ?_
  rotate_left
  · intro w' hw'; obtain ⟨x0, x1, x2, x3, x4, x5, x6, x7⟩ := hw'; go_simp; (try with_reducible rfl)
  simp only [Act.put, List.setIfInBounds_toArray, List.set_cons_zero, List.set_cons_succ]
  refine held_take (v := ?_) 7 47 rfl rfl (by kernel_rfl) (by kernel_rfl) (by kernel_rfl) (fun _ _ _ h => h) ⟨by rfl, ?_⟩ hSh0 ?_
  rotate_left
  · intro w' hw'; obtain ⟨x0, x1, x2, x3, x4, x5, x6, x7⟩ := hw'; go_simp; (try with_reducible rfl)
  simp only [Act.put, List.setIfInBounds_toArray, List.set_cons_zero, List.set_cons_succ]
  refine held_take (v := ?_) 8 48 rfl rfl (by kernel_rfl) (by kernel_rfl) (by kernel_rfl) (fun _ _ _ h => h) ⟨by rfl, ?_⟩ hSh0 ?_
  rotate_left
  · intro w' hw'; obtain ⟨x0, x1, x2, x3, x4, x5, x6, x7⟩ := hw'; go_simp; (try with_reducible rfl)
  simp only [Act.put, List.setIfInBounds_toArray, List.set_cons_zero, List.set_cons_succ]
  refine held_take (v := ?_) 9 49 rfl rfl (by kernel_rfl) (by kernel_rfl) (by kernel_rfl) (fun _ _ _ h => h) ⟨by rfl, ?_⟩ hSh0 ?_
  rotate_left
  · intro w' hw'; obtain ⟨x0, x1, x2, x3, x4, x5, x6, x7⟩ := hw'; go_simp; (try with_reducible rfl)
  simp only [Act.put, List.setIfInBounds_toArray, List.set_cons_zero, List.set_cons_succ]
  refine held_take (v := ?_) 10 50 rfl rfl (by kernel_rfl) (by kernel_rfl) (by kernel_rfl) (fun _ _ _ h => h) ⟨by rfl, ?_⟩ hSh0 ?_
  rotate_left
  · intro w' hw'; obtain ⟨x0, x1, x2, x3, x4, x5, x6, x7⟩ := hw'; go_simp; (try with_reducible rfl)
  simp only [Act.put, List.setIfInBounds_toArray, List.set_cons_zero, List.set_cons_succ]
  refine held_take (v := ?_) 11 51 rfl rfl (by kernel_rfl) (by kernel_rfl) (by kernel_rfl) (fun _ _ _ h => h) ⟨by rfl, ?_⟩ hSh0 ?_
  rotate_left
  · intro w' hw'; obtain ⟨x0, x1, x2, x3, x4, x5, x6, x7⟩ := hw'; go_simp; (try with_reducible rfl)
  simp only [Act.put, List.setIfInBounds_toArray, List.set_cons_zero, List.set_cons_succ]
  refine held_take (v := ?_) 13 53 rfl rfl (by kernel_rfl) (by kernel_rfl) (by kernel_rfl) (fun _ _ _ h => h) ⟨by rfl, ?_⟩ hSh0 ?_
  rotate_left
  · intro w' hw'; obtain ⟨x0, x1, x2, x3, x4, x5, x6, x7⟩ := hw'; go_simp; (try with_reducible rfl)
  simp only [Act.put, List.setIfInBounds_toArray, List.set_cons_zero, List.set_cons_succ]
  refine held_take (v := ?_) 14 54 rfl rfl (by kernel_rfl) (by kernel_rfl) (by kernel_rfl) (fun _ _ _ h => h) ⟨by rfl, ?_⟩ hSh0 ?_
  rotate_left
  · intro w' hw'; obtain ⟨x0, x1, x2, x3, x4, x5, x6, x7⟩ := hw'; go_simp; (try with_reducible rfl)
  simp only [Act.put, List.setIfInBounds_toArray, List.set_cons_zero, List.set_cons_succ]
  refine held_take (v := ?_) 15 55 rfl rfl (by kernel_rfl) (by kernel_rfl) (by kernel_rfl) (fun _ _ _ h => h) ⟨by rfl, ?_⟩ hSh0 ?_
  rotate_left
  · intro w' hw'; obtain ⟨x0, x1, x2, x3, x4, x5, x6, x7⟩ := hw'; go_simp; (try with_reducible rfl)
  simp only [Act.put, List.setIfInBounds_toArray, List.set_cons_zero, List.set_cons_succ]
  refine held_one 12 rfl (by kernel_rfl) (by rfl) (fun K hK => ?_)
  go_simp
  go_at_call 12
  refine (hFi.out _ (HBel.out.trans (hBh0.mono hlow))).mono ?_
  rintro e wh1 ⟨rfl, hbh1⟩
  have hBh1 : Below U5.heap.size U5 wh1 := below_step hBh0 hbh1
  have hSh1 : (fun w' : World => w'.cell? ⟨N_f, 0, none⟩ = some (.int .i64 g) ∧ w'.cell? ⟨N_f, 1, none⟩ = some (.int .i64 c) ∧ w'.cell? ⟨N_b, 0, none⟩ = some (.int .i64 X.q) ∧ w'.cell? ⟨N_b, 1, none⟩ = some (.int .i64 X.n) ∧ w'.cell? ⟨N_b, 2, none⟩ = some (.int .i64 X.S.g) ∧ w'.cell? ⟨N_b, 3, none⟩ = some (.int .i64 X.S.c) ∧ w'.cell? ⟨N_b, 4, none⟩ = some (.int .i64 X.S.mn) ∧ w'.cell? ⟨N_b, 5, none⟩ = some (.int .i64 X.S.mx)) wh1 := ⟨(hBh1.cell (p := ⟨N_f, 0, none⟩) (show N_f < U5.heap.size by omega)).trans f0, (hBh1.cell (p := ⟨N_f, 1, none⟩) (show N_f < U5.heap.size by omega)).trans f1, (hBh1.cell (p := ⟨N_b, 0, none⟩) (show N_b < U5.heap.size by omega)).trans b0, (hBh1.cell (p := ⟨N_b, 1, none⟩) (show N_b < U5.heap.size by omega)).trans b1, (hBh1.cell (p := ⟨N_b, 2, none⟩) (show N_b < U5.heap.size by omega)).trans b2, (hBh1.cell (p := ⟨N_b, 3, none⟩) (show N_b < U5.heap.size by omega)).trans b3, (hBh1.cell (p := ⟨N_b, 4, none⟩) (show N_b < U5.heap.size by omega)).trans b4, (hBh1.cell (p := ⟨N_b, 5, none⟩) (show N_b < U5.heap.size by omega)).trans b5⟩
  refine hK.out _ _ hSh1 ?_
  clear hK K
  refine held_one 16 rfl (by kernel_rfl) (by rfl) (fun K hK => ?_)
  go_simp
  go_at_call 13
  refine (hF2.out _ (HBel.out.trans (hBh1.mono hlow))).mono ?_
  rintro e wh2 ⟨rfl, hbh2⟩
  have hBh2 : Below U5.heap.size U5 wh2 := below_step hBh1 hbh2
  have hSh2 : (fun w' : World => w'.cell? ⟨N_f, 0, none⟩ = some (.int .i64 g) ∧ w'.cell? ⟨N_f, 1, none⟩ = some (.int .i64 c) ∧ w'.cell? ⟨N_b, 0, none⟩ = some (.int .i64 X.q) ∧ w'.cell? ⟨N_b, 1, none⟩ = some (.int .i64 X.n) ∧ w'.cell? ⟨N_b, 2, none⟩ = some (.int .i64 X.S.g) ∧ w'.cell? ⟨N_b, 3, none⟩ = some (.int .i64 X.S.c) ∧ w'.cell? ⟨N_b, 4, none⟩ = some (.int .i64 X.S.mn) ∧ w'.cell? ⟨N_b, 5, none⟩ = some (.int .i64 X.S.mx)) wh2 := ⟨(hBh2.cell (p := ⟨N_f, 0, none⟩) (show N_f < U5.heap.size by omega)).trans f0, (hBh2.cell (p := ⟨N_f, 1, none⟩) (show N_f < U5.heap.size by omega)).trans f1, (hBh2.cell (p := ⟨N_b, 0, none⟩) (show N_b < U5.heap.size by omega)).trans b0, (hBh2.cell (p := ⟨N_b, 1, none⟩) (show N_b < U5.heap.size by omega)).trans b1, (hBh2.cell (p := ⟨N_b, 2, none⟩) (show N_b < U5.heap.size by omega)).trans b2, (hBh2.cell (p := ⟨N_b, 3, none⟩) (show N_b < U5.heap.size by omega)).trans b3, (hBh2.cell (p := ⟨N_b, 4, none⟩) (show N_b < U5.heap.size by omega)).trans b4, (hBh2.cell (p := ⟨N_b, 5, none⟩) (show N_b < U5.heap.size by omega)).trans b5⟩
  refine hK.out _ _ hSh2 ?_
  clear hK K
  refine held_take (v := ?_) 17 57 rfl rfl (by kernel_rfl) (by kernel_rfl) (by kernel_rfl) (fun _ _ _ h => h) ⟨by rfl, ?_⟩ hSh2 ?_
  rotate_left
  · intro w' hw'; obtain ⟨x0, x1, x2, x3, x4, x5, x6, x7⟩ := hw'; go_simp; (try with_reducible rfl)
  simp only [Act.put, List.setIfInBounds_toArray, List.set_cons_zero, List.set_cons_succ]
  refine held_take (v := ?_) 18 58 rfl rfl (by kernel_rfl) (by kernel_rfl) (by kernel_rfl) (fun _ _ _ h => h) ⟨by rfl, ?_⟩ hSh2 ?_
  rotate_left
  · intro w' hw'; obtain ⟨x0, x1, x2, x3, x4, x5, x6, x7⟩ := hw'; go_simp; (try with_reducible rfl)
  simp only [Act.put, List.setIfInBounds_toArray, List.set_cons_zero, List.set_cons_succ]
  refine held_take (v := ?_) 19 10 rfl rfl (by kernel_rfl) (by kernel_rfl) (by kernel_rfl) (fun _ _ _ h => h) ⟨by rfl, ?_⟩ hSh2 ?_
  rotate_left
  · intro w' hw'; obtain ⟨x0, x1, x2, x3, x4, x5, x6, x7⟩ := hw'; go_simp; (try with_reducible rfl)
  simp only [Act.put, List.setIfInBounds_toArray, List.set_cons_zero, List.set_cons_succ]
  refine wpAnyH_done (by kernel_rfl) ?_ _
  have hb9 := hBh2
  clear f0 f1 b0 b1 b2 b3 b4 b5
  have hs9 := hb9.size
  replace HBel := Lib.hid (HBel.out.trans (hb9.mono hlow))
  replace B_f : Hid (wh2.heap[N_f]? = some (.cells #[.int .i64 g, .int .i64 c] 24 (0, 0))) := Lib.hid ((hb9.block _ l_f).trans B_f.out)
  replace B_b : Hid (wh2.heap[N_b]? = some (.cells #[.int .i64 X.q, .int .i64 X.n, .int .i64 X.S.g, .int .i64 X.S.c, .int .i64 X.S.mn, .int .i64 X.S.mx] 29 (0, 0))) := Lib.hid ((hb9.block _ l_b).trans B_b.out)
  replace l_f : N_f < wh2.heap.size := by omega
  replace l_b : N_b < wh2.heap.size := by omega
  replace hlow : w.heap.size ≤ wh2.heap.size := by omega
  clear hb9 hs9 hSh0 hBh0 hSh1 hBh1 hSh2 hBh2
  go_wp2
  go_ret
  exact ⟨by first | rfl | simp, by rw [HB0.out]; exact HBel.out⟩

set_option maxRecDepth 100000 in
set_option maxHeartbeats 1000000 in
theorem lifted (os : Os) (started : os.Started) (H : Type) (enc : TypeId × Value → H) :
    ReturnsInHanded {} Tryd.checked os 3 .any (fun w args => (Rows.promiseTellsSpec.pre enc Tryd.prog Tryd.f3 [] false w args ∧ laidMetH Tryd.prog laid1 w) ∧ sizedMet enc Tryd.prog Tryd.f3 (OpenSpec.ofChange Rows.promiseTellsSpec) false w args)
      (Rows.promiseTellsSpec.post enc Tryd.prog Tryd.f3 false true false false) := by
  refine returnsInHanded_of_change_and (C := Tryd.checked) (X := fun w _ => laidMetH Tryd.prog laid1 w) (fun _ _ _ hh h => h.of_heap hh) own started (by kernel_rfl) Tryd.func3
    (ChangeSpec.witness_shaped (enc := enc) (C := Tryd.checked) (os := os) (X := fun w _ => laidMetH Tryd.prog laid1 w) false (World.doorLaid Tryd.prog 400 os) #[.int .i64 0, .slice none 0 0, .agg #[.int .i64 0, .int .i64 0], .slice none 0 0, .agg #[.int .i64 0, .int .i64 0, .int .i64 0, .int .i64 0, .int .i64 0, .int .i64 0]] 8 rfl (World.shaped_of_RefB (by kernel_rfl) (by kernel_rfl)) (by kernel_rfl) (by kernel_rfl) (by kernel_rfl) (door_met os _)) ?_
  intro W base args ds gs before hval0 hW _ _ hL _
  have hval : ∀ (j : Nat) t v, Tryd.f3.params[j]? = some t → args[j]? = some v → Value.okWide Tryd.prog W .any base t v := hval0
  have hW' := hW
  obtain ⟨p, q, hA0, hV, rfl, hfz, hnd⟩ := hW
  have hA : DataW.TrodAll enc Tryd.prog W 0 (fun _ => true) true Tryd.f3.params.toList args.toList ds p := hA0
  rw [Tryd.params3] at hA hval
  obtain ⟨v0, vs0, d0, ds0, p0, q0, hargs, rfl, rfl, h0, r0⟩ := trodAll_cons hA
  obtain ⟨v1, vs1, d1, ds1, p1, q1, rfl, rfl, rfl, h1, r1⟩ := trodAll_cons r0
  obtain ⟨v2, vs2, d2, ds2, p2, q2, rfl, rfl, rfl, h2, r2⟩ := trodAll_cons r1
  obtain ⟨v3, vs3, d3, ds3, p3, q3, rfl, rfl, rfl, h3, r3⟩ := trodAll_cons r2
  obtain ⟨v4, vs4, d4, ds4, p4, q4, rfl, rfl, rfl, h4, r4⟩ := trodAll_cons r3
  obtain ⟨rfl, rfl, rfl⟩ := trodAll_nil r4
  obtain rfl : args = #[v0, v1, v2, v3, v4] := by cases args; simp_all
  obtain ⟨rfl, rfl⟩ := trodVars_none hV
  have k0 := h0
  have lt0 : ∀ x ∈ p0, x.block < W.heap.size := by obtain ⟨m, hm⟩ := k0; exact DataW.trod_lt m _ _ _ hm
  obtain ⟨a0, rfl, _, _, w0⟩ := open_int Tryd.underlying3 (hval 0 3 v0 rfl rfl) h0
  have k1 := h1
  have lt1 : ∀ x ∈ p1, x.block < W.heap.size := by obtain ⟨m, hm⟩ := k1; exact DataW.trod_lt m _ _ _ hm
  obtain ⟨a1, c1, l1, rfl, lc1, mc1, v1, q1⟩ := view_of (hval 1 22 v1 rfl rfl) h1
  have k2 := h2
  have lt2 : ∀ x ∈ p2, x.block < W.heap.size := by obtain ⟨m, hm⟩ := k2; exact DataW.trod_lt m _ _ _ hm
  obtain ⟨g2, c2, rfl, wg2, wc2⟩ := un2_of (hval 2 24 v2 rfl rfl) h2
  have k3 := h3
  have lt3 : ∀ x ∈ p3, x.block < W.heap.size := by obtain ⟨m, hm⟩ := k3; exact DataW.trod_lt m _ _ _ hm
  obtain ⟨a3, c3, l3, rfl, lc3, mc3, v3, q3⟩ := hos_of (hval 3 25 v3 rfl rfl) h3
  have k4 := h4
  have lt4 : ∀ x ∈ p4, x.block < W.heap.size := by obtain ⟨m, hm⟩ := k4; exact DataW.trod_lt m _ _ _ hm
  obtain ⟨x4, rfl, w4⟩ := wa_of (hval 4 29 v4 rfl rfl) h4
  have hT := of_laid hL
  clear hL
  clear hA0 hval0
  refine (walk a0 a1 c1 l1 g2 c2 a3 c3 l3 x4 W w0 v1 q1 lc1 mc1 wg2 wc2 v3 q3 lc3 mc3 w4 hT).mono fun e W' ⟨he, bel⟩ => ?_
  subst he
  exact ⟨_, rfl, _, _, _, [], _, [], hW', trodAll_mk1 (shut_bool Tryd.underlying4 _), (trodAll_cons_mk (Below.trod laidOut (by kernel_rfl) (of_decide_eq_true (by kernel_rfl)) k0 bel lt0) (trodAll_cons_mk (Below.trod laidOut (by kernel_rfl) (of_decide_eq_true (by kernel_rfl)) k1 bel lt1) (trodAll_cons_mk (Below.trod laidOut (by kernel_rfl) (of_decide_eq_true (by kernel_rfl)) k2 bel lt2) (trodAll_cons_mk (Below.trod laidOut (by kernel_rfl) (of_decide_eq_true (by kernel_rfl)) k3 bel lt3) (trodAll_cons_mk (Below.trod laidOut (by kernel_rfl) (of_decide_eq_true (by kernel_rfl)) k4 bel lt4) trodAll_mk0))))), rfl, bel.frame _, fun h => by cases h⟩

/-- THE ROW. -/
theorem row_holds : Rows.PromiseTellsSaid :=
  OpenClaim.holds_of_wide 3 Tryd.f3 rfl rfl rfl rfl rfl rfl rfl ⟨rfl, rfl, rfl, rfl, rfl⟩ rfl rfl rfl rfl rfl (by kernel_rfl) Tryd.func3 (by kernel_rfl)
    (of_decide_eq_true (by kernel_rfl)) (by unfold Func.isWrapper; first | (rw [if_pos (by decide +kernel)]; kernel_rfl) | (rw [if_neg (by decide +kernel)]; exact ⟨rfl, rfl⟩))
    (fun os started H enc _ => lifted os started H enc)

/-- THE STATEMENT. -/
theorem card_holds : Rows.PromiseTellsCardSaid :=
  Claim7.holds_tied_plain_at .later [] [.data] true (true, Rows.promiseTellsCard.stood.harness.2) false
    row_holds (fun _ h => by cases h) (by kernel_rfl) (fun _ h => by cases h) promiseTells_row_tie rfl ⟨rfl, rfl⟩ (by kernel_rfl) rfl
    (fun f fn hf hfn => by
      obtain rfl : f = 3 := Option.some.inj ((show Tryd.prog.funcNamed Rows.promiseTellsRow.func = some 3 by kernel_rfl).symm.trans hf) |>.symm
      obtain rfl : fn = Tryd.f3 := (Option.some.inj (Tryd.func3.symm.trans hfn)).symm
      exact ⟨by kernel_rfl, fun j t ht => by
        rw [Tryd.params3] at ht
        have hm : t ∈ [3, 22, 24, 25, 29] := by simpa using Array.mem_of_getElem? ht
        have hall : ([3, 22, 24, 25, 29].all fun u => !Tryd.prog.wantsStandIn u) = true := by kernel_rfl
        exact (show Tryd.prog.wantsStandIn t = false by simpa using List.all_eq_true.1 hall t hm)⟩)
    (by kernel_rfl)
end Go.Proofs.YtenldgnfjjchiaaDoor.promiseTells
