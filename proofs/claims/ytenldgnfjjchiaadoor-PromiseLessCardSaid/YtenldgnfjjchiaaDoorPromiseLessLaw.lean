/- Without one of the holds, whose slots are free then, it is no later; so if that one ends earlier, or more is left: the law PromiseLess answers true, at every input. The library's table of lowest units is as the program's text lays it (tied). -/
import Derived.RegionTactic
import Derived.BigRegion
import Derived.BigQuiet
import Derived.Deep.QuietTactic
import Derived.Test.YtenldgnfjjchiaaDoorProLessM
import Derived.Test.YtenldgnfjjchiaaDoorProU
import Derived.SevenTiedAt
import Derived.Test.YtenldgnfjjchiaaDoorTie
import Derived.Test.YtenldgnfjjchiaaDoorCards
set_option linter.unusedVariables false
namespace Go.Proofs.YtenldgnfjjchiaaDoor.promiseLess
open Go Go.ChangeShapes Go.WideShapes Go.ChangeAt Go.RowKit
open PR
set_option maxRecDepth 100000 in
set_option maxHeartbeats 16000000 in
theorem walk (now : Int) (a1 : Option Addr) (c1 : Nat) (l1 : List Fe) (g c : Int) (a3 : Option Addr) (c3 : Nat) (l3 : List Ho) (X : Wa) (kk bb : Int) (w : World) (w0 : (Lit.int .i64 now).wf = true) (v1 : Fes w w.heap.size a1 l1) (q1 : ∀ s ∈ l1, FeOk s) (lc1 : l1.length ≤ c1) (mc1 : c1 ≤ maxLen) (wg : (Lit.int .i64 g).wf = true) (wc : (Lit.int .i64 c).wf = true) (v3 : HosIn w w.heap.size a3 l3) (q3 : ∀ x ∈ l3, HoOk x) (lc3 : l3.length ≤ c3) (mc3 : c3 ≤ maxLen) (w4 : WaOk X) (w5 : (Lit.int .i64 kk).wf = true) (w6 : (Lit.int .i64 bb).wf = true) (hT : Tab w) :
    Calls Tryd.prog 5 #[.int .i64 now, .slice a1 l1.length c1, .agg #[.int .i64 g, .int .i64 c], .slice a3 l3.length c3, waV X, .int .i64 kk, .int .i64 bb] w fun e w' => e = .returned (.bool true) ∧ Below w.heap.size w w' := by
  have HT := Lib.hid hT
  have hAw := Lib.hid (fun W (hT : Tab W) => awake12 W hT)
  obtain ⟨n, hn⟩ : ∃ n, n = l1.length := ⟨_, rfl⟩
  obtain ⟨m, hm⟩ : ∃ m, m = l3.length := ⟨_, rfl⟩
  unfold waV waA
  have hFw := Lib.hid (fun W (hW : Below w.heap.size w W) => show Calls Tryd.prog 9 #[.slice a1 n c1, .agg #[.int .i64 g, .int .i64 c], .slice a3 m c3] W (fun e w' => e = .returned (.bool (fewH l1 g c l3)) ∧ Below W.heap.size W w') from by
    rw [hn, hm]
    exact few12_any a1 c1 l1 g c a3 c3 l3 W (v1.keep hW hW.size) lc1 (v3.keep hW hW.size).at_ (fun x hx => Nat.le_trans (q3 x hx).l (q3 x hx).m))
  rw [← hn, ← hm]
  cases hfew : fewH l1 g c l3
  · rw [hfew] at hFw
    clear hfew hn hm w0 v1 q1 lc1 mc1 wg wc v3 q3 lc3 mc3 w4 hT w5 w6
    obtain ⟨B0, hB0⟩ : ∃ B, B = w.heap.size := ⟨_, rfl⟩
    rw [← hB0]
    have HB0 := Lib.hid hB0
    clear hB0
    have HBel := Lib.hid (Below.refl w.heap.size w)
    have hlow : w.heap.size ≤ w.heap.size := Nat.le_refl _
    go_enter Tryd.func5, Tryd.ntmps5
    go_wp2_with fail
    obtain ⟨V1, hV1⟩ : ∃ W, W = (w.alloc (.cells #[.int .i64 g, .int .i64 c] 24)).alloc (.cells #[.int .i64 X.q, .int .i64 X.n, .int .i64 X.S.g, .int .i64 X.S.c, .int .i64 X.S.mn, .int .i64 X.S.mx] 29) := ⟨_, rfl⟩
    rw [← hV1]
    have hzV1 : V1.heap.size = w.heap.size + 1 + 1 := by rw [hV1]; simp
    replace HBel : Hid (Below w.heap.size w V1) := Lib.hid (by rw [hV1]; exact ((HBel.out.alloc (hlow) _).alloc (by simp <;> omega) _))
    have B_f : Hid (V1.heap[w.heap.size]? = some (.cells #[.int .i64 g, .int .i64 c] 24 (0, 0))) := Lib.hid (by
      have h9 := heap_alloc_new (w) (.cells #[.int .i64 g, .int .i64 c] 24)
      rw [hV1]; exact ((Below.heap_alloc _ _ _ (by simp <;> omega)).trans h9))
    have B_b : Hid (V1.heap[w.heap.size + 1]? = some (.cells #[.int .i64 X.q, .int .i64 X.n, .int .i64 X.S.g, .int .i64 X.S.c, .int .i64 X.S.mn, .int .i64 X.S.mx] 29 (0, 0))) := Lib.hid (by
      have h9 := heap_alloc_new (w.alloc (.cells #[.int .i64 g, .int .i64 c] 24)) (.cells #[.int .i64 X.q, .int .i64 X.n, .int .i64 X.S.g, .int .i64 X.S.c, .int .i64 X.S.mn, .int .i64 X.S.mx] 29)
      rw [World.size_alloc] at h9
      rw [hV1]; exact h9)
    obtain ⟨N_f, hN_f⟩ : ∃ N, N = w.heap.size := ⟨_, rfl⟩
    obtain ⟨N_b, hN_b⟩ : ∃ N, N = w.heap.size + 1 := ⟨_, rfl⟩
    (try rw [← hN_b])
    rw [← hN_b] at B_b
    (try rw [← hN_f])
    rw [← hN_f] at B_f
    have l_f : N_f < V1.heap.size := by omega
    have l_b : N_b < V1.heap.size := by omega
    have g_f : w.heap.size ≤ N_f := by omega
    have g_b : w.heap.size ≤ N_b := by omega
    have d_f_b : N_f < N_b := by omega
    replace hlow : w.heap.size ≤ V1.heap.size := by omega
    clear hV1 hzV1 hN_f hN_b
    refine (hAw.out V1 (HT.out.below HBel.out HT.out.size)).mono ?_
    rintro e U2 ⟨rfl, hb9⟩
    have hs9 := hb9.size
    replace HBel := Lib.hid (HBel.out.trans (hb9.mono hlow))
    replace B_f : Hid (U2.heap[N_f]? = some (.cells #[.int .i64 g, .int .i64 c] 24 (0, 0))) := Lib.hid ((hb9.block _ l_f).trans B_f.out)
    replace B_b : Hid (U2.heap[N_b]? = some (.cells #[.int .i64 X.q, .int .i64 X.n, .int .i64 X.S.g, .int .i64 X.S.c, .int .i64 X.S.mn, .int .i64 X.S.mx] 29 (0, 0))) := Lib.hid ((hb9.block _ l_b).trans B_b.out)
    replace l_f : N_f < U2.heap.size := by omega
    replace l_b : N_b < U2.heap.size := by omega
    replace hlow : w.heap.size ≤ U2.heap.size := by omega
    clear hb9 hs9
    have f0 : U2.cell? ⟨N_f, 0, none⟩ = some (.int .i64 g) := cell_blk (i := 0) B_f.out rfl
    have f1 : U2.cell? ⟨N_f, 1, none⟩ = some (.int .i64 c) := cell_blk (i := 1) B_f.out rfl
    go_wp2_with fail
    refine (hFw.out U2 HBel.out).mono ?_
    rintro e U3 ⟨rfl, hb9⟩
    clear f0 f1
    have hs9 := hb9.size
    replace HBel := Lib.hid (HBel.out.trans (hb9.mono hlow))
    replace B_f : Hid (U3.heap[N_f]? = some (.cells #[.int .i64 g, .int .i64 c] 24 (0, 0))) := Lib.hid ((hb9.block _ l_f).trans B_f.out)
    replace B_b : Hid (U3.heap[N_b]? = some (.cells #[.int .i64 X.q, .int .i64 X.n, .int .i64 X.S.g, .int .i64 X.S.c, .int .i64 X.S.mn, .int .i64 X.S.mx] 29 (0, 0))) := Lib.hid ((hb9.block _ l_b).trans B_b.out)
    replace l_f : N_f < U3.heap.size := by omega
    replace l_b : N_b < U3.heap.size := by omega
    replace hlow : w.heap.size ≤ U3.heap.size := by omega
    clear hb9 hs9
    go_wp2
    go_ret
    exact ⟨rfl, by rw [HB0.out]; exact HBel.out⟩
  rw [hfew] at hFw
  obtain ⟨hview, hn70, hgc, hmany, hsl, hm20, hs20⟩ := few_true hfew q1
  have hE := Lib.hid (fun W (hW : Below w.heap.size w W) => show Calls Tryd.prog 10 #[.int .i64 now, .slice a1 n c1, .agg #[.int .i64 g, .int .i64 c], .slice a3 m c3, .agg #[.int .i64 X.q, .int .i64 X.n, .int .i64 X.S.g, .int .i64 X.S.c, .int .i64 X.S.mn, .int .i64 X.S.mx]] W (fun e w' => ∃ T E, e = .returned (.tuple #[.int .i64 T, .int .i64 E]) ∧ Earl now l1 g c l3 X T E ∧ Below W.heap.size W w') from by
    have h9 := pearliest_any now a1 c1 l1 g c a3 c3 l3 X W (v1.keep hW hW.size) hview (by omega) (v3.keep hW hW.size) q3 hmany (by omega) w4 (by omega) (by omega) (hT.below hW hT.size)
    rw [← hn, ← hm] at h9
    exact h9)
  have hFi := Lib.hid (fun W (hW : Below w.heap.size w W) => show Calls Tryd.prog 12 #[.slice a1 n c1, .agg #[.int .i64 g, .int .i64 c], .agg #[.int .i64 X.q, .int .i64 X.n, .int .i64 X.S.g, .int .i64 X.S.c, .int .i64 X.S.mn, .int .i64 X.S.mx]] W (fun e w' => e = .returned (.bool (PR.fits l1 g c X)) ∧ Below W.heap.size W w') from by
    have h9 := pfits_any a1 c1 W.heap.size l1 g c X W (v1.keep hW hW.size) (Nat.le_refl _) (by omega) q1 w4 (hT.below hW hT.size)
    rw [← hn] at h9
    exact h9)
  by_cases y0 : kk < 0
  · have t0 : decide (kk < 0) = true := decide_eq_true y0
    clear hE hFi hfew hview hn70 hgc hmany hsl hs20 w0 v1 q1 lc1 mc1 wg wc q3 lc3 mc3 w4 hT w5 w6 v3 hn hm hm20 y0
    obtain ⟨B0, hB0⟩ : ∃ B, B = w.heap.size := ⟨_, rfl⟩
    rw [← hB0]
    have HB0 := Lib.hid hB0
    clear hB0
    have HBel := Lib.hid (Below.refl w.heap.size w)
    have hlow : w.heap.size ≤ w.heap.size := Nat.le_refl _
    go_enter Tryd.func5, Tryd.ntmps5
    go_wp2_with fail
    obtain ⟨V1, hV1⟩ : ∃ W, W = (w.alloc (.cells #[.int .i64 g, .int .i64 c] 24)).alloc (.cells #[.int .i64 X.q, .int .i64 X.n, .int .i64 X.S.g, .int .i64 X.S.c, .int .i64 X.S.mn, .int .i64 X.S.mx] 29) := ⟨_, rfl⟩
    rw [← hV1]
    have hzV1 : V1.heap.size = w.heap.size + 1 + 1 := by rw [hV1]; simp
    replace HBel : Hid (Below w.heap.size w V1) := Lib.hid (by rw [hV1]; exact ((HBel.out.alloc (hlow) _).alloc (by simp <;> omega) _))
    have B_f : Hid (V1.heap[w.heap.size]? = some (.cells #[.int .i64 g, .int .i64 c] 24 (0, 0))) := Lib.hid (by
      have h9 := heap_alloc_new (w) (.cells #[.int .i64 g, .int .i64 c] 24)
      rw [hV1]; exact ((Below.heap_alloc _ _ _ (by simp <;> omega)).trans h9))
    have B_b : Hid (V1.heap[w.heap.size + 1]? = some (.cells #[.int .i64 X.q, .int .i64 X.n, .int .i64 X.S.g, .int .i64 X.S.c, .int .i64 X.S.mn, .int .i64 X.S.mx] 29 (0, 0))) := Lib.hid (by
      have h9 := heap_alloc_new (w.alloc (.cells #[.int .i64 g, .int .i64 c] 24)) (.cells #[.int .i64 X.q, .int .i64 X.n, .int .i64 X.S.g, .int .i64 X.S.c, .int .i64 X.S.mn, .int .i64 X.S.mx] 29)
      rw [World.size_alloc] at h9
      rw [hV1]; exact h9)
    obtain ⟨N_f, hN_f⟩ : ∃ N, N = w.heap.size := ⟨_, rfl⟩
    obtain ⟨N_b, hN_b⟩ : ∃ N, N = w.heap.size + 1 := ⟨_, rfl⟩
    (try rw [← hN_b])
    rw [← hN_b] at B_b
    (try rw [← hN_f])
    rw [← hN_f] at B_f
    have l_f : N_f < V1.heap.size := by omega
    have l_b : N_b < V1.heap.size := by omega
    have g_f : w.heap.size ≤ N_f := by omega
    have g_b : w.heap.size ≤ N_b := by omega
    have d_f_b : N_f < N_b := by omega
    replace hlow : w.heap.size ≤ V1.heap.size := by omega
    clear hV1 hzV1 hN_f hN_b
    refine (hAw.out V1 (HT.out.below HBel.out HT.out.size)).mono ?_
    rintro e U2 ⟨rfl, hb9⟩
    have hs9 := hb9.size
    replace HBel := Lib.hid (HBel.out.trans (hb9.mono hlow))
    replace B_f : Hid (U2.heap[N_f]? = some (.cells #[.int .i64 g, .int .i64 c] 24 (0, 0))) := Lib.hid ((hb9.block _ l_f).trans B_f.out)
    replace B_b : Hid (U2.heap[N_b]? = some (.cells #[.int .i64 X.q, .int .i64 X.n, .int .i64 X.S.g, .int .i64 X.S.c, .int .i64 X.S.mn, .int .i64 X.S.mx] 29 (0, 0))) := Lib.hid ((hb9.block _ l_b).trans B_b.out)
    replace l_f : N_f < U2.heap.size := by omega
    replace l_b : N_b < U2.heap.size := by omega
    replace hlow : w.heap.size ≤ U2.heap.size := by omega
    clear hb9 hs9
    have f0 : U2.cell? ⟨N_f, 0, none⟩ = some (.int .i64 g) := cell_blk (i := 0) B_f.out rfl
    have f1 : U2.cell? ⟨N_f, 1, none⟩ = some (.int .i64 c) := cell_blk (i := 1) B_f.out rfl
    go_wp2_with fail
    refine (hFw.out U2 HBel.out).mono ?_
    rintro e U3 ⟨rfl, hb9⟩
    clear f0 f1
    have hs9 := hb9.size
    replace HBel := Lib.hid (HBel.out.trans (hb9.mono hlow))
    replace B_f : Hid (U3.heap[N_f]? = some (.cells #[.int .i64 g, .int .i64 c] 24 (0, 0))) := Lib.hid ((hb9.block _ l_f).trans B_f.out)
    replace B_b : Hid (U3.heap[N_b]? = some (.cells #[.int .i64 X.q, .int .i64 X.n, .int .i64 X.S.g, .int .i64 X.S.c, .int .i64 X.S.mn, .int .i64 X.S.mx] 29 (0, 0))) := Lib.hid ((hb9.block _ l_b).trans B_b.out)
    replace l_f : N_f < U3.heap.size := by omega
    replace l_b : N_b < U3.heap.size := by omega
    replace hlow : w.heap.size ≤ U3.heap.size := by omega
    clear hb9 hs9
    have f0 : U3.cell? ⟨N_f, 0, none⟩ = some (.int .i64 g) := cell_blk (i := 0) B_f.out rfl
    have f1 : U3.cell? ⟨N_f, 1, none⟩ = some (.int .i64 c) := cell_blk (i := 1) B_f.out rfl
    go_wp2
    go_ret
    exact ⟨rfl, by rw [HB0.out]; exact HBel.out⟩
  have t0 : decide (kk < 0) = false := decide_eq_false y0
  by_cases y1 : (m : Int) ≤ kk
  · have t1 : decide ((m : Int) ≤ kk) = true := decide_eq_true y1
    have t1x : decide (kk ≥ (m : Int)) = true := decide_eq_true y1
    clear hE hFi hfew hview hn70 hgc hmany hsl hs20 w0 v1 q1 lc1 mc1 wg wc q3 lc3 mc3 w4 hT w5 w6 v3 hn hm hm20 y0 y1
    obtain ⟨B0, hB0⟩ : ∃ B, B = w.heap.size := ⟨_, rfl⟩
    rw [← hB0]
    have HB0 := Lib.hid hB0
    clear hB0
    have HBel := Lib.hid (Below.refl w.heap.size w)
    have hlow : w.heap.size ≤ w.heap.size := Nat.le_refl _
    go_enter Tryd.func5, Tryd.ntmps5
    go_wp2_with fail
    obtain ⟨V1, hV1⟩ : ∃ W, W = (w.alloc (.cells #[.int .i64 g, .int .i64 c] 24)).alloc (.cells #[.int .i64 X.q, .int .i64 X.n, .int .i64 X.S.g, .int .i64 X.S.c, .int .i64 X.S.mn, .int .i64 X.S.mx] 29) := ⟨_, rfl⟩
    rw [← hV1]
    have hzV1 : V1.heap.size = w.heap.size + 1 + 1 := by rw [hV1]; simp
    replace HBel : Hid (Below w.heap.size w V1) := Lib.hid (by rw [hV1]; exact ((HBel.out.alloc (hlow) _).alloc (by simp <;> omega) _))
    have B_f : Hid (V1.heap[w.heap.size]? = some (.cells #[.int .i64 g, .int .i64 c] 24 (0, 0))) := Lib.hid (by
      have h9 := heap_alloc_new (w) (.cells #[.int .i64 g, .int .i64 c] 24)
      rw [hV1]; exact ((Below.heap_alloc _ _ _ (by simp <;> omega)).trans h9))
    have B_b : Hid (V1.heap[w.heap.size + 1]? = some (.cells #[.int .i64 X.q, .int .i64 X.n, .int .i64 X.S.g, .int .i64 X.S.c, .int .i64 X.S.mn, .int .i64 X.S.mx] 29 (0, 0))) := Lib.hid (by
      have h9 := heap_alloc_new (w.alloc (.cells #[.int .i64 g, .int .i64 c] 24)) (.cells #[.int .i64 X.q, .int .i64 X.n, .int .i64 X.S.g, .int .i64 X.S.c, .int .i64 X.S.mn, .int .i64 X.S.mx] 29)
      rw [World.size_alloc] at h9
      rw [hV1]; exact h9)
    obtain ⟨N_f, hN_f⟩ : ∃ N, N = w.heap.size := ⟨_, rfl⟩
    obtain ⟨N_b, hN_b⟩ : ∃ N, N = w.heap.size + 1 := ⟨_, rfl⟩
    (try rw [← hN_b])
    rw [← hN_b] at B_b
    (try rw [← hN_f])
    rw [← hN_f] at B_f
    have l_f : N_f < V1.heap.size := by omega
    have l_b : N_b < V1.heap.size := by omega
    have g_f : w.heap.size ≤ N_f := by omega
    have g_b : w.heap.size ≤ N_b := by omega
    have d_f_b : N_f < N_b := by omega
    replace hlow : w.heap.size ≤ V1.heap.size := by omega
    clear hV1 hzV1 hN_f hN_b
    refine (hAw.out V1 (HT.out.below HBel.out HT.out.size)).mono ?_
    rintro e U2 ⟨rfl, hb9⟩
    have hs9 := hb9.size
    replace HBel := Lib.hid (HBel.out.trans (hb9.mono hlow))
    replace B_f : Hid (U2.heap[N_f]? = some (.cells #[.int .i64 g, .int .i64 c] 24 (0, 0))) := Lib.hid ((hb9.block _ l_f).trans B_f.out)
    replace B_b : Hid (U2.heap[N_b]? = some (.cells #[.int .i64 X.q, .int .i64 X.n, .int .i64 X.S.g, .int .i64 X.S.c, .int .i64 X.S.mn, .int .i64 X.S.mx] 29 (0, 0))) := Lib.hid ((hb9.block _ l_b).trans B_b.out)
    replace l_f : N_f < U2.heap.size := by omega
    replace l_b : N_b < U2.heap.size := by omega
    replace hlow : w.heap.size ≤ U2.heap.size := by omega
    clear hb9 hs9
    have f0 : U2.cell? ⟨N_f, 0, none⟩ = some (.int .i64 g) := cell_blk (i := 0) B_f.out rfl
    have f1 : U2.cell? ⟨N_f, 1, none⟩ = some (.int .i64 c) := cell_blk (i := 1) B_f.out rfl
    go_wp2_with fail
    refine (hFw.out U2 HBel.out).mono ?_
    rintro e U3 ⟨rfl, hb9⟩
    clear f0 f1
    have hs9 := hb9.size
    replace HBel := Lib.hid (HBel.out.trans (hb9.mono hlow))
    replace B_f : Hid (U3.heap[N_f]? = some (.cells #[.int .i64 g, .int .i64 c] 24 (0, 0))) := Lib.hid ((hb9.block _ l_f).trans B_f.out)
    replace B_b : Hid (U3.heap[N_b]? = some (.cells #[.int .i64 X.q, .int .i64 X.n, .int .i64 X.S.g, .int .i64 X.S.c, .int .i64 X.S.mn, .int .i64 X.S.mx] 29 (0, 0))) := Lib.hid ((hb9.block _ l_b).trans B_b.out)
    replace l_f : N_f < U3.heap.size := by omega
    replace l_b : N_b < U3.heap.size := by omega
    replace hlow : w.heap.size ≤ U3.heap.size := by omega
    clear hb9 hs9
    have f0 : U3.cell? ⟨N_f, 0, none⟩ = some (.int .i64 g) := cell_blk (i := 0) B_f.out rfl
    have f1 : U3.cell? ⟨N_f, 1, none⟩ = some (.int .i64 c) := cell_blk (i := 1) B_f.out rfl
    go_wp2
    go_ret
    exact ⟨rfl, by rw [HB0.out]; exact HBel.out⟩
  have t1 : decide ((m : Int) ≤ kk) = false := decide_eq_false y1
  have t1x : decide (kk ≥ (m : Int)) = false := decide_eq_false y1
  by_cases y2 : bb < 0
  · have t2 : decide (bb < 0) = true := decide_eq_true y2
    clear hE hFi hfew hview hn70 hgc hmany hsl hs20 w0 v1 q1 lc1 mc1 wg wc q3 lc3 mc3 w4 hT w5 w6 v3 hn hm hm20 y0 y1 y2
    obtain ⟨B0, hB0⟩ : ∃ B, B = w.heap.size := ⟨_, rfl⟩
    rw [← hB0]
    have HB0 := Lib.hid hB0
    clear hB0
    have HBel := Lib.hid (Below.refl w.heap.size w)
    have hlow : w.heap.size ≤ w.heap.size := Nat.le_refl _
    go_enter Tryd.func5, Tryd.ntmps5
    go_wp2_with fail
    obtain ⟨V1, hV1⟩ : ∃ W, W = (w.alloc (.cells #[.int .i64 g, .int .i64 c] 24)).alloc (.cells #[.int .i64 X.q, .int .i64 X.n, .int .i64 X.S.g, .int .i64 X.S.c, .int .i64 X.S.mn, .int .i64 X.S.mx] 29) := ⟨_, rfl⟩
    rw [← hV1]
    have hzV1 : V1.heap.size = w.heap.size + 1 + 1 := by rw [hV1]; simp
    replace HBel : Hid (Below w.heap.size w V1) := Lib.hid (by rw [hV1]; exact ((HBel.out.alloc (hlow) _).alloc (by simp <;> omega) _))
    have B_f : Hid (V1.heap[w.heap.size]? = some (.cells #[.int .i64 g, .int .i64 c] 24 (0, 0))) := Lib.hid (by
      have h9 := heap_alloc_new (w) (.cells #[.int .i64 g, .int .i64 c] 24)
      rw [hV1]; exact ((Below.heap_alloc _ _ _ (by simp <;> omega)).trans h9))
    have B_b : Hid (V1.heap[w.heap.size + 1]? = some (.cells #[.int .i64 X.q, .int .i64 X.n, .int .i64 X.S.g, .int .i64 X.S.c, .int .i64 X.S.mn, .int .i64 X.S.mx] 29 (0, 0))) := Lib.hid (by
      have h9 := heap_alloc_new (w.alloc (.cells #[.int .i64 g, .int .i64 c] 24)) (.cells #[.int .i64 X.q, .int .i64 X.n, .int .i64 X.S.g, .int .i64 X.S.c, .int .i64 X.S.mn, .int .i64 X.S.mx] 29)
      rw [World.size_alloc] at h9
      rw [hV1]; exact h9)
    obtain ⟨N_f, hN_f⟩ : ∃ N, N = w.heap.size := ⟨_, rfl⟩
    obtain ⟨N_b, hN_b⟩ : ∃ N, N = w.heap.size + 1 := ⟨_, rfl⟩
    (try rw [← hN_b])
    rw [← hN_b] at B_b
    (try rw [← hN_f])
    rw [← hN_f] at B_f
    have l_f : N_f < V1.heap.size := by omega
    have l_b : N_b < V1.heap.size := by omega
    have g_f : w.heap.size ≤ N_f := by omega
    have g_b : w.heap.size ≤ N_b := by omega
    have d_f_b : N_f < N_b := by omega
    replace hlow : w.heap.size ≤ V1.heap.size := by omega
    clear hV1 hzV1 hN_f hN_b
    refine (hAw.out V1 (HT.out.below HBel.out HT.out.size)).mono ?_
    rintro e U2 ⟨rfl, hb9⟩
    have hs9 := hb9.size
    replace HBel := Lib.hid (HBel.out.trans (hb9.mono hlow))
    replace B_f : Hid (U2.heap[N_f]? = some (.cells #[.int .i64 g, .int .i64 c] 24 (0, 0))) := Lib.hid ((hb9.block _ l_f).trans B_f.out)
    replace B_b : Hid (U2.heap[N_b]? = some (.cells #[.int .i64 X.q, .int .i64 X.n, .int .i64 X.S.g, .int .i64 X.S.c, .int .i64 X.S.mn, .int .i64 X.S.mx] 29 (0, 0))) := Lib.hid ((hb9.block _ l_b).trans B_b.out)
    replace l_f : N_f < U2.heap.size := by omega
    replace l_b : N_b < U2.heap.size := by omega
    replace hlow : w.heap.size ≤ U2.heap.size := by omega
    clear hb9 hs9
    have f0 : U2.cell? ⟨N_f, 0, none⟩ = some (.int .i64 g) := cell_blk (i := 0) B_f.out rfl
    have f1 : U2.cell? ⟨N_f, 1, none⟩ = some (.int .i64 c) := cell_blk (i := 1) B_f.out rfl
    go_wp2_with fail
    refine (hFw.out U2 HBel.out).mono ?_
    rintro e U3 ⟨rfl, hb9⟩
    clear f0 f1
    have hs9 := hb9.size
    replace HBel := Lib.hid (HBel.out.trans (hb9.mono hlow))
    replace B_f : Hid (U3.heap[N_f]? = some (.cells #[.int .i64 g, .int .i64 c] 24 (0, 0))) := Lib.hid ((hb9.block _ l_f).trans B_f.out)
    replace B_b : Hid (U3.heap[N_b]? = some (.cells #[.int .i64 X.q, .int .i64 X.n, .int .i64 X.S.g, .int .i64 X.S.c, .int .i64 X.S.mn, .int .i64 X.S.mx] 29 (0, 0))) := Lib.hid ((hb9.block _ l_b).trans B_b.out)
    replace l_f : N_f < U3.heap.size := by omega
    replace l_b : N_b < U3.heap.size := by omega
    replace hlow : w.heap.size ≤ U3.heap.size := by omega
    clear hb9 hs9
    have f0 : U3.cell? ⟨N_f, 0, none⟩ = some (.int .i64 g) := cell_blk (i := 0) B_f.out rfl
    have f1 : U3.cell? ⟨N_f, 1, none⟩ = some (.int .i64 c) := cell_blk (i := 1) B_f.out rfl
    go_wp2
    go_ret
    exact ⟨rfl, by rw [HB0.out]; exact HBel.out⟩
  have t2 : decide (bb < 0) = false := decide_eq_false y2
  by_cases y3 : 1000 < bb
  · have t3 : decide (1000 < bb) = true := decide_eq_true y3
    clear hE hFi hfew hview hn70 hgc hmany hsl hs20 w0 v1 q1 lc1 mc1 wg wc q3 lc3 mc3 w4 hT w5 w6 v3 hn hm hm20 y0 y1 y2 y3
    obtain ⟨B0, hB0⟩ : ∃ B, B = w.heap.size := ⟨_, rfl⟩
    rw [← hB0]
    have HB0 := Lib.hid hB0
    clear hB0
    have HBel := Lib.hid (Below.refl w.heap.size w)
    have hlow : w.heap.size ≤ w.heap.size := Nat.le_refl _
    go_enter Tryd.func5, Tryd.ntmps5
    go_wp2_with fail
    obtain ⟨V1, hV1⟩ : ∃ W, W = (w.alloc (.cells #[.int .i64 g, .int .i64 c] 24)).alloc (.cells #[.int .i64 X.q, .int .i64 X.n, .int .i64 X.S.g, .int .i64 X.S.c, .int .i64 X.S.mn, .int .i64 X.S.mx] 29) := ⟨_, rfl⟩
    rw [← hV1]
    have hzV1 : V1.heap.size = w.heap.size + 1 + 1 := by rw [hV1]; simp
    replace HBel : Hid (Below w.heap.size w V1) := Lib.hid (by rw [hV1]; exact ((HBel.out.alloc (hlow) _).alloc (by simp <;> omega) _))
    have B_f : Hid (V1.heap[w.heap.size]? = some (.cells #[.int .i64 g, .int .i64 c] 24 (0, 0))) := Lib.hid (by
      have h9 := heap_alloc_new (w) (.cells #[.int .i64 g, .int .i64 c] 24)
      rw [hV1]; exact ((Below.heap_alloc _ _ _ (by simp <;> omega)).trans h9))
    have B_b : Hid (V1.heap[w.heap.size + 1]? = some (.cells #[.int .i64 X.q, .int .i64 X.n, .int .i64 X.S.g, .int .i64 X.S.c, .int .i64 X.S.mn, .int .i64 X.S.mx] 29 (0, 0))) := Lib.hid (by
      have h9 := heap_alloc_new (w.alloc (.cells #[.int .i64 g, .int .i64 c] 24)) (.cells #[.int .i64 X.q, .int .i64 X.n, .int .i64 X.S.g, .int .i64 X.S.c, .int .i64 X.S.mn, .int .i64 X.S.mx] 29)
      rw [World.size_alloc] at h9
      rw [hV1]; exact h9)
    obtain ⟨N_f, hN_f⟩ : ∃ N, N = w.heap.size := ⟨_, rfl⟩
    obtain ⟨N_b, hN_b⟩ : ∃ N, N = w.heap.size + 1 := ⟨_, rfl⟩
    (try rw [← hN_b])
    rw [← hN_b] at B_b
    (try rw [← hN_f])
    rw [← hN_f] at B_f
    have l_f : N_f < V1.heap.size := by omega
    have l_b : N_b < V1.heap.size := by omega
    have g_f : w.heap.size ≤ N_f := by omega
    have g_b : w.heap.size ≤ N_b := by omega
    have d_f_b : N_f < N_b := by omega
    replace hlow : w.heap.size ≤ V1.heap.size := by omega
    clear hV1 hzV1 hN_f hN_b
    refine (hAw.out V1 (HT.out.below HBel.out HT.out.size)).mono ?_
    rintro e U2 ⟨rfl, hb9⟩
    have hs9 := hb9.size
    replace HBel := Lib.hid (HBel.out.trans (hb9.mono hlow))
    replace B_f : Hid (U2.heap[N_f]? = some (.cells #[.int .i64 g, .int .i64 c] 24 (0, 0))) := Lib.hid ((hb9.block _ l_f).trans B_f.out)
    replace B_b : Hid (U2.heap[N_b]? = some (.cells #[.int .i64 X.q, .int .i64 X.n, .int .i64 X.S.g, .int .i64 X.S.c, .int .i64 X.S.mn, .int .i64 X.S.mx] 29 (0, 0))) := Lib.hid ((hb9.block _ l_b).trans B_b.out)
    replace l_f : N_f < U2.heap.size := by omega
    replace l_b : N_b < U2.heap.size := by omega
    replace hlow : w.heap.size ≤ U2.heap.size := by omega
    clear hb9 hs9
    have f0 : U2.cell? ⟨N_f, 0, none⟩ = some (.int .i64 g) := cell_blk (i := 0) B_f.out rfl
    have f1 : U2.cell? ⟨N_f, 1, none⟩ = some (.int .i64 c) := cell_blk (i := 1) B_f.out rfl
    go_wp2_with fail
    refine (hFw.out U2 HBel.out).mono ?_
    rintro e U3 ⟨rfl, hb9⟩
    clear f0 f1
    have hs9 := hb9.size
    replace HBel := Lib.hid (HBel.out.trans (hb9.mono hlow))
    replace B_f : Hid (U3.heap[N_f]? = some (.cells #[.int .i64 g, .int .i64 c] 24 (0, 0))) := Lib.hid ((hb9.block _ l_f).trans B_f.out)
    replace B_b : Hid (U3.heap[N_b]? = some (.cells #[.int .i64 X.q, .int .i64 X.n, .int .i64 X.S.g, .int .i64 X.S.c, .int .i64 X.S.mn, .int .i64 X.S.mx] 29 (0, 0))) := Lib.hid ((hb9.block _ l_b).trans B_b.out)
    replace l_f : N_f < U3.heap.size := by omega
    replace l_b : N_b < U3.heap.size := by omega
    replace hlow : w.heap.size ≤ U3.heap.size := by omega
    clear hb9 hs9
    have f0 : U3.cell? ⟨N_f, 0, none⟩ = some (.int .i64 g) := cell_blk (i := 0) B_f.out rfl
    have f1 : U3.cell? ⟨N_f, 1, none⟩ = some (.int .i64 c) := cell_blk (i := 1) B_f.out rfl
    go_wp2
    go_ret
    exact ⟨rfl, by rw [HB0.out]; exact HBel.out⟩
  have t3 : decide (1000 < bb) = false := decide_eq_false y3
  by_cases y4 : 1000000 < g
  · have t4 : decide (1000000 < g) = true := decide_eq_true y4
    clear hE hFi hfew hview hn70 hgc hmany hsl hs20 w0 v1 q1 lc1 mc1 wg wc q3 lc3 mc3 w4 hT w5 w6 v3 hn hm hm20 y0 y1 y2 y3 y4
    obtain ⟨B0, hB0⟩ : ∃ B, B = w.heap.size := ⟨_, rfl⟩
    rw [← hB0]
    have HB0 := Lib.hid hB0
    clear hB0
    have HBel := Lib.hid (Below.refl w.heap.size w)
    have hlow : w.heap.size ≤ w.heap.size := Nat.le_refl _
    go_enter Tryd.func5, Tryd.ntmps5
    go_wp2_with fail
    obtain ⟨V1, hV1⟩ : ∃ W, W = (w.alloc (.cells #[.int .i64 g, .int .i64 c] 24)).alloc (.cells #[.int .i64 X.q, .int .i64 X.n, .int .i64 X.S.g, .int .i64 X.S.c, .int .i64 X.S.mn, .int .i64 X.S.mx] 29) := ⟨_, rfl⟩
    rw [← hV1]
    have hzV1 : V1.heap.size = w.heap.size + 1 + 1 := by rw [hV1]; simp
    replace HBel : Hid (Below w.heap.size w V1) := Lib.hid (by rw [hV1]; exact ((HBel.out.alloc (hlow) _).alloc (by simp <;> omega) _))
    have B_f : Hid (V1.heap[w.heap.size]? = some (.cells #[.int .i64 g, .int .i64 c] 24 (0, 0))) := Lib.hid (by
      have h9 := heap_alloc_new (w) (.cells #[.int .i64 g, .int .i64 c] 24)
      rw [hV1]; exact ((Below.heap_alloc _ _ _ (by simp <;> omega)).trans h9))
    have B_b : Hid (V1.heap[w.heap.size + 1]? = some (.cells #[.int .i64 X.q, .int .i64 X.n, .int .i64 X.S.g, .int .i64 X.S.c, .int .i64 X.S.mn, .int .i64 X.S.mx] 29 (0, 0))) := Lib.hid (by
      have h9 := heap_alloc_new (w.alloc (.cells #[.int .i64 g, .int .i64 c] 24)) (.cells #[.int .i64 X.q, .int .i64 X.n, .int .i64 X.S.g, .int .i64 X.S.c, .int .i64 X.S.mn, .int .i64 X.S.mx] 29)
      rw [World.size_alloc] at h9
      rw [hV1]; exact h9)
    obtain ⟨N_f, hN_f⟩ : ∃ N, N = w.heap.size := ⟨_, rfl⟩
    obtain ⟨N_b, hN_b⟩ : ∃ N, N = w.heap.size + 1 := ⟨_, rfl⟩
    (try rw [← hN_b])
    rw [← hN_b] at B_b
    (try rw [← hN_f])
    rw [← hN_f] at B_f
    have l_f : N_f < V1.heap.size := by omega
    have l_b : N_b < V1.heap.size := by omega
    have g_f : w.heap.size ≤ N_f := by omega
    have g_b : w.heap.size ≤ N_b := by omega
    have d_f_b : N_f < N_b := by omega
    replace hlow : w.heap.size ≤ V1.heap.size := by omega
    clear hV1 hzV1 hN_f hN_b
    refine (hAw.out V1 (HT.out.below HBel.out HT.out.size)).mono ?_
    rintro e U2 ⟨rfl, hb9⟩
    have hs9 := hb9.size
    replace HBel := Lib.hid (HBel.out.trans (hb9.mono hlow))
    replace B_f : Hid (U2.heap[N_f]? = some (.cells #[.int .i64 g, .int .i64 c] 24 (0, 0))) := Lib.hid ((hb9.block _ l_f).trans B_f.out)
    replace B_b : Hid (U2.heap[N_b]? = some (.cells #[.int .i64 X.q, .int .i64 X.n, .int .i64 X.S.g, .int .i64 X.S.c, .int .i64 X.S.mn, .int .i64 X.S.mx] 29 (0, 0))) := Lib.hid ((hb9.block _ l_b).trans B_b.out)
    replace l_f : N_f < U2.heap.size := by omega
    replace l_b : N_b < U2.heap.size := by omega
    replace hlow : w.heap.size ≤ U2.heap.size := by omega
    clear hb9 hs9
    have f0 : U2.cell? ⟨N_f, 0, none⟩ = some (.int .i64 g) := cell_blk (i := 0) B_f.out rfl
    have f1 : U2.cell? ⟨N_f, 1, none⟩ = some (.int .i64 c) := cell_blk (i := 1) B_f.out rfl
    go_wp2_with fail
    refine (hFw.out U2 HBel.out).mono ?_
    rintro e U3 ⟨rfl, hb9⟩
    clear f0 f1
    have hs9 := hb9.size
    replace HBel := Lib.hid (HBel.out.trans (hb9.mono hlow))
    replace B_f : Hid (U3.heap[N_f]? = some (.cells #[.int .i64 g, .int .i64 c] 24 (0, 0))) := Lib.hid ((hb9.block _ l_f).trans B_f.out)
    replace B_b : Hid (U3.heap[N_b]? = some (.cells #[.int .i64 X.q, .int .i64 X.n, .int .i64 X.S.g, .int .i64 X.S.c, .int .i64 X.S.mn, .int .i64 X.S.mx] 29 (0, 0))) := Lib.hid ((hb9.block _ l_b).trans B_b.out)
    replace l_f : N_f < U3.heap.size := by omega
    replace l_b : N_b < U3.heap.size := by omega
    replace hlow : w.heap.size ≤ U3.heap.size := by omega
    clear hb9 hs9
    have f0 : U3.cell? ⟨N_f, 0, none⟩ = some (.int .i64 g) := cell_blk (i := 0) B_f.out rfl
    have f1 : U3.cell? ⟨N_f, 1, none⟩ = some (.int .i64 c) := cell_blk (i := 1) B_f.out rfl
    go_wp2
    go_ret
    exact ⟨rfl, by rw [HB0.out]; exact HBel.out⟩
  have t4 : decide (1000000 < g) = false := decide_eq_false y4
  by_cases y5 : 1000000 < c
  · have t5 : decide (1000000 < c) = true := decide_eq_true y5
    clear hE hFi hfew hview hn70 hgc hmany hsl hs20 w0 v1 q1 lc1 mc1 wg wc q3 lc3 mc3 w4 hT w5 w6 v3 hn hm hm20 y0 y1 y2 y3 y4 y5
    obtain ⟨B0, hB0⟩ : ∃ B, B = w.heap.size := ⟨_, rfl⟩
    rw [← hB0]
    have HB0 := Lib.hid hB0
    clear hB0
    have HBel := Lib.hid (Below.refl w.heap.size w)
    have hlow : w.heap.size ≤ w.heap.size := Nat.le_refl _
    go_enter Tryd.func5, Tryd.ntmps5
    go_wp2_with fail
    obtain ⟨V1, hV1⟩ : ∃ W, W = (w.alloc (.cells #[.int .i64 g, .int .i64 c] 24)).alloc (.cells #[.int .i64 X.q, .int .i64 X.n, .int .i64 X.S.g, .int .i64 X.S.c, .int .i64 X.S.mn, .int .i64 X.S.mx] 29) := ⟨_, rfl⟩
    rw [← hV1]
    have hzV1 : V1.heap.size = w.heap.size + 1 + 1 := by rw [hV1]; simp
    replace HBel : Hid (Below w.heap.size w V1) := Lib.hid (by rw [hV1]; exact ((HBel.out.alloc (hlow) _).alloc (by simp <;> omega) _))
    have B_f : Hid (V1.heap[w.heap.size]? = some (.cells #[.int .i64 g, .int .i64 c] 24 (0, 0))) := Lib.hid (by
      have h9 := heap_alloc_new (w) (.cells #[.int .i64 g, .int .i64 c] 24)
      rw [hV1]; exact ((Below.heap_alloc _ _ _ (by simp <;> omega)).trans h9))
    have B_b : Hid (V1.heap[w.heap.size + 1]? = some (.cells #[.int .i64 X.q, .int .i64 X.n, .int .i64 X.S.g, .int .i64 X.S.c, .int .i64 X.S.mn, .int .i64 X.S.mx] 29 (0, 0))) := Lib.hid (by
      have h9 := heap_alloc_new (w.alloc (.cells #[.int .i64 g, .int .i64 c] 24)) (.cells #[.int .i64 X.q, .int .i64 X.n, .int .i64 X.S.g, .int .i64 X.S.c, .int .i64 X.S.mn, .int .i64 X.S.mx] 29)
      rw [World.size_alloc] at h9
      rw [hV1]; exact h9)
    obtain ⟨N_f, hN_f⟩ : ∃ N, N = w.heap.size := ⟨_, rfl⟩
    obtain ⟨N_b, hN_b⟩ : ∃ N, N = w.heap.size + 1 := ⟨_, rfl⟩
    (try rw [← hN_b])
    rw [← hN_b] at B_b
    (try rw [← hN_f])
    rw [← hN_f] at B_f
    have l_f : N_f < V1.heap.size := by omega
    have l_b : N_b < V1.heap.size := by omega
    have g_f : w.heap.size ≤ N_f := by omega
    have g_b : w.heap.size ≤ N_b := by omega
    have d_f_b : N_f < N_b := by omega
    replace hlow : w.heap.size ≤ V1.heap.size := by omega
    clear hV1 hzV1 hN_f hN_b
    refine (hAw.out V1 (HT.out.below HBel.out HT.out.size)).mono ?_
    rintro e U2 ⟨rfl, hb9⟩
    have hs9 := hb9.size
    replace HBel := Lib.hid (HBel.out.trans (hb9.mono hlow))
    replace B_f : Hid (U2.heap[N_f]? = some (.cells #[.int .i64 g, .int .i64 c] 24 (0, 0))) := Lib.hid ((hb9.block _ l_f).trans B_f.out)
    replace B_b : Hid (U2.heap[N_b]? = some (.cells #[.int .i64 X.q, .int .i64 X.n, .int .i64 X.S.g, .int .i64 X.S.c, .int .i64 X.S.mn, .int .i64 X.S.mx] 29 (0, 0))) := Lib.hid ((hb9.block _ l_b).trans B_b.out)
    replace l_f : N_f < U2.heap.size := by omega
    replace l_b : N_b < U2.heap.size := by omega
    replace hlow : w.heap.size ≤ U2.heap.size := by omega
    clear hb9 hs9
    have f0 : U2.cell? ⟨N_f, 0, none⟩ = some (.int .i64 g) := cell_blk (i := 0) B_f.out rfl
    have f1 : U2.cell? ⟨N_f, 1, none⟩ = some (.int .i64 c) := cell_blk (i := 1) B_f.out rfl
    go_wp2_with fail
    refine (hFw.out U2 HBel.out).mono ?_
    rintro e U3 ⟨rfl, hb9⟩
    clear f0 f1
    have hs9 := hb9.size
    replace HBel := Lib.hid (HBel.out.trans (hb9.mono hlow))
    replace B_f : Hid (U3.heap[N_f]? = some (.cells #[.int .i64 g, .int .i64 c] 24 (0, 0))) := Lib.hid ((hb9.block _ l_f).trans B_f.out)
    replace B_b : Hid (U3.heap[N_b]? = some (.cells #[.int .i64 X.q, .int .i64 X.n, .int .i64 X.S.g, .int .i64 X.S.c, .int .i64 X.S.mn, .int .i64 X.S.mx] 29 (0, 0))) := Lib.hid ((hb9.block _ l_b).trans B_b.out)
    replace l_f : N_f < U3.heap.size := by omega
    replace l_b : N_b < U3.heap.size := by omega
    replace hlow : w.heap.size ≤ U3.heap.size := by omega
    clear hb9 hs9
    have f0 : U3.cell? ⟨N_f, 0, none⟩ = some (.int .i64 g) := cell_blk (i := 0) B_f.out rfl
    have f1 : U3.cell? ⟨N_f, 1, none⟩ = some (.int .i64 c) := cell_blk (i := 1) B_f.out rfl
    go_wp2
    go_ret
    exact ⟨rfl, by rw [HB0.out]; exact HBel.out⟩
  have t5 : decide (1000000 < c) = false := decide_eq_false y5
  obtain ⟨k, rfl⟩ : ∃ k : Nat, kk = k := ⟨kk.toNat, by omega⟩
  have hkm : k < m := by omega
  obtain ⟨x, hx⟩ := get_lt (l := l3) (k := k) (by omega)
  obtain ⟨sp1, sp2⟩ := split_at hx
  have hxm := List.mem_of_getElem? hx
  have hxu := bounds_i64 (q3 x hxm).u
  obtain ⟨u', hu'⟩ : ∃ u', u' = if -1000000 < x.u then x.u - bb else x.u := ⟨_, rfl⟩
  have hu2 : u' ≤ x.u ∧ -9223372036854775808 ≤ u' := by rw [hu']; split <;> omega
  have huw : (Lit.int .i64 u').wf = true := WalkArith.wf_i64 (by omega)
  have hEm := Lib.hid (fun W (hW : Below w.heap.size w W) => show Calls Tryd.prog 10 #[.int .i64 now, .slice a1 n c1, .agg #[.int .i64 (g + bb), .int .i64 (c + bb)], .slice a3 m c3, .agg #[.int .i64 X.q, .int .i64 X.n, .int .i64 X.S.g, .int .i64 X.S.c, .int .i64 X.S.mn, .int .i64 X.S.mx]] W (fun e w' => ∃ T E, e = .returned (.tuple #[.int .i64 T, .int .i64 E]) ∧ Earl now l1 (g + bb) (c + bb) l3 X T E ∧ Below W.heap.size W w') from by
    have h9 := pearliest_any now a1 c1 l1 (g + bb) (c + bb) a3 c3 l3 X W (v1.keep hW hW.size) hview (by omega) (v3.keep hW hW.size) q3 hmany (by omega) w4 (by omega) (by omega) (hT.below hW hT.size)
    rw [← hn, ← hm] at h9
    exact h9)
  obtain ⟨l4, hl4⟩ : ∃ l4, l4 = l3.set k { x with u := u' } := ⟨_, rfl⟩
  have hsl4 : sl l4 = sl l3 := by rw [hl4, sp2, sl_app]; conv => rhs; rw [sp1, sl_app]
                                  rfl
  have hm4 : ∀ y ∈ l4, HoOk y ∧ y.sl.length ≤ 1000 := fun y hy => by
    rw [hl4] at hy
    rcases List.mem_or_eq_of_mem_set hy with hy | hy
    · exact ⟨q3 y hy, hmany.s y hy⟩
    · subst hy
      have h8 := q3 x hxm
      exact ⟨⟨h8.q, huw, h8.l, h8.m, h8.ok⟩, hmany.s x hxm⟩
  have hlen4 : l4.length = m := by rw [hl4, List.length_set, hm]
  have hEe := Lib.hid (fun (A5 : Option Addr) (c5 : Nat) W (hW : Below w.heap.size w W) (h5 : Hos W W.heap.size A5 l4) => show Calls Tryd.prog 10 #[.int .i64 now, .slice a1 n c1, .agg #[.int .i64 g, .int .i64 c], .slice A5 m c5, .agg #[.int .i64 X.q, .int .i64 X.n, .int .i64 X.S.g, .int .i64 X.S.c, .int .i64 X.S.mn, .int .i64 X.S.mx]] W (fun e w' => ∃ T E, e = .returned (.tuple #[.int .i64 T, .int .i64 E]) ∧ Earl now l1 g c l4 X T E ∧ Below W.heap.size W w') from by
    have h9 := pearliest_any now a1 c1 l1 g c A5 c5 l4 X W (v1.keep hW hW.size) hview (by omega) ⟨h5, fun y hy => by
      rw [hl4] at hy
      rcases List.mem_or_eq_of_mem_set hy with hy | hy
      · exact (v3.sl y hy).keep hW hW.size
      · subst hy; exact (v3.sl x hxm).keep hW hW.size⟩ (fun y hy => (hm4 y hy).1) ⟨by omega, fun y hy => (hm4 y hy).2⟩ (by rw [hsl4]; omega) w4 (by omega) (by omega) (hT.below hW hT.size)
    rw [hlen4, ← hn] at h9
    exact h9)
  obtain ⟨l5, hl5⟩ : ∃ l5, l5 = l3.take k ++ l3.drop (k + 1) := ⟨_, rfl⟩
  have hsub5 : ∀ y ∈ l5, y ∈ l3 := fun y hy => by
    rw [hl5] at hy
    rcases List.mem_append.1 hy with hy | hy
    · exact List.mem_of_mem_take hy
    · exact List.mem_of_mem_drop hy
  have hlen5 : l5.length = m - 1 := by rw [hl5, List.length_append, List.length_take, List.length_drop]; omega
  have hsl5 : (sl l5).length ≤ (sl l3).length := by
    rw [hl5, sl_app]; conv => rhs; rw [sp1, sl_app]
    rw [List.length_append, List.length_append]
    have : sl (x :: l3.drop (k + 1)) = x.sl ++ sl (l3.drop (k + 1)) := by simp [sl]
    rw [this, List.length_append]; omega
  obtain ⟨lv9, hlv9⟩ : ∃ lv9, lv9 = (turnL moreC l1 x.sl).2 := ⟨_, rfl⟩
  have hMo := Lib.hid (fun (hz : (turnL moreC l1 x.sl).1 = 0) W (hW : Below w.heap.size w W) => show Calls Tryd.prog 15 #[.slice a1 n c1, .slice x.A x.sl.length x.c] W (fun e w' => ∃ A' c', e = .returned (.tuple #[.slice A' n c', .int .i64 0]) ∧ Hid (Fes w' w'.heap.size A' lv9 ∧ lv9.length = n ∧ View lv9) ∧ Below W.heap.size W w') from by
    have h9 := refmore05_any a1 c1 l1 x.A x.c x.sl W (v1.keep hW hW.size) hview (by omega) ((v3.sl x hxm).keep hW hW.size) (q3 x hxm).ok (by have := hs20 x hxm; omega)
    rw [← hn] at h9
    refine h9.mono ?_
    rintro e w' ⟨hb, A', c', hf, rfl⟩
    rw [hz]
    refine ⟨A', c', by rw [hn]; rfl, Lib.hid ?_, hb⟩
    rcases hf.out with hf | hf
    · rw [← hlv9, ← hn] at hf; exact hf
    · exact absurd hz hf)
  have hEr := Lib.hid (fun (A9 : Option Addr) (c9 : Nat) (A8 : Option Addr) (c8 : Nat) W (hW : Below w.heap.size w W) (h9 : Fes W W.heap.size A9 lv9) (hl9 : lv9.length = n) (hv9 : View lv9) (h8 : Hos W W.heap.size A8 l5) => show Calls Tryd.prog 10 #[.int .i64 now, .slice A9 n c9, .agg #[.int .i64 g, .int .i64 c], .slice A8 (m - 1) c8, .agg #[.int .i64 X.q, .int .i64 X.n, .int .i64 X.S.g, .int .i64 X.S.c, .int .i64 X.S.mn, .int .i64 X.S.mx]] W (fun e w' => ∃ T E, e = .returned (.tuple #[.int .i64 T, .int .i64 E]) ∧ Earl now lv9 g c l5 X T E ∧ Below W.heap.size W w') from by
    have h7 := pearliest_any now A9 c9 lv9 g c A8 c8 l5 X W h9 hv9 (by omega) ⟨h8, fun y hy => (v3.sl y (hsub5 y hy)).keep hW hW.size⟩ (fun y hy => q3 y (hsub5 y hy)) ⟨by omega, fun y hy => hmany.s y (hsub5 y hy)⟩ (by omega) w4 (by omega) (by omega) (hT.below hW hT.size)
    rw [hlen5, hl9] at h7
    exact h7)
  have H := Lib.hid (And.intro v3 (And.intro hm (And.intro hx (And.intro sp1 (And.intro sp2 (And.intro hview (And.intro hl4 (And.intro hsl4 (And.intro hl5 (And.intro hlv9 (And.intro hu2.1 hxm)))))))))))
  have hm20' : m ≤ 20 := by omega
  have bg : -1048576 ≤ g ∧ g ≤ 1000000 := by omega
  have bc : -1048576 ≤ c ∧ c ≤ 1000000 := by omega
  have bbb : 0 ≤ bb ∧ bb ≤ 1000 := by omega
  have HU := Lib.hid hu'
  have c3m : m ≤ c3 ∧ c3 ≤ maxLen := ⟨by omega, mc3⟩
  clear hfew hview hn70 hgc hmany hsl hs20 w0 v1 q1 lc1 mc1 wg wc q3 lc3 mc3 w4 hT v3 hn hm hm20 sp1 sp2 hxm hu' hu2 huw hl4 hsl4 hm4 hlen4 hl5 hsub5 hlen5 hsl5 hlv9 hx y0 y1 y2 y3 y4 y5 hFi
  obtain ⟨B0, hB0⟩ : ∃ B, B = w.heap.size := ⟨_, rfl⟩
  rw [← hB0]
  have HB0 := Lib.hid hB0
  clear hB0
  have HBel := Lib.hid (Below.refl w.heap.size w)
  have hlow : w.heap.size ≤ w.heap.size := Nat.le_refl _
  go_enter Tryd.func5, Tryd.ntmps5
  go_wp2_with fail
  obtain ⟨V1, hV1⟩ : ∃ W, W = (w.alloc (.cells #[.int .i64 g, .int .i64 c] 24)).alloc (.cells #[.int .i64 X.q, .int .i64 X.n, .int .i64 X.S.g, .int .i64 X.S.c, .int .i64 X.S.mn, .int .i64 X.S.mx] 29) := ⟨_, rfl⟩
  rw [← hV1]
  have hzV1 : V1.heap.size = w.heap.size + 1 + 1 := by rw [hV1]; simp
  replace HBel : Hid (Below w.heap.size w V1) := Lib.hid (by rw [hV1]; exact ((HBel.out.alloc (hlow) _).alloc (by simp <;> omega) _))
  have B_f : Hid (V1.heap[w.heap.size]? = some (.cells #[.int .i64 g, .int .i64 c] 24 (0, 0))) := Lib.hid (by
    have h9 := heap_alloc_new (w) (.cells #[.int .i64 g, .int .i64 c] 24)
    rw [hV1]; exact ((Below.heap_alloc _ _ _ (by simp <;> omega)).trans h9))
  have B_b : Hid (V1.heap[w.heap.size + 1]? = some (.cells #[.int .i64 X.q, .int .i64 X.n, .int .i64 X.S.g, .int .i64 X.S.c, .int .i64 X.S.mn, .int .i64 X.S.mx] 29 (0, 0))) := Lib.hid (by
    have h9 := heap_alloc_new (w.alloc (.cells #[.int .i64 g, .int .i64 c] 24)) (.cells #[.int .i64 X.q, .int .i64 X.n, .int .i64 X.S.g, .int .i64 X.S.c, .int .i64 X.S.mn, .int .i64 X.S.mx] 29)
    rw [World.size_alloc] at h9
    rw [hV1]; exact h9)
  obtain ⟨N_f, hN_f⟩ : ∃ N, N = w.heap.size := ⟨_, rfl⟩
  obtain ⟨N_b, hN_b⟩ : ∃ N, N = w.heap.size + 1 := ⟨_, rfl⟩
  (try rw [← hN_b])
  rw [← hN_b] at B_b
  (try rw [← hN_f])
  rw [← hN_f] at B_f
  have l_f : N_f < V1.heap.size := by omega
  have l_b : N_b < V1.heap.size := by omega
  have g_f : w.heap.size ≤ N_f := by omega
  have g_b : w.heap.size ≤ N_b := by omega
  have d_f_b : N_f < N_b := by omega
  replace hlow : w.heap.size ≤ V1.heap.size := by omega
  clear hV1 hzV1 hN_f hN_b
  refine (hAw.out V1 (HT.out.below HBel.out HT.out.size)).mono ?_
  rintro e U2 ⟨rfl, hb9⟩
  have hs9 := hb9.size
  replace HBel := Lib.hid (HBel.out.trans (hb9.mono hlow))
  replace B_f : Hid (U2.heap[N_f]? = some (.cells #[.int .i64 g, .int .i64 c] 24 (0, 0))) := Lib.hid ((hb9.block _ l_f).trans B_f.out)
  replace B_b : Hid (U2.heap[N_b]? = some (.cells #[.int .i64 X.q, .int .i64 X.n, .int .i64 X.S.g, .int .i64 X.S.c, .int .i64 X.S.mn, .int .i64 X.S.mx] 29 (0, 0))) := Lib.hid ((hb9.block _ l_b).trans B_b.out)
  replace l_f : N_f < U2.heap.size := by omega
  replace l_b : N_b < U2.heap.size := by omega
  replace hlow : w.heap.size ≤ U2.heap.size := by omega
  clear hb9 hs9
  have f0 : U2.cell? ⟨N_f, 0, none⟩ = some (.int .i64 g) := cell_blk (i := 0) B_f.out rfl
  have f1 : U2.cell? ⟨N_f, 1, none⟩ = some (.int .i64 c) := cell_blk (i := 1) B_f.out rfl
  go_wp2_with fail
  refine (hFw.out U2 HBel.out).mono ?_
  rintro e U3 ⟨rfl, hb9⟩
  clear f0 f1
  have hs9 := hb9.size
  replace HBel := Lib.hid (HBel.out.trans (hb9.mono hlow))
  replace B_f : Hid (U3.heap[N_f]? = some (.cells #[.int .i64 g, .int .i64 c] 24 (0, 0))) := Lib.hid ((hb9.block _ l_f).trans B_f.out)
  replace B_b : Hid (U3.heap[N_b]? = some (.cells #[.int .i64 X.q, .int .i64 X.n, .int .i64 X.S.g, .int .i64 X.S.c, .int .i64 X.S.mn, .int .i64 X.S.mx] 29 (0, 0))) := Lib.hid ((hb9.block _ l_b).trans B_b.out)
  replace l_f : N_f < U3.heap.size := by omega
  replace l_b : N_b < U3.heap.size := by omega
  replace hlow : w.heap.size ≤ U3.heap.size := by omega
  clear hb9 hs9
  have f0 : U3.cell? ⟨N_f, 0, none⟩ = some (.int .i64 g) := cell_blk (i := 0) B_f.out rfl
  have f1 : U3.cell? ⟨N_f, 1, none⟩ = some (.int .i64 c) := cell_blk (i := 1) B_f.out rfl
  have b0 : U3.cell? ⟨N_b, 0, none⟩ = some (.int .i64 X.q) := cell_blk (i := 0) B_b.out rfl
  have b1 : U3.cell? ⟨N_b, 1, none⟩ = some (.int .i64 X.n) := cell_blk (i := 1) B_b.out rfl
  have b2 : U3.cell? ⟨N_b, 2, none⟩ = some (.int .i64 X.S.g) := cell_blk (i := 2) B_b.out rfl
  have b3 : U3.cell? ⟨N_b, 3, none⟩ = some (.int .i64 X.S.c) := cell_blk (i := 3) B_b.out rfl
  have b4 : U3.cell? ⟨N_b, 4, none⟩ = some (.int .i64 X.S.mn) := cell_blk (i := 4) B_b.out rfl
  have b5 : U3.cell? ⟨N_b, 5, none⟩ = some (.int .i64 X.S.mx) := cell_blk (i := 5) B_b.out rfl
  go_wp2_with fail
  refine (hE.out U3 HBel.out).mono ?_
  rintro e U4 ⟨T, E, rfl, hEr1, hb9⟩
  clear f0 f1 b0 b1 b2 b3 b4 b5
  have hs9 := hb9.size
  have HE1 := Lib.hid hEr1
  clear hEr1
  replace HBel := Lib.hid (HBel.out.trans (hb9.mono hlow))
  replace B_f : Hid (U4.heap[N_f]? = some (.cells #[.int .i64 g, .int .i64 c] 24 (0, 0))) := Lib.hid ((hb9.block _ l_f).trans B_f.out)
  replace B_b : Hid (U4.heap[N_b]? = some (.cells #[.int .i64 X.q, .int .i64 X.n, .int .i64 X.S.g, .int .i64 X.S.c, .int .i64 X.S.mn, .int .i64 X.S.mx] 29 (0, 0))) := Lib.hid ((hb9.block _ l_b).trans B_b.out)
  replace l_f : N_f < U4.heap.size := by omega
  replace l_b : N_b < U4.heap.size := by omega
  replace hlow : w.heap.size ≤ U4.heap.size := by omega
  clear hb9 hs9
  by_cases hE0 : E ≠ 0
  · have u1 : (E != 0) = true := by simpa using hE0
    clear hE0
    have f0 : U4.cell? ⟨N_f, 0, none⟩ = some (.int .i64 g) := cell_blk (i := 0) B_f.out rfl
    have f1 : U4.cell? ⟨N_f, 1, none⟩ = some (.int .i64 c) := cell_blk (i := 1) B_f.out rfl
    have b0 : U4.cell? ⟨N_b, 0, none⟩ = some (.int .i64 X.q) := cell_blk (i := 0) B_b.out rfl
    have b1 : U4.cell? ⟨N_b, 1, none⟩ = some (.int .i64 X.n) := cell_blk (i := 1) B_b.out rfl
    have b2 : U4.cell? ⟨N_b, 2, none⟩ = some (.int .i64 X.S.g) := cell_blk (i := 2) B_b.out rfl
    have b3 : U4.cell? ⟨N_b, 3, none⟩ = some (.int .i64 X.S.c) := cell_blk (i := 3) B_b.out rfl
    have b4 : U4.cell? ⟨N_b, 4, none⟩ = some (.int .i64 X.S.mn) := cell_blk (i := 4) B_b.out rfl
    have b5 : U4.cell? ⟨N_b, 5, none⟩ = some (.int .i64 X.S.mx) := cell_blk (i := 5) B_b.out rfl
    go_wp2
    go_ret
    exact ⟨rfl, by rw [HB0.out]; exact HBel.out⟩
  obtain rfl : E = 0 := Classical.not_not.1 hE0
  obtain ⟨o1, o2, o3, o4, o5⟩ := HE1.out.ok
  have HZ := Lib.hid o4
  clear hE0 o1 o2 o3 o4 o5
  have f0 : U4.cell? ⟨N_f, 0, none⟩ = some (.int .i64 g) := cell_blk (i := 0) B_f.out rfl
  have f1 : U4.cell? ⟨N_f, 1, none⟩ = some (.int .i64 c) := cell_blk (i := 1) B_f.out rfl
  have b0 : U4.cell? ⟨N_b, 0, none⟩ = some (.int .i64 X.q) := cell_blk (i := 0) B_b.out rfl
  have b1 : U4.cell? ⟨N_b, 1, none⟩ = some (.int .i64 X.n) := cell_blk (i := 1) B_b.out rfl
  have b2 : U4.cell? ⟨N_b, 2, none⟩ = some (.int .i64 X.S.g) := cell_blk (i := 2) B_b.out rfl
  have b3 : U4.cell? ⟨N_b, 3, none⟩ = some (.int .i64 X.S.c) := cell_blk (i := 3) B_b.out rfl
  have b4 : U4.cell? ⟨N_b, 4, none⟩ = some (.int .i64 X.S.mn) := cell_blk (i := 4) B_b.out rfl
  have b5 : U4.cell? ⟨N_b, 5, none⟩ = some (.int .i64 X.S.mx) := cell_blk (i := 5) B_b.out rfl
  go_wp2_with fail
  clear f0 f1 b0 b1 b2 b3 b4 b5
  obtain ⟨V5, hV5⟩ : ∃ W, W = U4.alloc (.cells #[.int .i64 (g + bb), .int .i64 (c + bb)] 24) := ⟨_, rfl⟩
  rw [← hV5]
  have hzV5 : V5.heap.size = U4.heap.size + 1 := by rw [hV5]; simp
  replace HBel : Hid (Below w.heap.size w V5) := Lib.hid (by rw [hV5]; exact (HBel.out.alloc (hlow) _))
  replace B_f : Hid (V5.heap[N_f]? = some (.cells #[.int .i64 g, .int .i64 c] 24 (0, 0))) := Lib.hid (by rw [hV5]; exact ((Below.heap_alloc _ _ _ (by first | omega | (simp <;> omega))).trans B_f.out))
  replace B_b : Hid (V5.heap[N_b]? = some (.cells #[.int .i64 X.q, .int .i64 X.n, .int .i64 X.S.g, .int .i64 X.S.c, .int .i64 X.S.mn, .int .i64 X.S.mx] 29 (0, 0))) := Lib.hid (by rw [hV5]; exact ((Below.heap_alloc _ _ _ (by first | omega | (simp <;> omega))).trans B_b.out))
  have B_m : Hid (V5.heap[U4.heap.size]? = some (.cells #[.int .i64 (g + bb), .int .i64 (c + bb)] 24 (0, 0))) := Lib.hid (by
    have h9 := heap_alloc_new (U4) (.cells #[.int .i64 (g + bb), .int .i64 (c + bb)] 24)
    rw [hV5]; exact h9)
  obtain ⟨N_m, hN_m⟩ : ∃ N, N = U4.heap.size := ⟨_, rfl⟩
  (try rw [← hN_m])
  rw [← hN_m] at B_m
  have d_f_m : N_f < N_m := by omega
  have d_b_m : N_b < N_m := by omega
  replace l_f : N_f < V5.heap.size := by omega
  replace l_b : N_b < V5.heap.size := by omega
  have l_m : N_m < V5.heap.size := by omega
  have g_m : w.heap.size ≤ N_m := by omega
  replace hlow : w.heap.size ≤ V5.heap.size := by omega
  clear hV5 hzV5 hN_m
  refine (hEm.out V5 HBel.out).mono ?_
  rintro e U6 ⟨Ta, Ea, rfl, hEr2, hb9⟩
  have hs9 := hb9.size
  obtain ⟨rfl, hle2⟩ := Earl_le HE1.out hEr2 HZ.out (fun t ht => at_more (by omega) (by omega) ht)
  have v2 : decide (T < Ta) = false := decide_eq_false (by omega)
  clear hEr2 hle2
  replace HBel := Lib.hid (HBel.out.trans (hb9.mono hlow))
  replace B_f : Hid (U6.heap[N_f]? = some (.cells #[.int .i64 g, .int .i64 c] 24 (0, 0))) := Lib.hid ((hb9.block _ l_f).trans B_f.out)
  replace B_b : Hid (U6.heap[N_b]? = some (.cells #[.int .i64 X.q, .int .i64 X.n, .int .i64 X.S.g, .int .i64 X.S.c, .int .i64 X.S.mn, .int .i64 X.S.mx] 29 (0, 0))) := Lib.hid ((hb9.block _ l_b).trans B_b.out)
  replace B_m : Hid (U6.heap[N_m]? = some (.cells #[.int .i64 (g + bb), .int .i64 (c + bb)] 24 (0, 0))) := Lib.hid ((hb9.block _ l_m).trans B_m.out)
  replace l_f : N_f < U6.heap.size := by omega
  replace l_b : N_b < U6.heap.size := by omega
  replace l_m : N_m < U6.heap.size := by omega
  replace hlow : w.heap.size ≤ U6.heap.size := by omega
  clear hb9 hs9
  have f0 : U6.cell? ⟨N_f, 0, none⟩ = some (.int .i64 g) := cell_blk (i := 0) B_f.out rfl
  have f1 : U6.cell? ⟨N_f, 1, none⟩ = some (.int .i64 c) := cell_blk (i := 1) B_f.out rfl
  have b0 : U6.cell? ⟨N_b, 0, none⟩ = some (.int .i64 X.q) := cell_blk (i := 0) B_b.out rfl
  have b1 : U6.cell? ⟨N_b, 1, none⟩ = some (.int .i64 X.n) := cell_blk (i := 1) B_b.out rfl
  have b2 : U6.cell? ⟨N_b, 2, none⟩ = some (.int .i64 X.S.g) := cell_blk (i := 2) B_b.out rfl
  have b3 : U6.cell? ⟨N_b, 3, none⟩ = some (.int .i64 X.S.c) := cell_blk (i := 3) B_b.out rfl
  have b4 : U6.cell? ⟨N_b, 4, none⟩ = some (.int .i64 X.S.mn) := cell_blk (i := 4) B_b.out rfl
  have b5 : U6.cell? ⟨N_b, 5, none⟩ = some (.int .i64 X.S.mx) := cell_blk (i := 5) B_b.out rfl
  obtain ⟨i0, hi0, hz0, hz1, hz2⟩ := info_parts info_ho
  obtain ⟨S2, hS2⟩ : ∃ S, S = U6.heap.size := ⟨_, rfl⟩
  have hbS : N_b < S2 := by omega
  have hfS : N_f < S2 := by omega
  have hwS : w.heap.size ≤ S2 := by omega
  have HS2 := Lib.hid hS2
  have HLn := Lib.hid (show l3.length = m from H.out.2.1.symm)
  obtain ⟨b3, off, ha3, hb3, hall⟩ := H.out.1.at_.at_ H.out.2.2.1
  subst ha3
  have HALL := Lib.hid hall
  clear hall hS2
  by_cases hbig : (-1000000 : Int) < x.u
  · have t7 : decide (x.u > -1000000) = true := decide_eq_true hbig
    have t7x : decide (-1000000 < x.u) = true := decide_eq_true hbig
    have j1 : (k : Int) < (m : Int) := by omega
    go_wp2_with (at_builtin; (refine wpList_append_els (C := hoC) (k := 5) _ rfl _ _ 25 rfl S2 41 i0 _ 56 Tryd.underlying25 hi0 hz0 hz1 hz2 rfl (by decide) (.slice (some ⟨U6.heap.size, 0, none⟩) 0 0) 0 [] rfl (World.ownsRow_lit U6 #[] 0 (by rw [HS2.out]; exact Nat.le_refl _) (by unfold maxLen; omega) rfl) w.heap.size (some ⟨b3, off, none⟩) c3 m l3 rfl (Els.keep H.out.1.at_ (HBel.out.alloc hlow _) (Nat.le_refl _)) HLn.out.symm hoC_len hoC_one (by unfold maxLen; omega) (by omega) (by rw [HS2.out]; simp) ?_; intro A5 c5 w5 own5 g5 k5; rw [Nat.zero_add] at own5 k5 ⊢; rw [List.nil_append] at own5; obtain ⟨ge, hge, hgS, hgl, _, hmc5, hmx5⟩ := own_some own5 (by omega); subst hge; have hcu := own_hold_cell own5 H.out.2.2.1 HLn.out; have hfz : w5.frozen? ⟨ge, k * 5 + 2, none⟩ = false := own_frz own5; have B5b := (grown_lit g5 l_b).trans B_b.out; have B5f := (grown_lit g5 l_f).trans B_f.out; have B6b := (Below.heap_setCell w5 ⟨ge, k * 5 + 2, none⟩ (.int .i64 (x.u - bb)) N_b (show N_b ≠ ge by omega)).trans B5b; have B6f := (Below.heap_setCell w5 ⟨ge, k * 5 + 2, none⟩ (.int .i64 (x.u - bb)) N_f (show N_f ≠ ge by omega)).trans B5f; have bE0 : (w5.setCell ⟨ge, k * 5 + 2, none⟩ (.int .i64 (x.u - bb))).cell? ⟨N_b, 0, none⟩ = some (.int .i64 X.q) := cell_blk (i := 0) B6b rfl; have bE1 : (w5.setCell ⟨ge, k * 5 + 2, none⟩ (.int .i64 (x.u - bb))).cell? ⟨N_b, 1, none⟩ = some (.int .i64 X.n) := cell_blk (i := 1) B6b rfl; have bE2 : (w5.setCell ⟨ge, k * 5 + 2, none⟩ (.int .i64 (x.u - bb))).cell? ⟨N_b, 2, none⟩ = some (.int .i64 X.S.g) := cell_blk (i := 2) B6b rfl; have bE3 : (w5.setCell ⟨ge, k * 5 + 2, none⟩ (.int .i64 (x.u - bb))).cell? ⟨N_b, 3, none⟩ = some (.int .i64 X.S.c) := cell_blk (i := 3) B6b rfl; have bE4 : (w5.setCell ⟨ge, k * 5 + 2, none⟩ (.int .i64 (x.u - bb))).cell? ⟨N_b, 4, none⟩ = some (.int .i64 X.S.mn) := cell_blk (i := 4) B6b rfl; have bE5 : (w5.setCell ⟨ge, k * 5 + 2, none⟩ (.int .i64 (x.u - bb))).cell? ⟨N_b, 5, none⟩ = some (.int .i64 X.S.mx) := cell_blk (i := 5) B6b rfl; have fE0 : (w5.setCell ⟨ge, k * 5 + 2, none⟩ (.int .i64 (x.u - bb))).cell? ⟨N_f, 0, none⟩ = some (.int .i64 g) := cell_blk (i := 0) B6f rfl; have fE1 : (w5.setCell ⟨ge, k * 5 + 2, none⟩ (.int .i64 (x.u - bb))).cell? ⟨N_f, 1, none⟩ = some (.int .i64 c) := cell_blk (i := 1) B6f rfl))
    obtain ⟨W3, hW3⟩ : ∃ W, W = (w5.setCell ⟨ge, k * 5 + 2, none⟩ (.int .i64 (x.u - bb))) := ⟨_, rfl⟩
    (try rw [← hW3])
    have hz3 : W3.heap.size = w5.heap.size := by rw [hW3]; simp
    have hzU : U6.heap.size < w5.heap.size := by have := g5.size; rw [World.size_alloc] at this; omega
    replace HBel : Hid (Below w.heap.size w W3) := Lib.hid (by rw [hW3]; exact (grown_below HBel.out g5).setCell (show w.heap.size ≤ ge by omega) _)
    replace B_b : Hid (W3.heap[N_b]? = some (.cells #[.int .i64 X.q, .int .i64 X.n, .int .i64 X.S.g, .int .i64 X.S.c, .int .i64 X.S.mn, .int .i64 X.S.mx] 29 (0, 0))) := Lib.hid (by rw [hW3]; exact B6b)
    replace B_f : Hid (W3.heap[N_f]? = some (.cells #[.int .i64 g, .int .i64 c] 24 (0, 0))) := Lib.hid (by rw [hW3]; exact B6f)
    replace l_b : N_b < W3.heap.size := by omega
    replace l_f : N_f < W3.heap.size := by omega
    replace hlow : w.heap.size ≤ W3.heap.size := by omega
    have hOw := own_until (x.u - bb) own5 H.out.2.2.1
    have hu9 : u' = x.u - bb := by rw [HU.out, if_pos hbig]
    rw [← hu9, ← H.out.2.2.2.2.2.2.1, hu9, ← hW3] at hOw
    have hHo : Hos W3 W3.heap.size (some ⟨ge, 0, none⟩) l4 := own_hos hOw (by rw [H.out.2.2.2.2.2.2.1, List.length_set]; exact HLn.out)
    have hEW := Lib.hid (hEe.out (some ⟨ge, 0, none⟩) c5 W3 HBel.out hHo)
    clear hOw hHo hu9 own5 g5 k5 hcu hfz B5b B5f B6b B6f bE0 bE1 bE2 bE3 bE4 bE5 fE0 fE1 hW3 hz3 hzU hgS hgl hmc5 hmx5 t7 t7x
    refine (hEW.out).mono ?_
    rintro e U7 ⟨Tb, Eb, rfl, hEr3, hb9⟩
    have hs9 := hb9.size
    obtain ⟨rfl, hle3⟩ := Earl_le HE1.out hEr3 (by rw [H.out.2.2.2.2.2.2.2.1]; exact HZ.out) (fun t ht => by have h8 := H.out.2.2.2.1; have h7 := HZ.out; rw [h8] at ht h7; rw [H.out.2.2.2.2.2.2.1, H.out.2.2.2.2.1]; exact at_early H.out.2.2.2.2.2.1 H.out.2.2.2.2.2.2.2.2.2.2.1 h7 ht)
    have v3 : decide (T < Tb) = false := decide_eq_false (by omega)
    clear hEr3 hle3
    replace HBel := Lib.hid (HBel.out.trans (hb9.mono hlow))
    replace B_f : Hid (U7.heap[N_f]? = some (.cells #[.int .i64 g, .int .i64 c] 24 (0, 0))) := Lib.hid ((hb9.block _ l_f).trans B_f.out)
    replace B_b : Hid (U7.heap[N_b]? = some (.cells #[.int .i64 X.q, .int .i64 X.n, .int .i64 X.S.g, .int .i64 X.S.c, .int .i64 X.S.mn, .int .i64 X.S.mx] 29 (0, 0))) := Lib.hid ((hb9.block _ l_b).trans B_b.out)
    replace l_f : N_f < U7.heap.size := by omega
    replace l_b : N_b < U7.heap.size := by omega
    replace hlow : w.heap.size ≤ U7.heap.size := by omega
    clear hb9 hs9
    clear hEW
    have hz9 := turn_one (lv := l1) (x := x) (a := l3.take k) (b := l3.drop (k + 1)) (by rw [← H.out.2.2.2.1]; exact HZ.out)
    have HZ9 := Lib.hid hz9
    clear hz9
    have h4 : U7.cell? ⟨b3, off + k * 5 + 4, none⟩ = some (.slice x.A x.sl.length x.c) := ((HALL.out k x H.out.2.2.1).keep hb3 HBel.out) 4 _ rfl
    have f0 : U7.cell? ⟨N_f, 0, none⟩ = some (.int .i64 g) := cell_blk (i := 0) B_f.out rfl
    have f1 : U7.cell? ⟨N_f, 1, none⟩ = some (.int .i64 c) := cell_blk (i := 1) B_f.out rfl
    have b0 : U7.cell? ⟨N_b, 0, none⟩ = some (.int .i64 X.q) := cell_blk (i := 0) B_b.out rfl
    have b1 : U7.cell? ⟨N_b, 1, none⟩ = some (.int .i64 X.n) := cell_blk (i := 1) B_b.out rfl
    have b2 : U7.cell? ⟨N_b, 2, none⟩ = some (.int .i64 X.S.g) := cell_blk (i := 2) B_b.out rfl
    have b3 : U7.cell? ⟨N_b, 3, none⟩ = some (.int .i64 X.S.c) := cell_blk (i := 3) B_b.out rfl
    have b4 : U7.cell? ⟨N_b, 4, none⟩ = some (.int .i64 X.S.mn) := cell_blk (i := 4) B_b.out rfl
    have b5 : U7.cell? ⟨N_b, 5, none⟩ = some (.int .i64 X.S.mx) := cell_blk (i := 5) B_b.out rfl
    go_wp2_with fail
    refine (hMo.out HZ9.out.1 U7 HBel.out).mono ?_
    rintro e U8 ⟨A9, c9, rfl, hF9, hb9⟩
    clear f0 f1 b0 b1 b2 b3 b4 b5
    have hs9 := hb9.size
    have HF9 := Lib.hid hF9.out
    clear hF9 h4
    replace HBel := Lib.hid (HBel.out.trans (hb9.mono hlow))
    replace B_f : Hid (U8.heap[N_f]? = some (.cells #[.int .i64 g, .int .i64 c] 24 (0, 0))) := Lib.hid ((hb9.block _ l_f).trans B_f.out)
    replace B_b : Hid (U8.heap[N_b]? = some (.cells #[.int .i64 X.q, .int .i64 X.n, .int .i64 X.S.g, .int .i64 X.S.c, .int .i64 X.S.mn, .int .i64 X.S.mx] 29 (0, 0))) := Lib.hid ((hb9.block _ l_b).trans B_b.out)
    replace l_f : N_f < U8.heap.size := by omega
    replace l_b : N_b < U8.heap.size := by omega
    replace hlow : w.heap.size ≤ U8.heap.size := by omega
    clear hb9 hs9
    have rx9 := Lib.hid HF9.out
    obtain ⟨S4, hS4⟩ : ∃ S, S = U8.heap.size := ⟨_, rfl⟩
    have hbS4 : N_b < S4 := by omega
    have hfS4 : N_f < S4 := by omega
    have hwS4 : w.heap.size ≤ S4 := by omega
    have hkc : k ≤ c3 := by omega
    have hk1 : k + 1 ≤ m := by omega
    have wk1 : IntKind.i64.wrap ((k : Int) + 1) = (k : Int) + 1 := IntWalk.i64_in _ (by omega)
    go_wp2_with fail
    refine held_begin (fun _ : World => True) (by kernel_rfl) ?_
    refine held_take (v := ?_) 1 148 rfl rfl (by kernel_rfl) (by kernel_rfl) (by kernel_rfl) (fun _ _ _ h => h) ⟨by rfl, ?_⟩ trivial ?_
    rotate_left
    · intro w' _; go_simp; (try with_reducible rfl)
    simp only [Act.put, List.setIfInBounds_toArray, List.set_cons_zero, List.set_cons_succ]
    refine held_take (v := ?_) 2 149 rfl rfl (by kernel_rfl) (by kernel_rfl) (by kernel_rfl) (fun _ _ _ h => h) ⟨by rfl, ?_⟩ trivial ?_
    rotate_left
    · intro w' _; go_simp; (try with_reducible rfl)
    simp only [Act.put, List.setIfInBounds_toArray, List.set_cons_zero, List.set_cons_succ]
    refine held_take (v := ?_) 3 150 rfl rfl (by kernel_rfl) (by kernel_rfl) (by kernel_rfl) (fun _ _ _ h => h) ⟨by rfl, ?_⟩ trivial ?_
    rotate_left
    · intro w' _; refine Eq.trans (run_hold_to (k := k) (by rfl) (by rfl) (by rfl) hkc) ?_; (with_reducible rfl)
    simp only [Act.put, List.setIfInBounds_toArray, List.set_cons_zero, List.set_cons_succ]
    refine held_take (v := ?_) 5 152 rfl rfl (by kernel_rfl) (by kernel_rfl) (by kernel_rfl) (fun _ _ _ h => h) ⟨by rfl, ?_⟩ trivial ?_
    rotate_left
    · intro w' _; go_simp; (try with_reducible rfl)
    simp only [Act.put, List.setIfInBounds_toArray, List.set_cons_zero, List.set_cons_succ]
    refine held_take (v := ?_) 6 153 rfl rfl (by kernel_rfl) (by kernel_rfl) (by kernel_rfl) (fun _ _ _ h => h) ⟨by rfl, ?_⟩ trivial ?_
    rotate_left
    · intro w' _; go_simp; (try with_reducible rfl)
    simp only [Act.put, List.setIfInBounds_toArray, List.set_cons_zero, List.set_cons_succ]
    refine held_take (v := .int .i64 ((k + 1 : Nat) : Int)) 7 154 rfl rfl (by kernel_rfl) (by kernel_rfl) (by kernel_rfl) (fun _ _ _ h => h) ⟨by rfl, ?_⟩ trivial ?_
    · intro w' _; go_simp; (try (with_reducible rfl)); (try simp); (try exact wk1)
    simp only [Act.put, List.setIfInBounds_toArray, List.set_cons_zero, List.set_cons_succ]
    refine held_take (v := ?_) 8 155 rfl rfl (by kernel_rfl) (by kernel_rfl) (by kernel_rfl) (fun _ _ _ h => h) ⟨by rfl, ?_⟩ trivial ?_
    rotate_left
    · intro w' _; refine Eq.trans (run_hold_from (k := k + 1) (by rfl) (by rfl) (by rfl) hk1) ?_; (with_reducible rfl)
    simp only [Act.put, List.setIfInBounds_toArray, List.set_cons_zero, List.set_cons_succ]
    refine held_one 0 rfl (by kernel_rfl) (by rfl) (fun K hK => ?_)
    go_simp
    obtain ⟨W4, hW4⟩ : ∃ W, W = (U8.alloc (.cells #[] 41)).drew := ⟨_, rfl⟩
    (try rw [← hW4])
    refine hK.out _ _ trivial ?_
    clear hK K
    try simp only [Act.put, List.setIfInBounds_toArray, List.set_cons_zero, List.set_cons_succ]
    refine held_one 4 rfl (by kernel_rfl) (by rfl) (fun K hK => ?_)
    simp only [Go.wp_at_zero, Go.wp_at_succ]
    have hst4 : Below U8.heap.size U8 W4 := by rw [hW4]; exact ((Below.refl U8.heap.size U8).alloc (Nat.le_refl _) _).drew
    have hz4 : W4.heap.size = S4 + 1 := by rw [hW4, hS4]; show (U8.alloc (.cells #[] 41)).heap.size = _; rw [World.size_alloc]
    have own0 : W4.ownsRow S4 41 5 (.slice (some ⟨S4, 0, none⟩) 0 0) 0 [] := by rw [hW4, hS4]; exact World.ownsRow_lit U8 #[] 0 (Nat.le_refl _) (by unfold maxLen; omega) rfl
    have hB4 : Below w.heap.size w W4 := HBel.out.trans (hst4.mono hlow)
    have hH4 := hos_to (H.out.1.keep hB4 (Nat.le_refl _)) k c3 (by rw [HLn.out]; omega)
    have hlk : (l3.take k).length = k := by rw [List.length_take, HLn.out]; omega
    have hAd : (Value.slice (some ⟨U8.heap.size, 0, none⟩) 0 0) = .slice (some ⟨S4, 0, none⟩) 0 0 := by rw [hS4]
    refine wp_append_els (C := hoC) (k := 5) _ _ _ 25 rfl S4 41 i0 _ 56 Tryd.underlying25 hi0 hz0 hz1 hz2 rfl (by decide) (.slice (some ⟨S4, 0, none⟩) 0 0) 0 [] (by first | rfl | (rw [hS4]; rfl)) own0 _ (atH (some ⟨b3, off, none⟩) 0 c3) c3 k (l3.take k) rfl hH4.at_ hlk.symm hoC_len hoC_one (by unfold maxLen; omega) (by omega) (by omega) ?_
    intro A6 c6 w7 own7 g7 k7
    rw [Nat.zero_add] at own7 k7 ⊢
    rw [List.nil_append] at own7
    have hB7 : Below w.heap.size w w7 := hB4.grown g7 (by omega) (fun i e => by have e : some S4 = some i := e; injection e with e; omega)
    have hs7 : S4 + 1 ≤ w7.heap.size := by have := g7.size; omega
    have bk7 : ∀ p, p < S4 → w7.heap[p]? = U8.heap[p]? := fun p hp => (g7.block p (by omega) (fun e => by have e : some p = some S4 := e; injection e with e; omega)).trans (hst4.block p (by omega))
    refine hK.out _ _ trivial ?_
    clear hK K
    try simp only [Act.put, List.setIfInBounds_toArray, List.set_cons_zero, List.set_cons_succ]
    refine held_one 9 rfl (by kernel_rfl) (by rfl) (fun K hK => ?_)
    simp only [Go.wp_at_zero, Go.wp_at_succ]
    have hH7 := hos_from (H.out.1.keep hB7 (Nat.le_refl _)) (k + 1) c3 (by rw [HLn.out]; omega)
    have hld : (l3.drop (k + 1)).length = m - (k + 1) := by rw [List.length_drop, HLn.out]
    refine wp_append_els (C := hoC) (k := 5) _ _ _ 25 rfl S4 41 i0 _ 56 Tryd.underlying25 hi0 hz0 hz1 hz2 rfl (by decide) (.slice A6 k c6) k ((l3.take k).flatMap hoC) rfl own7 _ (atH (some ⟨b3, off, none⟩) (k + 1) c3) (c3 - (k + 1)) (m - (k + 1)) (l3.drop (k + 1)) rfl hH7.at_ hld.symm hoC_len hoC_one (by unfold maxLen; omega) (by omega) (by omega) ?_
    intro A8 c8 w8 own8 g8 k8
    have hB8 : Hid (Below w.heap.size w w8) := Lib.hid (hB7.grown g8 (by omega) (fun i e => by have := (own7.lt i e).1; omega))
    have bk8 : ∀ p, p < S4 → w8.heap[p]? = U8.heap[p]? := fun p hp => (g8.block p (by omega) (fun e => by have := (own7.lt p e.symm).1; omega)).trans (bk7 p hp)
    have hs8 : S4 + 1 ≤ w8.heap.size := by have := g8.size; omega
    have hkm1 : k + (m - (k + 1)) = m - 1 := by omega
    have hR8 : Hid (Hos w8 w8.heap.size A8 l5) := Lib.hid (by rw [H.out.2.2.2.2.2.2.2.2.1]; exact own_hos (c := c8) (by rw [List.flatMap_append]; exact own8) (by rw [List.length_append, hlk, hld]))
    have BK := Lib.hid bk8
    rw [hkm1]
    refine hK.out _ _ trivial ?_
    clear hK K
    try simp only [Act.put, List.setIfInBounds_toArray, List.set_cons_zero, List.set_cons_succ]
    refine held_take (v := ?_) 10 25 rfl rfl (by kernel_rfl) (by kernel_rfl) (by kernel_rfl) (fun _ _ _ h => h) ⟨by rfl, ?_⟩ trivial ?_
    rotate_left
    · intro w' _; go_simp; (try with_reducible rfl)
    simp only [Act.put, List.setIfInBounds_toArray, List.set_cons_zero, List.set_cons_succ]
    refine wpAnyH_done (by kernel_rfl) ?_ _
    replace B_b : Hid (w8.heap[N_b]? = some (.cells #[.int .i64 X.q, .int .i64 X.n, .int .i64 X.S.g, .int .i64 X.S.c, .int .i64 X.S.mn, .int .i64 X.S.mx] 29 (0, 0))) := Lib.hid ((bk8 N_b hbS4).trans B_b.out)
    replace B_f : Hid (w8.heap[N_f]? = some (.cells #[.int .i64 g, .int .i64 c] 24 (0, 0))) := Lib.hid ((bk8 N_f hfS4).trans B_f.out)
    replace HBel := hB8
    replace l_b : N_b < w8.heap.size := by omega
    replace l_f : N_f < w8.heap.size := by omega
    replace hlow : w.heap.size ≤ w8.heap.size := by omega
    have hFr : Hid (Fes w8 w8.heap.size A9 lv9) := Lib.hid (HF9.out.1.imp (by omega) fun b o y hb hy => fe_moved (bk8 b (by omega)) hy)
    clear own0 hB4 hH4 hlk hAd own7 g7 k7 hB7 bk7 hH7 hld own8 g8 k8 bk8 hst4 hW4 hz4 hB8 hs7 hS4 BK
    have h1 : w8.cell? ⟨b3, off + k * 5 + 1, none⟩ = some (.int .i64 x.q) := ((HALL.out k x H.out.2.2.1).keep hb3 HBel.out) 1 _ rfl
    by_cases hqq : x.q = X.q
    · have u5 : (x.q == X.q) = true := by simpa using hqq
      clear hqq
      have f0 : w8.cell? ⟨N_f, 0, none⟩ = some (.int .i64 g) := cell_blk (i := 0) B_f.out rfl
      have f1 : w8.cell? ⟨N_f, 1, none⟩ = some (.int .i64 c) := cell_blk (i := 1) B_f.out rfl
      have b0 : w8.cell? ⟨N_b, 0, none⟩ = some (.int .i64 X.q) := cell_blk (i := 0) B_b.out rfl
      have b1 : w8.cell? ⟨N_b, 1, none⟩ = some (.int .i64 X.n) := cell_blk (i := 1) B_b.out rfl
      have b2 : w8.cell? ⟨N_b, 2, none⟩ = some (.int .i64 X.S.g) := cell_blk (i := 2) B_b.out rfl
      have b3 : w8.cell? ⟨N_b, 3, none⟩ = some (.int .i64 X.S.c) := cell_blk (i := 3) B_b.out rfl
      have b4 : w8.cell? ⟨N_b, 4, none⟩ = some (.int .i64 X.S.mn) := cell_blk (i := 4) B_b.out rfl
      have b5 : w8.cell? ⟨N_b, 5, none⟩ = some (.int .i64 X.S.mx) := cell_blk (i := 5) B_b.out rfl
      go_wp2
      go_quiet (fail)
      go_wp2
      go_ret
      exact ⟨rfl, by rw [HB0.out]; exact below_drewN HBel.out _⟩
    · have u5 : (x.q == X.q) = false := by simpa using hqq
      have HQ := Lib.hid hqq
      clear hqq
      have f0 : w8.cell? ⟨N_f, 0, none⟩ = some (.int .i64 g) := cell_blk (i := 0) B_f.out rfl
      have f1 : w8.cell? ⟨N_f, 1, none⟩ = some (.int .i64 c) := cell_blk (i := 1) B_f.out rfl
      have b0 : w8.cell? ⟨N_b, 0, none⟩ = some (.int .i64 X.q) := cell_blk (i := 0) B_b.out rfl
      have b1 : w8.cell? ⟨N_b, 1, none⟩ = some (.int .i64 X.n) := cell_blk (i := 1) B_b.out rfl
      have b2 : w8.cell? ⟨N_b, 2, none⟩ = some (.int .i64 X.S.g) := cell_blk (i := 2) B_b.out rfl
      have b3 : w8.cell? ⟨N_b, 3, none⟩ = some (.int .i64 X.S.c) := cell_blk (i := 3) B_b.out rfl
      have b4 : w8.cell? ⟨N_b, 4, none⟩ = some (.int .i64 X.S.mn) := cell_blk (i := 4) B_b.out rfl
      have b5 : w8.cell? ⟨N_b, 5, none⟩ = some (.int .i64 X.S.mx) := cell_blk (i := 5) B_b.out rfl
      go_wp2
      go_quiet (fail)
      obtain ⟨w9, hw9⟩ : ∃ W, W = w8.drewN nq := ⟨_, rfl⟩
      rw [← hw9]
      have hz9 : w9.heap = w8.heap := by rw [hw9]; rfl
      replace B_b : Hid (w9.heap[N_b]? = some (.cells #[.int .i64 X.q, .int .i64 X.n, .int .i64 X.S.g, .int .i64 X.S.c, .int .i64 X.S.mn, .int .i64 X.S.mx] 29 (0, 0))) := Lib.hid (by rw [hz9]; exact B_b.out)
      replace B_f : Hid (w9.heap[N_f]? = some (.cells #[.int .i64 g, .int .i64 c] 24 (0, 0))) := Lib.hid (by rw [hz9]; exact B_f.out)
      replace HBel : Hid (Below w.heap.size w w9) := Lib.hid (by rw [hw9]; exact below_drewN HBel.out _)
      replace l_b : N_b < w9.heap.size := by rw [hz9]; exact l_b
      replace l_f : N_f < w9.heap.size := by rw [hz9]; exact l_f
      replace hlow : w.heap.size ≤ w9.heap.size := by rw [hz9]; exact hlow
      have hEL := Lib.hid (hEr.out A9 c9 A8 c8 w9 HBel.out (by rw [hw9]; exact hFr.out) HF9.out.2.1 HF9.out.2.2 (by rw [hw9]; exact hR8.out))
      clear hw9 hz9
      skip
      have f0 : w9.cell? ⟨N_f, 0, none⟩ = some (.int .i64 g) := cell_blk (i := 0) B_f.out rfl
      have f1 : w9.cell? ⟨N_f, 1, none⟩ = some (.int .i64 c) := cell_blk (i := 1) B_f.out rfl
      have b0 : w9.cell? ⟨N_b, 0, none⟩ = some (.int .i64 X.q) := cell_blk (i := 0) B_b.out rfl
      have b1 : w9.cell? ⟨N_b, 1, none⟩ = some (.int .i64 X.n) := cell_blk (i := 1) B_b.out rfl
      have b2 : w9.cell? ⟨N_b, 2, none⟩ = some (.int .i64 X.S.g) := cell_blk (i := 2) B_b.out rfl
      have b3 : w9.cell? ⟨N_b, 3, none⟩ = some (.int .i64 X.S.c) := cell_blk (i := 3) B_b.out rfl
      have b4 : w9.cell? ⟨N_b, 4, none⟩ = some (.int .i64 X.S.mn) := cell_blk (i := 4) B_b.out rfl
      have b5 : w9.cell? ⟨N_b, 5, none⟩ = some (.int .i64 X.S.mx) := cell_blk (i := 5) B_b.out rfl
      go_wp2_with fail
      refine (hEL.out).mono ?_
      rintro e U9 ⟨Tc, Ec, rfl, hEr4, hb9⟩
      clear f0 f1 b0 b1 b2 b3 b4 b5
      have hs9 := hb9.size
      obtain ⟨rfl, hle4⟩ := Earl_le HE1.out hEr4 (by rw [H.out.2.2.2.2.2.2.2.2.1, H.out.2.2.2.2.2.2.2.2.2.1]; exact HZ9.out.2) (fun t ht => by have h8 := H.out.2.2.2.1; have h7 := HZ.out; rw [h8] at ht h7; rw [H.out.2.2.2.2.2.2.2.2.1, H.out.2.2.2.2.2.2.2.2.2.1]; exact (at_less HQ.out h7 ht).2.2)
      have v4 : decide (Tc ≤ T) = true := decide_eq_true hle4
      clear hEr4 hle4
      replace HBel := Lib.hid (HBel.out.trans (hb9.mono hlow))
      replace B_f : Hid (U9.heap[N_f]? = some (.cells #[.int .i64 g, .int .i64 c] 24 (0, 0))) := Lib.hid ((hb9.block _ l_f).trans B_f.out)
      replace B_b : Hid (U9.heap[N_b]? = some (.cells #[.int .i64 X.q, .int .i64 X.n, .int .i64 X.S.g, .int .i64 X.S.c, .int .i64 X.S.mn, .int .i64 X.S.mx] 29 (0, 0))) := Lib.hid ((hb9.block _ l_b).trans B_b.out)
      replace l_f : N_f < U9.heap.size := by omega
      replace l_b : N_b < U9.heap.size := by omega
      replace hlow : w.heap.size ≤ U9.heap.size := by omega
      clear hb9 hs9
      go_wp2
      go_ret
      exact ⟨by first | rfl | simp, by rw [HB0.out]; exact HBel.out⟩
  · have HU9 : Hid (u' = x.u) := Lib.hid (by rw [HU.out, if_neg hbig])
    have t7 : decide (x.u > -1000000) = false := decide_eq_false hbig
    have t7x : decide (-1000000 < x.u) = false := decide_eq_false hbig
    have j1 : (k : Int) < (m : Int) := by omega
    go_wp2_with (at_builtin; (refine wpList_append_els (C := hoC) (k := 5) _ rfl _ _ 25 rfl S2 41 i0 _ 56 Tryd.underlying25 hi0 hz0 hz1 hz2 rfl (by decide) (.slice (some ⟨U6.heap.size, 0, none⟩) 0 0) 0 [] rfl (World.ownsRow_lit U6 #[] 0 (by rw [HS2.out]; exact Nat.le_refl _) (by unfold maxLen; omega) rfl) w.heap.size (some ⟨b3, off, none⟩) c3 m l3 rfl (Els.keep H.out.1.at_ (HBel.out.alloc hlow _) (Nat.le_refl _)) HLn.out.symm hoC_len hoC_one (by unfold maxLen; omega) (by omega) (by rw [HS2.out]; simp) ?_; intro A5 c5 w5 own5 g5 k5; rw [Nat.zero_add] at own5 k5 ⊢; rw [List.nil_append] at own5; obtain ⟨ge, hge, hgS, hgl, _, hmc5, hmx5⟩ := own_some own5 (by omega); subst hge; have hcu := own_hold_cell own5 H.out.2.2.1 HLn.out; have hfz : w5.frozen? ⟨ge, k * 5 + 2, none⟩ = false := own_frz own5; have B5b := (grown_lit g5 l_b).trans B_b.out; have B5f := (grown_lit g5 l_f).trans B_f.out; have B6b := B5b; have B6f := B5f; have bE0 : w5.cell? ⟨N_b, 0, none⟩ = some (.int .i64 X.q) := cell_blk (i := 0) B6b rfl; have bE1 : w5.cell? ⟨N_b, 1, none⟩ = some (.int .i64 X.n) := cell_blk (i := 1) B6b rfl; have bE2 : w5.cell? ⟨N_b, 2, none⟩ = some (.int .i64 X.S.g) := cell_blk (i := 2) B6b rfl; have bE3 : w5.cell? ⟨N_b, 3, none⟩ = some (.int .i64 X.S.c) := cell_blk (i := 3) B6b rfl; have bE4 : w5.cell? ⟨N_b, 4, none⟩ = some (.int .i64 X.S.mn) := cell_blk (i := 4) B6b rfl; have bE5 : w5.cell? ⟨N_b, 5, none⟩ = some (.int .i64 X.S.mx) := cell_blk (i := 5) B6b rfl; have fE0 : w5.cell? ⟨N_f, 0, none⟩ = some (.int .i64 g) := cell_blk (i := 0) B6f rfl; have fE1 : w5.cell? ⟨N_f, 1, none⟩ = some (.int .i64 c) := cell_blk (i := 1) B6f rfl))
    obtain ⟨W3, hW3⟩ : ∃ W, W = w5 := ⟨_, rfl⟩
    skip
    rw [← hW3]
    have hz3 : W3.heap.size = w5.heap.size := by rw [hW3]
    have hzU : U6.heap.size < w5.heap.size := by have := g5.size; rw [World.size_alloc] at this; omega
    replace HBel : Hid (Below w.heap.size w W3) := Lib.hid (by rw [hW3]; exact grown_below HBel.out g5)
    replace B_b : Hid (W3.heap[N_b]? = some (.cells #[.int .i64 X.q, .int .i64 X.n, .int .i64 X.S.g, .int .i64 X.S.c, .int .i64 X.S.mn, .int .i64 X.S.mx] 29 (0, 0))) := Lib.hid (by rw [hW3]; exact B6b)
    replace B_f : Hid (W3.heap[N_f]? = some (.cells #[.int .i64 g, .int .i64 c] 24 (0, 0))) := Lib.hid (by rw [hW3]; exact B6f)
    replace l_b : N_b < W3.heap.size := by omega
    replace l_f : N_f < W3.heap.size := by omega
    replace hlow : w.heap.size ≤ W3.heap.size := by omega
    have hOw := own5
    have hu9 := HU9.out
    have hl9 : l4 = l3 := by rw [H.out.2.2.2.2.2.2.1, hu9, H.out.2.2.2.2.1]; exact H.out.2.2.2.1.symm
    rw [← hl9, ← hW3] at hOw
    have hHo : Hos W3 W3.heap.size (some ⟨ge, 0, none⟩) l4 := own_hos hOw (by rw [H.out.2.2.2.2.2.2.1, List.length_set]; exact HLn.out)
    have hEW := Lib.hid (hEe.out (some ⟨ge, 0, none⟩) c5 W3 HBel.out hHo)
    clear hOw hHo hu9 own5 g5 k5 hcu hfz B5b B5f B6b B6f bE0 bE1 bE2 bE3 bE4 bE5 fE0 fE1 hW3 hz3 hzU hgS hgl hmc5 hmx5 t7 t7x hl9
    refine (hEW.out).mono ?_
    rintro e U7 ⟨Tb, Eb, rfl, hEr3, hb9⟩
    have hs9 := hb9.size
    obtain ⟨rfl, hle3⟩ := Earl_le HE1.out hEr3 (by rw [H.out.2.2.2.2.2.2.2.1]; exact HZ.out) (fun t ht => by have h8 := H.out.2.2.2.1; have h7 := HZ.out; rw [h8] at ht h7; rw [H.out.2.2.2.2.2.2.1, H.out.2.2.2.2.1]; exact at_early H.out.2.2.2.2.2.1 H.out.2.2.2.2.2.2.2.2.2.2.1 h7 ht)
    have v3 : decide (T < Tb) = false := decide_eq_false (by omega)
    clear hEr3 hle3
    replace HBel := Lib.hid (HBel.out.trans (hb9.mono hlow))
    replace B_f : Hid (U7.heap[N_f]? = some (.cells #[.int .i64 g, .int .i64 c] 24 (0, 0))) := Lib.hid ((hb9.block _ l_f).trans B_f.out)
    replace B_b : Hid (U7.heap[N_b]? = some (.cells #[.int .i64 X.q, .int .i64 X.n, .int .i64 X.S.g, .int .i64 X.S.c, .int .i64 X.S.mn, .int .i64 X.S.mx] 29 (0, 0))) := Lib.hid ((hb9.block _ l_b).trans B_b.out)
    replace l_f : N_f < U7.heap.size := by omega
    replace l_b : N_b < U7.heap.size := by omega
    replace hlow : w.heap.size ≤ U7.heap.size := by omega
    clear hb9 hs9
    clear hEW
    have hz9 := turn_one (lv := l1) (x := x) (a := l3.take k) (b := l3.drop (k + 1)) (by rw [← H.out.2.2.2.1]; exact HZ.out)
    have HZ9 := Lib.hid hz9
    clear hz9
    have h4 : U7.cell? ⟨b3, off + k * 5 + 4, none⟩ = some (.slice x.A x.sl.length x.c) := ((HALL.out k x H.out.2.2.1).keep hb3 HBel.out) 4 _ rfl
    have f0 : U7.cell? ⟨N_f, 0, none⟩ = some (.int .i64 g) := cell_blk (i := 0) B_f.out rfl
    have f1 : U7.cell? ⟨N_f, 1, none⟩ = some (.int .i64 c) := cell_blk (i := 1) B_f.out rfl
    have b0 : U7.cell? ⟨N_b, 0, none⟩ = some (.int .i64 X.q) := cell_blk (i := 0) B_b.out rfl
    have b1 : U7.cell? ⟨N_b, 1, none⟩ = some (.int .i64 X.n) := cell_blk (i := 1) B_b.out rfl
    have b2 : U7.cell? ⟨N_b, 2, none⟩ = some (.int .i64 X.S.g) := cell_blk (i := 2) B_b.out rfl
    have b3 : U7.cell? ⟨N_b, 3, none⟩ = some (.int .i64 X.S.c) := cell_blk (i := 3) B_b.out rfl
    have b4 : U7.cell? ⟨N_b, 4, none⟩ = some (.int .i64 X.S.mn) := cell_blk (i := 4) B_b.out rfl
    have b5 : U7.cell? ⟨N_b, 5, none⟩ = some (.int .i64 X.S.mx) := cell_blk (i := 5) B_b.out rfl
    go_wp2_with fail
    refine (hMo.out HZ9.out.1 U7 HBel.out).mono ?_
    rintro e U8 ⟨A9, c9, rfl, hF9, hb9⟩
    clear f0 f1 b0 b1 b2 b3 b4 b5
    have hs9 := hb9.size
    have HF9 := Lib.hid hF9.out
    clear hF9 h4
    replace HBel := Lib.hid (HBel.out.trans (hb9.mono hlow))
    replace B_f : Hid (U8.heap[N_f]? = some (.cells #[.int .i64 g, .int .i64 c] 24 (0, 0))) := Lib.hid ((hb9.block _ l_f).trans B_f.out)
    replace B_b : Hid (U8.heap[N_b]? = some (.cells #[.int .i64 X.q, .int .i64 X.n, .int .i64 X.S.g, .int .i64 X.S.c, .int .i64 X.S.mn, .int .i64 X.S.mx] 29 (0, 0))) := Lib.hid ((hb9.block _ l_b).trans B_b.out)
    replace l_f : N_f < U8.heap.size := by omega
    replace l_b : N_b < U8.heap.size := by omega
    replace hlow : w.heap.size ≤ U8.heap.size := by omega
    clear hb9 hs9
    have rx9 := Lib.hid HF9.out
    obtain ⟨S4, hS4⟩ : ∃ S, S = U8.heap.size := ⟨_, rfl⟩
    have hbS4 : N_b < S4 := by omega
    have hfS4 : N_f < S4 := by omega
    have hwS4 : w.heap.size ≤ S4 := by omega
    have hkc : k ≤ c3 := by omega
    have hk1 : k + 1 ≤ m := by omega
    have wk1 : IntKind.i64.wrap ((k : Int) + 1) = (k : Int) + 1 := IntWalk.i64_in _ (by omega)
    go_wp2_with fail
    refine held_begin (fun _ : World => True) (by kernel_rfl) ?_
    refine held_take (v := ?_) 1 148 rfl rfl (by kernel_rfl) (by kernel_rfl) (by kernel_rfl) (fun _ _ _ h => h) ⟨by rfl, ?_⟩ trivial ?_
    rotate_left
    · intro w' _; go_simp; (try with_reducible rfl)
    simp only [Act.put, List.setIfInBounds_toArray, List.set_cons_zero, List.set_cons_succ]
    refine held_take (v := ?_) 2 149 rfl rfl (by kernel_rfl) (by kernel_rfl) (by kernel_rfl) (fun _ _ _ h => h) ⟨by rfl, ?_⟩ trivial ?_
    rotate_left
    · intro w' _; go_simp; (try with_reducible rfl)
    simp only [Act.put, List.setIfInBounds_toArray, List.set_cons_zero, List.set_cons_succ]
    refine held_take (v := ?_) 3 150 rfl rfl (by kernel_rfl) (by kernel_rfl) (by kernel_rfl) (fun _ _ _ h => h) ⟨by rfl, ?_⟩ trivial ?_
    rotate_left
    · intro w' _; refine Eq.trans (run_hold_to (k := k) (by rfl) (by rfl) (by rfl) hkc) ?_; (with_reducible rfl)
    simp only [Act.put, List.setIfInBounds_toArray, List.set_cons_zero, List.set_cons_succ]
    refine held_take (v := ?_) 5 152 rfl rfl (by kernel_rfl) (by kernel_rfl) (by kernel_rfl) (fun _ _ _ h => h) ⟨by rfl, ?_⟩ trivial ?_
    rotate_left
    · intro w' _; go_simp; (try with_reducible rfl)
    simp only [Act.put, List.setIfInBounds_toArray, List.set_cons_zero, List.set_cons_succ]
    refine held_take (v := ?_) 6 153 rfl rfl (by kernel_rfl) (by kernel_rfl) (by kernel_rfl) (fun _ _ _ h => h) ⟨by rfl, ?_⟩ trivial ?_
    rotate_left
    · intro w' _; go_simp; (try with_reducible rfl)
    simp only [Act.put, List.setIfInBounds_toArray, List.set_cons_zero, List.set_cons_succ]
    refine held_take (v := .int .i64 ((k + 1 : Nat) : Int)) 7 154 rfl rfl (by kernel_rfl) (by kernel_rfl) (by kernel_rfl) (fun _ _ _ h => h) ⟨by rfl, ?_⟩ trivial ?_
    · intro w' _; go_simp; (try (with_reducible rfl)); (try simp); (try exact wk1)
    simp only [Act.put, List.setIfInBounds_toArray, List.set_cons_zero, List.set_cons_succ]
    refine held_take (v := ?_) 8 155 rfl rfl (by kernel_rfl) (by kernel_rfl) (by kernel_rfl) (fun _ _ _ h => h) ⟨by rfl, ?_⟩ trivial ?_
    rotate_left
    · intro w' _; refine Eq.trans (run_hold_from (k := k + 1) (by rfl) (by rfl) (by rfl) hk1) ?_; (with_reducible rfl)
    simp only [Act.put, List.setIfInBounds_toArray, List.set_cons_zero, List.set_cons_succ]
    refine held_one 0 rfl (by kernel_rfl) (by rfl) (fun K hK => ?_)
    go_simp
    obtain ⟨W4, hW4⟩ : ∃ W, W = (U8.alloc (.cells #[] 41)).drew := ⟨_, rfl⟩
    (try rw [← hW4])
    refine hK.out _ _ trivial ?_
    clear hK K
    try simp only [Act.put, List.setIfInBounds_toArray, List.set_cons_zero, List.set_cons_succ]
    refine held_one 4 rfl (by kernel_rfl) (by rfl) (fun K hK => ?_)
    simp only [Go.wp_at_zero, Go.wp_at_succ]
    have hst4 : Below U8.heap.size U8 W4 := by rw [hW4]; exact ((Below.refl U8.heap.size U8).alloc (Nat.le_refl _) _).drew
    have hz4 : W4.heap.size = S4 + 1 := by rw [hW4, hS4]; show (U8.alloc (.cells #[] 41)).heap.size = _; rw [World.size_alloc]
    have own0 : W4.ownsRow S4 41 5 (.slice (some ⟨S4, 0, none⟩) 0 0) 0 [] := by rw [hW4, hS4]; exact World.ownsRow_lit U8 #[] 0 (Nat.le_refl _) (by unfold maxLen; omega) rfl
    have hB4 : Below w.heap.size w W4 := HBel.out.trans (hst4.mono hlow)
    have hH4 := hos_to (H.out.1.keep hB4 (Nat.le_refl _)) k c3 (by rw [HLn.out]; omega)
    have hlk : (l3.take k).length = k := by rw [List.length_take, HLn.out]; omega
    have hAd : (Value.slice (some ⟨U8.heap.size, 0, none⟩) 0 0) = .slice (some ⟨S4, 0, none⟩) 0 0 := by rw [hS4]
    refine wp_append_els (C := hoC) (k := 5) _ _ _ 25 rfl S4 41 i0 _ 56 Tryd.underlying25 hi0 hz0 hz1 hz2 rfl (by decide) (.slice (some ⟨S4, 0, none⟩) 0 0) 0 [] (by first | rfl | (rw [hS4]; rfl)) own0 _ (atH (some ⟨b3, off, none⟩) 0 c3) c3 k (l3.take k) rfl hH4.at_ hlk.symm hoC_len hoC_one (by unfold maxLen; omega) (by omega) (by omega) ?_
    intro A6 c6 w7 own7 g7 k7
    rw [Nat.zero_add] at own7 k7 ⊢
    rw [List.nil_append] at own7
    have hB7 : Below w.heap.size w w7 := hB4.grown g7 (by omega) (fun i e => by have e : some S4 = some i := e; injection e with e; omega)
    have hs7 : S4 + 1 ≤ w7.heap.size := by have := g7.size; omega
    have bk7 : ∀ p, p < S4 → w7.heap[p]? = U8.heap[p]? := fun p hp => (g7.block p (by omega) (fun e => by have e : some p = some S4 := e; injection e with e; omega)).trans (hst4.block p (by omega))
    refine hK.out _ _ trivial ?_
    clear hK K
    try simp only [Act.put, List.setIfInBounds_toArray, List.set_cons_zero, List.set_cons_succ]
    refine held_one 9 rfl (by kernel_rfl) (by rfl) (fun K hK => ?_)
    simp only [Go.wp_at_zero, Go.wp_at_succ]
    have hH7 := hos_from (H.out.1.keep hB7 (Nat.le_refl _)) (k + 1) c3 (by rw [HLn.out]; omega)
    have hld : (l3.drop (k + 1)).length = m - (k + 1) := by rw [List.length_drop, HLn.out]
    refine wp_append_els (C := hoC) (k := 5) _ _ _ 25 rfl S4 41 i0 _ 56 Tryd.underlying25 hi0 hz0 hz1 hz2 rfl (by decide) (.slice A6 k c6) k ((l3.take k).flatMap hoC) rfl own7 _ (atH (some ⟨b3, off, none⟩) (k + 1) c3) (c3 - (k + 1)) (m - (k + 1)) (l3.drop (k + 1)) rfl hH7.at_ hld.symm hoC_len hoC_one (by unfold maxLen; omega) (by omega) (by omega) ?_
    intro A8 c8 w8 own8 g8 k8
    have hB8 : Hid (Below w.heap.size w w8) := Lib.hid (hB7.grown g8 (by omega) (fun i e => by have := (own7.lt i e).1; omega))
    have bk8 : ∀ p, p < S4 → w8.heap[p]? = U8.heap[p]? := fun p hp => (g8.block p (by omega) (fun e => by have := (own7.lt p e.symm).1; omega)).trans (bk7 p hp)
    have hs8 : S4 + 1 ≤ w8.heap.size := by have := g8.size; omega
    have hkm1 : k + (m - (k + 1)) = m - 1 := by omega
    have hR8 : Hid (Hos w8 w8.heap.size A8 l5) := Lib.hid (by rw [H.out.2.2.2.2.2.2.2.2.1]; exact own_hos (c := c8) (by rw [List.flatMap_append]; exact own8) (by rw [List.length_append, hlk, hld]))
    have BK := Lib.hid bk8
    rw [hkm1]
    refine hK.out _ _ trivial ?_
    clear hK K
    try simp only [Act.put, List.setIfInBounds_toArray, List.set_cons_zero, List.set_cons_succ]
    refine held_take (v := ?_) 10 25 rfl rfl (by kernel_rfl) (by kernel_rfl) (by kernel_rfl) (fun _ _ _ h => h) ⟨by rfl, ?_⟩ trivial ?_
    rotate_left
    · intro w' _; go_simp; (try with_reducible rfl)
    simp only [Act.put, List.setIfInBounds_toArray, List.set_cons_zero, List.set_cons_succ]
    refine wpAnyH_done (by kernel_rfl) ?_ _
    replace B_b : Hid (w8.heap[N_b]? = some (.cells #[.int .i64 X.q, .int .i64 X.n, .int .i64 X.S.g, .int .i64 X.S.c, .int .i64 X.S.mn, .int .i64 X.S.mx] 29 (0, 0))) := Lib.hid ((bk8 N_b hbS4).trans B_b.out)
    replace B_f : Hid (w8.heap[N_f]? = some (.cells #[.int .i64 g, .int .i64 c] 24 (0, 0))) := Lib.hid ((bk8 N_f hfS4).trans B_f.out)
    replace HBel := hB8
    replace l_b : N_b < w8.heap.size := by omega
    replace l_f : N_f < w8.heap.size := by omega
    replace hlow : w.heap.size ≤ w8.heap.size := by omega
    have hFr : Hid (Fes w8 w8.heap.size A9 lv9) := Lib.hid (HF9.out.1.imp (by omega) fun b o y hb hy => fe_moved (bk8 b (by omega)) hy)
    clear own0 hB4 hH4 hlk hAd own7 g7 k7 hB7 bk7 hH7 hld own8 g8 k8 bk8 hst4 hW4 hz4 hB8 hs7 hS4 BK
    have h1 : w8.cell? ⟨b3, off + k * 5 + 1, none⟩ = some (.int .i64 x.q) := ((HALL.out k x H.out.2.2.1).keep hb3 HBel.out) 1 _ rfl
    by_cases hqq : x.q = X.q
    · have u5 : (x.q == X.q) = true := by simpa using hqq
      clear hqq
      have f0 : w8.cell? ⟨N_f, 0, none⟩ = some (.int .i64 g) := cell_blk (i := 0) B_f.out rfl
      have f1 : w8.cell? ⟨N_f, 1, none⟩ = some (.int .i64 c) := cell_blk (i := 1) B_f.out rfl
      have b0 : w8.cell? ⟨N_b, 0, none⟩ = some (.int .i64 X.q) := cell_blk (i := 0) B_b.out rfl
      have b1 : w8.cell? ⟨N_b, 1, none⟩ = some (.int .i64 X.n) := cell_blk (i := 1) B_b.out rfl
      have b2 : w8.cell? ⟨N_b, 2, none⟩ = some (.int .i64 X.S.g) := cell_blk (i := 2) B_b.out rfl
      have b3 : w8.cell? ⟨N_b, 3, none⟩ = some (.int .i64 X.S.c) := cell_blk (i := 3) B_b.out rfl
      have b4 : w8.cell? ⟨N_b, 4, none⟩ = some (.int .i64 X.S.mn) := cell_blk (i := 4) B_b.out rfl
      have b5 : w8.cell? ⟨N_b, 5, none⟩ = some (.int .i64 X.S.mx) := cell_blk (i := 5) B_b.out rfl
      go_wp2
      go_quiet (fail)
      go_wp2
      go_ret
      exact ⟨rfl, by rw [HB0.out]; exact below_drewN HBel.out _⟩
    · have u5 : (x.q == X.q) = false := by simpa using hqq
      have HQ := Lib.hid hqq
      clear hqq
      have f0 : w8.cell? ⟨N_f, 0, none⟩ = some (.int .i64 g) := cell_blk (i := 0) B_f.out rfl
      have f1 : w8.cell? ⟨N_f, 1, none⟩ = some (.int .i64 c) := cell_blk (i := 1) B_f.out rfl
      have b0 : w8.cell? ⟨N_b, 0, none⟩ = some (.int .i64 X.q) := cell_blk (i := 0) B_b.out rfl
      have b1 : w8.cell? ⟨N_b, 1, none⟩ = some (.int .i64 X.n) := cell_blk (i := 1) B_b.out rfl
      have b2 : w8.cell? ⟨N_b, 2, none⟩ = some (.int .i64 X.S.g) := cell_blk (i := 2) B_b.out rfl
      have b3 : w8.cell? ⟨N_b, 3, none⟩ = some (.int .i64 X.S.c) := cell_blk (i := 3) B_b.out rfl
      have b4 : w8.cell? ⟨N_b, 4, none⟩ = some (.int .i64 X.S.mn) := cell_blk (i := 4) B_b.out rfl
      have b5 : w8.cell? ⟨N_b, 5, none⟩ = some (.int .i64 X.S.mx) := cell_blk (i := 5) B_b.out rfl
      go_wp2
      go_quiet (fail)
      obtain ⟨w9, hw9⟩ : ∃ W, W = w8.drewN nq := ⟨_, rfl⟩
      rw [← hw9]
      have hz9 : w9.heap = w8.heap := by rw [hw9]; rfl
      replace B_b : Hid (w9.heap[N_b]? = some (.cells #[.int .i64 X.q, .int .i64 X.n, .int .i64 X.S.g, .int .i64 X.S.c, .int .i64 X.S.mn, .int .i64 X.S.mx] 29 (0, 0))) := Lib.hid (by rw [hz9]; exact B_b.out)
      replace B_f : Hid (w9.heap[N_f]? = some (.cells #[.int .i64 g, .int .i64 c] 24 (0, 0))) := Lib.hid (by rw [hz9]; exact B_f.out)
      replace HBel : Hid (Below w.heap.size w w9) := Lib.hid (by rw [hw9]; exact below_drewN HBel.out _)
      replace l_b : N_b < w9.heap.size := by rw [hz9]; exact l_b
      replace l_f : N_f < w9.heap.size := by rw [hz9]; exact l_f
      replace hlow : w.heap.size ≤ w9.heap.size := by rw [hz9]; exact hlow
      have hEL := Lib.hid (hEr.out A9 c9 A8 c8 w9 HBel.out (by rw [hw9]; exact hFr.out) HF9.out.2.1 HF9.out.2.2 (by rw [hw9]; exact hR8.out))
      clear hw9 hz9
      skip
      have f0 : w9.cell? ⟨N_f, 0, none⟩ = some (.int .i64 g) := cell_blk (i := 0) B_f.out rfl
      have f1 : w9.cell? ⟨N_f, 1, none⟩ = some (.int .i64 c) := cell_blk (i := 1) B_f.out rfl
      have b0 : w9.cell? ⟨N_b, 0, none⟩ = some (.int .i64 X.q) := cell_blk (i := 0) B_b.out rfl
      have b1 : w9.cell? ⟨N_b, 1, none⟩ = some (.int .i64 X.n) := cell_blk (i := 1) B_b.out rfl
      have b2 : w9.cell? ⟨N_b, 2, none⟩ = some (.int .i64 X.S.g) := cell_blk (i := 2) B_b.out rfl
      have b3 : w9.cell? ⟨N_b, 3, none⟩ = some (.int .i64 X.S.c) := cell_blk (i := 3) B_b.out rfl
      have b4 : w9.cell? ⟨N_b, 4, none⟩ = some (.int .i64 X.S.mn) := cell_blk (i := 4) B_b.out rfl
      have b5 : w9.cell? ⟨N_b, 5, none⟩ = some (.int .i64 X.S.mx) := cell_blk (i := 5) B_b.out rfl
      go_wp2_with fail
      refine (hEL.out).mono ?_
      rintro e U9 ⟨Tc, Ec, rfl, hEr4, hb9⟩
      clear f0 f1 b0 b1 b2 b3 b4 b5
      have hs9 := hb9.size
      obtain ⟨rfl, hle4⟩ := Earl_le HE1.out hEr4 (by rw [H.out.2.2.2.2.2.2.2.2.1, H.out.2.2.2.2.2.2.2.2.2.1]; exact HZ9.out.2) (fun t ht => by have h8 := H.out.2.2.2.1; have h7 := HZ.out; rw [h8] at ht h7; rw [H.out.2.2.2.2.2.2.2.2.1, H.out.2.2.2.2.2.2.2.2.2.1]; exact (at_less HQ.out h7 ht).2.2)
      have v4 : decide (Tc ≤ T) = true := decide_eq_true hle4
      clear hEr4 hle4
      replace HBel := Lib.hid (HBel.out.trans (hb9.mono hlow))
      replace B_f : Hid (U9.heap[N_f]? = some (.cells #[.int .i64 g, .int .i64 c] 24 (0, 0))) := Lib.hid ((hb9.block _ l_f).trans B_f.out)
      replace B_b : Hid (U9.heap[N_b]? = some (.cells #[.int .i64 X.q, .int .i64 X.n, .int .i64 X.S.g, .int .i64 X.S.c, .int .i64 X.S.mn, .int .i64 X.S.mx] 29 (0, 0))) := Lib.hid ((hb9.block _ l_b).trans B_b.out)
      replace l_f : N_f < U9.heap.size := by omega
      replace l_b : N_b < U9.heap.size := by omega
      replace hlow : w.heap.size ≤ U9.heap.size := by omega
      clear hb9 hs9
      go_wp2
      go_ret
      exact ⟨by first | rfl | simp, by rw [HB0.out]; exact HBel.out⟩

set_option maxRecDepth 100000 in
set_option maxHeartbeats 1000000 in
theorem lifted (os : Os) (started : os.Started) (H : Type) (enc : TypeId × Value → H) :
    ReturnsInHanded {} Tryd.checked os 5 .any (fun w args => (Rows.promiseLessSpec.pre enc Tryd.prog Tryd.f5 [] false w args ∧ laidMetH Tryd.prog laid1 w) ∧ sizedMet enc Tryd.prog Tryd.f5 (OpenSpec.ofChange Rows.promiseLessSpec) false w args)
      (Rows.promiseLessSpec.post enc Tryd.prog Tryd.f5 false true false false) := by
  refine returnsInHanded_of_change_and (C := Tryd.checked) (X := fun w _ => laidMetH Tryd.prog laid1 w) (fun _ _ _ hh h => h.of_heap hh) own started (by kernel_rfl) Tryd.func5
    (ChangeSpec.witness_shaped (enc := enc) (C := Tryd.checked) (os := os) (X := fun w _ => laidMetH Tryd.prog laid1 w) false (World.doorLaid Tryd.prog 400 os) #[.int .i64 0, .slice none 0 0, .agg #[.int .i64 0, .int .i64 0], .slice none 0 0, .agg #[.int .i64 0, .int .i64 0, .int .i64 0, .int .i64 0, .int .i64 0, .int .i64 0], .int .i64 0, .int .i64 0] 8 rfl (World.shaped_of_RefB (by kernel_rfl) (by kernel_rfl)) (by kernel_rfl) (by kernel_rfl) (by kernel_rfl) (door_met os _)) ?_
  intro W base args ds gs before hval0 hW _ _ hL _
  have hval : ∀ (j : Nat) t v, Tryd.f5.params[j]? = some t → args[j]? = some v → Value.okWide Tryd.prog W .any base t v := hval0
  have hW' := hW
  obtain ⟨p, q, hA0, hV, rfl, hfz, hnd⟩ := hW
  have hA : DataW.TrodAll enc Tryd.prog W 0 (fun _ => true) true Tryd.f5.params.toList args.toList ds p := hA0
  rw [Tryd.params5] at hA hval
  obtain ⟨v0, vs0, d0, ds0, p0, q0, hargs, rfl, rfl, h0, r0⟩ := trodAll_cons hA
  obtain ⟨v1, vs1, d1, ds1, p1, q1, rfl, rfl, rfl, h1, r1⟩ := trodAll_cons r0
  obtain ⟨v2, vs2, d2, ds2, p2, q2, rfl, rfl, rfl, h2, r2⟩ := trodAll_cons r1
  obtain ⟨v3, vs3, d3, ds3, p3, q3, rfl, rfl, rfl, h3, r3⟩ := trodAll_cons r2
  obtain ⟨v4, vs4, d4, ds4, p4, q4, rfl, rfl, rfl, h4, r4⟩ := trodAll_cons r3
  obtain ⟨v5, vs5, d5, ds5, p5, q5, rfl, rfl, rfl, h5, r5⟩ := trodAll_cons r4
  obtain ⟨v6, vs6, d6, ds6, p6, q6, rfl, rfl, rfl, h6, r6⟩ := trodAll_cons r5
  obtain ⟨rfl, rfl, rfl⟩ := trodAll_nil r6
  obtain rfl : args = #[v0, v1, v2, v3, v4, v5, v6] := by cases args; simp_all
  obtain ⟨rfl, rfl⟩ := trodVars_none hV
  have k0 := h0
  have lt0 : ∀ x ∈ p0, x.block < W.heap.size := by obtain ⟨m, hm⟩ := k0; exact DataW.trod_lt m _ _ _ hm
  obtain ⟨a0, rfl, _, _, w0⟩ := open_int Tryd.underlying3 (hval 0 3 v0 rfl rfl) h0
  have k1 := h1
  have lt1 : ∀ x ∈ p1, x.block < W.heap.size := by obtain ⟨m, hm⟩ := k1; exact DataW.trod_lt m _ _ _ hm
  obtain ⟨a1, c1, l1, rfl, lc1, mc1, v1, q1⟩ := view_of (hval 1 22 v1 rfl rfl) h1
  have k2 := h2
  have lt2 : ∀ x ∈ p2, x.block < W.heap.size := by obtain ⟨m, hm⟩ := k2; exact DataW.trod_lt m _ _ _ hm
  obtain ⟨g2, c2, rfl, wg2, wc2⟩ := un2_of (hval 2 24 v2 rfl rfl) h2
  have k3 := h3
  have lt3 : ∀ x ∈ p3, x.block < W.heap.size := by obtain ⟨m, hm⟩ := k3; exact DataW.trod_lt m _ _ _ hm
  obtain ⟨a3, c3, l3, rfl, lc3, mc3, v3, q3⟩ := hos_of (hval 3 25 v3 rfl rfl) h3
  have k4 := h4
  have lt4 : ∀ x ∈ p4, x.block < W.heap.size := by obtain ⟨m, hm⟩ := k4; exact DataW.trod_lt m _ _ _ hm
  obtain ⟨x4, rfl, w4⟩ := wa_of (hval 4 29 v4 rfl rfl) h4
  have k5 := h5
  have lt5 : ∀ x ∈ p5, x.block < W.heap.size := by obtain ⟨m, hm⟩ := k5; exact DataW.trod_lt m _ _ _ hm
  obtain ⟨a5, rfl, _, _, w5⟩ := open_int Tryd.underlying3 (hval 5 3 v5 rfl rfl) h5
  have k6 := h6
  have lt6 : ∀ x ∈ p6, x.block < W.heap.size := by obtain ⟨m, hm⟩ := k6; exact DataW.trod_lt m _ _ _ hm
  obtain ⟨a6, rfl, _, _, w6⟩ := open_int Tryd.underlying3 (hval 6 3 v6 rfl rfl) h6
  have hT := of_laid hL
  clear hL
  clear hA0 hval0
  refine (walk a0 a1 c1 l1 g2 c2 a3 c3 l3 x4 a5 a6 W w0 v1 q1 lc1 mc1 wg2 wc2 v3 q3 lc3 mc3 w4 w5 w6 hT).mono fun e W' ⟨he, bel⟩ => ?_
  subst he
  exact ⟨_, rfl, _, _, _, [], _, [], hW', trodAll_mk1 (shut_bool Tryd.underlying4 _), (trodAll_cons_mk (Below.trod laidOut (by kernel_rfl) (of_decide_eq_true (by kernel_rfl)) k0 bel lt0) (trodAll_cons_mk (Below.trod laidOut (by kernel_rfl) (of_decide_eq_true (by kernel_rfl)) k1 bel lt1) (trodAll_cons_mk (Below.trod laidOut (by kernel_rfl) (of_decide_eq_true (by kernel_rfl)) k2 bel lt2) (trodAll_cons_mk (Below.trod laidOut (by kernel_rfl) (of_decide_eq_true (by kernel_rfl)) k3 bel lt3) (trodAll_cons_mk (Below.trod laidOut (by kernel_rfl) (of_decide_eq_true (by kernel_rfl)) k4 bel lt4) (trodAll_cons_mk (Below.trod laidOut (by kernel_rfl) (of_decide_eq_true (by kernel_rfl)) k5 bel lt5) (trodAll_cons_mk (Below.trod laidOut (by kernel_rfl) (of_decide_eq_true (by kernel_rfl)) k6 bel lt6) trodAll_mk0))))))), rfl, bel.frame _, fun h => by cases h⟩

/-- THE ROW. -/
theorem row_holds : Rows.PromiseLessSaid :=
  OpenClaim.holds_of_wide 5 Tryd.f5 rfl rfl rfl rfl rfl rfl rfl ⟨rfl, rfl, rfl, rfl, rfl⟩ rfl rfl rfl rfl rfl (by kernel_rfl) Tryd.func5 (by kernel_rfl)
    (of_decide_eq_true (by kernel_rfl)) (by unfold Func.isWrapper; first | (rw [if_pos (by decide +kernel)]; kernel_rfl) | (rw [if_neg (by decide +kernel)]; exact ⟨rfl, rfl⟩))
    (fun os started H enc _ => lifted os started H enc)

/-- THE STATEMENT. -/
theorem card_holds : Rows.PromiseLessCardSaid :=
  Claim7.holds_tied_plain_at .later [] [.data] true (true, Rows.promiseLessCard.stood.harness.2) false
    row_holds (fun _ h => by cases h) (by kernel_rfl) (fun _ h => by cases h) promiseLess_row_tie rfl ⟨rfl, rfl⟩ (by kernel_rfl) rfl
    (fun f fn hf hfn => by
      obtain rfl : f = 5 := Option.some.inj ((show Tryd.prog.funcNamed Rows.promiseLessRow.func = some 5 by kernel_rfl).symm.trans hf) |>.symm
      obtain rfl : fn = Tryd.f5 := (Option.some.inj (Tryd.func5.symm.trans hfn)).symm
      exact ⟨by kernel_rfl, fun j t ht => by
        rw [Tryd.params5] at ht
        have hm : t ∈ [3, 22, 24, 25, 29, 3, 3] := by simpa using Array.mem_of_getElem? ht
        have hall : ([3, 22, 24, 25, 29, 3, 3].all fun u => !Tryd.prog.wantsStandIn u) = true := by kernel_rfl
        exact (show Tryd.prog.wantsStandIn t = false by simpa using List.all_eq_true.1 hall t hm)⟩)
    (by kernel_rfl)
end Go.Proofs.YtenldgnfjjchiaaDoor.promiseLess
