/- With nothing held, and enough left, it is now just if there is room; with all of a view held by one hold, and enough left, it is when that ends, or never: the law PromiseRoom answers true, at every input. The library's table of lowest units is as the program's text lays it (tied). -/
import Derived.Deep.AppendLies
import Derived.RegionTactic
import Derived.BigRegion
import Derived.Test.YtenldgnfjjchiaaDoorProRoomM
import Derived.Test.YtenldgnfjjchiaaDoorProRefA
import Derived.SevenTiedAt
import Derived.Test.YtenldgnfjjchiaaDoorTie
import Derived.Test.YtenldgnfjjchiaaDoorCards
set_option linter.unusedVariables false
namespace Go.Proofs.YtenldgnfjjchiaaDoor.promiseRoom
open Go Go.ChangeShapes Go.WideShapes Go.ChangeAt Go.RowKit
open PR
set_option maxRecDepth 100000 in
set_option maxHeartbeats 16000000 in
theorem walk (now : Int) (a1 : Option Addr) (c1 : Nat) (l1 : List Fe) (X : Wa) (un : Int) (w : World) (w0 : (Lit.int .i64 now).wf = true) (v1 : Fes w w.heap.size a1 l1) (q1 : ∀ s ∈ l1, FeOk s) (lc1 : l1.length ≤ c1) (mc1 : c1 ≤ maxLen) (w2 : WaOk X) (w3 : (Lit.int .i64 un).wf = true) (hT : Tab w) :
    Calls Tryd.prog 7 #[.int .i64 now, .slice a1 l1.length c1, waV X, .int .i64 un] w fun e w' => e = .returned (.bool true) ∧ Below w.heap.size w w' := by
  have HT := Lib.hid hT
  have hAw := Lib.hid (fun W (hT : Tab W) => awake12 W hT)
  obtain ⟨n, hn⟩ : ∃ n, n = l1.length := ⟨_, rfl⟩
  unfold waV waA
  have hFw := Lib.hid (fun W (hW : Below w.heap.size w W) => show Calls Tryd.prog 9 #[.slice a1 n c1, .agg #[.int .i64 1048576, .int .i64 1048576], .slice none 0 0] W (fun e w' => e = .returned (.bool (fewH l1 1048576 1048576 [])) ∧ Below W.heap.size W w') from by
    rw [hn]
    exact few12_any a1 c1 l1 1048576 1048576 none 0 [] W (v1.keep hW hW.size) lc1 (.inl rfl) (fun x hx => by cases hx))
  rw [← hn]
  cases hfew : fewH l1 1048576 1048576 []
  · rw [hfew] at hFw
    clear hfew hn w0 v1 q1 lc1 mc1 w2 w3 hT
    obtain ⟨B0, hB0⟩ : ∃ B, B = w.heap.size := ⟨_, rfl⟩
    rw [← hB0]
    have HB0 := Lib.hid hB0
    clear hB0
    have HBel := Lib.hid (Below.refl w.heap.size w)
    have hlow : w.heap.size ≤ w.heap.size := Nat.le_refl _
    go_enter Tryd.func7, Tryd.ntmps7
    go_wp2_with fail
    obtain ⟨V1, hV1⟩ : ∃ W, W = w.alloc (.cells #[.int .i64 X.q, .int .i64 X.n, .int .i64 X.S.g, .int .i64 X.S.c, .int .i64 X.S.mn, .int .i64 X.S.mx] 29) := ⟨_, rfl⟩
    rw [← hV1]
    have hzV1 : V1.heap.size = w.heap.size + 1 := by rw [hV1]; simp
    replace HBel : Hid (Below w.heap.size w V1) := Lib.hid (by rw [hV1]; exact (HBel.out.alloc (hlow) _))
    have B_b : Hid (V1.heap[w.heap.size]? = some (.cells #[.int .i64 X.q, .int .i64 X.n, .int .i64 X.S.g, .int .i64 X.S.c, .int .i64 X.S.mn, .int .i64 X.S.mx] 29 (0, 0))) := Lib.hid (by
      have h9 := heap_alloc_new (w) (.cells #[.int .i64 X.q, .int .i64 X.n, .int .i64 X.S.g, .int .i64 X.S.c, .int .i64 X.S.mn, .int .i64 X.S.mx] 29)
      rw [hV1]; exact h9)
    obtain ⟨N_b, hN_b⟩ : ∃ N, N = w.heap.size := ⟨_, rfl⟩
    (try rw [← hN_b])
    rw [← hN_b] at B_b
    have l_b : N_b < V1.heap.size := by omega
    have g_b : w.heap.size ≤ N_b := by omega
    replace hlow : w.heap.size ≤ V1.heap.size := by omega
    clear hV1 hzV1 hN_b
    refine (hAw.out V1 (HT.out.below HBel.out HT.out.size)).mono ?_
    rintro e U2 ⟨rfl, hb9⟩
    have hs9 := hb9.size
    replace HBel := Lib.hid (HBel.out.trans (hb9.mono hlow))
    replace B_b : Hid (U2.heap[N_b]? = some (.cells #[.int .i64 X.q, .int .i64 X.n, .int .i64 X.S.g, .int .i64 X.S.c, .int .i64 X.S.mn, .int .i64 X.S.mx] 29 (0, 0))) := Lib.hid ((hb9.block _ l_b).trans B_b.out)
    replace l_b : N_b < U2.heap.size := by omega
    replace hlow : w.heap.size ≤ U2.heap.size := by omega
    clear hb9 hs9
    go_wp2_with fail
    obtain ⟨V3, hV3⟩ : ∃ W, W = U2.alloc (.cells #[.int .i64 1048576, .int .i64 1048576] 24) := ⟨_, rfl⟩
    rw [← hV3]
    have hzV3 : V3.heap.size = U2.heap.size + 1 := by rw [hV3]; simp
    replace HBel : Hid (Below w.heap.size w V3) := Lib.hid (by rw [hV3]; exact (HBel.out.alloc (hlow) _))
    replace B_b : Hid (V3.heap[N_b]? = some (.cells #[.int .i64 X.q, .int .i64 X.n, .int .i64 X.S.g, .int .i64 X.S.c, .int .i64 X.S.mn, .int .i64 X.S.mx] 29 (0, 0))) := Lib.hid (by rw [hV3]; exact ((Below.heap_alloc _ _ _ (by first | omega | (simp <;> omega))).trans B_b.out))
    have B_f : Hid (V3.heap[U2.heap.size]? = some (.cells #[.int .i64 1048576, .int .i64 1048576] 24 (0, 0))) := Lib.hid (by
      have h9 := heap_alloc_new (U2) (.cells #[.int .i64 1048576, .int .i64 1048576] 24)
      rw [hV3]; exact h9)
    obtain ⟨N_f, hN_f⟩ : ∃ N, N = U2.heap.size := ⟨_, rfl⟩
    (try rw [← hN_f])
    rw [← hN_f] at B_f
    have d_b_f : N_b < N_f := by omega
    replace l_b : N_b < V3.heap.size := by omega
    have l_f : N_f < V3.heap.size := by omega
    have g_f : w.heap.size ≤ N_f := by omega
    replace hlow : w.heap.size ≤ V3.heap.size := by omega
    clear hV3 hzV3 hN_f
    refine (hFw.out V3 HBel.out).mono ?_
    rintro e U4 ⟨rfl, hb9⟩
    have hs9 := hb9.size
    replace HBel := Lib.hid (HBel.out.trans (hb9.mono hlow))
    replace B_b : Hid (U4.heap[N_b]? = some (.cells #[.int .i64 X.q, .int .i64 X.n, .int .i64 X.S.g, .int .i64 X.S.c, .int .i64 X.S.mn, .int .i64 X.S.mx] 29 (0, 0))) := Lib.hid ((hb9.block _ l_b).trans B_b.out)
    replace B_f : Hid (U4.heap[N_f]? = some (.cells #[.int .i64 1048576, .int .i64 1048576] 24 (0, 0))) := Lib.hid ((hb9.block _ l_f).trans B_f.out)
    replace l_b : N_b < U4.heap.size := by omega
    replace l_f : N_f < U4.heap.size := by omega
    replace hlow : w.heap.size ≤ U4.heap.size := by omega
    clear hb9 hs9
    go_wp2
    go_ret
    exact ⟨rfl, by rw [HB0.out]; exact HBel.out⟩
  rw [hfew] at hFw
  obtain ⟨hview, hn70, hgc, hmany, hsl, hm20, hs20⟩ := few_true hfew q1
  by_cases h1 : now < 0
  · have t1 : decide (now < 0) = true := decide_eq_true h1
    clear hfew hview hn70 hgc hmany hsl hm20 hs20 hn w0 v1 q1 lc1 mc1 w2 w3 hT h1
    obtain ⟨B0, hB0⟩ : ∃ B, B = w.heap.size := ⟨_, rfl⟩
    rw [← hB0]
    have HB0 := Lib.hid hB0
    clear hB0
    have HBel := Lib.hid (Below.refl w.heap.size w)
    have hlow : w.heap.size ≤ w.heap.size := Nat.le_refl _
    go_enter Tryd.func7, Tryd.ntmps7
    go_wp2_with fail
    obtain ⟨V1, hV1⟩ : ∃ W, W = w.alloc (.cells #[.int .i64 X.q, .int .i64 X.n, .int .i64 X.S.g, .int .i64 X.S.c, .int .i64 X.S.mn, .int .i64 X.S.mx] 29) := ⟨_, rfl⟩
    rw [← hV1]
    have hzV1 : V1.heap.size = w.heap.size + 1 := by rw [hV1]; simp
    replace HBel : Hid (Below w.heap.size w V1) := Lib.hid (by rw [hV1]; exact (HBel.out.alloc (hlow) _))
    have B_b : Hid (V1.heap[w.heap.size]? = some (.cells #[.int .i64 X.q, .int .i64 X.n, .int .i64 X.S.g, .int .i64 X.S.c, .int .i64 X.S.mn, .int .i64 X.S.mx] 29 (0, 0))) := Lib.hid (by
      have h9 := heap_alloc_new (w) (.cells #[.int .i64 X.q, .int .i64 X.n, .int .i64 X.S.g, .int .i64 X.S.c, .int .i64 X.S.mn, .int .i64 X.S.mx] 29)
      rw [hV1]; exact h9)
    obtain ⟨N_b, hN_b⟩ : ∃ N, N = w.heap.size := ⟨_, rfl⟩
    (try rw [← hN_b])
    rw [← hN_b] at B_b
    have l_b : N_b < V1.heap.size := by omega
    have g_b : w.heap.size ≤ N_b := by omega
    replace hlow : w.heap.size ≤ V1.heap.size := by omega
    clear hV1 hzV1 hN_b
    refine (hAw.out V1 (HT.out.below HBel.out HT.out.size)).mono ?_
    rintro e U2 ⟨rfl, hb9⟩
    have hs9 := hb9.size
    replace HBel := Lib.hid (HBel.out.trans (hb9.mono hlow))
    replace B_b : Hid (U2.heap[N_b]? = some (.cells #[.int .i64 X.q, .int .i64 X.n, .int .i64 X.S.g, .int .i64 X.S.c, .int .i64 X.S.mn, .int .i64 X.S.mx] 29 (0, 0))) := Lib.hid ((hb9.block _ l_b).trans B_b.out)
    replace l_b : N_b < U2.heap.size := by omega
    replace hlow : w.heap.size ≤ U2.heap.size := by omega
    clear hb9 hs9
    go_wp2_with fail
    obtain ⟨V3, hV3⟩ : ∃ W, W = U2.alloc (.cells #[.int .i64 1048576, .int .i64 1048576] 24) := ⟨_, rfl⟩
    rw [← hV3]
    have hzV3 : V3.heap.size = U2.heap.size + 1 := by rw [hV3]; simp
    replace HBel : Hid (Below w.heap.size w V3) := Lib.hid (by rw [hV3]; exact (HBel.out.alloc (hlow) _))
    replace B_b : Hid (V3.heap[N_b]? = some (.cells #[.int .i64 X.q, .int .i64 X.n, .int .i64 X.S.g, .int .i64 X.S.c, .int .i64 X.S.mn, .int .i64 X.S.mx] 29 (0, 0))) := Lib.hid (by rw [hV3]; exact ((Below.heap_alloc _ _ _ (by first | omega | (simp <;> omega))).trans B_b.out))
    have B_f : Hid (V3.heap[U2.heap.size]? = some (.cells #[.int .i64 1048576, .int .i64 1048576] 24 (0, 0))) := Lib.hid (by
      have h9 := heap_alloc_new (U2) (.cells #[.int .i64 1048576, .int .i64 1048576] 24)
      rw [hV3]; exact h9)
    obtain ⟨N_f, hN_f⟩ : ∃ N, N = U2.heap.size := ⟨_, rfl⟩
    (try rw [← hN_f])
    rw [← hN_f] at B_f
    have d_b_f : N_b < N_f := by omega
    replace l_b : N_b < V3.heap.size := by omega
    have l_f : N_f < V3.heap.size := by omega
    have g_f : w.heap.size ≤ N_f := by omega
    replace hlow : w.heap.size ≤ V3.heap.size := by omega
    clear hV3 hzV3 hN_f
    refine (hFw.out V3 HBel.out).mono ?_
    rintro e U4 ⟨rfl, hb9⟩
    have hs9 := hb9.size
    replace HBel := Lib.hid (HBel.out.trans (hb9.mono hlow))
    replace B_b : Hid (U4.heap[N_b]? = some (.cells #[.int .i64 X.q, .int .i64 X.n, .int .i64 X.S.g, .int .i64 X.S.c, .int .i64 X.S.mn, .int .i64 X.S.mx] 29 (0, 0))) := Lib.hid ((hb9.block _ l_b).trans B_b.out)
    replace B_f : Hid (U4.heap[N_f]? = some (.cells #[.int .i64 1048576, .int .i64 1048576] 24 (0, 0))) := Lib.hid ((hb9.block _ l_f).trans B_f.out)
    replace l_b : N_b < U4.heap.size := by omega
    replace l_f : N_f < U4.heap.size := by omega
    replace hlow : w.heap.size ≤ U4.heap.size := by omega
    clear hb9 hs9
    go_wp2
    go_ret
    exact ⟨rfl, by rw [HB0.out]; exact HBel.out⟩
  have t1 : decide (now < 0) = false := decide_eq_false h1
  by_cases h2 : 1000000 < now
  · have t2 : decide (1000000 < now) = true := decide_eq_true h2
    clear hfew hview hn70 hgc hmany hsl hm20 hs20 hn w0 v1 q1 lc1 mc1 w2 w3 hT h1 h2
    obtain ⟨B0, hB0⟩ : ∃ B, B = w.heap.size := ⟨_, rfl⟩
    rw [← hB0]
    have HB0 := Lib.hid hB0
    clear hB0
    have HBel := Lib.hid (Below.refl w.heap.size w)
    have hlow : w.heap.size ≤ w.heap.size := Nat.le_refl _
    go_enter Tryd.func7, Tryd.ntmps7
    go_wp2_with fail
    obtain ⟨V1, hV1⟩ : ∃ W, W = w.alloc (.cells #[.int .i64 X.q, .int .i64 X.n, .int .i64 X.S.g, .int .i64 X.S.c, .int .i64 X.S.mn, .int .i64 X.S.mx] 29) := ⟨_, rfl⟩
    rw [← hV1]
    have hzV1 : V1.heap.size = w.heap.size + 1 := by rw [hV1]; simp
    replace HBel : Hid (Below w.heap.size w V1) := Lib.hid (by rw [hV1]; exact (HBel.out.alloc (hlow) _))
    have B_b : Hid (V1.heap[w.heap.size]? = some (.cells #[.int .i64 X.q, .int .i64 X.n, .int .i64 X.S.g, .int .i64 X.S.c, .int .i64 X.S.mn, .int .i64 X.S.mx] 29 (0, 0))) := Lib.hid (by
      have h9 := heap_alloc_new (w) (.cells #[.int .i64 X.q, .int .i64 X.n, .int .i64 X.S.g, .int .i64 X.S.c, .int .i64 X.S.mn, .int .i64 X.S.mx] 29)
      rw [hV1]; exact h9)
    obtain ⟨N_b, hN_b⟩ : ∃ N, N = w.heap.size := ⟨_, rfl⟩
    (try rw [← hN_b])
    rw [← hN_b] at B_b
    have l_b : N_b < V1.heap.size := by omega
    have g_b : w.heap.size ≤ N_b := by omega
    replace hlow : w.heap.size ≤ V1.heap.size := by omega
    clear hV1 hzV1 hN_b
    refine (hAw.out V1 (HT.out.below HBel.out HT.out.size)).mono ?_
    rintro e U2 ⟨rfl, hb9⟩
    have hs9 := hb9.size
    replace HBel := Lib.hid (HBel.out.trans (hb9.mono hlow))
    replace B_b : Hid (U2.heap[N_b]? = some (.cells #[.int .i64 X.q, .int .i64 X.n, .int .i64 X.S.g, .int .i64 X.S.c, .int .i64 X.S.mn, .int .i64 X.S.mx] 29 (0, 0))) := Lib.hid ((hb9.block _ l_b).trans B_b.out)
    replace l_b : N_b < U2.heap.size := by omega
    replace hlow : w.heap.size ≤ U2.heap.size := by omega
    clear hb9 hs9
    go_wp2_with fail
    obtain ⟨V3, hV3⟩ : ∃ W, W = U2.alloc (.cells #[.int .i64 1048576, .int .i64 1048576] 24) := ⟨_, rfl⟩
    rw [← hV3]
    have hzV3 : V3.heap.size = U2.heap.size + 1 := by rw [hV3]; simp
    replace HBel : Hid (Below w.heap.size w V3) := Lib.hid (by rw [hV3]; exact (HBel.out.alloc (hlow) _))
    replace B_b : Hid (V3.heap[N_b]? = some (.cells #[.int .i64 X.q, .int .i64 X.n, .int .i64 X.S.g, .int .i64 X.S.c, .int .i64 X.S.mn, .int .i64 X.S.mx] 29 (0, 0))) := Lib.hid (by rw [hV3]; exact ((Below.heap_alloc _ _ _ (by first | omega | (simp <;> omega))).trans B_b.out))
    have B_f : Hid (V3.heap[U2.heap.size]? = some (.cells #[.int .i64 1048576, .int .i64 1048576] 24 (0, 0))) := Lib.hid (by
      have h9 := heap_alloc_new (U2) (.cells #[.int .i64 1048576, .int .i64 1048576] 24)
      rw [hV3]; exact h9)
    obtain ⟨N_f, hN_f⟩ : ∃ N, N = U2.heap.size := ⟨_, rfl⟩
    (try rw [← hN_f])
    rw [← hN_f] at B_f
    have d_b_f : N_b < N_f := by omega
    replace l_b : N_b < V3.heap.size := by omega
    have l_f : N_f < V3.heap.size := by omega
    have g_f : w.heap.size ≤ N_f := by omega
    replace hlow : w.heap.size ≤ V3.heap.size := by omega
    clear hV3 hzV3 hN_f
    refine (hFw.out V3 HBel.out).mono ?_
    rintro e U4 ⟨rfl, hb9⟩
    have hs9 := hb9.size
    replace HBel := Lib.hid (HBel.out.trans (hb9.mono hlow))
    replace B_b : Hid (U4.heap[N_b]? = some (.cells #[.int .i64 X.q, .int .i64 X.n, .int .i64 X.S.g, .int .i64 X.S.c, .int .i64 X.S.mn, .int .i64 X.S.mx] 29 (0, 0))) := Lib.hid ((hb9.block _ l_b).trans B_b.out)
    replace B_f : Hid (U4.heap[N_f]? = some (.cells #[.int .i64 1048576, .int .i64 1048576] 24 (0, 0))) := Lib.hid ((hb9.block _ l_f).trans B_f.out)
    replace l_b : N_b < U4.heap.size := by omega
    replace l_f : N_f < U4.heap.size := by omega
    replace hlow : w.heap.size ≤ U4.heap.size := by omega
    clear hb9 hs9
    go_wp2
    go_ret
    exact ⟨rfl, by rw [HB0.out]; exact HBel.out⟩
  have t2 : decide (1000000 < now) = false := decide_eq_false h2
  by_cases h3 : un ≤ now
  · have t3 : decide (un ≤ now) = true := decide_eq_true h3
    clear hfew hview hn70 hgc hmany hsl hm20 hs20 hn w0 v1 q1 lc1 mc1 w2 w3 hT h1 h2 h3
    obtain ⟨B0, hB0⟩ : ∃ B, B = w.heap.size := ⟨_, rfl⟩
    rw [← hB0]
    have HB0 := Lib.hid hB0
    clear hB0
    have HBel := Lib.hid (Below.refl w.heap.size w)
    have hlow : w.heap.size ≤ w.heap.size := Nat.le_refl _
    go_enter Tryd.func7, Tryd.ntmps7
    go_wp2_with fail
    obtain ⟨V1, hV1⟩ : ∃ W, W = w.alloc (.cells #[.int .i64 X.q, .int .i64 X.n, .int .i64 X.S.g, .int .i64 X.S.c, .int .i64 X.S.mn, .int .i64 X.S.mx] 29) := ⟨_, rfl⟩
    rw [← hV1]
    have hzV1 : V1.heap.size = w.heap.size + 1 := by rw [hV1]; simp
    replace HBel : Hid (Below w.heap.size w V1) := Lib.hid (by rw [hV1]; exact (HBel.out.alloc (hlow) _))
    have B_b : Hid (V1.heap[w.heap.size]? = some (.cells #[.int .i64 X.q, .int .i64 X.n, .int .i64 X.S.g, .int .i64 X.S.c, .int .i64 X.S.mn, .int .i64 X.S.mx] 29 (0, 0))) := Lib.hid (by
      have h9 := heap_alloc_new (w) (.cells #[.int .i64 X.q, .int .i64 X.n, .int .i64 X.S.g, .int .i64 X.S.c, .int .i64 X.S.mn, .int .i64 X.S.mx] 29)
      rw [hV1]; exact h9)
    obtain ⟨N_b, hN_b⟩ : ∃ N, N = w.heap.size := ⟨_, rfl⟩
    (try rw [← hN_b])
    rw [← hN_b] at B_b
    have l_b : N_b < V1.heap.size := by omega
    have g_b : w.heap.size ≤ N_b := by omega
    replace hlow : w.heap.size ≤ V1.heap.size := by omega
    clear hV1 hzV1 hN_b
    refine (hAw.out V1 (HT.out.below HBel.out HT.out.size)).mono ?_
    rintro e U2 ⟨rfl, hb9⟩
    have hs9 := hb9.size
    replace HBel := Lib.hid (HBel.out.trans (hb9.mono hlow))
    replace B_b : Hid (U2.heap[N_b]? = some (.cells #[.int .i64 X.q, .int .i64 X.n, .int .i64 X.S.g, .int .i64 X.S.c, .int .i64 X.S.mn, .int .i64 X.S.mx] 29 (0, 0))) := Lib.hid ((hb9.block _ l_b).trans B_b.out)
    replace l_b : N_b < U2.heap.size := by omega
    replace hlow : w.heap.size ≤ U2.heap.size := by omega
    clear hb9 hs9
    go_wp2_with fail
    obtain ⟨V3, hV3⟩ : ∃ W, W = U2.alloc (.cells #[.int .i64 1048576, .int .i64 1048576] 24) := ⟨_, rfl⟩
    rw [← hV3]
    have hzV3 : V3.heap.size = U2.heap.size + 1 := by rw [hV3]; simp
    replace HBel : Hid (Below w.heap.size w V3) := Lib.hid (by rw [hV3]; exact (HBel.out.alloc (hlow) _))
    replace B_b : Hid (V3.heap[N_b]? = some (.cells #[.int .i64 X.q, .int .i64 X.n, .int .i64 X.S.g, .int .i64 X.S.c, .int .i64 X.S.mn, .int .i64 X.S.mx] 29 (0, 0))) := Lib.hid (by rw [hV3]; exact ((Below.heap_alloc _ _ _ (by first | omega | (simp <;> omega))).trans B_b.out))
    have B_f : Hid (V3.heap[U2.heap.size]? = some (.cells #[.int .i64 1048576, .int .i64 1048576] 24 (0, 0))) := Lib.hid (by
      have h9 := heap_alloc_new (U2) (.cells #[.int .i64 1048576, .int .i64 1048576] 24)
      rw [hV3]; exact h9)
    obtain ⟨N_f, hN_f⟩ : ∃ N, N = U2.heap.size := ⟨_, rfl⟩
    (try rw [← hN_f])
    rw [← hN_f] at B_f
    have d_b_f : N_b < N_f := by omega
    replace l_b : N_b < V3.heap.size := by omega
    have l_f : N_f < V3.heap.size := by omega
    have g_f : w.heap.size ≤ N_f := by omega
    replace hlow : w.heap.size ≤ V3.heap.size := by omega
    clear hV3 hzV3 hN_f
    refine (hFw.out V3 HBel.out).mono ?_
    rintro e U4 ⟨rfl, hb9⟩
    have hs9 := hb9.size
    replace HBel := Lib.hid (HBel.out.trans (hb9.mono hlow))
    replace B_b : Hid (U4.heap[N_b]? = some (.cells #[.int .i64 X.q, .int .i64 X.n, .int .i64 X.S.g, .int .i64 X.S.c, .int .i64 X.S.mn, .int .i64 X.S.mx] 29 (0, 0))) := Lib.hid ((hb9.block _ l_b).trans B_b.out)
    replace B_f : Hid (U4.heap[N_f]? = some (.cells #[.int .i64 1048576, .int .i64 1048576] 24 (0, 0))) := Lib.hid ((hb9.block _ l_f).trans B_f.out)
    replace l_b : N_b < U4.heap.size := by omega
    replace l_f : N_f < U4.heap.size := by omega
    replace hlow : w.heap.size ≤ U4.heap.size := by omega
    clear hb9 hs9
    go_wp2
    go_ret
    exact ⟨rfl, by rw [HB0.out]; exact HBel.out⟩
  have t3 : decide (un ≤ now) = false := decide_eq_false h3
  by_cases h4 : 1073741824 < un
  · have t4 : decide (1073741824 < un) = true := decide_eq_true h4
    clear hfew hview hn70 hgc hmany hsl hm20 hs20 hn w0 v1 q1 lc1 mc1 w2 w3 hT h1 h2 h3 h4
    obtain ⟨B0, hB0⟩ : ∃ B, B = w.heap.size := ⟨_, rfl⟩
    rw [← hB0]
    have HB0 := Lib.hid hB0
    clear hB0
    have HBel := Lib.hid (Below.refl w.heap.size w)
    have hlow : w.heap.size ≤ w.heap.size := Nat.le_refl _
    go_enter Tryd.func7, Tryd.ntmps7
    go_wp2_with fail
    obtain ⟨V1, hV1⟩ : ∃ W, W = w.alloc (.cells #[.int .i64 X.q, .int .i64 X.n, .int .i64 X.S.g, .int .i64 X.S.c, .int .i64 X.S.mn, .int .i64 X.S.mx] 29) := ⟨_, rfl⟩
    rw [← hV1]
    have hzV1 : V1.heap.size = w.heap.size + 1 := by rw [hV1]; simp
    replace HBel : Hid (Below w.heap.size w V1) := Lib.hid (by rw [hV1]; exact (HBel.out.alloc (hlow) _))
    have B_b : Hid (V1.heap[w.heap.size]? = some (.cells #[.int .i64 X.q, .int .i64 X.n, .int .i64 X.S.g, .int .i64 X.S.c, .int .i64 X.S.mn, .int .i64 X.S.mx] 29 (0, 0))) := Lib.hid (by
      have h9 := heap_alloc_new (w) (.cells #[.int .i64 X.q, .int .i64 X.n, .int .i64 X.S.g, .int .i64 X.S.c, .int .i64 X.S.mn, .int .i64 X.S.mx] 29)
      rw [hV1]; exact h9)
    obtain ⟨N_b, hN_b⟩ : ∃ N, N = w.heap.size := ⟨_, rfl⟩
    (try rw [← hN_b])
    rw [← hN_b] at B_b
    have l_b : N_b < V1.heap.size := by omega
    have g_b : w.heap.size ≤ N_b := by omega
    replace hlow : w.heap.size ≤ V1.heap.size := by omega
    clear hV1 hzV1 hN_b
    refine (hAw.out V1 (HT.out.below HBel.out HT.out.size)).mono ?_
    rintro e U2 ⟨rfl, hb9⟩
    have hs9 := hb9.size
    replace HBel := Lib.hid (HBel.out.trans (hb9.mono hlow))
    replace B_b : Hid (U2.heap[N_b]? = some (.cells #[.int .i64 X.q, .int .i64 X.n, .int .i64 X.S.g, .int .i64 X.S.c, .int .i64 X.S.mn, .int .i64 X.S.mx] 29 (0, 0))) := Lib.hid ((hb9.block _ l_b).trans B_b.out)
    replace l_b : N_b < U2.heap.size := by omega
    replace hlow : w.heap.size ≤ U2.heap.size := by omega
    clear hb9 hs9
    go_wp2_with fail
    obtain ⟨V3, hV3⟩ : ∃ W, W = U2.alloc (.cells #[.int .i64 1048576, .int .i64 1048576] 24) := ⟨_, rfl⟩
    rw [← hV3]
    have hzV3 : V3.heap.size = U2.heap.size + 1 := by rw [hV3]; simp
    replace HBel : Hid (Below w.heap.size w V3) := Lib.hid (by rw [hV3]; exact (HBel.out.alloc (hlow) _))
    replace B_b : Hid (V3.heap[N_b]? = some (.cells #[.int .i64 X.q, .int .i64 X.n, .int .i64 X.S.g, .int .i64 X.S.c, .int .i64 X.S.mn, .int .i64 X.S.mx] 29 (0, 0))) := Lib.hid (by rw [hV3]; exact ((Below.heap_alloc _ _ _ (by first | omega | (simp <;> omega))).trans B_b.out))
    have B_f : Hid (V3.heap[U2.heap.size]? = some (.cells #[.int .i64 1048576, .int .i64 1048576] 24 (0, 0))) := Lib.hid (by
      have h9 := heap_alloc_new (U2) (.cells #[.int .i64 1048576, .int .i64 1048576] 24)
      rw [hV3]; exact h9)
    obtain ⟨N_f, hN_f⟩ : ∃ N, N = U2.heap.size := ⟨_, rfl⟩
    (try rw [← hN_f])
    rw [← hN_f] at B_f
    have d_b_f : N_b < N_f := by omega
    replace l_b : N_b < V3.heap.size := by omega
    have l_f : N_f < V3.heap.size := by omega
    have g_f : w.heap.size ≤ N_f := by omega
    replace hlow : w.heap.size ≤ V3.heap.size := by omega
    clear hV3 hzV3 hN_f
    refine (hFw.out V3 HBel.out).mono ?_
    rintro e U4 ⟨rfl, hb9⟩
    have hs9 := hb9.size
    replace HBel := Lib.hid (HBel.out.trans (hb9.mono hlow))
    replace B_b : Hid (U4.heap[N_b]? = some (.cells #[.int .i64 X.q, .int .i64 X.n, .int .i64 X.S.g, .int .i64 X.S.c, .int .i64 X.S.mn, .int .i64 X.S.mx] 29 (0, 0))) := Lib.hid ((hb9.block _ l_b).trans B_b.out)
    replace B_f : Hid (U4.heap[N_f]? = some (.cells #[.int .i64 1048576, .int .i64 1048576] 24 (0, 0))) := Lib.hid ((hb9.block _ l_f).trans B_f.out)
    replace l_b : N_b < U4.heap.size := by omega
    replace l_f : N_f < U4.heap.size := by omega
    replace hlow : w.heap.size ≤ U4.heap.size := by omega
    clear hb9 hs9
    go_wp2
    go_ret
    exact ⟨rfl, by rw [HB0.out]; exact HBel.out⟩
  have t4 : decide (1073741824 < un) = false := decide_eq_false h4
  have hE0 := Lib.hid (fun W (hW : Below w.heap.size w W) => show Calls Tryd.prog 10 #[.int .i64 now, .slice a1 n c1, .agg #[.int .i64 1048576, .int .i64 1048576], .slice none 0 0, .agg #[.int .i64 X.q, .int .i64 X.n, .int .i64 X.S.g, .int .i64 X.S.c, .int .i64 X.S.mn, .int .i64 X.S.mx]] W (fun e w' => ∃ T E, e = .returned (.tuple #[.int .i64 T, .int .i64 E]) ∧ Earl now l1 1048576 1048576 [] X T E ∧ Below W.heap.size W w') from by
    have h9 := pearliest_any now a1 c1 l1 1048576 1048576 none 0 [] X W (v1.keep hW hW.size) hview (by omega) ⟨.inl rfl, by simp⟩ (by simp) ⟨by simp, by simp⟩ (by simp [sl]) w2 (by omega) (by omega) (hT.below hW hT.size)
    rw [← hn] at h9
    exact h9)
  have hRt := Lib.hid (fun W => show Calls Tryd.prog 16 #[.agg #[.int .i64 X.q, .int .i64 X.n, .int .i64 X.S.g, .int .i64 X.S.c, .int .i64 X.S.mn, .int .i64 X.S.mx]] W (fun e w' => e = .returned (.bool X.ok) ∧ Below W.heap.size W w') from refright12_any X W w2)
  obtain ⟨r, hr⟩ : ∃ r, r = roomF X.S l1 := ⟨_, rfl⟩
  have hRm := Lib.hid (fun W (hW : Below w.heap.size w W) => show Calls Tryd.prog 17 #[.slice a1 n c1, .agg #[.int .i64 X.S.g, .int .i64 X.S.c, .int .i64 X.S.mn, .int .i64 X.S.mx]] W (fun e w' => e = .returned (.int .i64 (r : Nat)) ∧ Below W.heap.size W w') from by
    rw [hr, hn]
    exact refroom_any a1 c1 W.heap.size l1 X.S W (v1.keep hW hW.size) (Nat.le_refl _) (by omega) w2.S (fun f hm => ⟨(hview.ok f hm).1, (hview.ok f hm).2.1⟩) (hT.below hW hT.size))
  obtain ⟨q1', hq1, hqne, hqw⟩ := wrap_next w2.q
  have hqw' : IntKind.i64.wrap (X.q + 1) = q1' := by rw [← hq1]; exact IntWalk.i64_left _
  have hE2 := Lib.hid (fun (A7 : Option Addr) (c7 : Nat) (p : Nat) (A8 : Option Addr) (c8 : Nat) W (hW : Below w.heap.size w W) (he : Fes W W.heap.size A7 (bareL l1)) (hs : Fes W W.heap.size A8 l1) (hp : W.heap[p]? = some (.cells #[.int .i64 0, .int .i64 q1', .int .i64 un, .bool false, .slice A8 n c8] 41 (0, 0))) (hc8 : n ≤ c8) (hm8 : c8 ≤ maxLen) => show Calls Tryd.prog 10 #[.int .i64 now, .slice A7 n c7, .agg #[.int .i64 1048576, .int .i64 1048576], .slice (some ⟨p, 0, none⟩) 1 1, .agg #[.int .i64 X.q, .int .i64 X.n, .int .i64 X.S.g, .int .i64 X.S.c, .int .i64 X.S.mn, .int .i64 X.S.mx]] W (fun e w' => e = .returned (.tuple #[.int .i64 (if X.ok = true then (if X.n ≤ (r : Int) then un else 1073741825) else 0), .int .i64 (if X.ok = true then 0 else 1)]) ∧ Below W.heap.size W w') from by
    have hlb : (bareL l1).length = n := by rw [hn]; unfold bareL; simp
    have hd : HosIn W W.heap.size (some ⟨p, 0, none⟩) [⟨0, q1', un, false, A8, c8, l1⟩] := by
      refine ⟨.inr ⟨p, 0, rfl, blk_lt hp, fun i x hx => ?_⟩, fun x hx => by simp at hx; subst hx; exact hs⟩
      match i, hx with
      | 0, hx =>
        simp at hx; subst hx
        intro k u hk
        rw [Nat.zero_mul, Nat.add_zero, Nat.zero_add]
        exact cell_blk hp (by rw [hn]; simpa [hoC] using hk)
    have h9 := pearliest_any now A7 c7 (bareL l1) 1048576 1048576 (some ⟨p, 0, none⟩) 1 [⟨0, q1', un, false, A8, c8, l1⟩] X W he (bare_view hview) (by omega) hd (fun x hx => by
      simp at hx; subst hx
      exact ⟨hqw, w3, by rw [← hn]; exact hc8, hm8, q1⟩) ⟨by simp, fun x hx => by simp at hx; subst hx; simp only; omega⟩ (by simp [sl]; omega) w2 (by omega) (by omega) (hT.below hW hT.size)
    rw [hlb] at h9
    refine h9.mono ?_
    rintro e w' ⟨T, E, rfl, hEl, hb⟩
    refine ⟨?_, hb⟩
    cases hok : X.ok
    · have := (Earl.same hEl (.inl ⟨fun h => by rw [hok] at h; exact absurd h.1 (by simp), rfl, rfl⟩ : Earl now (bareL l1) 1048576 1048576 [⟨0, q1', un, false, A8, c8, l1⟩] X 0 1))
      rw [this.1, this.2]; rfl
    · obtain ⟨a, b⟩ := room_held hview rfl hqne hok (by omega) (show now < un by omega) (show un ≤ 1073741824 by omega) hEl
      rw [a, b, hr]; rfl)
  have HV := Lib.hid (And.intro v1 (And.intro hn (And.intro hr (And.intro hview q1))))
  have hqd : (X.q + 1) = X.q + 1 := rfl
  clear hfew hview hgc hmany hsl hm20 hs20 hn w0 v1 q1 lc1 mc1 w2 w3 hT hr hqne hqw hqd
  obtain ⟨B0, hB0⟩ : ∃ B, B = w.heap.size := ⟨_, rfl⟩
  rw [← hB0]
  have HB0 := Lib.hid hB0
  clear hB0
  have HBel := Lib.hid (Below.refl w.heap.size w)
  have hlow : w.heap.size ≤ w.heap.size := Nat.le_refl _
  go_enter Tryd.func7, Tryd.ntmps7
  go_wp2_with fail
  obtain ⟨V1, hV1⟩ : ∃ W, W = w.alloc (.cells #[.int .i64 X.q, .int .i64 X.n, .int .i64 X.S.g, .int .i64 X.S.c, .int .i64 X.S.mn, .int .i64 X.S.mx] 29) := ⟨_, rfl⟩
  rw [← hV1]
  have hzV1 : V1.heap.size = w.heap.size + 1 := by rw [hV1]; simp
  replace HBel : Hid (Below w.heap.size w V1) := Lib.hid (by rw [hV1]; exact (HBel.out.alloc (hlow) _))
  have B_b : Hid (V1.heap[w.heap.size]? = some (.cells #[.int .i64 X.q, .int .i64 X.n, .int .i64 X.S.g, .int .i64 X.S.c, .int .i64 X.S.mn, .int .i64 X.S.mx] 29 (0, 0))) := Lib.hid (by
    have h9 := heap_alloc_new (w) (.cells #[.int .i64 X.q, .int .i64 X.n, .int .i64 X.S.g, .int .i64 X.S.c, .int .i64 X.S.mn, .int .i64 X.S.mx] 29)
    rw [hV1]; exact h9)
  obtain ⟨N_b, hN_b⟩ : ∃ N, N = w.heap.size := ⟨_, rfl⟩
  (try rw [← hN_b])
  rw [← hN_b] at B_b
  have l_b : N_b < V1.heap.size := by omega
  have g_b : w.heap.size ≤ N_b := by omega
  replace hlow : w.heap.size ≤ V1.heap.size := by omega
  clear hV1 hzV1 hN_b
  refine (hAw.out V1 (HT.out.below HBel.out HT.out.size)).mono ?_
  rintro e U2 ⟨rfl, hb9⟩
  have hs9 := hb9.size
  replace HBel := Lib.hid (HBel.out.trans (hb9.mono hlow))
  replace B_b : Hid (U2.heap[N_b]? = some (.cells #[.int .i64 X.q, .int .i64 X.n, .int .i64 X.S.g, .int .i64 X.S.c, .int .i64 X.S.mn, .int .i64 X.S.mx] 29 (0, 0))) := Lib.hid ((hb9.block _ l_b).trans B_b.out)
  replace l_b : N_b < U2.heap.size := by omega
  replace hlow : w.heap.size ≤ U2.heap.size := by omega
  clear hb9 hs9
  go_wp2_with fail
  obtain ⟨V3, hV3⟩ : ∃ W, W = U2.alloc (.cells #[.int .i64 1048576, .int .i64 1048576] 24) := ⟨_, rfl⟩
  rw [← hV3]
  have hzV3 : V3.heap.size = U2.heap.size + 1 := by rw [hV3]; simp
  replace HBel : Hid (Below w.heap.size w V3) := Lib.hid (by rw [hV3]; exact (HBel.out.alloc (hlow) _))
  replace B_b : Hid (V3.heap[N_b]? = some (.cells #[.int .i64 X.q, .int .i64 X.n, .int .i64 X.S.g, .int .i64 X.S.c, .int .i64 X.S.mn, .int .i64 X.S.mx] 29 (0, 0))) := Lib.hid (by rw [hV3]; exact ((Below.heap_alloc _ _ _ (by first | omega | (simp <;> omega))).trans B_b.out))
  have B_f : Hid (V3.heap[U2.heap.size]? = some (.cells #[.int .i64 1048576, .int .i64 1048576] 24 (0, 0))) := Lib.hid (by
    have h9 := heap_alloc_new (U2) (.cells #[.int .i64 1048576, .int .i64 1048576] 24)
    rw [hV3]; exact h9)
  obtain ⟨N_f, hN_f⟩ : ∃ N, N = U2.heap.size := ⟨_, rfl⟩
  (try rw [← hN_f])
  rw [← hN_f] at B_f
  have d_b_f : N_b < N_f := by omega
  replace l_b : N_b < V3.heap.size := by omega
  have l_f : N_f < V3.heap.size := by omega
  have g_f : w.heap.size ≤ N_f := by omega
  replace hlow : w.heap.size ≤ V3.heap.size := by omega
  clear hV3 hzV3 hN_f
  refine (hFw.out V3 HBel.out).mono ?_
  rintro e U4 ⟨rfl, hb9⟩
  have hs9 := hb9.size
  replace HBel := Lib.hid (HBel.out.trans (hb9.mono hlow))
  replace B_b : Hid (U4.heap[N_b]? = some (.cells #[.int .i64 X.q, .int .i64 X.n, .int .i64 X.S.g, .int .i64 X.S.c, .int .i64 X.S.mn, .int .i64 X.S.mx] 29 (0, 0))) := Lib.hid ((hb9.block _ l_b).trans B_b.out)
  replace B_f : Hid (U4.heap[N_f]? = some (.cells #[.int .i64 1048576, .int .i64 1048576] 24 (0, 0))) := Lib.hid ((hb9.block _ l_f).trans B_f.out)
  replace l_b : N_b < U4.heap.size := by omega
  replace l_f : N_f < U4.heap.size := by omega
  replace hlow : w.heap.size ≤ U4.heap.size := by omega
  clear hb9 hs9
  have f0 : U4.cell? ⟨N_f, 0, none⟩ = some (.int .i64 1048576) := cell_blk (i := 0) B_f.out rfl
  have f1 : U4.cell? ⟨N_f, 1, none⟩ = some (.int .i64 1048576) := cell_blk (i := 1) B_f.out rfl
  have b0 : U4.cell? ⟨N_b, 0, none⟩ = some (.int .i64 X.q) := cell_blk (i := 0) B_b.out rfl
  have b1 : U4.cell? ⟨N_b, 1, none⟩ = some (.int .i64 X.n) := cell_blk (i := 1) B_b.out rfl
  have b2 : U4.cell? ⟨N_b, 2, none⟩ = some (.int .i64 X.S.g) := cell_blk (i := 2) B_b.out rfl
  have b3 : U4.cell? ⟨N_b, 3, none⟩ = some (.int .i64 X.S.c) := cell_blk (i := 3) B_b.out rfl
  have b4 : U4.cell? ⟨N_b, 4, none⟩ = some (.int .i64 X.S.mn) := cell_blk (i := 4) B_b.out rfl
  have b5 : U4.cell? ⟨N_b, 5, none⟩ = some (.int .i64 X.S.mx) := cell_blk (i := 5) B_b.out rfl
  go_wp2_with fail
  refine (hE0.out U4 HBel.out).mono ?_
  rintro e U5 ⟨T, E, rfl, hEr, hb9⟩
  clear f0 f1 b0 b1 b2 b3 b4 b5
  have hs9 := hb9.size
  have HEr := Lib.hid hEr
  clear hEr
  replace HBel := Lib.hid (HBel.out.trans (hb9.mono hlow))
  replace B_b : Hid (U5.heap[N_b]? = some (.cells #[.int .i64 X.q, .int .i64 X.n, .int .i64 X.S.g, .int .i64 X.S.c, .int .i64 X.S.mn, .int .i64 X.S.mx] 29 (0, 0))) := Lib.hid ((hb9.block _ l_b).trans B_b.out)
  replace B_f : Hid (U5.heap[N_f]? = some (.cells #[.int .i64 1048576, .int .i64 1048576] 24 (0, 0))) := Lib.hid ((hb9.block _ l_f).trans B_f.out)
  replace l_b : N_b < U5.heap.size := by omega
  replace l_f : N_f < U5.heap.size := by omega
  replace hlow : w.heap.size ≤ U5.heap.size := by omega
  clear hb9 hs9
  have f0 : U5.cell? ⟨N_f, 0, none⟩ = some (.int .i64 1048576) := cell_blk (i := 0) B_f.out rfl
  have f1 : U5.cell? ⟨N_f, 1, none⟩ = some (.int .i64 1048576) := cell_blk (i := 1) B_f.out rfl
  have b0 : U5.cell? ⟨N_b, 0, none⟩ = some (.int .i64 X.q) := cell_blk (i := 0) B_b.out rfl
  have b1 : U5.cell? ⟨N_b, 1, none⟩ = some (.int .i64 X.n) := cell_blk (i := 1) B_b.out rfl
  have b2 : U5.cell? ⟨N_b, 2, none⟩ = some (.int .i64 X.S.g) := cell_blk (i := 2) B_b.out rfl
  have b3 : U5.cell? ⟨N_b, 3, none⟩ = some (.int .i64 X.S.c) := cell_blk (i := 3) B_b.out rfl
  have b4 : U5.cell? ⟨N_b, 4, none⟩ = some (.int .i64 X.S.mn) := cell_blk (i := 4) B_b.out rfl
  have b5 : U5.cell? ⟨N_b, 5, none⟩ = some (.int .i64 X.S.mx) := cell_blk (i := 5) B_b.out rfl
  go_wp2_with fail
  refine (hRt.out U5).mono ?_
  rintro e U6 ⟨rfl, hb9⟩
  clear f0 f1 b0 b1 b2 b3 b4 b5
  have hs9 := hb9.size
  replace HBel := Lib.hid (HBel.out.trans (hb9.mono hlow))
  replace B_b : Hid (U6.heap[N_b]? = some (.cells #[.int .i64 X.q, .int .i64 X.n, .int .i64 X.S.g, .int .i64 X.S.c, .int .i64 X.S.mn, .int .i64 X.S.mx] 29 (0, 0))) := Lib.hid ((hb9.block _ l_b).trans B_b.out)
  replace B_f : Hid (U6.heap[N_f]? = some (.cells #[.int .i64 1048576, .int .i64 1048576] 24 (0, 0))) := Lib.hid ((hb9.block _ l_f).trans B_f.out)
  replace l_b : N_b < U6.heap.size := by omega
  replace l_f : N_f < U6.heap.size := by omega
  replace hlow : w.heap.size ≤ U6.heap.size := by omega
  clear hb9 hs9
  cases hok : X.ok
  · have hE1 : E = 1 := (Earl.same HEr.out (.inl ⟨fun h => by rw [hok] at h; exact absurd h.1 (by simp), rfl, rfl⟩ : Earl now l1 1048576 1048576 [] X 0 1)).2
    have u1 : (E == 1) = true := by rw [hE1]; rfl
    clear hE1 hok
    go_wp2
    go_ret
    exact ⟨by first | rfl | simp, by rw [HB0.out]; exact HBel.out⟩
  obtain ⟨hE9, hT9⟩ := room_now hok (by omega) (by omega) HEr.out
  rw [← HV.out.2.2.1] at hT9
  have hokE := hok
  simp only [hok, if_true] at hE2
  subst hE9
  have HT9 := Lib.hid hT9
  have HE2 := Lib.hid hE2.out
  clear HEr hokE hok hT9 hE2
  have b0 : U6.cell? ⟨N_b, 0, none⟩ = some (.int .i64 X.q) := cell_blk (i := 0) B_b.out rfl
  have b1 : U6.cell? ⟨N_b, 1, none⟩ = some (.int .i64 X.n) := cell_blk (i := 1) B_b.out rfl
  have b2 : U6.cell? ⟨N_b, 2, none⟩ = some (.int .i64 X.S.g) := cell_blk (i := 2) B_b.out rfl
  have b3 : U6.cell? ⟨N_b, 3, none⟩ = some (.int .i64 X.S.c) := cell_blk (i := 3) B_b.out rfl
  have b4 : U6.cell? ⟨N_b, 4, none⟩ = some (.int .i64 X.S.mn) := cell_blk (i := 4) B_b.out rfl
  have b5 : U6.cell? ⟨N_b, 5, none⟩ = some (.int .i64 X.S.mx) := cell_blk (i := 5) B_b.out rfl
  go_wp2_with fail
  clear b0 b1 b2 b3 b4 b5
  have b0 : U6.cell? ⟨N_b, 0, none⟩ = some (.int .i64 X.q) := cell_blk (i := 0) B_b.out rfl
  have b1 : U6.cell? ⟨N_b, 1, none⟩ = some (.int .i64 X.n) := cell_blk (i := 1) B_b.out rfl
  have b2 : U6.cell? ⟨N_b, 2, none⟩ = some (.int .i64 X.S.g) := cell_blk (i := 2) B_b.out rfl
  have b3 : U6.cell? ⟨N_b, 3, none⟩ = some (.int .i64 X.S.c) := cell_blk (i := 3) B_b.out rfl
  have b4 : U6.cell? ⟨N_b, 4, none⟩ = some (.int .i64 X.S.mn) := cell_blk (i := 4) B_b.out rfl
  have b5 : U6.cell? ⟨N_b, 5, none⟩ = some (.int .i64 X.S.mx) := cell_blk (i := 5) B_b.out rfl
  refine held_begin (fun w' : World => w'.cell? ⟨N_b, 0, none⟩ = some (.int .i64 X.q) ∧ w'.cell? ⟨N_b, 1, none⟩ = some (.int .i64 X.n) ∧ w'.cell? ⟨N_b, 2, none⟩ = some (.int .i64 X.S.g) ∧ w'.cell? ⟨N_b, 3, none⟩ = some (.int .i64 X.S.c) ∧ w'.cell? ⟨N_b, 4, none⟩ = some (.int .i64 X.S.mn) ∧ w'.cell? ⟨N_b, 5, none⟩ = some (.int .i64 X.S.mx)) (by kernel_rfl) ?_
  have hBh0 : Below U6.heap.size U6 U6.drew := (Below.refl _ _).drew
  have hSh0 : (fun w' : World => w'.cell? ⟨N_b, 0, none⟩ = some (.int .i64 X.q) ∧ w'.cell? ⟨N_b, 1, none⟩ = some (.int .i64 X.n) ∧ w'.cell? ⟨N_b, 2, none⟩ = some (.int .i64 X.S.g) ∧ w'.cell? ⟨N_b, 3, none⟩ = some (.int .i64 X.S.c) ∧ w'.cell? ⟨N_b, 4, none⟩ = some (.int .i64 X.S.mn) ∧ w'.cell? ⟨N_b, 5, none⟩ = some (.int .i64 X.S.mx)) U6.drew := ⟨b0, b1, b2, b3, b4, b5⟩
  refine held_take (v := ?_) 0 56 rfl rfl (by kernel_rfl) (by kernel_rfl) (by kernel_rfl) (fun _ _ _ h => h) ⟨by rfl, ?_⟩ hSh0 ?_
  rotate_left
  · intro w' hw'; obtain ⟨x0, x1, x2, x3, x4, x5⟩ := hw'; go_simp; (try with_reducible rfl)
  simp only [Act.put, List.setIfInBounds_toArray, List.set_cons_zero, List.set_cons_succ]
  refine held_take (v := ?_) 1 57 rfl rfl (by kernel_rfl) (by kernel_rfl) (by kernel_rfl) (fun _ _ _ h => h) ⟨by rfl, ?_⟩ hSh0 ?_
  rotate_left
  · intro w' hw'; obtain ⟨x0, x1, x2, x3, x4, x5⟩ := hw'; go_simp; (try with_reducible rfl)
  simp only [Act.put, List.setIfInBounds_toArray, List.set_cons_zero, List.set_cons_succ]
  refine held_take (v := ?_) 2 58 rfl rfl (by kernel_rfl) (by kernel_rfl) (by kernel_rfl) (fun _ _ _ h => h) ⟨by rfl, ?_⟩ hSh0 ?_
  rotate_left
  · intro w' hw'; obtain ⟨x0, x1, x2, x3, x4, x5⟩ := hw'; go_simp; (try with_reducible rfl)
  simp only [Act.put, List.setIfInBounds_toArray, List.set_cons_zero, List.set_cons_succ]
  refine held_take (v := ?_) 4 60 rfl rfl (by kernel_rfl) (by kernel_rfl) (by kernel_rfl) (fun _ _ _ h => h) ⟨by rfl, ?_⟩ hSh0 ?_
  rotate_left
  · intro w' hw'; obtain ⟨x0, x1, x2, x3, x4, x5⟩ := hw'; go_simp; (try with_reducible rfl)
  simp only [Act.put, List.setIfInBounds_toArray, List.set_cons_zero, List.set_cons_succ]
  refine held_take (v := ?_) 5 61 rfl rfl (by kernel_rfl) (by kernel_rfl) (by kernel_rfl) (fun _ _ _ h => h) ⟨by rfl, ?_⟩ hSh0 ?_
  rotate_left
  · intro w' hw'; obtain ⟨x0, x1, x2, x3, x4, x5⟩ := hw'; go_simp; (try with_reducible rfl)
  simp only [Act.put, List.setIfInBounds_toArray, List.set_cons_zero, List.set_cons_succ]
  refine held_one 3 rfl (by kernel_rfl) (by rfl) (fun K hK => ?_)
  go_simp
  go_at_call 17
  refine (hRm.out _ (HBel.out.trans (hBh0.mono hlow))).mono ?_
  rintro e wh1 ⟨rfl, hbh1⟩
  have hBh1 : Below U6.heap.size U6 wh1 := below_step hBh0 hbh1
  have hSh1 : (fun w' : World => w'.cell? ⟨N_b, 0, none⟩ = some (.int .i64 X.q) ∧ w'.cell? ⟨N_b, 1, none⟩ = some (.int .i64 X.n) ∧ w'.cell? ⟨N_b, 2, none⟩ = some (.int .i64 X.S.g) ∧ w'.cell? ⟨N_b, 3, none⟩ = some (.int .i64 X.S.c) ∧ w'.cell? ⟨N_b, 4, none⟩ = some (.int .i64 X.S.mn) ∧ w'.cell? ⟨N_b, 5, none⟩ = some (.int .i64 X.S.mx)) wh1 := ⟨(hBh1.cell (p := ⟨N_b, 0, none⟩) (show N_b < U6.heap.size by omega)).trans b0, (hBh1.cell (p := ⟨N_b, 1, none⟩) (show N_b < U6.heap.size by omega)).trans b1, (hBh1.cell (p := ⟨N_b, 2, none⟩) (show N_b < U6.heap.size by omega)).trans b2, (hBh1.cell (p := ⟨N_b, 3, none⟩) (show N_b < U6.heap.size by omega)).trans b3, (hBh1.cell (p := ⟨N_b, 4, none⟩) (show N_b < U6.heap.size by omega)).trans b4, (hBh1.cell (p := ⟨N_b, 5, none⟩) (show N_b < U6.heap.size by omega)).trans b5⟩
  refine hK.out _ _ hSh1 ?_
  clear hK K
  refine held_take (v := ?_) 6 62 rfl rfl (by kernel_rfl) (by kernel_rfl) (by kernel_rfl) (fun _ _ _ h => h) ⟨by rfl, ?_⟩ hSh1 ?_
  rotate_left
  · intro w' hw'; obtain ⟨x0, x1, x2, x3, x4, x5⟩ := hw'; go_simp; (try with_reducible rfl)
  simp only [Act.put, List.setIfInBounds_toArray, List.set_cons_zero, List.set_cons_succ]
  refine held_take (v := ?_) 7 12 rfl rfl (by kernel_rfl) (by kernel_rfl) (by kernel_rfl) (fun _ _ _ h => h) ⟨by rfl, ?_⟩ hSh1 ?_
  rotate_left
  · intro w' hw'; obtain ⟨x0, x1, x2, x3, x4, x5⟩ := hw'; go_simp; (try with_reducible rfl)
  simp only [Act.put, List.setIfInBounds_toArray, List.set_cons_zero, List.set_cons_succ]
  refine wpAnyH_done (by kernel_rfl) ?_ _
  have hb9 := hBh1
  clear b0 b1 b2 b3 b4 b5
  have hs9 := hb9.size
  replace HBel := Lib.hid (HBel.out.trans (hb9.mono hlow))
  replace B_b : Hid (wh1.heap[N_b]? = some (.cells #[.int .i64 X.q, .int .i64 X.n, .int .i64 X.S.g, .int .i64 X.S.c, .int .i64 X.S.mn, .int .i64 X.S.mx] 29 (0, 0))) := Lib.hid ((hb9.block _ l_b).trans B_b.out)
  replace B_f : Hid (wh1.heap[N_f]? = some (.cells #[.int .i64 1048576, .int .i64 1048576] 24 (0, 0))) := Lib.hid ((hb9.block _ l_f).trans B_f.out)
  replace l_b : N_b < wh1.heap.size := by omega
  replace l_f : N_f < wh1.heap.size := by omega
  replace hlow : w.heap.size ≤ wh1.heap.size := by omega
  clear hb9 hs9 hSh0 hBh0 hSh1 hBh1
  by_cases hfit : X.n ≤ (r : Int)
  · have hT9 := HT9.out
    have hE2 := Lib.hid HE2.out
    clear HT9 HE2
    have d1 : decide (X.n ≤ (r : Int)) = true := decide_eq_true hfit
    have d2 : decide ((r : Int) ≥ X.n) = true := decide_eq_true hfit
    rw [if_pos hfit] at hT9
    have e1 : (T == now) = true := by simp [hT9]
    have e2 : (T != now) = false := by simp [hT9]
    simp only [if_pos hfit] at hE2
    clear hfit hT9
    have b0 : wh1.cell? ⟨N_b, 0, none⟩ = some (.int .i64 X.q) := cell_blk (i := 0) B_b.out rfl
    have b1 : wh1.cell? ⟨N_b, 1, none⟩ = some (.int .i64 X.n) := cell_blk (i := 1) B_b.out rfl
    have b2 : wh1.cell? ⟨N_b, 2, none⟩ = some (.int .i64 X.S.g) := cell_blk (i := 2) B_b.out rfl
    have b3 : wh1.cell? ⟨N_b, 3, none⟩ = some (.int .i64 X.S.c) := cell_blk (i := 3) B_b.out rfl
    have b4 : wh1.cell? ⟨N_b, 4, none⟩ = some (.int .i64 X.S.mn) := cell_blk (i := 4) B_b.out rfl
    have b5 : wh1.cell? ⟨N_b, 5, none⟩ = some (.int .i64 X.S.mx) := cell_blk (i := 5) B_b.out rfl
    rw [d1]
    clear d1 d2
    go_wp2
    clear b0 b1 b2 b3 b4 b5
    obtain ⟨V8, hV8⟩ : ∃ W, W = wh1.alloc (.cells #[.int .i64 0, .int .i64 q1', .int .i64 un, .bool false, .slice none 0 0] 41) := ⟨_, rfl⟩
    rw [← hV8]
    have hzV8 : V8.heap.size = wh1.heap.size + 1 := by rw [hV8]; simp
    replace HBel : Hid (Below w.heap.size w V8) := Lib.hid (by rw [hV8]; exact (HBel.out.alloc (hlow) _))
    replace B_b : Hid (V8.heap[N_b]? = some (.cells #[.int .i64 X.q, .int .i64 X.n, .int .i64 X.S.g, .int .i64 X.S.c, .int .i64 X.S.mn, .int .i64 X.S.mx] 29 (0, 0))) := Lib.hid (by rw [hV8]; exact ((Below.heap_alloc _ _ _ (by first | omega | (simp <;> omega))).trans B_b.out))
    replace B_f : Hid (V8.heap[N_f]? = some (.cells #[.int .i64 1048576, .int .i64 1048576] 24 (0, 0))) := Lib.hid (by rw [hV8]; exact ((Below.heap_alloc _ _ _ (by first | omega | (simp <;> omega))).trans B_f.out))
    have B_h : Hid (V8.heap[wh1.heap.size]? = some (.cells #[.int .i64 0, .int .i64 q1', .int .i64 un, .bool false, .slice none 0 0] 41 (0, 0))) := Lib.hid (by
      have h9 := heap_alloc_new (wh1) (.cells #[.int .i64 0, .int .i64 q1', .int .i64 un, .bool false, .slice none 0 0] 41)
      rw [hV8]; exact h9)
    obtain ⟨N_h, hN_h⟩ : ∃ N, N = wh1.heap.size := ⟨_, rfl⟩
    (try rw [← hN_h])
    rw [← hN_h] at B_h
    have d_b_h : N_b < N_h := by omega
    have d_f_h : N_f < N_h := by omega
    replace l_b : N_b < V8.heap.size := by omega
    replace l_f : N_f < V8.heap.size := by omega
    have l_h : N_h < V8.heap.size := by omega
    have g_h : w.heap.size ≤ N_h := by omega
    replace hlow : w.heap.size ≤ V8.heap.size := by omega
    clear hV8 hzV8 hN_h
    obtain ⟨S1, hS1⟩ : ∃ S, S = V8.heap.size := ⟨_, rfl⟩
    have hbS : N_b < S1 := by omega
    have hfS : N_f < S1 := by omega
    have hhS : N_h < S1 := by omega
    have hwS : w.heap.size ≤ S1 := by omega
    have hS1w : S1 ≤ V8.heap.size := by omega
    obtain ⟨i0, hi0, hz00, hz01, hz02⟩ := info_parts info_freeP
    obtain ⟨i1, hi1, hz10, hz11, hz12⟩ := info_parts info_slot4
    have hn7 : n ≤ 70 := by have := HV.out.2.1; omega
    clear hS1
    go_loopw [13, 15] (fun v vi wr => ∃ (k : Nat) (A : Option Addr) (cp : Nat) (A2 : Option Addr) (cp2 : Nat), vi = .int .i64 k ∧ v = .slice A k cp ∧ k ≤ n ∧ S1 ≤ wr.heap.size ∧ Hid (Below w.heap.size w wr) ∧ Hid (wr.heap[N_b]? = some (.cells #[.int .i64 X.q, .int .i64 X.n, .int .i64 X.S.g, .int .i64 X.S.c, .int .i64 X.S.mn, .int .i64 X.S.mx] 29 (0, 0))) ∧ Hid (wr.heap[N_f]? = some (.cells #[.int .i64 1048576, .int .i64 1048576] 24 (0, 0))) ∧ Hid (wr.heap[N_h]? = some (.cells #[.int .i64 0, .int .i64 q1', .int .i64 un, .bool false, .slice A2 k cp2] 41 (0, 0))) ∧ Hid (wr.ownsRow S1 51 4 (.slice A k cp) k (((bareL l1).take k).flatMap feC)) ∧ Hid (wr.ownsRow S1 52 4 (.slice A2 k cp2) k ((l1.take k).flatMap feC)) ∧ Hid (Apart2 (.slice A k cp) (.slice A2 k cp2))) (fun _ vi _ => n - (intOf vi).toNat)
    case atStart => exact ⟨0, none, 0, none, 0, rfl, rfl, by omega, hS1w, HBel, B_b, B_f, B_h, Lib.hid (World.ownsRow_nil _ _ _ _), Lib.hid (World.ownsRow_nil _ _ _ _), Lib.hid (fun b e => by cases e)⟩
    case round =>
      clear HBel B_b B_f B_h l_b l_f l_h hlow hS1w
      obtain ⟨k, A, cp, A2, cp2, rfl, rfl, hk, hS1w, HBel, B_b, B_f, B_h, hOE, hOS, hAp⟩ := hrel
      have hBs := HBel.out.size
      by_cases hlt : k < n
      · have t7 : decide (k < n) = true := decide_eq_true hlt
        obtain ⟨f, hx⟩ := get_lt (l := l1) (k := k) (by rw [← HV.out.2.1]; exact hlt)
        obtain ⟨b, off, rfl, hb, hall⟩ := HV.out.1.at_ hx
        obtain ⟨f0, f1, f2, f3⟩ := (hall k f hx).keep hb HBel.out
        have HC := Lib.hid (hall k f hx)
        have hbx : (bareL l1)[k]? = some (bare f) := by unfold bareL; rw [List.getElem?_map, hx]; rfl
        have hN1 : Hid (((bareL l1).take (k + 1)).flatMap feC = ((bareL l1).take k).flatMap feC ++ [bare f].flatMap feC) := Lib.hid (by rw [take_next hbx, List.flatMap_append])
        have hN2 : Hid ((l1.take (k + 1)).flatMap feC = (l1.take k).flatMap feC ++ [f].flatMap feC) := Lib.hid (by rw [take_next hx, List.flatMap_append])
        have hbS1 : b < S1 := by omega
        clear hx hall hbx
        go_wp2_with (at_builtin; refine wpList_append_els (C := feC) (k := 4) _ rfl _ _ 22 rfl S1 51 i0 _ 32 Tryd.underlying22 hi0 hz00 hz01 hz02 rfl (by decide) (.slice A k cp) k (((bareL l1).take k).flatMap feC) rfl (hOE.out.alloc _) _ (some ⟨wr.heap.size, 0, none⟩) 1 1 [bare f] rfl (one_elsF wr (bare f)) rfl feC_len1 feC_one1 (by unfold maxLen; omega) (by omega) (by first | omega | (simp; omega)) ?_; intro A5 c5 w5 own5 g5 k5)
        have hne5 : ∀ p, p < S1 → some p ≠ (Value.slice A k cp).ownBlock := fun p hp e => by have := (hOE.out.lt p e.symm).1; omega
        have hs5 : wr.heap.size + 1 ≤ w5.heap.size := by have := g5.size; rw [World.size_alloc] at this; exact this
        have hB5 : Hid (Below w.heap.size w w5) := Lib.hid ((HBel.out.alloc hBs _).grown g5 (by rw [World.size_alloc]; omega) (fun i e => by have := (hOE.out.lt i e).1; omega))
        have bk5 : ∀ p, p < wr.heap.size → some p ≠ (Value.slice A k cp).ownBlock → w5.heap[p]? = wr.heap[p]? := fun p hp hne => (g5.block p (by rw [World.size_alloc]; omega) hne).trans (Below.heap_alloc _ _ _ hp)
        have B_b5 : Hid (w5.heap[N_b]? = some (.cells #[.int .i64 X.q, .int .i64 X.n, .int .i64 X.S.g, .int .i64 X.S.c, .int .i64 X.S.mn, .int .i64 X.S.mx] 29 (0, 0))) := Lib.hid ((bk5 N_b (by omega) (hne5 N_b hbS)).trans B_b.out)
        have B_f5 : Hid (w5.heap[N_f]? = some (.cells #[.int .i64 1048576, .int .i64 1048576] 24 (0, 0))) := Lib.hid ((bk5 N_f (by omega) (hne5 N_f hfS)).trans B_f.out)
        have B_h5 : Hid (w5.heap[N_h]? = some (.cells #[.int .i64 0, .int .i64 q1', .int .i64 un, .bool false, .slice A2 k cp2] 41 (0, 0))) := Lib.hid ((bk5 N_h (by omega) (hne5 N_h hhS)).trans B_h.out)
        have hO5 : Hid (w5.ownsRow S1 52 4 (.slice A2 k cp2) k ((l1.take k).flatMap feC)) := Lib.hid (own_stays hOS.out fun i hi => bk5 i (hOS.out.lt i hi).2 (fun e => hAp.out i e.symm hi))
        have hE5 : Hid (w5.ownsRow S1 51 4 (.slice A5 (k + 1) c5) (k + 1) (((bareL l1).take (k + 1)).flatMap feC)) := Lib.hid (by rw [hN1.out]; exact own5)
        have hA5 : Hid (Apart2 (.slice A5 (k + 1) c5) (.slice A2 k cp2)) := Lib.hid (fun i e e2 => by
          rcases k5 with k5 | k5
          · rw [k5] at e; exact hAp.out i e e2
          · rw [k5] at e; have := (hOS.out.lt i e2).2; rw [World.size_alloc] at e; injection e with e; omega)
        have hS5 : (fun w' : World => w'.cell? ⟨N_h, 4, none⟩ = some (.slice A2 k cp2) ∧ w'.cell? ⟨b, off + k * 4, none⟩ = some (.int .i64 f.n) ∧ w'.cell? ⟨b, off + k * 4 + 1, none⟩ = some (.int .i64 f.d) ∧ w'.cell? ⟨b, off + k * 4 + 2, none⟩ = some (.int .u64 (f.m : Nat)) ∧ w'.cell? ⟨b, off + k * 4 + 3, none⟩ = some (.int .i64 f.c)) w5 := by
          obtain ⟨q0, q1, q2, q3⟩ := HC.out.keep hb hB5.out
          exact ⟨cell_blk (i := 4) B_h5.out rfl, q0, q1, q2, q3⟩
        have hw5 : S1 ≤ w5.heap.size := by omega
        clear own5 g5 k5 hne5 bk5 hOE hOS hAp B_b B_f B_h HBel f0 f1 f2 f3 hBs HC
        go_wp2_with fail
        refine wp_until (fun w' : World => w'.cell? ⟨N_h, 4, none⟩ = some (.slice A2 k cp2) ∧ w'.cell? ⟨b, off + k * 4, none⟩ = some (.int .i64 f.n) ∧ w'.cell? ⟨b, off + k * 4 + 1, none⟩ = some (.int .i64 f.d) ∧ w'.cell? ⟨b, off + k * 4 + 2, none⟩ = some (.int .u64 (f.m : Nat)) ∧ w'.cell? ⟨b, off + k * 4 + 3, none⟩ = some (.int .i64 f.c)) 21 (by kernel_rfl) ?_
        have hS : (fun w' : World => w'.cell? ⟨N_h, 4, none⟩ = some (.slice A2 k cp2) ∧ w'.cell? ⟨b, off + k * 4, none⟩ = some (.int .i64 f.n) ∧ w'.cell? ⟨b, off + k * 4 + 1, none⟩ = some (.int .i64 f.d) ∧ w'.cell? ⟨b, off + k * 4 + 2, none⟩ = some (.int .u64 (f.m : Nat)) ∧ w'.cell? ⟨b, off + k * 4 + 3, none⟩ = some (.int .i64 f.c)) w5.drew := hS5
        refine until_take (v := ?_) 0 101 rfl rfl (by kernel_rfl) (by kernel_rfl) (by kernel_rfl) (by kernel_rfl) (fun _ _ _ h => h) ⟨by rfl, ?_⟩ hS ?_
        rotate_left
        · intro w' hw'; obtain ⟨x0, x1, x2, x3, x4⟩ := hw'; go_simp; (try with_reducible rfl)
        simp only [Act.put, List.setIfInBounds_toArray, List.set_cons_zero, List.set_cons_succ]
        refine until_take (v := ?_) 1 102 rfl rfl (by kernel_rfl) (by kernel_rfl) (by kernel_rfl) (by kernel_rfl) (fun _ _ _ h => h) ⟨by rfl, ?_⟩ hS ?_
        rotate_left
        · intro w' hw'; obtain ⟨x0, x1, x2, x3, x4⟩ := hw'; go_simp; (try with_reducible rfl)
        simp only [Act.put, List.setIfInBounds_toArray, List.set_cons_zero, List.set_cons_succ]
        refine until_take (v := ?_) 2 103 rfl rfl (by kernel_rfl) (by kernel_rfl) (by kernel_rfl) (by kernel_rfl) (fun _ _ _ h => h) ⟨by rfl, ?_⟩ hS ?_
        rotate_left
        · intro w' hw'; obtain ⟨x0, x1, x2, x3, x4⟩ := hw'; go_simp; (try with_reducible rfl)
        simp only [Act.put, List.setIfInBounds_toArray, List.set_cons_zero, List.set_cons_succ]
        refine until_take (v := ?_) 3 104 rfl rfl (by kernel_rfl) (by kernel_rfl) (by kernel_rfl) (by kernel_rfl) (fun _ _ _ h => h) ⟨by rfl, ?_⟩ hS ?_
        rotate_left
        · intro w' hw'; obtain ⟨x0, x1, x2, x3, x4⟩ := hw'; go_simp; (try with_reducible rfl)
        simp only [Act.put, List.setIfInBounds_toArray, List.set_cons_zero, List.set_cons_succ]
        refine until_take (v := ?_) 4 105 rfl rfl (by kernel_rfl) (by kernel_rfl) (by kernel_rfl) (by kernel_rfl) (fun _ _ _ h => h) ⟨by rfl, ?_⟩ hS ?_
        rotate_left
        · intro w' hw'; obtain ⟨x0, x1, x2, x3, x4⟩ := hw'; go_simp; (try with_reducible rfl)
        simp only [Act.put, List.setIfInBounds_toArray, List.set_cons_zero, List.set_cons_succ]
        refine until_take (v := ?_) 5 106 rfl rfl (by kernel_rfl) (by kernel_rfl) (by kernel_rfl) (by kernel_rfl) (fun _ _ _ h => h) ⟨by rfl, ?_⟩ hS ?_
        rotate_left
        · intro w' hw'; obtain ⟨x0, x1, x2, x3, x4⟩ := hw'; go_simp; (try with_reducible rfl)
        simp only [Act.put, List.setIfInBounds_toArray, List.set_cons_zero, List.set_cons_succ]
        refine until_take (v := ?_) 6 107 rfl rfl (by kernel_rfl) (by kernel_rfl) (by kernel_rfl) (by kernel_rfl) (fun _ _ _ h => h) ⟨by rfl, ?_⟩ hS ?_
        rotate_left
        · intro w' hw'; obtain ⟨x0, x1, x2, x3, x4⟩ := hw'; go_simp; (try with_reducible rfl)
        simp only [Act.put, List.setIfInBounds_toArray, List.set_cons_zero, List.set_cons_succ]
        refine until_take (v := ?_) 7 108 rfl rfl (by kernel_rfl) (by kernel_rfl) (by kernel_rfl) (by kernel_rfl) (fun _ _ _ h => h) ⟨by rfl, ?_⟩ hS ?_
        rotate_left
        · intro w' hw'; obtain ⟨x0, x1, x2, x3, x4⟩ := hw'; go_simp; (try with_reducible rfl)
        simp only [Act.put, List.setIfInBounds_toArray, List.set_cons_zero, List.set_cons_succ]
        refine until_take (v := ?_) 8 109 rfl rfl (by kernel_rfl) (by kernel_rfl) (by kernel_rfl) (by kernel_rfl) (fun _ _ _ h => h) ⟨by rfl, ?_⟩ hS ?_
        rotate_left
        · intro w' hw'; obtain ⟨x0, x1, x2, x3, x4⟩ := hw'; go_simp; (try with_reducible rfl)
        simp only [Act.put, List.setIfInBounds_toArray, List.set_cons_zero, List.set_cons_succ]
        refine until_take (v := ?_) 9 110 rfl rfl (by kernel_rfl) (by kernel_rfl) (by kernel_rfl) (by kernel_rfl) (fun _ _ _ h => h) ⟨by rfl, ?_⟩ hS ?_
        rotate_left
        · intro w' hw'; obtain ⟨x0, x1, x2, x3, x4⟩ := hw'; go_simp; (try with_reducible rfl)
        simp only [Act.put, List.setIfInBounds_toArray, List.set_cons_zero, List.set_cons_succ]
        refine until_take (v := ?_) 10 111 rfl rfl (by kernel_rfl) (by kernel_rfl) (by kernel_rfl) (by kernel_rfl) (fun _ _ _ h => h) ⟨by rfl, ?_⟩ hS ?_
        rotate_left
        · intro w' hw'; obtain ⟨x0, x1, x2, x3, x4⟩ := hw'; go_simp; (try with_reducible rfl)
        simp only [Act.put, List.setIfInBounds_toArray, List.set_cons_zero, List.set_cons_succ]
        refine until_take (v := ?_) 11 112 rfl rfl (by kernel_rfl) (by kernel_rfl) (by kernel_rfl) (by kernel_rfl) (fun _ _ _ h => h) ⟨by rfl, ?_⟩ hS ?_
        rotate_left
        · intro w' hw'; obtain ⟨x0, x1, x2, x3, x4⟩ := hw'; go_simp; (try with_reducible rfl)
        simp only [Act.put, List.setIfInBounds_toArray, List.set_cons_zero, List.set_cons_succ]
        refine until_take (v := ?_) 12 113 rfl rfl (by kernel_rfl) (by kernel_rfl) (by kernel_rfl) (by kernel_rfl) (fun _ _ _ h => h) ⟨by rfl, ?_⟩ hS ?_
        rotate_left
        · intro w' hw'; obtain ⟨x0, x1, x2, x3, x4⟩ := hw'; go_simp; (try with_reducible rfl)
        simp only [Act.put, List.setIfInBounds_toArray, List.set_cons_zero, List.set_cons_succ]
        refine until_take (v := ?_) 13 114 rfl rfl (by kernel_rfl) (by kernel_rfl) (by kernel_rfl) (by kernel_rfl) (fun _ _ _ h => h) ⟨by rfl, ?_⟩ hS ?_
        rotate_left
        · intro w' hw'; obtain ⟨x0, x1, x2, x3, x4⟩ := hw'; go_simp; (try with_reducible rfl)
        simp only [Act.put, List.setIfInBounds_toArray, List.set_cons_zero, List.set_cons_succ]
        refine until_take (v := ?_) 14 115 rfl rfl (by kernel_rfl) (by kernel_rfl) (by kernel_rfl) (by kernel_rfl) (fun _ _ _ h => h) ⟨by rfl, ?_⟩ hS ?_
        rotate_left
        · intro w' hw'; obtain ⟨x0, x1, x2, x3, x4⟩ := hw'; go_simp; (try with_reducible rfl)
        simp only [Act.put, List.setIfInBounds_toArray, List.set_cons_zero, List.set_cons_succ]
        refine until_take (v := ?_) 15 116 rfl rfl (by kernel_rfl) (by kernel_rfl) (by kernel_rfl) (by kernel_rfl) (fun _ _ _ h => h) ⟨by rfl, ?_⟩ hS ?_
        rotate_left
        · intro w' hw'; obtain ⟨x0, x1, x2, x3, x4⟩ := hw'; go_simp; (try with_reducible rfl)
        simp only [Act.put, List.setIfInBounds_toArray, List.set_cons_zero, List.set_cons_succ]
        refine until_take (v := ?_) 16 117 rfl rfl (by kernel_rfl) (by kernel_rfl) (by kernel_rfl) (by kernel_rfl) (fun _ _ _ h => h) ⟨by rfl, ?_⟩ hS ?_
        rotate_left
        · intro w' hw'; obtain ⟨x0, x1, x2, x3, x4⟩ := hw'; go_simp; (try with_reducible rfl)
        simp only [Act.put, List.setIfInBounds_toArray, List.set_cons_zero, List.set_cons_succ]
        refine until_take (v := ?_) 17 118 rfl rfl (by kernel_rfl) (by kernel_rfl) (by kernel_rfl) (by kernel_rfl) (fun _ _ _ h => h) ⟨by rfl, ?_⟩ hS ?_
        rotate_left
        · intro w' hw'; obtain ⟨x0, x1, x2, x3, x4⟩ := hw'; go_simp; (try with_reducible rfl)
        simp only [Act.put, List.setIfInBounds_toArray, List.set_cons_zero, List.set_cons_succ]
        refine until_one 18 rfl (by kernel_rfl) rfl (fun K hK => ?_)
        go_simp
        have hst := (Below.refl w5.heap.size w5.drew).alloc (show w5.heap.size ≤ w5.drew.heap.size from Nat.le_refl _) (.cells #[.int .i64 f.n, .int .i64 f.d, .int .u64 (f.m : Nat), .int .i64 f.c] 52)
        have hS6 : (fun w' : World => w'.cell? ⟨N_h, 4, none⟩ = some (.slice A2 k cp2) ∧ w'.cell? ⟨b, off + k * 4, none⟩ = some (.int .i64 f.n) ∧ w'.cell? ⟨b, off + k * 4 + 1, none⟩ = some (.int .i64 f.d) ∧ w'.cell? ⟨b, off + k * 4 + 2, none⟩ = some (.int .u64 (f.m : Nat)) ∧ w'.cell? ⟨b, off + k * 4 + 3, none⟩ = some (.int .i64 f.c)) (w5.drew.alloc (.cells #[.int .i64 f.n, .int .i64 f.d, .int .u64 (f.m : Nat), .int .i64 f.c] 52)) := ⟨(hst.cell (p := ⟨N_h, 4, none⟩) (show N_h < _ by omega)).trans hS.1, (hst.cell (p := ⟨b, off + k * 4, none⟩) (show b < _ by omega)).trans hS.2.1, (hst.cell (p := ⟨b, off + k * 4 + 1, none⟩) (show b < _ by omega)).trans hS.2.2.1, (hst.cell (p := ⟨b, off + k * 4 + 2, none⟩) (show b < _ by omega)).trans hS.2.2.2.1, (hst.cell (p := ⟨b, off + k * 4 + 3, none⟩) (show b < _ by omega)).trans hS.2.2.2.2⟩
        refine hK.out _ _ (fun _ => hS6) ?_
        clear hK K
        try simp only [Act.put, List.setIfInBounds_toArray, List.set_cons_zero, List.set_cons_succ]
        refine until_one 19 rfl (by kernel_rfl) rfl (fun K hK => ?_)
        simp only [Go.wp_at_zero, Go.wp_at_succ]
        refine wp_append_els (C := feC) (k := 4) _ _ _ 39 rfl S1 52 i1 _ 32 Tryd.underlying39 hi1 hz10 hz11 hz12 rfl (by decide) (.slice A2 k cp2) k ((l1.take k).flatMap feC) rfl (hO5.out.alloc _) _ (some ⟨w5.heap.size, 0, none⟩) 1 1 [f] rfl (one_els _ f) rfl feC_len1 feC_one1 (by unfold maxLen; omega) (by omega) (show S1 ≤ (w5.alloc (.cells #[.int .i64 f.n, .int .i64 f.d, .int .u64 (f.m : Nat), .int .i64 f.c] 52)).heap.size by rw [World.size_alloc]; omega) ?_
        intro A6 c6 w7 own7 g7 k7
        have hne7 : ∀ p, p < S1 → some p ≠ (Value.slice A2 k cp2).ownBlock := fun p hp e => by have := (hO5.out.lt p e.symm).1; omega
        have hS7 : (fun w' : World => w'.cell? ⟨N_h, 4, none⟩ = some (.slice A2 k cp2) ∧ w'.cell? ⟨b, off + k * 4, none⟩ = some (.int .i64 f.n) ∧ w'.cell? ⟨b, off + k * 4 + 1, none⟩ = some (.int .i64 f.d) ∧ w'.cell? ⟨b, off + k * 4 + 2, none⟩ = some (.int .u64 (f.m : Nat)) ∧ w'.cell? ⟨b, off + k * 4 + 3, none⟩ = some (.int .i64 f.c)) w7 := ⟨(g7.cell_far ⟨N_h, 4, none⟩ (show N_h < (w5.alloc (.cells #[.int .i64 f.n, .int .i64 f.d, .int .u64 (f.m : Nat), .int .i64 f.c] 52)).heap.size by rw [World.size_alloc]; omega) (hne7 N_h hhS)).trans hS6.1, (g7.cell_far ⟨b, off + k * 4, none⟩ (show b < (w5.alloc (.cells #[.int .i64 f.n, .int .i64 f.d, .int .u64 (f.m : Nat), .int .i64 f.c] 52)).heap.size by rw [World.size_alloc]; omega) (hne7 b (by omega))).trans hS6.2.1, (g7.cell_far ⟨b, off + k * 4 + 1, none⟩ (show b < (w5.alloc (.cells #[.int .i64 f.n, .int .i64 f.d, .int .u64 (f.m : Nat), .int .i64 f.c] 52)).heap.size by rw [World.size_alloc]; omega) (hne7 b (by omega))).trans hS6.2.2.1, (g7.cell_far ⟨b, off + k * 4 + 2, none⟩ (show b < (w5.alloc (.cells #[.int .i64 f.n, .int .i64 f.d, .int .u64 (f.m : Nat), .int .i64 f.c] 52)).heap.size by rw [World.size_alloc]; omega) (hne7 b (by omega))).trans hS6.2.2.2.1, (g7.cell_far ⟨b, off + k * 4 + 3, none⟩ (show b < (w5.alloc (.cells #[.int .i64 f.n, .int .i64 f.d, .int .u64 (f.m : Nat), .int .i64 f.c] 52)).heap.size by rw [World.size_alloc]; omega) (hne7 b (by omega))).trans hS6.2.2.2.2⟩
        have hH7 : w7.heap[N_h]? = some (.cells #[.int .i64 0, .int .i64 q1', .int .i64 un, .bool false, .slice A2 k cp2] 41 (0, 0)) := (g7.block N_h (show N_h < (w5.alloc (.cells #[.int .i64 f.n, .int .i64 f.d, .int .u64 (f.m : Nat), .int .i64 f.c] 52)).heap.size by rw [World.size_alloc]; omega) (hne7 N_h hhS)).trans ((Below.heap_alloc _ _ _ (show N_h < w5.heap.size by omega)).trans B_h5.out)
        have zh : w7.frozen? ⟨N_h, 4, none⟩ = false := frozen_blk hH7
        refine hK.out _ _ (fun _ => hS7) ?_
        clear hK K
        try simp only [Act.put, List.setIfInBounds_toArray, List.set_cons_zero, List.set_cons_succ]
        refine until_one 20 rfl (by kernel_rfl) rfl (fun K hK => ?_)
        go_simp
        refine hK.out _ _ (fun _ => hS7) ?_
        clear hK K
        try simp only [Act.put, List.setIfInBounds_toArray, List.set_cons_zero, List.set_cons_succ]
        refine until_one 21 rfl (by kernel_rfl) rfl (fun K hK => ?_)
        have zc := hS7.1
        go_simp
        refine hK.out _ _ (fun h => absurd h (by decide)) ?_
        clear hK K
        refine until_done (by kernel_rfl) ?_
        obtain ⟨w8, hw8⟩ : ∃ W, W = w7.setCell ⟨N_h, 4, none⟩ (.slice A6 (k + 1) c6) := ⟨_, rfl⟩
        have hs7 : w5.heap.size + 1 ≤ w7.heap.size := by have := show (w5.alloc (.cells #[.int .i64 f.n, .int .i64 f.d, .int .u64 (f.m : Nat), .int .i64 f.c] 52)).heap.size ≤ w7.heap.size from g7.size; rw [World.size_alloc] at this; exact this
        have hz8 : w8.heap.size = w7.heap.size := by rw [hw8]; simp
        have bk7 : ∀ p, p < w5.heap.size → some p ≠ (Value.slice A2 k cp2).ownBlock → p ≠ N_h → w8.heap[p]? = w5.heap[p]? := fun p hp hne hpn => by
          rw [hw8]
          exact (Below.heap_setCell _ _ _ _ hpn).trans ((g7.block p (show p < (w5.alloc (.cells #[.int .i64 f.n, .int .i64 f.d, .int .u64 (f.m : Nat), .int .i64 f.c] 52)).heap.size by rw [World.size_alloc]; omega) hne).trans (Below.heap_alloc _ _ _ hp))
        have N_B : Hid (Below w.heap.size w w8) := Lib.hid (by
          rw [hw8]
          exact ((hB5.out.alloc hB5.out.size (.cells #[.int .i64 f.n, .int .i64 f.d, .int .u64 (f.m : Nat), .int .i64 f.c] 52)).drew.grown g7 (show w.heap.size ≤ (w5.alloc (.cells #[.int .i64 f.n, .int .i64 f.d, .int .u64 (f.m : Nat), .int .i64 f.c] 52)).heap.size by rw [World.size_alloc]; have := hB5.out.size; omega) (fun i e => by have := (hO5.out.lt i e).1; omega)).setCell (show w.heap.size ≤ N_h by omega) _)
        have N_b8 : Hid (w8.heap[N_b]? = some (.cells #[.int .i64 X.q, .int .i64 X.n, .int .i64 X.S.g, .int .i64 X.S.c, .int .i64 X.S.mn, .int .i64 X.S.mx] 29 (0, 0))) := Lib.hid ((bk7 N_b (by omega) (hne7 N_b hbS) (by omega)).trans B_b5.out)
        have N_f8 : Hid (w8.heap[N_f]? = some (.cells #[.int .i64 1048576, .int .i64 1048576] 24 (0, 0))) := Lib.hid ((bk7 N_f (by omega) (hne7 N_f hfS) (by omega)).trans B_f5.out)
        have N_h8 : Hid (w8.heap[N_h]? = some (.cells #[.int .i64 0, .int .i64 q1', .int .i64 un, .bool false, .slice A6 (k + 1) c6] 41 (0, 0))) := Lib.hid (by rw [hw8]; exact blk_put (i := 4) _ hH7)
        have N_E : Hid (w8.ownsRow S1 51 4 (.slice A5 (k + 1) c5) (k + 1) (((bareL l1).take (k + 1)).flatMap feC)) := Lib.hid (own_stays hE5.out fun i hi => bk7 i (hE5.out.lt i hi).2 (fun e => hA5.out i hi e.symm) (fun e => by have := (hE5.out.lt i hi).1; omega))
        have N_S : Hid (w8.ownsRow S1 52 4 (.slice A6 (k + 1) c6) (k + 1) ((l1.take (k + 1)).flatMap feC)) := Lib.hid (by
          rw [hN2.out]
          refine own_stays own7 fun i hi => ?_
          rw [hw8]
          exact Below.heap_setCell _ _ _ _ (fun e => by have := (own7.lt i hi).1; have e : i = N_h := e; omega))
        have N_A : Hid (Apart2 (.slice A5 (k + 1) c5) (.slice A6 (k + 1) c6)) := Lib.hid (fun i e e2 => by
          rcases k7 with k7 | k7
          · rw [k7] at e2; exact hA5.out i e e2
          · rw [k7] at e2; have := (hE5.out.lt i e).2; have e3 : (w5.alloc (.cells #[.int .i64 f.n, .int .i64 f.d, .int .u64 (f.m : Nat), .int .i64 f.c] 52)).heap.size = i := Option.some.inj e2; rw [World.size_alloc] at e3; omega)
        have hw8s : S1 ≤ w8.heap.size := by omega
        (try rw [← hw8])
        clear hS hS5 hS6 hS7 hst hH7 zh zc own7 g7 k7 hne7 bk7 hw8 B_b5 B_f5 B_h5 hO5 hE5 hA5 hB5 hs7 hz8
        go_wp2
        go_roundw
        case rel => exact ⟨k + 1, A5, c5, A6, c6, by go_num, rfl, by omega, hw8s, N_B, N_b8, N_f8, N_h8, N_E, N_S, N_A⟩
        case measure => simp [intOf]; omega
      · obtain rfl : n = k := by omega
        have t7 : decide (n < n) = false := by simp
        have e9 : (bareL l1).take n = bareL l1 := by rw [HV.out.2.1]; exact List.take_of_length_le (by unfold bareL; simp)
        have e8 : l1.take n = l1 := by rw [HV.out.2.1]; exact List.take_length
        rw [e9] at hOE
        rw [e8] at hOS
        have hlE : n = (bareL l1).length := by rw [HV.out.2.1]; unfold bareL; simp
        have hFE : Fes wr wr.heap.size A (bareL l1) := fe_own (c := cp) (by rw [← hlE]; exact hOE.out)
        have hFS : Fes wr wr.heap.size A2 l1 := fe_own (c := cp2) (by rw [← HV.out.2.1]; exact hOS.out)
        have hc2 : n ≤ cp2 ∧ cp2 ≤ maxLen := own_cap hOS.out
        obtain ⟨V, hV⟩ : ∃ V, V = wr.alloc (.cells #[.int .i64 0, .int .i64 q1', .int .i64 un, .bool false, .slice A2 n cp2] 41) := ⟨_, rfl⟩
        have hb9 : Below wr.heap.size wr V := by rw [hV]; exact (Below.refl _ _).alloc (Nat.le_refl _) _
        have bV : V.heap[wr.heap.size]? = some (.cells #[.int .i64 0, .int .i64 q1', .int .i64 un, .bool false, .slice A2 n cp2] 41 (0, 0)) := by rw [hV]; exact heap_alloc_new wr _
        have hBV : Hid (Below w.heap.size w V) := Lib.hid (below_step HBel.out hb9)
        have hEV := Lib.hid (hE2.out A cp wr.heap.size A2 cp2 V hBV.out (hFE.keep hb9 hb9.size) (hFS.keep hb9 hb9.size) bV hc2.1 hc2.2)
        have HVV := Lib.hid hV
        have f0 : wr.cell? ⟨N_f, 0, none⟩ = some (.int .i64 1048576) := cell_blk (i := 0) B_f.out rfl
        have f1 : wr.cell? ⟨N_f, 1, none⟩ = some (.int .i64 1048576) := cell_blk (i := 1) B_f.out rfl
        have b0 : wr.cell? ⟨N_b, 0, none⟩ = _ := cell_blk (i := 0) B_b.out rfl
        have b1 : wr.cell? ⟨N_b, 1, none⟩ = _ := cell_blk (i := 1) B_b.out rfl
        have b2 : wr.cell? ⟨N_b, 2, none⟩ = _ := cell_blk (i := 2) B_b.out rfl
        have b3 : wr.cell? ⟨N_b, 3, none⟩ = _ := cell_blk (i := 3) B_b.out rfl
        have b4 : wr.cell? ⟨N_b, 4, none⟩ = _ := cell_blk (i := 4) B_b.out rfl
        have b5 : wr.cell? ⟨N_b, 5, none⟩ = _ := cell_blk (i := 5) B_b.out rfl
        have h0 : wr.cell? ⟨N_h, 0, none⟩ = _ := cell_blk (i := 0) B_h.out rfl
        have h1 : wr.cell? ⟨N_h, 1, none⟩ = _ := cell_blk (i := 1) B_h.out rfl
        have h2 : wr.cell? ⟨N_h, 2, none⟩ = _ := cell_blk (i := 2) B_h.out rfl
        have h3 : wr.cell? ⟨N_h, 3, none⟩ = _ := cell_blk (i := 3) B_h.out rfl
        have h4 : wr.cell? ⟨N_h, 4, none⟩ = _ := cell_blk (i := 4) B_h.out rfl
        have lb9 : N_b < wr.heap.size := by omega
        have lf9 : N_f < wr.heap.size := by omega
        have lh9 : N_h < wr.heap.size := by omega
        clear hlE hFE hFS hc2 hV hb9 bV e9 e8 hOE hOS hAp hlt hE2
        go_wp2_with fail
        rw [← HVV.out]
        refine hEV.out.mono ?_
        rintro e w6 ⟨rfl, hb6⟩
        have hB6 : Hid (Below w.heap.size w w6) := Lib.hid (below_step hBV.out hb6)
        have w1 : (un == un) = true := by simp
        clear hb6 hEV f0 f1 b0 b1 b2 b3 b4 b5 h0 h1 h2 h3 h4
        go_wp2
        go_ret
        exact ⟨by first | rfl | simp, by rw [HB0.out]; exact hB6.out⟩
  · have hT9 := HT9.out
    have hE2 := Lib.hid HE2.out
    clear HT9 HE2
    have d1 : decide (X.n ≤ (r : Int)) = false := decide_eq_false hfit
    have d2 : decide ((r : Int) ≥ X.n) = false := decide_eq_false hfit
    rw [if_neg hfit] at hT9
    have e1 : (T == now) = false := by simp; omega
    have e2 : (T != now) = true := by simp; omega
    have e3 : (T != 1073741825) = false := by simp [hT9]
    simp only [if_neg hfit] at hE2
    clear hfit hT9
    have b0 : wh1.cell? ⟨N_b, 0, none⟩ = some (.int .i64 X.q) := cell_blk (i := 0) B_b.out rfl
    have b1 : wh1.cell? ⟨N_b, 1, none⟩ = some (.int .i64 X.n) := cell_blk (i := 1) B_b.out rfl
    have b2 : wh1.cell? ⟨N_b, 2, none⟩ = some (.int .i64 X.S.g) := cell_blk (i := 2) B_b.out rfl
    have b3 : wh1.cell? ⟨N_b, 3, none⟩ = some (.int .i64 X.S.c) := cell_blk (i := 3) B_b.out rfl
    have b4 : wh1.cell? ⟨N_b, 4, none⟩ = some (.int .i64 X.S.mn) := cell_blk (i := 4) B_b.out rfl
    have b5 : wh1.cell? ⟨N_b, 5, none⟩ = some (.int .i64 X.S.mx) := cell_blk (i := 5) B_b.out rfl
    rw [d1]
    clear d1 d2
    go_wp2
    clear b0 b1 b2 b3 b4 b5
    obtain ⟨V8, hV8⟩ : ∃ W, W = wh1.alloc (.cells #[.int .i64 0, .int .i64 q1', .int .i64 un, .bool false, .slice none 0 0] 41) := ⟨_, rfl⟩
    rw [← hV8]
    have hzV8 : V8.heap.size = wh1.heap.size + 1 := by rw [hV8]; simp
    replace HBel : Hid (Below w.heap.size w V8) := Lib.hid (by rw [hV8]; exact (HBel.out.alloc (hlow) _))
    replace B_b : Hid (V8.heap[N_b]? = some (.cells #[.int .i64 X.q, .int .i64 X.n, .int .i64 X.S.g, .int .i64 X.S.c, .int .i64 X.S.mn, .int .i64 X.S.mx] 29 (0, 0))) := Lib.hid (by rw [hV8]; exact ((Below.heap_alloc _ _ _ (by first | omega | (simp <;> omega))).trans B_b.out))
    replace B_f : Hid (V8.heap[N_f]? = some (.cells #[.int .i64 1048576, .int .i64 1048576] 24 (0, 0))) := Lib.hid (by rw [hV8]; exact ((Below.heap_alloc _ _ _ (by first | omega | (simp <;> omega))).trans B_f.out))
    have B_h : Hid (V8.heap[wh1.heap.size]? = some (.cells #[.int .i64 0, .int .i64 q1', .int .i64 un, .bool false, .slice none 0 0] 41 (0, 0))) := Lib.hid (by
      have h9 := heap_alloc_new (wh1) (.cells #[.int .i64 0, .int .i64 q1', .int .i64 un, .bool false, .slice none 0 0] 41)
      rw [hV8]; exact h9)
    obtain ⟨N_h, hN_h⟩ : ∃ N, N = wh1.heap.size := ⟨_, rfl⟩
    (try rw [← hN_h])
    rw [← hN_h] at B_h
    have d_b_h : N_b < N_h := by omega
    have d_f_h : N_f < N_h := by omega
    replace l_b : N_b < V8.heap.size := by omega
    replace l_f : N_f < V8.heap.size := by omega
    have l_h : N_h < V8.heap.size := by omega
    have g_h : w.heap.size ≤ N_h := by omega
    replace hlow : w.heap.size ≤ V8.heap.size := by omega
    clear hV8 hzV8 hN_h
    obtain ⟨S1, hS1⟩ : ∃ S, S = V8.heap.size := ⟨_, rfl⟩
    have hbS : N_b < S1 := by omega
    have hfS : N_f < S1 := by omega
    have hhS : N_h < S1 := by omega
    have hwS : w.heap.size ≤ S1 := by omega
    have hS1w : S1 ≤ V8.heap.size := by omega
    obtain ⟨i0, hi0, hz00, hz01, hz02⟩ := info_parts info_freeP
    obtain ⟨i1, hi1, hz10, hz11, hz12⟩ := info_parts info_slot4
    have hn7 : n ≤ 70 := by have := HV.out.2.1; omega
    clear hS1
    go_loopw [13, 15] (fun v vi wr => ∃ (k : Nat) (A : Option Addr) (cp : Nat) (A2 : Option Addr) (cp2 : Nat), vi = .int .i64 k ∧ v = .slice A k cp ∧ k ≤ n ∧ S1 ≤ wr.heap.size ∧ Hid (Below w.heap.size w wr) ∧ Hid (wr.heap[N_b]? = some (.cells #[.int .i64 X.q, .int .i64 X.n, .int .i64 X.S.g, .int .i64 X.S.c, .int .i64 X.S.mn, .int .i64 X.S.mx] 29 (0, 0))) ∧ Hid (wr.heap[N_f]? = some (.cells #[.int .i64 1048576, .int .i64 1048576] 24 (0, 0))) ∧ Hid (wr.heap[N_h]? = some (.cells #[.int .i64 0, .int .i64 q1', .int .i64 un, .bool false, .slice A2 k cp2] 41 (0, 0))) ∧ Hid (wr.ownsRow S1 51 4 (.slice A k cp) k (((bareL l1).take k).flatMap feC)) ∧ Hid (wr.ownsRow S1 52 4 (.slice A2 k cp2) k ((l1.take k).flatMap feC)) ∧ Hid (Apart2 (.slice A k cp) (.slice A2 k cp2))) (fun _ vi _ => n - (intOf vi).toNat)
    case atStart => exact ⟨0, none, 0, none, 0, rfl, rfl, by omega, hS1w, HBel, B_b, B_f, B_h, Lib.hid (World.ownsRow_nil _ _ _ _), Lib.hid (World.ownsRow_nil _ _ _ _), Lib.hid (fun b e => by cases e)⟩
    case round =>
      clear HBel B_b B_f B_h l_b l_f l_h hlow hS1w
      obtain ⟨k, A, cp, A2, cp2, rfl, rfl, hk, hS1w, HBel, B_b, B_f, B_h, hOE, hOS, hAp⟩ := hrel
      have hBs := HBel.out.size
      by_cases hlt : k < n
      · have t7 : decide (k < n) = true := decide_eq_true hlt
        obtain ⟨f, hx⟩ := get_lt (l := l1) (k := k) (by rw [← HV.out.2.1]; exact hlt)
        obtain ⟨b, off, rfl, hb, hall⟩ := HV.out.1.at_ hx
        obtain ⟨f0, f1, f2, f3⟩ := (hall k f hx).keep hb HBel.out
        have HC := Lib.hid (hall k f hx)
        have hbx : (bareL l1)[k]? = some (bare f) := by unfold bareL; rw [List.getElem?_map, hx]; rfl
        have hN1 : Hid (((bareL l1).take (k + 1)).flatMap feC = ((bareL l1).take k).flatMap feC ++ [bare f].flatMap feC) := Lib.hid (by rw [take_next hbx, List.flatMap_append])
        have hN2 : Hid ((l1.take (k + 1)).flatMap feC = (l1.take k).flatMap feC ++ [f].flatMap feC) := Lib.hid (by rw [take_next hx, List.flatMap_append])
        have hbS1 : b < S1 := by omega
        clear hx hall hbx
        go_wp2_with (at_builtin; refine wpList_append_els (C := feC) (k := 4) _ rfl _ _ 22 rfl S1 51 i0 _ 32 Tryd.underlying22 hi0 hz00 hz01 hz02 rfl (by decide) (.slice A k cp) k (((bareL l1).take k).flatMap feC) rfl (hOE.out.alloc _) _ (some ⟨wr.heap.size, 0, none⟩) 1 1 [bare f] rfl (one_elsF wr (bare f)) rfl feC_len1 feC_one1 (by unfold maxLen; omega) (by omega) (by first | omega | (simp; omega)) ?_; intro A5 c5 w5 own5 g5 k5)
        have hne5 : ∀ p, p < S1 → some p ≠ (Value.slice A k cp).ownBlock := fun p hp e => by have := (hOE.out.lt p e.symm).1; omega
        have hs5 : wr.heap.size + 1 ≤ w5.heap.size := by have := g5.size; rw [World.size_alloc] at this; exact this
        have hB5 : Hid (Below w.heap.size w w5) := Lib.hid ((HBel.out.alloc hBs _).grown g5 (by rw [World.size_alloc]; omega) (fun i e => by have := (hOE.out.lt i e).1; omega))
        have bk5 : ∀ p, p < wr.heap.size → some p ≠ (Value.slice A k cp).ownBlock → w5.heap[p]? = wr.heap[p]? := fun p hp hne => (g5.block p (by rw [World.size_alloc]; omega) hne).trans (Below.heap_alloc _ _ _ hp)
        have B_b5 : Hid (w5.heap[N_b]? = some (.cells #[.int .i64 X.q, .int .i64 X.n, .int .i64 X.S.g, .int .i64 X.S.c, .int .i64 X.S.mn, .int .i64 X.S.mx] 29 (0, 0))) := Lib.hid ((bk5 N_b (by omega) (hne5 N_b hbS)).trans B_b.out)
        have B_f5 : Hid (w5.heap[N_f]? = some (.cells #[.int .i64 1048576, .int .i64 1048576] 24 (0, 0))) := Lib.hid ((bk5 N_f (by omega) (hne5 N_f hfS)).trans B_f.out)
        have B_h5 : Hid (w5.heap[N_h]? = some (.cells #[.int .i64 0, .int .i64 q1', .int .i64 un, .bool false, .slice A2 k cp2] 41 (0, 0))) := Lib.hid ((bk5 N_h (by omega) (hne5 N_h hhS)).trans B_h.out)
        have hO5 : Hid (w5.ownsRow S1 52 4 (.slice A2 k cp2) k ((l1.take k).flatMap feC)) := Lib.hid (own_stays hOS.out fun i hi => bk5 i (hOS.out.lt i hi).2 (fun e => hAp.out i e.symm hi))
        have hE5 : Hid (w5.ownsRow S1 51 4 (.slice A5 (k + 1) c5) (k + 1) (((bareL l1).take (k + 1)).flatMap feC)) := Lib.hid (by rw [hN1.out]; exact own5)
        have hA5 : Hid (Apart2 (.slice A5 (k + 1) c5) (.slice A2 k cp2)) := Lib.hid (fun i e e2 => by
          rcases k5 with k5 | k5
          · rw [k5] at e; exact hAp.out i e e2
          · rw [k5] at e; have := (hOS.out.lt i e2).2; rw [World.size_alloc] at e; injection e with e; omega)
        have hS5 : (fun w' : World => w'.cell? ⟨N_h, 4, none⟩ = some (.slice A2 k cp2) ∧ w'.cell? ⟨b, off + k * 4, none⟩ = some (.int .i64 f.n) ∧ w'.cell? ⟨b, off + k * 4 + 1, none⟩ = some (.int .i64 f.d) ∧ w'.cell? ⟨b, off + k * 4 + 2, none⟩ = some (.int .u64 (f.m : Nat)) ∧ w'.cell? ⟨b, off + k * 4 + 3, none⟩ = some (.int .i64 f.c)) w5 := by
          obtain ⟨q0, q1, q2, q3⟩ := HC.out.keep hb hB5.out
          exact ⟨cell_blk (i := 4) B_h5.out rfl, q0, q1, q2, q3⟩
        have hw5 : S1 ≤ w5.heap.size := by omega
        clear own5 g5 k5 hne5 bk5 hOE hOS hAp B_b B_f B_h HBel f0 f1 f2 f3 hBs HC
        go_wp2_with fail
        refine wp_until (fun w' : World => w'.cell? ⟨N_h, 4, none⟩ = some (.slice A2 k cp2) ∧ w'.cell? ⟨b, off + k * 4, none⟩ = some (.int .i64 f.n) ∧ w'.cell? ⟨b, off + k * 4 + 1, none⟩ = some (.int .i64 f.d) ∧ w'.cell? ⟨b, off + k * 4 + 2, none⟩ = some (.int .u64 (f.m : Nat)) ∧ w'.cell? ⟨b, off + k * 4 + 3, none⟩ = some (.int .i64 f.c)) 21 (by kernel_rfl) ?_
        have hS : (fun w' : World => w'.cell? ⟨N_h, 4, none⟩ = some (.slice A2 k cp2) ∧ w'.cell? ⟨b, off + k * 4, none⟩ = some (.int .i64 f.n) ∧ w'.cell? ⟨b, off + k * 4 + 1, none⟩ = some (.int .i64 f.d) ∧ w'.cell? ⟨b, off + k * 4 + 2, none⟩ = some (.int .u64 (f.m : Nat)) ∧ w'.cell? ⟨b, off + k * 4 + 3, none⟩ = some (.int .i64 f.c)) w5.drew := hS5
        refine until_take (v := ?_) 0 101 rfl rfl (by kernel_rfl) (by kernel_rfl) (by kernel_rfl) (by kernel_rfl) (fun _ _ _ h => h) ⟨by rfl, ?_⟩ hS ?_
        rotate_left
        · intro w' hw'; obtain ⟨x0, x1, x2, x3, x4⟩ := hw'; go_simp; (try with_reducible rfl)
        simp only [Act.put, List.setIfInBounds_toArray, List.set_cons_zero, List.set_cons_succ]
        refine until_take (v := ?_) 1 102 rfl rfl (by kernel_rfl) (by kernel_rfl) (by kernel_rfl) (by kernel_rfl) (fun _ _ _ h => h) ⟨by rfl, ?_⟩ hS ?_
        rotate_left
        · intro w' hw'; obtain ⟨x0, x1, x2, x3, x4⟩ := hw'; go_simp; (try with_reducible rfl)
        simp only [Act.put, List.setIfInBounds_toArray, List.set_cons_zero, List.set_cons_succ]
        refine until_take (v := ?_) 2 103 rfl rfl (by kernel_rfl) (by kernel_rfl) (by kernel_rfl) (by kernel_rfl) (fun _ _ _ h => h) ⟨by rfl, ?_⟩ hS ?_
        rotate_left
        · intro w' hw'; obtain ⟨x0, x1, x2, x3, x4⟩ := hw'; go_simp; (try with_reducible rfl)
        simp only [Act.put, List.setIfInBounds_toArray, List.set_cons_zero, List.set_cons_succ]
        refine until_take (v := ?_) 3 104 rfl rfl (by kernel_rfl) (by kernel_rfl) (by kernel_rfl) (by kernel_rfl) (fun _ _ _ h => h) ⟨by rfl, ?_⟩ hS ?_
        rotate_left
        · intro w' hw'; obtain ⟨x0, x1, x2, x3, x4⟩ := hw'; go_simp; (try with_reducible rfl)
        simp only [Act.put, List.setIfInBounds_toArray, List.set_cons_zero, List.set_cons_succ]
        refine until_take (v := ?_) 4 105 rfl rfl (by kernel_rfl) (by kernel_rfl) (by kernel_rfl) (by kernel_rfl) (fun _ _ _ h => h) ⟨by rfl, ?_⟩ hS ?_
        rotate_left
        · intro w' hw'; obtain ⟨x0, x1, x2, x3, x4⟩ := hw'; go_simp; (try with_reducible rfl)
        simp only [Act.put, List.setIfInBounds_toArray, List.set_cons_zero, List.set_cons_succ]
        refine until_take (v := ?_) 5 106 rfl rfl (by kernel_rfl) (by kernel_rfl) (by kernel_rfl) (by kernel_rfl) (fun _ _ _ h => h) ⟨by rfl, ?_⟩ hS ?_
        rotate_left
        · intro w' hw'; obtain ⟨x0, x1, x2, x3, x4⟩ := hw'; go_simp; (try with_reducible rfl)
        simp only [Act.put, List.setIfInBounds_toArray, List.set_cons_zero, List.set_cons_succ]
        refine until_take (v := ?_) 6 107 rfl rfl (by kernel_rfl) (by kernel_rfl) (by kernel_rfl) (by kernel_rfl) (fun _ _ _ h => h) ⟨by rfl, ?_⟩ hS ?_
        rotate_left
        · intro w' hw'; obtain ⟨x0, x1, x2, x3, x4⟩ := hw'; go_simp; (try with_reducible rfl)
        simp only [Act.put, List.setIfInBounds_toArray, List.set_cons_zero, List.set_cons_succ]
        refine until_take (v := ?_) 7 108 rfl rfl (by kernel_rfl) (by kernel_rfl) (by kernel_rfl) (by kernel_rfl) (fun _ _ _ h => h) ⟨by rfl, ?_⟩ hS ?_
        rotate_left
        · intro w' hw'; obtain ⟨x0, x1, x2, x3, x4⟩ := hw'; go_simp; (try with_reducible rfl)
        simp only [Act.put, List.setIfInBounds_toArray, List.set_cons_zero, List.set_cons_succ]
        refine until_take (v := ?_) 8 109 rfl rfl (by kernel_rfl) (by kernel_rfl) (by kernel_rfl) (by kernel_rfl) (fun _ _ _ h => h) ⟨by rfl, ?_⟩ hS ?_
        rotate_left
        · intro w' hw'; obtain ⟨x0, x1, x2, x3, x4⟩ := hw'; go_simp; (try with_reducible rfl)
        simp only [Act.put, List.setIfInBounds_toArray, List.set_cons_zero, List.set_cons_succ]
        refine until_take (v := ?_) 9 110 rfl rfl (by kernel_rfl) (by kernel_rfl) (by kernel_rfl) (by kernel_rfl) (fun _ _ _ h => h) ⟨by rfl, ?_⟩ hS ?_
        rotate_left
        · intro w' hw'; obtain ⟨x0, x1, x2, x3, x4⟩ := hw'; go_simp; (try with_reducible rfl)
        simp only [Act.put, List.setIfInBounds_toArray, List.set_cons_zero, List.set_cons_succ]
        refine until_take (v := ?_) 10 111 rfl rfl (by kernel_rfl) (by kernel_rfl) (by kernel_rfl) (by kernel_rfl) (fun _ _ _ h => h) ⟨by rfl, ?_⟩ hS ?_
        rotate_left
        · intro w' hw'; obtain ⟨x0, x1, x2, x3, x4⟩ := hw'; go_simp; (try with_reducible rfl)
        simp only [Act.put, List.setIfInBounds_toArray, List.set_cons_zero, List.set_cons_succ]
        refine until_take (v := ?_) 11 112 rfl rfl (by kernel_rfl) (by kernel_rfl) (by kernel_rfl) (by kernel_rfl) (fun _ _ _ h => h) ⟨by rfl, ?_⟩ hS ?_
        rotate_left
        · intro w' hw'; obtain ⟨x0, x1, x2, x3, x4⟩ := hw'; go_simp; (try with_reducible rfl)
        simp only [Act.put, List.setIfInBounds_toArray, List.set_cons_zero, List.set_cons_succ]
        refine until_take (v := ?_) 12 113 rfl rfl (by kernel_rfl) (by kernel_rfl) (by kernel_rfl) (by kernel_rfl) (fun _ _ _ h => h) ⟨by rfl, ?_⟩ hS ?_
        rotate_left
        · intro w' hw'; obtain ⟨x0, x1, x2, x3, x4⟩ := hw'; go_simp; (try with_reducible rfl)
        simp only [Act.put, List.setIfInBounds_toArray, List.set_cons_zero, List.set_cons_succ]
        refine until_take (v := ?_) 13 114 rfl rfl (by kernel_rfl) (by kernel_rfl) (by kernel_rfl) (by kernel_rfl) (fun _ _ _ h => h) ⟨by rfl, ?_⟩ hS ?_
        rotate_left
        · intro w' hw'; obtain ⟨x0, x1, x2, x3, x4⟩ := hw'; go_simp; (try with_reducible rfl)
        simp only [Act.put, List.setIfInBounds_toArray, List.set_cons_zero, List.set_cons_succ]
        refine until_take (v := ?_) 14 115 rfl rfl (by kernel_rfl) (by kernel_rfl) (by kernel_rfl) (by kernel_rfl) (fun _ _ _ h => h) ⟨by rfl, ?_⟩ hS ?_
        rotate_left
        · intro w' hw'; obtain ⟨x0, x1, x2, x3, x4⟩ := hw'; go_simp; (try with_reducible rfl)
        simp only [Act.put, List.setIfInBounds_toArray, List.set_cons_zero, List.set_cons_succ]
        refine until_take (v := ?_) 15 116 rfl rfl (by kernel_rfl) (by kernel_rfl) (by kernel_rfl) (by kernel_rfl) (fun _ _ _ h => h) ⟨by rfl, ?_⟩ hS ?_
        rotate_left
        · intro w' hw'; obtain ⟨x0, x1, x2, x3, x4⟩ := hw'; go_simp; (try with_reducible rfl)
        simp only [Act.put, List.setIfInBounds_toArray, List.set_cons_zero, List.set_cons_succ]
        refine until_take (v := ?_) 16 117 rfl rfl (by kernel_rfl) (by kernel_rfl) (by kernel_rfl) (by kernel_rfl) (fun _ _ _ h => h) ⟨by rfl, ?_⟩ hS ?_
        rotate_left
        · intro w' hw'; obtain ⟨x0, x1, x2, x3, x4⟩ := hw'; go_simp; (try with_reducible rfl)
        simp only [Act.put, List.setIfInBounds_toArray, List.set_cons_zero, List.set_cons_succ]
        refine until_take (v := ?_) 17 118 rfl rfl (by kernel_rfl) (by kernel_rfl) (by kernel_rfl) (by kernel_rfl) (fun _ _ _ h => h) ⟨by rfl, ?_⟩ hS ?_
        rotate_left
        · intro w' hw'; obtain ⟨x0, x1, x2, x3, x4⟩ := hw'; go_simp; (try with_reducible rfl)
        simp only [Act.put, List.setIfInBounds_toArray, List.set_cons_zero, List.set_cons_succ]
        refine until_one 18 rfl (by kernel_rfl) rfl (fun K hK => ?_)
        go_simp
        have hst := (Below.refl w5.heap.size w5.drew).alloc (show w5.heap.size ≤ w5.drew.heap.size from Nat.le_refl _) (.cells #[.int .i64 f.n, .int .i64 f.d, .int .u64 (f.m : Nat), .int .i64 f.c] 52)
        have hS6 : (fun w' : World => w'.cell? ⟨N_h, 4, none⟩ = some (.slice A2 k cp2) ∧ w'.cell? ⟨b, off + k * 4, none⟩ = some (.int .i64 f.n) ∧ w'.cell? ⟨b, off + k * 4 + 1, none⟩ = some (.int .i64 f.d) ∧ w'.cell? ⟨b, off + k * 4 + 2, none⟩ = some (.int .u64 (f.m : Nat)) ∧ w'.cell? ⟨b, off + k * 4 + 3, none⟩ = some (.int .i64 f.c)) (w5.drew.alloc (.cells #[.int .i64 f.n, .int .i64 f.d, .int .u64 (f.m : Nat), .int .i64 f.c] 52)) := ⟨(hst.cell (p := ⟨N_h, 4, none⟩) (show N_h < _ by omega)).trans hS.1, (hst.cell (p := ⟨b, off + k * 4, none⟩) (show b < _ by omega)).trans hS.2.1, (hst.cell (p := ⟨b, off + k * 4 + 1, none⟩) (show b < _ by omega)).trans hS.2.2.1, (hst.cell (p := ⟨b, off + k * 4 + 2, none⟩) (show b < _ by omega)).trans hS.2.2.2.1, (hst.cell (p := ⟨b, off + k * 4 + 3, none⟩) (show b < _ by omega)).trans hS.2.2.2.2⟩
        refine hK.out _ _ (fun _ => hS6) ?_
        clear hK K
        try simp only [Act.put, List.setIfInBounds_toArray, List.set_cons_zero, List.set_cons_succ]
        refine until_one 19 rfl (by kernel_rfl) rfl (fun K hK => ?_)
        simp only [Go.wp_at_zero, Go.wp_at_succ]
        refine wp_append_els (C := feC) (k := 4) _ _ _ 39 rfl S1 52 i1 _ 32 Tryd.underlying39 hi1 hz10 hz11 hz12 rfl (by decide) (.slice A2 k cp2) k ((l1.take k).flatMap feC) rfl (hO5.out.alloc _) _ (some ⟨w5.heap.size, 0, none⟩) 1 1 [f] rfl (one_els _ f) rfl feC_len1 feC_one1 (by unfold maxLen; omega) (by omega) (show S1 ≤ (w5.alloc (.cells #[.int .i64 f.n, .int .i64 f.d, .int .u64 (f.m : Nat), .int .i64 f.c] 52)).heap.size by rw [World.size_alloc]; omega) ?_
        intro A6 c6 w7 own7 g7 k7
        have hne7 : ∀ p, p < S1 → some p ≠ (Value.slice A2 k cp2).ownBlock := fun p hp e => by have := (hO5.out.lt p e.symm).1; omega
        have hS7 : (fun w' : World => w'.cell? ⟨N_h, 4, none⟩ = some (.slice A2 k cp2) ∧ w'.cell? ⟨b, off + k * 4, none⟩ = some (.int .i64 f.n) ∧ w'.cell? ⟨b, off + k * 4 + 1, none⟩ = some (.int .i64 f.d) ∧ w'.cell? ⟨b, off + k * 4 + 2, none⟩ = some (.int .u64 (f.m : Nat)) ∧ w'.cell? ⟨b, off + k * 4 + 3, none⟩ = some (.int .i64 f.c)) w7 := ⟨(g7.cell_far ⟨N_h, 4, none⟩ (show N_h < (w5.alloc (.cells #[.int .i64 f.n, .int .i64 f.d, .int .u64 (f.m : Nat), .int .i64 f.c] 52)).heap.size by rw [World.size_alloc]; omega) (hne7 N_h hhS)).trans hS6.1, (g7.cell_far ⟨b, off + k * 4, none⟩ (show b < (w5.alloc (.cells #[.int .i64 f.n, .int .i64 f.d, .int .u64 (f.m : Nat), .int .i64 f.c] 52)).heap.size by rw [World.size_alloc]; omega) (hne7 b (by omega))).trans hS6.2.1, (g7.cell_far ⟨b, off + k * 4 + 1, none⟩ (show b < (w5.alloc (.cells #[.int .i64 f.n, .int .i64 f.d, .int .u64 (f.m : Nat), .int .i64 f.c] 52)).heap.size by rw [World.size_alloc]; omega) (hne7 b (by omega))).trans hS6.2.2.1, (g7.cell_far ⟨b, off + k * 4 + 2, none⟩ (show b < (w5.alloc (.cells #[.int .i64 f.n, .int .i64 f.d, .int .u64 (f.m : Nat), .int .i64 f.c] 52)).heap.size by rw [World.size_alloc]; omega) (hne7 b (by omega))).trans hS6.2.2.2.1, (g7.cell_far ⟨b, off + k * 4 + 3, none⟩ (show b < (w5.alloc (.cells #[.int .i64 f.n, .int .i64 f.d, .int .u64 (f.m : Nat), .int .i64 f.c] 52)).heap.size by rw [World.size_alloc]; omega) (hne7 b (by omega))).trans hS6.2.2.2.2⟩
        have hH7 : w7.heap[N_h]? = some (.cells #[.int .i64 0, .int .i64 q1', .int .i64 un, .bool false, .slice A2 k cp2] 41 (0, 0)) := (g7.block N_h (show N_h < (w5.alloc (.cells #[.int .i64 f.n, .int .i64 f.d, .int .u64 (f.m : Nat), .int .i64 f.c] 52)).heap.size by rw [World.size_alloc]; omega) (hne7 N_h hhS)).trans ((Below.heap_alloc _ _ _ (show N_h < w5.heap.size by omega)).trans B_h5.out)
        have zh : w7.frozen? ⟨N_h, 4, none⟩ = false := frozen_blk hH7
        refine hK.out _ _ (fun _ => hS7) ?_
        clear hK K
        try simp only [Act.put, List.setIfInBounds_toArray, List.set_cons_zero, List.set_cons_succ]
        refine until_one 20 rfl (by kernel_rfl) rfl (fun K hK => ?_)
        go_simp
        refine hK.out _ _ (fun _ => hS7) ?_
        clear hK K
        try simp only [Act.put, List.setIfInBounds_toArray, List.set_cons_zero, List.set_cons_succ]
        refine until_one 21 rfl (by kernel_rfl) rfl (fun K hK => ?_)
        have zc := hS7.1
        go_simp
        refine hK.out _ _ (fun h => absurd h (by decide)) ?_
        clear hK K
        refine until_done (by kernel_rfl) ?_
        obtain ⟨w8, hw8⟩ : ∃ W, W = w7.setCell ⟨N_h, 4, none⟩ (.slice A6 (k + 1) c6) := ⟨_, rfl⟩
        have hs7 : w5.heap.size + 1 ≤ w7.heap.size := by have := show (w5.alloc (.cells #[.int .i64 f.n, .int .i64 f.d, .int .u64 (f.m : Nat), .int .i64 f.c] 52)).heap.size ≤ w7.heap.size from g7.size; rw [World.size_alloc] at this; exact this
        have hz8 : w8.heap.size = w7.heap.size := by rw [hw8]; simp
        have bk7 : ∀ p, p < w5.heap.size → some p ≠ (Value.slice A2 k cp2).ownBlock → p ≠ N_h → w8.heap[p]? = w5.heap[p]? := fun p hp hne hpn => by
          rw [hw8]
          exact (Below.heap_setCell _ _ _ _ hpn).trans ((g7.block p (show p < (w5.alloc (.cells #[.int .i64 f.n, .int .i64 f.d, .int .u64 (f.m : Nat), .int .i64 f.c] 52)).heap.size by rw [World.size_alloc]; omega) hne).trans (Below.heap_alloc _ _ _ hp))
        have N_B : Hid (Below w.heap.size w w8) := Lib.hid (by
          rw [hw8]
          exact ((hB5.out.alloc hB5.out.size (.cells #[.int .i64 f.n, .int .i64 f.d, .int .u64 (f.m : Nat), .int .i64 f.c] 52)).drew.grown g7 (show w.heap.size ≤ (w5.alloc (.cells #[.int .i64 f.n, .int .i64 f.d, .int .u64 (f.m : Nat), .int .i64 f.c] 52)).heap.size by rw [World.size_alloc]; have := hB5.out.size; omega) (fun i e => by have := (hO5.out.lt i e).1; omega)).setCell (show w.heap.size ≤ N_h by omega) _)
        have N_b8 : Hid (w8.heap[N_b]? = some (.cells #[.int .i64 X.q, .int .i64 X.n, .int .i64 X.S.g, .int .i64 X.S.c, .int .i64 X.S.mn, .int .i64 X.S.mx] 29 (0, 0))) := Lib.hid ((bk7 N_b (by omega) (hne7 N_b hbS) (by omega)).trans B_b5.out)
        have N_f8 : Hid (w8.heap[N_f]? = some (.cells #[.int .i64 1048576, .int .i64 1048576] 24 (0, 0))) := Lib.hid ((bk7 N_f (by omega) (hne7 N_f hfS) (by omega)).trans B_f5.out)
        have N_h8 : Hid (w8.heap[N_h]? = some (.cells #[.int .i64 0, .int .i64 q1', .int .i64 un, .bool false, .slice A6 (k + 1) c6] 41 (0, 0))) := Lib.hid (by rw [hw8]; exact blk_put (i := 4) _ hH7)
        have N_E : Hid (w8.ownsRow S1 51 4 (.slice A5 (k + 1) c5) (k + 1) (((bareL l1).take (k + 1)).flatMap feC)) := Lib.hid (own_stays hE5.out fun i hi => bk7 i (hE5.out.lt i hi).2 (fun e => hA5.out i hi e.symm) (fun e => by have := (hE5.out.lt i hi).1; omega))
        have N_S : Hid (w8.ownsRow S1 52 4 (.slice A6 (k + 1) c6) (k + 1) ((l1.take (k + 1)).flatMap feC)) := Lib.hid (by
          rw [hN2.out]
          refine own_stays own7 fun i hi => ?_
          rw [hw8]
          exact Below.heap_setCell _ _ _ _ (fun e => by have := (own7.lt i hi).1; have e : i = N_h := e; omega))
        have N_A : Hid (Apart2 (.slice A5 (k + 1) c5) (.slice A6 (k + 1) c6)) := Lib.hid (fun i e e2 => by
          rcases k7 with k7 | k7
          · rw [k7] at e2; exact hA5.out i e e2
          · rw [k7] at e2; have := (hE5.out.lt i e).2; have e3 : (w5.alloc (.cells #[.int .i64 f.n, .int .i64 f.d, .int .u64 (f.m : Nat), .int .i64 f.c] 52)).heap.size = i := Option.some.inj e2; rw [World.size_alloc] at e3; omega)
        have hw8s : S1 ≤ w8.heap.size := by omega
        (try rw [← hw8])
        clear hS hS5 hS6 hS7 hst hH7 zh zc own7 g7 k7 hne7 bk7 hw8 B_b5 B_f5 B_h5 hO5 hE5 hA5 hB5 hs7 hz8
        go_wp2
        go_roundw
        case rel => exact ⟨k + 1, A5, c5, A6, c6, by go_num, rfl, by omega, hw8s, N_B, N_b8, N_f8, N_h8, N_E, N_S, N_A⟩
        case measure => simp [intOf]; omega
      · obtain rfl : n = k := by omega
        have t7 : decide (n < n) = false := by simp
        have e9 : (bareL l1).take n = bareL l1 := by rw [HV.out.2.1]; exact List.take_of_length_le (by unfold bareL; simp)
        have e8 : l1.take n = l1 := by rw [HV.out.2.1]; exact List.take_length
        rw [e9] at hOE
        rw [e8] at hOS
        have hlE : n = (bareL l1).length := by rw [HV.out.2.1]; unfold bareL; simp
        have hFE : Fes wr wr.heap.size A (bareL l1) := fe_own (c := cp) (by rw [← hlE]; exact hOE.out)
        have hFS : Fes wr wr.heap.size A2 l1 := fe_own (c := cp2) (by rw [← HV.out.2.1]; exact hOS.out)
        have hc2 : n ≤ cp2 ∧ cp2 ≤ maxLen := own_cap hOS.out
        obtain ⟨V, hV⟩ : ∃ V, V = wr.alloc (.cells #[.int .i64 0, .int .i64 q1', .int .i64 un, .bool false, .slice A2 n cp2] 41) := ⟨_, rfl⟩
        have hb9 : Below wr.heap.size wr V := by rw [hV]; exact (Below.refl _ _).alloc (Nat.le_refl _) _
        have bV : V.heap[wr.heap.size]? = some (.cells #[.int .i64 0, .int .i64 q1', .int .i64 un, .bool false, .slice A2 n cp2] 41 (0, 0)) := by rw [hV]; exact heap_alloc_new wr _
        have hBV : Hid (Below w.heap.size w V) := Lib.hid (below_step HBel.out hb9)
        have hEV := Lib.hid (hE2.out A cp wr.heap.size A2 cp2 V hBV.out (hFE.keep hb9 hb9.size) (hFS.keep hb9 hb9.size) bV hc2.1 hc2.2)
        have HVV := Lib.hid hV
        have f0 : wr.cell? ⟨N_f, 0, none⟩ = some (.int .i64 1048576) := cell_blk (i := 0) B_f.out rfl
        have f1 : wr.cell? ⟨N_f, 1, none⟩ = some (.int .i64 1048576) := cell_blk (i := 1) B_f.out rfl
        have b0 : wr.cell? ⟨N_b, 0, none⟩ = _ := cell_blk (i := 0) B_b.out rfl
        have b1 : wr.cell? ⟨N_b, 1, none⟩ = _ := cell_blk (i := 1) B_b.out rfl
        have b2 : wr.cell? ⟨N_b, 2, none⟩ = _ := cell_blk (i := 2) B_b.out rfl
        have b3 : wr.cell? ⟨N_b, 3, none⟩ = _ := cell_blk (i := 3) B_b.out rfl
        have b4 : wr.cell? ⟨N_b, 4, none⟩ = _ := cell_blk (i := 4) B_b.out rfl
        have b5 : wr.cell? ⟨N_b, 5, none⟩ = _ := cell_blk (i := 5) B_b.out rfl
        have h0 : wr.cell? ⟨N_h, 0, none⟩ = _ := cell_blk (i := 0) B_h.out rfl
        have h1 : wr.cell? ⟨N_h, 1, none⟩ = _ := cell_blk (i := 1) B_h.out rfl
        have h2 : wr.cell? ⟨N_h, 2, none⟩ = _ := cell_blk (i := 2) B_h.out rfl
        have h3 : wr.cell? ⟨N_h, 3, none⟩ = _ := cell_blk (i := 3) B_h.out rfl
        have h4 : wr.cell? ⟨N_h, 4, none⟩ = _ := cell_blk (i := 4) B_h.out rfl
        have lb9 : N_b < wr.heap.size := by omega
        have lf9 : N_f < wr.heap.size := by omega
        have lh9 : N_h < wr.heap.size := by omega
        clear hlE hFE hFS hc2 hV hb9 bV e9 e8 hOE hOS hAp hlt hE2
        go_wp2_with fail
        rw [← HVV.out]
        refine hEV.out.mono ?_
        rintro e w6 ⟨rfl, hb6⟩
        have hB6 : Hid (Below w.heap.size w w6) := Lib.hid (below_step hBV.out hb6)
        have w1 : (un == un) = true := by simp
        clear hb6 hEV f0 f1 b0 b1 b2 b3 b4 b5 h0 h1 h2 h3 h4
        go_wp2
        go_ret
        exact ⟨by first | rfl | simp, by rw [HB0.out]; exact hB6.out⟩


set_option maxRecDepth 100000 in
set_option maxHeartbeats 1000000 in
theorem lifted (os : Os) (started : os.Started) (H : Type) (enc : TypeId × Value → H) :
    ReturnsInHanded {} Tryd.checked os 7 .any (fun w args => (Rows.promiseRoomSpec.pre enc Tryd.prog Tryd.f7 [] false w args ∧ laidMetH Tryd.prog laid1 w) ∧ sizedMet enc Tryd.prog Tryd.f7 (OpenSpec.ofChange Rows.promiseRoomSpec) false w args)
      (Rows.promiseRoomSpec.post enc Tryd.prog Tryd.f7 false true false false) := by
  refine returnsInHanded_of_change_and (C := Tryd.checked) (X := fun w _ => laidMetH Tryd.prog laid1 w) (fun _ _ _ hh h => h.of_heap hh) own started (by kernel_rfl) Tryd.func7
    (ChangeSpec.witness_shaped (enc := enc) (C := Tryd.checked) (os := os) (X := fun w _ => laidMetH Tryd.prog laid1 w) false (World.doorLaid Tryd.prog 400 os) #[.int .i64 0, .slice none 0 0, .agg #[.int .i64 0, .int .i64 0, .int .i64 0, .int .i64 0, .int .i64 0, .int .i64 0], .int .i64 0] 8 rfl (World.shaped_of_RefB (by kernel_rfl) (by kernel_rfl)) (by kernel_rfl) (by kernel_rfl) (by kernel_rfl) (door_met os _)) ?_
  intro W base args ds gs before hval0 hW _ _ hL _
  have hval : ∀ (j : Nat) t v, Tryd.f7.params[j]? = some t → args[j]? = some v → Value.okWide Tryd.prog W .any base t v := hval0
  have hW' := hW
  obtain ⟨p, q, hA0, hV, rfl, hfz, hnd⟩ := hW
  have hA : DataW.TrodAll enc Tryd.prog W 0 (fun _ => true) true Tryd.f7.params.toList args.toList ds p := hA0
  rw [Tryd.params7] at hA hval
  obtain ⟨v0, vs0, d0, ds0, p0, q0, hargs, rfl, rfl, h0, r0⟩ := trodAll_cons hA
  obtain ⟨v1, vs1, d1, ds1, p1, q1, rfl, rfl, rfl, h1, r1⟩ := trodAll_cons r0
  obtain ⟨v2, vs2, d2, ds2, p2, q2, rfl, rfl, rfl, h2, r2⟩ := trodAll_cons r1
  obtain ⟨v3, vs3, d3, ds3, p3, q3, rfl, rfl, rfl, h3, r3⟩ := trodAll_cons r2
  obtain ⟨rfl, rfl, rfl⟩ := trodAll_nil r3
  obtain rfl : args = #[v0, v1, v2, v3] := by cases args; simp_all
  obtain ⟨rfl, rfl⟩ := trodVars_none hV
  have k0 := h0
  have lt0 : ∀ x ∈ p0, x.block < W.heap.size := by obtain ⟨m, hm⟩ := k0; exact DataW.trod_lt m _ _ _ hm
  obtain ⟨a0, rfl, _, _, w0⟩ := open_int Tryd.underlying3 (hval 0 3 v0 rfl rfl) h0
  have k1 := h1
  have lt1 : ∀ x ∈ p1, x.block < W.heap.size := by obtain ⟨m, hm⟩ := k1; exact DataW.trod_lt m _ _ _ hm
  obtain ⟨a1, c1, l1, rfl, lc1, mc1, v1, q1⟩ := view_of (hval 1 22 v1 rfl rfl) h1
  have k2 := h2
  have lt2 : ∀ x ∈ p2, x.block < W.heap.size := by obtain ⟨m, hm⟩ := k2; exact DataW.trod_lt m _ _ _ hm
  obtain ⟨x2, rfl, w2⟩ := wa_of (hval 2 29 v2 rfl rfl) h2
  have k3 := h3
  have lt3 : ∀ x ∈ p3, x.block < W.heap.size := by obtain ⟨m, hm⟩ := k3; exact DataW.trod_lt m _ _ _ hm
  obtain ⟨a3, rfl, _, _, w3⟩ := open_int Tryd.underlying3 (hval 3 3 v3 rfl rfl) h3
  have hT := of_laid hL
  clear hL
  clear hA0 hval0
  refine (walk a0 a1 c1 l1 x2 a3 W w0 v1 q1 lc1 mc1 w2 w3 hT).mono fun e W' ⟨he, bel⟩ => ?_
  subst he
  exact ⟨_, rfl, _, _, _, [], _, [], hW', trodAll_mk1 (shut_bool Tryd.underlying4 _), (trodAll_cons_mk (Below.trod laidOut (by kernel_rfl) (of_decide_eq_true (by kernel_rfl)) k0 bel lt0) (trodAll_cons_mk (Below.trod laidOut (by kernel_rfl) (of_decide_eq_true (by kernel_rfl)) k1 bel lt1) (trodAll_cons_mk (Below.trod laidOut (by kernel_rfl) (of_decide_eq_true (by kernel_rfl)) k2 bel lt2) (trodAll_cons_mk (Below.trod laidOut (by kernel_rfl) (of_decide_eq_true (by kernel_rfl)) k3 bel lt3) trodAll_mk0)))), rfl, bel.frame _, fun h => by cases h⟩

/-- THE ROW. -/
theorem row_holds : Rows.PromiseRoomSaid :=
  OpenClaim.holds_of_wide 7 Tryd.f7 rfl rfl rfl rfl rfl rfl rfl ⟨rfl, rfl, rfl, rfl, rfl⟩ rfl rfl rfl rfl rfl (by kernel_rfl) Tryd.func7 (by kernel_rfl)
    (of_decide_eq_true (by kernel_rfl)) (by unfold Func.isWrapper; first | (rw [if_pos (by decide +kernel)]; kernel_rfl) | (rw [if_neg (by decide +kernel)]; exact ⟨rfl, rfl⟩))
    (fun os started H enc _ => lifted os started H enc)

/-- THE STATEMENT. -/
theorem card_holds : Rows.PromiseRoomCardSaid :=
  Claim7.holds_tied_plain_at .later [] [.data] true (true, Rows.promiseRoomCard.stood.harness.2) false
    row_holds (fun _ h => by cases h) (by kernel_rfl) (fun _ h => by cases h) promiseRoom_row_tie rfl ⟨rfl, rfl⟩ (by kernel_rfl) rfl
    (fun f fn hf hfn => by
      obtain rfl : f = 7 := Option.some.inj ((show Tryd.prog.funcNamed Rows.promiseRoomRow.func = some 7 by kernel_rfl).symm.trans hf) |>.symm
      obtain rfl : fn = Tryd.f7 := (Option.some.inj (Tryd.func7.symm.trans hfn)).symm
      exact ⟨by kernel_rfl, fun j t ht => by
        rw [Tryd.params7] at ht
        have hm : t ∈ [3, 22, 29, 3] := by simpa using Array.mem_of_getElem? ht
        have hall : ([3, 22, 29, 3].all fun u => !Tryd.prog.wantsStandIn u) = true := by kernel_rfl
        exact (show Tryd.prog.wantsStandIn t = false by simpa using List.all_eq_true.1 hall t hm)⟩)
    (by kernel_rfl)
end Go.Proofs.YtenldgnfjjchiaaDoor.promiseRoom
