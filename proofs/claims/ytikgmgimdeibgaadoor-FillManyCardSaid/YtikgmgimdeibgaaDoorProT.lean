/- Few of the document: a view, units left, holds that aren't too much. -/
/- The document's example for layer 12, which each law asks first. -/
/- What Few says; what is the same for layer 12's laws. -/
import Derived.Test.YtikgmgimdeibgaaDoorPackR
import Derived.Test.YtikgmgimdeibgaaDoorProR
import Derived.Test.YtikgmgimdeibgaaDoorProEarl
set_option linter.unusedVariables false
set_option maxRecDepth 100000
namespace Go.Proofs.YtikgmgimdeibgaaDoor
open Go.RowKit
def fewH (lv : List Fe) (g c : Int) (l : List Ho) : Bool := decide (lv.length ≤ 70) && (rightL lv && (decide (l.length ≤ 20) && (decide (-1048576 ≤ g ∧ g ≤ 1048576 ∧ -1048576 ≤ c ∧ c ≤ 1048576) && l.all fun x => decide (x.sl.length ≤ 20))))
set_option maxHeartbeats 4000000 in
theorem few12_any (A1 : Option Addr) (p1 : Nat) (lv : List Fe) (g c : Int) (A2 : Option Addr) (p2 : Nat) (l : List Ho) (w : World) (h : Fes w w.heap.size A1 lv) (hp1 : lv.length ≤ p1) (hd : Hos w w.heap.size A2 l) (hs : ∀ x ∈ l, x.sl.length ≤ maxLen) :
    Calls Tryd.prog 15 #[.slice A1 lv.length p1, .agg #[.int .i64 g, .int .i64 c], .slice A2 l.length p2] w fun e w' => e = .returned (.bool (fewH lv g c l)) ∧ Below w.heap.size w w' := by
  obtain ⟨R, hR⟩ : ∃ R, R = fewH lv g c l := ⟨_, rfl⟩
  obtain ⟨r, hr⟩ : ∃ r, r = rightL lv := ⟨_, rfl⟩
  rw [← hR]
  obtain ⟨n, hn⟩ : ∃ n, n = lv.length := ⟨_, rfl⟩
  obtain ⟨m, hm⟩ : ∃ m, m = l.length := ⟨_, rfl⟩
  unfold fewH at hR
  rw [← hn, ← hm, ← hr] at hR
  rw [← hn, ← hm]
  by_cases h1 : 70 < n
  · obtain rfl : R = false := by rw [hR, decide_eq_false (show ¬ n ≤ 70 by omega)]; rfl
    have t1 : decide (70 < (n : Int)) = true := decide_eq_true (by omega)
    clear hR hr hn hm h hp1 hd hs h1
    obtain ⟨B0, hB0⟩ : ∃ B, B = w.heap.size := ⟨_, rfl⟩
    rw [← hB0]
    have HB0 := Lib.hid hB0
    clear hB0
    have HBel := Lib.hid (Below.refl w.heap.size w)
    have hlow : w.heap.size ≤ w.heap.size := Nat.le_refl _
    go_enter Tryd.func15, Tryd.ntmps15
    go_wp2
    obtain ⟨V1, hV1⟩ : ∃ W, W = w.alloc (.cells #[.int .i64 g, .int .i64 c] 24) := ⟨_, rfl⟩
    rw [← hV1]
    have hzV1 : V1.heap.size = w.heap.size + 1 := by rw [hV1]; simp
    replace HBel : Hid (Below w.heap.size w V1) := Lib.hid (by rw [hV1]; exact (HBel.out.alloc (hlow) _))
    have B_f : Hid (V1.heap[w.heap.size]? = some (.cells #[.int .i64 g, .int .i64 c] 24 (0, 0))) := Lib.hid (by
      have h9 := heap_alloc_new (w) (.cells #[.int .i64 g, .int .i64 c] 24)
      rw [hV1]; exact h9)
    obtain ⟨N_f, hN_f⟩ : ∃ N, N = w.heap.size := ⟨_, rfl⟩
    (try rw [← hN_f])
    rw [← hN_f] at B_f
    have l_f : N_f < V1.heap.size := by omega
    have g_f : w.heap.size ≤ N_f := by omega
    replace hlow : w.heap.size ≤ V1.heap.size := by omega
    clear hV1 hzV1 hN_f
    go_ret
    exact ⟨rfl, by rw [HB0.out]; exact HBel.out⟩
  have t1 : decide (70 < (n : Int)) = false := decide_eq_false (by omega)
  have hRi := Lib.hid (fun W (hW : Below w.heap.size w W) => show Calls Tryd.prog 27 #[.slice A1 n p1] W (fun e w' => e = .returned (.bool r) ∧ Below W.heap.size W w') from by
    have h9 := right_any A1 p1 W.heap.size lv W (h.keep hW hW.size) (Nat.le_refl _) (by omega) hp1
    rw [← hn, ← hr] at h9; exact h9)
  rw [decide_eq_true (show n ≤ 70 by omega), Bool.true_and] at hR
  cases hr1 : r
  · obtain rfl : R = false := by rw [hR, hr1]; rfl
    rw [hr1] at hRi
    clear hR hr hr1 hn hm h hp1 hd hs h1
    obtain ⟨B0, hB0⟩ : ∃ B, B = w.heap.size := ⟨_, rfl⟩
    rw [← hB0]
    have HB0 := Lib.hid hB0
    clear hB0
    have HBel := Lib.hid (Below.refl w.heap.size w)
    have hlow : w.heap.size ≤ w.heap.size := Nat.le_refl _
    go_enter Tryd.func15, Tryd.ntmps15
    go_wp2_with fail
    obtain ⟨V1, hV1⟩ : ∃ W, W = w.alloc (.cells #[.int .i64 g, .int .i64 c] 24) := ⟨_, rfl⟩
    rw [← hV1]
    have hzV1 : V1.heap.size = w.heap.size + 1 := by rw [hV1]; simp
    replace HBel : Hid (Below w.heap.size w V1) := Lib.hid (by rw [hV1]; exact (HBel.out.alloc (hlow) _))
    have B_f : Hid (V1.heap[w.heap.size]? = some (.cells #[.int .i64 g, .int .i64 c] 24 (0, 0))) := Lib.hid (by
      have h9 := heap_alloc_new (w) (.cells #[.int .i64 g, .int .i64 c] 24)
      rw [hV1]; exact h9)
    obtain ⟨N_f, hN_f⟩ : ∃ N, N = w.heap.size := ⟨_, rfl⟩
    (try rw [← hN_f])
    rw [← hN_f] at B_f
    have l_f : N_f < V1.heap.size := by omega
    have g_f : w.heap.size ≤ N_f := by omega
    replace hlow : w.heap.size ≤ V1.heap.size := by omega
    clear hV1 hzV1 hN_f
    refine (hRi.out V1 HBel.out).mono ?_
    rintro e U2 ⟨rfl, hb9⟩
    have hs9 := hb9.size
    replace HBel := Lib.hid (HBel.out.trans (hb9.mono hlow))
    replace B_f : Hid (U2.heap[N_f]? = some (.cells #[.int .i64 g, .int .i64 c] 24 (0, 0))) := Lib.hid ((hb9.block _ l_f).trans B_f.out)
    replace l_f : N_f < U2.heap.size := by omega
    replace hlow : w.heap.size ≤ U2.heap.size := by omega
    clear hb9 hs9
    have f0 : U2.cell? ⟨N_f, 0, none⟩ = some (.int .i64 g) := cell_blk (i := 0) B_f.out rfl
    have f1 : U2.cell? ⟨N_f, 1, none⟩ = some (.int .i64 c) := cell_blk (i := 1) B_f.out rfl
    go_wp2
    go_ret
    exact ⟨rfl, by rw [HB0.out]; exact HBel.out⟩
  rw [hr1] at hR hRi
  rw [Bool.true_and] at hR
  clear hr hr1
  by_cases h3 : 20 < m
  · obtain rfl : R = false := by rw [hR, decide_eq_false (show ¬ m ≤ 20 by omega)]; rfl
    have t3 : decide (20 < (m : Int)) = true := decide_eq_true (by omega)
    clear hR hn hm h hp1 hd hs h1 h3
    obtain ⟨B0, hB0⟩ : ∃ B, B = w.heap.size := ⟨_, rfl⟩
    rw [← hB0]
    have HB0 := Lib.hid hB0
    clear hB0
    have HBel := Lib.hid (Below.refl w.heap.size w)
    have hlow : w.heap.size ≤ w.heap.size := Nat.le_refl _
    go_enter Tryd.func15, Tryd.ntmps15
    go_wp2_with fail
    obtain ⟨V1, hV1⟩ : ∃ W, W = w.alloc (.cells #[.int .i64 g, .int .i64 c] 24) := ⟨_, rfl⟩
    rw [← hV1]
    have hzV1 : V1.heap.size = w.heap.size + 1 := by rw [hV1]; simp
    replace HBel : Hid (Below w.heap.size w V1) := Lib.hid (by rw [hV1]; exact (HBel.out.alloc (hlow) _))
    have B_f : Hid (V1.heap[w.heap.size]? = some (.cells #[.int .i64 g, .int .i64 c] 24 (0, 0))) := Lib.hid (by
      have h9 := heap_alloc_new (w) (.cells #[.int .i64 g, .int .i64 c] 24)
      rw [hV1]; exact h9)
    obtain ⟨N_f, hN_f⟩ : ∃ N, N = w.heap.size := ⟨_, rfl⟩
    (try rw [← hN_f])
    rw [← hN_f] at B_f
    have l_f : N_f < V1.heap.size := by omega
    have g_f : w.heap.size ≤ N_f := by omega
    replace hlow : w.heap.size ≤ V1.heap.size := by omega
    clear hV1 hzV1 hN_f
    refine (hRi.out V1 HBel.out).mono ?_
    rintro e U2 ⟨rfl, hb9⟩
    have hs9 := hb9.size
    replace HBel := Lib.hid (HBel.out.trans (hb9.mono hlow))
    replace B_f : Hid (U2.heap[N_f]? = some (.cells #[.int .i64 g, .int .i64 c] 24 (0, 0))) := Lib.hid ((hb9.block _ l_f).trans B_f.out)
    replace l_f : N_f < U2.heap.size := by omega
    replace hlow : w.heap.size ≤ U2.heap.size := by omega
    clear hb9 hs9
    have f0 : U2.cell? ⟨N_f, 0, none⟩ = some (.int .i64 g) := cell_blk (i := 0) B_f.out rfl
    have f1 : U2.cell? ⟨N_f, 1, none⟩ = some (.int .i64 c) := cell_blk (i := 1) B_f.out rfl
    go_wp2
    go_ret
    exact ⟨rfl, by rw [HB0.out]; exact HBel.out⟩
  have t3 : decide (20 < (m : Int)) = false := decide_eq_false (by omega)
  rw [decide_eq_true (show m ≤ 20 by omega), Bool.true_and] at hR
  by_cases h4 : g < -1048576
  · obtain rfl : R = false := by rw [hR, decide_eq_false (by omega)]; rfl
    have t4 : decide (g < -1048576) = true := decide_eq_true h4
    clear hR hn hm h hp1 hd hs h1 h3 h4
    obtain ⟨B0, hB0⟩ : ∃ B, B = w.heap.size := ⟨_, rfl⟩
    rw [← hB0]
    have HB0 := Lib.hid hB0
    clear hB0
    have HBel := Lib.hid (Below.refl w.heap.size w)
    have hlow : w.heap.size ≤ w.heap.size := Nat.le_refl _
    go_enter Tryd.func15, Tryd.ntmps15
    go_wp2_with fail
    obtain ⟨V1, hV1⟩ : ∃ W, W = w.alloc (.cells #[.int .i64 g, .int .i64 c] 24) := ⟨_, rfl⟩
    rw [← hV1]
    have hzV1 : V1.heap.size = w.heap.size + 1 := by rw [hV1]; simp
    replace HBel : Hid (Below w.heap.size w V1) := Lib.hid (by rw [hV1]; exact (HBel.out.alloc (hlow) _))
    have B_f : Hid (V1.heap[w.heap.size]? = some (.cells #[.int .i64 g, .int .i64 c] 24 (0, 0))) := Lib.hid (by
      have h9 := heap_alloc_new (w) (.cells #[.int .i64 g, .int .i64 c] 24)
      rw [hV1]; exact h9)
    obtain ⟨N_f, hN_f⟩ : ∃ N, N = w.heap.size := ⟨_, rfl⟩
    (try rw [← hN_f])
    rw [← hN_f] at B_f
    have l_f : N_f < V1.heap.size := by omega
    have g_f : w.heap.size ≤ N_f := by omega
    replace hlow : w.heap.size ≤ V1.heap.size := by omega
    clear hV1 hzV1 hN_f
    refine (hRi.out V1 HBel.out).mono ?_
    rintro e U2 ⟨rfl, hb9⟩
    have hs9 := hb9.size
    replace HBel := Lib.hid (HBel.out.trans (hb9.mono hlow))
    replace B_f : Hid (U2.heap[N_f]? = some (.cells #[.int .i64 g, .int .i64 c] 24 (0, 0))) := Lib.hid ((hb9.block _ l_f).trans B_f.out)
    replace l_f : N_f < U2.heap.size := by omega
    replace hlow : w.heap.size ≤ U2.heap.size := by omega
    clear hb9 hs9
    have f0 : U2.cell? ⟨N_f, 0, none⟩ = some (.int .i64 g) := cell_blk (i := 0) B_f.out rfl
    have f1 : U2.cell? ⟨N_f, 1, none⟩ = some (.int .i64 c) := cell_blk (i := 1) B_f.out rfl
    go_wp2
    go_ret
    exact ⟨rfl, by rw [HB0.out]; exact HBel.out⟩
  have t4 : decide (g < -1048576) = false := decide_eq_false h4
  by_cases h5 : 1048576 < g
  · obtain rfl : R = false := by rw [hR, decide_eq_false (by omega)]; rfl
    have t5 : decide (1048576 < g) = true := decide_eq_true h5
    clear hR hn hm h hp1 hd hs h1 h3 h4 h5
    obtain ⟨B0, hB0⟩ : ∃ B, B = w.heap.size := ⟨_, rfl⟩
    rw [← hB0]
    have HB0 := Lib.hid hB0
    clear hB0
    have HBel := Lib.hid (Below.refl w.heap.size w)
    have hlow : w.heap.size ≤ w.heap.size := Nat.le_refl _
    go_enter Tryd.func15, Tryd.ntmps15
    go_wp2_with fail
    obtain ⟨V1, hV1⟩ : ∃ W, W = w.alloc (.cells #[.int .i64 g, .int .i64 c] 24) := ⟨_, rfl⟩
    rw [← hV1]
    have hzV1 : V1.heap.size = w.heap.size + 1 := by rw [hV1]; simp
    replace HBel : Hid (Below w.heap.size w V1) := Lib.hid (by rw [hV1]; exact (HBel.out.alloc (hlow) _))
    have B_f : Hid (V1.heap[w.heap.size]? = some (.cells #[.int .i64 g, .int .i64 c] 24 (0, 0))) := Lib.hid (by
      have h9 := heap_alloc_new (w) (.cells #[.int .i64 g, .int .i64 c] 24)
      rw [hV1]; exact h9)
    obtain ⟨N_f, hN_f⟩ : ∃ N, N = w.heap.size := ⟨_, rfl⟩
    (try rw [← hN_f])
    rw [← hN_f] at B_f
    have l_f : N_f < V1.heap.size := by omega
    have g_f : w.heap.size ≤ N_f := by omega
    replace hlow : w.heap.size ≤ V1.heap.size := by omega
    clear hV1 hzV1 hN_f
    refine (hRi.out V1 HBel.out).mono ?_
    rintro e U2 ⟨rfl, hb9⟩
    have hs9 := hb9.size
    replace HBel := Lib.hid (HBel.out.trans (hb9.mono hlow))
    replace B_f : Hid (U2.heap[N_f]? = some (.cells #[.int .i64 g, .int .i64 c] 24 (0, 0))) := Lib.hid ((hb9.block _ l_f).trans B_f.out)
    replace l_f : N_f < U2.heap.size := by omega
    replace hlow : w.heap.size ≤ U2.heap.size := by omega
    clear hb9 hs9
    have f0 : U2.cell? ⟨N_f, 0, none⟩ = some (.int .i64 g) := cell_blk (i := 0) B_f.out rfl
    have f1 : U2.cell? ⟨N_f, 1, none⟩ = some (.int .i64 c) := cell_blk (i := 1) B_f.out rfl
    go_wp2
    go_ret
    exact ⟨rfl, by rw [HB0.out]; exact HBel.out⟩
  have t5 : decide (1048576 < g) = false := decide_eq_false h5
  by_cases h6 : c < -1048576
  · obtain rfl : R = false := by rw [hR, decide_eq_false (by omega)]; rfl
    have t6 : decide (c < -1048576) = true := decide_eq_true h6
    clear hR hn hm h hp1 hd hs h1 h3 h4 h5 h6
    obtain ⟨B0, hB0⟩ : ∃ B, B = w.heap.size := ⟨_, rfl⟩
    rw [← hB0]
    have HB0 := Lib.hid hB0
    clear hB0
    have HBel := Lib.hid (Below.refl w.heap.size w)
    have hlow : w.heap.size ≤ w.heap.size := Nat.le_refl _
    go_enter Tryd.func15, Tryd.ntmps15
    go_wp2_with fail
    obtain ⟨V1, hV1⟩ : ∃ W, W = w.alloc (.cells #[.int .i64 g, .int .i64 c] 24) := ⟨_, rfl⟩
    rw [← hV1]
    have hzV1 : V1.heap.size = w.heap.size + 1 := by rw [hV1]; simp
    replace HBel : Hid (Below w.heap.size w V1) := Lib.hid (by rw [hV1]; exact (HBel.out.alloc (hlow) _))
    have B_f : Hid (V1.heap[w.heap.size]? = some (.cells #[.int .i64 g, .int .i64 c] 24 (0, 0))) := Lib.hid (by
      have h9 := heap_alloc_new (w) (.cells #[.int .i64 g, .int .i64 c] 24)
      rw [hV1]; exact h9)
    obtain ⟨N_f, hN_f⟩ : ∃ N, N = w.heap.size := ⟨_, rfl⟩
    (try rw [← hN_f])
    rw [← hN_f] at B_f
    have l_f : N_f < V1.heap.size := by omega
    have g_f : w.heap.size ≤ N_f := by omega
    replace hlow : w.heap.size ≤ V1.heap.size := by omega
    clear hV1 hzV1 hN_f
    refine (hRi.out V1 HBel.out).mono ?_
    rintro e U2 ⟨rfl, hb9⟩
    have hs9 := hb9.size
    replace HBel := Lib.hid (HBel.out.trans (hb9.mono hlow))
    replace B_f : Hid (U2.heap[N_f]? = some (.cells #[.int .i64 g, .int .i64 c] 24 (0, 0))) := Lib.hid ((hb9.block _ l_f).trans B_f.out)
    replace l_f : N_f < U2.heap.size := by omega
    replace hlow : w.heap.size ≤ U2.heap.size := by omega
    clear hb9 hs9
    have f0 : U2.cell? ⟨N_f, 0, none⟩ = some (.int .i64 g) := cell_blk (i := 0) B_f.out rfl
    have f1 : U2.cell? ⟨N_f, 1, none⟩ = some (.int .i64 c) := cell_blk (i := 1) B_f.out rfl
    go_wp2
    go_ret
    exact ⟨rfl, by rw [HB0.out]; exact HBel.out⟩
  have t6 : decide (c < -1048576) = false := decide_eq_false h6
  by_cases h7 : 1048576 < c
  · obtain rfl : R = false := by rw [hR, decide_eq_false (by omega)]; rfl
    have t7 : decide (1048576 < c) = true := decide_eq_true h7
    clear hR hn hm h hp1 hd hs h1 h3 h4 h5 h6 h7
    obtain ⟨B0, hB0⟩ : ∃ B, B = w.heap.size := ⟨_, rfl⟩
    rw [← hB0]
    have HB0 := Lib.hid hB0
    clear hB0
    have HBel := Lib.hid (Below.refl w.heap.size w)
    have hlow : w.heap.size ≤ w.heap.size := Nat.le_refl _
    go_enter Tryd.func15, Tryd.ntmps15
    go_wp2_with fail
    obtain ⟨V1, hV1⟩ : ∃ W, W = w.alloc (.cells #[.int .i64 g, .int .i64 c] 24) := ⟨_, rfl⟩
    rw [← hV1]
    have hzV1 : V1.heap.size = w.heap.size + 1 := by rw [hV1]; simp
    replace HBel : Hid (Below w.heap.size w V1) := Lib.hid (by rw [hV1]; exact (HBel.out.alloc (hlow) _))
    have B_f : Hid (V1.heap[w.heap.size]? = some (.cells #[.int .i64 g, .int .i64 c] 24 (0, 0))) := Lib.hid (by
      have h9 := heap_alloc_new (w) (.cells #[.int .i64 g, .int .i64 c] 24)
      rw [hV1]; exact h9)
    obtain ⟨N_f, hN_f⟩ : ∃ N, N = w.heap.size := ⟨_, rfl⟩
    (try rw [← hN_f])
    rw [← hN_f] at B_f
    have l_f : N_f < V1.heap.size := by omega
    have g_f : w.heap.size ≤ N_f := by omega
    replace hlow : w.heap.size ≤ V1.heap.size := by omega
    clear hV1 hzV1 hN_f
    refine (hRi.out V1 HBel.out).mono ?_
    rintro e U2 ⟨rfl, hb9⟩
    have hs9 := hb9.size
    replace HBel := Lib.hid (HBel.out.trans (hb9.mono hlow))
    replace B_f : Hid (U2.heap[N_f]? = some (.cells #[.int .i64 g, .int .i64 c] 24 (0, 0))) := Lib.hid ((hb9.block _ l_f).trans B_f.out)
    replace l_f : N_f < U2.heap.size := by omega
    replace hlow : w.heap.size ≤ U2.heap.size := by omega
    clear hb9 hs9
    have f0 : U2.cell? ⟨N_f, 0, none⟩ = some (.int .i64 g) := cell_blk (i := 0) B_f.out rfl
    have f1 : U2.cell? ⟨N_f, 1, none⟩ = some (.int .i64 c) := cell_blk (i := 1) B_f.out rfl
    go_wp2
    go_ret
    exact ⟨rfl, by rw [HB0.out]; exact HBel.out⟩
  have t7 : decide (1048576 < c) = false := decide_eq_false h7
  rw [decide_eq_true (show -1048576 ≤ g ∧ g ≤ 1048576 ∧ -1048576 ≤ c ∧ c ≤ 1048576 by omega), Bool.true_and] at hR
  have H := Lib.hid (And.intro hd (And.intro hm (And.intro hs hR)))
  have hm20 : m ≤ 20 := by omega
  clear hR hn hm h hp1 hd hs h1 h3 h4 h5 h6 h7
  obtain ⟨B0, hB0⟩ : ∃ B, B = w.heap.size := ⟨_, rfl⟩
  rw [← hB0]
  have HB0 := Lib.hid hB0
  clear hB0
  have HBel := Lib.hid (Below.refl w.heap.size w)
  have hlow : w.heap.size ≤ w.heap.size := Nat.le_refl _
  go_enter Tryd.func15, Tryd.ntmps15
  go_wp2_with fail
  obtain ⟨V1, hV1⟩ : ∃ W, W = w.alloc (.cells #[.int .i64 g, .int .i64 c] 24) := ⟨_, rfl⟩
  rw [← hV1]
  have hzV1 : V1.heap.size = w.heap.size + 1 := by rw [hV1]; simp
  replace HBel : Hid (Below w.heap.size w V1) := Lib.hid (by rw [hV1]; exact (HBel.out.alloc (hlow) _))
  have B_f : Hid (V1.heap[w.heap.size]? = some (.cells #[.int .i64 g, .int .i64 c] 24 (0, 0))) := Lib.hid (by
    have h9 := heap_alloc_new (w) (.cells #[.int .i64 g, .int .i64 c] 24)
    rw [hV1]; exact h9)
  obtain ⟨N_f, hN_f⟩ : ∃ N, N = w.heap.size := ⟨_, rfl⟩
  (try rw [← hN_f])
  rw [← hN_f] at B_f
  have l_f : N_f < V1.heap.size := by omega
  have g_f : w.heap.size ≤ N_f := by omega
  replace hlow : w.heap.size ≤ V1.heap.size := by omega
  clear hV1 hzV1 hN_f
  refine (hRi.out V1 HBel.out).mono ?_
  rintro e U2 ⟨rfl, hb9⟩
  have hs9 := hb9.size
  replace HBel := Lib.hid (HBel.out.trans (hb9.mono hlow))
  replace B_f : Hid (U2.heap[N_f]? = some (.cells #[.int .i64 g, .int .i64 c] 24 (0, 0))) := Lib.hid ((hb9.block _ l_f).trans B_f.out)
  replace l_f : N_f < U2.heap.size := by omega
  replace hlow : w.heap.size ≤ U2.heap.size := by omega
  clear hb9 hs9
  have f0 : U2.cell? ⟨N_f, 0, none⟩ = some (.int .i64 g) := cell_blk (i := 0) B_f.out rfl
  have f1 : U2.cell? ⟨N_f, 1, none⟩ = some (.int .i64 c) := cell_blk (i := 1) B_f.out rfl
  go_wp2
  go_loopw [7] (fun i wr => ∃ k : Nat, i = .int .i64 k ∧ k ≤ m ∧ U2 = wr ∧ Hid ((l.take k).all (fun x => decide (x.sl.length ≤ 20)) = true)) (fun i _ => m - (intOf i).toNat)
  case atStart => exact ⟨0, rfl, by omega, by first | rfl | trivial, Lib.hid (by simp)⟩
  case round =>
    obtain ⟨k, rfl, hk, rfl, hA⟩ := hrel
    obtain ⟨hd, hm, hs, hR⟩ := H.out
    by_cases hlt : k < m
    · have u1 : decide (k < m) = true := decide_eq_true hlt
      obtain ⟨x, hx⟩ := get_lt (l := l) (k := k) (by rw [← hm]; exact hlt)
      obtain ⟨b, off, rfl, hb, hall⟩ := hd.at_ hx
      have hk4 := (hall k x hx).keep hb HBel.out
      have h4 := hk4 4 _ rfl
      obtain ⟨v, hv⟩ : ∃ v, v = x.sl.length := ⟨_, rfl⟩
      have hv6 := hs x (List.mem_of_getElem? hx)
      unfold maxLen at hv6
      rw [← hv] at h4 hv6
      by_cases h20 : 20 < v
      · have u2 : decide (20 < (v : Int)) = true := decide_eq_true (by omega)
        have hf : R = false := by rw [hR]; exact all_no hx (by simp; omega)
        have HF := Lib.hid hf
        clear hall hk4 hx hv hd hm hs hR hf h20
        go_wp2
        go_ret
        exact ⟨by rw [HF.out]; rfl, by rw [HB0.out]; exact HBel.out⟩
      · have u2 : decide (20 < (v : Int)) = false := decide_eq_false (by omega)
        have HN := Lib.hid (all_next hx hA.out (by simp; omega))
        clear hall hk4 hx hv hd hm hs hR h20
        go_wp2
        go_roundw
        case rel => exact ⟨k + 1, by go_num, by omega, by first | rfl | trivial, HN⟩
        case measure => simp [intOf]; omega
    · obtain rfl : k = m := by omega
      have u1 : decide (k < k) = false := by simp
      have hf : R = true := by rw [hR]; refine all_end ?_; have := hA.out; rw [hm] at this; exact this
      have HF := Lib.hid hf
      clear hd hm hs hR hf hlt
      go_wp2
      go_ret
      exact ⟨by rw [HF.out]; rfl, by rw [HB0.out]; exact HBel.out⟩
end Go.Proofs.YtikgmgimdeibgaaDoor

set_option linter.unusedVariables false
set_option maxRecDepth 100000
namespace Go.Proofs.YtikgmgimdeibgaaDoor
open Go.RowKit
open PR
def exX (n : Int) : Wa := ⟨0, n, ⟨1, 0, 1, 2⟩⟩
def exV : List Fe := [⟨0, 0, 1, 0⟩]
def exH (a : Nat) : Ho := ⟨0, 0, 7, false, some ⟨a, 0, none⟩, 1, [⟨0, 0, 14, 0⟩]⟩
theorem exV_view : View exV := ⟨fun f hf => by
  simp [exV] at hf
  subst hf
  exact ⟨⟨by decide, by decide, by decide, by decide⟩, by decide, by decide⟩, by simp [spotsL, exV]⟩
theorem ex_cand {a : Nat} {x : Int} (h : Cand 3 [exH a] x) : x = 3 ∨ x = 7 := by
  rcases h with h | ⟨⟨y, hy, e⟩, _⟩
  · exact .inl h
  · simp at hy; subst hy; exact .inr e.symm
theorem ex_turn (a : Nat) : (turnL moreC exV (sl [exH a])).1 = 0 := by kernel_rfl
theorem ex_no (a : Nat) : at_ exV 9 0 [exH a] (exX 2) 3 = false := by kernel_rfl
theorem ex_yes (a : Nat) : at_ exV 9 0 [exH a] (exX 2) 7 = true := by kernel_rfl
theorem ex_one (a : Nat) : at_ exV 9 0 [exH a] (exX 1) 3 = true := by kernel_rfl
theorem ex_seven (a : Nat) : Earl 3 exV 9 0 [exH a] (exX 2) 7 0 :=
  .inr ⟨⟨by decide, by decide, by decide⟩, .inr ⟨ex_turn a, rfl, .inr ⟨.inr ⟨⟨exH a, by simp, rfl⟩, by decide, by decide⟩, ex_yes a, fun x hx hp => by
    rcases ex_cand hx with rfl | rfl
    · rw [ex_no] at hp; cases hp
    · decide⟩⟩⟩
theorem ex_now (a : Nat) : Earl 3 exV 9 0 [exH a] (exX 1) 3 0 :=
  .inr ⟨⟨by decide, by decide, by decide⟩, .inr ⟨ex_turn a, rfl, .inr ⟨.inl rfl, ex_one a, fun x hx hp => by
    rcases ex_cand hx with rfl | rfl <;> decide⟩⟩⟩
theorem ex_want (n : Int) (h : (Lit.int .i64 n).wf = true) : WaOk (exX n) := ⟨by kernel_rfl, h, ⟨by kernel_rfl, by kernel_rfl, by kernel_rfl, by kernel_rfl⟩⟩
theorem ex_earl (n T : Int) (hn : (Lit.int .i64 n).wf = true) (hT : ∀ a, Earl 3 exV 9 0 [exH a] (exX n) T 0) (w : World) (hTab : Tab w) (v h s : Nat) (bv : w.heap[v]? = some (.cells #[.int .i64 0, .int .i64 0, .int .u64 1, .int .i64 0] 58 (0, 0)))
    (bh : w.heap[h]? = some (.cells #[.int .i64 0, .int .i64 0, .int .i64 7, .bool false, .slice (some ⟨s, 0, none⟩) 1 1] 32 (0, 0))) (bs : w.heap[s]? = some (.cells #[.int .i64 0, .int .i64 0, .int .u64 14, .int .i64 0] 57 (0, 0))) :
    Calls Tryd.prog 14 #[.int .i64 3, .slice (some ⟨v, 0, none⟩) 1 1, .agg #[.int .i64 9, .int .i64 0], .slice (some ⟨h, 0, none⟩) 1 1, .agg #[.int .i64 0, .int .i64 n, .int .i64 1, .int .i64 0, .int .i64 1, .int .i64 2]] w fun e w' => e = .returned (.tuple #[.int .i64 T, .int .i64 0]) ∧ Below w.heap.size w w' := by
  have hv : Fes w w.heap.size (some ⟨v, 0, none⟩) exV := fe_blk (cs := exV.flatMap feC) bv (fun _ _ h => h) (blk_lt bv)
  have hs : Fes w w.heap.size (some ⟨s, 0, none⟩) [⟨0, 0, 14, 0⟩] := fe_blk (cs := [(⟨0, 0, 14, 0⟩ : Fe)].flatMap feC) bs (fun _ _ h => h) (blk_lt bs)
  have hd : HosIn w w.heap.size (some ⟨h, 0, none⟩) [exH s] := by
    refine ⟨.inr ⟨h, 0, rfl, blk_lt bh, fun i x hx => ?_⟩, fun x hx => ?_⟩
    · match i, hx with
      | 0, hx =>
        simp at hx; subst hx
        intro r u hr
        rw [Nat.zero_mul, Nat.add_zero, Nat.zero_add]
        exact cell_blk bh (by simpa [hoC, exH] using hr)
    · simp at hx; subst hx; exact hs
  have h9 := pearliest_any 3 (some ⟨v, 0, none⟩) 1 exV 9 0 (some ⟨h, 0, none⟩) 1 [exH s] (exX n) w hv exV_view (by decide) hd (fun x hx => by
    simp at hx; subst hx
    refine ⟨by kernel_rfl, by kernel_rfl, Nat.le_refl 1, (by unfold maxLen; show 1 ≤ _; omega), fun f hf => ?_⟩
    simp [exH] at hf; subst hf
    exact ⟨by decide, by decide, by decide, by decide⟩) ⟨by simp, fun x hx => by simp at hx; subst hx; show 1 ≤ 1000; omega⟩ (show 1 ≤ 100000 by omega) (ex_want n hn) (by decide) (by decide) hTab
  refine h9.mono ?_
  rintro e w' ⟨T', E', rfl, he, hb⟩
  obtain ⟨rfl, rfl⟩ := he.same (hT s)
  exact ⟨rfl, hb⟩
end Go.Proofs.YtikgmgimdeibgaaDoor

set_option linter.unusedVariables false
namespace Go.Proofs.YtikgmgimdeibgaaDoor
open Go.RowKit
open PR
theorem few_true {lv : List Fe} {g c : Int} {l : List Ho} (h : fewH lv g c l = true) (hf : ∀ f ∈ lv, FeOk f) : View lv ∧ lv.length ≤ 70 ∧ (-1048576 ≤ g ∧ g ≤ 1048576 ∧ -1048576 ≤ c ∧ c ≤ 1048576) ∧ Many l ∧ (sl l).length ≤ 20000 ∧ l.length ≤ 20 ∧ ∀ x ∈ l, x.sl.length ≤ 20 := by
  unfold fewH at h
  simp only [Bool.and_eq_true, decide_eq_true_eq, List.all_eq_true] at h
  obtain ⟨h1, h2, h3, h4, h5⟩ := h
  have h6 := sl_len (l := l) fun x hx => by have := h5 x hx; omega
  exact ⟨view_of_right hf h2, h1, h4, ⟨by omega, fun x hx => by have := h5 x hx; omega⟩, by omega, h3, h5⟩
theorem at_nil (lv : List Fe) (g c : Int) (X : Wa) (t : Int) : at_ lv g c [] X t = fits lv g c X := by
  unfold at_
  have e : over ([] : List Ho) t = [] := rfl
  rw [e]
  show fits (turnL moreC lv []).2 (g + gs []) (c + cs []) X = _
  have e1 : gs [] = 0 := rfl
  have e2 : cs [] = 0 := rfl
  rw [turnL, e1, e2]
  simp
theorem turn_nil0 (lv : List Fe) : (turnL moreC lv (sl [])).1 = 0 := rfl
/-- Nothing is held: it is now, or never. -/
theorem Earl_nil {now : Int} {lv : List Fe} {g c : Int} {X : Wa} {u f : Int} (h : Earl now lv g c [] X u f) (h0 : f = 0) : now ≤ 1073741824 ∧ (u = now ∧ fits lv g c X = true ∨ u = 1073741825 ∧ fits lv g c X = false) := by
  subst h0
  obtain ⟨_, _, h1, _, h2⟩ := h.ok
  refine ⟨h1, ?_⟩
  rcases h2 with ⟨e, h2⟩ | ⟨h2, h3, _⟩
  · exact .inr ⟨e, by have := h2 now (.inl rfl); rwa [at_nil] at this⟩
  · rw [at_nil] at h3
    rcases h2 with e | ⟨⟨x, hx, _⟩, _⟩
    · exact .inl ⟨e, h3⟩
    · cases hx
theorem Earl_nil_bad {now : Int} {lv : List Fe} {g c g' c' : Int} {l : List Ho} {X : Wa} {u f T E : Int} (h : Earl now lv g c [] X u f) (h0 : f ≠ 0) (k : Earl now lv g' c' l X T E) : E ≠ 0 := by
  rcases h with ⟨h1, _, _⟩ | ⟨_, ⟨h1, _⟩ | ⟨_, h1, _⟩⟩
  · rcases k with ⟨_, _, e⟩ | ⟨k, _⟩
    · omega
    · exact absurd k h1
  · exact absurd (turn_nil0 lv) h1
  · exact absurd h1 h0
end Go.Proofs.YtikgmgimdeibgaaDoor
