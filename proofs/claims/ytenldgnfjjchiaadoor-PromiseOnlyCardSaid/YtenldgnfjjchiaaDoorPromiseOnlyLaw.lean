/- With nothing held it is now, or never; all that must end is over by the last end: so it is now, or never, or one of the ends: the law PromiseOnly answers true, at every input. The library's table of lowest units is as the program's text lays it (tied). -/
import Derived.Test.YtenldgnfjjchiaaDoorProT
import Derived.SevenTiedAt
import Derived.Test.YtenldgnfjjchiaaDoorTie
import Derived.Test.YtenldgnfjjchiaaDoorCards
set_option linter.unusedVariables false
namespace Go.Proofs.YtenldgnfjjchiaaDoor.promiseOnly
open Go Go.ChangeShapes Go.WideShapes Go.ChangeAt Go.RowKit
open PR
set_option maxRecDepth 100000 in
set_option maxHeartbeats 16000000 in
theorem walk (now : Int) (a1 : Option Addr) (c1 : Nat) (l1 : List Fe) (g c : Int) (a3 : Option Addr) (c3 : Nat) (l3 : List Ho) (X : Wa) (w : World) (w0 : (Lit.int .i64 now).wf = true) (v1 : Fes w w.heap.size a1 l1) (q1 : ∀ s ∈ l1, FeOk s) (lc1 : l1.length ≤ c1) (mc1 : c1 ≤ maxLen) (wg : (Lit.int .i64 g).wf = true) (wc : (Lit.int .i64 c).wf = true) (v3 : HosIn w w.heap.size a3 l3) (q3 : ∀ x ∈ l3, HoOk x) (lc3 : l3.length ≤ c3) (mc3 : c3 ≤ maxLen) (w4 : WaOk X) (hT : Tab w) :
    Calls Tryd.prog 6 #[.int .i64 now, .slice a1 l1.length c1, .agg #[.int .i64 g, .int .i64 c], .slice a3 l3.length c3, waV X] w fun e w' => e = .returned (.bool true) ∧ Below w.heap.size w w' := by
  have HT := Lib.hid hT
  have hAw := Lib.hid (fun W (hT : Tab W) => awake12 W hT)
  obtain ⟨n, hn⟩ : ∃ n, n = l1.length := ⟨_, rfl⟩
  obtain ⟨m, hm⟩ : ∃ m, m = l3.length := ⟨_, rfl⟩
  unfold waV waA
  have hFw := Lib.hid (fun W (hW : Below w.heap.size w W) => show Calls Tryd.prog 9 #[.slice a1 n c1, .agg #[.int .i64 g, .int .i64 c], .slice a3 m c3] W (fun e w' => e = .returned (.bool (fewH l1 g c l3)) ∧ Below W.heap.size W w') from by
    rw [hn, hm]
    exact few12_any a1 c1 l1 g c a3 c3 l3 W (v1.keep hW hW.size) lc1 (v3.keep hW hW.size).at_ (fun x hx => Nat.le_trans (q3 x hx).l (q3 x hx).m))
  rw [← hn, ← hm]
  cases hfew : fewH l1 g c l3
  · rw [hfew] at hFw
    clear hfew hn hm w0 v1 q1 lc1 mc1 wg wc v3 q3 lc3 mc3 w4 hT 
    obtain ⟨B0, hB0⟩ : ∃ B, B = w.heap.size := ⟨_, rfl⟩
    rw [← hB0]
    have HB0 := Lib.hid hB0
    clear hB0
    have HBel := Lib.hid (Below.refl w.heap.size w)
    have hlow : w.heap.size ≤ w.heap.size := Nat.le_refl _
    go_enter Tryd.func6, Tryd.ntmps6
    go_wp2_with fail
    obtain ⟨V1, hV1⟩ : ∃ W, W = (w.alloc (.cells #[.int .i64 g, .int .i64 c] 24)).alloc (.cells #[.int .i64 X.q, .int .i64 X.n, .int .i64 X.S.g, .int .i64 X.S.c, .int .i64 X.S.mn, .int .i64 X.S.mx] 29) := ⟨_, rfl⟩
    rw [← hV1]
    have hzV1 : V1.heap.size = w.heap.size + 1 + 1 := by rw [hV1]; simp
    replace HBel : Hid (Below w.heap.size w V1) := Lib.hid (by rw [hV1]; exact ((HBel.out.alloc (hlow) _).alloc (by simp <;> omega) _))
    have B_f : Hid (V1.heap[w.heap.size]? = some (.cells #[.int .i64 g, .int .i64 c] 24 (0, 0))) := Lib.hid (by
      have h9 := heap_alloc_new (w) (.cells #[.int .i64 g, .int .i64 c] 24)
      rw [hV1]; exact ((Below.heap_alloc _ _ _ (by simp <;> omega)).trans h9))
    have B_b : Hid (V1.heap[w.heap.size + 1]? = some (.cells #[.int .i64 X.q, .int .i64 X.n, .int .i64 X.S.g, .int .i64 X.S.c, .int .i64 X.S.mn, .int .i64 X.S.mx] 29 (0, 0))) := Lib.hid (by
      have h9 := heap_alloc_new (w.alloc (.cells #[.int .i64 g, .int .i64 c] 24)) (.cells #[.int .i64 X.q, .int .i64 X.n, .int .i64 X.S.g, .int .i64 X.S.c, .int .i64 X.S.mn, .int .i64 X.S.mx] 29)
      rw [World.size_alloc] at h9
      rw [hV1]; exact h9)
    obtain ⟨N_f, hN_f⟩ : ∃ N, N = w.heap.size := ⟨_, rfl⟩
    obtain ⟨N_b, hN_b⟩ : ∃ N, N = w.heap.size + 1 := ⟨_, rfl⟩
    (try rw [← hN_b])
    rw [← hN_b] at B_b
    (try rw [← hN_f])
    rw [← hN_f] at B_f
    have l_f : N_f < V1.heap.size := by omega
    have l_b : N_b < V1.heap.size := by omega
    have g_f : w.heap.size ≤ N_f := by omega
    have g_b : w.heap.size ≤ N_b := by omega
    have d_f_b : N_f < N_b := by omega
    replace hlow : w.heap.size ≤ V1.heap.size := by omega
    clear hV1 hzV1 hN_f hN_b
    refine (hAw.out V1 (HT.out.below HBel.out HT.out.size)).mono ?_
    rintro e U2 ⟨rfl, hb9⟩
    have hs9 := hb9.size
    replace HBel := Lib.hid (HBel.out.trans (hb9.mono hlow))
    replace B_f : Hid (U2.heap[N_f]? = some (.cells #[.int .i64 g, .int .i64 c] 24 (0, 0))) := Lib.hid ((hb9.block _ l_f).trans B_f.out)
    replace B_b : Hid (U2.heap[N_b]? = some (.cells #[.int .i64 X.q, .int .i64 X.n, .int .i64 X.S.g, .int .i64 X.S.c, .int .i64 X.S.mn, .int .i64 X.S.mx] 29 (0, 0))) := Lib.hid ((hb9.block _ l_b).trans B_b.out)
    replace l_f : N_f < U2.heap.size := by omega
    replace l_b : N_b < U2.heap.size := by omega
    replace hlow : w.heap.size ≤ U2.heap.size := by omega
    clear hb9 hs9
    have f0 : U2.cell? ⟨N_f, 0, none⟩ = some (.int .i64 g) := cell_blk (i := 0) B_f.out rfl
    have f1 : U2.cell? ⟨N_f, 1, none⟩ = some (.int .i64 c) := cell_blk (i := 1) B_f.out rfl
    go_wp2_with fail
    refine (hFw.out U2 HBel.out).mono ?_
    rintro e U3 ⟨rfl, hb9⟩
    clear f0 f1
    have hs9 := hb9.size
    replace HBel := Lib.hid (HBel.out.trans (hb9.mono hlow))
    replace B_f : Hid (U3.heap[N_f]? = some (.cells #[.int .i64 g, .int .i64 c] 24 (0, 0))) := Lib.hid ((hb9.block _ l_f).trans B_f.out)
    replace B_b : Hid (U3.heap[N_b]? = some (.cells #[.int .i64 X.q, .int .i64 X.n, .int .i64 X.S.g, .int .i64 X.S.c, .int .i64 X.S.mn, .int .i64 X.S.mx] 29 (0, 0))) := Lib.hid ((hb9.block _ l_b).trans B_b.out)
    replace l_f : N_f < U3.heap.size := by omega
    replace l_b : N_b < U3.heap.size := by omega
    replace hlow : w.heap.size ≤ U3.heap.size := by omega
    clear hb9 hs9
    go_wp2
    go_ret
    exact ⟨rfl, by rw [HB0.out]; exact HBel.out⟩
  rw [hfew] at hFw
  obtain ⟨hview, hn70, hgc, hmany, hsl, hm20, hs20⟩ := few_true hfew q1
  have hE := Lib.hid (fun W (hW : Below w.heap.size w W) => show Calls Tryd.prog 10 #[.int .i64 now, .slice a1 n c1, .agg #[.int .i64 g, .int .i64 c], .slice a3 m c3, .agg #[.int .i64 X.q, .int .i64 X.n, .int .i64 X.S.g, .int .i64 X.S.c, .int .i64 X.S.mn, .int .i64 X.S.mx]] W (fun e w' => ∃ T E, e = .returned (.tuple #[.int .i64 T, .int .i64 E]) ∧ Earl now l1 g c l3 X T E ∧ Below W.heap.size W w') from by
    have h9 := pearliest_any now a1 c1 l1 g c a3 c3 l3 X W (v1.keep hW hW.size) hview (by omega) (v3.keep hW hW.size) q3 hmany (by omega) w4 (by omega) (by omega) (hT.below hW hT.size)
    rw [← hn, ← hm] at h9
    exact h9)
  have hFi := Lib.hid (fun W (hW : Below w.heap.size w W) => show Calls Tryd.prog 12 #[.slice a1 n c1, .agg #[.int .i64 g, .int .i64 c], .agg #[.int .i64 X.q, .int .i64 X.n, .int .i64 X.S.g, .int .i64 X.S.c, .int .i64 X.S.mn, .int .i64 X.S.mx]] W (fun e w' => e = .returned (.bool (PR.fits l1 g c X)) ∧ Below W.heap.size W w') from by
    have h9 := pfits_any a1 c1 W.heap.size l1 g c X W (v1.keep hW hW.size) (Nat.le_refl _) (by omega) q1 w4 (hT.below hW hT.size)
    rw [← hn] at h9
    exact h9)
  have hE0 := Lib.hid (fun W (hW : Below w.heap.size w W) => show Calls Tryd.prog 10 #[.int .i64 now, .slice a1 n c1, .agg #[.int .i64 g, .int .i64 c], .slice none 0 0, .agg #[.int .i64 X.q, .int .i64 X.n, .int .i64 X.S.g, .int .i64 X.S.c, .int .i64 X.S.mn, .int .i64 X.S.mx]] W (fun e w' => ∃ T E, e = .returned (.tuple #[.int .i64 T, .int .i64 E]) ∧ Earl now l1 g c [] X T E ∧ Below W.heap.size W w') from by
    have h9 := pearliest_any now a1 c1 l1 g c none 0 [] X W (v1.keep hW hW.size) hview (by omega) ⟨.inl rfl, by simp⟩ (by simp) ⟨by simp, by simp⟩ (by simp [sl]) w4 (by omega) (by omega) (hT.below hW hT.size)
    rw [← hn] at h9
    exact h9)
  have H3 := Lib.hid (And.intro v3.at_ hm)
  have hm20' : m ≤ 20 := by omega
  clear hfew hview hn70 hgc hmany hsl hs20 w0 v1 q1 lc1 mc1 wg wc q3 lc3 mc3 w4 hT v3 hn hm hm20
  obtain ⟨B0, hB0⟩ : ∃ B, B = w.heap.size := ⟨_, rfl⟩
  rw [← hB0]
  have HB0 := Lib.hid hB0
  clear hB0
  have HBel := Lib.hid (Below.refl w.heap.size w)
  have hlow : w.heap.size ≤ w.heap.size := Nat.le_refl _
  go_enter Tryd.func6, Tryd.ntmps6
  go_wp2_with fail
  obtain ⟨V1, hV1⟩ : ∃ W, W = (w.alloc (.cells #[.int .i64 g, .int .i64 c] 24)).alloc (.cells #[.int .i64 X.q, .int .i64 X.n, .int .i64 X.S.g, .int .i64 X.S.c, .int .i64 X.S.mn, .int .i64 X.S.mx] 29) := ⟨_, rfl⟩
  rw [← hV1]
  have hzV1 : V1.heap.size = w.heap.size + 1 + 1 := by rw [hV1]; simp
  replace HBel : Hid (Below w.heap.size w V1) := Lib.hid (by rw [hV1]; exact ((HBel.out.alloc (hlow) _).alloc (by simp <;> omega) _))
  have B_f : Hid (V1.heap[w.heap.size]? = some (.cells #[.int .i64 g, .int .i64 c] 24 (0, 0))) := Lib.hid (by
    have h9 := heap_alloc_new (w) (.cells #[.int .i64 g, .int .i64 c] 24)
    rw [hV1]; exact ((Below.heap_alloc _ _ _ (by simp <;> omega)).trans h9))
  have B_b : Hid (V1.heap[w.heap.size + 1]? = some (.cells #[.int .i64 X.q, .int .i64 X.n, .int .i64 X.S.g, .int .i64 X.S.c, .int .i64 X.S.mn, .int .i64 X.S.mx] 29 (0, 0))) := Lib.hid (by
    have h9 := heap_alloc_new (w.alloc (.cells #[.int .i64 g, .int .i64 c] 24)) (.cells #[.int .i64 X.q, .int .i64 X.n, .int .i64 X.S.g, .int .i64 X.S.c, .int .i64 X.S.mn, .int .i64 X.S.mx] 29)
    rw [World.size_alloc] at h9
    rw [hV1]; exact h9)
  obtain ⟨N_f, hN_f⟩ : ∃ N, N = w.heap.size := ⟨_, rfl⟩
  obtain ⟨N_b, hN_b⟩ : ∃ N, N = w.heap.size + 1 := ⟨_, rfl⟩
  (try rw [← hN_b])
  rw [← hN_b] at B_b
  (try rw [← hN_f])
  rw [← hN_f] at B_f
  have l_f : N_f < V1.heap.size := by omega
  have l_b : N_b < V1.heap.size := by omega
  have g_f : w.heap.size ≤ N_f := by omega
  have g_b : w.heap.size ≤ N_b := by omega
  have d_f_b : N_f < N_b := by omega
  replace hlow : w.heap.size ≤ V1.heap.size := by omega
  clear hV1 hzV1 hN_f hN_b
  refine (hAw.out V1 (HT.out.below HBel.out HT.out.size)).mono ?_
  rintro e U2 ⟨rfl, hb9⟩
  have hs9 := hb9.size
  replace HBel := Lib.hid (HBel.out.trans (hb9.mono hlow))
  replace B_f : Hid (U2.heap[N_f]? = some (.cells #[.int .i64 g, .int .i64 c] 24 (0, 0))) := Lib.hid ((hb9.block _ l_f).trans B_f.out)
  replace B_b : Hid (U2.heap[N_b]? = some (.cells #[.int .i64 X.q, .int .i64 X.n, .int .i64 X.S.g, .int .i64 X.S.c, .int .i64 X.S.mn, .int .i64 X.S.mx] 29 (0, 0))) := Lib.hid ((hb9.block _ l_b).trans B_b.out)
  replace l_f : N_f < U2.heap.size := by omega
  replace l_b : N_b < U2.heap.size := by omega
  replace hlow : w.heap.size ≤ U2.heap.size := by omega
  clear hb9 hs9
  have f0 : U2.cell? ⟨N_f, 0, none⟩ = some (.int .i64 g) := cell_blk (i := 0) B_f.out rfl
  have f1 : U2.cell? ⟨N_f, 1, none⟩ = some (.int .i64 c) := cell_blk (i := 1) B_f.out rfl
  go_wp2_with fail
  refine (hFw.out U2 HBel.out).mono ?_
  rintro e U3 ⟨rfl, hb9⟩
  clear f0 f1
  have hs9 := hb9.size
  replace HBel := Lib.hid (HBel.out.trans (hb9.mono hlow))
  replace B_f : Hid (U3.heap[N_f]? = some (.cells #[.int .i64 g, .int .i64 c] 24 (0, 0))) := Lib.hid ((hb9.block _ l_f).trans B_f.out)
  replace B_b : Hid (U3.heap[N_b]? = some (.cells #[.int .i64 X.q, .int .i64 X.n, .int .i64 X.S.g, .int .i64 X.S.c, .int .i64 X.S.mn, .int .i64 X.S.mx] 29 (0, 0))) := Lib.hid ((hb9.block _ l_b).trans B_b.out)
  replace l_f : N_f < U3.heap.size := by omega
  replace l_b : N_b < U3.heap.size := by omega
  replace hlow : w.heap.size ≤ U3.heap.size := by omega
  clear hb9 hs9
  have f0 : U3.cell? ⟨N_f, 0, none⟩ = some (.int .i64 g) := cell_blk (i := 0) B_f.out rfl
  have f1 : U3.cell? ⟨N_f, 1, none⟩ = some (.int .i64 c) := cell_blk (i := 1) B_f.out rfl
  have b0 : U3.cell? ⟨N_b, 0, none⟩ = some (.int .i64 X.q) := cell_blk (i := 0) B_b.out rfl
  have b1 : U3.cell? ⟨N_b, 1, none⟩ = some (.int .i64 X.n) := cell_blk (i := 1) B_b.out rfl
  have b2 : U3.cell? ⟨N_b, 2, none⟩ = some (.int .i64 X.S.g) := cell_blk (i := 2) B_b.out rfl
  have b3 : U3.cell? ⟨N_b, 3, none⟩ = some (.int .i64 X.S.c) := cell_blk (i := 3) B_b.out rfl
  have b4 : U3.cell? ⟨N_b, 4, none⟩ = some (.int .i64 X.S.mn) := cell_blk (i := 4) B_b.out rfl
  have b5 : U3.cell? ⟨N_b, 5, none⟩ = some (.int .i64 X.S.mx) := cell_blk (i := 5) B_b.out rfl
  go_wp2_with fail
  refine (hE.out U3 HBel.out).mono ?_
  rintro e U4 ⟨T, E, rfl, hEr, hb9⟩
  clear f0 f1 b0 b1 b2 b3 b4 b5
  have hs9 := hb9.size
  have HEr := Lib.hid hEr
  clear hEr
  replace HBel := Lib.hid (HBel.out.trans (hb9.mono hlow))
  replace B_f : Hid (U4.heap[N_f]? = some (.cells #[.int .i64 g, .int .i64 c] 24 (0, 0))) := Lib.hid ((hb9.block _ l_f).trans B_f.out)
  replace B_b : Hid (U4.heap[N_b]? = some (.cells #[.int .i64 X.q, .int .i64 X.n, .int .i64 X.S.g, .int .i64 X.S.c, .int .i64 X.S.mn, .int .i64 X.S.mx] 29 (0, 0))) := Lib.hid ((hb9.block _ l_b).trans B_b.out)
  replace l_f : N_f < U4.heap.size := by omega
  replace l_b : N_b < U4.heap.size := by omega
  replace hlow : w.heap.size ≤ U4.heap.size := by omega
  clear hb9 hs9
  have f0 : U4.cell? ⟨N_f, 0, none⟩ = some (.int .i64 g) := cell_blk (i := 0) B_f.out rfl
  have f1 : U4.cell? ⟨N_f, 1, none⟩ = some (.int .i64 c) := cell_blk (i := 1) B_f.out rfl
  have b0 : U4.cell? ⟨N_b, 0, none⟩ = some (.int .i64 X.q) := cell_blk (i := 0) B_b.out rfl
  have b1 : U4.cell? ⟨N_b, 1, none⟩ = some (.int .i64 X.n) := cell_blk (i := 1) B_b.out rfl
  have b2 : U4.cell? ⟨N_b, 2, none⟩ = some (.int .i64 X.S.g) := cell_blk (i := 2) B_b.out rfl
  have b3 : U4.cell? ⟨N_b, 3, none⟩ = some (.int .i64 X.S.c) := cell_blk (i := 3) B_b.out rfl
  have b4 : U4.cell? ⟨N_b, 4, none⟩ = some (.int .i64 X.S.mn) := cell_blk (i := 4) B_b.out rfl
  have b5 : U4.cell? ⟨N_b, 5, none⟩ = some (.int .i64 X.S.mx) := cell_blk (i := 5) B_b.out rfl
  go_wp2_with fail
  refine (hE0.out U4 HBel.out).mono ?_
  rintro e U5 ⟨u, f, rfl, hEn, hb9⟩
  clear f0 f1 b0 b1 b2 b3 b4 b5
  have hs9 := hb9.size
  have HEn := Lib.hid hEn
  clear hEn
  replace HBel := Lib.hid (HBel.out.trans (hb9.mono hlow))
  replace B_f : Hid (U5.heap[N_f]? = some (.cells #[.int .i64 g, .int .i64 c] 24 (0, 0))) := Lib.hid ((hb9.block _ l_f).trans B_f.out)
  replace B_b : Hid (U5.heap[N_b]? = some (.cells #[.int .i64 X.q, .int .i64 X.n, .int .i64 X.S.g, .int .i64 X.S.c, .int .i64 X.S.mn, .int .i64 X.S.mx] 29 (0, 0))) := Lib.hid ((hb9.block _ l_b).trans B_b.out)
  replace l_f : N_f < U5.heap.size := by omega
  replace l_b : N_b < U5.heap.size := by omega
  replace hlow : w.heap.size ≤ U5.heap.size := by omega
  clear hb9 hs9
  by_cases hf : f ≠ 0
  · have t1 : (f == 0) = false := beq_eq_false_iff_ne.2 hf
    have t2 : (E != 0) = true := by have := Earl_nil_bad HEn.out hf HEr.out; simpa using this
    clear hf
    have f0 : U5.cell? ⟨N_f, 0, none⟩ = some (.int .i64 g) := cell_blk (i := 0) B_f.out rfl
    have f1 : U5.cell? ⟨N_f, 1, none⟩ = some (.int .i64 c) := cell_blk (i := 1) B_f.out rfl
    have b0 : U5.cell? ⟨N_b, 0, none⟩ = some (.int .i64 X.q) := cell_blk (i := 0) B_b.out rfl
    have b1 : U5.cell? ⟨N_b, 1, none⟩ = some (.int .i64 X.n) := cell_blk (i := 1) B_b.out rfl
    have b2 : U5.cell? ⟨N_b, 2, none⟩ = some (.int .i64 X.S.g) := cell_blk (i := 2) B_b.out rfl
    have b3 : U5.cell? ⟨N_b, 3, none⟩ = some (.int .i64 X.S.c) := cell_blk (i := 3) B_b.out rfl
    have b4 : U5.cell? ⟨N_b, 4, none⟩ = some (.int .i64 X.S.mn) := cell_blk (i := 4) B_b.out rfl
    have b5 : U5.cell? ⟨N_b, 5, none⟩ = some (.int .i64 X.S.mx) := cell_blk (i := 5) B_b.out rfl
    go_wp2
    go_ret
    exact ⟨rfl, by rw [HB0.out]; exact HBel.out⟩
  obtain rfl : f = 0 := Classical.not_not.1 hf
  obtain ⟨hn0, hu⟩ := Earl_nil HEn.out rfl
  have hne : now ≠ 1073741825 := by omega
  by_cases hE0 : E = 0
  · subst hE0
    obtain ⟨_, _, _, _, hL⟩ := HEr.out.ok
    by_cases hTn : T = now
    · have t2 : (T == now) = true := by simp [hTn]
      clear hL hTn
      rcases hu with ⟨hun, hfit⟩ | ⟨hun, hfit⟩
      · have v1 : (u != now) = false := by simp [hun]
        have v2 : (u == now) = true := by simp [hun]
        clear hun
        rw [hfit] at hFi
        clear hfit
        have f0 : U5.cell? ⟨N_f, 0, none⟩ = some (.int .i64 g) := cell_blk (i := 0) B_f.out rfl
        have f1 : U5.cell? ⟨N_f, 1, none⟩ = some (.int .i64 c) := cell_blk (i := 1) B_f.out rfl
        have b0 : U5.cell? ⟨N_b, 0, none⟩ = some (.int .i64 X.q) := cell_blk (i := 0) B_b.out rfl
        have b1 : U5.cell? ⟨N_b, 1, none⟩ = some (.int .i64 X.n) := cell_blk (i := 1) B_b.out rfl
        have b2 : U5.cell? ⟨N_b, 2, none⟩ = some (.int .i64 X.S.g) := cell_blk (i := 2) B_b.out rfl
        have b3 : U5.cell? ⟨N_b, 3, none⟩ = some (.int .i64 X.S.c) := cell_blk (i := 3) B_b.out rfl
        have b4 : U5.cell? ⟨N_b, 4, none⟩ = some (.int .i64 X.S.mn) := cell_blk (i := 4) B_b.out rfl
        have b5 : U5.cell? ⟨N_b, 5, none⟩ = some (.int .i64 X.S.mx) := cell_blk (i := 5) B_b.out rfl
        go_wp2_with fail
        refine (hFi.out U5 HBel.out).mono ?_
        rintro e U6 ⟨rfl, hb9⟩
        clear f0 f1 b0 b1 b2 b3 b4 b5
        have hs9 := hb9.size
        replace HBel := Lib.hid (HBel.out.trans (hb9.mono hlow))
        replace B_f : Hid (U6.heap[N_f]? = some (.cells #[.int .i64 g, .int .i64 c] 24 (0, 0))) := Lib.hid ((hb9.block _ l_f).trans B_f.out)
        replace B_b : Hid (U6.heap[N_b]? = some (.cells #[.int .i64 X.q, .int .i64 X.n, .int .i64 X.S.g, .int .i64 X.S.c, .int .i64 X.S.mn, .int .i64 X.S.mx] 29 (0, 0))) := Lib.hid ((hb9.block _ l_b).trans B_b.out)
        replace l_f : N_f < U6.heap.size := by omega
        replace l_b : N_b < U6.heap.size := by omega
        replace hlow : w.heap.size ≤ U6.heap.size := by omega
        clear hb9 hs9
        have f0 : U6.cell? ⟨N_f, 0, none⟩ = some (.int .i64 g) := cell_blk (i := 0) B_f.out rfl
        have f1 : U6.cell? ⟨N_f, 1, none⟩ = some (.int .i64 c) := cell_blk (i := 1) B_f.out rfl
        have b0 : U6.cell? ⟨N_b, 0, none⟩ = some (.int .i64 X.q) := cell_blk (i := 0) B_b.out rfl
        have b1 : U6.cell? ⟨N_b, 1, none⟩ = some (.int .i64 X.n) := cell_blk (i := 1) B_b.out rfl
        have b2 : U6.cell? ⟨N_b, 2, none⟩ = some (.int .i64 X.S.g) := cell_blk (i := 2) B_b.out rfl
        have b3 : U6.cell? ⟨N_b, 3, none⟩ = some (.int .i64 X.S.c) := cell_blk (i := 3) B_b.out rfl
        have b4 : U6.cell? ⟨N_b, 4, none⟩ = some (.int .i64 X.S.mn) := cell_blk (i := 4) B_b.out rfl
        have b5 : U6.cell? ⟨N_b, 5, none⟩ = some (.int .i64 X.S.mx) := cell_blk (i := 5) B_b.out rfl
        go_wp2
        go_ret
        exact ⟨rfl, by rw [HB0.out]; exact HBel.out⟩
      · have v1 : (u != now) = true := by simp; omega
        have v2 : (u == now) = false := by simp; omega
        have v3 : (u != 1073741825) = false := by simp [hun]
        clear hun
        rw [hfit] at hFi
        clear hfit
        have f0 : U5.cell? ⟨N_f, 0, none⟩ = some (.int .i64 g) := cell_blk (i := 0) B_f.out rfl
        have f1 : U5.cell? ⟨N_f, 1, none⟩ = some (.int .i64 c) := cell_blk (i := 1) B_f.out rfl
        have b0 : U5.cell? ⟨N_b, 0, none⟩ = some (.int .i64 X.q) := cell_blk (i := 0) B_b.out rfl
        have b1 : U5.cell? ⟨N_b, 1, none⟩ = some (.int .i64 X.n) := cell_blk (i := 1) B_b.out rfl
        have b2 : U5.cell? ⟨N_b, 2, none⟩ = some (.int .i64 X.S.g) := cell_blk (i := 2) B_b.out rfl
        have b3 : U5.cell? ⟨N_b, 3, none⟩ = some (.int .i64 X.S.c) := cell_blk (i := 3) B_b.out rfl
        have b4 : U5.cell? ⟨N_b, 4, none⟩ = some (.int .i64 X.S.mn) := cell_blk (i := 4) B_b.out rfl
        have b5 : U5.cell? ⟨N_b, 5, none⟩ = some (.int .i64 X.S.mx) := cell_blk (i := 5) B_b.out rfl
        go_wp2_with fail
        refine (hFi.out U5 HBel.out).mono ?_
        rintro e U6 ⟨rfl, hb9⟩
        clear f0 f1 b0 b1 b2 b3 b4 b5
        have hs9 := hb9.size
        replace HBel := Lib.hid (HBel.out.trans (hb9.mono hlow))
        replace B_f : Hid (U6.heap[N_f]? = some (.cells #[.int .i64 g, .int .i64 c] 24 (0, 0))) := Lib.hid ((hb9.block _ l_f).trans B_f.out)
        replace B_b : Hid (U6.heap[N_b]? = some (.cells #[.int .i64 X.q, .int .i64 X.n, .int .i64 X.S.g, .int .i64 X.S.c, .int .i64 X.S.mn, .int .i64 X.S.mx] 29 (0, 0))) := Lib.hid ((hb9.block _ l_b).trans B_b.out)
        replace l_f : N_f < U6.heap.size := by omega
        replace l_b : N_b < U6.heap.size := by omega
        replace hlow : w.heap.size ≤ U6.heap.size := by omega
        clear hb9 hs9
        have f0 : U6.cell? ⟨N_f, 0, none⟩ = some (.int .i64 g) := cell_blk (i := 0) B_f.out rfl
        have f1 : U6.cell? ⟨N_f, 1, none⟩ = some (.int .i64 c) := cell_blk (i := 1) B_f.out rfl
        have b0 : U6.cell? ⟨N_b, 0, none⟩ = some (.int .i64 X.q) := cell_blk (i := 0) B_b.out rfl
        have b1 : U6.cell? ⟨N_b, 1, none⟩ = some (.int .i64 X.n) := cell_blk (i := 1) B_b.out rfl
        have b2 : U6.cell? ⟨N_b, 2, none⟩ = some (.int .i64 X.S.g) := cell_blk (i := 2) B_b.out rfl
        have b3 : U6.cell? ⟨N_b, 3, none⟩ = some (.int .i64 X.S.c) := cell_blk (i := 3) B_b.out rfl
        have b4 : U6.cell? ⟨N_b, 4, none⟩ = some (.int .i64 X.S.mn) := cell_blk (i := 4) B_b.out rfl
        have b5 : U6.cell? ⟨N_b, 5, none⟩ = some (.int .i64 X.S.mx) := cell_blk (i := 5) B_b.out rfl
        go_wp2
        go_ret
        exact ⟨rfl, by rw [HB0.out]; exact HBel.out⟩
    · have t2 : (T == now) = false := by simpa using hTn
      by_cases hTm : T = 1073741825
      · have t3 : (T == 1073741825) = true := by simp [hTm]
        clear hL hTn hTm
        rcases hu with ⟨hun, hfit⟩ | ⟨hun, hfit⟩
        · have v1 : (u != now) = false := by simp [hun]
          have v2 : (u == now) = true := by simp [hun]
          clear hun
          rw [hfit] at hFi
          clear hfit
          have f0 : U5.cell? ⟨N_f, 0, none⟩ = some (.int .i64 g) := cell_blk (i := 0) B_f.out rfl
          have f1 : U5.cell? ⟨N_f, 1, none⟩ = some (.int .i64 c) := cell_blk (i := 1) B_f.out rfl
          have b0 : U5.cell? ⟨N_b, 0, none⟩ = some (.int .i64 X.q) := cell_blk (i := 0) B_b.out rfl
          have b1 : U5.cell? ⟨N_b, 1, none⟩ = some (.int .i64 X.n) := cell_blk (i := 1) B_b.out rfl
          have b2 : U5.cell? ⟨N_b, 2, none⟩ = some (.int .i64 X.S.g) := cell_blk (i := 2) B_b.out rfl
          have b3 : U5.cell? ⟨N_b, 3, none⟩ = some (.int .i64 X.S.c) := cell_blk (i := 3) B_b.out rfl
          have b4 : U5.cell? ⟨N_b, 4, none⟩ = some (.int .i64 X.S.mn) := cell_blk (i := 4) B_b.out rfl
          have b5 : U5.cell? ⟨N_b, 5, none⟩ = some (.int .i64 X.S.mx) := cell_blk (i := 5) B_b.out rfl
          go_wp2_with fail
          refine (hFi.out U5 HBel.out).mono ?_
          rintro e U6 ⟨rfl, hb9⟩
          clear f0 f1 b0 b1 b2 b3 b4 b5
          have hs9 := hb9.size
          replace HBel := Lib.hid (HBel.out.trans (hb9.mono hlow))
          replace B_f : Hid (U6.heap[N_f]? = some (.cells #[.int .i64 g, .int .i64 c] 24 (0, 0))) := Lib.hid ((hb9.block _ l_f).trans B_f.out)
          replace B_b : Hid (U6.heap[N_b]? = some (.cells #[.int .i64 X.q, .int .i64 X.n, .int .i64 X.S.g, .int .i64 X.S.c, .int .i64 X.S.mn, .int .i64 X.S.mx] 29 (0, 0))) := Lib.hid ((hb9.block _ l_b).trans B_b.out)
          replace l_f : N_f < U6.heap.size := by omega
          replace l_b : N_b < U6.heap.size := by omega
          replace hlow : w.heap.size ≤ U6.heap.size := by omega
          clear hb9 hs9
          have f0 : U6.cell? ⟨N_f, 0, none⟩ = some (.int .i64 g) := cell_blk (i := 0) B_f.out rfl
          have f1 : U6.cell? ⟨N_f, 1, none⟩ = some (.int .i64 c) := cell_blk (i := 1) B_f.out rfl
          have b0 : U6.cell? ⟨N_b, 0, none⟩ = some (.int .i64 X.q) := cell_blk (i := 0) B_b.out rfl
          have b1 : U6.cell? ⟨N_b, 1, none⟩ = some (.int .i64 X.n) := cell_blk (i := 1) B_b.out rfl
          have b2 : U6.cell? ⟨N_b, 2, none⟩ = some (.int .i64 X.S.g) := cell_blk (i := 2) B_b.out rfl
          have b3 : U6.cell? ⟨N_b, 3, none⟩ = some (.int .i64 X.S.c) := cell_blk (i := 3) B_b.out rfl
          have b4 : U6.cell? ⟨N_b, 4, none⟩ = some (.int .i64 X.S.mn) := cell_blk (i := 4) B_b.out rfl
          have b5 : U6.cell? ⟨N_b, 5, none⟩ = some (.int .i64 X.S.mx) := cell_blk (i := 5) B_b.out rfl
          go_wp2
          go_ret
          exact ⟨rfl, by rw [HB0.out]; exact HBel.out⟩
        · have v1 : (u != now) = true := by simp; omega
          have v2 : (u == now) = false := by simp; omega
          have v3 : (u != 1073741825) = false := by simp [hun]
          clear hun
          rw [hfit] at hFi
          clear hfit
          have f0 : U5.cell? ⟨N_f, 0, none⟩ = some (.int .i64 g) := cell_blk (i := 0) B_f.out rfl
          have f1 : U5.cell? ⟨N_f, 1, none⟩ = some (.int .i64 c) := cell_blk (i := 1) B_f.out rfl
          have b0 : U5.cell? ⟨N_b, 0, none⟩ = some (.int .i64 X.q) := cell_blk (i := 0) B_b.out rfl
          have b1 : U5.cell? ⟨N_b, 1, none⟩ = some (.int .i64 X.n) := cell_blk (i := 1) B_b.out rfl
          have b2 : U5.cell? ⟨N_b, 2, none⟩ = some (.int .i64 X.S.g) := cell_blk (i := 2) B_b.out rfl
          have b3 : U5.cell? ⟨N_b, 3, none⟩ = some (.int .i64 X.S.c) := cell_blk (i := 3) B_b.out rfl
          have b4 : U5.cell? ⟨N_b, 4, none⟩ = some (.int .i64 X.S.mn) := cell_blk (i := 4) B_b.out rfl
          have b5 : U5.cell? ⟨N_b, 5, none⟩ = some (.int .i64 X.S.mx) := cell_blk (i := 5) B_b.out rfl
          go_wp2_with fail
          refine (hFi.out U5 HBel.out).mono ?_
          rintro e U6 ⟨rfl, hb9⟩
          clear f0 f1 b0 b1 b2 b3 b4 b5
          have hs9 := hb9.size
          replace HBel := Lib.hid (HBel.out.trans (hb9.mono hlow))
          replace B_f : Hid (U6.heap[N_f]? = some (.cells #[.int .i64 g, .int .i64 c] 24 (0, 0))) := Lib.hid ((hb9.block _ l_f).trans B_f.out)
          replace B_b : Hid (U6.heap[N_b]? = some (.cells #[.int .i64 X.q, .int .i64 X.n, .int .i64 X.S.g, .int .i64 X.S.c, .int .i64 X.S.mn, .int .i64 X.S.mx] 29 (0, 0))) := Lib.hid ((hb9.block _ l_b).trans B_b.out)
          replace l_f : N_f < U6.heap.size := by omega
          replace l_b : N_b < U6.heap.size := by omega
          replace hlow : w.heap.size ≤ U6.heap.size := by omega
          clear hb9 hs9
          have f0 : U6.cell? ⟨N_f, 0, none⟩ = some (.int .i64 g) := cell_blk (i := 0) B_f.out rfl
          have f1 : U6.cell? ⟨N_f, 1, none⟩ = some (.int .i64 c) := cell_blk (i := 1) B_f.out rfl
          have b0 : U6.cell? ⟨N_b, 0, none⟩ = some (.int .i64 X.q) := cell_blk (i := 0) B_b.out rfl
          have b1 : U6.cell? ⟨N_b, 1, none⟩ = some (.int .i64 X.n) := cell_blk (i := 1) B_b.out rfl
          have b2 : U6.cell? ⟨N_b, 2, none⟩ = some (.int .i64 X.S.g) := cell_blk (i := 2) B_b.out rfl
          have b3 : U6.cell? ⟨N_b, 3, none⟩ = some (.int .i64 X.S.c) := cell_blk (i := 3) B_b.out rfl
          have b4 : U6.cell? ⟨N_b, 4, none⟩ = some (.int .i64 X.S.mn) := cell_blk (i := 4) B_b.out rfl
          have b5 : U6.cell? ⟨N_b, 5, none⟩ = some (.int .i64 X.S.mx) := cell_blk (i := 5) B_b.out rfl
          go_wp2
          go_ret
          exact ⟨rfl, by rw [HB0.out]; exact HBel.out⟩
      · have t3 : (T == 1073741825) = false := by simpa using hTm
        have HTn : Hid (now < T ∧ ∃ x ∈ l3, x.u = T) := Lib.hid (by
          rcases hL with ⟨e, _⟩ | ⟨e | ⟨h, h2, _⟩, _⟩
          · exact absurd e hTm
          · exact absurd e hTn
          · exact ⟨h2, h⟩)
        clear hL hTn hTm
        rcases hu with ⟨hun, hfit⟩ | ⟨hun, hfit⟩
        · have v1 : (u != now) = false := by simp [hun]
          have v2 : (u == now) = true := by simp [hun]
          clear hun
          rw [hfit] at hFi
          clear hfit
          have f0 : U5.cell? ⟨N_f, 0, none⟩ = some (.int .i64 g) := cell_blk (i := 0) B_f.out rfl
          have f1 : U5.cell? ⟨N_f, 1, none⟩ = some (.int .i64 c) := cell_blk (i := 1) B_f.out rfl
          have b0 : U5.cell? ⟨N_b, 0, none⟩ = some (.int .i64 X.q) := cell_blk (i := 0) B_b.out rfl
          have b1 : U5.cell? ⟨N_b, 1, none⟩ = some (.int .i64 X.n) := cell_blk (i := 1) B_b.out rfl
          have b2 : U5.cell? ⟨N_b, 2, none⟩ = some (.int .i64 X.S.g) := cell_blk (i := 2) B_b.out rfl
          have b3 : U5.cell? ⟨N_b, 3, none⟩ = some (.int .i64 X.S.c) := cell_blk (i := 3) B_b.out rfl
          have b4 : U5.cell? ⟨N_b, 4, none⟩ = some (.int .i64 X.S.mn) := cell_blk (i := 4) B_b.out rfl
          have b5 : U5.cell? ⟨N_b, 5, none⟩ = some (.int .i64 X.S.mx) := cell_blk (i := 5) B_b.out rfl
          go_wp2_with fail
          refine (hFi.out U5 HBel.out).mono ?_
          rintro e U6 ⟨rfl, hb9⟩
          clear f0 f1 b0 b1 b2 b3 b4 b5
          have hs9 := hb9.size
          replace HBel := Lib.hid (HBel.out.trans (hb9.mono hlow))
          replace B_f : Hid (U6.heap[N_f]? = some (.cells #[.int .i64 g, .int .i64 c] 24 (0, 0))) := Lib.hid ((hb9.block _ l_f).trans B_f.out)
          replace B_b : Hid (U6.heap[N_b]? = some (.cells #[.int .i64 X.q, .int .i64 X.n, .int .i64 X.S.g, .int .i64 X.S.c, .int .i64 X.S.mn, .int .i64 X.S.mx] 29 (0, 0))) := Lib.hid ((hb9.block _ l_b).trans B_b.out)
          replace l_f : N_f < U6.heap.size := by omega
          replace l_b : N_b < U6.heap.size := by omega
          replace hlow : w.heap.size ≤ U6.heap.size := by omega
          clear hb9 hs9
          have f0 : U6.cell? ⟨N_f, 0, none⟩ = some (.int .i64 g) := cell_blk (i := 0) B_f.out rfl
          have f1 : U6.cell? ⟨N_f, 1, none⟩ = some (.int .i64 c) := cell_blk (i := 1) B_f.out rfl
          have b0 : U6.cell? ⟨N_b, 0, none⟩ = some (.int .i64 X.q) := cell_blk (i := 0) B_b.out rfl
          have b1 : U6.cell? ⟨N_b, 1, none⟩ = some (.int .i64 X.n) := cell_blk (i := 1) B_b.out rfl
          have b2 : U6.cell? ⟨N_b, 2, none⟩ = some (.int .i64 X.S.g) := cell_blk (i := 2) B_b.out rfl
          have b3 : U6.cell? ⟨N_b, 3, none⟩ = some (.int .i64 X.S.c) := cell_blk (i := 3) B_b.out rfl
          have b4 : U6.cell? ⟨N_b, 4, none⟩ = some (.int .i64 X.S.mn) := cell_blk (i := 4) B_b.out rfl
          have b5 : U6.cell? ⟨N_b, 5, none⟩ = some (.int .i64 X.S.mx) := cell_blk (i := 5) B_b.out rfl
          go_wp2
          go_loopw [15] (fun i wr => ∃ k : Nat, i = .int .i64 k ∧ k ≤ m ∧ U6 = wr ∧ Hid (∀ x ∈ l3.take k, x.u ≠ T)) (fun i _ => m - (intOf i).toNat)
          case atStart => exact ⟨0, rfl, by omega, by first | rfl | trivial, Lib.hid (by simp)⟩
          case round =>
            obtain ⟨k, rfl, hk, rfl, hA⟩ := hrel
            obtain ⟨hd, hm⟩ := H3.out
            by_cases hlt : k < m
            · have u1 : decide (k < m) = true := decide_eq_true hlt
              obtain ⟨x, hx⟩ := get_lt (l := l3) (k := k) (by rw [← hm]; exact hlt)
              obtain ⟨b, off, rfl, hb, hall⟩ := hd.at_ hx
              have hk2 := ((hall k x hx).keep hb HBel.out) 2 _ rfl
              by_cases hu : x.u = T
              · have u2 : (x.u == T) = true := by simpa using hu
                have u3 : decide (now < T) = true := decide_eq_true HTn.out.1
                clear hall hx hd hm hu
                go_wp2
                go_ret
                exact ⟨rfl, by rw [HB0.out]; exact HBel.out⟩
              · have u2 : (x.u == T) = false := by simpa using hu
                have HN : Hid (∀ y ∈ l3.take (k + 1), y.u ≠ T) := Lib.hid (fun y hy => by
                  rw [take_next hx] at hy
                  rcases List.mem_append.1 hy with hy | hy
                  · exact hA.out y hy
                  · simp at hy; subst hy; exact hu)
                clear hall hx hd hm hu
                go_wp2
                go_roundw
                case rel => exact ⟨k + 1, by go_num, by omega, by first | rfl | trivial, HN⟩
                case measure => simp [intOf]; omega
            · obtain rfl : k = m := by omega
              obtain ⟨y, hy, hyT⟩ := HTn.out.2
              have := hA.out y (by rw [hm, List.take_length]; exact hy)
              exact absurd hyT this
        · have v1 : (u != now) = true := by simp; omega
          have v2 : (u == now) = false := by simp; omega
          have v3 : (u != 1073741825) = false := by simp [hun]
          clear hun
          rw [hfit] at hFi
          clear hfit
          have f0 : U5.cell? ⟨N_f, 0, none⟩ = some (.int .i64 g) := cell_blk (i := 0) B_f.out rfl
          have f1 : U5.cell? ⟨N_f, 1, none⟩ = some (.int .i64 c) := cell_blk (i := 1) B_f.out rfl
          have b0 : U5.cell? ⟨N_b, 0, none⟩ = some (.int .i64 X.q) := cell_blk (i := 0) B_b.out rfl
          have b1 : U5.cell? ⟨N_b, 1, none⟩ = some (.int .i64 X.n) := cell_blk (i := 1) B_b.out rfl
          have b2 : U5.cell? ⟨N_b, 2, none⟩ = some (.int .i64 X.S.g) := cell_blk (i := 2) B_b.out rfl
          have b3 : U5.cell? ⟨N_b, 3, none⟩ = some (.int .i64 X.S.c) := cell_blk (i := 3) B_b.out rfl
          have b4 : U5.cell? ⟨N_b, 4, none⟩ = some (.int .i64 X.S.mn) := cell_blk (i := 4) B_b.out rfl
          have b5 : U5.cell? ⟨N_b, 5, none⟩ = some (.int .i64 X.S.mx) := cell_blk (i := 5) B_b.out rfl
          go_wp2_with fail
          refine (hFi.out U5 HBel.out).mono ?_
          rintro e U6 ⟨rfl, hb9⟩
          clear f0 f1 b0 b1 b2 b3 b4 b5
          have hs9 := hb9.size
          replace HBel := Lib.hid (HBel.out.trans (hb9.mono hlow))
          replace B_f : Hid (U6.heap[N_f]? = some (.cells #[.int .i64 g, .int .i64 c] 24 (0, 0))) := Lib.hid ((hb9.block _ l_f).trans B_f.out)
          replace B_b : Hid (U6.heap[N_b]? = some (.cells #[.int .i64 X.q, .int .i64 X.n, .int .i64 X.S.g, .int .i64 X.S.c, .int .i64 X.S.mn, .int .i64 X.S.mx] 29 (0, 0))) := Lib.hid ((hb9.block _ l_b).trans B_b.out)
          replace l_f : N_f < U6.heap.size := by omega
          replace l_b : N_b < U6.heap.size := by omega
          replace hlow : w.heap.size ≤ U6.heap.size := by omega
          clear hb9 hs9
          have f0 : U6.cell? ⟨N_f, 0, none⟩ = some (.int .i64 g) := cell_blk (i := 0) B_f.out rfl
          have f1 : U6.cell? ⟨N_f, 1, none⟩ = some (.int .i64 c) := cell_blk (i := 1) B_f.out rfl
          have b0 : U6.cell? ⟨N_b, 0, none⟩ = some (.int .i64 X.q) := cell_blk (i := 0) B_b.out rfl
          have b1 : U6.cell? ⟨N_b, 1, none⟩ = some (.int .i64 X.n) := cell_blk (i := 1) B_b.out rfl
          have b2 : U6.cell? ⟨N_b, 2, none⟩ = some (.int .i64 X.S.g) := cell_blk (i := 2) B_b.out rfl
          have b3 : U6.cell? ⟨N_b, 3, none⟩ = some (.int .i64 X.S.c) := cell_blk (i := 3) B_b.out rfl
          have b4 : U6.cell? ⟨N_b, 4, none⟩ = some (.int .i64 X.S.mn) := cell_blk (i := 4) B_b.out rfl
          have b5 : U6.cell? ⟨N_b, 5, none⟩ = some (.int .i64 X.S.mx) := cell_blk (i := 5) B_b.out rfl
          go_wp2
          go_loopw [15] (fun i wr => ∃ k : Nat, i = .int .i64 k ∧ k ≤ m ∧ U6 = wr ∧ Hid (∀ x ∈ l3.take k, x.u ≠ T)) (fun i _ => m - (intOf i).toNat)
          case atStart => exact ⟨0, rfl, by omega, by first | rfl | trivial, Lib.hid (by simp)⟩
          case round =>
            obtain ⟨k, rfl, hk, rfl, hA⟩ := hrel
            obtain ⟨hd, hm⟩ := H3.out
            by_cases hlt : k < m
            · have u1 : decide (k < m) = true := decide_eq_true hlt
              obtain ⟨x, hx⟩ := get_lt (l := l3) (k := k) (by rw [← hm]; exact hlt)
              obtain ⟨b, off, rfl, hb, hall⟩ := hd.at_ hx
              have hk2 := ((hall k x hx).keep hb HBel.out) 2 _ rfl
              by_cases hu : x.u = T
              · have u2 : (x.u == T) = true := by simpa using hu
                have u3 : decide (now < T) = true := decide_eq_true HTn.out.1
                clear hall hx hd hm hu
                go_wp2
                go_ret
                exact ⟨rfl, by rw [HB0.out]; exact HBel.out⟩
              · have u2 : (x.u == T) = false := by simpa using hu
                have HN : Hid (∀ y ∈ l3.take (k + 1), y.u ≠ T) := Lib.hid (fun y hy => by
                  rw [take_next hx] at hy
                  rcases List.mem_append.1 hy with hy | hy
                  · exact hA.out y hy
                  · simp at hy; subst hy; exact hu)
                clear hall hx hd hm hu
                go_wp2
                go_roundw
                case rel => exact ⟨k + 1, by go_num, by omega, by first | rfl | trivial, HN⟩
                case measure => simp [intOf]; omega
            · obtain rfl : k = m := by omega
              obtain ⟨y, hy, hyT⟩ := HTn.out.2
              have := hA.out y (by rw [hm, List.take_length]; exact hy)
              exact absurd hyT this
  · have t2 : (E != 0) = true := by simpa using hE0
    clear hE0
    rcases hu with ⟨hun, hfit⟩ | ⟨hun, hfit⟩
    · have v1 : (u != now) = false := by simp [hun]
      have v2 : (u == now) = true := by simp [hun]
      clear hun
      rw [hfit] at hFi
      clear hfit
      have f0 : U5.cell? ⟨N_f, 0, none⟩ = some (.int .i64 g) := cell_blk (i := 0) B_f.out rfl
      have f1 : U5.cell? ⟨N_f, 1, none⟩ = some (.int .i64 c) := cell_blk (i := 1) B_f.out rfl
      have b0 : U5.cell? ⟨N_b, 0, none⟩ = some (.int .i64 X.q) := cell_blk (i := 0) B_b.out rfl
      have b1 : U5.cell? ⟨N_b, 1, none⟩ = some (.int .i64 X.n) := cell_blk (i := 1) B_b.out rfl
      have b2 : U5.cell? ⟨N_b, 2, none⟩ = some (.int .i64 X.S.g) := cell_blk (i := 2) B_b.out rfl
      have b3 : U5.cell? ⟨N_b, 3, none⟩ = some (.int .i64 X.S.c) := cell_blk (i := 3) B_b.out rfl
      have b4 : U5.cell? ⟨N_b, 4, none⟩ = some (.int .i64 X.S.mn) := cell_blk (i := 4) B_b.out rfl
      have b5 : U5.cell? ⟨N_b, 5, none⟩ = some (.int .i64 X.S.mx) := cell_blk (i := 5) B_b.out rfl
      go_wp2_with fail
      refine (hFi.out U5 HBel.out).mono ?_
      rintro e U6 ⟨rfl, hb9⟩
      clear f0 f1 b0 b1 b2 b3 b4 b5
      have hs9 := hb9.size
      replace HBel := Lib.hid (HBel.out.trans (hb9.mono hlow))
      replace B_f : Hid (U6.heap[N_f]? = some (.cells #[.int .i64 g, .int .i64 c] 24 (0, 0))) := Lib.hid ((hb9.block _ l_f).trans B_f.out)
      replace B_b : Hid (U6.heap[N_b]? = some (.cells #[.int .i64 X.q, .int .i64 X.n, .int .i64 X.S.g, .int .i64 X.S.c, .int .i64 X.S.mn, .int .i64 X.S.mx] 29 (0, 0))) := Lib.hid ((hb9.block _ l_b).trans B_b.out)
      replace l_f : N_f < U6.heap.size := by omega
      replace l_b : N_b < U6.heap.size := by omega
      replace hlow : w.heap.size ≤ U6.heap.size := by omega
      clear hb9 hs9
      have f0 : U6.cell? ⟨N_f, 0, none⟩ = some (.int .i64 g) := cell_blk (i := 0) B_f.out rfl
      have f1 : U6.cell? ⟨N_f, 1, none⟩ = some (.int .i64 c) := cell_blk (i := 1) B_f.out rfl
      have b0 : U6.cell? ⟨N_b, 0, none⟩ = some (.int .i64 X.q) := cell_blk (i := 0) B_b.out rfl
      have b1 : U6.cell? ⟨N_b, 1, none⟩ = some (.int .i64 X.n) := cell_blk (i := 1) B_b.out rfl
      have b2 : U6.cell? ⟨N_b, 2, none⟩ = some (.int .i64 X.S.g) := cell_blk (i := 2) B_b.out rfl
      have b3 : U6.cell? ⟨N_b, 3, none⟩ = some (.int .i64 X.S.c) := cell_blk (i := 3) B_b.out rfl
      have b4 : U6.cell? ⟨N_b, 4, none⟩ = some (.int .i64 X.S.mn) := cell_blk (i := 4) B_b.out rfl
      have b5 : U6.cell? ⟨N_b, 5, none⟩ = some (.int .i64 X.S.mx) := cell_blk (i := 5) B_b.out rfl
      go_wp2
      go_ret
      exact ⟨rfl, by rw [HB0.out]; exact HBel.out⟩
    · have v1 : (u != now) = true := by simp; omega
      have v2 : (u == now) = false := by simp; omega
      have v3 : (u != 1073741825) = false := by simp [hun]
      clear hun
      rw [hfit] at hFi
      clear hfit
      have f0 : U5.cell? ⟨N_f, 0, none⟩ = some (.int .i64 g) := cell_blk (i := 0) B_f.out rfl
      have f1 : U5.cell? ⟨N_f, 1, none⟩ = some (.int .i64 c) := cell_blk (i := 1) B_f.out rfl
      have b0 : U5.cell? ⟨N_b, 0, none⟩ = some (.int .i64 X.q) := cell_blk (i := 0) B_b.out rfl
      have b1 : U5.cell? ⟨N_b, 1, none⟩ = some (.int .i64 X.n) := cell_blk (i := 1) B_b.out rfl
      have b2 : U5.cell? ⟨N_b, 2, none⟩ = some (.int .i64 X.S.g) := cell_blk (i := 2) B_b.out rfl
      have b3 : U5.cell? ⟨N_b, 3, none⟩ = some (.int .i64 X.S.c) := cell_blk (i := 3) B_b.out rfl
      have b4 : U5.cell? ⟨N_b, 4, none⟩ = some (.int .i64 X.S.mn) := cell_blk (i := 4) B_b.out rfl
      have b5 : U5.cell? ⟨N_b, 5, none⟩ = some (.int .i64 X.S.mx) := cell_blk (i := 5) B_b.out rfl
      go_wp2_with fail
      refine (hFi.out U5 HBel.out).mono ?_
      rintro e U6 ⟨rfl, hb9⟩
      clear f0 f1 b0 b1 b2 b3 b4 b5
      have hs9 := hb9.size
      replace HBel := Lib.hid (HBel.out.trans (hb9.mono hlow))
      replace B_f : Hid (U6.heap[N_f]? = some (.cells #[.int .i64 g, .int .i64 c] 24 (0, 0))) := Lib.hid ((hb9.block _ l_f).trans B_f.out)
      replace B_b : Hid (U6.heap[N_b]? = some (.cells #[.int .i64 X.q, .int .i64 X.n, .int .i64 X.S.g, .int .i64 X.S.c, .int .i64 X.S.mn, .int .i64 X.S.mx] 29 (0, 0))) := Lib.hid ((hb9.block _ l_b).trans B_b.out)
      replace l_f : N_f < U6.heap.size := by omega
      replace l_b : N_b < U6.heap.size := by omega
      replace hlow : w.heap.size ≤ U6.heap.size := by omega
      clear hb9 hs9
      have f0 : U6.cell? ⟨N_f, 0, none⟩ = some (.int .i64 g) := cell_blk (i := 0) B_f.out rfl
      have f1 : U6.cell? ⟨N_f, 1, none⟩ = some (.int .i64 c) := cell_blk (i := 1) B_f.out rfl
      have b0 : U6.cell? ⟨N_b, 0, none⟩ = some (.int .i64 X.q) := cell_blk (i := 0) B_b.out rfl
      have b1 : U6.cell? ⟨N_b, 1, none⟩ = some (.int .i64 X.n) := cell_blk (i := 1) B_b.out rfl
      have b2 : U6.cell? ⟨N_b, 2, none⟩ = some (.int .i64 X.S.g) := cell_blk (i := 2) B_b.out rfl
      have b3 : U6.cell? ⟨N_b, 3, none⟩ = some (.int .i64 X.S.c) := cell_blk (i := 3) B_b.out rfl
      have b4 : U6.cell? ⟨N_b, 4, none⟩ = some (.int .i64 X.S.mn) := cell_blk (i := 4) B_b.out rfl
      have b5 : U6.cell? ⟨N_b, 5, none⟩ = some (.int .i64 X.S.mx) := cell_blk (i := 5) B_b.out rfl
      go_wp2
      go_ret
      exact ⟨rfl, by rw [HB0.out]; exact HBel.out⟩

set_option maxRecDepth 100000 in
set_option maxHeartbeats 1000000 in
theorem lifted (os : Os) (started : os.Started) (H : Type) (enc : TypeId × Value → H) :
    ReturnsInHanded {} Tryd.checked os 6 .any (fun w args => (Rows.promiseOnlySpec.pre enc Tryd.prog Tryd.f6 [] false w args ∧ laidMetH Tryd.prog laid1 w) ∧ sizedMet enc Tryd.prog Tryd.f6 (OpenSpec.ofChange Rows.promiseOnlySpec) false w args)
      (Rows.promiseOnlySpec.post enc Tryd.prog Tryd.f6 false true false false) := by
  refine returnsInHanded_of_change_and (C := Tryd.checked) (X := fun w _ => laidMetH Tryd.prog laid1 w) (fun _ _ _ hh h => h.of_heap hh) own started (by kernel_rfl) Tryd.func6
    (ChangeSpec.witness_shaped (enc := enc) (C := Tryd.checked) (os := os) (X := fun w _ => laidMetH Tryd.prog laid1 w) false (World.doorLaid Tryd.prog 400 os) #[.int .i64 0, .slice none 0 0, .agg #[.int .i64 0, .int .i64 0], .slice none 0 0, .agg #[.int .i64 0, .int .i64 0, .int .i64 0, .int .i64 0, .int .i64 0, .int .i64 0]] 8 rfl (World.shaped_of_RefB (by kernel_rfl) (by kernel_rfl)) (by kernel_rfl) (by kernel_rfl) (by kernel_rfl) (door_met os _)) ?_
  intro W base args ds gs before hval0 hW _ _ hL _
  have hval : ∀ (j : Nat) t v, Tryd.f6.params[j]? = some t → args[j]? = some v → Value.okWide Tryd.prog W .any base t v := hval0
  have hW' := hW
  obtain ⟨p, q, hA0, hV, rfl, hfz, hnd⟩ := hW
  have hA : DataW.TrodAll enc Tryd.prog W 0 (fun _ => true) true Tryd.f6.params.toList args.toList ds p := hA0
  rw [Tryd.params6] at hA hval
  obtain ⟨v0, vs0, d0, ds0, p0, q0, hargs, rfl, rfl, h0, r0⟩ := trodAll_cons hA
  obtain ⟨v1, vs1, d1, ds1, p1, q1, rfl, rfl, rfl, h1, r1⟩ := trodAll_cons r0
  obtain ⟨v2, vs2, d2, ds2, p2, q2, rfl, rfl, rfl, h2, r2⟩ := trodAll_cons r1
  obtain ⟨v3, vs3, d3, ds3, p3, q3, rfl, rfl, rfl, h3, r3⟩ := trodAll_cons r2
  obtain ⟨v4, vs4, d4, ds4, p4, q4, rfl, rfl, rfl, h4, r4⟩ := trodAll_cons r3
  obtain ⟨rfl, rfl, rfl⟩ := trodAll_nil r4
  obtain rfl : args = #[v0, v1, v2, v3, v4] := by cases args; simp_all
  obtain ⟨rfl, rfl⟩ := trodVars_none hV
  have k0 := h0
  have lt0 : ∀ x ∈ p0, x.block < W.heap.size := by obtain ⟨m, hm⟩ := k0; exact DataW.trod_lt m _ _ _ hm
  obtain ⟨a0, rfl, _, _, w0⟩ := open_int Tryd.underlying3 (hval 0 3 v0 rfl rfl) h0
  have k1 := h1
  have lt1 : ∀ x ∈ p1, x.block < W.heap.size := by obtain ⟨m, hm⟩ := k1; exact DataW.trod_lt m _ _ _ hm
  obtain ⟨a1, c1, l1, rfl, lc1, mc1, v1, q1⟩ := view_of (hval 1 22 v1 rfl rfl) h1
  have k2 := h2
  have lt2 : ∀ x ∈ p2, x.block < W.heap.size := by obtain ⟨m, hm⟩ := k2; exact DataW.trod_lt m _ _ _ hm
  obtain ⟨g2, c2, rfl, wg2, wc2⟩ := un2_of (hval 2 24 v2 rfl rfl) h2
  have k3 := h3
  have lt3 : ∀ x ∈ p3, x.block < W.heap.size := by obtain ⟨m, hm⟩ := k3; exact DataW.trod_lt m _ _ _ hm
  obtain ⟨a3, c3, l3, rfl, lc3, mc3, v3, q3⟩ := hos_of (hval 3 25 v3 rfl rfl) h3
  have k4 := h4
  have lt4 : ∀ x ∈ p4, x.block < W.heap.size := by obtain ⟨m, hm⟩ := k4; exact DataW.trod_lt m _ _ _ hm
  obtain ⟨x4, rfl, w4⟩ := wa_of (hval 4 29 v4 rfl rfl) h4
  have hT := of_laid hL
  clear hL
  clear hA0 hval0
  refine (walk a0 a1 c1 l1 g2 c2 a3 c3 l3 x4 W w0 v1 q1 lc1 mc1 wg2 wc2 v3 q3 lc3 mc3 w4 hT).mono fun e W' ⟨he, bel⟩ => ?_
  subst he
  exact ⟨_, rfl, _, _, _, [], _, [], hW', trodAll_mk1 (shut_bool Tryd.underlying4 _), (trodAll_cons_mk (Below.trod laidOut (by kernel_rfl) (of_decide_eq_true (by kernel_rfl)) k0 bel lt0) (trodAll_cons_mk (Below.trod laidOut (by kernel_rfl) (of_decide_eq_true (by kernel_rfl)) k1 bel lt1) (trodAll_cons_mk (Below.trod laidOut (by kernel_rfl) (of_decide_eq_true (by kernel_rfl)) k2 bel lt2) (trodAll_cons_mk (Below.trod laidOut (by kernel_rfl) (of_decide_eq_true (by kernel_rfl)) k3 bel lt3) (trodAll_cons_mk (Below.trod laidOut (by kernel_rfl) (of_decide_eq_true (by kernel_rfl)) k4 bel lt4) trodAll_mk0))))), rfl, bel.frame _, fun h => by cases h⟩

/-- THE ROW. -/
theorem row_holds : Rows.PromiseOnlySaid :=
  OpenClaim.holds_of_wide 6 Tryd.f6 rfl rfl rfl rfl rfl rfl rfl ⟨rfl, rfl, rfl, rfl, rfl⟩ rfl rfl rfl rfl rfl (by kernel_rfl) Tryd.func6 (by kernel_rfl)
    (of_decide_eq_true (by kernel_rfl)) (by unfold Func.isWrapper; first | (rw [if_pos (by decide +kernel)]; kernel_rfl) | (rw [if_neg (by decide +kernel)]; exact ⟨rfl, rfl⟩))
    (fun os started H enc _ => lifted os started H enc)

/-- THE STATEMENT. -/
theorem card_holds : Rows.PromiseOnlyCardSaid :=
  Claim7.holds_tied_plain_at .later [] [.data] true (true, Rows.promiseOnlyCard.stood.harness.2) false
    row_holds (fun _ h => by cases h) (by kernel_rfl) (fun _ h => by cases h) promiseOnly_row_tie rfl ⟨rfl, rfl⟩ (by kernel_rfl) rfl
    (fun f fn hf hfn => by
      obtain rfl : f = 6 := Option.some.inj ((show Tryd.prog.funcNamed Rows.promiseOnlyRow.func = some 6 by kernel_rfl).symm.trans hf) |>.symm
      obtain rfl : fn = Tryd.f6 := (Option.some.inj (Tryd.func6.symm.trans hfn)).symm
      exact ⟨by kernel_rfl, fun j t ht => by
        rw [Tryd.params6] at ht
        have hm : t ∈ [3, 22, 24, 25, 29] := by simpa using Array.mem_of_getElem? ht
        have hall : ([3, 22, 24, 25, 29].all fun u => !Tryd.prog.wantsStandIn u) = true := by kernel_rfl
        exact (show Tryd.prog.wantsStandIn t = false by simpa using List.all_eq_true.1 hall t hm)⟩)
    (by kernel_rfl)
end Go.Proofs.YtenldgnfjjchiaaDoor.promiseOnly
