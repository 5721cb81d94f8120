/- Beside a head that is promised, holds that are safe one behind the other, each by what the ones ahead leave, leave it its promise all together: the law FillMany answers true, at every input. The library's table of lowest units is as the program's text lays it (tied). -/
import Derived.Test.YtikgmgimdeibgaaDoorFilAwake
import Derived.Test.YtikgmgimdeibgaaDoorHeldTwo
import Derived.Test.YtikgmgimdeibgaaDoorFilRefB
import Derived.Test.YtikgmgimdeibgaaDoorFilPos
import Derived.SevenTiedAt
import Derived.Test.YtikgmgimdeibgaaDoorTie
import Derived.Test.YtikgmgimdeibgaaDoorCards
set_option linter.unusedVariables false
namespace Go.Proofs.YtikgmgimdeibgaaDoor.fillMany
open Go Go.ChangeShapes Go.WideShapes Go.ChangeAt Go.RowKit
open PR
/-- A row of holds lies in some block that is none of two cells. -/
theorem hos_off {w : World} {A : Option Addr} {l : List Ho} (h : Hos w w.heap.size A l) {p : Nat} {u v : Value} {ty : TypeId} (hp : w.heap[p]? = some (.cells #[u, v] ty (0, 0))) (b0 : Nat) (hb0 : b0 < w.heap.size) (hn : b0 ≠ p) :
    ∃ b, b < w.heap.size ∧ b ≠ p ∧ ∀ W : World, W.heap[b]? = w.heap[b]? → b < W.heap.size → Hos W W.heap.size A l := by
  rcases h with h | ⟨b, off, rfl, hb, hc⟩
  · exact ⟨b0, hb0, hn, fun W _ _ => .inl h⟩
  · by_cases hnil : l = []
    · exact ⟨b0, hb0, hn, fun W _ _ => .inl hnil⟩
    · refine ⟨b, hb, fun e => ?_, fun W hW hb' => .inr ⟨b, off, rfl, hb', fun i x hx => (hc i x hx).of hW⟩⟩
      subst e
      obtain ⟨x, hx⟩ := get_lt (l := l) (k := 0) (List.length_pos_iff.2 hnil)
      have h9 := hc 0 x hx 2 _ rfl
      simp [World.cell?, hp] at h9
/-- A hold whose slots lie in the world as it was. -/
def Kept (w : World) (y : Ho) : Prop := Fes w w.heap.size y.A y.sl ∧ HoOk y ∧ y.sl.length ≤ 20
set_option maxRecDepth 100000 in
set_option maxHeartbeats 16000000 in
theorem walk (now : Int) (a1 : Option Addr) (c1 : Nat) (l1 : List Fe) (g c : Int) (a3 : Option Addr) (c3 : Nat) (l3 : List Ho) (X : Wa) (a5 : Option Addr) (c5 : Nat) (l5 : List Ho) (w : World) (w0 : (Lit.int .i64 now).wf = true) (v1 : Fes w w.heap.size a1 l1) (q1 : ∀ s ∈ l1, FeOk s) (lc1 : l1.length ≤ c1) (mc1 : c1 ≤ maxLen) (wg : (Lit.int .i64 g).wf = true) (wc : (Lit.int .i64 c).wf = true) (v3 : HosIn w w.heap.size a3 l3) (q3 : ∀ x ∈ l3, HoOk x) (lc3 : l3.length ≤ c3) (mc3 : c3 ≤ maxLen) (w4 : WaOk X) (v5 : HosIn w w.heap.size a5 l5) (q5 : ∀ x ∈ l5, HoOk x) (lc5 : l5.length ≤ c5) (mc5 : c5 ≤ maxLen) (hT : Tab w) :
    Calls Tryd.prog 6 #[.int .i64 now, .slice a1 l1.length c1, .agg #[.int .i64 g, .int .i64 c], .slice a3 l3.length c3, waV X, .slice a5 l5.length c5] w fun e w' => e = .returned (.bool true) ∧ Below w.heap.size w w' := by
  have HT := Lib.hid hT
  have hAw := Lib.hid (fun W (hT : Tab W) => awake13 W hT)
  obtain ⟨i0, hi, hz0, hz1, hz2⟩ := info_parts info_ho
  obtain ⟨n, hn⟩ : ∃ n, n = l1.length := ⟨_, rfl⟩
  obtain ⟨m, hm⟩ : ∃ m, m = l3.length := ⟨_, rfl⟩
  obtain ⟨q, hq⟩ : ∃ q, q = l5.length := ⟨_, rfl⟩
  have hFw := Lib.hid (fun W (hW : Below w.heap.size w W) => show Calls Tryd.prog 15 #[.slice a1 n c1, .agg #[.int .i64 g, .int .i64 c], .slice a3 m c3] W (fun e w' => e = .returned (.bool (fewH l1 g c l3)) ∧ Below W.heap.size W w') from by
    rw [hn, hm]
    exact few12_any a1 c1 l1 g c a3 c3 l3 W (v1.keep hW hW.size) lc1 (v3.keep hW hW.size).at_ (fun x hx => Nat.le_trans (q3 x hx).l (q3 x hx).m))
  unfold waV waA
  rw [← hn, ← hm, ← hq]
  cases hfew : fewH l1 g c l3
  · rw [hfew] at hFw
    clear hfew w0 v1 q1 lc1 mc1 wg wc v3 q3 lc3 mc3 w4 v5 q5 lc5 mc5 hT hn hm hq
    obtain ⟨B0, hB0⟩ : ∃ B, B = w.heap.size := ⟨_, rfl⟩
    rw [← hB0]
    have HB0 := Lib.hid hB0
    clear hB0
    have HBel := Lib.hid (Below.refl w.heap.size w)
    have hlow : w.heap.size ≤ w.heap.size := Nat.le_refl _
    go_enter Tryd.func6, Tryd.ntmps6
    go_wp2_with fail
    obtain ⟨V1, hV1⟩ : ∃ W, W = (w.alloc (.cells #[.int .i64 g, .int .i64 c] 24)).alloc (.cells #[.int .i64 X.q, .int .i64 X.n, .int .i64 X.S.g, .int .i64 X.S.c, .int .i64 X.S.mn, .int .i64 X.S.mx] 29) := ⟨_, rfl⟩
    rw [← hV1]
    have hzV1 : V1.heap.size = w.heap.size + 1 + 1 := by rw [hV1]; simp
    replace HBel : Hid (Below w.heap.size w V1) := Lib.hid (by rw [hV1]; exact ((HBel.out.alloc (hlow) _).alloc (by simp <;> omega) _))
    have B_f : Hid (V1.heap[w.heap.size]? = some (.cells #[.int .i64 g, .int .i64 c] 24 (0, 0))) := Lib.hid (by
      have h9 := heap_alloc_new (w) (.cells #[.int .i64 g, .int .i64 c] 24)
      rw [hV1]; exact ((Below.heap_alloc _ _ _ (by simp <;> omega)).trans h9))
    have B_b : Hid (V1.heap[w.heap.size + 1]? = some (.cells #[.int .i64 X.q, .int .i64 X.n, .int .i64 X.S.g, .int .i64 X.S.c, .int .i64 X.S.mn, .int .i64 X.S.mx] 29 (0, 0))) := Lib.hid (by
      have h9 := heap_alloc_new (w.alloc (.cells #[.int .i64 g, .int .i64 c] 24)) (.cells #[.int .i64 X.q, .int .i64 X.n, .int .i64 X.S.g, .int .i64 X.S.c, .int .i64 X.S.mn, .int .i64 X.S.mx] 29)
      rw [World.size_alloc] at h9
      rw [hV1]; exact h9)
    obtain ⟨N_f, hN_f⟩ : ∃ N, N = w.heap.size := ⟨_, rfl⟩
    obtain ⟨N_b, hN_b⟩ : ∃ N, N = w.heap.size + 1 := ⟨_, rfl⟩
    (try rw [← hN_b])
    rw [← hN_b] at B_b
    (try rw [← hN_f])
    rw [← hN_f] at B_f
    have l_f : N_f < V1.heap.size := by omega
    have l_b : N_b < V1.heap.size := by omega
    have g_f : w.heap.size ≤ N_f := by omega
    have g_b : w.heap.size ≤ N_b := by omega
    have d_f_b : N_f < N_b := by omega
    replace hlow : w.heap.size ≤ V1.heap.size := by omega
    clear hV1 hzV1 hN_f hN_b
    refine (hAw.out V1 (HT.out.below HBel.out HT.out.size)).mono ?_
    rintro e U2 ⟨rfl, hb9⟩
    have hs9 := hb9.size
    replace HBel := Lib.hid (HBel.out.trans (hb9.mono hlow))
    replace B_f : Hid (U2.heap[N_f]? = some (.cells #[.int .i64 g, .int .i64 c] 24 (0, 0))) := Lib.hid ((hb9.block _ l_f).trans B_f.out)
    replace B_b : Hid (U2.heap[N_b]? = some (.cells #[.int .i64 X.q, .int .i64 X.n, .int .i64 X.S.g, .int .i64 X.S.c, .int .i64 X.S.mn, .int .i64 X.S.mx] 29 (0, 0))) := Lib.hid ((hb9.block _ l_b).trans B_b.out)
    replace l_f : N_f < U2.heap.size := by omega
    replace l_b : N_b < U2.heap.size := by omega
    replace hlow : w.heap.size ≤ U2.heap.size := by omega
    clear hb9 hs9
    have f0 : U2.cell? ⟨N_f, 0, none⟩ = some (.int .i64 g) := cell_blk (i := 0) B_f.out rfl
    have f1 : U2.cell? ⟨N_f, 1, none⟩ = some (.int .i64 c) := cell_blk (i := 1) B_f.out rfl
    go_wp2_with fail
    refine (hFw.out U2 HBel.out).mono ?_
    rintro e U3 ⟨rfl, hb9⟩
    clear f0 f1
    have hs9 := hb9.size
    replace HBel := Lib.hid (HBel.out.trans (hb9.mono hlow))
    replace B_f : Hid (U3.heap[N_f]? = some (.cells #[.int .i64 g, .int .i64 c] 24 (0, 0))) := Lib.hid ((hb9.block _ l_f).trans B_f.out)
    replace B_b : Hid (U3.heap[N_b]? = some (.cells #[.int .i64 X.q, .int .i64 X.n, .int .i64 X.S.g, .int .i64 X.S.c, .int .i64 X.S.mn, .int .i64 X.S.mx] 29 (0, 0))) := Lib.hid ((hb9.block _ l_b).trans B_b.out)
    replace l_f : N_f < U3.heap.size := by omega
    replace l_b : N_b < U3.heap.size := by omega
    replace hlow : w.heap.size ≤ U3.heap.size := by omega
    clear hb9 hs9
    go_wp2
    go_ret
    exact ⟨rfl, by rw [HB0.out]; exact HBel.out⟩
  rw [hfew] at hFw
  obtain ⟨hview, hn70, hgc, hmany, hsl, hm20, hs20⟩ := few_true hfew q1
  by_cases hq6 : 6 < q
  · have t6 : decide (6 < q) = true := decide_eq_true hq6
    have t7 : decide ((q : Int) > 6) = true := decide_eq_true (by omega)
    clear hview hn70 hgc hmany hsl hm20 hs20 hq6 hfew w0 v1 q1 lc1 mc1 wg wc v3 q3 lc3 mc3 w4 v5 q5 lc5 mc5 hT hn hm hq
    obtain ⟨B0, hB0⟩ : ∃ B, B = w.heap.size := ⟨_, rfl⟩
    rw [← hB0]
    have HB0 := Lib.hid hB0
    clear hB0
    have HBel := Lib.hid (Below.refl w.heap.size w)
    have hlow : w.heap.size ≤ w.heap.size := Nat.le_refl _
    go_enter Tryd.func6, Tryd.ntmps6
    go_wp2_with fail
    obtain ⟨V1, hV1⟩ : ∃ W, W = (w.alloc (.cells #[.int .i64 g, .int .i64 c] 24)).alloc (.cells #[.int .i64 X.q, .int .i64 X.n, .int .i64 X.S.g, .int .i64 X.S.c, .int .i64 X.S.mn, .int .i64 X.S.mx] 29) := ⟨_, rfl⟩
    rw [← hV1]
    have hzV1 : V1.heap.size = w.heap.size + 1 + 1 := by rw [hV1]; simp
    replace HBel : Hid (Below w.heap.size w V1) := Lib.hid (by rw [hV1]; exact ((HBel.out.alloc (hlow) _).alloc (by simp <;> omega) _))
    have B_f : Hid (V1.heap[w.heap.size]? = some (.cells #[.int .i64 g, .int .i64 c] 24 (0, 0))) := Lib.hid (by
      have h9 := heap_alloc_new (w) (.cells #[.int .i64 g, .int .i64 c] 24)
      rw [hV1]; exact ((Below.heap_alloc _ _ _ (by simp <;> omega)).trans h9))
    have B_b : Hid (V1.heap[w.heap.size + 1]? = some (.cells #[.int .i64 X.q, .int .i64 X.n, .int .i64 X.S.g, .int .i64 X.S.c, .int .i64 X.S.mn, .int .i64 X.S.mx] 29 (0, 0))) := Lib.hid (by
      have h9 := heap_alloc_new (w.alloc (.cells #[.int .i64 g, .int .i64 c] 24)) (.cells #[.int .i64 X.q, .int .i64 X.n, .int .i64 X.S.g, .int .i64 X.S.c, .int .i64 X.S.mn, .int .i64 X.S.mx] 29)
      rw [World.size_alloc] at h9
      rw [hV1]; exact h9)
    obtain ⟨N_f, hN_f⟩ : ∃ N, N = w.heap.size := ⟨_, rfl⟩
    obtain ⟨N_b, hN_b⟩ : ∃ N, N = w.heap.size + 1 := ⟨_, rfl⟩
    (try rw [← hN_b])
    rw [← hN_b] at B_b
    (try rw [← hN_f])
    rw [← hN_f] at B_f
    have l_f : N_f < V1.heap.size := by omega
    have l_b : N_b < V1.heap.size := by omega
    have g_f : w.heap.size ≤ N_f := by omega
    have g_b : w.heap.size ≤ N_b := by omega
    have d_f_b : N_f < N_b := by omega
    replace hlow : w.heap.size ≤ V1.heap.size := by omega
    clear hV1 hzV1 hN_f hN_b
    refine (hAw.out V1 (HT.out.below HBel.out HT.out.size)).mono ?_
    rintro e U2 ⟨rfl, hb9⟩
    have hs9 := hb9.size
    replace HBel := Lib.hid (HBel.out.trans (hb9.mono hlow))
    replace B_f : Hid (U2.heap[N_f]? = some (.cells #[.int .i64 g, .int .i64 c] 24 (0, 0))) := Lib.hid ((hb9.block _ l_f).trans B_f.out)
    replace B_b : Hid (U2.heap[N_b]? = some (.cells #[.int .i64 X.q, .int .i64 X.n, .int .i64 X.S.g, .int .i64 X.S.c, .int .i64 X.S.mn, .int .i64 X.S.mx] 29 (0, 0))) := Lib.hid ((hb9.block _ l_b).trans B_b.out)
    replace l_f : N_f < U2.heap.size := by omega
    replace l_b : N_b < U2.heap.size := by omega
    replace hlow : w.heap.size ≤ U2.heap.size := by omega
    clear hb9 hs9
    have f0 : U2.cell? ⟨N_f, 0, none⟩ = some (.int .i64 g) := cell_blk (i := 0) B_f.out rfl
    have f1 : U2.cell? ⟨N_f, 1, none⟩ = some (.int .i64 c) := cell_blk (i := 1) B_f.out rfl
    go_wp2_with fail
    refine (hFw.out U2 HBel.out).mono ?_
    rintro e U3 ⟨rfl, hb9⟩
    clear f0 f1
    have hs9 := hb9.size
    replace HBel := Lib.hid (HBel.out.trans (hb9.mono hlow))
    replace B_f : Hid (U3.heap[N_f]? = some (.cells #[.int .i64 g, .int .i64 c] 24 (0, 0))) := Lib.hid ((hb9.block _ l_f).trans B_f.out)
    replace B_b : Hid (U3.heap[N_b]? = some (.cells #[.int .i64 X.q, .int .i64 X.n, .int .i64 X.S.g, .int .i64 X.S.c, .int .i64 X.S.mn, .int .i64 X.S.mx] 29 (0, 0))) := Lib.hid ((hb9.block _ l_b).trans B_b.out)
    replace l_f : N_f < U3.heap.size := by omega
    replace l_b : N_b < U3.heap.size := by omega
    replace hlow : w.heap.size ≤ U3.heap.size := by omega
    clear hb9 hs9
    go_wp2
    go_ret
    exact ⟨rfl, by rw [HB0.out]; exact HBel.out⟩
  have t6 : decide (6 < q) = false := decide_eq_false hq6
  have t7 : decide ((q : Int) > 6) = false := decide_eq_false (by omega)
  have hE := Lib.hid (fun W (hW : Below w.heap.size w W) => show Calls Tryd.prog 14 #[.int .i64 now, .slice a1 n c1, .agg #[.int .i64 g, .int .i64 c], .slice a3 m c3, .agg #[.int .i64 X.q, .int .i64 X.n, .int .i64 X.S.g, .int .i64 X.S.c, .int .i64 X.S.mn, .int .i64 X.S.mx]] W (fun e w' => ∃ T E, e = .returned (.tuple #[.int .i64 T, .int .i64 E]) ∧ Earl now l1 g c l3 X T E ∧ Below W.heap.size W w') from by
    have h9 := pearliest_any now a1 c1 l1 g c a3 c3 l3 X W (v1.keep hW hW.size) hview (by omega) (v3.keep hW hW.size) q3 hmany (by omega) w4 (by omega) (by omega) (hT.below hW hT.size)
    rw [← hn, ← hm] at h9
    exact h9)
  have H := Lib.hid (And.intro v1 (And.intro v3.at_ (And.intro (show ∀ x ∈ l3, Kept w x from fun x hx => ⟨v3.sl x hx, q3 x hx, hs20 x hx⟩) (And.intro v5.at_ (And.intro (show ∀ x ∈ l5, Fes w w.heap.size x.A x.sl ∧ HoOk x from fun x hx => ⟨v5.sl x hx, q5 x hx⟩) (And.intro hview (And.intro hn.symm (And.intro hm.symm (And.intro hq w4)))))))))
  have hn7 : n ≤ 70 := by omega
  have hm2 : m ≤ 20 := by omega
  clear hfew w0 v1 q1 lc1 mc1 wg wc v3 q3 lc3 mc3 w4 v5 q5 lc5 mc5 hT hn hm hq hview hn70 hmany hsl hm20 hs20
  obtain ⟨B0, hB0⟩ : ∃ B, B = w.heap.size := ⟨_, rfl⟩
  rw [← hB0]
  have HB0 := Lib.hid hB0
  clear hB0
  have HBel := Lib.hid (Below.refl w.heap.size w)
  have hlow : w.heap.size ≤ w.heap.size := Nat.le_refl _
  go_enter Tryd.func6, Tryd.ntmps6
  go_wp2_with fail
  obtain ⟨V1, hV1⟩ : ∃ W, W = (w.alloc (.cells #[.int .i64 g, .int .i64 c] 24)).alloc (.cells #[.int .i64 X.q, .int .i64 X.n, .int .i64 X.S.g, .int .i64 X.S.c, .int .i64 X.S.mn, .int .i64 X.S.mx] 29) := ⟨_, rfl⟩
  rw [← hV1]
  have hzV1 : V1.heap.size = w.heap.size + 1 + 1 := by rw [hV1]; simp
  replace HBel : Hid (Below w.heap.size w V1) := Lib.hid (by rw [hV1]; exact ((HBel.out.alloc (hlow) _).alloc (by simp <;> omega) _))
  have B_f : Hid (V1.heap[w.heap.size]? = some (.cells #[.int .i64 g, .int .i64 c] 24 (0, 0))) := Lib.hid (by
    have h9 := heap_alloc_new (w) (.cells #[.int .i64 g, .int .i64 c] 24)
    rw [hV1]; exact ((Below.heap_alloc _ _ _ (by simp <;> omega)).trans h9))
  have B_b : Hid (V1.heap[w.heap.size + 1]? = some (.cells #[.int .i64 X.q, .int .i64 X.n, .int .i64 X.S.g, .int .i64 X.S.c, .int .i64 X.S.mn, .int .i64 X.S.mx] 29 (0, 0))) := Lib.hid (by
    have h9 := heap_alloc_new (w.alloc (.cells #[.int .i64 g, .int .i64 c] 24)) (.cells #[.int .i64 X.q, .int .i64 X.n, .int .i64 X.S.g, .int .i64 X.S.c, .int .i64 X.S.mn, .int .i64 X.S.mx] 29)
    rw [World.size_alloc] at h9
    rw [hV1]; exact h9)
  obtain ⟨N_f, hN_f⟩ : ∃ N, N = w.heap.size := ⟨_, rfl⟩
  obtain ⟨N_b, hN_b⟩ : ∃ N, N = w.heap.size + 1 := ⟨_, rfl⟩
  (try rw [← hN_b])
  rw [← hN_b] at B_b
  (try rw [← hN_f])
  rw [← hN_f] at B_f
  have l_f : N_f < V1.heap.size := by omega
  have l_b : N_b < V1.heap.size := by omega
  have g_f : w.heap.size ≤ N_f := by omega
  have g_b : w.heap.size ≤ N_b := by omega
  have d_f_b : N_f < N_b := by omega
  replace hlow : w.heap.size ≤ V1.heap.size := by omega
  clear hV1 hzV1 hN_f hN_b
  refine (hAw.out V1 (HT.out.below HBel.out HT.out.size)).mono ?_
  rintro e U2 ⟨rfl, hb9⟩
  have hs9 := hb9.size
  replace HBel := Lib.hid (HBel.out.trans (hb9.mono hlow))
  replace B_f : Hid (U2.heap[N_f]? = some (.cells #[.int .i64 g, .int .i64 c] 24 (0, 0))) := Lib.hid ((hb9.block _ l_f).trans B_f.out)
  replace B_b : Hid (U2.heap[N_b]? = some (.cells #[.int .i64 X.q, .int .i64 X.n, .int .i64 X.S.g, .int .i64 X.S.c, .int .i64 X.S.mn, .int .i64 X.S.mx] 29 (0, 0))) := Lib.hid ((hb9.block _ l_b).trans B_b.out)
  replace l_f : N_f < U2.heap.size := by omega
  replace l_b : N_b < U2.heap.size := by omega
  replace hlow : w.heap.size ≤ U2.heap.size := by omega
  clear hb9 hs9
  have f0 : U2.cell? ⟨N_f, 0, none⟩ = some (.int .i64 g) := cell_blk (i := 0) B_f.out rfl
  have f1 : U2.cell? ⟨N_f, 1, none⟩ = some (.int .i64 c) := cell_blk (i := 1) B_f.out rfl
  go_wp2_with fail
  refine (hFw.out U2 HBel.out).mono ?_
  rintro e U3 ⟨rfl, hb9⟩
  clear f0 f1
  have hs9 := hb9.size
  replace HBel := Lib.hid (HBel.out.trans (hb9.mono hlow))
  replace B_f : Hid (U3.heap[N_f]? = some (.cells #[.int .i64 g, .int .i64 c] 24 (0, 0))) := Lib.hid ((hb9.block _ l_f).trans B_f.out)
  replace B_b : Hid (U3.heap[N_b]? = some (.cells #[.int .i64 X.q, .int .i64 X.n, .int .i64 X.S.g, .int .i64 X.S.c, .int .i64 X.S.mn, .int .i64 X.S.mx] 29 (0, 0))) := Lib.hid ((hb9.block _ l_b).trans B_b.out)
  replace l_f : N_f < U3.heap.size := by omega
  replace l_b : N_b < U3.heap.size := by omega
  replace hlow : w.heap.size ≤ U3.heap.size := by omega
  clear hb9 hs9
  have f0 : U3.cell? ⟨N_f, 0, none⟩ = some (.int .i64 g) := cell_blk (i := 0) B_f.out rfl
  have f1 : U3.cell? ⟨N_f, 1, none⟩ = some (.int .i64 c) := cell_blk (i := 1) B_f.out rfl
  have b0 : U3.cell? ⟨N_b, 0, none⟩ = some (.int .i64 X.q) := cell_blk (i := 0) B_b.out rfl
  have b1 : U3.cell? ⟨N_b, 1, none⟩ = some (.int .i64 X.n) := cell_blk (i := 1) B_b.out rfl
  have b2 : U3.cell? ⟨N_b, 2, none⟩ = some (.int .i64 X.S.g) := cell_blk (i := 2) B_b.out rfl
  have b3 : U3.cell? ⟨N_b, 3, none⟩ = some (.int .i64 X.S.c) := cell_blk (i := 3) B_b.out rfl
  have b4 : U3.cell? ⟨N_b, 4, none⟩ = some (.int .i64 X.S.mn) := cell_blk (i := 4) B_b.out rfl
  have b5 : U3.cell? ⟨N_b, 5, none⟩ = some (.int .i64 X.S.mx) := cell_blk (i := 5) B_b.out rfl
  go_wp2_with fail
  refine (hE.out U3 HBel.out).mono ?_
  rintro e U4 ⟨P, E, rfl, hEr, hb9⟩
  clear f0 f1 b0 b1 b2 b3 b4 b5
  have hs9 := hb9.size
  replace HBel := Lib.hid (HBel.out.trans (hb9.mono hlow))
  replace B_f : Hid (U4.heap[N_f]? = some (.cells #[.int .i64 g, .int .i64 c] 24 (0, 0))) := Lib.hid ((hb9.block _ l_f).trans B_f.out)
  replace B_b : Hid (U4.heap[N_b]? = some (.cells #[.int .i64 X.q, .int .i64 X.n, .int .i64 X.S.g, .int .i64 X.S.c, .int .i64 X.S.mn, .int .i64 X.S.mx] 29 (0, 0))) := Lib.hid ((hb9.block _ l_b).trans B_b.out)
  replace l_f : N_f < U4.heap.size := by omega
  replace l_b : N_b < U4.heap.size := by omega
  replace hlow : w.heap.size ≤ U4.heap.size := by omega
  clear hb9 hs9
  by_cases hE0 : E ≠ 0
  · have t1 : (E != 0) = true := by simp [hE0]
    clear hEr
    go_wp2
    go_ret
    exact ⟨by first | rfl | simp, by rw [HB0.out]; exact HBel.out⟩
  have hE1 : E = 0 := Classical.not_not.1 hE0
  subst hE1
  have hP : now ≤ P := by
    obtain ⟨_, _, h3, _, h5⟩ := hEr.ok
    exact (h5.bounds h3).1
  clear hEr hE0 hE hFw hAw t6 t7
  go_wp2
  go_loopw [1, 3, 15] (fun vv ve i wr => ∃ (j : Nat) (A1 : Option Addr) (C1 : Nat) (lv : List Fe) (A3 : Option Addr) (C3 M : Nat) (l : List Ho) (G C : Int), i = .int .i64 j ∧ j ≤ q ∧ vv = .slice A1 n C1 ∧ ve = .slice A3 M C3 ∧ M ≤ m + j ∧ (-1048576 - 1280 * (j : Int) ≤ G ∧ G ≤ 1048576 ∧ -1048576 - 20971520 * (j : Int) ≤ C ∧ C ≤ 1048576) ∧ Hid (Below w.heap.size w wr) ∧ Hid (wr.heap[N_f]? = some (.cells #[.int .i64 G, .int .i64 C] 24 (0, 0))) ∧ Hid (wr.heap[N_b]? = some (.cells #[.int .i64 X.q, .int .i64 X.n, .int .i64 X.S.g, .int .i64 X.S.c, .int .i64 X.S.mn, .int .i64 X.S.mx] 29 (0, 0))) ∧ Hid (Fes wr wr.heap.size A1 lv ∧ View lv ∧ lv.length = n ∧ Hos wr wr.heap.size A3 l ∧ l.length = M ∧ ∀ y ∈ l, Kept w y)) (fun _ _ i _ => q - (intOf i).toNat)
  case atStart => exact ⟨0, a1, c1, l1, a3, c3, m, l3, g, c, rfl, by omega, rfl, rfl, by omega, by omega, HBel, B_f, B_b, Lib.hid ⟨H.out.1.keep HBel.out HBel.out.size, H.out.2.2.2.2.2.1, H.out.2.2.2.2.2.2.1, H.out.2.1.keep HBel.out HBel.out.size, H.out.2.2.2.2.2.2.2.1, H.out.2.2.1⟩⟩
  case round =>
    clear HBel B_f B_b l_f l_b hlow
    obtain ⟨j, A1, C1, lv, A3, C3, M, l, G, C, rfl, hj, rfl, rfl, hMj, hGC, HBel, B_f, B_b, HK⟩ := hrel
    have hlow := HBel.out.size
    have l_f := blk_lt B_f.out
    have l_b := blk_lt B_b.out
    by_cases hlt : j < q
    · have t0 : decide (j < q) = true := decide_eq_true hlt
      obtain ⟨x, hx⟩ := get_lt (l := l5) (k := j) (by rw [← H.out.2.2.2.2.2.2.2.2.1]; exact hlt)
      obtain ⟨yb, yo, rfl, hyb, hcs⟩ := H.out.2.2.2.1.at_ hx
      have hxc := (hcs j x hx).keep hyb HBel.out
      obtain ⟨hxF, hxO⟩ := H.out.2.2.2.2.1 x (List.mem_of_getElem? hx)
      obtain ⟨k, hk⟩ : ∃ k, k = x.sl.length := ⟨_, rfl⟩
      unfold hoC at hxc
      rw [← hk] at hxc
      have HX := Lib.hid (And.intro hxF (And.intro hxO hk))
      have HXc : Hid (CellsAt w yb (yo + j * 5) [.int .i64 x.id, .int .i64 x.q, .int .i64 x.u, .bool x.r, .slice x.A k x.c]) := Lib.hid (by have h9 := hcs j x hx; unfold hoC at h9; rw [← hk] at h9; exact h9)
      clear hx hcs hxF hxO hk hxc
      have x0 : wr.cell? ⟨yb, yo + j * 5, none⟩ = some (.int .i64 x.id) := (HXc.out.keep hyb HBel.out) 0 _ rfl
      have x1 : wr.cell? ⟨yb, yo + j * 5 + 1, none⟩ = some (.int .i64 x.q) := (HXc.out.keep hyb HBel.out) 1 _ rfl
      have x2 : wr.cell? ⟨yb, yo + j * 5 + 2, none⟩ = some (.int .i64 x.u) := (HXc.out.keep hyb HBel.out) 2 _ rfl
      have x3 : wr.cell? ⟨yb, yo + j * 5 + 3, none⟩ = some (.bool x.r) := (HXc.out.keep hyb HBel.out) 3 _ rfl
      have x4 : wr.cell? ⟨yb, yo + j * 5 + 4, none⟩ = some (.slice x.A k x.c) := (HXc.out.keep hyb HBel.out) 4 _ rfl
      have hybw : yb < wr.heap.size := by omega
      by_cases hk20 : 20 < k
      · have t1 : decide (20 < k) = true := decide_eq_true hk20
        have t2 : decide ((k : Int) > 20) = true := decide_eq_true (by omega)
        go_wp2
        go_ret
        exact ⟨rfl, by rw [HB0.out]; exact HBel.out⟩
      have t1 : decide (20 < k) = false := decide_eq_false hk20
      have t2 : decide ((k : Int) > 20) = false := decide_eq_false (by omega)
      have hkx : Kept w x := ⟨HX.out.1, HX.out.2.1, by rw [← HX.out.2.2]; omega⟩
      have hSf := Lib.hid (fun W (hW : Below wr.heap.size wr W) => show Calls Tryd.prog 10 #[.int .i64 now, .slice A1 n C1, .agg #[.int .i64 G, .int .i64 C], .slice A3 M C3, .agg #[.int .i64 X.q, .int .i64 X.n, .int .i64 X.S.g, .int .i64 X.S.c, .int .i64 X.S.mn, .int .i64 X.S.mx], .int .i64 P, .agg #[.int .i64 x.id, .int .i64 x.q, .int .i64 x.u, .bool x.r, .slice x.A k x.c]] W (fun e w' => ∃ T E, e = .returned (.tuple #[.bool (safeB now P T E), .int .i64 E]) ∧ Aft now lv G C l X x T E ∧ Below W.heap.size W w') from by
        have hWw := HBel.out.trans (hW.mono hlow)
        have h9 := psafe_any now A1 C1 lv G C A3 C3 l X P x W (HK.out.1.keep hW hW.size) HK.out.2.1 (by rw [HK.out.2.2.1]; omega) ⟨HK.out.2.2.2.1.keep hW hW.size, fun y hy => (HK.out.2.2.2.2.2 y hy).1.keep hWw hWw.size⟩ (fun y hy => (HK.out.2.2.2.2.2 y hy).2.1) (by rw [HK.out.2.2.2.2.1]; omega) (fun y hy => by have := (HK.out.2.2.2.2.2 y hy).2.2; omega) H.out.2.2.2.2.2.2.2.2.2 (hkx.1.keep hWw hWw.size) hkx.2.1 (by have := hkx.2.2; omega) (by omega) (by omega) (HT.out.below hWw HT.out.size)
        unfold hoV hoA at h9
        rw [HK.out.2.2.1, HK.out.2.2.2.2.1, ← HX.out.2.2] at h9
        exact h9)
      go_wp2_with fail
      have f0 : wr.cell? ⟨N_f, 0, none⟩ = some (.int .i64 G) := cell_blk (i := 0) B_f.out rfl
      have f1 : wr.cell? ⟨N_f, 1, none⟩ = some (.int .i64 C) := cell_blk (i := 1) B_f.out rfl
      have b0 : wr.cell? ⟨N_b, 0, none⟩ = some (.int .i64 X.q) := cell_blk (i := 0) B_b.out rfl
      have b1 : wr.cell? ⟨N_b, 1, none⟩ = some (.int .i64 X.n) := cell_blk (i := 1) B_b.out rfl
      have b2 : wr.cell? ⟨N_b, 2, none⟩ = some (.int .i64 X.S.g) := cell_blk (i := 2) B_b.out rfl
      have b3 : wr.cell? ⟨N_b, 3, none⟩ = some (.int .i64 X.S.c) := cell_blk (i := 3) B_b.out rfl
      have b4 : wr.cell? ⟨N_b, 4, none⟩ = some (.int .i64 X.S.mn) := cell_blk (i := 4) B_b.out rfl
      have b5 : wr.cell? ⟨N_b, 5, none⟩ = some (.int .i64 X.S.mx) := cell_blk (i := 5) B_b.out rfl
      refine held_begin (fun w' : World => w'.cell? ⟨N_f, 0, none⟩ = some (.int .i64 G) ∧ w'.cell? ⟨N_f, 1, none⟩ = some (.int .i64 C) ∧ w'.cell? ⟨N_b, 0, none⟩ = some (.int .i64 X.q) ∧ w'.cell? ⟨N_b, 1, none⟩ = some (.int .i64 X.n) ∧ w'.cell? ⟨N_b, 2, none⟩ = some (.int .i64 X.S.g) ∧ w'.cell? ⟨N_b, 3, none⟩ = some (.int .i64 X.S.c) ∧ w'.cell? ⟨N_b, 4, none⟩ = some (.int .i64 X.S.mn) ∧ w'.cell? ⟨N_b, 5, none⟩ = some (.int .i64 X.S.mx) ∧ w'.cell? ⟨yb, yo + j * 5, none⟩ = some (.int .i64 x.id) ∧ w'.cell? ⟨yb, yo + j * 5 + 1, none⟩ = some (.int .i64 x.q) ∧ w'.cell? ⟨yb, yo + j * 5 + 2, none⟩ = some (.int .i64 x.u) ∧ w'.cell? ⟨yb, yo + j * 5 + 3, none⟩ = some (.bool x.r) ∧ w'.cell? ⟨yb, yo + j * 5 + 4, none⟩ = some (.slice x.A k x.c)) (by kernel_rfl) ?_
      have hBh0 : Below wr.heap.size wr wr.drew := (Below.refl _ _).drew
      have hSh0 : (fun w' : World => w'.cell? ⟨N_f, 0, none⟩ = some (.int .i64 G) ∧ w'.cell? ⟨N_f, 1, none⟩ = some (.int .i64 C) ∧ w'.cell? ⟨N_b, 0, none⟩ = some (.int .i64 X.q) ∧ w'.cell? ⟨N_b, 1, none⟩ = some (.int .i64 X.n) ∧ w'.cell? ⟨N_b, 2, none⟩ = some (.int .i64 X.S.g) ∧ w'.cell? ⟨N_b, 3, none⟩ = some (.int .i64 X.S.c) ∧ w'.cell? ⟨N_b, 4, none⟩ = some (.int .i64 X.S.mn) ∧ w'.cell? ⟨N_b, 5, none⟩ = some (.int .i64 X.S.mx) ∧ w'.cell? ⟨yb, yo + j * 5, none⟩ = some (.int .i64 x.id) ∧ w'.cell? ⟨yb, yo + j * 5 + 1, none⟩ = some (.int .i64 x.q) ∧ w'.cell? ⟨yb, yo + j * 5 + 2, none⟩ = some (.int .i64 x.u) ∧ w'.cell? ⟨yb, yo + j * 5 + 3, none⟩ = some (.bool x.r) ∧ w'.cell? ⟨yb, yo + j * 5 + 4, none⟩ = some (.slice x.A k x.c)) wr.drew := ⟨f0, f1, b0, b1, b2, b3, b4, b5, x0, x1, x2, x3, x4⟩
      refine held_take (v := ?_) 0 58 rfl rfl (by kernel_rfl) (by kernel_rfl) (by kernel_rfl) (fun _ _ _ h => h) ⟨by rfl, ?_⟩ hSh0 ?_
      rotate_left
      · intro w' hw'; obtain ⟨x0, x1, x2, x3, x4, x5, x6, x7, x8, x9, x10, x11, x12⟩ := hw'; go_simp; (try with_reducible rfl)
      simp only [Act.put, List.setIfInBounds_toArray, List.set_cons_zero, List.set_cons_succ]
      refine held_take (v := ?_) 1 59 rfl rfl (by kernel_rfl) (by kernel_rfl) (by kernel_rfl) (fun _ _ _ h => h) ⟨by rfl, ?_⟩ hSh0 ?_
      rotate_left
      · intro w' hw'; obtain ⟨x0, x1, x2, x3, x4, x5, x6, x7, x8, x9, x10, x11, x12⟩ := hw'; go_simp; (try with_reducible rfl)
      simp only [Act.put, List.setIfInBounds_toArray, List.set_cons_zero, List.set_cons_succ]
      refine held_take (v := ?_) 2 60 rfl rfl (by kernel_rfl) (by kernel_rfl) (by kernel_rfl) (fun _ _ _ h => h) ⟨by rfl, ?_⟩ hSh0 ?_
      rotate_left
      · intro w' hw'; obtain ⟨x0, x1, x2, x3, x4, x5, x6, x7, x8, x9, x10, x11, x12⟩ := hw'; go_simp; (try with_reducible rfl)
      simp only [Act.put, List.setIfInBounds_toArray, List.set_cons_zero, List.set_cons_succ]
      refine held_take (v := ?_) 3 61 rfl rfl (by kernel_rfl) (by kernel_rfl) (by kernel_rfl) (fun _ _ _ h => h) ⟨by rfl, ?_⟩ hSh0 ?_
      rotate_left
      · intro w' hw'; obtain ⟨x0, x1, x2, x3, x4, x5, x6, x7, x8, x9, x10, x11, x12⟩ := hw'; go_simp; (try with_reducible rfl)
      simp only [Act.put, List.setIfInBounds_toArray, List.set_cons_zero, List.set_cons_succ]
      refine held_take (v := ?_) 4 62 rfl rfl (by kernel_rfl) (by kernel_rfl) (by kernel_rfl) (fun _ _ _ h => h) ⟨by rfl, ?_⟩ hSh0 ?_
      rotate_left
      · intro w' hw'; obtain ⟨x0, x1, x2, x3, x4, x5, x6, x7, x8, x9, x10, x11, x12⟩ := hw'; go_simp; (try with_reducible rfl)
      simp only [Act.put, List.setIfInBounds_toArray, List.set_cons_zero, List.set_cons_succ]
      refine held_take (v := ?_) 5 63 rfl rfl (by kernel_rfl) (by kernel_rfl) (by kernel_rfl) (fun _ _ _ h => h) ⟨by rfl, ?_⟩ hSh0 ?_
      rotate_left
      · intro w' hw'; obtain ⟨x0, x1, x2, x3, x4, x5, x6, x7, x8, x9, x10, x11, x12⟩ := hw'; go_simp; (try with_reducible rfl)
      simp only [Act.put, List.setIfInBounds_toArray, List.set_cons_zero, List.set_cons_succ]
      refine held_take (v := ?_) 6 64 rfl rfl (by kernel_rfl) (by kernel_rfl) (by kernel_rfl) (fun _ _ _ h => h) ⟨by rfl, ?_⟩ hSh0 ?_
      rotate_left
      · intro w' hw'; obtain ⟨x0, x1, x2, x3, x4, x5, x6, x7, x8, x9, x10, x11, x12⟩ := hw'; go_simp; (try with_reducible rfl)
      simp only [Act.put, List.setIfInBounds_toArray, List.set_cons_zero, List.set_cons_succ]
      refine held_take (v := ?_) 7 65 rfl rfl (by kernel_rfl) (by kernel_rfl) (by kernel_rfl) (fun _ _ _ h => h) ⟨by rfl, ?_⟩ hSh0 ?_
      rotate_left
      · intro w' hw'; obtain ⟨x0, x1, x2, x3, x4, x5, x6, x7, x8, x9, x10, x11, x12⟩ := hw'; go_simp; (try with_reducible rfl)
      simp only [Act.put, List.setIfInBounds_toArray, List.set_cons_zero, List.set_cons_succ]
      refine held_take (v := ?_) 8 66 rfl rfl (by kernel_rfl) (by kernel_rfl) (by kernel_rfl) (fun _ _ _ h => h) ⟨by rfl, ?_⟩ hSh0 ?_
      rotate_left
      · intro w' hw'; obtain ⟨x0, x1, x2, x3, x4, x5, x6, x7, x8, x9, x10, x11, x12⟩ := hw'; go_simp; (try with_reducible rfl)
      simp only [Act.put, List.setIfInBounds_toArray, List.set_cons_zero, List.set_cons_succ]
      refine held_take (v := ?_) 9 67 rfl rfl (by kernel_rfl) (by kernel_rfl) (by kernel_rfl) (fun _ _ _ h => h) ⟨by rfl, ?_⟩ hSh0 ?_
      rotate_left
      · intro w' hw'; obtain ⟨x0, x1, x2, x3, x4, x5, x6, x7, x8, x9, x10, x11, x12⟩ := hw'; go_simp; (try with_reducible rfl)
      simp only [Act.put, List.setIfInBounds_toArray, List.set_cons_zero, List.set_cons_succ]
      refine held_one 10 rfl (by kernel_rfl) (by rfl) (fun K hK => ?_)
      go_simp
      go_at_call 10
      refine (hSf.out _ hBh0).mono ?_
      rintro e wh1 ⟨T, E, rfl, hAf, hbh1⟩
      have hBh1 : Below wr.heap.size wr wh1 := below_step hBh0 hbh1
      have hSh1 : (fun w' : World => w'.cell? ⟨N_f, 0, none⟩ = some (.int .i64 G) ∧ w'.cell? ⟨N_f, 1, none⟩ = some (.int .i64 C) ∧ w'.cell? ⟨N_b, 0, none⟩ = some (.int .i64 X.q) ∧ w'.cell? ⟨N_b, 1, none⟩ = some (.int .i64 X.n) ∧ w'.cell? ⟨N_b, 2, none⟩ = some (.int .i64 X.S.g) ∧ w'.cell? ⟨N_b, 3, none⟩ = some (.int .i64 X.S.c) ∧ w'.cell? ⟨N_b, 4, none⟩ = some (.int .i64 X.S.mn) ∧ w'.cell? ⟨N_b, 5, none⟩ = some (.int .i64 X.S.mx) ∧ w'.cell? ⟨yb, yo + j * 5, none⟩ = some (.int .i64 x.id) ∧ w'.cell? ⟨yb, yo + j * 5 + 1, none⟩ = some (.int .i64 x.q) ∧ w'.cell? ⟨yb, yo + j * 5 + 2, none⟩ = some (.int .i64 x.u) ∧ w'.cell? ⟨yb, yo + j * 5 + 3, none⟩ = some (.bool x.r) ∧ w'.cell? ⟨yb, yo + j * 5 + 4, none⟩ = some (.slice x.A k x.c)) wh1 := ⟨(hBh1.cell (p := ⟨N_f, 0, none⟩) (show N_f < wr.heap.size by omega)).trans f0, (hBh1.cell (p := ⟨N_f, 1, none⟩) (show N_f < wr.heap.size by omega)).trans f1, (hBh1.cell (p := ⟨N_b, 0, none⟩) (show N_b < wr.heap.size by omega)).trans b0, (hBh1.cell (p := ⟨N_b, 1, none⟩) (show N_b < wr.heap.size by omega)).trans b1, (hBh1.cell (p := ⟨N_b, 2, none⟩) (show N_b < wr.heap.size by omega)).trans b2, (hBh1.cell (p := ⟨N_b, 3, none⟩) (show N_b < wr.heap.size by omega)).trans b3, (hBh1.cell (p := ⟨N_b, 4, none⟩) (show N_b < wr.heap.size by omega)).trans b4, (hBh1.cell (p := ⟨N_b, 5, none⟩) (show N_b < wr.heap.size by omega)).trans b5, (hBh1.cell (p := ⟨yb, yo + j * 5, none⟩) (show yb < wr.heap.size by omega)).trans x0, (hBh1.cell (p := ⟨yb, yo + j * 5 + 1, none⟩) (show yb < wr.heap.size by omega)).trans x1, (hBh1.cell (p := ⟨yb, yo + j * 5 + 2, none⟩) (show yb < wr.heap.size by omega)).trans x2, (hBh1.cell (p := ⟨yb, yo + j * 5 + 3, none⟩) (show yb < wr.heap.size by omega)).trans x3, (hBh1.cell (p := ⟨yb, yo + j * 5 + 4, none⟩) (show yb < wr.heap.size by omega)).trans x4⟩
      have HAf := Lib.hid hAf
      clear hAf
      refine hK.out _ _ hSh1 ?_
      clear hK K
      refine held_take (v := ?_) 11 57 rfl rfl (by kernel_rfl) (by kernel_rfl) (by kernel_rfl) (fun _ _ _ h => h) ⟨by rfl, ?_⟩ hSh1 ?_
      rotate_left
      · intro w' hw'; obtain ⟨x0, x1, x2, x3, x4, x5, x6, x7, x8, x9, x10, x11, x12⟩ := hw'; go_simp; (try with_reducible rfl)
      simp only [Act.put, List.setIfInBounds_toArray, List.set_cons_zero, List.set_cons_succ]
      refine held_take (v := ?_) 12 69 rfl rfl (by kernel_rfl) (by kernel_rfl) (by kernel_rfl) (fun _ _ _ h => h) ⟨by rfl, ?_⟩ hSh1 ?_
      rotate_left
      · intro w' hw'; obtain ⟨x0, x1, x2, x3, x4, x5, x6, x7, x8, x9, x10, x11, x12⟩ := hw'; go_simp; (try with_reducible rfl)
      simp only [Act.put, List.setIfInBounds_toArray, List.set_cons_zero, List.set_cons_succ]
      refine held_take (v := ?_) 13 70 rfl rfl (by kernel_rfl) (by kernel_rfl) (by kernel_rfl) (fun _ _ _ h => h) ⟨by rfl, ?_⟩ hSh1 ?_
      rotate_left
      · intro w' hw'; obtain ⟨x0, x1, x2, x3, x4, x5, x6, x7, x8, x9, x10, x11, x12⟩ := hw'; go_simp; (try with_reducible rfl)
      simp only [Act.put, List.setIfInBounds_toArray, List.set_cons_zero, List.set_cons_succ]
      refine held_take (v := ?_) 14 16 rfl rfl (by kernel_rfl) (by kernel_rfl) (by kernel_rfl) (fun _ _ _ h => h) ⟨by rfl, ?_⟩ hSh1 ?_
      rotate_left
      · intro w' hw'; obtain ⟨x0, x1, x2, x3, x4, x5, x6, x7, x8, x9, x10, x11, x12⟩ := hw'; go_simp; (try with_reducible rfl)
      simp only [Act.put, List.setIfInBounds_toArray, List.set_cons_zero, List.set_cons_succ]
      refine held_take (v := ?_) 15 17 rfl rfl (by kernel_rfl) (by kernel_rfl) (by kernel_rfl) (fun _ _ _ h => h) ⟨by rfl, ?_⟩ hSh1 ?_
      rotate_left
      · intro w' hw'; obtain ⟨x0, x1, x2, x3, x4, x5, x6, x7, x8, x9, x10, x11, x12⟩ := hw'; go_simp; (try with_reducible rfl)
      simp only [Act.put, List.setIfInBounds_toArray, List.set_cons_zero, List.set_cons_succ]
      refine wpAnyH_done (by kernel_rfl) ?_ _
      have hb9 := hBh1
      clear hSh0 hSh1 hBh0 hBh1
      clear f0 f1 b0 b1 b2 b3 b4 b5
      clear x0 x1 x2 x3 x4
      have hs9 := hb9.size
      have HKh := Lib.hid (show Fes wh1 wh1.heap.size A1 lv ∧ Hos wh1 wh1.heap.size A3 l from ⟨HK.out.1.keep hb9 hb9.size, HK.out.2.2.2.1.keep hb9 hb9.size⟩)
      replace HBel := Lib.hid (HBel.out.trans (hb9.mono hlow))
      replace B_f : Hid (wh1.heap[N_f]? = some (.cells #[.int .i64 G, .int .i64 C] 24 (0, 0))) := Lib.hid ((hb9.block _ l_f).trans B_f.out)
      replace B_b : Hid (wh1.heap[N_b]? = some (.cells #[.int .i64 X.q, .int .i64 X.n, .int .i64 X.S.g, .int .i64 X.S.c, .int .i64 X.S.mn, .int .i64 X.S.mx] 29 (0, 0))) := Lib.hid ((hb9.block _ l_b).trans B_b.out)
      replace l_f : N_f < wh1.heap.size := by omega
      replace l_b : N_b < wh1.heap.size := by omega
      replace hlow : w.heap.size ≤ wh1.heap.size := by omega
      clear hb9 hs9
      by_cases hE0 : E ≠ 0
      · have t3 : (E != 0) = true := by simp [hE0]
        go_wp2
        go_roundw
        case rel => exact ⟨j + 1, A1, C1, lv, A3, C3, M, l, G, C, by go_num, by omega, rfl, rfl, by omega, by omega, HBel, B_f, B_b, Lib.hid ⟨HKh.out.1, HK.out.2.1, HK.out.2.2.1, HKh.out.2, HK.out.2.2.2.2⟩⟩
        case measure => simp [intOf]; omega
      have hE1 : E = 0 := Classical.not_not.1 hE0
      subst hE1
      clear hE0 t2
      cases hsb : safeB now P T 0
      · clear hsb
        go_wp2
        go_roundw
        case rel => exact ⟨j + 1, A1, C1, lv, A3, C3, M, l, G, C, by go_num, by omega, rfl, rfl, by omega, by omega, HBel, B_f, B_b, Lib.hid ⟨HKh.out.1, HK.out.2.1, HK.out.2.2.1, HKh.out.2, HK.out.2.2.2.2⟩⟩
        case measure => simp [intOf]; omega
      have hTP : T ≤ P := by
        unfold safeB at hsb
        have h8 := (of_decide_eq_true hsb).2
        omega
      obtain ⟨y1, y2⟩ := HAf.out.ok
      obtain ⟨lv2, hlv2⟩ : ∃ z, z = (turnL lessC lv x.sl).2 := ⟨_, rfl⟩
      rw [← hlv2] at y1 y2
      have HY := Lib.hid (And.intro y1 y2)
      have hLe := Lib.hid (fun W (hW : Below w.heap.size w W) (h1 : Fes W W.heap.size A1 lv) => show Calls Tryd.prog 16 #[.slice A1 n C1, .slice x.A k x.c] W (fun e w' => (∃ A' c', Hid (Fes w' w'.heap.size A' lv2 ∧ lv2.length = n ∧ View lv2) ∧ e = .returned (.tuple #[.slice A' n c', .int .i64 0])) ∧ Below W.heap.size W w') from by
        have h9 := refless_of A1 C1 lv x.A x.c x.sl 0 lv2 W HY.out.1 h1 HK.out.2.1 (by rw [HK.out.2.2.1]; omega) (hkx.1.keep hW hW.size) hkx.2.1.ok (by have := hkx.2.2; omega)
        rw [HK.out.2.2.1, ← HX.out.2.2] at h9
        exact h9.mono fun e w' h => ⟨h.1 rfl, h.2.2⟩)
      clear y1 y2 hlv2 hsb HAf hSf
      have x0 : wh1.cell? ⟨yb, yo + j * 5, none⟩ = some (.int .i64 x.id) := (HXc.out.keep hyb HBel.out) 0 _ rfl
      have x1 : wh1.cell? ⟨yb, yo + j * 5 + 1, none⟩ = some (.int .i64 x.q) := (HXc.out.keep hyb HBel.out) 1 _ rfl
      have x2 : wh1.cell? ⟨yb, yo + j * 5 + 2, none⟩ = some (.int .i64 x.u) := (HXc.out.keep hyb HBel.out) 2 _ rfl
      have x3 : wh1.cell? ⟨yb, yo + j * 5 + 3, none⟩ = some (.bool x.r) := (HXc.out.keep hyb HBel.out) 3 _ rfl
      have x4 : wh1.cell? ⟨yb, yo + j * 5 + 4, none⟩ = some (.slice x.A k x.c) := (HXc.out.keep hyb HBel.out) 4 _ rfl
      have hybw : yb < wh1.heap.size := by omega
      go_wp2_with fail
      refine (hLe.out wh1 HBel.out HKh.out.1).mono ?_
      rintro e U1 ⟨⟨A4, c4, hf4, rfl⟩, hb9⟩
      have hs9 := hb9.size
      have HK4 := Lib.hid (show Hos U1 U1.heap.size A3 l from HKh.out.2.keep hb9 hb9.size)
      have HF4 := Lib.hid hf4.out
      clear hf4
      clear x0 x1 x2 x3 x4
      replace HBel := Lib.hid (HBel.out.trans (hb9.mono hlow))
      replace B_f : Hid (U1.heap[N_f]? = some (.cells #[.int .i64 G, .int .i64 C] 24 (0, 0))) := Lib.hid ((hb9.block _ l_f).trans B_f.out)
      replace B_b : Hid (U1.heap[N_b]? = some (.cells #[.int .i64 X.q, .int .i64 X.n, .int .i64 X.S.g, .int .i64 X.S.c, .int .i64 X.S.mn, .int .i64 X.S.mx] 29 (0, 0))) := Lib.hid ((hb9.block _ l_b).trans B_b.out)
      replace l_f : N_f < U1.heap.size := by omega
      replace l_b : N_b < U1.heap.size := by omega
      replace hlow : w.heap.size ≤ U1.heap.size := by omega
      clear hb9 hs9
      obtain ⟨fb, l_fe, hfbf, hfF⟩ := fes_off HF4.out.1 (fun b => b = N_f) (fun b e o z => by subst e; exact not_fe_two B_f.out z) N_b l_b (by show ¬ N_b = N_f; omega)
      obtain ⟨O, hO⟩ : ∃ O, U1.heap[fb]? = some O := ⟨_, Array.getElem?_eq_getElem l_fe⟩
      obtain ⟨Or, hOr⟩ : ∃ f : Nat × Nat → Obj, f = fun _ => O := ⟨_, rfl⟩
      have HfF := Lib.hid (fun (W : World) (h1 : W.heap[fb]? = some (Or (0, 0))) (h2 : fb < W.heap.size) => hfF W (by rw [h1, hO, hOr]) h2)
      have B_fe : Hid (U1.heap[fb]? = some (Or (0, 0))) := Lib.hid (by rw [hO, hOr])
      have hfb9 : fb ≠ N_f := hfbf
      clear hfF hO hOr hfbf
      obtain ⟨eb, l_ee, heb9, heF⟩ := hos_off HK4.out B_f.out N_b l_b (by omega)
      obtain ⟨O2, hO2⟩ : ∃ O, U1.heap[eb]? = some O := ⟨_, Array.getElem?_eq_getElem l_ee⟩
      obtain ⟨Oe, hOe⟩ : ∃ f : Nat × Nat → Obj, f = fun _ => O2 := ⟨_, rfl⟩
      have HeF := Lib.hid (fun (W : World) (h1 : W.heap[eb]? = some (Oe (0, 0))) (h2 : eb < W.heap.size) => heF W (by rw [h1, hO2, hOe]) h2)
      have B_ee : Hid (U1.heap[eb]? = some (Oe (0, 0))) := Lib.hid (by rw [hO2, hOe])
      clear heF hO2 hOe
      have hub := Lib.hid (show (gs x.sl : Int) ≤ 1280 ∧ 0 ≤ cs x.sl ∧ cs x.sl ≤ 20971520 from by
        have h1 := gs_le x.sl
        have h2 := cs_le (l := x.sl) fun s hsm => (low_less HK.out.2.1 HF4.out.2.2 HY.out.1 hkx.2.1.ok s hsm).2
        have h3 := hkx.2.2
        omega)
      by_cases hqq : x.q = X.q
      · have e1 : (x.q == X.q) = true := by simp [hqq]
        obtain ⟨Gs, hGs⟩ : ∃ Gs, Gs = gs x.sl := ⟨_, rfl⟩
        obtain ⟨Cs, hCs⟩ : ∃ Cs, Cs = cs x.sl := ⟨_, rfl⟩
        have hxy := Lib.hid (show (G - (Gs : Int) = G - (hg x X.q : Int) ∧ C - Cs = C - hc x X.q ∧ (-1048576 - 1280 * ((j : Int) + 1) ≤ G - (Gs : Int) ∧ G - (Gs : Int) ≤ 1048576 ∧ -1048576 - 20971520 * ((j : Int) + 1) ≤ C - Cs ∧ C - Cs ≤ 1048576)) from by
          have h3 := hub.out
          unfold hg hc; rw [if_pos hqq, if_pos hqq, hGs, hCs]; exact ⟨rfl, rfl, by omega⟩)
        have hub2 : (Gs : Int) ≤ 1280 ∧ 0 ≤ Cs ∧ Cs ≤ 20971520 := by rw [hGs, hCs]; exact hub.out
        have hUn := Lib.hid (fun W (hW : Below w.heap.size w W) => show Calls Tryd.prog 17 #[.slice x.A k x.c] W (fun e w' => e = .returned (.agg #[.int .i64 (Gs : Nat), .int .i64 Cs]) ∧ Below W.heap.size W w') from by
  rw [hGs, hCs, HX.out.2.2]
  exact refunits8_any x.A x.c x.sl W (hkx.1.keep hW hW.size) (low_less HK.out.2.1 HF4.out.2.2 HY.out.1 hkx.2.1.ok) (by have := hkx.2.2; omega))
        clear hqq hGs hCs
        have x0 : U1.cell? ⟨yb, yo + j * 5, none⟩ = some (.int .i64 x.id) := (HXc.out.keep hyb HBel.out) 0 _ rfl
        have x1 : U1.cell? ⟨yb, yo + j * 5 + 1, none⟩ = some (.int .i64 x.q) := (HXc.out.keep hyb HBel.out) 1 _ rfl
        have x2 : U1.cell? ⟨yb, yo + j * 5 + 2, none⟩ = some (.int .i64 x.u) := (HXc.out.keep hyb HBel.out) 2 _ rfl
        have x3 : U1.cell? ⟨yb, yo + j * 5 + 3, none⟩ = some (.bool x.r) := (HXc.out.keep hyb HBel.out) 3 _ rfl
        have x4 : U1.cell? ⟨yb, yo + j * 5 + 4, none⟩ = some (.slice x.A k x.c) := (HXc.out.keep hyb HBel.out) 4 _ rfl
        have b0 : U1.cell? ⟨N_b, 0, none⟩ = some (.int .i64 X.q) := cell_blk (i := 0) B_b.out rfl
        have b1 : U1.cell? ⟨N_b, 1, none⟩ = some (.int .i64 X.n) := cell_blk (i := 1) B_b.out rfl
        have b2 : U1.cell? ⟨N_b, 2, none⟩ = some (.int .i64 X.S.g) := cell_blk (i := 2) B_b.out rfl
        have b3 : U1.cell? ⟨N_b, 3, none⟩ = some (.int .i64 X.S.c) := cell_blk (i := 3) B_b.out rfl
        have b4 : U1.cell? ⟨N_b, 4, none⟩ = some (.int .i64 X.S.mn) := cell_blk (i := 4) B_b.out rfl
        have b5 : U1.cell? ⟨N_b, 5, none⟩ = some (.int .i64 X.S.mx) := cell_blk (i := 5) B_b.out rfl
        have hybw : yb < U1.heap.size := by omega
        go_wp2_with fail
        refine held_begin (fun w' : World => w'.cell? ⟨N_b, 0, none⟩ = some (.int .i64 X.q) ∧ w'.cell? ⟨N_b, 1, none⟩ = some (.int .i64 X.n) ∧ w'.cell? ⟨N_b, 2, none⟩ = some (.int .i64 X.S.g) ∧ w'.cell? ⟨N_b, 3, none⟩ = some (.int .i64 X.S.c) ∧ w'.cell? ⟨N_b, 4, none⟩ = some (.int .i64 X.S.mn) ∧ w'.cell? ⟨N_b, 5, none⟩ = some (.int .i64 X.S.mx) ∧ w'.cell? ⟨yb, yo + j * 5, none⟩ = some (.int .i64 x.id) ∧ w'.cell? ⟨yb, yo + j * 5 + 1, none⟩ = some (.int .i64 x.q) ∧ w'.cell? ⟨yb, yo + j * 5 + 2, none⟩ = some (.int .i64 x.u) ∧ w'.cell? ⟨yb, yo + j * 5 + 3, none⟩ = some (.bool x.r) ∧ w'.cell? ⟨yb, yo + j * 5 + 4, none⟩ = some (.slice x.A k x.c)) (by kernel_rfl) ?_
        have hBg0 : Below U1.heap.size U1 U1.drew := (Below.refl _ _).drew
        have hSg0 : (fun w' : World => w'.cell? ⟨N_b, 0, none⟩ = some (.int .i64 X.q) ∧ w'.cell? ⟨N_b, 1, none⟩ = some (.int .i64 X.n) ∧ w'.cell? ⟨N_b, 2, none⟩ = some (.int .i64 X.S.g) ∧ w'.cell? ⟨N_b, 3, none⟩ = some (.int .i64 X.S.c) ∧ w'.cell? ⟨N_b, 4, none⟩ = some (.int .i64 X.S.mn) ∧ w'.cell? ⟨N_b, 5, none⟩ = some (.int .i64 X.S.mx) ∧ w'.cell? ⟨yb, yo + j * 5, none⟩ = some (.int .i64 x.id) ∧ w'.cell? ⟨yb, yo + j * 5 + 1, none⟩ = some (.int .i64 x.q) ∧ w'.cell? ⟨yb, yo + j * 5 + 2, none⟩ = some (.int .i64 x.u) ∧ w'.cell? ⟨yb, yo + j * 5 + 3, none⟩ = some (.bool x.r) ∧ w'.cell? ⟨yb, yo + j * 5 + 4, none⟩ = some (.slice x.A k x.c)) U1.drew := ⟨b0, b1, b2, b3, b4, b5, x0, x1, x2, x3, x4⟩
        refine held_take (v := ?_) 0 87 rfl rfl (by kernel_rfl) (by kernel_rfl) (by kernel_rfl) (fun _ _ _ h => h) ⟨by rfl, ?_⟩ hSg0 ?_
        rotate_left
        · intro w' hw'; obtain ⟨x0, x1, x2, x3, x4, x5, x6, x7, x8, x9, x10⟩ := hw'; go_simp; (try with_reducible rfl)
        simp only [Act.put, List.setIfInBounds_toArray, List.set_cons_zero, List.set_cons_succ]
        refine held_take (v := ?_) 1 88 rfl rfl (by kernel_rfl) (by kernel_rfl) (by kernel_rfl) (fun _ _ _ h => h) ⟨by rfl, ?_⟩ hSg0 ?_
        rotate_left
        · intro w' hw'; obtain ⟨x0, x1, x2, x3, x4, x5, x6, x7, x8, x9, x10⟩ := hw'; go_simp; (try with_reducible rfl)
        simp only [Act.put, List.setIfInBounds_toArray, List.set_cons_zero, List.set_cons_succ]
        refine held_take (v := ?_) 2 89 rfl rfl (by kernel_rfl) (by kernel_rfl) (by kernel_rfl) (fun _ _ _ h => h) ⟨by rfl, ?_⟩ hSg0 ?_
        rotate_left
        · intro w' hw'; obtain ⟨x0, x1, x2, x3, x4, x5, x6, x7, x8, x9, x10⟩ := hw'; go_simp; (try with_reducible rfl)
        simp only [Act.put, List.setIfInBounds_toArray, List.set_cons_zero, List.set_cons_succ]
        refine held_take (v := ?_) 3 90 rfl rfl (by kernel_rfl) (by kernel_rfl) (by kernel_rfl) (fun _ _ _ h => h) ⟨by rfl, ?_⟩ hSg0 ?_
        rotate_left
        · intro w' hw'; obtain ⟨x0, x1, x2, x3, x4, x5, x6, x7, x8, x9, x10⟩ := hw'; go_simp; (try with_reducible rfl)
        simp only [Act.put, List.setIfInBounds_toArray, List.set_cons_zero, List.set_cons_succ]
        refine held_take (v := ?_) 4 91 rfl rfl (by kernel_rfl) (by kernel_rfl) (by kernel_rfl) (fun _ _ _ h => h) ⟨by rfl, ?_⟩ hSg0 ?_
        rotate_left
        · intro w' hw'; obtain ⟨x0, x1, x2, x3, x4, x5, x6, x7, x8, x9, x10⟩ := hw'; go_simp; (try with_reducible rfl)
        simp only [Act.put, List.setIfInBounds_toArray, List.set_cons_zero, List.set_cons_succ]
        refine held_take (v := ?_) 5 92 rfl rfl (by kernel_rfl) (by kernel_rfl) (by kernel_rfl) (fun _ _ _ h => h) ⟨by rfl, ?_⟩ hSg0 ?_
        rotate_left
        · intro w' hw'; obtain ⟨x0, x1, x2, x3, x4, x5, x6, x7, x8, x9, x10⟩ := hw'; go_simp; (try with_reducible rfl)
        simp only [Act.put, List.setIfInBounds_toArray, List.set_cons_zero, List.set_cons_succ]
        refine held_take (v := ?_) 6 93 rfl rfl (by kernel_rfl) (by kernel_rfl) (by kernel_rfl) (fun _ _ _ h => h) ⟨by rfl, ?_⟩ hSg0 ?_
        rotate_left
        · intro w' hw'; obtain ⟨x0, x1, x2, x3, x4, x5, x6, x7, x8, x9, x10⟩ := hw'; go_simp; (try with_reducible rfl)
        simp only [Act.put, List.setIfInBounds_toArray, List.set_cons_zero, List.set_cons_succ]
        refine held_take (v := ?_) 7 94 rfl rfl (by kernel_rfl) (by kernel_rfl) (by kernel_rfl) (fun _ _ _ h => h) ⟨by rfl, ?_⟩ hSg0 ?_
        rotate_left
        · intro w' hw'; obtain ⟨x0, x1, x2, x3, x4, x5, x6, x7, x8, x9, x10⟩ := hw'; go_simp; (try with_reducible rfl)
        simp only [Act.put, List.setIfInBounds_toArray, List.set_cons_zero, List.set_cons_succ]
        refine wpAnyH_done (by kernel_rfl) ?_ _
        clear hSg0 hBg0
        clear b0 b1 b2 b3 b4 b5
        clear x0 x1 x2 x3 x4
        obtain ⟨D2, hD2⟩ : ∃ W, W = U1.drew := ⟨_, rfl⟩
        rw [← hD2]
        have hzD2 : D2.heap = U1.heap := by rw [hD2]; rfl
        replace HBel : Hid (Below w.heap.size w D2) := Lib.hid (by rw [hD2]; exact HBel.out.drew)
        replace B_f : Hid (D2.heap[N_f]? = some (.cells #[.int .i64 G, .int .i64 C] 24 (0, 0))) := Lib.hid (by rw [hzD2]; exact B_f.out)
        replace B_b : Hid (D2.heap[N_b]? = some (.cells #[.int .i64 X.q, .int .i64 X.n, .int .i64 X.S.g, .int .i64 X.S.c, .int .i64 X.S.mn, .int .i64 X.S.mx] 29 (0, 0))) := Lib.hid (by rw [hzD2]; exact B_b.out)
        replace B_fe : Hid (D2.heap[fb]? = some (Or (0, 0))) := Lib.hid (by rw [hzD2]; exact B_fe.out)
        replace B_ee : Hid (D2.heap[eb]? = some (Oe (0, 0))) := Lib.hid (by rw [hzD2]; exact B_ee.out)
        replace l_f : N_f < D2.heap.size := by rw [hzD2]; exact l_f
        replace l_b : N_b < D2.heap.size := by rw [hzD2]; exact l_b
        replace l_fe : fb < D2.heap.size := by rw [hzD2]; exact l_fe
        replace l_ee : eb < D2.heap.size := by rw [hzD2]; exact l_ee
        replace hlow : w.heap.size ≤ D2.heap.size := by rw [hzD2]; exact hlow
        clear hD2 hzD2
        have x0 : D2.cell? ⟨yb, yo + j * 5, none⟩ = some (.int .i64 x.id) := (HXc.out.keep hyb HBel.out) 0 _ rfl
        have x1 : D2.cell? ⟨yb, yo + j * 5 + 1, none⟩ = some (.int .i64 x.q) := (HXc.out.keep hyb HBel.out) 1 _ rfl
        have x2 : D2.cell? ⟨yb, yo + j * 5 + 2, none⟩ = some (.int .i64 x.u) := (HXc.out.keep hyb HBel.out) 2 _ rfl
        have x3 : D2.cell? ⟨yb, yo + j * 5 + 3, none⟩ = some (.bool x.r) := (HXc.out.keep hyb HBel.out) 3 _ rfl
        have x4 : D2.cell? ⟨yb, yo + j * 5 + 4, none⟩ = some (.slice x.A k x.c) := (HXc.out.keep hyb HBel.out) 4 _ rfl
        have hybw : yb < D2.heap.size := by omega
        go_wp2_with fail
        refine (hUn.out D2 HBel.out).mono ?_
        rintro e U3 ⟨rfl, hb9⟩
        have hs9 := hb9.size
        clear x0 x1 x2 x3 x4
        replace HBel := Lib.hid (HBel.out.trans (hb9.mono hlow))
        replace B_f : Hid (U3.heap[N_f]? = some (.cells #[.int .i64 G, .int .i64 C] 24 (0, 0))) := Lib.hid ((hb9.block _ l_f).trans B_f.out)
        replace B_b : Hid (U3.heap[N_b]? = some (.cells #[.int .i64 X.q, .int .i64 X.n, .int .i64 X.S.g, .int .i64 X.S.c, .int .i64 X.S.mn, .int .i64 X.S.mx] 29 (0, 0))) := Lib.hid ((hb9.block _ l_b).trans B_b.out)
        replace B_fe : Hid (U3.heap[fb]? = some (Or (0, 0))) := Lib.hid ((hb9.block _ l_fe).trans B_fe.out)
        replace B_ee : Hid (U3.heap[eb]? = some (Oe (0, 0))) := Lib.hid ((hb9.block _ l_ee).trans B_ee.out)
        replace l_f : N_f < U3.heap.size := by omega
        replace l_b : N_b < U3.heap.size := by omega
        replace l_fe : fb < U3.heap.size := by omega
        replace l_ee : eb < U3.heap.size := by omega
        replace hlow : w.heap.size ≤ U3.heap.size := by omega
        clear hb9 hs9
        have f0 : U3.cell? ⟨N_f, 0, none⟩ = some (.int .i64 G) := cell_blk (i := 0) B_f.out rfl
        have f1 : U3.cell? ⟨N_f, 1, none⟩ = some (.int .i64 C) := cell_blk (i := 1) B_f.out rfl
        have fz0 : U3.frozen? ⟨N_f, 0, none⟩ = false := frozen_blk B_f.out
        have fz1 : U3.frozen? ⟨N_f, 1, none⟩ = false := frozen_blk B_f.out
        go_wp2_with fail
        clear f0 f1 fz0 fz1
        obtain ⟨S4, hS4⟩ : ∃ W, W = ((U3).setCell ⟨N_f, 0, none⟩ (.int .i64 (G - (Gs : Int)))).setCell ⟨N_f, 1, none⟩ (.int .i64 (C - Cs)) := ⟨_, rfl⟩
        rw [← hS4]
        have hzS4 : S4.heap.size = U3.heap.size := by rw [hS4]; simp
        replace HBel : Hid (Below w.heap.size w S4) := Lib.hid (by rw [hS4]; exact ((HBel.out.setCell (g_f) _).setCell (g_f) _))
        replace B_b : Hid (S4.heap[N_b]? = some (.cells #[.int .i64 X.q, .int .i64 X.n, .int .i64 X.S.g, .int .i64 X.S.c, .int .i64 X.S.mn, .int .i64 X.S.mx] 29 (0, 0))) := Lib.hid (by rw [hS4]; exact ((Below.heap_setCell _ _ _ _ (show N_b ≠ N_f by omega)).trans ((Below.heap_setCell _ _ _ _ (show N_b ≠ N_f by omega)).trans B_b.out)))
        replace B_fe : Hid (S4.heap[fb]? = some (Or (0, 0))) := Lib.hid (by rw [hS4]; exact ((Below.heap_setCell _ _ _ _ (show fb ≠ N_f by omega)).trans ((Below.heap_setCell _ _ _ _ (show fb ≠ N_f by omega)).trans B_fe.out)))
        replace B_ee : Hid (S4.heap[eb]? = some (Oe (0, 0))) := Lib.hid (by rw [hS4]; exact ((Below.heap_setCell _ _ _ _ (show eb ≠ N_f by omega)).trans ((Below.heap_setCell _ _ _ _ (show eb ≠ N_f by omega)).trans B_ee.out)))
        replace B_f : Hid (S4.heap[N_f]? = some (.cells #[.int .i64 (G - (Gs : Int)), .int .i64 (C - Cs)] 24 (0, 0))) := Lib.hid (by rw [hS4]; exact (blk_put (i := 1) _ (blk_put (i := 0) _ B_f.out)))
        replace l_f : N_f < S4.heap.size := by omega
        replace l_b : N_b < S4.heap.size := by omega
        replace l_fe : fb < S4.heap.size := by omega
        replace l_ee : eb < S4.heap.size := by omega
        replace hlow : w.heap.size ≤ S4.heap.size := by omega
        clear hS4 hzS4
        obtain ⟨V5, hV5⟩ : ∃ W, W = S4.alloc (.cells #[.int .i64 (Gs : Nat), .int .i64 Cs] 24) := ⟨_, rfl⟩
        rw [← hV5]
        have hzV5 : V5.heap.size = S4.heap.size + 1 := by rw [hV5]; simp
        replace HBel : Hid (Below w.heap.size w V5) := Lib.hid (by rw [hV5]; exact (HBel.out.alloc (hlow) _))
        replace B_f : Hid (V5.heap[N_f]? = some (.cells #[.int .i64 (G - (Gs : Int)), .int .i64 (C - Cs)] 24 (0, 0))) := Lib.hid (by rw [hV5]; exact ((Below.heap_alloc _ _ _ (by first | omega | (simp <;> omega))).trans B_f.out))
        replace B_b : Hid (V5.heap[N_b]? = some (.cells #[.int .i64 X.q, .int .i64 X.n, .int .i64 X.S.g, .int .i64 X.S.c, .int .i64 X.S.mn, .int .i64 X.S.mx] 29 (0, 0))) := Lib.hid (by rw [hV5]; exact ((Below.heap_alloc _ _ _ (by first | omega | (simp <;> omega))).trans B_b.out))
        replace B_fe : Hid (V5.heap[fb]? = some (Or (0, 0))) := Lib.hid (by rw [hV5]; exact ((Below.heap_alloc _ _ _ (by first | omega | (simp <;> omega))).trans B_fe.out))
        replace B_ee : Hid (V5.heap[eb]? = some (Oe (0, 0))) := Lib.hid (by rw [hV5]; exact ((Below.heap_alloc _ _ _ (by first | omega | (simp <;> omega))).trans B_ee.out))
        have B_u : Hid (V5.heap[S4.heap.size]? = some (.cells #[.int .i64 (Gs : Nat), .int .i64 Cs] 24 (0, 0))) := Lib.hid (by
          have h9 := heap_alloc_new (S4) (.cells #[.int .i64 (Gs : Nat), .int .i64 Cs] 24)
          rw [hV5]; exact h9)
        obtain ⟨N_u, hN_u⟩ : ∃ N, N = S4.heap.size := ⟨_, rfl⟩
        (try rw [← hN_u])
        rw [← hN_u] at B_u
        have d_f_u : N_f < N_u := by omega
        have d_b_u : N_b < N_u := by omega
        have d_fe_u : fb < N_u := by omega
        have d_ee_u : eb < N_u := by omega
        replace l_f : N_f < V5.heap.size := by omega
        replace l_b : N_b < V5.heap.size := by omega
        replace l_fe : fb < V5.heap.size := by omega
        replace l_ee : eb < V5.heap.size := by omega
        have l_u : N_u < V5.heap.size := by omega
        have g_u : w.heap.size ≤ N_u := by omega
        replace hlow : w.heap.size ≤ V5.heap.size := by omega
        clear hV5 hzV5 hN_u
        have x0 : V5.cell? ⟨yb, yo + j * 5, none⟩ = some (.int .i64 x.id) := (HXc.out.keep hyb HBel.out) 0 _ rfl
        have x1 : V5.cell? ⟨yb, yo + j * 5 + 1, none⟩ = some (.int .i64 x.q) := (HXc.out.keep hyb HBel.out) 1 _ rfl
        have x2 : V5.cell? ⟨yb, yo + j * 5 + 2, none⟩ = some (.int .i64 x.u) := (HXc.out.keep hyb HBel.out) 2 _ rfl
        have x3 : V5.cell? ⟨yb, yo + j * 5 + 3, none⟩ = some (.bool x.r) := (HXc.out.keep hyb HBel.out) 3 _ rfl
        have x4 : V5.cell? ⟨yb, yo + j * 5 + 4, none⟩ = some (.slice x.A k x.c) := (HXc.out.keep hyb HBel.out) 4 _ rfl
        have f0 : V5.cell? ⟨N_f, 0, none⟩ = some (.int .i64 (G - (Gs : Int))) := cell_blk (i := 0) B_f.out rfl
        have f1 : V5.cell? ⟨N_f, 1, none⟩ = some (.int .i64 (C - Cs)) := cell_blk (i := 1) B_f.out rfl
        have b0 : V5.cell? ⟨N_b, 0, none⟩ = some (.int .i64 X.q) := cell_blk (i := 0) B_b.out rfl
        have b1 : V5.cell? ⟨N_b, 1, none⟩ = some (.int .i64 X.n) := cell_blk (i := 1) B_b.out rfl
        have b2 : V5.cell? ⟨N_b, 2, none⟩ = some (.int .i64 X.S.g) := cell_blk (i := 2) B_b.out rfl
        have b3 : V5.cell? ⟨N_b, 3, none⟩ = some (.int .i64 X.S.c) := cell_blk (i := 3) B_b.out rfl
        have b4 : V5.cell? ⟨N_b, 4, none⟩ = some (.int .i64 X.S.mn) := cell_blk (i := 4) B_b.out rfl
        have b5 : V5.cell? ⟨N_b, 5, none⟩ = some (.int .i64 X.S.mx) := cell_blk (i := 5) B_b.out rfl
        have hybw : yb < V5.heap.size := by omega
        have HL6 := Lib.hid (HeF.out V5 B_ee.out l_ee)
        have HBX := Lib.hid (fun (V : World) (p : Nat) (h : V.heap[p]? = some (.cells #[.int .i64 x.id, .int .i64 x.q, .int .i64 x.u, .bool x.r, .slice x.A k x.c] 32 (0, 0))) => show Els hoC 5 V V.heap.size (some ⟨p, 0, none⟩) [x] from one_hos (by unfold hoA; rw [← HX.out.2.2]; exact h))
        go_wp2_with fail
        refine held_begin (fun w' : World => w'.cell? ⟨yb, yo + j * 5, none⟩ = some (.int .i64 x.id) ∧ w'.cell? ⟨yb, yo + j * 5 + 1, none⟩ = some (.int .i64 x.q) ∧ w'.cell? ⟨yb, yo + j * 5 + 2, none⟩ = some (.int .i64 x.u) ∧ w'.cell? ⟨yb, yo + j * 5 + 3, none⟩ = some (.bool x.r) ∧ w'.cell? ⟨yb, yo + j * 5 + 4, none⟩ = some (.slice x.A k x.c)) (by kernel_rfl) ?_
        have hBz0 : Below V5.heap.size V5 V5.drew := (Below.refl _ _).drew
        have hSz0 : (fun w' : World => w'.cell? ⟨yb, yo + j * 5, none⟩ = some (.int .i64 x.id) ∧ w'.cell? ⟨yb, yo + j * 5 + 1, none⟩ = some (.int .i64 x.q) ∧ w'.cell? ⟨yb, yo + j * 5 + 2, none⟩ = some (.int .i64 x.u) ∧ w'.cell? ⟨yb, yo + j * 5 + 3, none⟩ = some (.bool x.r) ∧ w'.cell? ⟨yb, yo + j * 5 + 4, none⟩ = some (.slice x.A k x.c)) V5.drew := ⟨x0, x1, x2, x3, x4⟩
        generalize V5.drew = wz0 at hBz0 hSz0 ⊢
        have szz0 := hBz0.size
        refine held_take (v := ?_) 1 114 rfl rfl (by kernel_rfl) (by kernel_rfl) (by kernel_rfl) (fun _ _ _ h => h) ⟨by rfl, ?_⟩ hSz0 ?_
        rotate_left
        · intro w' hw'; obtain ⟨x0, x1, x2, x3, x4⟩ := hw'; go_simp; (try with_reducible rfl)
        simp only [Act.put, List.setIfInBounds_toArray, List.set_cons_zero, List.set_cons_succ]
        refine held_take (v := ?_) 3 116 rfl rfl (by kernel_rfl) (by kernel_rfl) (by kernel_rfl) (fun _ _ _ h => h) ⟨by rfl, ?_⟩ hSz0 ?_
        rotate_left
        · intro w' hw'; obtain ⟨x0, x1, x2, x3, x4⟩ := hw'; go_simp; (try with_reducible rfl)
        simp only [Act.put, List.setIfInBounds_toArray, List.set_cons_zero, List.set_cons_succ]
        refine held_take (v := ?_) 4 117 rfl rfl (by kernel_rfl) (by kernel_rfl) (by kernel_rfl) (fun _ _ _ h => h) ⟨by rfl, ?_⟩ hSz0 ?_
        rotate_left
        · intro w' hw'; obtain ⟨x0, x1, x2, x3, x4⟩ := hw'; go_simp; (try with_reducible rfl)
        simp only [Act.put, List.setIfInBounds_toArray, List.set_cons_zero, List.set_cons_succ]
        refine held_take (v := ?_) 5 118 rfl rfl (by kernel_rfl) (by kernel_rfl) (by kernel_rfl) (fun _ _ _ h => h) ⟨by rfl, ?_⟩ hSz0 ?_
        rotate_left
        · intro w' hw'; obtain ⟨x0, x1, x2, x3, x4⟩ := hw'; go_simp; (try with_reducible rfl)
        simp only [Act.put, List.setIfInBounds_toArray, List.set_cons_zero, List.set_cons_succ]
        refine held_take (v := ?_) 6 119 rfl rfl (by kernel_rfl) (by kernel_rfl) (by kernel_rfl) (fun _ _ _ h => h) ⟨by rfl, ?_⟩ hSz0 ?_
        rotate_left
        · intro w' hw'; obtain ⟨x0, x1, x2, x3, x4⟩ := hw'; go_simp; (try with_reducible rfl)
        simp only [Act.put, List.setIfInBounds_toArray, List.set_cons_zero, List.set_cons_succ]
        refine held_two 0 7 rfl rfl (by kernel_rfl) (by rfl) (by rfl) (fun K hK => ?_) (fun K hK => ?_)
        · go_simp
          obtain ⟨wza, hwza⟩ : ∃ wld9, wld9 = wz0.alloc (.cells #[] 32) := ⟨_, rfl⟩
          have hBwza : Below V5.heap.size V5 wza := by rw [hwza]; exact hBz0.alloc hBz0.size _
          have szwza := hBwza.size
          have stwza : wz0.heap.size < wza.heap.size := by rw [hwza]; simp
          have bbwza : Below wz0.heap.size wz0 wza := by rw [hwza]; exact (Below.refl _ _).alloc (Nat.le_refl _) _
          have ownE : wza.ownsRow V5.heap.size 32 5 (.slice (some ⟨wz0.heap.size, 0, none⟩) 0 0) 0 [] := by rw [hwza]; exact World.ownsRow_lit wz0 #[] 0 (by have := hBz0.size; omega) (by unfold maxLen; omega) rfl
          have hSwza : (fun w' : World => w'.cell? ⟨yb, yo + j * 5, none⟩ = some (.int .i64 x.id) ∧ w'.cell? ⟨yb, yo + j * 5 + 1, none⟩ = some (.int .i64 x.q) ∧ w'.cell? ⟨yb, yo + j * 5 + 2, none⟩ = some (.int .i64 x.u) ∧ w'.cell? ⟨yb, yo + j * 5 + 3, none⟩ = some (.bool x.r) ∧ w'.cell? ⟨yb, yo + j * 5 + 4, none⟩ = some (.slice x.A k x.c)) wza := ⟨(hBwza.cell (p := ⟨yb, yo + j * 5, none⟩) (show yb < V5.heap.size by omega)).trans x0, (hBwza.cell (p := ⟨yb, yo + j * 5 + 1, none⟩) (show yb < V5.heap.size by omega)).trans x1, (hBwza.cell (p := ⟨yb, yo + j * 5 + 2, none⟩) (show yb < V5.heap.size by omega)).trans x2, (hBwza.cell (p := ⟨yb, yo + j * 5 + 3, none⟩) (show yb < V5.heap.size by omega)).trans x3, (hBwza.cell (p := ⟨yb, yo + j * 5 + 4, none⟩) (show yb < V5.heap.size by omega)).trans x4⟩
          rw [← hwza]
          refine hK.out _ _ hSwza ?_
          clear hK K hwza
          try simp only [Act.put, List.setIfInBounds_toArray, List.set_cons_zero, List.set_cons_succ]
          refine held_two 2 7 rfl rfl (by kernel_rfl) (by rfl) (by rfl) (fun K hK => ?_) (fun K hK => ?_)
          · simp only [Go.wp_at_zero, Go.wp_at_succ]
            refine wp_append_els (C := hoC) (k := 5) _ _ _ 25 rfl V5.heap.size 32 i0 _ 56 Tryd.underlying25 hi hz0 hz1 hz2 rfl (by decide) (.slice (some ⟨wz0.heap.size, 0, none⟩) 0 0) 0 [] rfl ownE V5.heap.size A3 C3 M l rfl (Els.keep HL6.out (hBwza) (Nat.le_refl _)) HK.out.2.2.2.2.1.symm hoC_len hoC_one (by unfold maxLen; omega) (by omega) (by omega) ?_
            intro A5 c5 wzb own5 gwzb kwzb
            rw [Nat.zero_add] at own5 ⊢
            rw [List.nil_append] at own5
            have hob : ∀ j, (Value.slice (some ⟨wz0.heap.size, 0, none⟩) 0 0).ownBlock = some j → j = wz0.heap.size := fun j hj => by simpa [Value.ownBlock] using hj.symm
            have hBwzb : Below V5.heap.size V5 wzb := hBwza.grown gwzb (by omega) (fun j hj => by have := hob j hj; omega)
            have szwzb := hBwzb.size
            have stwzb := gwzb.size
            have hSwzb : (fun w' : World => w'.cell? ⟨yb, yo + j * 5, none⟩ = some (.int .i64 x.id) ∧ w'.cell? ⟨yb, yo + j * 5 + 1, none⟩ = some (.int .i64 x.q) ∧ w'.cell? ⟨yb, yo + j * 5 + 2, none⟩ = some (.int .i64 x.u) ∧ w'.cell? ⟨yb, yo + j * 5 + 3, none⟩ = some (.bool x.r) ∧ w'.cell? ⟨yb, yo + j * 5 + 4, none⟩ = some (.slice x.A k x.c)) wzb := ⟨(hBwzb.cell (p := ⟨yb, yo + j * 5, none⟩) (show yb < V5.heap.size by omega)).trans x0, (hBwzb.cell (p := ⟨yb, yo + j * 5 + 1, none⟩) (show yb < V5.heap.size by omega)).trans x1, (hBwzb.cell (p := ⟨yb, yo + j * 5 + 2, none⟩) (show yb < V5.heap.size by omega)).trans x2, (hBwzb.cell (p := ⟨yb, yo + j * 5 + 3, none⟩) (show yb < V5.heap.size by omega)).trans x3, (hBwzb.cell (p := ⟨yb, yo + j * 5 + 4, none⟩) (show yb < V5.heap.size by omega)).trans x4⟩
            refine hK.out _ _ hSwzb ?_
            clear hK K
            try simp only [Act.put, List.setIfInBounds_toArray, List.set_cons_zero, List.set_cons_succ]
            have Own5 := Lib.hid own5
            clear own5 gwzb kwzb hob
            refine held_one 7 rfl (by kernel_rfl) (by rfl) (fun K hK => ?_)
            go_simp
            obtain ⟨wzc, hwzc⟩ : ∃ wld9, wld9 = wzb.alloc (.cells #[.int .i64 x.id, .int .i64 x.q, .int .i64 x.u, .bool x.r, .slice x.A k x.c] 32) := ⟨_, rfl⟩
            have hBwzc : Below V5.heap.size V5 wzc := by rw [hwzc]; exact hBwzb.alloc hBwzb.size _
            have szwzc := hBwzc.size
            have stwzc : wzb.heap.size < wzc.heap.size := by rw [hwzc]; simp
            have bbwzc : Below wzb.heap.size wzb wzc := by rw [hwzc]; exact (Below.refl _ _).alloc (Nat.le_refl _) _
            have elsB : Els hoC 5 wzc wzc.heap.size (some ⟨wzb.heap.size, 0, none⟩) [x] := HBX.out wzc wzb.heap.size (by rw [hwzc]; exact heap_alloc_new _ _)
            have hSwzc : (fun w' : World => w'.cell? ⟨yb, yo + j * 5, none⟩ = some (.int .i64 x.id) ∧ w'.cell? ⟨yb, yo + j * 5 + 1, none⟩ = some (.int .i64 x.q) ∧ w'.cell? ⟨yb, yo + j * 5 + 2, none⟩ = some (.int .i64 x.u) ∧ w'.cell? ⟨yb, yo + j * 5 + 3, none⟩ = some (.bool x.r) ∧ w'.cell? ⟨yb, yo + j * 5 + 4, none⟩ = some (.slice x.A k x.c)) wzc := ⟨(hBwzc.cell (p := ⟨yb, yo + j * 5, none⟩) (show yb < V5.heap.size by omega)).trans x0, (hBwzc.cell (p := ⟨yb, yo + j * 5 + 1, none⟩) (show yb < V5.heap.size by omega)).trans x1, (hBwzc.cell (p := ⟨yb, yo + j * 5 + 2, none⟩) (show yb < V5.heap.size by omega)).trans x2, (hBwzc.cell (p := ⟨yb, yo + j * 5 + 3, none⟩) (show yb < V5.heap.size by omega)).trans x3, (hBwzc.cell (p := ⟨yb, yo + j * 5 + 4, none⟩) (show yb < V5.heap.size by omega)).trans x4⟩
            rw [← hwzc]
            refine hK.out _ _ hSwzc ?_
            clear hK K hwzc
            try simp only [Act.put, List.setIfInBounds_toArray, List.set_cons_zero, List.set_cons_succ]
            have own5 := own_keep Own5.out bbwzc
            refine held_one 8 rfl (by kernel_rfl) (by rfl) (fun K hK => ?_)
            simp only [Go.wp_at_zero, Go.wp_at_succ]
            refine wp_append_els (C := hoC) (k := 5) _ _ _ 25 rfl V5.heap.size 32 i0 _ 56 Tryd.underlying25 hi hz0 hz1 hz2 rfl (by decide) (.slice A5 M c5) M _ rfl own5 _ (some ⟨wzb.heap.size, 0, none⟩) 1 1 [x] rfl elsB rfl hoC_len hoC_one (by unfold maxLen; omega) (by omega) (by omega) ?_
            intro A7 c7 wz9 own7 g7 k7
            have hob5 : ∀ j, (Value.slice A5 M c5).ownBlock = some j → V5.heap.size ≤ j := fun j hj => (own5.lt j hj).1
            have hBwz9 : Below V5.heap.size V5 wz9 := hBwzc.grown g7 (by omega) (fun j hj => by have := hob5 j hj; omega)
            have hSwz9 : (fun w' : World => w'.cell? ⟨yb, yo + j * 5, none⟩ = some (.int .i64 x.id) ∧ w'.cell? ⟨yb, yo + j * 5 + 1, none⟩ = some (.int .i64 x.q) ∧ w'.cell? ⟨yb, yo + j * 5 + 2, none⟩ = some (.int .i64 x.u) ∧ w'.cell? ⟨yb, yo + j * 5 + 3, none⟩ = some (.bool x.r) ∧ w'.cell? ⟨yb, yo + j * 5 + 4, none⟩ = some (.slice x.A k x.c)) wz9 := ⟨(hBwz9.cell (p := ⟨yb, yo + j * 5, none⟩) (show yb < V5.heap.size by omega)).trans x0, (hBwz9.cell (p := ⟨yb, yo + j * 5 + 1, none⟩) (show yb < V5.heap.size by omega)).trans x1, (hBwz9.cell (p := ⟨yb, yo + j * 5 + 2, none⟩) (show yb < V5.heap.size by omega)).trans x2, (hBwz9.cell (p := ⟨yb, yo + j * 5 + 3, none⟩) (show yb < V5.heap.size by omega)).trans x3, (hBwz9.cell (p := ⟨yb, yo + j * 5 + 4, none⟩) (show yb < V5.heap.size by omega)).trans x4⟩
            refine hK.out _ _ hSwz9 ?_
            clear hK K
            try simp only [Act.put, List.setIfInBounds_toArray, List.set_cons_zero, List.set_cons_succ]
            have Own7 := Lib.hid own7
            clear own7 own5 g7 k7 hob5
            try clear hob
            try clear elsB
            try clear ElsB
            try clear Own5
            try clear OwnE
            try clear ownE
            try clear gwza kwza
            try clear gwzb kwzb
            try clear gwzc kwzc
            refine held_take (v := ?_) 9 3 rfl rfl (by kernel_rfl) (by kernel_rfl) (by kernel_rfl) (fun _ _ _ h => h) ⟨by rfl, ?_⟩ hSwz9 ?_
            rotate_left
            · intro w' hw'; obtain ⟨x0, x1, x2, x3, x4⟩ := hw'; go_simp; (try with_reducible rfl)
            simp only [Act.put, List.setIfInBounds_toArray, List.set_cons_zero, List.set_cons_succ]
            refine wpAnyH_done (by kernel_rfl) ?_ _
            have hlA : Hos wz9 wz9.heap.size A7 (l ++ [x]) := own_hos (by have := Own7.out; rw [← List.flatMap_append] at this; exact this) (by rw [List.length_append, HK.out.2.2.2.2.1]; rfl)
            clear f0 f1 b0 b1 b2 b3 b4 b5
            have hb9 := hBwz9
            clear hSwz9 hBwz9
            clear x0 x1 x2 x3 x4
            have hs9 := hb9.size
            replace HBel := Lib.hid (HBel.out.trans (hb9.mono hlow))
            replace B_f : Hid (wz9.heap[N_f]? = some (.cells #[.int .i64 (G - (Gs : Int)), .int .i64 (C - Cs)] 24 (0, 0))) := Lib.hid ((hb9.block _ l_f).trans B_f.out)
            replace B_b : Hid (wz9.heap[N_b]? = some (.cells #[.int .i64 X.q, .int .i64 X.n, .int .i64 X.S.g, .int .i64 X.S.c, .int .i64 X.S.mn, .int .i64 X.S.mx] 29 (0, 0))) := Lib.hid ((hb9.block _ l_b).trans B_b.out)
            replace B_fe : Hid (wz9.heap[fb]? = some (Or (0, 0))) := Lib.hid ((hb9.block _ l_fe).trans B_fe.out)
            replace B_ee : Hid (wz9.heap[eb]? = some (Oe (0, 0))) := Lib.hid ((hb9.block _ l_ee).trans B_ee.out)
            replace B_u : Hid (wz9.heap[N_u]? = some (.cells #[.int .i64 (Gs : Nat), .int .i64 Cs] 24 (0, 0))) := Lib.hid ((hb9.block _ l_u).trans B_u.out)
            replace l_f : N_f < wz9.heap.size := by omega
            replace l_b : N_b < wz9.heap.size := by omega
            replace l_fe : fb < wz9.heap.size := by omega
            replace l_ee : eb < wz9.heap.size := by omega
            replace l_u : N_u < wz9.heap.size := by omega
            replace hlow : w.heap.size ≤ wz9.heap.size := by omega
            have HlA := Lib.hid hlA
            clear hb9 hs9 hlA HL6 HBX Own7
            have hEa := Lib.hid (show Calls Tryd.prog 14 #[.int .i64 now, .slice A4 n c4, .agg #[.int .i64 (G - (Gs : Int)), .int .i64 (C - Cs)], .slice A7 (M + 1) c7, .agg #[.int .i64 X.q, .int .i64 X.n, .int .i64 X.S.g, .int .i64 X.S.c, .int .i64 X.S.mn, .int .i64 X.S.mx]] wz9 (fun e w' => ∃ T9, e = .returned (.tuple #[.int .i64 T9, .int .i64 0]) ∧ T9 ≤ P ∧ Below wz9.heap.size wz9 w') from by
              have hxy := hxy.out
              have hlen : (l ++ [x]).length = M + 1 := by rw [List.length_append, HK.out.2.2.2.2.1]; rfl
              have hkp : ∀ y ∈ l ++ [x], Kept w y := fun y hy => by
                rcases List.mem_append.1 hy with hy | hy
                · exact HK.out.2.2.2.2.2 y hy
                · rw [List.mem_singleton.1 hy]; exact hkx
              have hsm : ∀ y ∈ l ++ [x], y.sl.length ≤ 1000 := fun y hy => by have := (hkp y hy).2.2; omega
              have h9 := pearliest_any now A4 c4 lv2 (G - (Gs : Int)) (C - Cs) A7 c7 (l ++ [x]) X wz9 (HfF.out wz9 B_fe.out l_fe) HF4.out.2.2 (by rw [HF4.out.2.1]; omega) ⟨HlA.out, fun y hy => (hkp y hy).1.keep HBel.out HBel.out.size⟩ (fun y hy => (hkp y hy).2.1) ⟨by omega, hsm⟩ (by have := sl_len hsm; omega) H.out.2.2.2.2.2.2.2.2.2 (by omega) (by omega) (HT.out.below HBel.out HT.out.size)
              rw [HF4.out.2.1, hlen] at h9
              refine h9.mono ?_
              rintro e w' ⟨T9, E9, rfl, hEl, hb⟩
              have h8 := HY.out.2
              rw [← hxy.1, ← hxy.2.1] at h8
              obtain ⟨rfl, rfl⟩ := hEl.same h8
              exact ⟨T9, rfl, hTP, hb⟩)
            have f0 : wz9.cell? ⟨N_f, 0, none⟩ = some (.int .i64 (G - (Gs : Int))) := cell_blk (i := 0) B_f.out rfl
            have f1 : wz9.cell? ⟨N_f, 1, none⟩ = some (.int .i64 (C - Cs)) := cell_blk (i := 1) B_f.out rfl
            have b0 : wz9.cell? ⟨N_b, 0, none⟩ = some (.int .i64 X.q) := cell_blk (i := 0) B_b.out rfl
            have b1 : wz9.cell? ⟨N_b, 1, none⟩ = some (.int .i64 X.n) := cell_blk (i := 1) B_b.out rfl
            have b2 : wz9.cell? ⟨N_b, 2, none⟩ = some (.int .i64 X.S.g) := cell_blk (i := 2) B_b.out rfl
            have b3 : wz9.cell? ⟨N_b, 3, none⟩ = some (.int .i64 X.S.c) := cell_blk (i := 3) B_b.out rfl
            have b4 : wz9.cell? ⟨N_b, 4, none⟩ = some (.int .i64 X.S.mn) := cell_blk (i := 4) B_b.out rfl
            have b5 : wz9.cell? ⟨N_b, 5, none⟩ = some (.int .i64 X.S.mx) := cell_blk (i := 5) B_b.out rfl
            go_wp2_with fail
            refine (hEa.out).mono ?_
            rintro e U6 ⟨T9, rfl, hT9, hb9⟩
            clear f0 f1 b0 b1 b2 b3 b4 b5
            have hs9 := hb9.size
            have HKe := Lib.hid (HlA.out.keep hb9 hb9.size)
            have t8 : decide (T9 > P) = false := decide_eq_false (by omega)
            have t9 : decide (P < T9) = false := decide_eq_false (by omega)
            replace HBel := Lib.hid (HBel.out.trans (hb9.mono hlow))
            replace B_f : Hid (U6.heap[N_f]? = some (.cells #[.int .i64 (G - (Gs : Int)), .int .i64 (C - Cs)] 24 (0, 0))) := Lib.hid ((hb9.block _ l_f).trans B_f.out)
            replace B_b : Hid (U6.heap[N_b]? = some (.cells #[.int .i64 X.q, .int .i64 X.n, .int .i64 X.S.g, .int .i64 X.S.c, .int .i64 X.S.mn, .int .i64 X.S.mx] 29 (0, 0))) := Lib.hid ((hb9.block _ l_b).trans B_b.out)
            replace B_fe : Hid (U6.heap[fb]? = some (Or (0, 0))) := Lib.hid ((hb9.block _ l_fe).trans B_fe.out)
            replace B_ee : Hid (U6.heap[eb]? = some (Oe (0, 0))) := Lib.hid ((hb9.block _ l_ee).trans B_ee.out)
            replace B_u : Hid (U6.heap[N_u]? = some (.cells #[.int .i64 (Gs : Nat), .int .i64 Cs] 24 (0, 0))) := Lib.hid ((hb9.block _ l_u).trans B_u.out)
            replace l_f : N_f < U6.heap.size := by omega
            replace l_b : N_b < U6.heap.size := by omega
            replace l_fe : fb < U6.heap.size := by omega
            replace l_ee : eb < U6.heap.size := by omega
            replace l_u : N_u < U6.heap.size := by omega
            replace hlow : w.heap.size ≤ U6.heap.size := by omega
            clear hb9 hs9
            have hf9 := Lib.hid (HfF.out U6 B_fe.out l_fe)
            have hxy2 := hxy.out.2.2
            go_wp2
            go_roundw
            case rel =>
              refine ⟨j + 1, A4, c4, lv2, A7, c7, M + 1, l ++ [x], G - (Gs : Int), C - Cs, by go_num, by omega, rfl, rfl, by omega, by omega, HBel, B_f, B_b, Lib.hid ⟨hf9.out, HF4.out.2.2, HF4.out.2.1, HKe.out, by rw [List.length_append, HK.out.2.2.2.2.1]; rfl, fun y hy => ?_⟩⟩
              rcases List.mem_append.1 hy with hy | hy
              · exact HK.out.2.2.2.2.2 y hy
              · rw [List.mem_singleton.1 hy]; exact hkx
            case measure => simp [intOf]; omega
        
          · have OwnE := Lib.hid ownE
            clear ownE
            go_simp
            obtain ⟨wzb, hwzb⟩ : ∃ wld9, wld9 = wza.alloc (.cells #[.int .i64 x.id, .int .i64 x.q, .int .i64 x.u, .bool x.r, .slice x.A k x.c] 32) := ⟨_, rfl⟩
            have hBwzb : Below V5.heap.size V5 wzb := by rw [hwzb]; exact hBwza.alloc hBwza.size _
            have szwzb := hBwzb.size
            have stwzb : wza.heap.size < wzb.heap.size := by rw [hwzb]; simp
            have bbwzb : Below wza.heap.size wza wzb := by rw [hwzb]; exact (Below.refl _ _).alloc (Nat.le_refl _) _
            have elsB : Els hoC 5 wzb wzb.heap.size (some ⟨wza.heap.size, 0, none⟩) [x] := HBX.out wzb wza.heap.size (by rw [hwzb]; exact heap_alloc_new _ _)
            have hSwzb : (fun w' : World => w'.cell? ⟨yb, yo + j * 5, none⟩ = some (.int .i64 x.id) ∧ w'.cell? ⟨yb, yo + j * 5 + 1, none⟩ = some (.int .i64 x.q) ∧ w'.cell? ⟨yb, yo + j * 5 + 2, none⟩ = some (.int .i64 x.u) ∧ w'.cell? ⟨yb, yo + j * 5 + 3, none⟩ = some (.bool x.r) ∧ w'.cell? ⟨yb, yo + j * 5 + 4, none⟩ = some (.slice x.A k x.c)) wzb := ⟨(hBwzb.cell (p := ⟨yb, yo + j * 5, none⟩) (show yb < V5.heap.size by omega)).trans x0, (hBwzb.cell (p := ⟨yb, yo + j * 5 + 1, none⟩) (show yb < V5.heap.size by omega)).trans x1, (hBwzb.cell (p := ⟨yb, yo + j * 5 + 2, none⟩) (show yb < V5.heap.size by omega)).trans x2, (hBwzb.cell (p := ⟨yb, yo + j * 5 + 3, none⟩) (show yb < V5.heap.size by omega)).trans x3, (hBwzb.cell (p := ⟨yb, yo + j * 5 + 4, none⟩) (show yb < V5.heap.size by omega)).trans x4⟩
            rw [← hwzb]
            refine hK.out _ _ hSwzb ?_
            clear hK K hwzb
            try simp only [Act.put, List.setIfInBounds_toArray, List.set_cons_zero, List.set_cons_succ]
            have ownE := own_keep OwnE.out bbwzb
            refine held_one 2 rfl (by kernel_rfl) (by rfl) (fun K hK => ?_)
            simp only [Go.wp_at_zero, Go.wp_at_succ]
            refine wp_append_els (C := hoC) (k := 5) _ _ _ 25 rfl V5.heap.size 32 i0 _ 56 Tryd.underlying25 hi hz0 hz1 hz2 rfl (by decide) (.slice (some ⟨wz0.heap.size, 0, none⟩) 0 0) 0 [] rfl ownE V5.heap.size A3 C3 M l rfl (Els.keep HL6.out (hBwzb) (Nat.le_refl _)) HK.out.2.2.2.2.1.symm hoC_len hoC_one (by unfold maxLen; omega) (by omega) (by omega) ?_
            intro A5 c5 wzc own5 gwzc kwzc
            rw [Nat.zero_add] at own5 ⊢
            rw [List.nil_append] at own5
            have hob : ∀ j, (Value.slice (some ⟨wz0.heap.size, 0, none⟩) 0 0).ownBlock = some j → j = wz0.heap.size := fun j hj => by simpa [Value.ownBlock] using hj.symm
            have hBwzc : Below V5.heap.size V5 wzc := hBwzb.grown gwzc (by omega) (fun j hj => by have := hob j hj; omega)
            have szwzc := hBwzc.size
            have stwzc := gwzc.size
            have hSwzc : (fun w' : World => w'.cell? ⟨yb, yo + j * 5, none⟩ = some (.int .i64 x.id) ∧ w'.cell? ⟨yb, yo + j * 5 + 1, none⟩ = some (.int .i64 x.q) ∧ w'.cell? ⟨yb, yo + j * 5 + 2, none⟩ = some (.int .i64 x.u) ∧ w'.cell? ⟨yb, yo + j * 5 + 3, none⟩ = some (.bool x.r) ∧ w'.cell? ⟨yb, yo + j * 5 + 4, none⟩ = some (.slice x.A k x.c)) wzc := ⟨(hBwzc.cell (p := ⟨yb, yo + j * 5, none⟩) (show yb < V5.heap.size by omega)).trans x0, (hBwzc.cell (p := ⟨yb, yo + j * 5 + 1, none⟩) (show yb < V5.heap.size by omega)).trans x1, (hBwzc.cell (p := ⟨yb, yo + j * 5 + 2, none⟩) (show yb < V5.heap.size by omega)).trans x2, (hBwzc.cell (p := ⟨yb, yo + j * 5 + 3, none⟩) (show yb < V5.heap.size by omega)).trans x3, (hBwzc.cell (p := ⟨yb, yo + j * 5 + 4, none⟩) (show yb < V5.heap.size by omega)).trans x4⟩
            have elsB : Els hoC 5 wzc wzc.heap.size (some ⟨wza.heap.size, 0, none⟩) [x] := (elsB.off (w' := wzc) fun b2 o2 e2 hb2 => gwzc.block b2 hb2 (fun e => by have := hob b2 e.symm; injection e2 with e2; injection e2 with e2; omega)).imp stwzc fun _ _ _ _ hd => hd
            refine hK.out _ _ hSwzc ?_
            clear hK K
            try simp only [Act.put, List.setIfInBounds_toArray, List.set_cons_zero, List.set_cons_succ]
            refine held_one 8 rfl (by kernel_rfl) (by rfl) (fun K hK => ?_)
            simp only [Go.wp_at_zero, Go.wp_at_succ]
            refine wp_append_els (C := hoC) (k := 5) _ _ _ 25 rfl V5.heap.size 32 i0 _ 56 Tryd.underlying25 hi hz0 hz1 hz2 rfl (by decide) (.slice A5 M c5) M _ rfl own5 _ (some ⟨wza.heap.size, 0, none⟩) 1 1 [x] rfl elsB rfl hoC_len hoC_one (by unfold maxLen; omega) (by omega) (by omega) ?_
            intro A7 c7 wz9 own7 g7 k7
            have hob5 : ∀ j, (Value.slice A5 M c5).ownBlock = some j → V5.heap.size ≤ j := fun j hj => (own5.lt j hj).1
            have hBwz9 : Below V5.heap.size V5 wz9 := hBwzc.grown g7 (by omega) (fun j hj => by have := hob5 j hj; omega)
            have hSwz9 : (fun w' : World => w'.cell? ⟨yb, yo + j * 5, none⟩ = some (.int .i64 x.id) ∧ w'.cell? ⟨yb, yo + j * 5 + 1, none⟩ = some (.int .i64 x.q) ∧ w'.cell? ⟨yb, yo + j * 5 + 2, none⟩ = some (.int .i64 x.u) ∧ w'.cell? ⟨yb, yo + j * 5 + 3, none⟩ = some (.bool x.r) ∧ w'.cell? ⟨yb, yo + j * 5 + 4, none⟩ = some (.slice x.A k x.c)) wz9 := ⟨(hBwz9.cell (p := ⟨yb, yo + j * 5, none⟩) (show yb < V5.heap.size by omega)).trans x0, (hBwz9.cell (p := ⟨yb, yo + j * 5 + 1, none⟩) (show yb < V5.heap.size by omega)).trans x1, (hBwz9.cell (p := ⟨yb, yo + j * 5 + 2, none⟩) (show yb < V5.heap.size by omega)).trans x2, (hBwz9.cell (p := ⟨yb, yo + j * 5 + 3, none⟩) (show yb < V5.heap.size by omega)).trans x3, (hBwz9.cell (p := ⟨yb, yo + j * 5 + 4, none⟩) (show yb < V5.heap.size by omega)).trans x4⟩
            refine hK.out _ _ hSwz9 ?_
            clear hK K
            try simp only [Act.put, List.setIfInBounds_toArray, List.set_cons_zero, List.set_cons_succ]
            have Own7 := Lib.hid own7
            clear own7 own5 g7 k7 hob5
            try clear hob
            try clear elsB
            try clear ElsB
            try clear Own5
            try clear OwnE
            try clear ownE
            try clear gwza kwza
            try clear gwzb kwzb
            try clear gwzc kwzc
            refine held_take (v := ?_) 9 3 rfl rfl (by kernel_rfl) (by kernel_rfl) (by kernel_rfl) (fun _ _ _ h => h) ⟨by rfl, ?_⟩ hSwz9 ?_
            rotate_left
            · intro w' hw'; obtain ⟨x0, x1, x2, x3, x4⟩ := hw'; go_simp; (try with_reducible rfl)
            simp only [Act.put, List.setIfInBounds_toArray, List.set_cons_zero, List.set_cons_succ]
            refine wpAnyH_done (by kernel_rfl) ?_ _
            have hlA : Hos wz9 wz9.heap.size A7 (l ++ [x]) := own_hos (by have := Own7.out; rw [← List.flatMap_append] at this; exact this) (by rw [List.length_append, HK.out.2.2.2.2.1]; rfl)
            clear f0 f1 b0 b1 b2 b3 b4 b5
            have hb9 := hBwz9
            clear hSwz9 hBwz9
            clear x0 x1 x2 x3 x4
            have hs9 := hb9.size
            replace HBel := Lib.hid (HBel.out.trans (hb9.mono hlow))
            replace B_f : Hid (wz9.heap[N_f]? = some (.cells #[.int .i64 (G - (Gs : Int)), .int .i64 (C - Cs)] 24 (0, 0))) := Lib.hid ((hb9.block _ l_f).trans B_f.out)
            replace B_b : Hid (wz9.heap[N_b]? = some (.cells #[.int .i64 X.q, .int .i64 X.n, .int .i64 X.S.g, .int .i64 X.S.c, .int .i64 X.S.mn, .int .i64 X.S.mx] 29 (0, 0))) := Lib.hid ((hb9.block _ l_b).trans B_b.out)
            replace B_fe : Hid (wz9.heap[fb]? = some (Or (0, 0))) := Lib.hid ((hb9.block _ l_fe).trans B_fe.out)
            replace B_ee : Hid (wz9.heap[eb]? = some (Oe (0, 0))) := Lib.hid ((hb9.block _ l_ee).trans B_ee.out)
            replace B_u : Hid (wz9.heap[N_u]? = some (.cells #[.int .i64 (Gs : Nat), .int .i64 Cs] 24 (0, 0))) := Lib.hid ((hb9.block _ l_u).trans B_u.out)
            replace l_f : N_f < wz9.heap.size := by omega
            replace l_b : N_b < wz9.heap.size := by omega
            replace l_fe : fb < wz9.heap.size := by omega
            replace l_ee : eb < wz9.heap.size := by omega
            replace l_u : N_u < wz9.heap.size := by omega
            replace hlow : w.heap.size ≤ wz9.heap.size := by omega
            have HlA := Lib.hid hlA
            clear hb9 hs9 hlA HL6 HBX Own7
            have hEa := Lib.hid (show Calls Tryd.prog 14 #[.int .i64 now, .slice A4 n c4, .agg #[.int .i64 (G - (Gs : Int)), .int .i64 (C - Cs)], .slice A7 (M + 1) c7, .agg #[.int .i64 X.q, .int .i64 X.n, .int .i64 X.S.g, .int .i64 X.S.c, .int .i64 X.S.mn, .int .i64 X.S.mx]] wz9 (fun e w' => ∃ T9, e = .returned (.tuple #[.int .i64 T9, .int .i64 0]) ∧ T9 ≤ P ∧ Below wz9.heap.size wz9 w') from by
              have hxy := hxy.out
              have hlen : (l ++ [x]).length = M + 1 := by rw [List.length_append, HK.out.2.2.2.2.1]; rfl
              have hkp : ∀ y ∈ l ++ [x], Kept w y := fun y hy => by
                rcases List.mem_append.1 hy with hy | hy
                · exact HK.out.2.2.2.2.2 y hy
                · rw [List.mem_singleton.1 hy]; exact hkx
              have hsm : ∀ y ∈ l ++ [x], y.sl.length ≤ 1000 := fun y hy => by have := (hkp y hy).2.2; omega
              have h9 := pearliest_any now A4 c4 lv2 (G - (Gs : Int)) (C - Cs) A7 c7 (l ++ [x]) X wz9 (HfF.out wz9 B_fe.out l_fe) HF4.out.2.2 (by rw [HF4.out.2.1]; omega) ⟨HlA.out, fun y hy => (hkp y hy).1.keep HBel.out HBel.out.size⟩ (fun y hy => (hkp y hy).2.1) ⟨by omega, hsm⟩ (by have := sl_len hsm; omega) H.out.2.2.2.2.2.2.2.2.2 (by omega) (by omega) (HT.out.below HBel.out HT.out.size)
              rw [HF4.out.2.1, hlen] at h9
              refine h9.mono ?_
              rintro e w' ⟨T9, E9, rfl, hEl, hb⟩
              have h8 := HY.out.2
              rw [← hxy.1, ← hxy.2.1] at h8
              obtain ⟨rfl, rfl⟩ := hEl.same h8
              exact ⟨T9, rfl, hTP, hb⟩)
            have f0 : wz9.cell? ⟨N_f, 0, none⟩ = some (.int .i64 (G - (Gs : Int))) := cell_blk (i := 0) B_f.out rfl
            have f1 : wz9.cell? ⟨N_f, 1, none⟩ = some (.int .i64 (C - Cs)) := cell_blk (i := 1) B_f.out rfl
            have b0 : wz9.cell? ⟨N_b, 0, none⟩ = some (.int .i64 X.q) := cell_blk (i := 0) B_b.out rfl
            have b1 : wz9.cell? ⟨N_b, 1, none⟩ = some (.int .i64 X.n) := cell_blk (i := 1) B_b.out rfl
            have b2 : wz9.cell? ⟨N_b, 2, none⟩ = some (.int .i64 X.S.g) := cell_blk (i := 2) B_b.out rfl
            have b3 : wz9.cell? ⟨N_b, 3, none⟩ = some (.int .i64 X.S.c) := cell_blk (i := 3) B_b.out rfl
            have b4 : wz9.cell? ⟨N_b, 4, none⟩ = some (.int .i64 X.S.mn) := cell_blk (i := 4) B_b.out rfl
            have b5 : wz9.cell? ⟨N_b, 5, none⟩ = some (.int .i64 X.S.mx) := cell_blk (i := 5) B_b.out rfl
            go_wp2_with fail
            refine (hEa.out).mono ?_
            rintro e U6 ⟨T9, rfl, hT9, hb9⟩
            clear f0 f1 b0 b1 b2 b3 b4 b5
            have hs9 := hb9.size
            have HKe := Lib.hid (HlA.out.keep hb9 hb9.size)
            have t8 : decide (T9 > P) = false := decide_eq_false (by omega)
            have t9 : decide (P < T9) = false := decide_eq_false (by omega)
            replace HBel := Lib.hid (HBel.out.trans (hb9.mono hlow))
            replace B_f : Hid (U6.heap[N_f]? = some (.cells #[.int .i64 (G - (Gs : Int)), .int .i64 (C - Cs)] 24 (0, 0))) := Lib.hid ((hb9.block _ l_f).trans B_f.out)
            replace B_b : Hid (U6.heap[N_b]? = some (.cells #[.int .i64 X.q, .int .i64 X.n, .int .i64 X.S.g, .int .i64 X.S.c, .int .i64 X.S.mn, .int .i64 X.S.mx] 29 (0, 0))) := Lib.hid ((hb9.block _ l_b).trans B_b.out)
            replace B_fe : Hid (U6.heap[fb]? = some (Or (0, 0))) := Lib.hid ((hb9.block _ l_fe).trans B_fe.out)
            replace B_ee : Hid (U6.heap[eb]? = some (Oe (0, 0))) := Lib.hid ((hb9.block _ l_ee).trans B_ee.out)
            replace B_u : Hid (U6.heap[N_u]? = some (.cells #[.int .i64 (Gs : Nat), .int .i64 Cs] 24 (0, 0))) := Lib.hid ((hb9.block _ l_u).trans B_u.out)
            replace l_f : N_f < U6.heap.size := by omega
            replace l_b : N_b < U6.heap.size := by omega
            replace l_fe : fb < U6.heap.size := by omega
            replace l_ee : eb < U6.heap.size := by omega
            replace l_u : N_u < U6.heap.size := by omega
            replace hlow : w.heap.size ≤ U6.heap.size := by omega
            clear hb9 hs9
            have hf9 := Lib.hid (HfF.out U6 B_fe.out l_fe)
            have hxy2 := hxy.out.2.2
            go_wp2
            go_roundw
            case rel =>
              refine ⟨j + 1, A4, c4, lv2, A7, c7, M + 1, l ++ [x], G - (Gs : Int), C - Cs, by go_num, by omega, rfl, rfl, by omega, by omega, HBel, B_f, B_b, Lib.hid ⟨hf9.out, HF4.out.2.2, HF4.out.2.1, HKe.out, by rw [List.length_append, HK.out.2.2.2.2.1]; rfl, fun y hy => ?_⟩⟩
              rcases List.mem_append.1 hy with hy | hy
              · exact HK.out.2.2.2.2.2 y hy
              · rw [List.mem_singleton.1 hy]; exact hkx
            case measure => simp [intOf]; omega
        
        
        · go_simp
          obtain ⟨wza, hwza⟩ : ∃ wld9, wld9 = wz0.alloc (.cells #[.int .i64 x.id, .int .i64 x.q, .int .i64 x.u, .bool x.r, .slice x.A k x.c] 32) := ⟨_, rfl⟩
          have hBwza : Below V5.heap.size V5 wza := by rw [hwza]; exact hBz0.alloc hBz0.size _
          have szwza := hBwza.size
          have stwza : wz0.heap.size < wza.heap.size := by rw [hwza]; simp
          have bbwza : Below wz0.heap.size wz0 wza := by rw [hwza]; exact (Below.refl _ _).alloc (Nat.le_refl _) _
          have elsB : Els hoC 5 wza wza.heap.size (some ⟨wz0.heap.size, 0, none⟩) [x] := HBX.out wza wz0.heap.size (by rw [hwza]; exact heap_alloc_new _ _)
          have hSwza : (fun w' : World => w'.cell? ⟨yb, yo + j * 5, none⟩ = some (.int .i64 x.id) ∧ w'.cell? ⟨yb, yo + j * 5 + 1, none⟩ = some (.int .i64 x.q) ∧ w'.cell? ⟨yb, yo + j * 5 + 2, none⟩ = some (.int .i64 x.u) ∧ w'.cell? ⟨yb, yo + j * 5 + 3, none⟩ = some (.bool x.r) ∧ w'.cell? ⟨yb, yo + j * 5 + 4, none⟩ = some (.slice x.A k x.c)) wza := ⟨(hBwza.cell (p := ⟨yb, yo + j * 5, none⟩) (show yb < V5.heap.size by omega)).trans x0, (hBwza.cell (p := ⟨yb, yo + j * 5 + 1, none⟩) (show yb < V5.heap.size by omega)).trans x1, (hBwza.cell (p := ⟨yb, yo + j * 5 + 2, none⟩) (show yb < V5.heap.size by omega)).trans x2, (hBwza.cell (p := ⟨yb, yo + j * 5 + 3, none⟩) (show yb < V5.heap.size by omega)).trans x3, (hBwza.cell (p := ⟨yb, yo + j * 5 + 4, none⟩) (show yb < V5.heap.size by omega)).trans x4⟩
          rw [← hwza]
          refine hK.out _ _ hSwza ?_
          clear hK K hwza
          try simp only [Act.put, List.setIfInBounds_toArray, List.set_cons_zero, List.set_cons_succ]
          have ElsB := Lib.hid elsB
          clear elsB
          refine held_one 0 rfl (by kernel_rfl) (by rfl) (fun K hK => ?_)
          go_simp
          obtain ⟨wzb, hwzb⟩ : ∃ wld9, wld9 = wza.alloc (.cells #[] 32) := ⟨_, rfl⟩
          have hBwzb : Below V5.heap.size V5 wzb := by rw [hwzb]; exact hBwza.alloc hBwza.size _
          have szwzb := hBwzb.size
          have stwzb : wza.heap.size < wzb.heap.size := by rw [hwzb]; simp
          have bbwzb : Below wza.heap.size wza wzb := by rw [hwzb]; exact (Below.refl _ _).alloc (Nat.le_refl _) _
          have ownE : wzb.ownsRow V5.heap.size 32 5 (.slice (some ⟨wza.heap.size, 0, none⟩) 0 0) 0 [] := by rw [hwzb]; exact World.ownsRow_lit wza #[] 0 (by have := hBwza.size; omega) (by unfold maxLen; omega) rfl
          have hSwzb : (fun w' : World => w'.cell? ⟨yb, yo + j * 5, none⟩ = some (.int .i64 x.id) ∧ w'.cell? ⟨yb, yo + j * 5 + 1, none⟩ = some (.int .i64 x.q) ∧ w'.cell? ⟨yb, yo + j * 5 + 2, none⟩ = some (.int .i64 x.u) ∧ w'.cell? ⟨yb, yo + j * 5 + 3, none⟩ = some (.bool x.r) ∧ w'.cell? ⟨yb, yo + j * 5 + 4, none⟩ = some (.slice x.A k x.c)) wzb := ⟨(hBwzb.cell (p := ⟨yb, yo + j * 5, none⟩) (show yb < V5.heap.size by omega)).trans x0, (hBwzb.cell (p := ⟨yb, yo + j * 5 + 1, none⟩) (show yb < V5.heap.size by omega)).trans x1, (hBwzb.cell (p := ⟨yb, yo + j * 5 + 2, none⟩) (show yb < V5.heap.size by omega)).trans x2, (hBwzb.cell (p := ⟨yb, yo + j * 5 + 3, none⟩) (show yb < V5.heap.size by omega)).trans x3, (hBwzb.cell (p := ⟨yb, yo + j * 5 + 4, none⟩) (show yb < V5.heap.size by omega)).trans x4⟩
          rw [← hwzb]
          refine hK.out _ _ hSwzb ?_
          clear hK K hwzb
          try simp only [Act.put, List.setIfInBounds_toArray, List.set_cons_zero, List.set_cons_succ]
          have elsB : Els hoC 5 wzb wzb.heap.size (some ⟨wz0.heap.size, 0, none⟩) [x] := ElsB.out.keep bbwzb (by omega)
          refine held_one 2 rfl (by kernel_rfl) (by rfl) (fun K hK => ?_)
          simp only [Go.wp_at_zero, Go.wp_at_succ]
          refine wp_append_els (C := hoC) (k := 5) _ _ _ 25 rfl V5.heap.size 32 i0 _ 56 Tryd.underlying25 hi hz0 hz1 hz2 rfl (by decide) (.slice (some ⟨wza.heap.size, 0, none⟩) 0 0) 0 [] rfl ownE V5.heap.size A3 C3 M l rfl (Els.keep HL6.out (hBwzb) (Nat.le_refl _)) HK.out.2.2.2.2.1.symm hoC_len hoC_one (by unfold maxLen; omega) (by omega) (by omega) ?_
          intro A5 c5 wzc own5 gwzc kwzc
          rw [Nat.zero_add] at own5 ⊢
          rw [List.nil_append] at own5
          have hob : ∀ j, (Value.slice (some ⟨wza.heap.size, 0, none⟩) 0 0).ownBlock = some j → j = wza.heap.size := fun j hj => by simpa [Value.ownBlock] using hj.symm
          have hBwzc : Below V5.heap.size V5 wzc := hBwzb.grown gwzc (by omega) (fun j hj => by have := hob j hj; omega)
          have szwzc := hBwzc.size
          have stwzc := gwzc.size
          have hSwzc : (fun w' : World => w'.cell? ⟨yb, yo + j * 5, none⟩ = some (.int .i64 x.id) ∧ w'.cell? ⟨yb, yo + j * 5 + 1, none⟩ = some (.int .i64 x.q) ∧ w'.cell? ⟨yb, yo + j * 5 + 2, none⟩ = some (.int .i64 x.u) ∧ w'.cell? ⟨yb, yo + j * 5 + 3, none⟩ = some (.bool x.r) ∧ w'.cell? ⟨yb, yo + j * 5 + 4, none⟩ = some (.slice x.A k x.c)) wzc := ⟨(hBwzc.cell (p := ⟨yb, yo + j * 5, none⟩) (show yb < V5.heap.size by omega)).trans x0, (hBwzc.cell (p := ⟨yb, yo + j * 5 + 1, none⟩) (show yb < V5.heap.size by omega)).trans x1, (hBwzc.cell (p := ⟨yb, yo + j * 5 + 2, none⟩) (show yb < V5.heap.size by omega)).trans x2, (hBwzc.cell (p := ⟨yb, yo + j * 5 + 3, none⟩) (show yb < V5.heap.size by omega)).trans x3, (hBwzc.cell (p := ⟨yb, yo + j * 5 + 4, none⟩) (show yb < V5.heap.size by omega)).trans x4⟩
          have elsB : Els hoC 5 wzc wzc.heap.size (some ⟨wz0.heap.size, 0, none⟩) [x] := (elsB.off (w' := wzc) fun b2 o2 e2 hb2 => gwzc.block b2 hb2 (fun e => by have := hob b2 e.symm; injection e2 with e2; injection e2 with e2; omega)).imp stwzc fun _ _ _ _ hd => hd
          refine hK.out _ _ hSwzc ?_
          clear hK K
          try simp only [Act.put, List.setIfInBounds_toArray, List.set_cons_zero, List.set_cons_succ]
          refine held_one 8 rfl (by kernel_rfl) (by rfl) (fun K hK => ?_)
          simp only [Go.wp_at_zero, Go.wp_at_succ]
          refine wp_append_els (C := hoC) (k := 5) _ _ _ 25 rfl V5.heap.size 32 i0 _ 56 Tryd.underlying25 hi hz0 hz1 hz2 rfl (by decide) (.slice A5 M c5) M _ rfl own5 _ (some ⟨wz0.heap.size, 0, none⟩) 1 1 [x] rfl elsB rfl hoC_len hoC_one (by unfold maxLen; omega) (by omega) (by omega) ?_
          intro A7 c7 wz9 own7 g7 k7
          have hob5 : ∀ j, (Value.slice A5 M c5).ownBlock = some j → V5.heap.size ≤ j := fun j hj => (own5.lt j hj).1
          have hBwz9 : Below V5.heap.size V5 wz9 := hBwzc.grown g7 (by omega) (fun j hj => by have := hob5 j hj; omega)
          have hSwz9 : (fun w' : World => w'.cell? ⟨yb, yo + j * 5, none⟩ = some (.int .i64 x.id) ∧ w'.cell? ⟨yb, yo + j * 5 + 1, none⟩ = some (.int .i64 x.q) ∧ w'.cell? ⟨yb, yo + j * 5 + 2, none⟩ = some (.int .i64 x.u) ∧ w'.cell? ⟨yb, yo + j * 5 + 3, none⟩ = some (.bool x.r) ∧ w'.cell? ⟨yb, yo + j * 5 + 4, none⟩ = some (.slice x.A k x.c)) wz9 := ⟨(hBwz9.cell (p := ⟨yb, yo + j * 5, none⟩) (show yb < V5.heap.size by omega)).trans x0, (hBwz9.cell (p := ⟨yb, yo + j * 5 + 1, none⟩) (show yb < V5.heap.size by omega)).trans x1, (hBwz9.cell (p := ⟨yb, yo + j * 5 + 2, none⟩) (show yb < V5.heap.size by omega)).trans x2, (hBwz9.cell (p := ⟨yb, yo + j * 5 + 3, none⟩) (show yb < V5.heap.size by omega)).trans x3, (hBwz9.cell (p := ⟨yb, yo + j * 5 + 4, none⟩) (show yb < V5.heap.size by omega)).trans x4⟩
          refine hK.out _ _ hSwz9 ?_
          clear hK K
          try simp only [Act.put, List.setIfInBounds_toArray, List.set_cons_zero, List.set_cons_succ]
          have Own7 := Lib.hid own7
          clear own7 own5 g7 k7 hob5
          try clear hob
          try clear elsB
          try clear ElsB
          try clear Own5
          try clear OwnE
          try clear ownE
          try clear gwza kwza
          try clear gwzb kwzb
          try clear gwzc kwzc
          refine held_take (v := ?_) 9 3 rfl rfl (by kernel_rfl) (by kernel_rfl) (by kernel_rfl) (fun _ _ _ h => h) ⟨by rfl, ?_⟩ hSwz9 ?_
          rotate_left
          · intro w' hw'; obtain ⟨x0, x1, x2, x3, x4⟩ := hw'; go_simp; (try with_reducible rfl)
          simp only [Act.put, List.setIfInBounds_toArray, List.set_cons_zero, List.set_cons_succ]
          refine wpAnyH_done (by kernel_rfl) ?_ _
          have hlA : Hos wz9 wz9.heap.size A7 (l ++ [x]) := own_hos (by have := Own7.out; rw [← List.flatMap_append] at this; exact this) (by rw [List.length_append, HK.out.2.2.2.2.1]; rfl)
          clear f0 f1 b0 b1 b2 b3 b4 b5
          have hb9 := hBwz9
          clear hSwz9 hBwz9
          clear x0 x1 x2 x3 x4
          have hs9 := hb9.size
          replace HBel := Lib.hid (HBel.out.trans (hb9.mono hlow))
          replace B_f : Hid (wz9.heap[N_f]? = some (.cells #[.int .i64 (G - (Gs : Int)), .int .i64 (C - Cs)] 24 (0, 0))) := Lib.hid ((hb9.block _ l_f).trans B_f.out)
          replace B_b : Hid (wz9.heap[N_b]? = some (.cells #[.int .i64 X.q, .int .i64 X.n, .int .i64 X.S.g, .int .i64 X.S.c, .int .i64 X.S.mn, .int .i64 X.S.mx] 29 (0, 0))) := Lib.hid ((hb9.block _ l_b).trans B_b.out)
          replace B_fe : Hid (wz9.heap[fb]? = some (Or (0, 0))) := Lib.hid ((hb9.block _ l_fe).trans B_fe.out)
          replace B_ee : Hid (wz9.heap[eb]? = some (Oe (0, 0))) := Lib.hid ((hb9.block _ l_ee).trans B_ee.out)
          replace B_u : Hid (wz9.heap[N_u]? = some (.cells #[.int .i64 (Gs : Nat), .int .i64 Cs] 24 (0, 0))) := Lib.hid ((hb9.block _ l_u).trans B_u.out)
          replace l_f : N_f < wz9.heap.size := by omega
          replace l_b : N_b < wz9.heap.size := by omega
          replace l_fe : fb < wz9.heap.size := by omega
          replace l_ee : eb < wz9.heap.size := by omega
          replace l_u : N_u < wz9.heap.size := by omega
          replace hlow : w.heap.size ≤ wz9.heap.size := by omega
          have HlA := Lib.hid hlA
          clear hb9 hs9 hlA HL6 HBX Own7
          have hEa := Lib.hid (show Calls Tryd.prog 14 #[.int .i64 now, .slice A4 n c4, .agg #[.int .i64 (G - (Gs : Int)), .int .i64 (C - Cs)], .slice A7 (M + 1) c7, .agg #[.int .i64 X.q, .int .i64 X.n, .int .i64 X.S.g, .int .i64 X.S.c, .int .i64 X.S.mn, .int .i64 X.S.mx]] wz9 (fun e w' => ∃ T9, e = .returned (.tuple #[.int .i64 T9, .int .i64 0]) ∧ T9 ≤ P ∧ Below wz9.heap.size wz9 w') from by
            have hxy := hxy.out
            have hlen : (l ++ [x]).length = M + 1 := by rw [List.length_append, HK.out.2.2.2.2.1]; rfl
            have hkp : ∀ y ∈ l ++ [x], Kept w y := fun y hy => by
              rcases List.mem_append.1 hy with hy | hy
              · exact HK.out.2.2.2.2.2 y hy
              · rw [List.mem_singleton.1 hy]; exact hkx
            have hsm : ∀ y ∈ l ++ [x], y.sl.length ≤ 1000 := fun y hy => by have := (hkp y hy).2.2; omega
            have h9 := pearliest_any now A4 c4 lv2 (G - (Gs : Int)) (C - Cs) A7 c7 (l ++ [x]) X wz9 (HfF.out wz9 B_fe.out l_fe) HF4.out.2.2 (by rw [HF4.out.2.1]; omega) ⟨HlA.out, fun y hy => (hkp y hy).1.keep HBel.out HBel.out.size⟩ (fun y hy => (hkp y hy).2.1) ⟨by omega, hsm⟩ (by have := sl_len hsm; omega) H.out.2.2.2.2.2.2.2.2.2 (by omega) (by omega) (HT.out.below HBel.out HT.out.size)
            rw [HF4.out.2.1, hlen] at h9
            refine h9.mono ?_
            rintro e w' ⟨T9, E9, rfl, hEl, hb⟩
            have h8 := HY.out.2
            rw [← hxy.1, ← hxy.2.1] at h8
            obtain ⟨rfl, rfl⟩ := hEl.same h8
            exact ⟨T9, rfl, hTP, hb⟩)
          have f0 : wz9.cell? ⟨N_f, 0, none⟩ = some (.int .i64 (G - (Gs : Int))) := cell_blk (i := 0) B_f.out rfl
          have f1 : wz9.cell? ⟨N_f, 1, none⟩ = some (.int .i64 (C - Cs)) := cell_blk (i := 1) B_f.out rfl
          have b0 : wz9.cell? ⟨N_b, 0, none⟩ = some (.int .i64 X.q) := cell_blk (i := 0) B_b.out rfl
          have b1 : wz9.cell? ⟨N_b, 1, none⟩ = some (.int .i64 X.n) := cell_blk (i := 1) B_b.out rfl
          have b2 : wz9.cell? ⟨N_b, 2, none⟩ = some (.int .i64 X.S.g) := cell_blk (i := 2) B_b.out rfl
          have b3 : wz9.cell? ⟨N_b, 3, none⟩ = some (.int .i64 X.S.c) := cell_blk (i := 3) B_b.out rfl
          have b4 : wz9.cell? ⟨N_b, 4, none⟩ = some (.int .i64 X.S.mn) := cell_blk (i := 4) B_b.out rfl
          have b5 : wz9.cell? ⟨N_b, 5, none⟩ = some (.int .i64 X.S.mx) := cell_blk (i := 5) B_b.out rfl
          go_wp2_with fail
          refine (hEa.out).mono ?_
          rintro e U6 ⟨T9, rfl, hT9, hb9⟩
          clear f0 f1 b0 b1 b2 b3 b4 b5
          have hs9 := hb9.size
          have HKe := Lib.hid (HlA.out.keep hb9 hb9.size)
          have t8 : decide (T9 > P) = false := decide_eq_false (by omega)
          have t9 : decide (P < T9) = false := decide_eq_false (by omega)
          replace HBel := Lib.hid (HBel.out.trans (hb9.mono hlow))
          replace B_f : Hid (U6.heap[N_f]? = some (.cells #[.int .i64 (G - (Gs : Int)), .int .i64 (C - Cs)] 24 (0, 0))) := Lib.hid ((hb9.block _ l_f).trans B_f.out)
          replace B_b : Hid (U6.heap[N_b]? = some (.cells #[.int .i64 X.q, .int .i64 X.n, .int .i64 X.S.g, .int .i64 X.S.c, .int .i64 X.S.mn, .int .i64 X.S.mx] 29 (0, 0))) := Lib.hid ((hb9.block _ l_b).trans B_b.out)
          replace B_fe : Hid (U6.heap[fb]? = some (Or (0, 0))) := Lib.hid ((hb9.block _ l_fe).trans B_fe.out)
          replace B_ee : Hid (U6.heap[eb]? = some (Oe (0, 0))) := Lib.hid ((hb9.block _ l_ee).trans B_ee.out)
          replace B_u : Hid (U6.heap[N_u]? = some (.cells #[.int .i64 (Gs : Nat), .int .i64 Cs] 24 (0, 0))) := Lib.hid ((hb9.block _ l_u).trans B_u.out)
          replace l_f : N_f < U6.heap.size := by omega
          replace l_b : N_b < U6.heap.size := by omega
          replace l_fe : fb < U6.heap.size := by omega
          replace l_ee : eb < U6.heap.size := by omega
          replace l_u : N_u < U6.heap.size := by omega
          replace hlow : w.heap.size ≤ U6.heap.size := by omega
          clear hb9 hs9
          have hf9 := Lib.hid (HfF.out U6 B_fe.out l_fe)
          have hxy2 := hxy.out.2.2
          go_wp2
          go_roundw
          case rel =>
            refine ⟨j + 1, A4, c4, lv2, A7, c7, M + 1, l ++ [x], G - (Gs : Int), C - Cs, by go_num, by omega, rfl, rfl, by omega, by omega, HBel, B_f, B_b, Lib.hid ⟨hf9.out, HF4.out.2.2, HF4.out.2.1, HKe.out, by rw [List.length_append, HK.out.2.2.2.2.1]; rfl, fun y hy => ?_⟩⟩
            rcases List.mem_append.1 hy with hy | hy
            · exact HK.out.2.2.2.2.2 y hy
            · rw [List.mem_singleton.1 hy]; exact hkx
          case measure => simp [intOf]; omega
      · have e1 : (x.q == X.q) = false := by simp [hqq]
        have hxy := Lib.hid (show (G = G - (hg x X.q : Int) ∧ C = C - hc x X.q ∧ (-1048576 - 1280 * ((j : Int) + 1) ≤ G ∧ G ≤ 1048576 ∧ -1048576 - 20971520 * ((j : Int) + 1) ≤ C ∧ C ≤ 1048576)) from by
          have h3 := hub.out
          unfold hg hc; rw [if_neg hqq, if_neg hqq]; exact ⟨by simp, by simp, by omega⟩)
        clear hqq
        have x0 : U1.cell? ⟨yb, yo + j * 5, none⟩ = some (.int .i64 x.id) := (HXc.out.keep hyb HBel.out) 0 _ rfl
        have x1 : U1.cell? ⟨yb, yo + j * 5 + 1, none⟩ = some (.int .i64 x.q) := (HXc.out.keep hyb HBel.out) 1 _ rfl
        have x2 : U1.cell? ⟨yb, yo + j * 5 + 2, none⟩ = some (.int .i64 x.u) := (HXc.out.keep hyb HBel.out) 2 _ rfl
        have x3 : U1.cell? ⟨yb, yo + j * 5 + 3, none⟩ = some (.bool x.r) := (HXc.out.keep hyb HBel.out) 3 _ rfl
        have x4 : U1.cell? ⟨yb, yo + j * 5 + 4, none⟩ = some (.slice x.A k x.c) := (HXc.out.keep hyb HBel.out) 4 _ rfl
        have b0 : U1.cell? ⟨N_b, 0, none⟩ = some (.int .i64 X.q) := cell_blk (i := 0) B_b.out rfl
        have b1 : U1.cell? ⟨N_b, 1, none⟩ = some (.int .i64 X.n) := cell_blk (i := 1) B_b.out rfl
        have b2 : U1.cell? ⟨N_b, 2, none⟩ = some (.int .i64 X.S.g) := cell_blk (i := 2) B_b.out rfl
        have b3 : U1.cell? ⟨N_b, 3, none⟩ = some (.int .i64 X.S.c) := cell_blk (i := 3) B_b.out rfl
        have b4 : U1.cell? ⟨N_b, 4, none⟩ = some (.int .i64 X.S.mn) := cell_blk (i := 4) B_b.out rfl
        have b5 : U1.cell? ⟨N_b, 5, none⟩ = some (.int .i64 X.S.mx) := cell_blk (i := 5) B_b.out rfl
        have hybw : yb < U1.heap.size := by omega
        go_wp2_with fail
        refine held_begin (fun w' : World => w'.cell? ⟨N_b, 0, none⟩ = some (.int .i64 X.q) ∧ w'.cell? ⟨N_b, 1, none⟩ = some (.int .i64 X.n) ∧ w'.cell? ⟨N_b, 2, none⟩ = some (.int .i64 X.S.g) ∧ w'.cell? ⟨N_b, 3, none⟩ = some (.int .i64 X.S.c) ∧ w'.cell? ⟨N_b, 4, none⟩ = some (.int .i64 X.S.mn) ∧ w'.cell? ⟨N_b, 5, none⟩ = some (.int .i64 X.S.mx) ∧ w'.cell? ⟨yb, yo + j * 5, none⟩ = some (.int .i64 x.id) ∧ w'.cell? ⟨yb, yo + j * 5 + 1, none⟩ = some (.int .i64 x.q) ∧ w'.cell? ⟨yb, yo + j * 5 + 2, none⟩ = some (.int .i64 x.u) ∧ w'.cell? ⟨yb, yo + j * 5 + 3, none⟩ = some (.bool x.r) ∧ w'.cell? ⟨yb, yo + j * 5 + 4, none⟩ = some (.slice x.A k x.c)) (by kernel_rfl) ?_
        have hBg0 : Below U1.heap.size U1 U1.drew := (Below.refl _ _).drew
        have hSg0 : (fun w' : World => w'.cell? ⟨N_b, 0, none⟩ = some (.int .i64 X.q) ∧ w'.cell? ⟨N_b, 1, none⟩ = some (.int .i64 X.n) ∧ w'.cell? ⟨N_b, 2, none⟩ = some (.int .i64 X.S.g) ∧ w'.cell? ⟨N_b, 3, none⟩ = some (.int .i64 X.S.c) ∧ w'.cell? ⟨N_b, 4, none⟩ = some (.int .i64 X.S.mn) ∧ w'.cell? ⟨N_b, 5, none⟩ = some (.int .i64 X.S.mx) ∧ w'.cell? ⟨yb, yo + j * 5, none⟩ = some (.int .i64 x.id) ∧ w'.cell? ⟨yb, yo + j * 5 + 1, none⟩ = some (.int .i64 x.q) ∧ w'.cell? ⟨yb, yo + j * 5 + 2, none⟩ = some (.int .i64 x.u) ∧ w'.cell? ⟨yb, yo + j * 5 + 3, none⟩ = some (.bool x.r) ∧ w'.cell? ⟨yb, yo + j * 5 + 4, none⟩ = some (.slice x.A k x.c)) U1.drew := ⟨b0, b1, b2, b3, b4, b5, x0, x1, x2, x3, x4⟩
        refine held_take (v := ?_) 0 87 rfl rfl (by kernel_rfl) (by kernel_rfl) (by kernel_rfl) (fun _ _ _ h => h) ⟨by rfl, ?_⟩ hSg0 ?_
        rotate_left
        · intro w' hw'; obtain ⟨x0, x1, x2, x3, x4, x5, x6, x7, x8, x9, x10⟩ := hw'; go_simp; (try with_reducible rfl)
        simp only [Act.put, List.setIfInBounds_toArray, List.set_cons_zero, List.set_cons_succ]
        refine held_take (v := ?_) 1 88 rfl rfl (by kernel_rfl) (by kernel_rfl) (by kernel_rfl) (fun _ _ _ h => h) ⟨by rfl, ?_⟩ hSg0 ?_
        rotate_left
        · intro w' hw'; obtain ⟨x0, x1, x2, x3, x4, x5, x6, x7, x8, x9, x10⟩ := hw'; go_simp; (try with_reducible rfl)
        simp only [Act.put, List.setIfInBounds_toArray, List.set_cons_zero, List.set_cons_succ]
        refine held_take (v := ?_) 2 89 rfl rfl (by kernel_rfl) (by kernel_rfl) (by kernel_rfl) (fun _ _ _ h => h) ⟨by rfl, ?_⟩ hSg0 ?_
        rotate_left
        · intro w' hw'; obtain ⟨x0, x1, x2, x3, x4, x5, x6, x7, x8, x9, x10⟩ := hw'; go_simp; (try with_reducible rfl)
        simp only [Act.put, List.setIfInBounds_toArray, List.set_cons_zero, List.set_cons_succ]
        refine held_take (v := ?_) 3 90 rfl rfl (by kernel_rfl) (by kernel_rfl) (by kernel_rfl) (fun _ _ _ h => h) ⟨by rfl, ?_⟩ hSg0 ?_
        rotate_left
        · intro w' hw'; obtain ⟨x0, x1, x2, x3, x4, x5, x6, x7, x8, x9, x10⟩ := hw'; go_simp; (try with_reducible rfl)
        simp only [Act.put, List.setIfInBounds_toArray, List.set_cons_zero, List.set_cons_succ]
        refine held_take (v := ?_) 4 91 rfl rfl (by kernel_rfl) (by kernel_rfl) (by kernel_rfl) (fun _ _ _ h => h) ⟨by rfl, ?_⟩ hSg0 ?_
        rotate_left
        · intro w' hw'; obtain ⟨x0, x1, x2, x3, x4, x5, x6, x7, x8, x9, x10⟩ := hw'; go_simp; (try with_reducible rfl)
        simp only [Act.put, List.setIfInBounds_toArray, List.set_cons_zero, List.set_cons_succ]
        refine held_take (v := ?_) 5 92 rfl rfl (by kernel_rfl) (by kernel_rfl) (by kernel_rfl) (fun _ _ _ h => h) ⟨by rfl, ?_⟩ hSg0 ?_
        rotate_left
        · intro w' hw'; obtain ⟨x0, x1, x2, x3, x4, x5, x6, x7, x8, x9, x10⟩ := hw'; go_simp; (try with_reducible rfl)
        simp only [Act.put, List.setIfInBounds_toArray, List.set_cons_zero, List.set_cons_succ]
        refine held_take (v := ?_) 6 93 rfl rfl (by kernel_rfl) (by kernel_rfl) (by kernel_rfl) (fun _ _ _ h => h) ⟨by rfl, ?_⟩ hSg0 ?_
        rotate_left
        · intro w' hw'; obtain ⟨x0, x1, x2, x3, x4, x5, x6, x7, x8, x9, x10⟩ := hw'; go_simp; (try with_reducible rfl)
        simp only [Act.put, List.setIfInBounds_toArray, List.set_cons_zero, List.set_cons_succ]
        refine held_take (v := ?_) 7 94 rfl rfl (by kernel_rfl) (by kernel_rfl) (by kernel_rfl) (fun _ _ _ h => h) ⟨by rfl, ?_⟩ hSg0 ?_
        rotate_left
        · intro w' hw'; obtain ⟨x0, x1, x2, x3, x4, x5, x6, x7, x8, x9, x10⟩ := hw'; go_simp; (try with_reducible rfl)
        simp only [Act.put, List.setIfInBounds_toArray, List.set_cons_zero, List.set_cons_succ]
        refine wpAnyH_done (by kernel_rfl) ?_ _
        clear hSg0 hBg0
        clear b0 b1 b2 b3 b4 b5
        clear x0 x1 x2 x3 x4
        obtain ⟨D2, hD2⟩ : ∃ W, W = U1.drew := ⟨_, rfl⟩
        rw [← hD2]
        have hzD2 : D2.heap = U1.heap := by rw [hD2]; rfl
        replace HBel : Hid (Below w.heap.size w D2) := Lib.hid (by rw [hD2]; exact HBel.out.drew)
        replace B_f : Hid (D2.heap[N_f]? = some (.cells #[.int .i64 G, .int .i64 C] 24 (0, 0))) := Lib.hid (by rw [hzD2]; exact B_f.out)
        replace B_b : Hid (D2.heap[N_b]? = some (.cells #[.int .i64 X.q, .int .i64 X.n, .int .i64 X.S.g, .int .i64 X.S.c, .int .i64 X.S.mn, .int .i64 X.S.mx] 29 (0, 0))) := Lib.hid (by rw [hzD2]; exact B_b.out)
        replace B_fe : Hid (D2.heap[fb]? = some (Or (0, 0))) := Lib.hid (by rw [hzD2]; exact B_fe.out)
        replace B_ee : Hid (D2.heap[eb]? = some (Oe (0, 0))) := Lib.hid (by rw [hzD2]; exact B_ee.out)
        replace l_f : N_f < D2.heap.size := by rw [hzD2]; exact l_f
        replace l_b : N_b < D2.heap.size := by rw [hzD2]; exact l_b
        replace l_fe : fb < D2.heap.size := by rw [hzD2]; exact l_fe
        replace l_ee : eb < D2.heap.size := by rw [hzD2]; exact l_ee
        replace hlow : w.heap.size ≤ D2.heap.size := by rw [hzD2]; exact hlow
        clear hD2 hzD2
        have x0 : D2.cell? ⟨yb, yo + j * 5, none⟩ = some (.int .i64 x.id) := (HXc.out.keep hyb HBel.out) 0 _ rfl
        have x1 : D2.cell? ⟨yb, yo + j * 5 + 1, none⟩ = some (.int .i64 x.q) := (HXc.out.keep hyb HBel.out) 1 _ rfl
        have x2 : D2.cell? ⟨yb, yo + j * 5 + 2, none⟩ = some (.int .i64 x.u) := (HXc.out.keep hyb HBel.out) 2 _ rfl
        have x3 : D2.cell? ⟨yb, yo + j * 5 + 3, none⟩ = some (.bool x.r) := (HXc.out.keep hyb HBel.out) 3 _ rfl
        have x4 : D2.cell? ⟨yb, yo + j * 5 + 4, none⟩ = some (.slice x.A k x.c) := (HXc.out.keep hyb HBel.out) 4 _ rfl
        have f0 : D2.cell? ⟨N_f, 0, none⟩ = some (.int .i64 G) := cell_blk (i := 0) B_f.out rfl
        have f1 : D2.cell? ⟨N_f, 1, none⟩ = some (.int .i64 C) := cell_blk (i := 1) B_f.out rfl
        have b0 : D2.cell? ⟨N_b, 0, none⟩ = some (.int .i64 X.q) := cell_blk (i := 0) B_b.out rfl
        have b1 : D2.cell? ⟨N_b, 1, none⟩ = some (.int .i64 X.n) := cell_blk (i := 1) B_b.out rfl
        have b2 : D2.cell? ⟨N_b, 2, none⟩ = some (.int .i64 X.S.g) := cell_blk (i := 2) B_b.out rfl
        have b3 : D2.cell? ⟨N_b, 3, none⟩ = some (.int .i64 X.S.c) := cell_blk (i := 3) B_b.out rfl
        have b4 : D2.cell? ⟨N_b, 4, none⟩ = some (.int .i64 X.S.mn) := cell_blk (i := 4) B_b.out rfl
        have b5 : D2.cell? ⟨N_b, 5, none⟩ = some (.int .i64 X.S.mx) := cell_blk (i := 5) B_b.out rfl
        have hybw : yb < D2.heap.size := by omega
        have HL6 := Lib.hid (HeF.out D2 B_ee.out l_ee)
        have HBX := Lib.hid (fun (V : World) (p : Nat) (h : V.heap[p]? = some (.cells #[.int .i64 x.id, .int .i64 x.q, .int .i64 x.u, .bool x.r, .slice x.A k x.c] 32 (0, 0))) => show Els hoC 5 V V.heap.size (some ⟨p, 0, none⟩) [x] from one_hos (by unfold hoA; rw [← HX.out.2.2]; exact h))
        go_wp2_with fail
        refine held_begin (fun w' : World => w'.cell? ⟨yb, yo + j * 5, none⟩ = some (.int .i64 x.id) ∧ w'.cell? ⟨yb, yo + j * 5 + 1, none⟩ = some (.int .i64 x.q) ∧ w'.cell? ⟨yb, yo + j * 5 + 2, none⟩ = some (.int .i64 x.u) ∧ w'.cell? ⟨yb, yo + j * 5 + 3, none⟩ = some (.bool x.r) ∧ w'.cell? ⟨yb, yo + j * 5 + 4, none⟩ = some (.slice x.A k x.c)) (by kernel_rfl) ?_
        have hBz0 : Below D2.heap.size D2 D2.drew := (Below.refl _ _).drew
        have hSz0 : (fun w' : World => w'.cell? ⟨yb, yo + j * 5, none⟩ = some (.int .i64 x.id) ∧ w'.cell? ⟨yb, yo + j * 5 + 1, none⟩ = some (.int .i64 x.q) ∧ w'.cell? ⟨yb, yo + j * 5 + 2, none⟩ = some (.int .i64 x.u) ∧ w'.cell? ⟨yb, yo + j * 5 + 3, none⟩ = some (.bool x.r) ∧ w'.cell? ⟨yb, yo + j * 5 + 4, none⟩ = some (.slice x.A k x.c)) D2.drew := ⟨x0, x1, x2, x3, x4⟩
        generalize D2.drew = wz0 at hBz0 hSz0 ⊢
        have szz0 := hBz0.size
        refine held_take (v := ?_) 1 114 rfl rfl (by kernel_rfl) (by kernel_rfl) (by kernel_rfl) (fun _ _ _ h => h) ⟨by rfl, ?_⟩ hSz0 ?_
        rotate_left
        · intro w' hw'; obtain ⟨x0, x1, x2, x3, x4⟩ := hw'; go_simp; (try with_reducible rfl)
        simp only [Act.put, List.setIfInBounds_toArray, List.set_cons_zero, List.set_cons_succ]
        refine held_take (v := ?_) 3 116 rfl rfl (by kernel_rfl) (by kernel_rfl) (by kernel_rfl) (fun _ _ _ h => h) ⟨by rfl, ?_⟩ hSz0 ?_
        rotate_left
        · intro w' hw'; obtain ⟨x0, x1, x2, x3, x4⟩ := hw'; go_simp; (try with_reducible rfl)
        simp only [Act.put, List.setIfInBounds_toArray, List.set_cons_zero, List.set_cons_succ]
        refine held_take (v := ?_) 4 117 rfl rfl (by kernel_rfl) (by kernel_rfl) (by kernel_rfl) (fun _ _ _ h => h) ⟨by rfl, ?_⟩ hSz0 ?_
        rotate_left
        · intro w' hw'; obtain ⟨x0, x1, x2, x3, x4⟩ := hw'; go_simp; (try with_reducible rfl)
        simp only [Act.put, List.setIfInBounds_toArray, List.set_cons_zero, List.set_cons_succ]
        refine held_take (v := ?_) 5 118 rfl rfl (by kernel_rfl) (by kernel_rfl) (by kernel_rfl) (fun _ _ _ h => h) ⟨by rfl, ?_⟩ hSz0 ?_
        rotate_left
        · intro w' hw'; obtain ⟨x0, x1, x2, x3, x4⟩ := hw'; go_simp; (try with_reducible rfl)
        simp only [Act.put, List.setIfInBounds_toArray, List.set_cons_zero, List.set_cons_succ]
        refine held_take (v := ?_) 6 119 rfl rfl (by kernel_rfl) (by kernel_rfl) (by kernel_rfl) (fun _ _ _ h => h) ⟨by rfl, ?_⟩ hSz0 ?_
        rotate_left
        · intro w' hw'; obtain ⟨x0, x1, x2, x3, x4⟩ := hw'; go_simp; (try with_reducible rfl)
        simp only [Act.put, List.setIfInBounds_toArray, List.set_cons_zero, List.set_cons_succ]
        refine held_two 0 7 rfl rfl (by kernel_rfl) (by rfl) (by rfl) (fun K hK => ?_) (fun K hK => ?_)
        · go_simp
          obtain ⟨wza, hwza⟩ : ∃ wld9, wld9 = wz0.alloc (.cells #[] 32) := ⟨_, rfl⟩
          have hBwza : Below D2.heap.size D2 wza := by rw [hwza]; exact hBz0.alloc hBz0.size _
          have szwza := hBwza.size
          have stwza : wz0.heap.size < wza.heap.size := by rw [hwza]; simp
          have bbwza : Below wz0.heap.size wz0 wza := by rw [hwza]; exact (Below.refl _ _).alloc (Nat.le_refl _) _
          have ownE : wza.ownsRow D2.heap.size 32 5 (.slice (some ⟨wz0.heap.size, 0, none⟩) 0 0) 0 [] := by rw [hwza]; exact World.ownsRow_lit wz0 #[] 0 (by have := hBz0.size; omega) (by unfold maxLen; omega) rfl
          have hSwza : (fun w' : World => w'.cell? ⟨yb, yo + j * 5, none⟩ = some (.int .i64 x.id) ∧ w'.cell? ⟨yb, yo + j * 5 + 1, none⟩ = some (.int .i64 x.q) ∧ w'.cell? ⟨yb, yo + j * 5 + 2, none⟩ = some (.int .i64 x.u) ∧ w'.cell? ⟨yb, yo + j * 5 + 3, none⟩ = some (.bool x.r) ∧ w'.cell? ⟨yb, yo + j * 5 + 4, none⟩ = some (.slice x.A k x.c)) wza := ⟨(hBwza.cell (p := ⟨yb, yo + j * 5, none⟩) (show yb < D2.heap.size by omega)).trans x0, (hBwza.cell (p := ⟨yb, yo + j * 5 + 1, none⟩) (show yb < D2.heap.size by omega)).trans x1, (hBwza.cell (p := ⟨yb, yo + j * 5 + 2, none⟩) (show yb < D2.heap.size by omega)).trans x2, (hBwza.cell (p := ⟨yb, yo + j * 5 + 3, none⟩) (show yb < D2.heap.size by omega)).trans x3, (hBwza.cell (p := ⟨yb, yo + j * 5 + 4, none⟩) (show yb < D2.heap.size by omega)).trans x4⟩
          rw [← hwza]
          refine hK.out _ _ hSwza ?_
          clear hK K hwza
          try simp only [Act.put, List.setIfInBounds_toArray, List.set_cons_zero, List.set_cons_succ]
          refine held_two 2 7 rfl rfl (by kernel_rfl) (by rfl) (by rfl) (fun K hK => ?_) (fun K hK => ?_)
          · simp only [Go.wp_at_zero, Go.wp_at_succ]
            refine wp_append_els (C := hoC) (k := 5) _ _ _ 25 rfl D2.heap.size 32 i0 _ 56 Tryd.underlying25 hi hz0 hz1 hz2 rfl (by decide) (.slice (some ⟨wz0.heap.size, 0, none⟩) 0 0) 0 [] rfl ownE D2.heap.size A3 C3 M l rfl (Els.keep HL6.out (hBwza) (Nat.le_refl _)) HK.out.2.2.2.2.1.symm hoC_len hoC_one (by unfold maxLen; omega) (by omega) (by omega) ?_
            intro A5 c5 wzb own5 gwzb kwzb
            rw [Nat.zero_add] at own5 ⊢
            rw [List.nil_append] at own5
            have hob : ∀ j, (Value.slice (some ⟨wz0.heap.size, 0, none⟩) 0 0).ownBlock = some j → j = wz0.heap.size := fun j hj => by simpa [Value.ownBlock] using hj.symm
            have hBwzb : Below D2.heap.size D2 wzb := hBwza.grown gwzb (by omega) (fun j hj => by have := hob j hj; omega)
            have szwzb := hBwzb.size
            have stwzb := gwzb.size
            have hSwzb : (fun w' : World => w'.cell? ⟨yb, yo + j * 5, none⟩ = some (.int .i64 x.id) ∧ w'.cell? ⟨yb, yo + j * 5 + 1, none⟩ = some (.int .i64 x.q) ∧ w'.cell? ⟨yb, yo + j * 5 + 2, none⟩ = some (.int .i64 x.u) ∧ w'.cell? ⟨yb, yo + j * 5 + 3, none⟩ = some (.bool x.r) ∧ w'.cell? ⟨yb, yo + j * 5 + 4, none⟩ = some (.slice x.A k x.c)) wzb := ⟨(hBwzb.cell (p := ⟨yb, yo + j * 5, none⟩) (show yb < D2.heap.size by omega)).trans x0, (hBwzb.cell (p := ⟨yb, yo + j * 5 + 1, none⟩) (show yb < D2.heap.size by omega)).trans x1, (hBwzb.cell (p := ⟨yb, yo + j * 5 + 2, none⟩) (show yb < D2.heap.size by omega)).trans x2, (hBwzb.cell (p := ⟨yb, yo + j * 5 + 3, none⟩) (show yb < D2.heap.size by omega)).trans x3, (hBwzb.cell (p := ⟨yb, yo + j * 5 + 4, none⟩) (show yb < D2.heap.size by omega)).trans x4⟩
            refine hK.out _ _ hSwzb ?_
            clear hK K
            try simp only [Act.put, List.setIfInBounds_toArray, List.set_cons_zero, List.set_cons_succ]
            have Own5 := Lib.hid own5
            clear own5 gwzb kwzb hob
            refine held_one 7 rfl (by kernel_rfl) (by rfl) (fun K hK => ?_)
            go_simp
            obtain ⟨wzc, hwzc⟩ : ∃ wld9, wld9 = wzb.alloc (.cells #[.int .i64 x.id, .int .i64 x.q, .int .i64 x.u, .bool x.r, .slice x.A k x.c] 32) := ⟨_, rfl⟩
            have hBwzc : Below D2.heap.size D2 wzc := by rw [hwzc]; exact hBwzb.alloc hBwzb.size _
            have szwzc := hBwzc.size
            have stwzc : wzb.heap.size < wzc.heap.size := by rw [hwzc]; simp
            have bbwzc : Below wzb.heap.size wzb wzc := by rw [hwzc]; exact (Below.refl _ _).alloc (Nat.le_refl _) _
            have elsB : Els hoC 5 wzc wzc.heap.size (some ⟨wzb.heap.size, 0, none⟩) [x] := HBX.out wzc wzb.heap.size (by rw [hwzc]; exact heap_alloc_new _ _)
            have hSwzc : (fun w' : World => w'.cell? ⟨yb, yo + j * 5, none⟩ = some (.int .i64 x.id) ∧ w'.cell? ⟨yb, yo + j * 5 + 1, none⟩ = some (.int .i64 x.q) ∧ w'.cell? ⟨yb, yo + j * 5 + 2, none⟩ = some (.int .i64 x.u) ∧ w'.cell? ⟨yb, yo + j * 5 + 3, none⟩ = some (.bool x.r) ∧ w'.cell? ⟨yb, yo + j * 5 + 4, none⟩ = some (.slice x.A k x.c)) wzc := ⟨(hBwzc.cell (p := ⟨yb, yo + j * 5, none⟩) (show yb < D2.heap.size by omega)).trans x0, (hBwzc.cell (p := ⟨yb, yo + j * 5 + 1, none⟩) (show yb < D2.heap.size by omega)).trans x1, (hBwzc.cell (p := ⟨yb, yo + j * 5 + 2, none⟩) (show yb < D2.heap.size by omega)).trans x2, (hBwzc.cell (p := ⟨yb, yo + j * 5 + 3, none⟩) (show yb < D2.heap.size by omega)).trans x3, (hBwzc.cell (p := ⟨yb, yo + j * 5 + 4, none⟩) (show yb < D2.heap.size by omega)).trans x4⟩
            rw [← hwzc]
            refine hK.out _ _ hSwzc ?_
            clear hK K hwzc
            try simp only [Act.put, List.setIfInBounds_toArray, List.set_cons_zero, List.set_cons_succ]
            have own5 := own_keep Own5.out bbwzc
            refine held_one 8 rfl (by kernel_rfl) (by rfl) (fun K hK => ?_)
            simp only [Go.wp_at_zero, Go.wp_at_succ]
            refine wp_append_els (C := hoC) (k := 5) _ _ _ 25 rfl D2.heap.size 32 i0 _ 56 Tryd.underlying25 hi hz0 hz1 hz2 rfl (by decide) (.slice A5 M c5) M _ rfl own5 _ (some ⟨wzb.heap.size, 0, none⟩) 1 1 [x] rfl elsB rfl hoC_len hoC_one (by unfold maxLen; omega) (by omega) (by omega) ?_
            intro A7 c7 wz9 own7 g7 k7
            have hob5 : ∀ j, (Value.slice A5 M c5).ownBlock = some j → D2.heap.size ≤ j := fun j hj => (own5.lt j hj).1
            have hBwz9 : Below D2.heap.size D2 wz9 := hBwzc.grown g7 (by omega) (fun j hj => by have := hob5 j hj; omega)
            have hSwz9 : (fun w' : World => w'.cell? ⟨yb, yo + j * 5, none⟩ = some (.int .i64 x.id) ∧ w'.cell? ⟨yb, yo + j * 5 + 1, none⟩ = some (.int .i64 x.q) ∧ w'.cell? ⟨yb, yo + j * 5 + 2, none⟩ = some (.int .i64 x.u) ∧ w'.cell? ⟨yb, yo + j * 5 + 3, none⟩ = some (.bool x.r) ∧ w'.cell? ⟨yb, yo + j * 5 + 4, none⟩ = some (.slice x.A k x.c)) wz9 := ⟨(hBwz9.cell (p := ⟨yb, yo + j * 5, none⟩) (show yb < D2.heap.size by omega)).trans x0, (hBwz9.cell (p := ⟨yb, yo + j * 5 + 1, none⟩) (show yb < D2.heap.size by omega)).trans x1, (hBwz9.cell (p := ⟨yb, yo + j * 5 + 2, none⟩) (show yb < D2.heap.size by omega)).trans x2, (hBwz9.cell (p := ⟨yb, yo + j * 5 + 3, none⟩) (show yb < D2.heap.size by omega)).trans x3, (hBwz9.cell (p := ⟨yb, yo + j * 5 + 4, none⟩) (show yb < D2.heap.size by omega)).trans x4⟩
            refine hK.out _ _ hSwz9 ?_
            clear hK K
            try simp only [Act.put, List.setIfInBounds_toArray, List.set_cons_zero, List.set_cons_succ]
            have Own7 := Lib.hid own7
            clear own7 own5 g7 k7 hob5
            try clear hob
            try clear elsB
            try clear ElsB
            try clear Own5
            try clear OwnE
            try clear ownE
            try clear gwza kwza
            try clear gwzb kwzb
            try clear gwzc kwzc
            refine held_take (v := ?_) 9 3 rfl rfl (by kernel_rfl) (by kernel_rfl) (by kernel_rfl) (fun _ _ _ h => h) ⟨by rfl, ?_⟩ hSwz9 ?_
            rotate_left
            · intro w' hw'; obtain ⟨x0, x1, x2, x3, x4⟩ := hw'; go_simp; (try with_reducible rfl)
            simp only [Act.put, List.setIfInBounds_toArray, List.set_cons_zero, List.set_cons_succ]
            refine wpAnyH_done (by kernel_rfl) ?_ _
            have hlA : Hos wz9 wz9.heap.size A7 (l ++ [x]) := own_hos (by have := Own7.out; rw [← List.flatMap_append] at this; exact this) (by rw [List.length_append, HK.out.2.2.2.2.1]; rfl)
            clear f0 f1 b0 b1 b2 b3 b4 b5
            have hb9 := hBwz9
            clear hSwz9 hBwz9
            clear x0 x1 x2 x3 x4
            have hs9 := hb9.size
            replace HBel := Lib.hid (HBel.out.trans (hb9.mono hlow))
            replace B_f : Hid (wz9.heap[N_f]? = some (.cells #[.int .i64 G, .int .i64 C] 24 (0, 0))) := Lib.hid ((hb9.block _ l_f).trans B_f.out)
            replace B_b : Hid (wz9.heap[N_b]? = some (.cells #[.int .i64 X.q, .int .i64 X.n, .int .i64 X.S.g, .int .i64 X.S.c, .int .i64 X.S.mn, .int .i64 X.S.mx] 29 (0, 0))) := Lib.hid ((hb9.block _ l_b).trans B_b.out)
            replace B_fe : Hid (wz9.heap[fb]? = some (Or (0, 0))) := Lib.hid ((hb9.block _ l_fe).trans B_fe.out)
            replace B_ee : Hid (wz9.heap[eb]? = some (Oe (0, 0))) := Lib.hid ((hb9.block _ l_ee).trans B_ee.out)
            replace l_f : N_f < wz9.heap.size := by omega
            replace l_b : N_b < wz9.heap.size := by omega
            replace l_fe : fb < wz9.heap.size := by omega
            replace l_ee : eb < wz9.heap.size := by omega
            replace hlow : w.heap.size ≤ wz9.heap.size := by omega
            have HlA := Lib.hid hlA
            clear hb9 hs9 hlA HL6 HBX Own7
            have hEa := Lib.hid (show Calls Tryd.prog 14 #[.int .i64 now, .slice A4 n c4, .agg #[.int .i64 (G), .int .i64 (C)], .slice A7 (M + 1) c7, .agg #[.int .i64 X.q, .int .i64 X.n, .int .i64 X.S.g, .int .i64 X.S.c, .int .i64 X.S.mn, .int .i64 X.S.mx]] wz9 (fun e w' => ∃ T9, e = .returned (.tuple #[.int .i64 T9, .int .i64 0]) ∧ T9 ≤ P ∧ Below wz9.heap.size wz9 w') from by
              have hxy := hxy.out
              have hlen : (l ++ [x]).length = M + 1 := by rw [List.length_append, HK.out.2.2.2.2.1]; rfl
              have hkp : ∀ y ∈ l ++ [x], Kept w y := fun y hy => by
                rcases List.mem_append.1 hy with hy | hy
                · exact HK.out.2.2.2.2.2 y hy
                · rw [List.mem_singleton.1 hy]; exact hkx
              have hsm : ∀ y ∈ l ++ [x], y.sl.length ≤ 1000 := fun y hy => by have := (hkp y hy).2.2; omega
              have h9 := pearliest_any now A4 c4 lv2 (G) (C) A7 c7 (l ++ [x]) X wz9 (HfF.out wz9 B_fe.out l_fe) HF4.out.2.2 (by rw [HF4.out.2.1]; omega) ⟨HlA.out, fun y hy => (hkp y hy).1.keep HBel.out HBel.out.size⟩ (fun y hy => (hkp y hy).2.1) ⟨by omega, hsm⟩ (by have := sl_len hsm; omega) H.out.2.2.2.2.2.2.2.2.2 (by omega) (by omega) (HT.out.below HBel.out HT.out.size)
              rw [HF4.out.2.1, hlen] at h9
              refine h9.mono ?_
              rintro e w' ⟨T9, E9, rfl, hEl, hb⟩
              have h8 := HY.out.2
              rw [← hxy.1, ← hxy.2.1] at h8
              obtain ⟨rfl, rfl⟩ := hEl.same h8
              exact ⟨T9, rfl, hTP, hb⟩)
            have f0 : wz9.cell? ⟨N_f, 0, none⟩ = some (.int .i64 G) := cell_blk (i := 0) B_f.out rfl
            have f1 : wz9.cell? ⟨N_f, 1, none⟩ = some (.int .i64 C) := cell_blk (i := 1) B_f.out rfl
            have b0 : wz9.cell? ⟨N_b, 0, none⟩ = some (.int .i64 X.q) := cell_blk (i := 0) B_b.out rfl
            have b1 : wz9.cell? ⟨N_b, 1, none⟩ = some (.int .i64 X.n) := cell_blk (i := 1) B_b.out rfl
            have b2 : wz9.cell? ⟨N_b, 2, none⟩ = some (.int .i64 X.S.g) := cell_blk (i := 2) B_b.out rfl
            have b3 : wz9.cell? ⟨N_b, 3, none⟩ = some (.int .i64 X.S.c) := cell_blk (i := 3) B_b.out rfl
            have b4 : wz9.cell? ⟨N_b, 4, none⟩ = some (.int .i64 X.S.mn) := cell_blk (i := 4) B_b.out rfl
            have b5 : wz9.cell? ⟨N_b, 5, none⟩ = some (.int .i64 X.S.mx) := cell_blk (i := 5) B_b.out rfl
            go_wp2_with fail
            refine (hEa.out).mono ?_
            rintro e U3 ⟨T9, rfl, hT9, hb9⟩
            clear f0 f1 b0 b1 b2 b3 b4 b5
            have hs9 := hb9.size
            have HKe := Lib.hid (HlA.out.keep hb9 hb9.size)
            have t8 : decide (T9 > P) = false := decide_eq_false (by omega)
            have t9 : decide (P < T9) = false := decide_eq_false (by omega)
            replace HBel := Lib.hid (HBel.out.trans (hb9.mono hlow))
            replace B_f : Hid (U3.heap[N_f]? = some (.cells #[.int .i64 G, .int .i64 C] 24 (0, 0))) := Lib.hid ((hb9.block _ l_f).trans B_f.out)
            replace B_b : Hid (U3.heap[N_b]? = some (.cells #[.int .i64 X.q, .int .i64 X.n, .int .i64 X.S.g, .int .i64 X.S.c, .int .i64 X.S.mn, .int .i64 X.S.mx] 29 (0, 0))) := Lib.hid ((hb9.block _ l_b).trans B_b.out)
            replace B_fe : Hid (U3.heap[fb]? = some (Or (0, 0))) := Lib.hid ((hb9.block _ l_fe).trans B_fe.out)
            replace B_ee : Hid (U3.heap[eb]? = some (Oe (0, 0))) := Lib.hid ((hb9.block _ l_ee).trans B_ee.out)
            replace l_f : N_f < U3.heap.size := by omega
            replace l_b : N_b < U3.heap.size := by omega
            replace l_fe : fb < U3.heap.size := by omega
            replace l_ee : eb < U3.heap.size := by omega
            replace hlow : w.heap.size ≤ U3.heap.size := by omega
            clear hb9 hs9
            have hf9 := Lib.hid (HfF.out U3 B_fe.out l_fe)
            have hxy2 := hxy.out.2.2
            go_wp2
            go_roundw
            case rel =>
              refine ⟨j + 1, A4, c4, lv2, A7, c7, M + 1, l ++ [x], G, C, by go_num, by omega, rfl, rfl, by omega, by omega, HBel, B_f, B_b, Lib.hid ⟨hf9.out, HF4.out.2.2, HF4.out.2.1, HKe.out, by rw [List.length_append, HK.out.2.2.2.2.1]; rfl, fun y hy => ?_⟩⟩
              rcases List.mem_append.1 hy with hy | hy
              · exact HK.out.2.2.2.2.2 y hy
              · rw [List.mem_singleton.1 hy]; exact hkx
            case measure => simp [intOf]; omega
        
          · have OwnE := Lib.hid ownE
            clear ownE
            go_simp
            obtain ⟨wzb, hwzb⟩ : ∃ wld9, wld9 = wza.alloc (.cells #[.int .i64 x.id, .int .i64 x.q, .int .i64 x.u, .bool x.r, .slice x.A k x.c] 32) := ⟨_, rfl⟩
            have hBwzb : Below D2.heap.size D2 wzb := by rw [hwzb]; exact hBwza.alloc hBwza.size _
            have szwzb := hBwzb.size
            have stwzb : wza.heap.size < wzb.heap.size := by rw [hwzb]; simp
            have bbwzb : Below wza.heap.size wza wzb := by rw [hwzb]; exact (Below.refl _ _).alloc (Nat.le_refl _) _
            have elsB : Els hoC 5 wzb wzb.heap.size (some ⟨wza.heap.size, 0, none⟩) [x] := HBX.out wzb wza.heap.size (by rw [hwzb]; exact heap_alloc_new _ _)
            have hSwzb : (fun w' : World => w'.cell? ⟨yb, yo + j * 5, none⟩ = some (.int .i64 x.id) ∧ w'.cell? ⟨yb, yo + j * 5 + 1, none⟩ = some (.int .i64 x.q) ∧ w'.cell? ⟨yb, yo + j * 5 + 2, none⟩ = some (.int .i64 x.u) ∧ w'.cell? ⟨yb, yo + j * 5 + 3, none⟩ = some (.bool x.r) ∧ w'.cell? ⟨yb, yo + j * 5 + 4, none⟩ = some (.slice x.A k x.c)) wzb := ⟨(hBwzb.cell (p := ⟨yb, yo + j * 5, none⟩) (show yb < D2.heap.size by omega)).trans x0, (hBwzb.cell (p := ⟨yb, yo + j * 5 + 1, none⟩) (show yb < D2.heap.size by omega)).trans x1, (hBwzb.cell (p := ⟨yb, yo + j * 5 + 2, none⟩) (show yb < D2.heap.size by omega)).trans x2, (hBwzb.cell (p := ⟨yb, yo + j * 5 + 3, none⟩) (show yb < D2.heap.size by omega)).trans x3, (hBwzb.cell (p := ⟨yb, yo + j * 5 + 4, none⟩) (show yb < D2.heap.size by omega)).trans x4⟩
            rw [← hwzb]
            refine hK.out _ _ hSwzb ?_
            clear hK K hwzb
            try simp only [Act.put, List.setIfInBounds_toArray, List.set_cons_zero, List.set_cons_succ]
            have ownE := own_keep OwnE.out bbwzb
            refine held_one 2 rfl (by kernel_rfl) (by rfl) (fun K hK => ?_)
            simp only [Go.wp_at_zero, Go.wp_at_succ]
            refine wp_append_els (C := hoC) (k := 5) _ _ _ 25 rfl D2.heap.size 32 i0 _ 56 Tryd.underlying25 hi hz0 hz1 hz2 rfl (by decide) (.slice (some ⟨wz0.heap.size, 0, none⟩) 0 0) 0 [] rfl ownE D2.heap.size A3 C3 M l rfl (Els.keep HL6.out (hBwzb) (Nat.le_refl _)) HK.out.2.2.2.2.1.symm hoC_len hoC_one (by unfold maxLen; omega) (by omega) (by omega) ?_
            intro A5 c5 wzc own5 gwzc kwzc
            rw [Nat.zero_add] at own5 ⊢
            rw [List.nil_append] at own5
            have hob : ∀ j, (Value.slice (some ⟨wz0.heap.size, 0, none⟩) 0 0).ownBlock = some j → j = wz0.heap.size := fun j hj => by simpa [Value.ownBlock] using hj.symm
            have hBwzc : Below D2.heap.size D2 wzc := hBwzb.grown gwzc (by omega) (fun j hj => by have := hob j hj; omega)
            have szwzc := hBwzc.size
            have stwzc := gwzc.size
            have hSwzc : (fun w' : World => w'.cell? ⟨yb, yo + j * 5, none⟩ = some (.int .i64 x.id) ∧ w'.cell? ⟨yb, yo + j * 5 + 1, none⟩ = some (.int .i64 x.q) ∧ w'.cell? ⟨yb, yo + j * 5 + 2, none⟩ = some (.int .i64 x.u) ∧ w'.cell? ⟨yb, yo + j * 5 + 3, none⟩ = some (.bool x.r) ∧ w'.cell? ⟨yb, yo + j * 5 + 4, none⟩ = some (.slice x.A k x.c)) wzc := ⟨(hBwzc.cell (p := ⟨yb, yo + j * 5, none⟩) (show yb < D2.heap.size by omega)).trans x0, (hBwzc.cell (p := ⟨yb, yo + j * 5 + 1, none⟩) (show yb < D2.heap.size by omega)).trans x1, (hBwzc.cell (p := ⟨yb, yo + j * 5 + 2, none⟩) (show yb < D2.heap.size by omega)).trans x2, (hBwzc.cell (p := ⟨yb, yo + j * 5 + 3, none⟩) (show yb < D2.heap.size by omega)).trans x3, (hBwzc.cell (p := ⟨yb, yo + j * 5 + 4, none⟩) (show yb < D2.heap.size by omega)).trans x4⟩
            have elsB : Els hoC 5 wzc wzc.heap.size (some ⟨wza.heap.size, 0, none⟩) [x] := (elsB.off (w' := wzc) fun b2 o2 e2 hb2 => gwzc.block b2 hb2 (fun e => by have := hob b2 e.symm; injection e2 with e2; injection e2 with e2; omega)).imp stwzc fun _ _ _ _ hd => hd
            refine hK.out _ _ hSwzc ?_
            clear hK K
            try simp only [Act.put, List.setIfInBounds_toArray, List.set_cons_zero, List.set_cons_succ]
            refine held_one 8 rfl (by kernel_rfl) (by rfl) (fun K hK => ?_)
            simp only [Go.wp_at_zero, Go.wp_at_succ]
            refine wp_append_els (C := hoC) (k := 5) _ _ _ 25 rfl D2.heap.size 32 i0 _ 56 Tryd.underlying25 hi hz0 hz1 hz2 rfl (by decide) (.slice A5 M c5) M _ rfl own5 _ (some ⟨wza.heap.size, 0, none⟩) 1 1 [x] rfl elsB rfl hoC_len hoC_one (by unfold maxLen; omega) (by omega) (by omega) ?_
            intro A7 c7 wz9 own7 g7 k7
            have hob5 : ∀ j, (Value.slice A5 M c5).ownBlock = some j → D2.heap.size ≤ j := fun j hj => (own5.lt j hj).1
            have hBwz9 : Below D2.heap.size D2 wz9 := hBwzc.grown g7 (by omega) (fun j hj => by have := hob5 j hj; omega)
            have hSwz9 : (fun w' : World => w'.cell? ⟨yb, yo + j * 5, none⟩ = some (.int .i64 x.id) ∧ w'.cell? ⟨yb, yo + j * 5 + 1, none⟩ = some (.int .i64 x.q) ∧ w'.cell? ⟨yb, yo + j * 5 + 2, none⟩ = some (.int .i64 x.u) ∧ w'.cell? ⟨yb, yo + j * 5 + 3, none⟩ = some (.bool x.r) ∧ w'.cell? ⟨yb, yo + j * 5 + 4, none⟩ = some (.slice x.A k x.c)) wz9 := ⟨(hBwz9.cell (p := ⟨yb, yo + j * 5, none⟩) (show yb < D2.heap.size by omega)).trans x0, (hBwz9.cell (p := ⟨yb, yo + j * 5 + 1, none⟩) (show yb < D2.heap.size by omega)).trans x1, (hBwz9.cell (p := ⟨yb, yo + j * 5 + 2, none⟩) (show yb < D2.heap.size by omega)).trans x2, (hBwz9.cell (p := ⟨yb, yo + j * 5 + 3, none⟩) (show yb < D2.heap.size by omega)).trans x3, (hBwz9.cell (p := ⟨yb, yo + j * 5 + 4, none⟩) (show yb < D2.heap.size by omega)).trans x4⟩
            refine hK.out _ _ hSwz9 ?_
            clear hK K
            try simp only [Act.put, List.setIfInBounds_toArray, List.set_cons_zero, List.set_cons_succ]
            have Own7 := Lib.hid own7
            clear own7 own5 g7 k7 hob5
            try clear hob
            try clear elsB
            try clear ElsB
            try clear Own5
            try clear OwnE
            try clear ownE
            try clear gwza kwza
            try clear gwzb kwzb
            try clear gwzc kwzc
            refine held_take (v := ?_) 9 3 rfl rfl (by kernel_rfl) (by kernel_rfl) (by kernel_rfl) (fun _ _ _ h => h) ⟨by rfl, ?_⟩ hSwz9 ?_
            rotate_left
            · intro w' hw'; obtain ⟨x0, x1, x2, x3, x4⟩ := hw'; go_simp; (try with_reducible rfl)
            simp only [Act.put, List.setIfInBounds_toArray, List.set_cons_zero, List.set_cons_succ]
            refine wpAnyH_done (by kernel_rfl) ?_ _
            have hlA : Hos wz9 wz9.heap.size A7 (l ++ [x]) := own_hos (by have := Own7.out; rw [← List.flatMap_append] at this; exact this) (by rw [List.length_append, HK.out.2.2.2.2.1]; rfl)
            clear f0 f1 b0 b1 b2 b3 b4 b5
            have hb9 := hBwz9
            clear hSwz9 hBwz9
            clear x0 x1 x2 x3 x4
            have hs9 := hb9.size
            replace HBel := Lib.hid (HBel.out.trans (hb9.mono hlow))
            replace B_f : Hid (wz9.heap[N_f]? = some (.cells #[.int .i64 G, .int .i64 C] 24 (0, 0))) := Lib.hid ((hb9.block _ l_f).trans B_f.out)
            replace B_b : Hid (wz9.heap[N_b]? = some (.cells #[.int .i64 X.q, .int .i64 X.n, .int .i64 X.S.g, .int .i64 X.S.c, .int .i64 X.S.mn, .int .i64 X.S.mx] 29 (0, 0))) := Lib.hid ((hb9.block _ l_b).trans B_b.out)
            replace B_fe : Hid (wz9.heap[fb]? = some (Or (0, 0))) := Lib.hid ((hb9.block _ l_fe).trans B_fe.out)
            replace B_ee : Hid (wz9.heap[eb]? = some (Oe (0, 0))) := Lib.hid ((hb9.block _ l_ee).trans B_ee.out)
            replace l_f : N_f < wz9.heap.size := by omega
            replace l_b : N_b < wz9.heap.size := by omega
            replace l_fe : fb < wz9.heap.size := by omega
            replace l_ee : eb < wz9.heap.size := by omega
            replace hlow : w.heap.size ≤ wz9.heap.size := by omega
            have HlA := Lib.hid hlA
            clear hb9 hs9 hlA HL6 HBX Own7
            have hEa := Lib.hid (show Calls Tryd.prog 14 #[.int .i64 now, .slice A4 n c4, .agg #[.int .i64 (G), .int .i64 (C)], .slice A7 (M + 1) c7, .agg #[.int .i64 X.q, .int .i64 X.n, .int .i64 X.S.g, .int .i64 X.S.c, .int .i64 X.S.mn, .int .i64 X.S.mx]] wz9 (fun e w' => ∃ T9, e = .returned (.tuple #[.int .i64 T9, .int .i64 0]) ∧ T9 ≤ P ∧ Below wz9.heap.size wz9 w') from by
              have hxy := hxy.out
              have hlen : (l ++ [x]).length = M + 1 := by rw [List.length_append, HK.out.2.2.2.2.1]; rfl
              have hkp : ∀ y ∈ l ++ [x], Kept w y := fun y hy => by
                rcases List.mem_append.1 hy with hy | hy
                · exact HK.out.2.2.2.2.2 y hy
                · rw [List.mem_singleton.1 hy]; exact hkx
              have hsm : ∀ y ∈ l ++ [x], y.sl.length ≤ 1000 := fun y hy => by have := (hkp y hy).2.2; omega
              have h9 := pearliest_any now A4 c4 lv2 (G) (C) A7 c7 (l ++ [x]) X wz9 (HfF.out wz9 B_fe.out l_fe) HF4.out.2.2 (by rw [HF4.out.2.1]; omega) ⟨HlA.out, fun y hy => (hkp y hy).1.keep HBel.out HBel.out.size⟩ (fun y hy => (hkp y hy).2.1) ⟨by omega, hsm⟩ (by have := sl_len hsm; omega) H.out.2.2.2.2.2.2.2.2.2 (by omega) (by omega) (HT.out.below HBel.out HT.out.size)
              rw [HF4.out.2.1, hlen] at h9
              refine h9.mono ?_
              rintro e w' ⟨T9, E9, rfl, hEl, hb⟩
              have h8 := HY.out.2
              rw [← hxy.1, ← hxy.2.1] at h8
              obtain ⟨rfl, rfl⟩ := hEl.same h8
              exact ⟨T9, rfl, hTP, hb⟩)
            have f0 : wz9.cell? ⟨N_f, 0, none⟩ = some (.int .i64 G) := cell_blk (i := 0) B_f.out rfl
            have f1 : wz9.cell? ⟨N_f, 1, none⟩ = some (.int .i64 C) := cell_blk (i := 1) B_f.out rfl
            have b0 : wz9.cell? ⟨N_b, 0, none⟩ = some (.int .i64 X.q) := cell_blk (i := 0) B_b.out rfl
            have b1 : wz9.cell? ⟨N_b, 1, none⟩ = some (.int .i64 X.n) := cell_blk (i := 1) B_b.out rfl
            have b2 : wz9.cell? ⟨N_b, 2, none⟩ = some (.int .i64 X.S.g) := cell_blk (i := 2) B_b.out rfl
            have b3 : wz9.cell? ⟨N_b, 3, none⟩ = some (.int .i64 X.S.c) := cell_blk (i := 3) B_b.out rfl
            have b4 : wz9.cell? ⟨N_b, 4, none⟩ = some (.int .i64 X.S.mn) := cell_blk (i := 4) B_b.out rfl
            have b5 : wz9.cell? ⟨N_b, 5, none⟩ = some (.int .i64 X.S.mx) := cell_blk (i := 5) B_b.out rfl
            go_wp2_with fail
            refine (hEa.out).mono ?_
            rintro e U3 ⟨T9, rfl, hT9, hb9⟩
            clear f0 f1 b0 b1 b2 b3 b4 b5
            have hs9 := hb9.size
            have HKe := Lib.hid (HlA.out.keep hb9 hb9.size)
            have t8 : decide (T9 > P) = false := decide_eq_false (by omega)
            have t9 : decide (P < T9) = false := decide_eq_false (by omega)
            replace HBel := Lib.hid (HBel.out.trans (hb9.mono hlow))
            replace B_f : Hid (U3.heap[N_f]? = some (.cells #[.int .i64 G, .int .i64 C] 24 (0, 0))) := Lib.hid ((hb9.block _ l_f).trans B_f.out)
            replace B_b : Hid (U3.heap[N_b]? = some (.cells #[.int .i64 X.q, .int .i64 X.n, .int .i64 X.S.g, .int .i64 X.S.c, .int .i64 X.S.mn, .int .i64 X.S.mx] 29 (0, 0))) := Lib.hid ((hb9.block _ l_b).trans B_b.out)
            replace B_fe : Hid (U3.heap[fb]? = some (Or (0, 0))) := Lib.hid ((hb9.block _ l_fe).trans B_fe.out)
            replace B_ee : Hid (U3.heap[eb]? = some (Oe (0, 0))) := Lib.hid ((hb9.block _ l_ee).trans B_ee.out)
            replace l_f : N_f < U3.heap.size := by omega
            replace l_b : N_b < U3.heap.size := by omega
            replace l_fe : fb < U3.heap.size := by omega
            replace l_ee : eb < U3.heap.size := by omega
            replace hlow : w.heap.size ≤ U3.heap.size := by omega
            clear hb9 hs9
            have hf9 := Lib.hid (HfF.out U3 B_fe.out l_fe)
            have hxy2 := hxy.out.2.2
            go_wp2
            go_roundw
            case rel =>
              refine ⟨j + 1, A4, c4, lv2, A7, c7, M + 1, l ++ [x], G, C, by go_num, by omega, rfl, rfl, by omega, by omega, HBel, B_f, B_b, Lib.hid ⟨hf9.out, HF4.out.2.2, HF4.out.2.1, HKe.out, by rw [List.length_append, HK.out.2.2.2.2.1]; rfl, fun y hy => ?_⟩⟩
              rcases List.mem_append.1 hy with hy | hy
              · exact HK.out.2.2.2.2.2 y hy
              · rw [List.mem_singleton.1 hy]; exact hkx
            case measure => simp [intOf]; omega
        
        
        · go_simp
          obtain ⟨wza, hwza⟩ : ∃ wld9, wld9 = wz0.alloc (.cells #[.int .i64 x.id, .int .i64 x.q, .int .i64 x.u, .bool x.r, .slice x.A k x.c] 32) := ⟨_, rfl⟩
          have hBwza : Below D2.heap.size D2 wza := by rw [hwza]; exact hBz0.alloc hBz0.size _
          have szwza := hBwza.size
          have stwza : wz0.heap.size < wza.heap.size := by rw [hwza]; simp
          have bbwza : Below wz0.heap.size wz0 wza := by rw [hwza]; exact (Below.refl _ _).alloc (Nat.le_refl _) _
          have elsB : Els hoC 5 wza wza.heap.size (some ⟨wz0.heap.size, 0, none⟩) [x] := HBX.out wza wz0.heap.size (by rw [hwza]; exact heap_alloc_new _ _)
          have hSwza : (fun w' : World => w'.cell? ⟨yb, yo + j * 5, none⟩ = some (.int .i64 x.id) ∧ w'.cell? ⟨yb, yo + j * 5 + 1, none⟩ = some (.int .i64 x.q) ∧ w'.cell? ⟨yb, yo + j * 5 + 2, none⟩ = some (.int .i64 x.u) ∧ w'.cell? ⟨yb, yo + j * 5 + 3, none⟩ = some (.bool x.r) ∧ w'.cell? ⟨yb, yo + j * 5 + 4, none⟩ = some (.slice x.A k x.c)) wza := ⟨(hBwza.cell (p := ⟨yb, yo + j * 5, none⟩) (show yb < D2.heap.size by omega)).trans x0, (hBwza.cell (p := ⟨yb, yo + j * 5 + 1, none⟩) (show yb < D2.heap.size by omega)).trans x1, (hBwza.cell (p := ⟨yb, yo + j * 5 + 2, none⟩) (show yb < D2.heap.size by omega)).trans x2, (hBwza.cell (p := ⟨yb, yo + j * 5 + 3, none⟩) (show yb < D2.heap.size by omega)).trans x3, (hBwza.cell (p := ⟨yb, yo + j * 5 + 4, none⟩) (show yb < D2.heap.size by omega)).trans x4⟩
          rw [← hwza]
          refine hK.out _ _ hSwza ?_
          clear hK K hwza
          try simp only [Act.put, List.setIfInBounds_toArray, List.set_cons_zero, List.set_cons_succ]
          have ElsB := Lib.hid elsB
          clear elsB
          refine held_one 0 rfl (by kernel_rfl) (by rfl) (fun K hK => ?_)
          go_simp
          obtain ⟨wzb, hwzb⟩ : ∃ wld9, wld9 = wza.alloc (.cells #[] 32) := ⟨_, rfl⟩
          have hBwzb : Below D2.heap.size D2 wzb := by rw [hwzb]; exact hBwza.alloc hBwza.size _
          have szwzb := hBwzb.size
          have stwzb : wza.heap.size < wzb.heap.size := by rw [hwzb]; simp
          have bbwzb : Below wza.heap.size wza wzb := by rw [hwzb]; exact (Below.refl _ _).alloc (Nat.le_refl _) _
          have ownE : wzb.ownsRow D2.heap.size 32 5 (.slice (some ⟨wza.heap.size, 0, none⟩) 0 0) 0 [] := by rw [hwzb]; exact World.ownsRow_lit wza #[] 0 (by have := hBwza.size; omega) (by unfold maxLen; omega) rfl
          have hSwzb : (fun w' : World => w'.cell? ⟨yb, yo + j * 5, none⟩ = some (.int .i64 x.id) ∧ w'.cell? ⟨yb, yo + j * 5 + 1, none⟩ = some (.int .i64 x.q) ∧ w'.cell? ⟨yb, yo + j * 5 + 2, none⟩ = some (.int .i64 x.u) ∧ w'.cell? ⟨yb, yo + j * 5 + 3, none⟩ = some (.bool x.r) ∧ w'.cell? ⟨yb, yo + j * 5 + 4, none⟩ = some (.slice x.A k x.c)) wzb := ⟨(hBwzb.cell (p := ⟨yb, yo + j * 5, none⟩) (show yb < D2.heap.size by omega)).trans x0, (hBwzb.cell (p := ⟨yb, yo + j * 5 + 1, none⟩) (show yb < D2.heap.size by omega)).trans x1, (hBwzb.cell (p := ⟨yb, yo + j * 5 + 2, none⟩) (show yb < D2.heap.size by omega)).trans x2, (hBwzb.cell (p := ⟨yb, yo + j * 5 + 3, none⟩) (show yb < D2.heap.size by omega)).trans x3, (hBwzb.cell (p := ⟨yb, yo + j * 5 + 4, none⟩) (show yb < D2.heap.size by omega)).trans x4⟩
          rw [← hwzb]
          refine hK.out _ _ hSwzb ?_
          clear hK K hwzb
          try simp only [Act.put, List.setIfInBounds_toArray, List.set_cons_zero, List.set_cons_succ]
          have elsB : Els hoC 5 wzb wzb.heap.size (some ⟨wz0.heap.size, 0, none⟩) [x] := ElsB.out.keep bbwzb (by omega)
          refine held_one 2 rfl (by kernel_rfl) (by rfl) (fun K hK => ?_)
          simp only [Go.wp_at_zero, Go.wp_at_succ]
          refine wp_append_els (C := hoC) (k := 5) _ _ _ 25 rfl D2.heap.size 32 i0 _ 56 Tryd.underlying25 hi hz0 hz1 hz2 rfl (by decide) (.slice (some ⟨wza.heap.size, 0, none⟩) 0 0) 0 [] rfl ownE D2.heap.size A3 C3 M l rfl (Els.keep HL6.out (hBwzb) (Nat.le_refl _)) HK.out.2.2.2.2.1.symm hoC_len hoC_one (by unfold maxLen; omega) (by omega) (by omega) ?_
          intro A5 c5 wzc own5 gwzc kwzc
          rw [Nat.zero_add] at own5 ⊢
          rw [List.nil_append] at own5
          have hob : ∀ j, (Value.slice (some ⟨wza.heap.size, 0, none⟩) 0 0).ownBlock = some j → j = wza.heap.size := fun j hj => by simpa [Value.ownBlock] using hj.symm
          have hBwzc : Below D2.heap.size D2 wzc := hBwzb.grown gwzc (by omega) (fun j hj => by have := hob j hj; omega)
          have szwzc := hBwzc.size
          have stwzc := gwzc.size
          have hSwzc : (fun w' : World => w'.cell? ⟨yb, yo + j * 5, none⟩ = some (.int .i64 x.id) ∧ w'.cell? ⟨yb, yo + j * 5 + 1, none⟩ = some (.int .i64 x.q) ∧ w'.cell? ⟨yb, yo + j * 5 + 2, none⟩ = some (.int .i64 x.u) ∧ w'.cell? ⟨yb, yo + j * 5 + 3, none⟩ = some (.bool x.r) ∧ w'.cell? ⟨yb, yo + j * 5 + 4, none⟩ = some (.slice x.A k x.c)) wzc := ⟨(hBwzc.cell (p := ⟨yb, yo + j * 5, none⟩) (show yb < D2.heap.size by omega)).trans x0, (hBwzc.cell (p := ⟨yb, yo + j * 5 + 1, none⟩) (show yb < D2.heap.size by omega)).trans x1, (hBwzc.cell (p := ⟨yb, yo + j * 5 + 2, none⟩) (show yb < D2.heap.size by omega)).trans x2, (hBwzc.cell (p := ⟨yb, yo + j * 5 + 3, none⟩) (show yb < D2.heap.size by omega)).trans x3, (hBwzc.cell (p := ⟨yb, yo + j * 5 + 4, none⟩) (show yb < D2.heap.size by omega)).trans x4⟩
          have elsB : Els hoC 5 wzc wzc.heap.size (some ⟨wz0.heap.size, 0, none⟩) [x] := (elsB.off (w' := wzc) fun b2 o2 e2 hb2 => gwzc.block b2 hb2 (fun e => by have := hob b2 e.symm; injection e2 with e2; injection e2 with e2; omega)).imp stwzc fun _ _ _ _ hd => hd
          refine hK.out _ _ hSwzc ?_
          clear hK K
          try simp only [Act.put, List.setIfInBounds_toArray, List.set_cons_zero, List.set_cons_succ]
          refine held_one 8 rfl (by kernel_rfl) (by rfl) (fun K hK => ?_)
          simp only [Go.wp_at_zero, Go.wp_at_succ]
          refine wp_append_els (C := hoC) (k := 5) _ _ _ 25 rfl D2.heap.size 32 i0 _ 56 Tryd.underlying25 hi hz0 hz1 hz2 rfl (by decide) (.slice A5 M c5) M _ rfl own5 _ (some ⟨wz0.heap.size, 0, none⟩) 1 1 [x] rfl elsB rfl hoC_len hoC_one (by unfold maxLen; omega) (by omega) (by omega) ?_
          intro A7 c7 wz9 own7 g7 k7
          have hob5 : ∀ j, (Value.slice A5 M c5).ownBlock = some j → D2.heap.size ≤ j := fun j hj => (own5.lt j hj).1
          have hBwz9 : Below D2.heap.size D2 wz9 := hBwzc.grown g7 (by omega) (fun j hj => by have := hob5 j hj; omega)
          have hSwz9 : (fun w' : World => w'.cell? ⟨yb, yo + j * 5, none⟩ = some (.int .i64 x.id) ∧ w'.cell? ⟨yb, yo + j * 5 + 1, none⟩ = some (.int .i64 x.q) ∧ w'.cell? ⟨yb, yo + j * 5 + 2, none⟩ = some (.int .i64 x.u) ∧ w'.cell? ⟨yb, yo + j * 5 + 3, none⟩ = some (.bool x.r) ∧ w'.cell? ⟨yb, yo + j * 5 + 4, none⟩ = some (.slice x.A k x.c)) wz9 := ⟨(hBwz9.cell (p := ⟨yb, yo + j * 5, none⟩) (show yb < D2.heap.size by omega)).trans x0, (hBwz9.cell (p := ⟨yb, yo + j * 5 + 1, none⟩) (show yb < D2.heap.size by omega)).trans x1, (hBwz9.cell (p := ⟨yb, yo + j * 5 + 2, none⟩) (show yb < D2.heap.size by omega)).trans x2, (hBwz9.cell (p := ⟨yb, yo + j * 5 + 3, none⟩) (show yb < D2.heap.size by omega)).trans x3, (hBwz9.cell (p := ⟨yb, yo + j * 5 + 4, none⟩) (show yb < D2.heap.size by omega)).trans x4⟩
          refine hK.out _ _ hSwz9 ?_
          clear hK K
          try simp only [Act.put, List.setIfInBounds_toArray, List.set_cons_zero, List.set_cons_succ]
          have Own7 := Lib.hid own7
          clear own7 own5 g7 k7 hob5
          try clear hob
          try clear elsB
          try clear ElsB
          try clear Own5
          try clear OwnE
          try clear ownE
          try clear gwza kwza
          try clear gwzb kwzb
          try clear gwzc kwzc
          refine held_take (v := ?_) 9 3 rfl rfl (by kernel_rfl) (by kernel_rfl) (by kernel_rfl) (fun _ _ _ h => h) ⟨by rfl, ?_⟩ hSwz9 ?_
          rotate_left
          · intro w' hw'; obtain ⟨x0, x1, x2, x3, x4⟩ := hw'; go_simp; (try with_reducible rfl)
          simp only [Act.put, List.setIfInBounds_toArray, List.set_cons_zero, List.set_cons_succ]
          refine wpAnyH_done (by kernel_rfl) ?_ _
          have hlA : Hos wz9 wz9.heap.size A7 (l ++ [x]) := own_hos (by have := Own7.out; rw [← List.flatMap_append] at this; exact this) (by rw [List.length_append, HK.out.2.2.2.2.1]; rfl)
          clear f0 f1 b0 b1 b2 b3 b4 b5
          have hb9 := hBwz9
          clear hSwz9 hBwz9
          clear x0 x1 x2 x3 x4
          have hs9 := hb9.size
          replace HBel := Lib.hid (HBel.out.trans (hb9.mono hlow))
          replace B_f : Hid (wz9.heap[N_f]? = some (.cells #[.int .i64 G, .int .i64 C] 24 (0, 0))) := Lib.hid ((hb9.block _ l_f).trans B_f.out)
          replace B_b : Hid (wz9.heap[N_b]? = some (.cells #[.int .i64 X.q, .int .i64 X.n, .int .i64 X.S.g, .int .i64 X.S.c, .int .i64 X.S.mn, .int .i64 X.S.mx] 29 (0, 0))) := Lib.hid ((hb9.block _ l_b).trans B_b.out)
          replace B_fe : Hid (wz9.heap[fb]? = some (Or (0, 0))) := Lib.hid ((hb9.block _ l_fe).trans B_fe.out)
          replace B_ee : Hid (wz9.heap[eb]? = some (Oe (0, 0))) := Lib.hid ((hb9.block _ l_ee).trans B_ee.out)
          replace l_f : N_f < wz9.heap.size := by omega
          replace l_b : N_b < wz9.heap.size := by omega
          replace l_fe : fb < wz9.heap.size := by omega
          replace l_ee : eb < wz9.heap.size := by omega
          replace hlow : w.heap.size ≤ wz9.heap.size := by omega
          have HlA := Lib.hid hlA
          clear hb9 hs9 hlA HL6 HBX Own7
          have hEa := Lib.hid (show Calls Tryd.prog 14 #[.int .i64 now, .slice A4 n c4, .agg #[.int .i64 (G), .int .i64 (C)], .slice A7 (M + 1) c7, .agg #[.int .i64 X.q, .int .i64 X.n, .int .i64 X.S.g, .int .i64 X.S.c, .int .i64 X.S.mn, .int .i64 X.S.mx]] wz9 (fun e w' => ∃ T9, e = .returned (.tuple #[.int .i64 T9, .int .i64 0]) ∧ T9 ≤ P ∧ Below wz9.heap.size wz9 w') from by
            have hxy := hxy.out
            have hlen : (l ++ [x]).length = M + 1 := by rw [List.length_append, HK.out.2.2.2.2.1]; rfl
            have hkp : ∀ y ∈ l ++ [x], Kept w y := fun y hy => by
              rcases List.mem_append.1 hy with hy | hy
              · exact HK.out.2.2.2.2.2 y hy
              · rw [List.mem_singleton.1 hy]; exact hkx
            have hsm : ∀ y ∈ l ++ [x], y.sl.length ≤ 1000 := fun y hy => by have := (hkp y hy).2.2; omega
            have h9 := pearliest_any now A4 c4 lv2 (G) (C) A7 c7 (l ++ [x]) X wz9 (HfF.out wz9 B_fe.out l_fe) HF4.out.2.2 (by rw [HF4.out.2.1]; omega) ⟨HlA.out, fun y hy => (hkp y hy).1.keep HBel.out HBel.out.size⟩ (fun y hy => (hkp y hy).2.1) ⟨by omega, hsm⟩ (by have := sl_len hsm; omega) H.out.2.2.2.2.2.2.2.2.2 (by omega) (by omega) (HT.out.below HBel.out HT.out.size)
            rw [HF4.out.2.1, hlen] at h9
            refine h9.mono ?_
            rintro e w' ⟨T9, E9, rfl, hEl, hb⟩
            have h8 := HY.out.2
            rw [← hxy.1, ← hxy.2.1] at h8
            obtain ⟨rfl, rfl⟩ := hEl.same h8
            exact ⟨T9, rfl, hTP, hb⟩)
          have f0 : wz9.cell? ⟨N_f, 0, none⟩ = some (.int .i64 G) := cell_blk (i := 0) B_f.out rfl
          have f1 : wz9.cell? ⟨N_f, 1, none⟩ = some (.int .i64 C) := cell_blk (i := 1) B_f.out rfl
          have b0 : wz9.cell? ⟨N_b, 0, none⟩ = some (.int .i64 X.q) := cell_blk (i := 0) B_b.out rfl
          have b1 : wz9.cell? ⟨N_b, 1, none⟩ = some (.int .i64 X.n) := cell_blk (i := 1) B_b.out rfl
          have b2 : wz9.cell? ⟨N_b, 2, none⟩ = some (.int .i64 X.S.g) := cell_blk (i := 2) B_b.out rfl
          have b3 : wz9.cell? ⟨N_b, 3, none⟩ = some (.int .i64 X.S.c) := cell_blk (i := 3) B_b.out rfl
          have b4 : wz9.cell? ⟨N_b, 4, none⟩ = some (.int .i64 X.S.mn) := cell_blk (i := 4) B_b.out rfl
          have b5 : wz9.cell? ⟨N_b, 5, none⟩ = some (.int .i64 X.S.mx) := cell_blk (i := 5) B_b.out rfl
          go_wp2_with fail
          refine (hEa.out).mono ?_
          rintro e U3 ⟨T9, rfl, hT9, hb9⟩
          clear f0 f1 b0 b1 b2 b3 b4 b5
          have hs9 := hb9.size
          have HKe := Lib.hid (HlA.out.keep hb9 hb9.size)
          have t8 : decide (T9 > P) = false := decide_eq_false (by omega)
          have t9 : decide (P < T9) = false := decide_eq_false (by omega)
          replace HBel := Lib.hid (HBel.out.trans (hb9.mono hlow))
          replace B_f : Hid (U3.heap[N_f]? = some (.cells #[.int .i64 G, .int .i64 C] 24 (0, 0))) := Lib.hid ((hb9.block _ l_f).trans B_f.out)
          replace B_b : Hid (U3.heap[N_b]? = some (.cells #[.int .i64 X.q, .int .i64 X.n, .int .i64 X.S.g, .int .i64 X.S.c, .int .i64 X.S.mn, .int .i64 X.S.mx] 29 (0, 0))) := Lib.hid ((hb9.block _ l_b).trans B_b.out)
          replace B_fe : Hid (U3.heap[fb]? = some (Or (0, 0))) := Lib.hid ((hb9.block _ l_fe).trans B_fe.out)
          replace B_ee : Hid (U3.heap[eb]? = some (Oe (0, 0))) := Lib.hid ((hb9.block _ l_ee).trans B_ee.out)
          replace l_f : N_f < U3.heap.size := by omega
          replace l_b : N_b < U3.heap.size := by omega
          replace l_fe : fb < U3.heap.size := by omega
          replace l_ee : eb < U3.heap.size := by omega
          replace hlow : w.heap.size ≤ U3.heap.size := by omega
          clear hb9 hs9
          have hf9 := Lib.hid (HfF.out U3 B_fe.out l_fe)
          have hxy2 := hxy.out.2.2
          go_wp2
          go_roundw
          case rel =>
            refine ⟨j + 1, A4, c4, lv2, A7, c7, M + 1, l ++ [x], G, C, by go_num, by omega, rfl, rfl, by omega, by omega, HBel, B_f, B_b, Lib.hid ⟨hf9.out, HF4.out.2.2, HF4.out.2.1, HKe.out, by rw [List.length_append, HK.out.2.2.2.2.1]; rfl, fun y hy => ?_⟩⟩
            rcases List.mem_append.1 hy with hy | hy
            · exact HK.out.2.2.2.2.2 y hy
            · rw [List.mem_singleton.1 hy]; exact hkx
          case measure => simp [intOf]; omega
    · obtain rfl : j = q := by omega
      have t0 : decide (j < j) = false := by simp
      go_wp2
      go_ret
      exact ⟨rfl, by rw [HB0.out]; exact HBel.out⟩

set_option maxRecDepth 100000 in
set_option maxHeartbeats 1000000 in
theorem lifted (os : Os) (started : os.Started) (H : Type) (enc : TypeId × Value → H) :
    ReturnsInHanded {} Tryd.checked os 6 .any (fun w args => (Rows.fillManySpec.pre enc Tryd.prog Tryd.f6 [] false w args ∧ laidMetH Tryd.prog laid1 w) ∧ sizedMet enc Tryd.prog Tryd.f6 (OpenSpec.ofChange Rows.fillManySpec) false w args)
      (Rows.fillManySpec.post enc Tryd.prog Tryd.f6 false true false false) := by
  refine returnsInHanded_of_change_and (C := Tryd.checked) (X := fun w _ => laidMetH Tryd.prog laid1 w) (fun _ _ _ hh h => h.of_heap hh) own started (by kernel_rfl) Tryd.func6
    (ChangeSpec.witness_shaped (enc := enc) (C := Tryd.checked) (os := os) (X := fun w _ => laidMetH Tryd.prog laid1 w) false (World.doorLaid Tryd.prog 400 os) #[.int .i64 0, .slice none 0 0, .agg #[.int .i64 0, .int .i64 0], .slice none 0 0, .agg #[.int .i64 0, .int .i64 0, .int .i64 0, .int .i64 0, .int .i64 0, .int .i64 0], .slice none 0 0] 8 rfl (World.shaped_of_RefB (by kernel_rfl) (by kernel_rfl)) (by kernel_rfl) (by kernel_rfl) (by kernel_rfl) (door_met os _)) ?_
  intro W base args ds gs before hval0 hW _ _ hL _
  have hval : ∀ (j : Nat) t v, Tryd.f6.params[j]? = some t → args[j]? = some v → Value.okWide Tryd.prog W .any base t v := hval0
  have hW' := hW
  obtain ⟨p, q, hA0, hV, rfl, hfz, hnd⟩ := hW
  have hA : DataW.TrodAll enc Tryd.prog W 0 (fun _ => true) true Tryd.f6.params.toList args.toList ds p := hA0
  rw [Tryd.params6] at hA hval
  obtain ⟨v0, vs0, d0, ds0, p0, q0, hargs, rfl, rfl, h0, r0⟩ := trodAll_cons hA
  obtain ⟨v1, vs1, d1, ds1, p1, q1, rfl, rfl, rfl, h1, r1⟩ := trodAll_cons r0
  obtain ⟨v2, vs2, d2, ds2, p2, q2, rfl, rfl, rfl, h2, r2⟩ := trodAll_cons r1
  obtain ⟨v3, vs3, d3, ds3, p3, q3, rfl, rfl, rfl, h3, r3⟩ := trodAll_cons r2
  obtain ⟨v4, vs4, d4, ds4, p4, q4, rfl, rfl, rfl, h4, r4⟩ := trodAll_cons r3
  obtain ⟨v5, vs5, d5, ds5, p5, q5, rfl, rfl, rfl, h5, r5⟩ := trodAll_cons r4
  obtain ⟨rfl, rfl, rfl⟩ := trodAll_nil r5
  obtain rfl : args = #[v0, v1, v2, v3, v4, v5] := by cases args; simp_all
  obtain ⟨rfl, rfl⟩ := trodVars_none hV
  have k0 := h0
  have lt0 : ∀ x ∈ p0, x.block < W.heap.size := by obtain ⟨m, hm⟩ := k0; exact DataW.trod_lt m _ _ _ hm
  obtain ⟨a0, rfl, _, _, w0⟩ := open_int Tryd.underlying3 (hval 0 3 v0 rfl rfl) h0
  have k1 := h1
  have lt1 : ∀ x ∈ p1, x.block < W.heap.size := by obtain ⟨m, hm⟩ := k1; exact DataW.trod_lt m _ _ _ hm
  obtain ⟨a1, c1, l1, rfl, lc1, mc1, v1, q1⟩ := view_of (hval 1 22 v1 rfl rfl) h1
  have k2 := h2
  have lt2 : ∀ x ∈ p2, x.block < W.heap.size := by obtain ⟨m, hm⟩ := k2; exact DataW.trod_lt m _ _ _ hm
  obtain ⟨g2, c2, rfl, wg2, wc2⟩ := un2_of (hval 2 24 v2 rfl rfl) h2
  have k3 := h3
  have lt3 : ∀ x ∈ p3, x.block < W.heap.size := by obtain ⟨m, hm⟩ := k3; exact DataW.trod_lt m _ _ _ hm
  obtain ⟨a3, c3, l3, rfl, lc3, mc3, v3, q3⟩ := hos_of (hval 3 25 v3 rfl rfl) h3
  have k4 := h4
  have lt4 : ∀ x ∈ p4, x.block < W.heap.size := by obtain ⟨m, hm⟩ := k4; exact DataW.trod_lt m _ _ _ hm
  obtain ⟨x4, rfl, w4⟩ := wa_of (hval 4 29 v4 rfl rfl) h4
  have k5 := h5
  have lt5 : ∀ x ∈ p5, x.block < W.heap.size := by obtain ⟨m, hm⟩ := k5; exact DataW.trod_lt m _ _ _ hm
  obtain ⟨a5, c5, l5, rfl, lc5, mc5, v5, q5⟩ := hos_of (hval 5 25 v5 rfl rfl) h5
  have hT := of_laid hL
  clear hL
  clear hA0 hval0
  refine (walk a0 a1 c1 l1 g2 c2 a3 c3 l3 x4 a5 c5 l5 W w0 v1 q1 lc1 mc1 wg2 wc2 v3 q3 lc3 mc3 w4 v5 q5 lc5 mc5 hT).mono fun e W' ⟨he, bel⟩ => ?_
  subst he
  exact ⟨_, rfl, _, _, _, [], _, [], hW', trodAll_mk1 (shut_bool Tryd.underlying4 _), (trodAll_cons_mk (Below.trod laidOut (by kernel_rfl) (of_decide_eq_true (by kernel_rfl)) k0 bel lt0) (trodAll_cons_mk (Below.trod laidOut (by kernel_rfl) (of_decide_eq_true (by kernel_rfl)) k1 bel lt1) (trodAll_cons_mk (Below.trod laidOut (by kernel_rfl) (of_decide_eq_true (by kernel_rfl)) k2 bel lt2) (trodAll_cons_mk (Below.trod laidOut (by kernel_rfl) (of_decide_eq_true (by kernel_rfl)) k3 bel lt3) (trodAll_cons_mk (Below.trod laidOut (by kernel_rfl) (of_decide_eq_true (by kernel_rfl)) k4 bel lt4) (trodAll_cons_mk (Below.trod laidOut (by kernel_rfl) (of_decide_eq_true (by kernel_rfl)) k5 bel lt5) trodAll_mk0)))))), rfl, bel.frame _, fun h => by cases h⟩

/-- THE ROW. -/
theorem row_holds : Rows.FillManySaid :=
  OpenClaim.holds_of_wide 6 Tryd.f6 rfl rfl rfl rfl rfl rfl rfl ⟨rfl, rfl, rfl, rfl, rfl⟩ rfl rfl rfl rfl rfl (by kernel_rfl) Tryd.func6 (by kernel_rfl)
    (of_decide_eq_true (by kernel_rfl)) (by unfold Func.isWrapper; first | (rw [if_pos (by decide +kernel)]; kernel_rfl) | (rw [if_neg (by decide +kernel)]; exact ⟨rfl, rfl⟩))
    (fun os started H enc _ => lifted os started H enc)

/-- THE STATEMENT. -/
theorem card_holds : Rows.FillManyCardSaid :=
  Claim7.holds_tied_plain_at .later [] [.data] true (true, Rows.fillManyCard.stood.harness.2) false
    row_holds (fun _ h => by cases h) (by kernel_rfl) (fun _ h => by cases h) fillMany_row_tie rfl ⟨rfl, rfl⟩ (by kernel_rfl) rfl
    (fun f fn hf hfn => by
      obtain rfl : f = 6 := Option.some.inj ((show Tryd.prog.funcNamed Rows.fillManyRow.func = some 6 by kernel_rfl).symm.trans hf) |>.symm
      obtain rfl : fn = Tryd.f6 := (Option.some.inj (Tryd.func6.symm.trans hfn)).symm
      exact ⟨by kernel_rfl, fun j t ht => by
        rw [Tryd.params6] at ht
        have hm : t ∈ [3, 22, 24, 25, 29, 25] := by simpa using Array.mem_of_getElem? ht
        have hall : ([3, 22, 24, 25, 29, 25].all fun u => !Tryd.prog.wantsStandIn u) = true := by kernel_rfl
        exact (show Tryd.prog.wantsStandIn t = false by simpa using List.all_eq_true.1 hall t hm)⟩)
    (by kernel_rfl)
end Go.Proofs.YtikgmgimdeibgaaDoor.fillMany
