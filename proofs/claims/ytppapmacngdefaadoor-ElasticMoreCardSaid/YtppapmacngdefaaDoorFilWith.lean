/- without of package fill: the units left without those of the slots. -/
import Derived.Deep.QuietTactic
import Derived.BigQuiet
import Derived.StillTail
import Derived.StillTailTactics
import Derived.Test.YtppapmacngdefaaDoorProR
import Derived.Test.YtppapmacngdefaaDoorFilM
set_option maxRecDepth 100000
set_option linter.unusedVariables false
namespace Go.Proofs.YtppapmacngdefaaDoor
open Go.RowKit
open PR
set_option maxHeartbeats 4000000 in
theorem without_any (G0 C0 : Int) (A : Option Addr) (c : Nat) (l : List Fe) (w : World) (h : Fes w w.heap.size A l) (hn : l.length ≤ 1000) (hs : Low l)
    (g0 : -1099511627776 ≤ G0 ∧ G0 ≤ 1099511627776) (c0 : -1099511627776 ≤ C0 ∧ C0 ≤ 1099511627776) :
    Calls Tryd.prog 67 #[.agg #[.int .i64 G0, .int .i64 C0], .slice A l.length c] w fun e w' => e = .returned (.agg #[.int .i64 (G0 - gs l), .int .i64 (C0 - cs l)]) ∧ Below w.heap.size w w' := by
  obtain ⟨n, hnl⟩ : ∃ n, l.length = n := ⟨_, rfl⟩
  rw [hnl] at hn ⊢
  obtain ⟨R, hR⟩ : ∃ R, R = w.heap.size + 1 := ⟨_, rfl⟩
  obtain ⟨w2, hw2⟩ : ∃ w2, w2 = (w.alloc (.cells #[.int .i64 G0, .int .i64 C0] 40)).alloc (.cells #[.int .i64 0, .int .i64 0] 40) := ⟨_, rfl⟩
  have hB2 : Below w.heap.size w w2 := by rw [hw2]; exact ((Below.refl w.heap.size w).alloc (Nat.le_refl _) _).alloc (by simp) _
  have rU : w2.heap[w.heap.size]? = some (.cells #[.int .i64 G0, .int .i64 C0] 40 (0, 0)) := by
    rw [hw2]; exact (Below.heap_alloc _ _ _ (by simp)).trans (heap_alloc_new w _)
  have rR : w2.heap[R]? = some (.cells #[.int .i64 0, .int .i64 0] 40 (0, 0)) := by
    rw [hw2, hR]; have := heap_alloc_new (w.alloc (.cells #[.int .i64 G0, .int .i64 C0] 40)) (.cells #[.int .i64 0, .int .i64 0] 40); simpa using this
  have hUR : w.heap.size < R := by omega
  have HB2 := Lib.hid hB2
  have Q := Lib.hid (And.intro h (And.intro hs hnl))
  have HW2 := Lib.hid hw2
  have HR := Lib.hid hR
  have RR := Lib.hid rR
  have RU := Lib.hid rU
  clear rR rU hB2 h hs hnl hw2 hR
  go_enter Tryd.func67, Tryd.ntmps67
  go_wp2
  rw [← HR.out, ← HW2.out]
  go_loopw [9] (fun i wr => ∃ (j : Nat) (G2 C2 : Int), i = .int .i64 j ∧ j ≤ n ∧ Hid (Below w.heap.size w wr) ∧ Hid (G2 = G0 - gs (l.take j)) ∧ Hid (C2 = C0 - cs (l.take j)) ∧ Hid (wr.heap[R]? = some (.cells #[.int .i64 0, .int .i64 0] 40 (0, 0))) ∧ Hid (wr.heap[w.heap.size]? = some (.cells #[.int .i64 G2, .int .i64 C2] 40 (0, 0)))) (fun i _ => n - (intOf i).toNat)
  case atStart => exact ⟨0, G0, C0, rfl, by omega, HB2, Lib.hid (by simp [gs]), Lib.hid (by simp [cs]), RR, RU⟩
  case round =>
    clear RR RU HB2 HW2
    obtain ⟨j, G2, C2, rfl, hj, hBw, hG2, hC2, hR2, hT2⟩ := hrel
    have hBws := hBw.out.size
    by_cases hlj : j < n
    · obtain ⟨f, hf⟩ := get_lt (l := l) (k := j) (by rw [Q.out.2.2]; exact hlj)
      obtain ⟨sb, so, hA, hsb, hsc⟩ := Q.out.1.at_ hf
      obtain ⟨f0, f1, f2, f3⟩ := (hsc j f hf).keep hsb hBw.out
      have t2 : decide (j < n) = true := by simpa using hlj
      have hfl := Q.out.2.1 f (List.mem_of_getElem? hf)
      have g1 := gs_le (l.take j)
      have g2 := cs_le (l := l.take j) fun s hsm => (Q.out.2.1 s (List.mem_of_mem_take hsm)).2
      rw [List.length_take] at g1 g2
      have bG2 : -1200000000000 ≤ G2 ∧ G2 ≤ 1099511627776 := by rw [hG2.out]; omega
      have bC2 : -2200000000000 ≤ C2 ∧ C2 ≤ 1099511627776 := by rw [hC2.out]; omega
      obtain ⟨W, hW⟩ : ∃ W, W = wr.alloc (.cells #[.int .i64 f.n, .int .i64 f.d, .int .u64 (f.m : Nat), .int .i64 f.c] 63) := ⟨_, rfl⟩
      have gU : w.heap.size < wr.heap.size := blk_lt hT2.out
      have gR2 : R < wr.heap.size := blk_lt hR2.out
      have bT : W.heap[w.heap.size]? = some (.cells #[.int .i64 G2, .int .i64 C2] 40 (0, 0)) := by rw [hW]; exact (Below.heap_alloc _ _ _ gU).trans hT2.out
      have bR : W.heap[R]? = some (.cells #[.int .i64 0, .int .i64 0] 40 (0, 0)) := by rw [hW]; exact (Below.heap_alloc _ _ _ gR2).trans hR2.out
      have bF : W.heap[wr.heap.size]? = some (.cells #[.int .i64 f.n, .int .i64 f.d, .int .u64 (f.m : Nat), .int .i64 f.c] 63 (0, 0)) := by rw [hW]; exact heap_alloc_new wr _
      have hBW : Below w.heap.size w W := by rw [hW]; exact hBw.out.alloc hBws _
      have x0 : W.cell? ⟨w.heap.size, 0, none⟩ = some (.int .i64 G2) := cell_blk (i := 0) bT rfl
      have e2 : W.cell? ⟨wr.heap.size, 2, none⟩ = some (.int .u64 (f.m : Nat)) := cell_blk (i := 2) bF rfl
      have y0 : W.drew.cell? ⟨w.heap.size, 0, none⟩ = some (.int .i64 G2) := cell_blk (i := 0) bT rfl
      have y1 : W.drew.cell? ⟨w.heap.size, 1, none⟩ = some (.int .i64 C2) := cell_blk (i := 1) bT rfl
      have y3 : W.drew.cell? ⟨wr.heap.size, 2 + 1, none⟩ = some (.int .i64 f.c) := cell_blk (i := 3) bF rfl
      have z0 : W.drew.frozen? ⟨w.heap.size, 0, none⟩ = false := frozen_blk (w := W) bT
      have z1 : W.drew.frozen? ⟨w.heap.size, 1, none⟩ = false := frozen_blk (w := W) bT
      have YR : Hid (W.drew.heap[R]? = some (.cells #[.int .i64 0, .int .i64 0] 40 (0, 0))) := Lib.hid bR
      have YT : Hid (W.drew.heap[w.heap.size]? = some (.cells #[.int .i64 G2, .int .i64 C2] 40 (0, 0))) := Lib.hid bT
      have hBD : Hid (Below w.heap.size w W.drew) := Lib.hid hBW.drew
      have CN := Lib.hid (count_any f.m hfl.1.m)
      have hcnt := MM.cnt_le f.m
      have N1 := Lib.hid (gs_next hf)
      have N2 := Lib.hid (cs_next hf)
      have HW := Lib.hid hW
      have fc0 := hfl.2.1
      have fc1 := hfl.2.2
      have hUs : w.heap.size < wr.heap.size := gU
      rw [hA]
      clear hf hW bT bR bF hfl hsc g1 g2 hBW gR2 hR2 hT2 hBw hA
      go_wp2_with fail
      rw [← HW.out]
      go_still_tail 7, (by kernel_rfl)
      still_call ((CN.out _).mono fun _ _ h => ⟨h.1, h.2.symm⟩)
      repeat still_step
      refine wpStill_nil ?_
      change wpList _ _ _ _ _ W.drew
      clear x0 e2 HW f0 f1 f2 f3
      generalize W.drew = W' at y0 y1 y3 z0 z1 YR YT hBD ⊢
      go_wp2
      go_roundw
      case rel =>
        refine ⟨j + 1, G2 - MM.cnt f.m, C2 - f.c, by go_num, by omega, Lib.hid ((hBD.out.setCell (by first | (simp; done) | (simp; omega)) _).setCell (by first | (simp; done) | (simp; omega)) _), Lib.hid (by rw [N1.out, hG2.out]; omega), Lib.hid (by rw [N2.out, hC2.out]; omega), Lib.hid ?_, Lib.hid ?_⟩
        · exact ((Below.heap_setCell _ _ _ _ (by first | (simp; done) | (simp; omega))).trans (Below.heap_setCell _ _ _ _ (by first | (simp; done) | (simp; omega)))).trans YR.out
        · exact blk_put (i := 1) (.int .i64 (C2 - f.c)) (blk_put (i := 0) (.int .i64 (G2 - (MM.cnt f.m : Int))) YT.out)
      case measure => simp [intOf]; omega
    · obtain rfl : j = n := by omega
      have x0 : wr.cell? ⟨w.heap.size, 0, none⟩ = some (.int .i64 G2) := cell_blk (i := 0) hT2.out rfl
      have x1 : wr.cell? ⟨w.heap.size, 1, none⟩ = some (.int .i64 C2) := cell_blk (i := 1) hT2.out rfl
      have y0 : wr.cell? ⟨R, 0, none⟩ = some (.int .i64 0) := cell_blk (i := 0) hR2.out rfl
      have y1 : wr.cell? ⟨R, 1, none⟩ = some (.int .i64 0) := cell_blk (i := 1) hR2.out rfl
      have z0 : wr.frozen? ⟨R, 0, none⟩ = false := frozen_blk hR2.out
      have z1 : wr.frozen? ⟨R, 1, none⟩ = false := frozen_blk hR2.out
      have t2 : decide (j < j) = false := by simp
      have gR2 : R < wr.heap.size := blk_lt hR2.out
      clear hlj
      go_wp2
      refine bodyPost_ret (v := .agg #[.int .i64 G2, .int .i64 C2]) (by simp [results, Tryd.results67, go_sem, y0, y1]) rfl ?_
      have e : l.take j = l := by rw [← Q.out.2.2]; exact List.take_length
      refine ⟨?_, (hBw.out.setCell (by first | (simp; done) | (simp; omega)) _).setCell (by first | (simp; done) | (simp; omega)) _⟩
      rw [hG2.out, hC2.out, e]
end Go.Proofs.YtppapmacngdefaaDoor
