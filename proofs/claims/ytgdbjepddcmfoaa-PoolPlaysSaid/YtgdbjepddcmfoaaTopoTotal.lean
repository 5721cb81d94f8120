/- What a topology tells: Total. -/
import Derived.StillTailTactics
import Derived.Test.YtgdbjepddcmfoaaTopoAll
namespace Go.Proofs.Ytgdbjepddcmfoaa
open Go.RowKit

def gsum (l : List Fr) : Nat := (l.map fun f => MM.cnt f.m).sum
def csum (l : List Fr) : Nat := (l.map fun f => f.c).sum
theorem gsum_next {l : List Fr} {k : Nat} {f : Fr} (h : l[k]? = some f) : gsum (l.take (k + 1)) = gsum (l.take k) + MM.cnt f.m := by
  unfold gsum; rw [take_next h]; simp
theorem csum_next {l : List Fr} {k : Nat} {f : Fr} (h : l[k]? = some f) : csum (l.take (k + 1)) = csum (l.take k) + f.c := by
  unfold csum; rw [take_next h]; simp
theorem sums_le : ∀ (l : List Fr), (∀ f ∈ l, f.m < 18446744073709551616 ∧ f.c ≤ 1024) → gsum l ≤ 64 * l.length ∧ csum l ≤ 1024 * l.length
  | [], _ => ⟨Nat.le_refl _, Nat.le_refl _⟩
  | f :: l, h => by
    obtain ⟨h1, h2⟩ := sums_le l fun x hx => h x (List.mem_cons_of_mem _ hx)
    have := (h f (by simp)).2
    have := MM.cnt_le f.m
    simp only [gsum, csum, List.map_cons, List.sum_cons, List.length_cons] at h1 h2 ⊢
    omega
set_option maxRecDepth 100000 in
set_option maxHeartbeats 2000000 in
theorem total_any (a k : Nat) (l : List Fr) (w : World) (h : TopoAt w a k l) (h0 : 0 < l.length) (hl : l.length ≤ 1000) (hf : ∀ f ∈ l, f.m < 18446744073709551616 ∧ f.c ≤ 1024) :
    Calls Try.prog 29 #[.pointer (some ⟨a, 0, none⟩)] w fun e w' => e = .returned (.agg #[.int .i64 (gsum l : Nat), .int .i64 (csum l : Nat)]) ∧ Below w.heap.size w w' := by
  obtain ⟨m, A, c, h1, h2, h3⟩ := h
  obtain ⟨f, hx⟩ := get_lt h0
  obtain ⟨b, off, rfl, hb, hc⟩ := h2.at_ hx
  have ha := blk_lt h1
  obtain ⟨n, hln⟩ : ∃ n, l.length = n := ⟨_, rfl⟩
  rw [hln] at h0 hl h1
  have hB1 := ((Below.refl w.heap.size w).alloc (Nat.le_refl _) (.cells #[.int .i64 0, .int .i64 0] 44)).alloc (by simp) (.cells #[.int .i64 0, .int .i64 0] 44)
  have c2 : ((w.alloc (.cells #[.int .i64 0, .int .i64 0] 44)).alloc (.cells #[.int .i64 0, .int .i64 0] 44)).cell? ⟨a, 1, none⟩ = some (.slice (some ⟨b, off, none⟩) n c) := (hB1.cell (p := ⟨a, 1, none⟩) ha).trans (cell_blk (i := 1) h1 rfl)
  have r1 : ((w.alloc (.cells #[.int .i64 0, .int .i64 0] 44)).alloc (.cells #[.int .i64 0, .int .i64 0] 44)).heap[w.heap.size]? = some (.cells #[.int .i64 0, .int .i64 0] 44 (0, 0)) := (Below.heap_alloc _ _ _ (by simp)).trans (heap_alloc_new w _)
  have r2 : ((w.alloc (.cells #[.int .i64 0, .int .i64 0] 44)).alloc (.cells #[.int .i64 0, .int .i64 0] 44)).heap[w.heap.size + 1]? = some (.cells #[.int .i64 ((0 : Nat) : Int), .int .i64 ((0 : Nat) : Int)] 44 (0, 0)) := by
    have := heap_alloc_new (w.alloc (.cells #[.int .i64 0, .int .i64 0] 44)) (.cells #[.int .i64 0, .int .i64 0] 44)
    simpa using this
  have H := Lib.hid (And.intro hln (And.intro hc (And.intro r1 (And.intro r2 hf))))
  clear h1 h2 h3 hc hx hln r1 r2 hf
  go_enter Try.func29, Try.ntmps29
  go_wp2
  obtain ⟨w1, hw1⟩ : ∃ w1, w1 = (w.alloc (.cells #[.int .i64 0, .int .i64 0] 44)).alloc (.cells #[.int .i64 0, .int .i64 0] 44) := ⟨_, rfl⟩
  rw [← hw1] at H hB1 ⊢
  clear c2 hw1
  go_loopw [11] (fun i wr => ∃ (k G C : Nat), i = .int .i64 k ∧ k ≤ n ∧ Below w.heap.size w wr ∧ Hid (G = gsum (l.take k)) ∧ Hid (C = csum (l.take k)) ∧ Hid (wr.heap[w.heap.size]? = some (.cells #[.int .i64 0, .int .i64 0] 44 (0, 0))) ∧ Hid (wr.heap[w.heap.size + 1]? = some (.cells #[.int .i64 (G : Nat), .int .i64 (C : Nat)] 44 (0, 0)))) (fun i _ => n - (intOf i).toNat)
  case atStart => exact ⟨0, 0, 0, rfl, by omega, hB1, Lib.hid rfl, Lib.hid rfl, Lib.hid H.out.2.2.1, Lib.hid H.out.2.2.2.1⟩
  case round =>
    obtain ⟨k, G, C, rfl, hk, hBl, hG, hC, hR, hTt⟩ := hrel
    have hBs := hBl.size
    by_cases hlt : k < n
    · obtain ⟨f, hx⟩ := get_lt (l := l) (k := k) (by rw [H.out.1]; exact hlt)
      obtain ⟨f0, f1, f2, f3⟩ := (H.out.2.1 k f hx).keep (B := w.heap.size) hb hBl
      have t0 : decide (k < n) = true := by simpa using hlt
      have hfm := H.out.2.2.2.2 f (List.mem_of_getElem? hx)
      obtain ⟨s1, s2⟩ := sums_le (l.take k) fun y hy => H.out.2.2.2.2 y (List.mem_of_mem_take hy)
      rw [List.length_take, ← hG.out] at s1
      rw [List.length_take, ← hC.out] at s2
      have gT : w.heap.size + 1 < wr.heap.size := blk_lt hTt.out
      obtain ⟨W, hW⟩ : ∃ W, W = wr.alloc (.cells #[.int .i64 (f.n : Nat), .int .i64 (f.d : Nat), .int .u64 (f.m : Nat), .int .i64 (f.c : Nat)] 62) := ⟨_, rfl⟩
      have bT : W.heap[w.heap.size + 1]? = some (.cells #[.int .i64 (G : Nat), .int .i64 (C : Nat)] 44 (0, 0)) := by rw [hW]; exact (Below.heap_alloc _ _ _ gT).trans hTt.out
      have bR : W.heap[w.heap.size]? = some (.cells #[.int .i64 0, .int .i64 0] 44 (0, 0)) := by rw [hW]; exact (Below.heap_alloc _ _ _ (by omega)).trans hR.out
      have bF : W.heap[wr.heap.size]? = some (.cells #[.int .i64 (f.n : Nat), .int .i64 (f.d : Nat), .int .u64 (f.m : Nat), .int .i64 (f.c : Nat)] 62 (0, 0)) := by rw [hW]; exact heap_alloc_new wr _
      have hBW : Below w.heap.size w W := by rw [hW]; exact hBl.alloc hBs _
      have x0 : W.cell? ⟨w.heap.size + 1, 0, none⟩ = some (.int .i64 (G : Nat)) := cell_blk (i := 0) bT rfl
      have e2 : W.cell? ⟨wr.heap.size, 2, none⟩ = some (.int .u64 (f.m : Nat)) := cell_blk (i := 2) bF rfl
      have y0 : W.drew.cell? ⟨w.heap.size + 1, 0, none⟩ = some (.int .i64 (G : Nat)) := cell_blk (i := 0) bT rfl
      have y1 : W.drew.cell? ⟨w.heap.size + 1, 1, none⟩ = some (.int .i64 (C : Nat)) := cell_blk (i := 1) bT rfl
      have y3 : W.drew.cell? ⟨wr.heap.size, 3, none⟩ = some (.int .i64 (f.c : Nat)) := cell_blk (i := 3) bF rfl
      have z0 : W.drew.frozen? ⟨w.heap.size + 1, 0, none⟩ = false := frozen_blk (w := W) bT
      have z1 : W.drew.frozen? ⟨w.heap.size + 1, 1, none⟩ = false := frozen_blk (w := W) bT
      have YR : Hid (W.drew.heap[w.heap.size]? = some (.cells #[.int .i64 0, .int .i64 0] 44 (0, 0))) := Lib.hid bR
      have YT : Hid (W.drew.heap[w.heap.size + 1]? = some (.cells #[.int .i64 (G : Nat), .int .i64 (C : Nat)] 44 (0, 0))) := Lib.hid bT
      have hBD := hBW.drew
      have CN := Lib.hid (count_any f.m hfm.1)
      have hcnt := MM.cnt_le f.m
      have NG := Lib.hid (gsum_next hx)
      have NC := Lib.hid (csum_next hx)
      have HW := Lib.hid hW
      clear hx hW bT bR bF
      go_wp2_with fail
      rw [← HW.out]
      go_still_tail 6, (by kernel_rfl)
      still_call ((CN.out _).mono fun _ _ h => ⟨h.1, h.2.symm⟩)
      repeat still_step
      refine wpStill_nil ?_
      change wpList _ _ _ _ _ W.drew
      clear x0 e2 hBW HW
      generalize W.drew = W' at y0 y1 y3 z0 z1 YR YT hBD ⊢
      go_wp2
      go_roundw
      case rel =>
        refine ⟨k + 1, G + MM.cnt f.m, C + f.c, by go_num, by omega, (hBD.setCell (by simp) _).setCell (by simp) _, Lib.hid (by rw [NG.out, hG.out]), Lib.hid (by rw [NC.out, hC.out]), Lib.hid ?_, Lib.hid ?_⟩
        · exact ((Below.heap_setCell _ _ _ _ (by simp)).trans (Below.heap_setCell _ _ _ _ (by simp))).trans YR.out
        · have := blk_put (i := 1) (.int .i64 ((C : Int) + (f.c : Int))) (blk_put (i := 0) (.int .i64 ((G : Int) + (MM.cnt f.m : Int))) YT.out)
          simpa using this
      case measure => simp [intOf]; omega
    · obtain rfl : k = n := by omega
      have gT : w.heap.size + 1 < wr.heap.size := blk_lt hTt.out
      have x0 : wr.cell? ⟨w.heap.size + 1, 0, none⟩ = some (.int .i64 (G : Nat)) := cell_blk (i := 0) hTt.out rfl
      have x1 : wr.cell? ⟨w.heap.size + 1, 1, none⟩ = some (.int .i64 (C : Nat)) := cell_blk (i := 1) hTt.out rfl
      have y0 : wr.cell? ⟨w.heap.size, 0, none⟩ = some (.int .i64 0) := cell_blk (i := 0) hR.out rfl
      have y1 : wr.cell? ⟨w.heap.size, 1, none⟩ = some (.int .i64 0) := cell_blk (i := 1) hR.out rfl
      have z0 : wr.frozen? ⟨w.heap.size, 0, none⟩ = false := frozen_blk hR.out
      have z1 : wr.frozen? ⟨w.heap.size, 1, none⟩ = false := frozen_blk hR.out
      clear hlt
      go_wp2
      refine bodyPost_ret (v := .agg #[.int .i64 (G : Nat), .int .i64 (C : Nat)]) (by simp [results, Try.results29, go_sem, y0, y1]) rfl ?_
      have e : l.take k = l := by rw [← H.out.1]; exact List.take_length
      refine ⟨?_, (hBl.setCell (Nat.le_refl _) _).setCell (Nat.le_refl _) _⟩
      rw [hG.out, hC.out, e]
end Go.Proofs.Ytgdbjepddcmfoaa
