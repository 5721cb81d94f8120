/- A heap's take and first. -/
import Derived.Test.YtdoaihmeldkahaaTimerCut
set_option linter.unusedVariables false
namespace Go.Proofs.Ytdoaihmeldkahaa
open Go.RowKit

set_option maxRecDepth 100000 in
set_option maxHeartbeats 4000000 in
theorem first_none (p : Nat) (u v : Value) (w : World) (h : HpAt w p u v []) :
    Calls Try.prog 23 #[.pointer (some ⟨p, 0, none⟩)] w fun e w' => e = .returned (.tuple #[enV ⟨0, 0⟩, .bool false]) ∧ Below w.heap.size w w' := by
  obtain ⟨A', cp, rfl⟩ : ∃ A c, v = .slice A 0 c := by
    rcases h.row.2 with ⟨rfl, h0⟩ | ⟨g, cap, cur, rfl, _⟩
    · exact ⟨none, 0, rfl⟩
    · exact ⟨_, _, rfl⟩
  obtain ⟨c0, _⟩ := h.head
  have hpl := h.lt.1
  have hB := Lib.hid ((((Below.refl w.heap.size w).alloc (Nat.le_refl _) (.cells #[.int .i64 0, .int .i64 0] 62)).alloc (by simp) (.cells #[.int .i64 0, .int .i64 0] 62)))
  clear h
  unfold enV
  go_enter Try.func23, Try.ntmps23
  go_wp2
  have bN := heap_alloc_new w (.cells #[.int .i64 0, .int .i64 0] 62)
  have y0 : (((w.alloc (.cells #[.int .i64 0, .int .i64 0] 62)).alloc (.cells #[.int .i64 0, .int .i64 0] 62))).cell? ⟨w.heap.size, 0, none⟩ = some (.int .i64 0) := cell_blk (i := 0) ((Below.heap_alloc _ _ _ (by simp)).trans bN) rfl
  have y1 : (((w.alloc (.cells #[.int .i64 0, .int .i64 0] 62)).alloc (.cells #[.int .i64 0, .int .i64 0] 62))).cell? ⟨w.heap.size, 1, none⟩ = some (.int .i64 0) := cell_blk (i := 1) ((Below.heap_alloc _ _ _ (by simp)).trans bN) rfl
  refine bodyPost_ret (v := .tuple #[.agg #[.int .i64 0, .int .i64 0], .bool false]) (by simp [results, Try.results23, go_sem, y0, y1]) rfl ?_
  exact ⟨rfl, hB.out⟩
theorem first_some (p : Nat) (u v : Value) (H : List En) (x : En) (w : World) (h : HpAt w p u v H) (hx : H[0]? = some x) :
    Calls Try.prog 23 #[.pointer (some ⟨p, 0, none⟩)] w fun e w' => e = .returned (.tuple #[enV x, .bool true]) ∧ Below w.heap.size w w' := by
  have hl := (List.getElem?_eq_some_iff.1 hx).1
  obtain ⟨g, cap, rfl, hg, hgp⟩ := h.form (by omega)
  obtain ⟨c0, _⟩ := h.head
  obtain ⟨x0, x1, _, _⟩ := h.cells hx
  have hpl := h.lt.1
  have hfew := h.few
  obtain ⟨n, hn⟩ : ∃ n, n = H.length := ⟨_, rfl⟩
  rw [← hn] at c0 hl hfew
  have t0 : ((n : Int) == 0) = false := by simp; omega
  have hB := Lib.hid ((((Below.refl w.heap.size w).alloc (Nat.le_refl _) (.cells #[.int .i64 x.i, .int .i64 x.k] 62))))
  clear h hx hn
  obtain ⟨xk, xi⟩ := x
  simp only [Nat.zero_mul, Nat.zero_add] at x0 x1
  unfold enV
  go_enter Try.func23, Try.ntmps23
  go_wp2
  have bN := heap_alloc_new w (.cells #[.int .i64 xi, .int .i64 xk] 62)
  have y0 := cell_blk (i := 0) bN rfl
  have y1 := cell_blk (i := 1) bN rfl
  refine bodyPost_ret (v := .tuple #[.agg #[.int .i64 xi, .int .i64 xk], .bool true]) (by simp [results, Try.results23, go_sem, y0, y1]) rfl ?_
  exact ⟨rfl, hB.out⟩
set_option maxRecDepth 100000 in
set_option maxHeartbeats 4000000 in
theorem take_heap (p : Nat) (u v : Value) (H : List En) (x : En) (w : World) (h : HpAt w p u v H) (hx : x ∈ H) (hh : TM.Heap (TM.at_ H) H.length) :
    Calls Try.prog 22 #[.pointer (some ⟨p, 0, none⟩), enV x] w fun e w' => e = .returned (.tuple #[]) ∧ ∃ v' H', HpAt w' p u v' H' ∧ (x :: H').Perm H ∧ TM.Heap (TM.at_ H') H'.length ∧ v'.ownBlock = v.ownBlock ∧ Foot (pB p v) w w' := by
  obtain ⟨kx, hkx⟩ := List.mem_iff_getElem?.1 hx
  have hkl := (List.getElem?_eq_some_iff.1 hkx).1
  obtain ⟨g, cap, rfl, hg, hgp⟩ := h.form (by omega)
  have hb1 : Below w.heap.size w (w.alloc (.cells #[.int .i64 x.i, .int .i64 x.k] 62)) := (Below.refl _ _).alloc (Nat.le_refl _) _
  have hN1 := heap_alloc_new w (.cells #[.int .i64 x.i, .int .i64 x.k] 62)
  obtain ⟨w1, hw1⟩ : ∃ w1, w1 = w.alloc (.cells #[.int .i64 x.i, .int .i64 x.k] 62) := ⟨_, rfl⟩
  rw [← hw1] at hb1 hN1
  have hs1 : w1.heap.size = w.heap.size + 1 := by rw [hw1]; simp
  obtain ⟨c0, _⟩ := h.head
  have hpl := h.lt.1
  have hfew := h.few
  obtain ⟨n, hn⟩ : ∃ n, n = H.length := ⟨_, rfl⟩
  have hN2 : w1.heap[w.heap.size]? = some (.cells #[.int .i64 x.i, .int .i64 x.k] 62 (0, 0)) := hN1
  have H0 := Lib.hid (And.intro h (And.intro hh (And.intro hn hkx)))
  have HS := Lib.hid (show Below w.heap.size w w1 ∧ w1.heap[w.heap.size]? = some (.cells #[.int .i64 x.i, .int .i64 x.k] 62 (0, 0)) ∧ ∀ j, j < 0 → H[j]? ≠ some x from ⟨hb1, hN1, fun j hj => by omega⟩)
  have HW := Lib.hid hw1
  rw [← hn] at c0 hkl hfew ⊢
  clear h hx hh hn hkx hw1 hb1 hN1 hN2
  obtain ⟨xk, xi⟩ := x
  unfold enV
  simp only at HW HS H0 ⊢
  go_enter Try.func22, Try.ntmps22
  go_wp2_with fail
  rw [← HW.out]
  go_loopw [4, 5, 11] (fun _ _ i wr => ∃ k : Nat, i = .int .i64 k ∧ k ≤ n ∧ w.heap.size < wr.heap.size ∧ Hid (Below w.heap.size w wr ∧ wr.heap[w.heap.size]? = some (.cells #[.int .i64 xi, .int .i64 xk] 62 (0, 0)) ∧ ∀ j, j < k → H[j]? ≠ some ⟨xk, xi⟩)) (fun _ _ i _ => n - (intOf i).toNat)
  case atStart => exact ⟨0, rfl, by omega, by omega, HS⟩
  case round =>
    obtain ⟨k, rfl, hk, hsz, hin⟩ := hrel
    obtain ⟨hBl, hNl, hno⟩ := hin.out
    have hkn : k < n := by
      rcases Nat.lt_or_ge k n with h1 | h1
      · exact h1
      · exact absurd H0.out.2.2.2 (hno _ (by omega))
    obtain ⟨⟨yk, yi⟩, hy⟩ := get_lt (l := H) (k := k) (by rw [← H0.out.2.2.1]; exact hkn)
    have hA' := H0.out.1.keep hBl
    obtain ⟨y0, y1, _, _⟩ := hA'.cells hy
    have hgl := hA'.lt.2 g rfl
    have x0 : wr.cell? ⟨w.heap.size, 0, none⟩ = some (.int .i64 xi) := cell_blk (i := 0) hNl rfl
    have x1 : wr.cell? ⟨w.heap.size, 1, none⟩ = some (.int .i64 xk) := cell_blk (i := 1) hNl rfl
    have t0 : decide (k < n) = true := decide_eq_true hkn
    obtain ⟨W, hW⟩ : ∃ W, W = wr.alloc (.cells #[.int .i64 yi, .int .i64 yk] 62) := ⟨_, rfl⟩
    have hBW : Below wr.heap.size wr W := by rw [hW]; exact (Below.refl _ _).alloc (Nat.le_refl _) _
    have hNW : W.heap[wr.heap.size]? = some (.cells #[.int .i64 yi, .int .i64 yk] 62 (0, 0)) := by rw [hW]; exact heap_alloc_new wr _
    have z0 : W.cell? ⟨wr.heap.size, 0, none⟩ = some (.int .i64 yi) := cell_blk (i := 0) hNW rfl
    have z1 : W.cell? ⟨wr.heap.size, 1, none⟩ = some (.int .i64 yk) := cell_blk (i := 1) hNW rfl
    have v0 := (hBW.cell (p := ⟨w.heap.size, 0, none⟩) hsz).trans x0
    have v1 := (hBW.cell (p := ⟨w.heap.size, 1, none⟩) hsz).trans x1
    have hWs : W.heap.size = wr.heap.size + 1 := by rw [hW]; simp
    have hws2 : wr.heap.size < W.heap.size := by omega
    have HA1 := Lib.hid (fun W => ahead_any ⟨xk, xi⟩ ⟨yk, yi⟩ W)
    have HA2 := Lib.hid (fun W => ahead_any ⟨yk, yi⟩ ⟨xk, xi⟩ W)
    have hEq := @TM.eq_iff ⟨xk, xi⟩ ⟨yk, yi⟩
    obtain ⟨R1, hR1⟩ : ∃ R1, R1 = TM.ltB ⟨xk, xi⟩ ⟨yk, yi⟩ := ⟨_, rfl⟩
    obtain ⟨R2, hR2⟩ : ∃ R2, R2 = TM.ltB ⟨yk, yi⟩ ⟨xk, xi⟩ := ⟨_, rfl⟩
    rw [← hR1] at HA1 hEq
    rw [← hR2] at HA2 hEq
    simp only [enV] at HA1 HA2
    have HX := Lib.hid (And.intro hEq (And.intro hy (And.intro hBl (And.intro hNl (And.intro hno (And.intro hBW hW))))))
    clear hEq hR1 hR2 hy hBl hNl hno hBW hW hNW hin hA' hWs
    have arm1 : ∀ w2, Below (wr.alloc (.cells #[.int .i64 yi, .int .i64 yk] 62)).heap.size (wr.alloc (.cells #[.int .i64 yi, .int .i64 yk] 62)) w2 → w2.cell? ⟨w.heap.size, 0, none⟩ = some (.int .i64 xi) ∧ w2.cell? ⟨w.heap.size, 1, none⟩ = some (.int .i64 xk) ∧ w2.cell? ⟨wr.heap.size, 0, none⟩ = some (.int .i64 yi) ∧ w2.cell? ⟨wr.heap.size, 1, none⟩ = some (.int .i64 yk) ∧ Below wr.heap.size wr w2 := fun w2 hb => by
      obtain ⟨_, _, _, _, _, hBW, hW⟩ := HX.out
      rw [← hW] at hb
      exact ⟨(hb.cell (p := ⟨w.heap.size, 0, none⟩) (show w.heap.size < W.heap.size by omega)).trans v0, (hb.cell (p := ⟨w.heap.size, 1, none⟩) (show w.heap.size < W.heap.size by omega)).trans v1, (hb.cell (p := ⟨wr.heap.size, 0, none⟩) hws2).trans z0, (hb.cell (p := ⟨wr.heap.size, 1, none⟩) hws2).trans z1, below_step hBW hb⟩
    have Arm1 := Lib.hid arm1
    clear arm1 v0 v1 z0 z1 hws2
    cases R1
    · cases R2
      · go_wp2_with (first
          | (go_at_call 43; (with_reducible refine (HA1.out _).mono ?_); rintro e w2 ⟨rfl, hb2⟩; obtain ⟨a0, a1, a2, a3, hB2⟩ := Arm1.out _ hb2)
          | (go_at_call 43; (with_reducible refine (HA2.out _).mono ?_); rintro e w3 ⟨rfl, hb3⟩))
        have HY := Lib.hid (show Below w.heap.size w w3 ∧ H[k]? = some ⟨xk, xi⟩ from by
          obtain ⟨hEq, hy, hBl, _⟩ := HX.out
          have e : (⟨xk, xi⟩ : En) = ⟨yk, yi⟩ := of_decide_eq_true (by simpa using hEq.symm)
          exact ⟨hBl.trans ((below_step hB2 hb3).mono hBl.size), by rw [e]; exact hy⟩)
        have HC := Lib.hid (cut_heap p u (.slice (some ⟨g, 0, none⟩) H.length cap) H k ⟨xk, xi⟩ w3 (H0.out.1.keep HY.out.1) HY.out.2 H0.out.2.1)
        (with_reducible refine HC.out.mono ?_)
        rintro e w4 ⟨rfl, v4, H4, hA4, hP4, hh4, ho4, hF4⟩
        go_wp2_with fail
        first | go_end0 | go_ret | (refine bodyPost_ret (v := .tuple #[]) (by simp [results, go_sem]) rfl ?_)
        exact ⟨rfl, v4, H4, hA4, hP4, hh4, ho4, (Foot.of_below (F := pB p (.slice (some ⟨g, 0, none⟩) n cap)) HY.out.1).trans hF4 (fun i hi => .inl hi)⟩
      · go_wp2_with (first
          | (go_at_call 43; (with_reducible refine (HA1.out _).mono ?_); rintro e w2 ⟨rfl, hb2⟩; obtain ⟨a0, a1, a2, a3, hB2⟩ := Arm1.out _ hb2)
          | (go_at_call 43; (with_reducible refine (HA2.out _).mono ?_); rintro e w3 ⟨rfl, hb3⟩))
        refine ⟨⟨k + 1, by go_num, by omega, by have := (below_step hB2 hb3).size; omega, Lib.hid ?_⟩, by simp [intOf]; omega⟩
        obtain ⟨hEq, hy, hBl, hNl, hno, _⟩ := HX.out
        have hne : (⟨xk, xi⟩ : En) ≠ ⟨yk, yi⟩ := of_decide_eq_false (by simpa using hEq.symm)
        refine ⟨hBl.trans ((below_step hB2 hb3).mono hBl.size), ((below_step hB2 hb3).block _ hsz).trans hNl, fun j hj => ?_⟩
        by_cases e : j = k
        · subst e; rw [hy]; intro e2; injection e2 with e2; exact hne e2.symm
        · exact hno j (by omega)
    · go_wp2_with (first
          | (go_at_call 43; (with_reducible refine (HA1.out _).mono ?_); rintro e w2 ⟨rfl, hb2⟩; obtain ⟨a0, a1, a2, a3, hB2⟩ := Arm1.out _ hb2)
          | (go_at_call 43; (with_reducible refine (HA2.out _).mono ?_); rintro e w3 ⟨rfl, hb3⟩))
      refine ⟨⟨k + 1, by go_num, by omega, by have := hB2.size; omega, Lib.hid ?_⟩, by simp [intOf]; omega⟩
      obtain ⟨hEq, hy, hBl, hNl, hno, _⟩ := HX.out
      have hne : (⟨xk, xi⟩ : En) ≠ ⟨yk, yi⟩ := of_decide_eq_false (by simpa using hEq.symm)
      refine ⟨hBl.trans (hB2.mono hBl.size), (hB2.block _ hsz).trans hNl, fun j hj => ?_⟩
      by_cases e : j = k
      · subst e; rw [hy]; intro e2; injection e2 with e2; exact hne e2.symm
      · exact hno j (by omega)
end Go.Proofs.Ytdoaihmeldkahaa
