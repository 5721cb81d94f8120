/- What is done to one slot of a view: the closures of Less and More. -/
import Derived.RegionTactic
import Derived.BigRegion
import Derived.StillTactics
import Derived.StillTailTactics
import Derived.Deep.QuietTactic
import Derived.BigQuiet
import Derived.Test.YtjbjjdcmkbigdaaDoorFoot
import Derived.Test.YtjbjjdcmkbigdaaDoorPackMem
namespace Go.Proofs.YtjbjjdcmkbigdaaDoor
open Go.RowKit
/-- Block g holds these, at its head. -/
def OwnF (w : World) (g : Nat) (l : List Fe) : Prop :=
  ∃ cur : Array Value, w.heap[g]? = some (.cells cur 45 (0, 0)) ∧ cur.toList.take (l.length * 4) = l.flatMap feC
theorem OwnF.lt {w : World} {g : Nat} {l : List Fe} (h : OwnF w g l) : g < w.heap.size := by obtain ⟨cur, h1, _⟩ := h; exact blk_lt h1
theorem OwnF.of_block {w w' : World} {g : Nat} {l : List Fe} (h : OwnF w g l) (e : w'.heap[g]? = w.heap[g]?) : OwnF w' g l := by
  obtain ⟨cur, h1, h2⟩ := h; exact ⟨cur, e.trans h1, h2⟩
theorem OwnF.cell {w : World} {g k r : Nat} {l : List Fe} {f : Fe} {u : Value} (h : OwnF w g l) (hk : l[k]? = some f) (hr : r < 4) (hu : (feC f)[r]? = some u) : w.cell? ⟨g, k * 4 + r, none⟩ = some u := by
  obtain ⟨cur, h1, h2⟩ := h
  have hl := (List.getElem?_eq_some_iff.1 hk).1
  refine cell_blk h1 ?_
  have e : (cur.toList.take (l.length * 4))[k * 4 + r]? = (l.flatMap feC)[k * 4 + r]? := congrArg (fun x => x[k * 4 + r]?) h2
  rw [List.getElem?_take, if_pos (by omega), fe_flat hk hr, hu] at e
  simpa using e
theorem OwnF.frozen {w : World} {g o : Nat} {l : List Fe} (h : OwnF w g l) : w.frozen? ⟨g, o, none⟩ = false := by obtain ⟨cur, h1, _⟩ := h; exact frozen_blk h1
theorem OwnF.fes {w : World} {g : Nat} {l : List Fe} (h : OwnF w g l) : Fes w w.heap.size (some ⟨g, 0, none⟩) l := by
  refine .inr ⟨g, 0, rfl, h.lt, fun i f hf => ?_⟩
  rw [Nat.zero_add]
  exact ⟨h.cell hf (by omega) (r := 0) rfl, h.cell hf (r := 1) (by omega) rfl, h.cell hf (r := 2) (by omega) rfl, h.cell hf (r := 3) (by omega) rfl⟩
theorem fe_set : ∀ {l : List Fe} {k : Nat} {f : Fe} (m : Nat) (c : Int), l[k]? = some f → (l.set k ⟨f.n, f.d, m, c⟩).flatMap feC = ((l.flatMap feC).set (k * 4 + 2) (.int .u64 (m : Nat))).set (k * 4 + 3) (.int .i64 c)
  | [], _, _, _, _, h => by simp at h
  | x :: l, 0, f, m, c, h => by simp at h; subst h; simp [feC]
  | x :: l, k + 1, f, m, c, h => by
    have ih := fe_set m c (l := l) (k := k) (f := f) (by simpa using h)
    rw [List.set_cons_succ, List.flatMap_cons, ih, List.flatMap_cons, show (k + 1) * 4 + 2 = k * 4 + 2 + 4 by omega, show (k + 1) * 4 + 3 = k * 4 + 3 + 4 by omega]
    simp [feC]
theorem OwnF.put {w : World} {g k : Nat} {l : List Fe} {f : Fe} (m : Nat) (c : Int) (h : OwnF w g l) (hk : l[k]? = some f) :
    OwnF ((w.setCell ⟨g, k * 4 + 2, none⟩ (.int .u64 (m : Nat))).setCell ⟨g, k * 4 + 3, none⟩ (.int .i64 c)) g (l.set k ⟨f.n, f.d, m, c⟩) := by
  obtain ⟨cur, h1, h2⟩ := h
  refine ⟨_, blk_put _ (blk_put _ h1), ?_⟩
  rw [fe_set m c hk, ← h2, List.length_set]
  simp only [Array.toList_setIfInBounds, List.take_set]
/-- What Less, More answer of one spot and one slot of it. -/
def lessC (f s : Fe) : Int × Fe := if MM.sub s.m f.m ≠ 0 ∨ f.c < s.c then (5, f) else (0, ⟨f.n, f.d, MM.sub f.m s.m, f.c - s.c⟩)
def moreC (f s : Fe) : Int × Fe := if s.m &&& f.m ≠ 0 then (4, f) else if 1048576 - f.c < s.c then (14, f) else (0, ⟨f.n, f.d, f.m ||| s.m, f.c + s.c⟩)
set_option maxRecDepth 100000 in
set_option maxHeartbeats 4000000 in
/-- Less, at one spot. -/
theorem less_cl (g k : Nat) (l : List Fe) (f s : Fe) (w : World) (h : OwnF w g l) (hk : l[k]? = some f) (hs : FeOk s) (hf : FeOk f) (hc0 : 0 ≤ f.c) (hc1 : f.c ≤ 1048576) (hs0 : 0 ≤ s.c) :
    Calls Tryd.prog 32 #[.pointer (some ⟨g, k * 4, none⟩), feV s] w fun e w' => e = .returned (.int .i64 (lessC f s).1) ∧ OwnF w' g (if (lessC f s).1 = 0 then l.set k (lessC f s).2 else l) ∧ Foot (· = g) w w' := by
  have hB1 := (Below.refl w.heap.size w).alloc (Nat.le_refl _) (.cells #[.int .i64 s.n, .int .i64 s.d, .int .u64 (s.m : Nat), .int .i64 s.c] 41)
  have hl := h.lt
  have h1 : OwnF (w.alloc (.cells #[.int .i64 s.n, .int .i64 s.d, .int .u64 (s.m : Nat), .int .i64 s.c] 41)) g l := h.of_block (hB1.block g hl)
  have c2 := h1.cell hk (r := 2) (by omega) rfl
  have c3 := h1.cell hk (r := 3) (by omega) rfl
  have z2 : (w.alloc (.cells #[.int .i64 s.n, .int .i64 s.d, .int .u64 (s.m : Nat), .int .i64 s.c] 41)).frozen? ⟨g, k * 4 + 2, none⟩ = false := h1.frozen
  have z3 : (w.alloc (.cells #[.int .i64 s.n, .int .i64 s.d, .int .u64 (s.m : Nat), .int .i64 s.c] 41)).frozen? ⟨g, k * 4 + 3, none⟩ = false := h1.frozen
  have HP := Lib.hid h
  have HB := Lib.hid hB1
  have HF := Lib.hid hk
  have ks := hs.m
  have kf := hf.m
  have b1 := bounds_i64 hs.c
  obtain ⟨fn, fd, fm, fc⟩ := f
  obtain ⟨x, y, m, c⟩ := s
  unfold feV lessC
  simp only at *
  clear h h1 hk hs hf hB1
  obtain ⟨X, hX⟩ : ∃ X, X = MM.sub m fm := ⟨_, rfl⟩
  have hXn := not_u64 m fm ks kf
  rw [← hX] at hXn ⊢
  clear hX
  by_cases hm : X = 0
  · have t1 : ((X : Int) != 0) = false := by rw [hm]; rfl
    by_cases hc : fc < c
    · have t2 : decide (fc < c) = true := decide_eq_true hc
      simp only [if_pos (show X ≠ 0 ∨ fc < c from .inr hc)]
      rw [if_neg (by decide)]
      clear hc hm
      go_enter Tryd.func32, Tryd.ntmps32
      go_wp2_with fail
      go_quiet (fail)
      go_wp2
      go_ret
      exact ⟨rfl, HP.out.of_block (HB.out.block g hl), Foot.of_below ⟨HB.out.os, HB.out.tape, HB.out.output, HB.out.size, HB.out.block⟩⟩
    · have t2 : decide (fc < c) = false := decide_eq_false hc
      simp only [if_neg (show ¬ (X ≠ 0 ∨ fc < c) by rintro (h | h); exact h hm; exact hc h)]
      have hc2 : c ≤ fc := by omega
      clear hc hm
      go_enter Tryd.func32, Tryd.ntmps32
      go_wp2_with fail
      go_quiet (fail)
      go_wp2
      obtain ⟨Y, hY⟩ : ∃ Y, Y = MM.sub fm m := ⟨_, rfl⟩
      have hYn := not_u64 fm m kf ks
      rw [← hY] at hYn
      have HY := Lib.hid hY
      clear hY
      obtain ⟨W, hW⟩ : ∃ W, W = (w.alloc (.cells #[.int .i64 x, .int .i64 y, .int .u64 (m : Nat), .int .i64 c] 41)).drewN nq := ⟨_, rfl⟩
      have hBW : Below w.heap.size w W := by rw [hW]; exact ⟨HB.out.os, HB.out.tape, HB.out.output, HB.out.size, HB.out.block⟩
      have hbW : W.heap[w.heap.size]? = some (.cells #[.int .i64 x, .int .i64 y, .int .u64 (m : Nat), .int .i64 c] 41 (0, 0)) := by rw [hW]; exact heap_alloc_new w _
      have hOW : OwnF W g l := HP.out.of_block (hBW.block g hl)
      have d2 := hOW.cell HF.out (r := 2) (by omega) rfl
      have d3 := hOW.cell HF.out (r := 3) (by omega) rfl
      have y2 : W.frozen? ⟨g, k * 4 + 2, none⟩ = false := hOW.frozen
      have y3 : W.frozen? ⟨g, k * 4 + 3, none⟩ = false := hOW.frozen
      have e2 : W.cell? ⟨w.heap.size, 2, none⟩ = some (.int .u64 (m : Nat)) := cell_blk (i := 2) hbW rfl
      have e3 : W.cell? ⟨w.heap.size, 3, none⟩ = some (.int .i64 c) := cell_blk (i := 3) hbW rfl
      have hne : g ≠ w.heap.size := by omega
      (try rw [← hW])
      clear hW c2 c3 z2 z3
      have HW := Lib.hid (And.intro hBW (And.intro hbW hOW))
      clear hBW hbW hOW
      go_still_tail 9, (by kernel_rfl)
      change wpList _ _ _ _ _ W.drew
      go_wp2
      obtain ⟨W2, hW2⟩ : ∃ W2, W2 = (W.setCell ⟨g, k * 4 + 2, none⟩ (.int .u64 (Y : Nat))).drew := ⟨_, rfl⟩
      have q3 : W2.cell? ⟨g, k * 4 + 3, none⟩ = some (.int .i64 fc) := by rw [hW2]; go_simp
      have r3 : W2.frozen? ⟨g, k * 4 + 3, none⟩ = false := by rw [hW2]; go_simp
      have s3 : W2.cell? ⟨w.heap.size, 3, none⟩ = some (.int .i64 c) := by rw [hW2]; go_simp
      rw [← hW2]
      have HW2 := Lib.hid hW2
      clear hW2 d2 d3 y2 y3 e2 e3
      go_still_tail 9, (by kernel_rfl)
      change wpList _ _ _ _ _ W2.drew
      go_wp2
      go_ret
      refine ⟨rfl, ?_, ?_⟩
      · (try rw [if_pos rfl])
        rw [← HY.out]
        have h9 := HW.out.2.2.put Y (fc - c) HF.out
        rw [HW2.out]
        exact h9
      · rw [HW2.out]
        refine (Foot.setCell (p := ⟨g, _, none⟩) (Foot.setCell (p := ⟨g, _, none⟩) (Foot.of_below HW.out.1) (.inl ?_) _).drew (.inl ?_) _).drew <;> rfl
  · have t1 : ((X : Int) != 0) = true := by simp; omega
    simp only [if_pos (show X ≠ 0 ∨ fc < c from .inl hm)]
    rw [if_neg (by decide)]
    clear hm
    go_enter Tryd.func32, Tryd.ntmps32
    go_wp2_with fail
    go_quiet (fail)
    go_wp2
    go_ret
    exact ⟨rfl, HP.out.of_block (HB.out.block g hl), Foot.of_below ⟨HB.out.os, HB.out.tape, HB.out.output, HB.out.size, HB.out.block⟩⟩
set_option maxRecDepth 100000 in
set_option maxHeartbeats 4000000 in
/-- More, at one spot. -/
theorem more_cl (g k : Nat) (l : List Fe) (f s : Fe) (w : World) (h : OwnF w g l) (hk : l[k]? = some f) (hs : FeOk s) (hf : FeOk f) (hc0 : 0 ≤ f.c) (hc1 : f.c ≤ 1048576) (hs0 : 0 ≤ s.c) :
    Calls Tryd.prog 33 #[.pointer (some ⟨g, k * 4, none⟩), feV s] w fun e w' => e = .returned (.int .i64 (moreC f s).1) ∧ OwnF w' g (if (moreC f s).1 = 0 then l.set k (moreC f s).2 else l) ∧ Foot (· = g) w w' := by
  have hB1 := (Below.refl w.heap.size w).alloc (Nat.le_refl _) (.cells #[.int .i64 s.n, .int .i64 s.d, .int .u64 (s.m : Nat), .int .i64 s.c] 41)
  have hl := h.lt
  have h1 : OwnF (w.alloc (.cells #[.int .i64 s.n, .int .i64 s.d, .int .u64 (s.m : Nat), .int .i64 s.c] 41)) g l := h.of_block (hB1.block g hl)
  have c2 := h1.cell hk (r := 2) (by omega) rfl
  have c3 := h1.cell hk (r := 3) (by omega) rfl
  have z2 : (w.alloc (.cells #[.int .i64 s.n, .int .i64 s.d, .int .u64 (s.m : Nat), .int .i64 s.c] 41)).frozen? ⟨g, k * 4 + 2, none⟩ = false := h1.frozen
  have z3 : (w.alloc (.cells #[.int .i64 s.n, .int .i64 s.d, .int .u64 (s.m : Nat), .int .i64 s.c] 41)).frozen? ⟨g, k * 4 + 3, none⟩ = false := h1.frozen
  have HP := Lib.hid h
  have HB := Lib.hid hB1
  have HF := Lib.hid hk
  have ks := hs.m
  have kf := hf.m
  have b1 := bounds_i64 hs.c
  obtain ⟨fn, fd, fm, fc⟩ := f
  obtain ⟨x, y, m, c⟩ := s
  unfold feV moreC
  simp only at *
  clear h h1 hk hs hf hB1
  obtain ⟨X, hX⟩ : ∃ X, X = m &&& fm := ⟨_, rfl⟩
  have hXn := and_u64 m fm ks kf
  rw [← hX] at hXn ⊢
  clear hX
  by_cases hm : X = 0
  · have t1 : ((X : Int) != 0) = false := by rw [hm]; rfl
    by_cases hc : 1048576 - fc < c
    · have t2 : decide (1048576 - fc < c) = true := decide_eq_true hc
      simp only [if_neg (show ¬ X ≠ 0 from fun h => h hm), if_pos hc]
      rw [if_neg (by decide)]
      clear hc hm
      go_enter Tryd.func33, Tryd.ntmps33
      go_wp2_with fail
      go_quiet (fail)
      go_wp2
      obtain ⟨W1, hW1⟩ : ∃ W1, W1 = (w.alloc (.cells #[.int .i64 x, .int .i64 y, .int .u64 (m : Nat), .int .i64 c] 41)).drewN nq := ⟨_, rfl⟩
      have hBW1 : Below w.heap.size w W1 := by rw [hW1]; exact ⟨HB.out.os, HB.out.tape, HB.out.output, HB.out.size, HB.out.block⟩
      have hbW1 : W1.heap[w.heap.size]? = some (.cells #[.int .i64 x, .int .i64 y, .int .u64 (m : Nat), .int .i64 c] 41 (0, 0)) := by rw [hW1]; exact heap_alloc_new w _
      have hOW1 : OwnF W1 g l := HP.out.of_block (hBW1.block g hl)
      rw [← hW1]
      clear hW1 c2 c3 z2 z3
      have c2 := hOW1.cell HF.out (r := 2) (by omega) rfl
      have c3 := hOW1.cell HF.out (r := 3) (by omega) rfl
      have e3w : W1.cell? ⟨w.heap.size, 3, none⟩ = some (.int .i64 c) := cell_blk (i := 3) hbW1 rfl
      go_quiet (fail)
      go_wp2
      go_ret
      exact ⟨rfl, hOW1.of_block rfl, (Foot.of_below hBW1).drewN _⟩
    · have t2 : decide (1048576 - fc < c) = false := decide_eq_false hc
      simp only [if_neg (show ¬ X ≠ 0 from fun h => h hm), if_neg hc]
      have hc2 : fc + c ≤ 1048576 := by omega
      clear hc hm
      go_enter Tryd.func33, Tryd.ntmps33
      go_wp2_with fail
      go_quiet (fail)
      go_wp2
      obtain ⟨W1, hW1⟩ : ∃ W1, W1 = (w.alloc (.cells #[.int .i64 x, .int .i64 y, .int .u64 (m : Nat), .int .i64 c] 41)).drewN nq := ⟨_, rfl⟩
      have hBW1 : Below w.heap.size w W1 := by rw [hW1]; exact ⟨HB.out.os, HB.out.tape, HB.out.output, HB.out.size, HB.out.block⟩
      have hbW1 : W1.heap[w.heap.size]? = some (.cells #[.int .i64 x, .int .i64 y, .int .u64 (m : Nat), .int .i64 c] 41 (0, 0)) := by rw [hW1]; exact heap_alloc_new w _
      have hOW1 : OwnF W1 g l := HP.out.of_block (hBW1.block g hl)
      rw [← hW1]
      clear hW1 c2 c3 z2 z3
      have c2 := hOW1.cell HF.out (r := 2) (by omega) rfl
      have c3 := hOW1.cell HF.out (r := 3) (by omega) rfl
      have e3w : W1.cell? ⟨w.heap.size, 3, none⟩ = some (.int .i64 c) := cell_blk (i := 3) hbW1 rfl
      go_quiet (fail)
      go_wp2
      obtain ⟨Y, hY⟩ : ∃ Y, Y = fm ||| m := ⟨_, rfl⟩
      have hYn := or_u64 fm m kf ks
      rw [← hY] at hYn
      have HY := Lib.hid hY
      clear hY
      obtain ⟨W, hW⟩ : ∃ W, W = W1.drewN nq := ⟨_, rfl⟩
      have hBW : Below w.heap.size w W := by rw [hW]; exact ⟨hBW1.os, hBW1.tape, hBW1.output, hBW1.size, hBW1.block⟩
      have hbW : W.heap[w.heap.size]? = some (.cells #[.int .i64 x, .int .i64 y, .int .u64 (m : Nat), .int .i64 c] 41 (0, 0)) := by rw [hW]; exact hbW1
      have hOW : OwnF W g l := HP.out.of_block (hBW.block g hl)
      have d2 := hOW.cell HF.out (r := 2) (by omega) rfl
      have d3 := hOW.cell HF.out (r := 3) (by omega) rfl
      have y2 : W.frozen? ⟨g, k * 4 + 2, none⟩ = false := hOW.frozen
      have y3 : W.frozen? ⟨g, k * 4 + 3, none⟩ = false := hOW.frozen
      have e2 : W.cell? ⟨w.heap.size, 2, none⟩ = some (.int .u64 (m : Nat)) := cell_blk (i := 2) hbW rfl
      have e3 : W.cell? ⟨w.heap.size, 3, none⟩ = some (.int .i64 c) := cell_blk (i := 3) hbW rfl
      have hne : g ≠ w.heap.size := by omega
      (try rw [← hW])
      clear hW c2 c3 e3w hBW1 hbW1 hOW1
      have HW := Lib.hid (And.intro hBW (And.intro hbW hOW))
      clear hBW hbW hOW
      go_still_tail 9, (by kernel_rfl)
      change wpList _ _ _ _ _ W.drew
      go_wp2
      obtain ⟨W2, hW2⟩ : ∃ W2, W2 = (W.setCell ⟨g, k * 4 + 2, none⟩ (.int .u64 (Y : Nat))).drew := ⟨_, rfl⟩
      have q3 : W2.cell? ⟨g, k * 4 + 3, none⟩ = some (.int .i64 fc) := by rw [hW2]; go_simp
      have r3 : W2.frozen? ⟨g, k * 4 + 3, none⟩ = false := by rw [hW2]; go_simp
      have s3 : W2.cell? ⟨w.heap.size, 3, none⟩ = some (.int .i64 c) := by rw [hW2]; go_simp
      rw [← hW2]
      have HW2 := Lib.hid hW2
      clear hW2 d2 d3 y2 y3 e2 e3
      go_still_tail 9, (by kernel_rfl)
      change wpList _ _ _ _ _ W2.drew
      go_wp2
      go_ret
      refine ⟨rfl, ?_, ?_⟩
      · (try rw [if_pos rfl])
        rw [← HY.out]
        have h9 := HW.out.2.2.put Y (fc + c) HF.out
        rw [HW2.out]
        exact h9
      · rw [HW2.out]
        refine (Foot.setCell (p := ⟨g, _, none⟩) (Foot.setCell (p := ⟨g, _, none⟩) (Foot.of_below HW.out.1) (.inl ?_) _).drew (.inl ?_) _).drew <;> rfl
  · have t1 : ((X : Int) != 0) = true := by simp; omega
    simp only [if_pos (show X ≠ 0 from hm)]
    rw [if_neg (by decide)]
    clear hm
    go_enter Tryd.func33, Tryd.ntmps33
    go_wp2_with fail
    go_quiet (fail)
    go_wp2
    go_ret
    exact ⟨rfl, HP.out.of_block (HB.out.block g hl), Foot.of_below ⟨HB.out.os, HB.out.tape, HB.out.output, HB.out.size, HB.out.block⟩⟩
end Go.Proofs.YtjbjjdcmkbigdaaDoor
