/- The document's example, which each law of layer 3 asks first. -/
import Derived.Laws.StructEq
import Derived.Test.YtgdbjepddcmfoaaPoolAct
namespace Go.Proofs.Ytgdbjepddcmfoaa
open Go.RowKit

def aw3 : List (List (Int × Int)) := [[(4, 8)]]
theorem aw3_frees : frees aw3 = [⟨0, 0, 15, 8⟩] := by kernel_rfl
theorem aw3_ok : cluOk aw3 = true := by decide
theorem aw3_nodes (w W : World) (h0 : W.heap[w.heap.size]? = some (.cells #[.int .i64 4, .int .i64 8] 52 (0, 0))) (h1 : W.heap[w.heap.size + 1]? = some (.cells #[.slice (some ⟨w.heap.size, 0, none⟩) 1 1] 55 (0, 0))) :
    Nodes W W.heap.size (some ⟨w.heap.size + 1, 0, none⟩) aw3 := by
  have l0 := blk_lt h0
  have l1 := blk_lt h1
  refine .inr ⟨w.heap.size + 1, 0, rfl, l1, fun i x hx => ?_⟩
  match i, hx with
  | 0, hx =>
    simp [aw3] at hx; subst hx
    refine ⟨some ⟨w.heap.size, 0, none⟩, 1, cell_blk (i := 0) h1 rfl, by simp, by unfold maxLen; simp, .inr ⟨w.heap.size, 0, rfl, l0, fun j y hy => ?_⟩⟩
    match j, hy with
    | 0, hy => simp at hy; subst hy; exact ⟨cell_blk (i := 0) h0 rfl, cell_blk (i := 1) h0 rfl⟩
    | j + 1, hy => simp at hy
  | i + 1, hx => simp [aw3] at hx
def awS : PM.Sl := ⟨0, 0, 3, 4⟩
theorem awS_ok : ∀ s ∈ [awS], SlOk s := by
  intro s hs; simp at hs; subst hs
  exact ⟨by decide, by decide, by decide, by decide⟩
def awT : List Fr := [⟨0, 0, 3, 4⟩]
theorem aw_one : PM.whole (frees aw3) [false] false [awS] (PM.zero (frees aw3)) = (0, awT) := by kernel_rfl
theorem aw_two : PM.whole (frees aw3) [false] false [awS] awT = (5, awT) := by kernel_rfl
theorem aw_free : PM.free (frees aw3) awT = [⟨0, 0, 12, 4⟩] := by kernel_rfl
theorem slot_blk {W : World} {b : Nat} {s : PM.Sl} (h : W.heap[b]? = some (.cells #[.int .i64 s.n, .int .i64 s.d, .int .u64 (s.m : Nat), .int .i64 s.c] 60 (0, 0))) : Slots W W.heap.size (some ⟨b, 0, none⟩) [s] := by
  refine .inr ⟨b, 0, rfl, blk_lt h, fun i x hx => ?_⟩
  match i, hx with
  | 0, hx => simp at hx; subst hx; exact ⟨cell_blk (i := 0) h rfl, cell_blk (i := 1) h rfl, cell_blk (i := 2) h rfl, cell_blk (i := 3) h rfl⟩
  | i + 1, hx => simp at hx
/-- Take of one slot, whose block is another than the row of what is free. -/
theorem take_one {T : Nat → Prop} (p g dm b : Nat) (fs ts : List Fr) (dr : List Bool) (s : PM.Sl) (w : World) (h : PoolAt w T p g dm fs ts dr) (hs : SlOk s) (hb : w.heap[b]? = some (.cells #[.int .i64 s.n, .int .i64 s.d, .int .u64 (s.m : Nat), .int .i64 s.c] 60 (0, 0))) (hg : b ≠ g) :
    Calls Try.prog 19 #[.pointer (some ⟨p, 0, none⟩), .slice (some ⟨b, 0, none⟩) 1 1] w fun e w' =>
      e = .returned (.int .i64 (PM.whole fs dr false [s] ts).1) ∧ ∃ g', PoolAt w' T p g' dm fs (PM.whole fs dr false [s] ts).2 dr ∧ Foot (fun i => i = p ∨ i = g) w w' ∧ (g' = g ∨ w.heap.size ≤ g') :=
  take_any p g dm fs ts dr (some ⟨b, 0, none⟩) 1 [s] w h (fun x hx => by simp at hx; subst hx; exact hs) (slot_blk hb) (fun _ b' off e => by cases e; exact hg) (by unfold maxLen; simp)
set_option maxRecDepth 100000 in
set_option maxHeartbeats 2000000 in
theorem awake_any (w : World) : Calls Try.prog 4 #[] w fun e w' => e = .returned (.bool true) ∧ Below w.heap.size w w' := by
  obtain ⟨W0, hW0⟩ : ∃ W0, W0 = (w.alloc (.cells #[.int .i64 4, .int .i64 8] 52)).alloc (.cells #[.slice (some ⟨w.heap.size, 0, none⟩) 1 1] 55) := ⟨_, rfl⟩
  have b0 : W0.heap[w.heap.size]? = some (.cells #[.int .i64 4, .int .i64 8] 52 (0, 0)) := by rw [hW0]; exact (Below.heap_alloc _ _ _ (by simp)).trans (heap_alloc_new w _)
  have b1 : W0.heap[w.heap.size + 1]? = some (.cells #[.slice (some ⟨w.heap.size, 0, none⟩) 1 1] 55 (0, 0)) := by
    have := heap_alloc_new (w.alloc (.cells #[.int .i64 4, .int .i64 8] 52)) (.cells #[.slice (some ⟨w.heap.size, 0, none⟩) 1 1] 55)
    rw [hW0]; simpa using this
  have hN := Lib.hid (poolnew_ok (some ⟨w.heap.size + 1, 0, none⟩) 1 W0.heap.size aw3 W0 (aw3_nodes w W0 b0 b1) (Nat.le_refl _) aw3_ok)
  have HB0 := Lib.hid (show Below w.heap.size w W0 by rw [hW0]; exact ((Below.refl w.heap.size w).alloc (Nat.le_refl _) _).alloc (by simp) _)
  rw [hW0] at hN
  clear b0 b1
  have HW0 := Lib.hid hW0
  clear hW0
  go_enter Try.func4, Try.ntmps4
  go_wp2_with (go_at_call 6; refine hN.out.mono ?_; rintro e w1 ⟨T, p, g, dm, rfl, hp, hb, p1, g1, d1, o1⟩; clear o1; have HP := Lib.hid hp; have HB := Lib.hid hb; clear hp hb)
  obtain ⟨W, hW⟩ : ∃ W, W = w1.alloc (.cells #[.int .i64 0, .int .i64 0, .int .u64 3, .int .i64 4] 60) := ⟨_, rfl⟩
  have bS : W.heap[w1.heap.size]? = some (.cells #[.int .i64 0, .int .i64 0, .int .u64 3, .int .i64 4] 60 (0, 0)) := by rw [hW]; exact heap_alloc_new w1 _
  have HPW := Lib.hid (show PoolAt W T p g dm (frees aw3) (PM.zero (frees aw3)) [false] by rw [hW]; exact HP.out.keep ((Below.refl w1.heap.size w1).alloc (Nat.le_refl _) _))
  rw [← hW]
  have e0 : W.cell? ⟨w1.heap.size, 0, none⟩ = some (.int .i64 0) := cell_blk (i := 0) bS rfl
  have e1 : W.cell? ⟨w1.heap.size, 1, none⟩ = some (.int .i64 0) := cell_blk (i := 1) bS rfl
  have e2 : W.cell? ⟨w1.heap.size, 2, none⟩ = some (.int .u64 3) := cell_blk (i := 2) bS rfl
  have e3 : W.cell? ⟨w1.heap.size, 3, none⟩ = some (.int .i64 4) := cell_blk (i := 3) bS rfl
  have hlt := HPW.out.lt
  have hsW : W.heap.size = w1.heap.size + 1 := by rw [hW]; simp
  have hl1 : p < w1.heap.size ∧ g < w1.heap.size := by have := HP.out.lt; omega
  have hlW : w1.heap.size < W.heap.size := by omega
  have T1 := Lib.hid (fun b W' (hW' : Below W.heap.size W W') (hb : W'.heap[b]? = some (.cells #[.int .i64 0, .int .i64 0, .int .u64 3, .int .i64 4] 60 (0, 0))) (hg : b ≠ g) => take_one p g dm b (frees aw3) (PM.zero (frees aw3)) [false] awS W' (HPW.out.keep hW') (awS_ok awS (by simp)) hb hg)
  rw [aw_one] at T1
  have T2 := Lib.hid (fun g' b W' (hW' : PoolAt W' T p g' dm (frees aw3) awT [false]) (hb : W'.heap[b]? = some (.cells #[.int .i64 0, .int .i64 0, .int .u64 3, .int .i64 4] 60 (0, 0))) (hg : b ≠ g') => take_one p g' dm b (frees aw3) awT [false] awS W' hW' (awS_ok awS (by simp)) hb hg)
  rw [aw_two] at T2
  have HBW := Lib.hid (show Below w.heap.size w W by rw [hW, ]; exact (below_step HB0.out (by rw [HW0.out]; exact HB.out)).alloc (by have := HB0.out.size; have := HB.out.size; rw [← HW0.out] at this; omega) _)
  have hss : w.heap.size ≤ W.heap.size := HBW.out.size
  have hpw : w.heap.size ≤ p ∧ w.heap.size ≤ g := by simp at p1 g1; omega
  clear bS hW hlt hsW
  have X1 := Lib.hid (((Below.refl W.heap.size W).alloc (Nat.le_refl _) (.cells #[.int .i64 0, .int .i64 0, .int .u64 3, .int .i64 4] 60)).drew)
  have X2 := Lib.hid ((((Below.refl W.heap.size W).alloc (Nat.le_refl _) (.cells #[.int .i64 0, .int .i64 0, .int .u64 3, .int .i64 4] 60)).alloc (by simp) (.cells #[.int .i64 0, .int .i64 0, .int .u64 3, .int .i64 4] 60)).drew)
  have Y1 : Hid (((W.alloc (.cells #[.int .i64 0, .int .i64 0, .int .u64 3, .int .i64 4] 60)).drew).heap[W.heap.size]? = some (.cells #[.int .i64 0, .int .i64 0, .int .u64 3, .int .i64 4] 60 (0, 0))) := Lib.hid (heap_alloc_new W _)
  have Y2 : Hid ((((W.alloc (.cells #[.int .i64 0, .int .i64 0, .int .u64 3, .int .i64 4] 60)).alloc (.cells #[.int .i64 0, .int .i64 0, .int .u64 3, .int .i64 4] 60)).drew).heap[W.heap.size]? = some (.cells #[.int .i64 0, .int .i64 0, .int .u64 3, .int .i64 4] 60 (0, 0))) := Lib.hid ((Below.heap_alloc _ _ _ (by simp)).trans (heap_alloc_new W _))
  have Y3 : Hid ((((W.alloc (.cells #[.int .i64 0, .int .i64 0, .int .u64 3, .int .i64 4] 60)).alloc (.cells #[.int .i64 0, .int .i64 0, .int .u64 3, .int .i64 4] 60)).drew).heap[W.heap.size + 1]? = some (.cells #[.int .i64 0, .int .i64 0, .int .u64 3, .int .i64 4] 60 (0, 0))) := Lib.hid (by have := heap_alloc_new (W.alloc (.cells #[.int .i64 0, .int .i64 0, .int .u64 3, .int .i64 4] 60)) (.cells #[.int .i64 0, .int .i64 0, .int .u64 3, .int .i64 4] 60); rw [show (W.alloc (.cells #[.int .i64 0, .int .i64 0, .int .u64 3, .int .i64 4] 60)).heap.size = W.heap.size + 1 by simp] at this; exact this)
  have ngW : W.heap.size ≠ g := by omega
  have ngW1 : W.heap.size + 1 ≠ g := by omega
  go_region_held3 (fun w' => w'.cell? ⟨w1.heap.size, 0, none⟩ = some (.int .i64 0) ∧ w'.cell? ⟨w1.heap.size, 1, none⟩ = some (.int .i64 0) ∧ w'.cell? ⟨w1.heap.size, 2, none⟩ = some (.int .u64 3) ∧ w'.cell? ⟨w1.heap.size, 3, none⟩ = some (.int .i64 4))
    (go_keep)
    (first
      | (go_at_call 19; ((with_reducible refine (T2.out g3 w3.heap.size (w3.alloc (.cells #[.int .i64 0, .int .i64 0, .int .u64 3, .int .i64 4] 60)) K2.out (heap_alloc_new w3 _) hg3a).mono ?_); rintro e w4 ⟨rfl, g4, hp4, hf4, hg4⟩; have B4 : Below w.heap.size w w4 := (B3.alloc B3.size _).trans (hf4.below (by simp; omega) (by rintro i (rfl | rfl) <;> omega)); have y0 : w4.cell? ⟨w1.heap.size, 0, none⟩ = some (.int .i64 0) := (hf4.cell (p := ⟨w1.heap.size, 0, none⟩) (by simp; omega) (by simp; omega)).trans (by go_simp); have y1 : w4.cell? ⟨w1.heap.size, 1, none⟩ = some (.int .i64 0) := (hf4.cell (p := ⟨w1.heap.size, 1, none⟩) (by simp; omega) (by simp; omega)).trans (by go_simp); have y2 : w4.cell? ⟨w1.heap.size, 2, none⟩ = some (.int .u64 3) := (hf4.cell (p := ⟨w1.heap.size, 2, none⟩) (by simp; omega) (by simp; omega)).trans (by go_simp); have y3 : w4.cell? ⟨w1.heap.size, 3, none⟩ = some (.int .i64 4) := (hf4.cell (p := ⟨w1.heap.size, 3, none⟩) (by simp; omega) (by simp; omega)).trans (by go_simp)))
      | (go_at_call 19; ((with_reducible refine (T2.out g3 (W.heap.size + 1) w3 hp3 qb hgb).mono ?_); rintro e w4 ⟨rfl, g4, hp4, hf4, hg4⟩; have B4 : Below w.heap.size w w4 := B3.trans (hf4.below (by omega) (by rintro i (rfl | rfl) <;> omega)); have y0 : w4.cell? ⟨w1.heap.size, 0, none⟩ = some (.int .i64 0) := (hf4.cell (p := ⟨w1.heap.size, 0, none⟩) (by simp; omega) (by simp; omega)).trans (by go_simp); have y1 : w4.cell? ⟨w1.heap.size, 1, none⟩ = some (.int .i64 0) := (hf4.cell (p := ⟨w1.heap.size, 1, none⟩) (by simp; omega) (by simp; omega)).trans (by go_simp); have y2 : w4.cell? ⟨w1.heap.size, 2, none⟩ = some (.int .u64 3) := (hf4.cell (p := ⟨w1.heap.size, 2, none⟩) (by simp; omega) (by simp; omega)).trans (by go_simp); have y3 : w4.cell? ⟨w1.heap.size, 3, none⟩ = some (.int .i64 4) := (hf4.cell (p := ⟨w1.heap.size, 3, none⟩) (by simp; omega) (by simp; omega)).trans (by go_simp)))
      | (go_at_call 19; ((with_reducible refine (T2.out g3 W.heap.size w3 hp3 qc hgc).mono ?_); rintro e w4 ⟨rfl, g4, hp4, hf4, hg4⟩; have B4 : Below w.heap.size w w4 := B3.trans (hf4.below (by omega) (by rintro i (rfl | rfl) <;> omega)); have y0 : w4.cell? ⟨w1.heap.size, 0, none⟩ = some (.int .i64 0) := (hf4.cell (p := ⟨w1.heap.size, 0, none⟩) (by simp; omega) (by simp; omega)).trans (by go_simp); have y1 : w4.cell? ⟨w1.heap.size, 1, none⟩ = some (.int .i64 0) := (hf4.cell (p := ⟨w1.heap.size, 1, none⟩) (by simp; omega) (by simp; omega)).trans (by go_simp); have y2 : w4.cell? ⟨w1.heap.size, 2, none⟩ = some (.int .u64 3) := (hf4.cell (p := ⟨w1.heap.size, 2, none⟩) (by simp; omega) (by simp; omega)).trans (by go_simp); have y3 : w4.cell? ⟨w1.heap.size, 3, none⟩ = some (.int .i64 4) := (hf4.cell (p := ⟨w1.heap.size, 3, none⟩) (by simp; omega) (by simp; omega)).trans (by go_simp)))
      | (go_at_call 19; ((with_reducible refine (T1.out W.heap.size ((W.alloc (.cells #[.int .i64 0, .int .i64 0, .int .u64 3, .int .i64 4] 60)).drew) X1.out Y1.out ngW).mono ?_); rintro e w3 ⟨rfl, g3, hp3, hf3, hg3⟩; have hs3 := hf3.size; simp at hs3 hg3; have B3 : Below w.heap.size w w3 := (HBW.out.trans (X1.out.mono hss)).trans (hf3.below (by simp; omega) (by rintro i (rfl | rfl) <;> omega)); have K2 := Lib.hid (hp3.keep ((Below.refl w3.heap.size w3).alloc (Nat.le_refl _) (.cells #[.int .i64 0, .int .i64 0, .int .u64 3, .int .i64 4] 60))); have hg3a : w3.heap.size ≠ g3 := (by have := hp3.lt; omega); have v0 : w3.cell? ⟨w1.heap.size, 0, none⟩ = some (.int .i64 0) := (hf3.cell (p := ⟨w1.heap.size, 0, none⟩) (by simp; omega) (by simp; omega)).trans (by go_simp); have v1 : w3.cell? ⟨w1.heap.size, 1, none⟩ = some (.int .i64 0) := (hf3.cell (p := ⟨w1.heap.size, 1, none⟩) (by simp; omega) (by simp; omega)).trans (by go_simp); have v2 : w3.cell? ⟨w1.heap.size, 2, none⟩ = some (.int .u64 3) := (hf3.cell (p := ⟨w1.heap.size, 2, none⟩) (by simp; omega) (by simp; omega)).trans (by go_simp); have v3 : w3.cell? ⟨w1.heap.size, 3, none⟩ = some (.int .i64 4) := (hf3.cell (p := ⟨w1.heap.size, 3, none⟩) (by simp; omega) (by simp; omega)).trans (by go_simp)))
      | (go_at_call 19; ((with_reducible refine (T1.out W.heap.size (((W.alloc (.cells #[.int .i64 0, .int .i64 0, .int .u64 3, .int .i64 4] 60)).alloc (.cells #[.int .i64 0, .int .i64 0, .int .u64 3, .int .i64 4] 60)).drew) X2.out Y2.out ngW).mono ?_); rintro e w3 ⟨rfl, g3, hp3, hf3, hg3⟩; have hs3 := hf3.size; simp at hs3 hg3; have B3 : Below w.heap.size w w3 := (HBW.out.trans (X2.out.mono hss)).trans (hf3.below (by simp; omega) (by rintro i (rfl | rfl) <;> omega)); have qb : w3.heap[W.heap.size + 1]? = some (.cells #[.int .i64 0, .int .i64 0, .int .u64 3, .int .i64 4] 60 (0, 0)) := (hf3.block _ (by simp) (by omega)).trans Y3.out; have hgb : W.heap.size + 1 ≠ g3 := (by omega); have v0 : w3.cell? ⟨w1.heap.size, 0, none⟩ = some (.int .i64 0) := (hf3.cell (p := ⟨w1.heap.size, 0, none⟩) (by simp; omega) (by simp; omega)).trans (by go_simp); have v1 : w3.cell? ⟨w1.heap.size, 1, none⟩ = some (.int .i64 0) := (hf3.cell (p := ⟨w1.heap.size, 1, none⟩) (by simp; omega) (by simp; omega)).trans (by go_simp); have v2 : w3.cell? ⟨w1.heap.size, 2, none⟩ = some (.int .u64 3) := (hf3.cell (p := ⟨w1.heap.size, 2, none⟩) (by simp; omega) (by simp; omega)).trans (by go_simp); have v3 : w3.cell? ⟨w1.heap.size, 3, none⟩ = some (.int .i64 4) := (hf3.cell (p := ⟨w1.heap.size, 3, none⟩) (by simp; omega) (by simp; omega)).trans (by go_simp)))
      | (go_at_call 19; ((with_reducible refine (T1.out (W.heap.size + 1) (((W.alloc (.cells #[.int .i64 0, .int .i64 0, .int .u64 3, .int .i64 4] 60)).alloc (.cells #[.int .i64 0, .int .i64 0, .int .u64 3, .int .i64 4] 60)).drew) X2.out Y3.out ngW1).mono ?_); rintro e w3 ⟨rfl, g3, hp3, hf3, hg3⟩; have hs3 := hf3.size; simp at hs3 hg3; have B3 : Below w.heap.size w w3 := (HBW.out.trans (X2.out.mono hss)).trans (hf3.below (by simp; omega) (by rintro i (rfl | rfl) <;> omega)); have qc : w3.heap[W.heap.size]? = some (.cells #[.int .i64 0, .int .i64 0, .int .u64 3, .int .i64 4] 60 (0, 0)) := (hf3.block _ (by simp; omega) (by omega)).trans Y2.out; have hgc : W.heap.size ≠ g3 := (by omega); have v0 : w3.cell? ⟨w1.heap.size, 0, none⟩ = some (.int .i64 0) := (hf3.cell (p := ⟨w1.heap.size, 0, none⟩) (by simp; omega) (by simp; omega)).trans (by go_simp); have v1 : w3.cell? ⟨w1.heap.size, 1, none⟩ = some (.int .i64 0) := (hf3.cell (p := ⟨w1.heap.size, 1, none⟩) (by simp; omega) (by simp; omega)).trans (by go_simp); have v2 : w3.cell? ⟨w1.heap.size, 2, none⟩ = some (.int .u64 3) := (hf3.cell (p := ⟨w1.heap.size, 2, none⟩) (by simp; omega) (by simp; omega)).trans (by go_simp); have v3 : w3.cell? ⟨w1.heap.size, 3, none⟩ = some (.int .i64 4) := (hf3.cell (p := ⟨w1.heap.size, 3, none⟩) (by simp; omega) (by simp; omega)).trans (by go_simp))))
  all_goals
    have hF0 := free_any p g4 dm _ _ _ w4 hp4
    rw [aw_free] at hF0
    rw [show (frees aw3).length = 1 from rfl] at hF0
    have hF := Lib.hid hF0
    have HB4 := Lib.hid B4
    clear y0 y1 y2 y3 v0 v1 v2 v3 e0 e1 e2 e3 hF0 B4
    go_wp2_with (go_at_call 12; refine hF.out.mono ?_; rintro e w5 ⟨rfl, hr5, hb5⟩; have HB5 := Lib.hid (below_step HB4.out hb5); have z2 : w5.cell? ⟨w4.heap.size, 1 + 1, none⟩ = some (.int .u64 12) := cell_blk (i := 2) hr5 rfl; have z2' : w5.cell? ⟨w4.heap.size, 2, none⟩ = some (.int .u64 12) := cell_blk (i := 2) hr5 rfl; have z3 : w5.cell? ⟨w4.heap.size, 3, none⟩ = some (.int .i64 4) := cell_blk (i := 3) hr5 rfl; clear hr5 hb5)
    go_ret
    exact ⟨rfl, HB5.out⟩
end Go.Proofs.Ytgdbjepddcmfoaa
