/- The document's example, which each law of layer 3 asks first. -/
import Derived.Laws.StructEq
import Derived.Test.YtkhbbfpajiimaaaGreatPoolAct
set_option maxRecDepth 100000
namespace Go.Proofs.YtkhbbfpajiimaaaGreat
open Go.RowKit

def aw3 : List (List (Int × Int)) := [[(4, 8)]]
theorem aw3_frees : frees aw3 = [⟨0, 0, 15, 8⟩] := by kernel_rfl
theorem aw3_ok : cluOk aw3 = true := by decide
theorem aw3_nodes (w W : World) (h0 : W.heap[w.heap.size]? = some (.cells #[.int .i64 4, .int .i64 8] 73 (0, 0))) (h1 : W.heap[w.heap.size + 1]? = some (.cells #[.slice (some ⟨w.heap.size, 0, none⟩) 1 1] 76 (0, 0))) :
    Nodes W W.heap.size (some ⟨w.heap.size + 1, 0, none⟩) aw3 := by
  have l0 := blk_lt h0
  have l1 := blk_lt h1
  refine .inr ⟨w.heap.size + 1, 0, rfl, l1, fun i x hx => ?_⟩
  match i, hx with
  | 0, hx =>
    simp [aw3] at hx; subst hx
    refine ⟨some ⟨w.heap.size, 0, none⟩, 1, cell_blk (i := 0) h1 rfl, by simp, by unfold maxLen; simp, .inr ⟨w.heap.size, 0, rfl, l0, fun j y hy => ?_⟩⟩
    match j, hy with
    | 0, hy => simp at hy; subst hy; exact ⟨cell_blk (i := 0) h0 rfl, cell_blk (i := 1) h0 rfl⟩
    | j + 1, hy => simp at hy
  | i + 1, hx => simp [aw3] at hx
def awS : PM.Sl := ⟨0, 0, 3, 4⟩
theorem awS_ok : ∀ s ∈ [awS], SlOk s := by
  intro s hs; simp at hs; subst hs
  exact ⟨by decide, by decide, by decide, by decide⟩
def awT : List Fr := [⟨0, 0, 3, 4⟩]
theorem aw_one : PM.whole (frees aw3) [false] false [awS] (PM.zero (frees aw3)) = (0, awT) := by kernel_rfl
theorem aw_two : PM.whole (frees aw3) [false] false [awS] awT = (5, awT) := by kernel_rfl
theorem aw_free : PM.free (frees aw3) awT = [⟨0, 0, 12, 4⟩] := by kernel_rfl
theorem slot_blk {W : World} {b : Nat} {s : PM.Sl} (h : W.heap[b]? = some (.cells #[.int .i64 s.n, .int .i64 s.d, .int .u64 (s.m : Nat), .int .i64 s.c] 41 (0, 0))) : Slots W W.heap.size (some ⟨b, 0, none⟩) [s] := by
  refine .inr ⟨b, 0, rfl, blk_lt h, fun i x hx => ?_⟩
  match i, hx with
  | 0, hx => simp at hx; subst hx; exact ⟨cell_blk (i := 0) h rfl, cell_blk (i := 1) h rfl, cell_blk (i := 2) h rfl, cell_blk (i := 3) h rfl⟩
  | i + 1, hx => simp at hx
/-- Take of one slot, whose block is another than the row of what is free. -/
theorem take_one {T : Nat → Prop} (p g dm b : Nat) (fs ts : List Fr) (dr : List Bool) (s : PM.Sl) (w : World) (h : PoolAt w T p g dm fs ts dr) (hs : SlOk s) (hb : w.heap[b]? = some (.cells #[.int .i64 s.n, .int .i64 s.d, .int .u64 (s.m : Nat), .int .i64 s.c] 41 (0, 0))) (hg : b ≠ g) :
    Calls Tryz.prog 108 #[.pointer (some ⟨p, 0, none⟩), .slice (some ⟨b, 0, none⟩) 1 1] w fun e w' =>
      e = .returned (.int .i64 (PM.whole fs dr false [s] ts).1) ∧ ∃ g', PoolAt w' T p g' dm fs (PM.whole fs dr false [s] ts).2 dr ∧ Foot (fun i => i = p ∨ i = g) w w' ∧ (g' = g ∨ w.heap.size ≤ g') :=
  take_any p g dm fs ts dr (some ⟨b, 0, none⟩) 1 [s] w h (fun x hx => by simp at hx; subst hx; exact hs) (slot_blk hb) (fun _ b' off e => by cases e; exact hg) (by unfold maxLen; simp)
end Go.Proofs.YtkhbbfpajiimaaaGreat
