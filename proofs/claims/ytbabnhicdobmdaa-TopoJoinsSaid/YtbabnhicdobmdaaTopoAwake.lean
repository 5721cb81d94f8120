/- The document's example, which each law of layer 2 asks first. -/
import Derived.Laws.StructEq
import Derived.Test.YtbabnhicdobmdaaTopoTotal
namespace Go.Proofs.Ytbabnhicdobmdaa
open Go.RowKit

theorem row_dup (ns : List (List (Int × Int))) : ((frees ns).map spOf).Nodup := by
  suffices H : ∀ i, i ≤ ns.length → ((frees (ns.take i)).map spOf).Nodup by
    have := H ns.length (Nat.le_refl _)
    rwa [List.take_length] at this
  intro i
  induction i with
  | zero => intro _; simp [frees]
  | succ i ih =>
    intro hi
    obtain ⟨ds, hd⟩ := get_lt (l := ns) (k := i) (by omega)
    rw [frees_next hd]
    suffices H : ∀ k, k ≤ ds.length → ((frees (ns.take i) ++ frNode i (ds.take k)).map spOf).Nodup by
      have := H ds.length (Nat.le_refl _)
      rwa [List.take_length] at this
    intro k
    induction k with
    | zero => intro _; simpa [frNode] using ih (by omega)
    | succ k ihk =>
      intro hk
      obtain ⟨d, hd'⟩ := get_lt (l := ds) (k := k) (by omega)
      rw [frNode_next hd', ← List.append_assoc, List.map_append, List.map_singleton]
      refine List.nodup_append.2 ⟨ihk (by omega), by simp, fun a ha b hb => ?_⟩
      simp at hb
      subst hb
      rintro rfl
      exact spot_new ha
theorem frees_take_ge {ns : List (List (Int × Int))} (h : cluOk ns = true) : ∀ i, i ≤ ns.length → i ≤ (frees (ns.take i)).length
  | 0, _ => Nat.zero_le _
  | i + 1, hi => by
    obtain ⟨ds, hd⟩ := get_lt (l := ns) (k := i) (by omega)
    rw [frees_next hd, List.length_append, frNode_len]
    have := frees_take_ge h i (by omega)
    have := nodeOk_len (cluOk_node h hd)
    omega
theorem frees_pos {ns : List (List (Int × Int))} (h : cluOk ns = true) : 0 < (frees ns).length := by
  have := frees_take_ge h ns.length (Nat.le_refl _)
  rw [List.take_length] at this
  have := cluOk_len h
  omega
theorem frNode_ok {i : Nat} {ds : List (Int × Int)} (h : nodeOk ds = true) {f : Fr} (hf : f ∈ frNode i ds) : f.m < 18446744073709551616 ∧ f.c ≤ 1024 := by
  unfold frNode at hf
  obtain ⟨⟨⟨g, c⟩, j⟩, hp, rfl⟩ := List.mem_map.1 hf
  have hp2 := List.mem_zipIdx' hp
  have hd : ds[j]? = some (g, c) := by rw [List.getElem?_eq_getElem hp2.1]; exact congrArg some hp2.2.symm
  obtain ⟨g1, g2, c1, c2⟩ := nodeOk_dom h hd
  refine ⟨?_, by simp [frAt]; omega⟩
  exact first_lt (k := g.toNat) (by omega)
theorem frees_ok {ns : List (List (Int × Int))} (h : cluOk ns = true) : ∀ f ∈ frees ns, f.m < 18446744073709551616 ∧ f.c ≤ 1024 := by
  intro f hf
  unfold frees at hf
  obtain ⟨p, hp, hf⟩ := List.mem_flatMap.1 hf
  have hp2 := List.mem_zipIdx' hp
  have hd : ns[p.2]? = some p.1 := by rw [List.getElem?_eq_getElem hp2.1, ← hp2.2]
  exact frNode_ok (cluOk_node h hd) hf
theorem sample_ok : cluOk [[(0, 0), (0, 0)], [(0, 0)]] = true := by decide
theorem sample_frees : frees [[(0, 0), (0, 0)], [(0, 0)]] = [⟨0, 0, 0, 0⟩, ⟨0, 1, 0, 0⟩, ⟨1, 0, 0, 0⟩] := rfl
theorem sample_nodes (w W : World) (hW : W = ((w.alloc (.cells #[.int .i64 0, .int .i64 0, .int .i64 0, .int .i64 0] 57)).alloc (.cells #[.int .i64 0, .int .i64 0] 57)).alloc
      (.cells #[.slice (some ⟨w.heap.size, 0, none⟩) 2 2, .slice (some ⟨w.heap.size + 1, 0, none⟩) 1 1] 56)) : Nodes W W.heap.size (some ⟨w.heap.size + 1 + 1, 0, none⟩) [[(0, 0), (0, 0)], [(0, 0)]] := by
  have b0 : W.heap[w.heap.size]? = some (.cells #[.int .i64 0, .int .i64 0, .int .i64 0, .int .i64 0] 57 (0, 0)) := by
    rw [hW]; exact (Below.heap_alloc _ _ _ (by simp; omega)).trans ((Below.heap_alloc _ _ _ (by simp)).trans (heap_alloc_new w _))
  have b1 : W.heap[w.heap.size + 1]? = some (.cells #[.int .i64 0, .int .i64 0] 57 (0, 0)) := by
    have := heap_alloc_new (w.alloc (.cells #[.int .i64 0, .int .i64 0, .int .i64 0, .int .i64 0] 57)) (.cells #[.int .i64 0, .int .i64 0] 57)
    rw [hW]; exact (Below.heap_alloc _ _ _ (by simp)).trans (by simpa using this)
  have b2 : W.heap[w.heap.size + 1 + 1]? = some (.cells #[.slice (some ⟨w.heap.size, 0, none⟩) 2 2, .slice (some ⟨w.heap.size + 1, 0, none⟩) 1 1] 56 (0, 0)) := by
    have := heap_alloc_new ((w.alloc (.cells #[.int .i64 0, .int .i64 0, .int .i64 0, .int .i64 0] 57)).alloc (.cells #[.int .i64 0, .int .i64 0] 57)) (.cells #[.slice (some ⟨w.heap.size, 0, none⟩) 2 2, .slice (some ⟨w.heap.size + 1, 0, none⟩) 1 1] 56)
    rw [hW]; simpa using this
  refine .inr ⟨_, 0, rfl, blk_lt b2, fun i x hx => ?_⟩
  match i, hx with
  | 0, hx =>
    simp at hx; subst hx
    refine ⟨some ⟨w.heap.size, 0, none⟩, 2, cell_blk (i := 0) b2 rfl, by simp, by decide, .inr ⟨w.heap.size, 0, rfl, blk_lt b0, fun j y hy => ?_⟩⟩
    match j, hy with
    | 0, hy => simp at hy; subst hy; exact ⟨cell_blk (i := 0) b0 rfl, cell_blk (i := 1) b0 rfl⟩
    | 1, hy => simp at hy; subst hy; exact ⟨cell_blk (i := 2) b0 rfl, cell_blk (i := 3) b0 rfl⟩
    | j + 2, hy => simp at hy
  | 1, hx =>
    simp at hx; subst hx
    refine ⟨some ⟨w.heap.size + 1, 0, none⟩, 1, cell_blk (i := 1) b2 rfl, by simp, by decide, .inr ⟨w.heap.size + 1, 0, rfl, blk_lt b1, fun j y hy => ?_⟩⟩
    match j, hy with
    | 0, hy => simp at hy; subst hy; exact ⟨cell_blk (i := 0) b1 rfl, cell_blk (i := 1) b1 rfl⟩
    | j + 1, hy => simp at hy
  | i + 2, hx => simp at hx
set_option maxRecDepth 100000 in
set_option maxHeartbeats 2000000 in
theorem awake_any (w : World) : Calls Try.prog 8 #[] w fun e w' => e = .returned (.bool true) ∧ Below w.heap.size w w' := by
  have hN := Lib.hid (new_ok _ 2 _ _ _ (sample_nodes w _ rfl) (Nat.le_refl _) sample_ok)
  have hS := Lib.hid (fun (a : Nat) (W : World) (h : TopoAt W a 2 (frees [[(0, 0), (0, 0)], [(0, 0)]])) => spots_any a 2 _ W h (by rw [sample_frees]; decide) (by rw [sample_frees]; decide))
  have hK := Lib.hid (fun (a : Nat) (W : World) (h : TopoAt W a 2 (frees [[(0, 0), (0, 0)], [(0, 0)]])) => nodes_any a 2 _ W h)
  have hB0 := ((((Below.refl w.heap.size w).alloc (Nat.le_refl _) (.cells #[.int .i64 0, .int .i64 0, .int .i64 0, .int .i64 0] 57)).alloc (by simp) (.cells #[.int .i64 0, .int .i64 0] 57)).alloc (by simp; omega)
      (.cells #[.slice (some ⟨w.heap.size, 0, none⟩) 2 2, .slice (some ⟨w.heap.size + 1, 0, none⟩) 1 1] 56))
  go_enter Try.func8, Try.ntmps8
  go_wp2_with (first
    | (go_at_call 10; refine hN.out.mono ?_; rintro e w1 ⟨a, rfl, hT, hb1⟩; have HT := Lib.hid hT; clear hT; have hB1 := below_step hB0 hb1)
    | (go_at_call 13; refine (hS.out _ _ HT.out).mono ?_; rintro e w2 ⟨g, rfl, hg, hR, hb2⟩; have HT2 := Lib.hid (HT.out.keep hb2); have hB2 := below_step hB1 hb2; rw [sample_frees] at hR ⊢; obtain ⟨x0, x1⟩ := hR.at_ (i := 1) rfl; obtain ⟨x2, x3⟩ := hR.at_ (i := 2) rfl; clear hR)
    | (go_at_call 16; refine (hK.out _ _ HT2.out).mono ?_; rintro e w' ⟨rfl, rfl⟩))
  go_ret
  exact ⟨rfl, hB2⟩
end Go.Proofs.Ytbabnhicdobmdaa
