/- What laws share: callees at a cluster that came in. -/
import Derived.Deep.QuietTactic
import Derived.BigQuiet
import Derived.Test.YtkhbbfpajiimaaaGreatTopoTotal
namespace Go.Proofs.YtkhbbfpajiimaaaGreat
open Go.RowKit
theorem row_dup (ns : List (List (Int × Int))) : ((frees ns).map spOf).Nodup := by
  suffices H : ∀ i, i ≤ ns.length → ((frees (ns.take i)).map spOf).Nodup by
    have := H ns.length (Nat.le_refl _)
    rwa [List.take_length] at this
  intro i
  induction i with
  | zero => intro _; simp [frees]
  | succ i ih =>
    intro hi
    obtain ⟨ds, hd⟩ := get_lt (l := ns) (k := i) (by omega)
    rw [frees_next hd]
    suffices H : ∀ k, k ≤ ds.length → ((frees (ns.take i) ++ frNode i (ds.take k)).map spOf).Nodup by
      have := H ds.length (Nat.le_refl _)
      rwa [List.take_length] at this
    intro k
    induction k with
    | zero => intro _; simpa [frNode] using ih (by omega)
    | succ k ihk =>
      intro hk
      obtain ⟨d, hd'⟩ := get_lt (l := ds) (k := k) (by omega)
      rw [frNode_next hd', ← List.append_assoc, List.map_append, List.map_singleton]
      refine List.nodup_append.2 ⟨ihk (by omega), by simp, fun a ha b hb => ?_⟩
      simp at hb
      subst hb
      rintro rfl
      exact spot_new ha
theorem frees_take_ge {ns : List (List (Int × Int))} (h : cluOk ns = true) : ∀ i, i ≤ ns.length → i ≤ (frees (ns.take i)).length
  | 0, _ => Nat.zero_le _
  | i + 1, hi => by
    obtain ⟨ds, hd⟩ := get_lt (l := ns) (k := i) (by omega)
    rw [frees_next hd, List.length_append, frNode_len]
    have := frees_take_ge h i (by omega)
    have := nodeOk_len (cluOk_node h hd)
    omega
theorem frees_pos {ns : List (List (Int × Int))} (h : cluOk ns = true) : 0 < (frees ns).length := by
  have := frees_take_ge h ns.length (Nat.le_refl _)
  rw [List.take_length] at this
  have := cluOk_len h
  omega
theorem frNode_ok {i : Nat} {ds : List (Int × Int)} (h : nodeOk ds = true) {f : Fr} (hf : f ∈ frNode i ds) : f.m < 18446744073709551616 ∧ f.c ≤ 1024 := by
  unfold frNode at hf
  obtain ⟨⟨⟨g, c⟩, j⟩, hp, rfl⟩ := List.mem_map.1 hf
  have hp2 := List.mem_zipIdx' hp
  have hd : ds[j]? = some (g, c) := by rw [List.getElem?_eq_getElem hp2.1]; exact congrArg some hp2.2.symm
  obtain ⟨g1, g2, c1, c2⟩ := nodeOk_dom h hd
  refine ⟨?_, by simp [frAt]; omega⟩
  exact first_lt (k := g.toNat) (by omega)
theorem frees_ok {ns : List (List (Int × Int))} (h : cluOk ns = true) : ∀ f ∈ frees ns, f.m < 18446744073709551616 ∧ f.c ≤ 1024 := by
  intro f hf
  unfold frees at hf
  obtain ⟨p, hp, hf⟩ := List.mem_flatMap.1 hf
  have hp2 := List.mem_zipIdx' hp
  have hd : ns[p.2]? = some p.1 := by rw [List.getElem?_eq_getElem hp2.1, ← hp2.2]
  exact frNode_ok (cluOk_node h hd) hf
theorem new_bad (A : Option Addr) (c : Nat) (ns : List (List (Int × Int))) (w W : World) (h : Nodes w w.heap.size A ns) (hB : Below w.heap.size w W) (hr : cluOk ns = false) :
    Calls Tryz.prog 75 #[.agg #[.slice A ns.length c]] W fun e w' => e = .returned (.tuple #[.pointer none, .int .i64 1]) ∧ Below W.heap.size W w' :=
  new_no A c w.heap.size ns W (Nodes.keep h hB (Nat.le_refl _)) hB.size hr
theorem new_good (A : Option Addr) (c : Nat) (ns : List (List (Int × Int))) (w W : World) (h : Nodes w w.heap.size A ns) (hB : Below w.heap.size w W) (hr : cluOk ns = true) :
    Calls Tryz.prog 75 #[.agg #[.slice A ns.length c]] W fun e w' => ∃ a, e = .returned (.tuple #[.pointer (some ⟨a, 0, none⟩), .int .i64 0]) ∧ TopoAt w' a ns.length (frees ns) ∧ Below W.heap.size W w' :=
  new_ok A c w.heap.size ns W (Nodes.keep h hB (Nat.le_refl _)) hB.size hr
theorem all_law (a k : Nat) (ns : List (List (Int × Int))) (hok : cluOk ns = true) (W : World) (h : TopoAt W a k (frees ns)) :
    Calls Tryz.prog 76 #[.pointer (some ⟨a, 0, none⟩)] W fun e w' => ∃ g, e = .returned (.slice (some ⟨g, 0, none⟩) (frees ns).length (frees ns).length) ∧ W.heap.size ≤ g ∧ w'.heap[g]? = some (.cells ((frees ns).flatMap frC).toArray 130 (0, 0)) ∧ Below W.heap.size W w' :=
  all_any a k _ W h (frees_pos hok) (by have := frees_len hok; omega)
theorem frees_take_ok {ns : List (List (Int × Int))} (h : cluOk ns = true) (k : Nat) {f : Fr} (hf : f ∈ frees (ns.take k)) : f.m < 18446744073709551616 ∧ f.c ≤ 1024 := by
  unfold frees at hf
  obtain ⟨p, hp, hf⟩ := List.mem_flatMap.1 hf
  have hp2 := List.mem_zipIdx' hp
  have hd : (ns.take k)[p.2]? = some p.1 := by rw [List.getElem?_eq_getElem hp2.1, ← hp2.2]
  have hk : p.2 < k := by have := hp2.1; rw [List.length_take] at this; omega
  rw [List.getElem?_take, if_pos hk] at hd
  exact frNode_ok (cluOk_node h hd) hf
theorem gsum_append (l l' : List Fr) : gsum (l ++ l') = gsum l + gsum l' := by simp [gsum]
theorem csum_append (l l' : List Fr) : csum (l ++ l') = csum l + csum l' := by simp [csum]
theorem gsum_node (i j : Nat) (ds : List (Int × Int)) : gsum (frNode i ds) = gsum (frNode j ds) := by unfold gsum frNode; rw [List.map_map, List.map_map]; rfl
theorem csum_node (i j : Nat) (ds : List (Int × Int)) : csum (frNode i ds) = csum (frNode j ds) := by unfold csum frNode; rw [List.map_map, List.map_map]; rfl
theorem cluOk_one {ds : List (Int × Int)} (h : nodeOk ds = true) : cluOk [ds] = true := by simp [cluOk, inB, h]
theorem frees_one (ds : List (Int × Int)) : frees [ds] = frNode 0 ds := by simp [frees]
end Go.Proofs.YtkhbbfpajiimaaaGreat
