/- What the laws of layer 2 share: their callees at a cluster that came in. -/
import Derived.Deep.QuietTactic
import Derived.BigQuiet
import Derived.Test.YtbabnhicdobmdaaTopoAwake
namespace Go.Proofs.Ytbabnhicdobmdaa
open Go.RowKit
theorem few_law (A : Option Addr) (c : Nat) (ns : List (List (Int × Int))) (w W : World) (h : Nodes w w.heap.size A ns) (hB : Below w.heap.size w W) (r : Bool) (hr : fewB ns = r) :
    Calls Try.prog 9 #[.agg #[.slice A ns.length c]] W fun e w' => e = .returned (.bool r) ∧ Below W.heap.size W w' :=
  few_any A c w.heap.size ns W (Nodes.keep h hB (Nat.le_refl _)) hB.size r hr
theorem new_bad (A : Option Addr) (c : Nat) (ns : List (List (Int × Int))) (w W : World) (h : Nodes w w.heap.size A ns) (hB : Below w.heap.size w W) (hr : cluOk ns = false) :
    Calls Try.prog 10 #[.agg #[.slice A ns.length c]] W fun e w' => e = .returned (.tuple #[.pointer none, .int .i64 1]) ∧ Below W.heap.size W w' :=
  new_no A c w.heap.size ns W (Nodes.keep h hB (Nat.le_refl _)) hB.size hr
theorem new_good (A : Option Addr) (c : Nat) (ns : List (List (Int × Int))) (w W : World) (h : Nodes w w.heap.size A ns) (hB : Below w.heap.size w W) (hr : cluOk ns = true) :
    Calls Try.prog 10 #[.agg #[.slice A ns.length c]] W fun e w' => ∃ a, e = .returned (.tuple #[.pointer (some ⟨a, 0, none⟩), .int .i64 0]) ∧ TopoAt w' a ns.length (frees ns) ∧ Below W.heap.size W w' :=
  new_ok A c w.heap.size ns W (Nodes.keep h hB (Nat.le_refl _)) hB.size hr
theorem total_law (a k : Nat) (ns : List (List (Int × Int))) (hok : cluOk ns = true) (W : World) (h : TopoAt W a k (frees ns)) :
    Calls Try.prog 17 #[.pointer (some ⟨a, 0, none⟩)] W fun e w' => e = .returned (.agg #[.int .i64 (gsum (frees ns) : Nat), .int .i64 (csum (frees ns) : Nat)]) ∧ Below W.heap.size W w' :=
  total_any a k _ W h (frees_pos hok) (by have := frees_len hok; omega) (frees_ok hok)
theorem spots_law (a k : Nat) (ns : List (List (Int × Int))) (hok : cluOk ns = true) (W : World) (h : TopoAt W a k (frees ns)) :
    Calls Try.prog 13 #[.pointer (some ⟨a, 0, none⟩)] W fun e w' => ∃ g, e = .returned (.slice (some ⟨g, 0, none⟩) (frees ns).length (frees ns).length) ∧ W.heap.size ≤ g ∧ SpotRow w' g (frees ns).length (frees ns).length (frees ns) ∧ Below W.heap.size W w' :=
  spots_any a k _ W h (frees_pos hok) (by have := frees_len hok; omega)
theorem all_law (a k : Nat) (ns : List (List (Int × Int))) (hok : cluOk ns = true) (W : World) (h : TopoAt W a k (frees ns)) :
    Calls Try.prog 15 #[.pointer (some ⟨a, 0, none⟩)] W fun e w' => ∃ g, e = .returned (.slice (some ⟨g, 0, none⟩) (frees ns).length (frees ns).length) ∧ W.heap.size ≤ g ∧ w'.heap[g]? = some (.cells ((frees ns).flatMap frC).toArray 46 (0, 0)) ∧ Below W.heap.size W w' :=
  all_any a k _ W h (frees_pos hok) (by have := frees_len hok; omega)
theorem frees_take_ok {ns : List (List (Int × Int))} (h : cluOk ns = true) (k : Nat) {f : Fr} (hf : f ∈ frees (ns.take k)) : f.m < 18446744073709551616 ∧ f.c ≤ 1024 := by
  unfold frees at hf
  obtain ⟨p, hp, hf⟩ := List.mem_flatMap.1 hf
  have hp2 := List.mem_zipIdx' hp
  have hd : (ns.take k)[p.2]? = some p.1 := by rw [List.getElem?_eq_getElem hp2.1, ← hp2.2]
  have hk : p.2 < k := by have := hp2.1; rw [List.length_take] at this; omega
  rw [List.getElem?_take, if_pos hk] at hd
  exact frNode_ok (cluOk_node h hd) hf
theorem gsum_append (l l' : List Fr) : gsum (l ++ l') = gsum l + gsum l' := by simp [gsum]
theorem csum_append (l l' : List Fr) : csum (l ++ l') = csum l + csum l' := by simp [csum]
theorem gsum_node (i j : Nat) (ds : List (Int × Int)) : gsum (frNode i ds) = gsum (frNode j ds) := by unfold gsum frNode; rw [List.map_map, List.map_map]; rfl
theorem csum_node (i j : Nat) (ds : List (Int × Int)) : csum (frNode i ds) = csum (frNode j ds) := by unfold csum frNode; rw [List.map_map, List.map_map]; rfl
theorem cluOk_one {ds : List (Int × Int)} (h : nodeOk ds = true) : cluOk [ds] = true := by simp [cluOk, inB, h]
theorem frees_one (ds : List (Int × Int)) : frees [ds] = frNode 0 ds := by simp [frees]
end Go.Proofs.Ytbabnhicdobmdaa
