/- Plain lists: what is in a cluster's spots, node by node; no program is spoken of. -/
import Derived.Test.YtkhbbfpajiimaaaGreatTopoIn
namespace Go.Proofs.YtkhbbfpajiimaaaGreat

def frAt (i k : Nat) (d : Int × Int) : Fr := ⟨i, k, 2 ^ d.1.toNat - 1, d.2.toNat⟩
def frNode (i : Nat) (ds : List (Int × Int)) : List Fr := ds.zipIdx.map fun p => frAt i p.2 p.1
/-- What is in all spots of a cluster, rising. -/
def frees (ns : List (List (Int × Int))) : List Fr := ns.zipIdx.flatMap fun p => frNode p.2 p.1
def spOf (f : Fr) : Nat × Nat := (f.n, f.d)

theorem frNode_next {i k : Nat} {ds : List (Int × Int)} {d : Int × Int} (h : ds[k]? = some d) : frNode i (ds.take (k + 1)) = frNode i (ds.take k) ++ [frAt i k d] := by
  have hk : k < ds.length := (List.getElem?_eq_some_iff.1 h).1
  unfold frNode
  rw [take_next h, List.zipIdx_append, List.map_append]
  simp [List.length_take, Nat.min_eq_left (Nat.le_of_lt hk)]
theorem frees_next {i : Nat} {ns : List (List (Int × Int))} {ds : List (Int × Int)} (h : ns[i]? = some ds) : frees (ns.take (i + 1)) = frees (ns.take i) ++ frNode i ds := by
  have hk : i < ns.length := (List.getElem?_eq_some_iff.1 h).1
  unfold frees
  rw [take_next h, List.zipIdx_append, List.flatMap_append]
  simp [List.length_take, Nat.min_eq_left (Nat.le_of_lt hk)]
theorem frNode_mem {i : Nat} {ds : List (Int × Int)} {f : Fr} (h : f ∈ frNode i ds) : f.n = i ∧ f.d < ds.length := by
  unfold frNode at h
  obtain ⟨p, hp, rfl⟩ := List.mem_map.1 h
  exact ⟨rfl, (List.mem_zipIdx' hp).1⟩
theorem frees_mem {ns : List (List (Int × Int))} {f : Fr} (h : f ∈ frees ns) : f.n < ns.length := by
  unfold frees at h
  obtain ⟨p, hp, h⟩ := List.mem_flatMap.1 h
  rw [(frNode_mem h).1]
  exact (List.mem_zipIdx' hp).1
theorem spot_new {i k : Nat} {ns : List (List (Int × Int))} {ds : List (Int × Int)} {d : Int × Int} : spOf (frAt i k d) ∉ (frees (ns.take i) ++ frNode i (ds.take k)).map spOf := by
  intro h
  obtain ⟨f, hf, e⟩ := List.mem_map.1 h
  simp [spOf, frAt] at e
  rcases List.mem_append.1 hf with hf | hf
  · have := frees_mem hf
    rw [List.length_take] at this
    omega
  · have := frNode_mem hf
    rw [List.length_take] at this
    omega
theorem frNode_len (i : Nat) (ds : List (Int × Int)) : (frNode i ds).length = ds.length := by simp [frNode]
theorem nodeOk_len {ds : List (Int × Int)} (h : nodeOk ds = true) : 1 ≤ ds.length ∧ ds.length ≤ 4 := by
  simp [nodeOk, inB] at h; omega
theorem nodeOk_dom {ds : List (Int × Int)} (h : nodeOk ds = true) {k : Nat} {g c : Int} (hd : ds[k]? = some (g, c)) : 0 ≤ g ∧ g ≤ 16 ∧ 0 ≤ c ∧ c ≤ 1024 := by
  have h2 : ds.all domOk = true := by simp [nodeOk] at h; simpa using h.2
  have := List.all_eq_true.1 h2 _ (List.mem_of_getElem? hd)
  simp [domOk, inB] at this; omega
theorem cluOk_len {ns : List (List (Int × Int))} (h : cluOk ns = true) : 1 ≤ ns.length ∧ ns.length ≤ 16 := by
  simp [cluOk, inB] at h; omega
theorem cluOk_node {ns : List (List (Int × Int))} (h : cluOk ns = true) {i : Nat} {ds : List (Int × Int)} (hd : ns[i]? = some ds) : nodeOk ds = true := by
  have h2 : ns.all nodeOk = true := by simp [cluOk] at h; simpa using h.2
  exact List.all_eq_true.1 h2 _ (List.mem_of_getElem? hd)
theorem frees_take_len {ns : List (List (Int × Int))} (h : cluOk ns = true) : ∀ i, i ≤ ns.length → (frees (ns.take i)).length ≤ 4 * i
  | 0, _ => by simp [frees]
  | i + 1, hi => by
    obtain ⟨ds, hd⟩ := get_lt (l := ns) (k := i) (by omega)
    rw [frees_next hd, List.length_append, frNode_len]
    have := frees_take_len h i (by omega)
    have := nodeOk_len (cluOk_node h hd)
    omega
theorem frees_len {ns : List (List (Int × Int))} (h : cluOk ns = true) : (frees ns).length ≤ 64 := by
  have := frees_take_len h ns.length (Nat.le_refl _)
  rw [List.take_length] at this
  have := cluOk_len h
  omega
end Go.Proofs.YtkhbbfpajiimaaaGreat
