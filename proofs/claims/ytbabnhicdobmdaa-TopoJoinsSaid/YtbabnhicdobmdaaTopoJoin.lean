/- Two clusters' nodes, one behind the other: what append leaves of slices that came in, nil or empty or not; spots so many nodes further on. -/
import Derived.Maps.AppendAt
import Derived.Deep.AppendLies
import Derived.Laws.OwnMore
import Derived.Deep.Slices
import Derived.Test.YtbabnhicdobmdaaTopoLaws
namespace Go.Proofs.Ytbabnhicdobmdaa
open Go.RowKit

/-- What a node's cell holds: a slice of its domains. -/
def NodeV (w : World) (B : Nat) (u : Value) (ds : List (Int × Int)) : Prop := ∃ A c, u = .slice A ds.length c ∧ ds.length ≤ c ∧ c ≤ maxLen ∧ Doms w B A ds
def NodeVs (w : World) (B : Nat) (us : List Value) (ns : List (List (Int × Int))) : Prop := us.length = ns.length ∧ ∀ (i : Nat) (u : Value) (ds : List (Int × Int)), us[i]? = some u → ns[i]? = some ds → NodeV w B u ds
/-- The cells of a slice, nil or not, are these. -/
def Cells (w : World) (A : Option Addr) (us : List Value) : Prop := (A = none ∧ us = []) ∨ ∃ ad, A = some ad ∧ ∀ (j : Nat) (u : Value), us[j]? = some u → w.cell? (ad.add j) = some u
theorem nodes_vals {w : World} {B : Nat} {A : Option Addr} {ns : List (List (Int × Int))} (h : Nodes w B A ns) : ∃ us, NodeVs w B us ns ∧ Cells w A us ∧ (∀ u ∈ us, u.oneCell' = true) ∧ (us ≠ [] → ∃ b off, A = some ⟨b, off, none⟩ ∧ b < B) := by
  rcases h with rfl | ⟨b, off, rfl, hb, hc⟩
  · refine ⟨[], ⟨rfl, fun i u ds h => by simp at h⟩, ?_, by simp, by simp⟩
    cases A with
    | none => exact .inl ⟨rfl, rfl⟩
    | some ad => exact .inr ⟨ad, rfl, fun j u h => by simp at h⟩
  · have hall : ∀ i, i < ns.length → ∃ u : Value, w.cell? ⟨b, off + i, none⟩ = some u ∧ (∃ ds, ns[i]? = some ds ∧ NodeV w B u ds) := fun i hi => by
      obtain ⟨ds, hd⟩ := get_lt (l := ns) (k := i) hi
      obtain ⟨A, c, h0, h1, h2, h3⟩ := hc i ds hd
      rw [Nat.mul_one] at h0
      exact ⟨_, h0, ds, hd, A, c, rfl, h1, h2, h3⟩
    obtain ⟨f, hf⟩ := Go.Deep.choose_lt (α := Value) hall
    have at_ : ∀ i u, ((List.range ns.length).map f)[i]? = some u → i < ns.length ∧ u = f i := fun i u hu => by
      rw [List.getElem?_map] at hu
      obtain ⟨j, hj, rfl⟩ := Option.map_eq_some_iff.1 hu
      obtain ⟨hjl, hj2⟩ := List.getElem?_eq_some_iff.1 hj
      simp at hjl hj2
      subst hj2
      exact ⟨hjl, rfl⟩
    refine ⟨(List.range ns.length).map f, ⟨by simp, fun i u ds hu hd => ?_⟩, .inr ⟨⟨b, off, none⟩, rfl, fun j u hu => ?_⟩, fun u hu => ?_, fun _ => ⟨b, off, rfl, hb⟩⟩
    · obtain ⟨hi, rfl⟩ := at_ i u hu
      obtain ⟨_, ds', hd', hv⟩ := hf i hi
      rw [hd] at hd'; cases hd'
      exact hv
    · obtain ⟨hi, rfl⟩ := at_ j u hu
      rw [Addr.add_lit]
      exact (hf j hi).1
    · obtain ⟨i, hi⟩ := List.mem_iff_getElem?.1 hu
      obtain ⟨hil, rfl⟩ := at_ i u hi
      obtain ⟨_, _, _, A, c, e, _⟩ := hf i hil
      rw [e]; rfl
theorem NodeV.keep {w w' : World} {B B' : Nat} {u : Value} {ds : List (Int × Int)} (h : NodeV w B u ds) (hk : Below B w w') (hB : B ≤ B') : NodeV w' B' u ds := by
  obtain ⟨A, c, h1, h2, h3, h4⟩ := h
  exact ⟨A, c, h1, h2, h3, Doms.keep h4 hk hB⟩
theorem NodeVs.keep {w w' : World} {B B' : Nat} {us : List Value} {ns : List (List (Int × Int))} (h : NodeVs w B us ns) (hk : Below B w w') (hB : B ≤ B') : NodeVs w' B' us ns :=
  ⟨h.1, fun i u ds hu hd => (h.2 i u ds hu hd).keep hk hB⟩
theorem NodeVs.append {w : World} {B : Nat} {us us' : List Value} {ns ns' : List (List (Int × Int))} (h : NodeVs w B us ns) (h' : NodeVs w B us' ns') : NodeVs w B (us ++ us') (ns ++ ns') := by
  refine ⟨by rw [List.length_append, List.length_append, h.1, h'.1], fun i u ds hu hd => ?_⟩
  by_cases hi : i < us.length
  · rw [List.getElem?_append_left hi] at hu
    rw [List.getElem?_append_left (by rw [← h.1]; exact hi)] at hd
    exact h.2 i u ds hu hd
  · rw [List.getElem?_append_right (by omega)] at hu
    rw [List.getElem?_append_right (by rw [← h.1]; omega), ← h.1] at hd
    exact h'.2 _ u ds hu hd
theorem own_nodes {w : World} {base B : Nat} {A : Option Addr} {c : Nat} {us : List Value} {ns : List (List (Int × Int))} (ho : w.ownsRow base 56 1 (.slice A ns.length c) ns.length us) (hv : NodeVs w B us ns) (hB : B ≤ w.heap.size) : Nodes w w.heap.size A ns := by
  rcases ho.2 with ⟨e, h0⟩ | ⟨g, cap, cur, e, _, hg, _⟩
  · exact .inl (List.length_eq_zero_iff.1 h0)
  · cases e
    refine .inr ⟨g, 0, rfl, blk_lt hg, fun i ds hd => ?_⟩
    have hi : i < ns.length := (List.getElem?_eq_some_iff.1 hd).1
    obtain ⟨u, hu⟩ := get_lt (l := us) (k := i) (by rw [hv.1]; exact hi)
    obtain ⟨A', c', e, h1, h2, h3⟩ := hv.2 i u ds hu hd
    refine ⟨A', c', ?_, h1, h2, Doms.keep h3 (Below.refl _ _) hB⟩
    rw [Nat.zero_add, Nat.mul_one, ho.cellAt i (by omega), hu, e]

section
variable {P : Program} (w : World)
/-- append onto a row of the call's own, the source nil, or empty, or not. -/
theorem run_append_cells (base : Nat) (t ty e : TypeId) (i : TypeInfo) (z : Value) (bytes : Nat) (ht : P.underlying t = some (.slice e)) (hi : P.info? e = some i) (hz : i.zero = some z)
    (hsize : i.size = 1) (hby : i.bytes = bytes) (hzs : z.cells.size = 1) (v : Value) (n : Nat) (xs : List Value) (hown : w.ownsRow base e 1 v n xs)
    (A : Option Addr) (c : Nat) (us : List Value) (hc : Cells w A us) (h1 : ∀ u ∈ us, u.oneCell' = true) (h63 : n + us.length ≤ maxLen) (hbytes : (n + us.length) * bytes ≤ 140737488355328) (hbase : base ≤ w.heap.size) :
    ∃ A' c' w', (Builtin.append_ #[t, t] ty #[v, .slice A us.length c]).run P w = .ok (.slice A' (n + us.length) c') w' ∧ w'.ownsRow base e 1 (.slice A' (n + us.length) c') (n + us.length) (xs ++ us) ∧ w.grownBy w' v.ownBlock := by
  have form : ∀ {v' : Value} {w' : World} {k : Nat} {ys : List Value}, w'.ownsRow base e 1 v' k ys → ∃ A' c', v' = .slice A' k c' := by
    intro v' w' k ys ho
    rcases ho.2 with ⟨rfl, rfl⟩ | ⟨g, cap, cur, rfl, _⟩
    · exact ⟨none, 0, rfl⟩
    · exact ⟨_, _, rfl⟩
  rcases hc with ⟨rfl, rfl⟩ | ⟨ad, rfl, hcc⟩
  · obtain ⟨A', c', rfl⟩ := form hown
    refine ⟨A', c', w, ?_, by simpa using hown, World.grownBy.refl w _⟩
    rcases hown.2 with ⟨e0, rfl⟩ | ⟨g, cap, cur, e0, _, _, hnc, _⟩
    · cases e0; simp [Builtin.append_, run_underlying ht, sizeOf, typeInfo, hi, Builtin.lenOf, Builtin.firstCells]
    · cases e0; simp [Builtin.append_, run_underlying ht, sizeOf, typeInfo, hi, Builtin.lenOf, Builtin.firstCells, hnc, storeCells]
  · obtain ⟨v', w', hr, h2, h3, _⟩ := run_append_own_at (P := P) w base t ty e i z 1 bytes ht hi hz hsize hby hzs (by decide) v n xs hown ad us.length c us (by simp) hcc h1 h63 hbytes hbase
    obtain ⟨A', c', rfl⟩ := form h2
    exact ⟨A', c', w', hr, h2, h3⟩
theorem step_append_cells {ops : Array Oper} {o : Oper} {a : Act} {K : Act → World → Prop} {Q : Exit → Act → World → Prop} {E : Prop} (hgd : o.guard = none) (s x : Operand) (t : TypeId)
    (ho : o.op = .call { callee := .builtin .append, args := #[s, x], argTypes := #[t, t] })
    (base : Nat) (e : TypeId) (i : TypeInfo) (z : Value) (bytes : Nat) (ht : P.underlying t = some (.slice e)) (hi : P.info? e = some i) (hz : i.zero = some z)
    (hsize : i.size = 1) (hby : i.bytes = bytes) (hzs : z.cells.size = 1) (v : Value) (n : Nat) (xs : List Value) (hs : a.eval s = v) (hown : w.ownsRow base e 1 v n xs)
    (A : Option Addr) (m c : Nat) (us : List Value) (hx : a.eval x = .slice A m c) (hm : m = us.length) (hc : Cells w A us) (h1 : ∀ u ∈ us, u.oneCell' = true) (h63 : n + us.length ≤ maxLen) (hbytes : (n + us.length) * bytes ≤ 140737488355328) (hbase : base ≤ w.heap.size)
    (h : ∀ A' c' w', w'.ownsRow base e 1 (.slice A' (n + us.length) c') (n + us.length) (xs ++ us) → w.grownBy w' v.ownBlock → K (a.put o.dst (.slice A' (n + us.length) c')) w') :
    if Region.wanted o (yielded ops a.tmps) = true then Oper.wp P o a w K Q else E := by
  have hw : Region.wanted o (yielded ops a.tmps) = true := by simp [Region.wanted, hgd]
  rw [if_pos hw]
  subst hm
  obtain ⟨A', c', w', hr, h2, h3⟩ := run_append_cells (P := P) w base t o.type e i z bytes ht hi hz hsize hby hzs v n xs hown A c us hc h1 h63 hbytes hbase
  unfold Oper.wp execOp
  simp only [ho, resolve, invoke, builtin, Sem.run_bind, Sem.run_pure, Result.andThen_ok, List.map_toArray, List.map_cons, List.map_nil, hs, hx, hr]
  exact h A' c' w' h2 h3
end

/-- New, whatever comes of it. -/
theorem new_gen (A : Option Addr) (c B : Nat) (ns : List (List (Int × Int))) (w : World) (h : Nodes w B A ns) (hB : B ≤ w.heap.size) :
    Calls Try.prog 10 #[.agg #[.slice A ns.length c]] w fun e w' => ∃ (p : Option Addr) (ez : Int), e = .returned (.tuple #[.pointer p, .int .i64 ez]) ∧ Below w.heap.size w w' ∧
      Hid ((cluOk ns = false ∧ p = none ∧ ez = 1) ∨ (cluOk ns = true ∧ ∃ a, p = some ⟨a, 0, none⟩ ∧ ez = 0 ∧ TopoAt w' a ns.length (frees ns))) := by
  cases hok : cluOk ns
  · exact (new_no A c B ns w h hB hok).mono fun e w' ⟨he, hb⟩ => ⟨none, 1, he, hb, Lib.hid (.inl ⟨rfl, rfl, rfl⟩)⟩
  · exact (new_ok A c B ns w h hB hok).mono fun e w' ⟨a, he, hT, hb⟩ => ⟨_, 0, he, hb, Lib.hid (.inr ⟨rfl, a, rfl, rfl, hT⟩)⟩

/-- A spot so many nodes further on. -/
def shift (k : Nat) (f : Fr) : Fr := ⟨f.n + k, f.d, f.m, f.c⟩
theorem frees_shift : ∀ (ms : List (List (Int × Int))) (k j : Nat), ((ms.zipIdx (j + k)).flatMap fun p => frNode p.2 p.1) = ((ms.zipIdx j).flatMap fun p => frNode p.2 p.1).map (shift k)
  | [], _, _ => rfl
  | ds :: ms, k, j => by
    have e : frNode (j + k) ds = (frNode j ds).map (shift k) := by
      unfold frNode
      rw [List.map_map]; rfl
    have ih := frees_shift ms k (j + 1)
    rw [show j + 1 + k = j + k + 1 by omega] at ih
    simp only [List.zipIdx_cons, List.flatMap_cons, List.map_append, e, ih]
theorem frees_append (ns ms : List (List (Int × Int))) : frees (ns ++ ms) = frees ns ++ (frees ms).map (shift ns.length) := by
  unfold frees
  rw [List.zipIdx_append, List.flatMap_append]
  have := frees_shift ms ns.length 0
  rw [this]
theorem cluOk_both {ns ms : List (List (Int × Int))} (h : cluOk ns = true) (h' : cluOk ms = true) : cluOk (ns ++ ms) = decide (ns.length + ms.length ≤ 16) := by
  have l1 := cluOk_len h
  have l2 := cluOk_len h'
  simp [cluOk] at h h'
  unfold cluOk
  rw [List.all_append, List.length_append]
  have e1 : ns.all nodeOk = true := by simpa using h.2
  have e2 : ms.all nodeOk = true := by simpa using h'.2
  rw [e1, e2]
  unfold inB
  by_cases hle : ns.length + ms.length ≤ 16
  · simp [hle]; omega
  · simp [hle]; omega
theorem few_len {ns : List (List (Int × Int))} (h : fewB ns = true) : ns.length ≤ 40 := by
  simp [fewB] at h; exact h.1
end Go.Proofs.Ytbabnhicdobmdaa
