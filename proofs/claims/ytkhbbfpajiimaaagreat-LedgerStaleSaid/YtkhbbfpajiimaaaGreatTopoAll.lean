/- What a topology tells: All, Spots, Total. -/
import Derived.Laws.CopyOwn
import Derived.Test.YtkhbbfpajiimaaaGreatTopoAsk
namespace Go.Proofs.YtkhbbfpajiimaaaGreat
open Go.RowKit

theorem frees_cells {w : World} {b off : Nat} {l : List Fr} (h : ∀ (i : Nat) (x : Fr), l[i]? = some x → FrAt w b (off + i * 4) x) : ∀ j v, (l.flatMap frC)[j]? = some v → w.cell? ((⟨b, off, none⟩ : Addr).add j) = some v := by
  intro j v hj
  rw [Addr.add_lit]
  have hjl : j < (l.flatMap frC).length := (List.getElem?_eq_some_iff.1 hj).1
  rw [frC_len] at hjl
  obtain ⟨f, hf⟩ := get_lt (l := l) (k := j / 4) (by omega)
  have e := flat_at hf (show j % 4 < 4 by omega)
  rw [show j / 4 * 4 + j % 4 = j by omega, hj] at e
  obtain ⟨h0, h1, h2, h3⟩ := h _ _ hf
  have hr : j % 4 = 0 ∨ j % 4 = 1 ∨ j % 4 = 2 ∨ j % 4 = 3 := by omega
  rcases hr with hr | hr | hr | hr
  · rw [hr] at e; simp [frC] at e; rw [e, ← h0, show off + j = off + j / 4 * 4 by omega]
  · rw [hr] at e; simp [frC] at e; rw [e, ← h1, show off + j = off + j / 4 * 4 + 1 by omega]
  · rw [hr] at e; simp [frC] at e; rw [e, ← h2, show off + j = off + j / 4 * 4 + 2 by omega]
  · rw [hr] at e; simp [frC] at e; rw [e, ← h3, show off + j = off + j / 4 * 4 + 3 by omega]
theorem frC_one : ∀ (l : List Fr), ∀ v ∈ l.flatMap frC, v.oneCell' = true := by
  intro l v hv
  obtain ⟨f, _, hv⟩ := List.mem_flatMap.1 hv
  simp [frC] at hv
  rcases hv with rfl | rfl | rfl | rfl <;> rfl
theorem blk_frees {w : World} {g : Nat} {t : TypeId} {l : List Fr} (h : w.heap[g]? = some (.cells (l.flatMap frC).toArray t (0, 0))) : Frees w w.heap.size (some ⟨g, 0, none⟩) l := by
  refine .inr ⟨g, 0, rfl, blk_lt h, fun i f hf => ?_⟩
  have hc : ∀ r u, r < 4 → (frC f)[r]? = some u → w.cell? ⟨g, 0 + i * 4 + r, none⟩ = some u := fun r u hr hu => by
    refine cell_blk h ?_
    rw [Nat.zero_add, List.getElem?_toArray, flat_at hf hr, hu]
  exact ⟨hc 0 _ (by omega) rfl, hc 1 _ (by omega) rfl, hc 2 _ (by omega) rfl, hc 3 _ (by omega) rfl⟩
set_option maxRecDepth 100000 in
set_option maxHeartbeats 1000000 in
theorem all_any (a k : Nat) (l : List Fr) (w : World) (h : TopoAt w a k l) (h0 : 0 < l.length) (hl : l.length ≤ 1000) :
    Calls Tryz.prog 76 #[.pointer (some ⟨a, 0, none⟩)] w fun e w' => ∃ g, e = .returned (.slice (some ⟨g, 0, none⟩) l.length l.length) ∧ w.heap.size ≤ g ∧ w'.heap[g]? = some (.cells (l.flatMap frC).toArray 130 (0, 0)) ∧ Below w.heap.size w w' := by
  obtain ⟨m, A, c, h1, h2, h3⟩ := h
  obtain ⟨f, hf⟩ := get_lt h0
  obtain ⟨b, off, rfl, hb, hc⟩ := h2.at_ hf
  have hcells := frees_cells hc
  have ha := blk_lt h1
  obtain ⟨i0, hi, hz0, hz1, hz2⟩ := info_parts info_free
  obtain ⟨n, hln⟩ : ∃ n, l.length = n := ⟨_, rfl⟩
  have hfl := frC_len l
  rw [hln] at h0 hl h1 hfl ⊢
  obtain ⟨mc, hmc⟩ : ∃ mc, mc = madeCells (.agg #[.int .i64 0, .int .i64 0, .int .u64 0, .int .i64 0] : Value).cells (n * 4) := ⟨_, rfl⟩
  have hmcs : mc.size = n * 4 := by rw [hmc, size_madeCells]
  have hmk : ∀ W : World, (Instr.makeSlice 52 (.int .i64 (n : Nat)) (.int .i64 (n : Nat))).run Tryz.prog W = .ok (.slice (some ⟨W.heap.size, 0, none⟩) n n) (W.alloc (.cells mc 130)) := fun W => by
    have := run_make (P := Tryz.prog) W 52 130 i0 _ Tryz.underlying52 hi hz0 .i64 .i64 (n : Nat) (n : Nat) (by omega) (by omega) (by rw [hz2]; omega) (by omega)
    rw [hz1] at this
    rw [hmc]
    simpa using this
  have c1 : w.cell? ⟨a, 1, none⟩ = some (.slice (some ⟨b, off, none⟩) n c) := cell_blk (i := 1) h1 rfl
  have hB1 := (Below.refl w.heap.size w).alloc (Nat.le_refl _) (.cells mc 130)
  have c2 : (w.alloc (.cells mc 130)).cell? ⟨a, 1, none⟩ = some (.slice (some ⟨b, off, none⟩) n c) := (hB1.cell (p := ⟨a, 1, none⟩) ha).trans c1
  have H := Lib.hid (And.intro hcells (And.intro hfl (And.intro hmcs (And.intro hb (And.intro (heap_alloc_new w (.cells mc 130)) (And.intro (frC_one l) hi))))))
  clear hmc hmcs h1 h2 h3 hc hf hcells hln hfl hi hz0 hz2
  go_enter Tryz.func76, Tryz.ntmps76
  go_wp2_with (with_reducible refine wpList_copy_whole rfl _ _ 52 52 rfl 130 i0 4 Tryz.underlying52 H.out.2.2.2.2.2.2 hz1 w.heap.size n n c ⟨b, off, none⟩ rfl rfl mc 130 (l.flatMap frC) H.out.2.2.2.2.1 H.out.2.1 H.out.2.2.1 (fun j v hj => (hB1.cell (p := (⟨b, off, none⟩ : Addr).add j) (by rw [Addr.add_lit]; exact H.out.2.2.2.1)).trans (H.out.1 j v hj)) H.out.2.2.2.2.2.1 ?_)
  go_ret
  exact ⟨w.heap.size, rfl, Nat.le_refl _, setRow_heap _ _ _ _ _ _ H.out.2.2.2.2.1, below_setRow hB1 (Nat.le_refl _) _⟩

/-! ### Spots -/
theorem info_spot : (Tryz.prog.info? 38).map (fun i => (i.zero, i.size, i.bytes)) = some (some (.agg #[.int .i64 0, .int .i64 0]), 2, 16) := by kernel_rfl
/-- Block g is a row of n spots, the first k of which are those of the list. -/
def SpotRow (w : World) (g n k : Nat) (l : List Fr) : Prop :=
  ∃ cur, w.heap[g]? = some (.cells cur 38 (0, 0)) ∧ cur.size = n * 2 ∧ ∀ i f, i < k → l[i]? = some f → cur[i * 2]? = some (.int .i64 (f.n : Nat)) ∧ cur[i * 2 + 1]? = some (.int .i64 (f.d : Nat))
theorem SpotRow.of_block {w w' : World} {g n k : Nat} {l : List Fr} (h : SpotRow w g n k l) (e : w'.heap[g]? = w.heap[g]?) : SpotRow w' g n k l := by
  obtain ⟨cur, h1, h2⟩ := h
  exact ⟨cur, e.trans h1, h2⟩
theorem SpotRow.lt {w : World} {g n k : Nat} {l : List Fr} (h : SpotRow w g n k l) : g < w.heap.size := by
  obtain ⟨cur, h1, h2⟩ := h
  exact blk_lt h1
theorem SpotRow.old {w : World} {g n k : Nat} {l : List Fr} (h : SpotRow w g n k l) (hk : k < n) : ∃ u0 u1, w.cell? ⟨g, k * 2, none⟩ = some u0 ∧ w.cell? ⟨g, k * 2 + 1, none⟩ = some u1 ∧ w.frozen? ⟨g, k * 2, none⟩ = false ∧ w.frozen? ⟨g, k * 2 + 1, none⟩ = false := by
  obtain ⟨cur, h1, h2, _⟩ := h
  exact ⟨_, _, cell_blk h1 (Array.getElem?_eq_getElem (by omega)), cell_blk h1 (Array.getElem?_eq_getElem (by omega)), frozen_blk h1, frozen_blk h1⟩
theorem SpotRow.step {w : World} {g n k : Nat} {l : List Fr} {f : Fr} (h : SpotRow w g n k l) (hk : k < n) (hf : l[k]? = some f) :
    SpotRow ((w.setCell ⟨g, k * 2, none⟩ (.int .i64 (f.n : Nat))).setCell ⟨g, k * 2 + 1, none⟩ (.int .i64 (f.d : Nat))) g n (k + 1) l := by
  obtain ⟨cur, h1, h2, h3⟩ := h
  refine ⟨_, blk_put _ (blk_put _ h1), by simpa using h2, fun i x hi hx => ?_⟩
  by_cases e : i = k
  · subst e
    obtain rfl : x = f := Option.some.inj (hx.symm.trans hf)
    constructor
    · rw [Array.getElem?_setIfInBounds_ne (by omega), Array.getElem?_setIfInBounds_self_of_lt (by omega)]
    · rw [Array.getElem?_setIfInBounds_self_of_lt (by simp; omega)]
  · obtain ⟨x0, x1⟩ := h3 i x (by omega) hx
    constructor
    · rw [Array.getElem?_setIfInBounds_ne (by omega), Array.getElem?_setIfInBounds_ne (by omega)]; exact x0
    · rw [Array.getElem?_setIfInBounds_ne (by omega), Array.getElem?_setIfInBounds_ne (by omega)]; exact x1
theorem SpotRow.at_ {w : World} {g n i : Nat} {l : List Fr} {f : Fr} (h : SpotRow w g n l.length l) (hf : l[i]? = some f) : w.cell? ⟨g, i * 2, none⟩ = some (.int .i64 (f.n : Nat)) ∧ w.cell? ⟨g, i * 2 + 1, none⟩ = some (.int .i64 (f.d : Nat)) := by
  obtain ⟨cur, h1, h2, h3⟩ := h
  obtain ⟨x0, x1⟩ := h3 i f (List.getElem?_eq_some_iff.1 hf).1 hf
  exact ⟨cell_blk h1 x0, cell_blk h1 x1⟩
end Go.Proofs.YtkhbbfpajiimaaaGreat
