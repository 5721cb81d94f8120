/- Queues in memory: an object, its rows, each row's waits in a block of their own. -/
import Derived.Deep.AppendLies
import Derived.Test.YtdeniikaddlifaaElsApp
import Derived.Test.YtdeniikaddlifaaOrdMay
import Derived.Test.YtdeniikaddlifaaQuMath
namespace Go.Proofs.Ytdeniikaddlifaa
open Go.RowKit

/-- Queues at block p: their rows at block g, each row's waits a slice V k. -/
structure QuAt (w : World) (p g c : Nat) (V : Nat → Value) (R : List Int) (L : List Wt) : Prop where
  inv : QL.Inv R L
  obj : w.heap[p]? = some (.cells #[.slice (some ⟨g, 0, none⟩) R.length c] 65 (0, 0))
  row : ∃ cur, w.heap[g]? = some (.cells cur 63 (0, 0)) ∧ ∀ k, k < R.length → cur[k * 2]? = some (.int .i64 (QL.roomOf R k)) ∧ cur[k * 2 + 1]? = some (V k)
  own : ∀ k, k < R.length → w.ownsRow 0 39 10 (V k) (QL.rowL L k).length ((QL.rowL L k).flatMap wtC)
  pg : p ≠ g
  ap : ∀ k b, k < R.length → (V k).ownBlock = some b → b ≠ p ∧ b ≠ g
  ap2 : ∀ j k b, j < R.length → k < R.length → j ≠ k → (V j).ownBlock = some b → (V k).ownBlock ≠ some b
/-- Their blocks. -/
def QuB (R : List Int) (p g : Nat) (V : Nat → Value) : Nat → Prop := fun i => i = p ∨ i = g ∨ ∃ k, k < R.length ∧ (V k).ownBlock = some i
section
variable {w w' : World} {p g c : Nat} {V : Nat → Value} {R : List Int} {L : List Wt}
theorem QuAt.lt (h : QuAt w p g c V R L) : ∀ i, QuB R p g V i → i < w.heap.size := by
  rintro i (rfl | rfl | ⟨k, hk, hb⟩)
  · exact blk_lt h.obj
  · obtain ⟨cur, h1, _⟩ := h.row; exact blk_lt h1
  · exact ((h.own k hk).lt i hb).2
theorem QuAt.of (h : QuAt w p g c V R L) (e : ∀ i, QuB R p g V i → w'.heap[i]? = w.heap[i]?) : QuAt w' p g c V R L := by
  refine ⟨h.inv, (e p (.inl rfl)).trans h.obj, ?_, fun k hk => own_stays (h.own k hk) fun i hi => e i (.inr (.inr ⟨k, hk, hi⟩)), h.pg, h.ap, h.ap2⟩
  obtain ⟨cur, h1, h2⟩ := h.row
  exact ⟨cur, (e g (.inr (.inl rfl))).trans h1, h2⟩
theorem QuAt.keep (h : QuAt w p g c V R L) (hk : Below w.heap.size w w') : QuAt w' p g c V R L := h.of fun i hi => hk.block i (h.lt i hi)
theorem QuAt.head (h : QuAt w p g c V R L) : w.cell? ⟨p, 0, none⟩ = some (.slice (some ⟨g, 0, none⟩) R.length c) := cell_blk (i := 0) h.obj rfl
/-- A row: its room, its waits. -/
theorem QuAt.at_ (h : QuAt w p g c V R L) {k : Nat} (hk : k < R.length) :
    w.cell? ⟨g, k * 2, none⟩ = some (.int .i64 (QL.roomOf R k)) ∧ w.cell? ⟨g, k * 2 + 1, none⟩ = some (V k) ∧ ∃ A m, V k = .slice A (QL.rowL L k).length m ∧ (QL.rowL L k).length ≤ m ∧ m ≤ maxLen ∧ Wts w w.heap.size A (QL.rowL L k) ∧ (∀ b off, A = some ⟨b, off, none⟩ → off = 0 ∧ (V k).ownBlock = some b) := by
  obtain ⟨cur, h1, h2⟩ := h.row
  obtain ⟨h3, h4⟩ := h2 k hk
  have ho := h.own k hk
  obtain ⟨A, m, e⟩ := own_formE ho
  refine ⟨cell_blk h1 h3, cell_blk h1 h4, A, m, e, ?_, ?_, ?_, ?_⟩
  · rcases ho.2 with ⟨e1, e2⟩ | ⟨b, cap, cu, e1, _, _, h7, _⟩
    · rw [e] at e1; injection e1 with _ _ e3; omega
    · rw [e] at e1; injection e1 with _ _ e3; omega
  · rcases ho.2 with ⟨e1, e2⟩ | ⟨b, cap, cu, e1, _, _, _, h7, _⟩
    · rw [e] at e1; injection e1 with _ _ e3; unfold maxLen; omega
    · rw [e] at e1; injection e1 with _ _ e3; omega
  · rw [e] at ho
    exact (els_own wtC_len ho rfl).1
  · intro b off e0
    subst e0
    rw [e]
    refine ⟨?_, rfl⟩
    rcases ho.2 with ⟨e1, e2⟩ | ⟨b', cap, cu, e1, _⟩
    · rw [e] at e1; cases e1
    · rw [e] at e1; injection e1 with e1; injection e1 with e1; injection e1 with _ e1
end
/-- One row's waits are other ones. -/
theorem QuAt.wrote {w w' : World} {p g c k : Nat} {V : Nat → Value} {v : Value} {R : List Int} {L L' : List Wt} (h : QuAt w p g c V R L) (hk : k < R.length) (hi : QL.Inv R L')
    (hp : w'.heap[p]? = w.heap[p]?) (hg : ∀ cur, w.heap[g]? = some (.cells cur 63 (0, 0)) → w'.heap[g]? = some (.cells (cur.setIfInBounds (k * 2 + 1) v) 63 (0, 0)))
    (hv : w'.ownsRow 0 39 10 v (QL.rowL L' k).length ((QL.rowL L' k).flatMap wtC)) (hr : ∀ j, j ≠ k → QL.rowL L' j = QL.rowL L j)
    (ho : ∀ j b, j < R.length → j ≠ k → (V j).ownBlock = some b → w'.heap[b]? = w.heap[b]?) (hb : ∀ b, v.ownBlock = some b → (V k).ownBlock = some b ∨ w.heap.size ≤ b) :
    QuAt w' p g c (fun j => if j = k then v else V j) R L' ∧ ∀ i, QuB R p g (fun j => if j = k then v else V j) i → QuB R p g V i ∨ w.heap.size ≤ i := by
  have hlt := h.lt
  refine ⟨⟨hi, hp.trans h.obj, ?_, ?_, h.pg, ?_, ?_⟩, ?_⟩
  · obtain ⟨cur, h1, h2⟩ := h.row
    refine ⟨_, hg cur h1, fun j hj => ?_⟩
    obtain ⟨h3, h4⟩ := h2 j hj
    refine ⟨by rw [Array.getElem?_setIfInBounds_ne (by omega)]; exact h3, ?_⟩
    by_cases e : j = k
    · subst e
      rw [if_pos rfl, Array.getElem?_setIfInBounds_self_of_lt (Array.getElem?_eq_some_iff.1 h4).1]
    · rw [if_neg e, Array.getElem?_setIfInBounds_ne (by omega)]; exact h4
  · intro j hj
    by_cases e : j = k
    · subst e; simp only [if_true]; exact hv
    · simp only [if_neg e]; rw [hr j e]; exact own_stays (h.own j hj) fun b hb => ho j b hj e hb
  · intro j b hj e
    by_cases e1 : j = k
    · simp only [if_pos e1] at e
      rcases hb b e with h1 | h1
      · exact h.ap k b hk h1
      · have := hlt p (.inl rfl); have := hlt g (.inr (.inl rfl)); omega
    · simp only [if_neg e1] at e; exact h.ap j b hj e
  · intro i j b hi' hj' hne e
    by_cases e1 : i = k
    · have e2 : j ≠ k := by omega
      simp only [if_pos e1] at e
      simp only [if_neg e2]
      intro h3
      rcases hb b e with h1 | h1
      · exact h.ap2 k j b hk hj' (by omega) h1 h3
      · have := hlt b (.inr (.inr ⟨j, hj', h3⟩)); omega
    · simp only [if_neg e1] at e
      by_cases e2 : j = k
      · simp only [if_pos e2]
        intro h3
        rcases hb b h3 with h1 | h1
        · exact h.ap2 i k b hi' hk (by omega) e h1
        · have := hlt b (.inr (.inr ⟨i, hi', e⟩)); omega
      · simp only [if_neg e2]; exact h.ap2 i j b hi' hj' hne e
  · rintro i (rfl | rfl | ⟨j, hj, e⟩)
    · exact .inl (.inl rfl)
    · exact .inl (.inr (.inl rfl))
    · by_cases e1 : j = k
      · simp only [if_pos e1] at e
        rcases hb i e with h1 | h1
        · exact .inl (.inr (.inr ⟨k, hk, h1⟩))
        · exact .inr h1
      · simp only [if_neg e1] at e
        exact .inl (.inr (.inr ⟨j, hj, e⟩))
/-- Queues as an object: its blocks are F. -/
structure QuObj (w : World) (p : Nat) (F : Nat → Prop) (R : List Int) (L : List Wt) : Prop where
  ex : ∃ g c V, QuAt w p g c V R L ∧ ∀ i, F i ↔ QuB R p g V i
theorem QuObj.lt {w : World} {p : Nat} {F : Nat → Prop} {R : List Int} {L : List Wt} (h : QuObj w p F R L) : ∀ i, F i → i < w.heap.size := by
  obtain ⟨g, c, V, h1, h2⟩ := h.ex
  exact fun i hi => h1.lt i ((h2 i).1 hi)
theorem QuObj.of {w w' : World} {p : Nat} {F : Nat → Prop} {R : List Int} {L : List Wt} (h : QuObj w p F R L) (e : ∀ i, F i → w'.heap[i]? = w.heap[i]?) : QuObj w' p F R L := by
  obtain ⟨g, c, V, h1, h2⟩ := h.ex
  exact ⟨g, c, V, h1.of fun i hi => e i ((h2 i).2 hi), h2⟩
theorem QuObj.keep {w w' : World} {p : Nat} {F : Nat → Prop} {R : List Int} {L : List Wt} (h : QuObj w p F R L) (hk : Below w.heap.size w w') : QuObj w' p F R L := h.of fun i hi => hk.block i (h.lt i hi)
theorem QuObj.inv {w : World} {p : Nat} {F : Nat → Prop} {R : List Int} {L : List Wt} (h : QuObj w p F R L) : QL.Inv R L := by
  obtain ⟨g, c, V, h1, h2⟩ := h.ex; exact h1.inv
end Go.Proofs.Ytdeniikaddlifaa
