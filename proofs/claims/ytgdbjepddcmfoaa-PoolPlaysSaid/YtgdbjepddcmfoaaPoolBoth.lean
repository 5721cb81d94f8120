/- The program's pool and the document's, side by side: what is done to one leaves the other. -/
import Derived.Laws.StructEq
import Derived.Test.YtgdbjepddcmfoaaHeldOn
import Derived.Test.YtgdbjepddcmfoaaPoolLaws
import Derived.Test.YtgdbjepddcmfoaaPoolRef11
import Derived.Test.YtgdbjepddcmfoaaPoolRef7
import Derived.Test.YtgdbjepddcmfoaaPoolRef8
import Derived.Test.YtgdbjepddcmfoaaPoolRef9
namespace Go.Proofs.Ytgdbjepddcmfoaa
open Go.RowKit

section
variable {P : Program} {ops : Array Oper} {Q : Exit → Act → World → Prop} {md : Region.Mode} {S S' : World → Prop}
/-- Behind an operation more may be known of the world. -/
theorem held_more (hs : ∀ w, S' w → S w) : ∀ (f : Nat) (listed : Array Bool) (a : Act) (w : World), wpAnyH P md ops Q S' f listed a w → wpAnyH P md ops Q S f listed a w
  | 0, _, _, _, h => h
  | f + 1, _, _, _, h => ⟨h.1, fun i hi => wpOp_mono (fun a' w' h' => ⟨hs _ h'.1, held_more hs f _ a' w' h'.2⟩) (h.2 i hi)⟩
end
structure Both (w : World) (T : Nat → Prop) (p g dm q al tk db ca ct cd : Nat) (fs : List Fr) (sa sb : List Fr × List Bool) : Prop where
  a : PoolAt w T p g dm fs sa.1 sa.2
  b : RefAt w q al tk db ca ct cd fs sb.1 sb.2
  off : ∀ i, (i = q ∨ i = al ∨ i = tk ∨ i = db) → ¬ T i ∧ i ≠ p ∧ i ≠ g ∧ i ≠ dm
section
variable {w w' : World} {T : Nat → Prop} {p g g' dm q al tk tk' db ca ct ct' cd : Nat} {fs : List Fr} {sa sa' sb sb' : List Fr × List Bool}
theorem Both.keep (h : Both w T p g dm q al tk db ca ct cd fs sa sb) (hk : Below w.heap.size w w') : Both w' T p g dm q al tk db ca ct cd fs sa sb := ⟨h.a.keep hk, h.b.keep hk, h.off⟩
/-- A call of the program's. -/
theorem Both.does (h : Both w T p g dm q al tk db ca ct cd fs sa sb) (hp : PoolAt w' T p g' dm fs sa'.1 sa'.2) (hf : Foot (fun i => i = p ∨ i = g ∨ i = dm) w w') (hg : g' = g ∨ w.heap.size ≤ g') : Both w' T p g' dm q al tk db ca ct cd fs sa' sb := by
  refine ⟨hp, h.b.foot hf fun i hi => ?_, fun i hi => ?_⟩
  · refine ⟨?_, ?_, ?_, ?_⟩ <;> intro e <;> subst e
    · have := h.off i (.inl rfl); omega
    · have := h.off i (.inr (.inl rfl)); omega
    · have := h.off i (.inr (.inr (.inl rfl))); omega
    · have := h.off i (.inr (.inr (.inr rfl))); omega
  · obtain ⟨o1, o2, o3, o4⟩ := h.off i hi
    have hl := h.b.lt
    exact ⟨o1, o2, by rcases hg with e | e <;> omega, o4⟩
/-- A call of the document's. -/
theorem Both.acts (h : Both w T p g dm q al tk db ca ct cd fs sa sb) (hr : RefAt w' q al tk' db ca ct' cd fs sb'.1 sb'.2) (hf : Foot (fun i => i = q ∨ i = tk ∨ i = db) w w') (ht : tk' = tk ∨ w.heap.size ≤ tk') : Both w' T p g dm q al tk' db ca ct' cd fs sa sb' := by
  refine ⟨h.a.foot hf fun i hi => ?_, hr, fun i hi => ?_⟩
  · rcases hi with rfl | rfl | rfl
    · exact h.off _ (.inl rfl)
    · exact h.off _ (.inr (.inr (.inl rfl)))
    · exact h.off _ (.inr (.inr (.inr rfl)))
  · have hl := h.a.lt
    rcases hi with rfl | rfl | rfl | rfl
    · exact h.off _ (.inl rfl)
    · exact h.off _ (.inr (.inl rfl))
    · rcases ht with rfl | ht
      · exact h.off _ (.inr (.inr (.inl rfl)))
      · exact ⟨fun hT => by have := h.a.old _ hT; omega, by omega, by omega, by omega⟩
    · exact h.off _ (.inr (.inr (.inr rfl)))
/-- The document's is made behind the program's. -/
theorem Both.made {w0 : World} (ha : PoolAt w T p g dm fs sa.1 sa.2) (hw : Below w.heap.size w w0) (hb : RefAt w' q al tk db ca ct cd fs sb.1 sb.2) (hk : Below w0.heap.size w0 w')
    (h1 : w0.heap.size ≤ q) (h2 : w0.heap.size ≤ al) (h3 : w0.heap.size ≤ tk) (h4 : w0.heap.size ≤ db) : Both w' T p g dm q al tk db ca ct cd fs sa sb := by
  have hl := ha.lt
  have hs := hw.size
  refine ⟨(ha.keep hw).keep hk, hb, ?_⟩
  rintro i (rfl | rfl | rfl | rfl) <;> exact ⟨fun hT => by have := ha.old _ hT; omega, by omega, by omega, by omega⟩
end
theorem TakenAt.frees {w : World} {tk : Nat} {ts : List Fr} (h : TakenAt w tk ts) : Frees w w.heap.size (some ⟨tk, 0, none⟩) ts := by
  have h' := h
  obtain ⟨cur, h1, _⟩ := h'
  exact .inr ⟨tk, 0, rfl, blk_lt h1, fun i x hx => by rw [Nat.zero_add]; exact h.at_ hx⟩
theorem units_neq (a b : Int) (W : World) : (binOp .neq 44 (.agg #[.int .i64 a, .int .i64 b]) (.agg #[.int .i64 a, .int .i64 b])).run Try.prog W = .ok (.bool false) W := by
  go_simp
/-- What was taken is within what there is. -/
theorem taken_ok {fs ts : List Fr} {n : Nat} (hok : FsOk fs n) (hi : PM.Inv fs ts) : ∀ f ∈ ts, f.m < 18446744073709551616 ∧ f.c ≤ 1024 := fun t ht => by
  obtain ⟨i, hil⟩ := List.getElem?_of_mem ht
  obtain ⟨f, hf⟩ := get_lt (l := fs) (k := i) (by have := (List.getElem?_eq_some_iff.1 hil).1; rw [hi.1] at this; exact this)
  obtain ⟨_, _, i3, i4⟩ := hi.2 i f t hf hil
  obtain ⟨k1, k2⟩ := hok.ok f (List.mem_of_getElem? hf)
  exact ⟨by rw [← i3]; exact Nat.lt_of_le_of_lt Nat.and_le_right k1, by omega⟩
theorem reffree_row (q al tk db ca ct cd : Nat) (fs ts : List Fr) (dr : List Bool) (w : World) (h : RefAt w q al tk db ca ct cd fs ts dr) :
    Calls Try.prog 13 #[.pointer (some ⟨q, 0, none⟩)] w fun e w' => ∃ A c, e = .returned (.slice A (PM.free fs ts).length c) ∧ Frees w' w'.heap.size A (PM.free fs ts) ∧ Below w.heap.size w w' :=
  (reffree_any q al tk db ca ct cd fs ts dr w h).mono fun e w' hh => by
    obtain ⟨v, rfl, ho, hb⟩ := hh
    rw [← PM.free_len h.inv] at ho
    obtain ⟨A, c, rfl, hr⟩ := own_rows ho
    exact ⟨A, c, rfl, hr, hb⟩
theorem refview_row (q al tk db ca ct cd : Nat) (fs ts : List Fr) (dr : List Bool) (w : World) (h : RefAt w q al tk db ca ct cd fs ts dr) :
    Calls Try.prog 15 #[.pointer (some ⟨q, 0, none⟩)] w fun e w' => ∃ A c, e = .returned (.slice A (PM.view fs ts dr).length c) ∧ Frees w' w'.heap.size A (PM.view fs ts dr) ∧ Below w.heap.size w w' :=
  (refview_any q al tk db ca ct cd fs ts dr w h).mono fun e w' hh => by
    obtain ⟨v, rfl, ho, hb⟩ := hh
    obtain ⟨A, c, rfl, hr⟩ := own_rows ho
    exact ⟨A, c, rfl, hr, hb⟩
end Go.Proofs.Ytgdbjepddcmfoaa
