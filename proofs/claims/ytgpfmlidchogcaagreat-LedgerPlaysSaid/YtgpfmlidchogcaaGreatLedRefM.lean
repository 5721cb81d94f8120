/- The document's ledger: where a hold is among holds that rise by ids; a cell of a row of holds is written. -/
import Derived.Test.YtgpfmlidchogcaaGreatLedRefE
set_option maxRecDepth 100000
set_option linter.unusedVariables false
namespace Go.Proofs.YtgpfmlidchogcaaGreat
open Go.RowKit
theorem LM.findN_some : ∀ {x : Int} {hs : List Hd} {k : Nat}, LM.findN x hs = some k → ∃ h, hs[k]? = some h ∧ h.id = x
 | x, [], k, e => by cases e
 | x, g :: l, k, e => by
  unfold LM.findN at e
  by_cases hg : g.id = x
  ·rw [if_pos hg] at e; cases e; exact ⟨g, rfl, hg⟩
  ·rw [if_neg hg] at e
   cases hf : LM.findN x l with
   | none => rw [hf] at e; cases e
   | some j =>
    rw [hf] at e
    simp at e
    subst e
    obtain ⟨h, h1, h2⟩ := LM.findN_some hf
    exact ⟨h, by simpa using h1, h2⟩
theorem LM.find_cases (id : Int) (hs : List Hd) : (LM.findI id hs = -1 ∧ LM.find id hs = none) ∨ ∃ (k : Nat) (h : Hd), LM.findI id hs = (k : Int) ∧ hs[k]? = some h ∧ h.id = id ∧ LM.find id hs = some h := by
 have hf := LM.findN_find id hs
 unfold LM.findI
 cases e : LM.findN id hs with
 | none => rw [e] at hf; exact .inl ⟨rfl, hf⟩
 | some k =>
  obtain ⟨h, h1, h2⟩ := LM.findN_some e
  rw [e] at hf
  refine .inr ⟨k, h, rfl, h1, h2, ?_⟩
  rw [hf]; simpa using h1
theorem LM.upd_set : ∀ {hs : List Hd} {k : Nat} {h : Hd} (f : Hd → Hd), LM.Asc hs → hs[k]? = some h → LM.upd h.id f hs = hs.set k (f h)
 | [], k, h, f, _, e => by simp at e
 | g :: l, 0, h, f, ha, e => by
  simp at e; subst e
  have h1 := (List.pairwise_cons.1 ha).1
  unfold LM.upd
  rw [List.map_cons, if_pos rfl, List.set_cons_zero]
  congr 1
  refine (List.map_congr_left fun b hb => ?_).trans (List.map_id l)
  have := h1 b hb
  rw [if_neg (by omega)]; rfl
 | g :: l, k + 1, h, f, ha, e => by
  have h1 := (List.pairwise_cons.1 ha).1
  have e' : l[k]? = some h := by simpa using e
  have hlt := h1 h (List.mem_of_getElem? e')
  have ih := LM.upd_set f (List.pairwise_cons.1 ha).2 e'
  unfold LM.upd at *
  rw [List.map_cons, if_neg (by omega), ih, List.set_cons_succ]
theorem LM.del_at : ∀ {hs : List Hd} {k : Nat} {h : Hd}, LM.Asc hs → hs[k]? = some h → LM.del h.id hs = hs.take k ++ hs.drop (k + 1)
 | [], k, h, _, e => by simp at e
 | g :: l, 0, h, ha, e => by
  simp at e; subst e
  have h1 := (List.pairwise_cons.1 ha).1
  unfold LM.del
  rw [List.filter_cons]
  simp only [bne_self_eq_false, Bool.false_eq_true, if_false, List.take_zero, List.nil_append, Nat.zero_add, List.drop_succ_cons, List.drop_zero]
  rw [List.filter_eq_self]
  intro b hb
  have := h1 b hb
  simp; omega
 | g :: l, k + 1, h, ha, e => by
  have h1 := (List.pairwise_cons.1 ha).1
  have e' : l[k]? = some h := by simpa using e
  have hlt := h1 h (List.mem_of_getElem? e')
  have ih := LM.del_at (List.pairwise_cons.1 ha).2 e'
  unfold LM.del at *
  rw [List.filter_cons, if_pos (by simp; omega), ih, List.take_succ_cons, List.drop_succ_cons, List.cons_append]
theorem LM.ins_at : ∀ {hs : List Hd} {k : Nat} {h : Hd}, k ≤ hs.length → (∀ j g, j < k → hs[j]? = some g → g.id < h.id) → (∀ g, hs[k]? = some g → ¬ g.id < h.id) → LM.ins h hs = hs.take k ++ [h] ++ hs.drop k
 | [], k, h, hk, _, _ => by
  obtain rfl : k = 0 := by simpa using hk
  rfl
 | g :: l, 0, h, _, _, hg => by
  have := hg g rfl
  unfold LM.ins
  rw [if_neg this]; rfl
 | g :: l, k + 1, h, hk, hb, hg => by
  have h0 := hb 0 g (by omega) rfl
  unfold LM.ins
  rw [if_pos h0, LM.ins_at (k := k) (by simpa using hk) (fun j b hj hj2 => hb (j + 1) b (by omega) (by simpa using hj2)) (fun b hb2 => hg b (by simpa using hb2))]
  simp
theorem own_set {w : World} {B : Nat} {e : TypeId} {k G n c j : Nat} {xs : List Value} (u : Value) (h : w.ownsRow B e k (.slice (some ⟨G, 0, none⟩) n c) n xs) : (w.setCell ⟨G, j, none⟩ u).ownsRow B e k (.slice (some ⟨G, 0, none⟩) n c) n (xs.set j u) := by
 refine ⟨by rw [List.length_set]; exact h.1, .inr ?_⟩
 rcases h.2 with ⟨e, _⟩ | ⟨g, cap, cur, e, hb, hg, h5, h6, h7, h8⟩
 ·cases e
 ·injection e with e1 _ e3
  injection e1 with e1
  injection e1 with e1
  subst e1
  subst e3
  refine ⟨G, c, cur.setIfInBounds j u, rfl, hb, blk_put (i := j) u hg, h5, h6, by simp [h7], ?_⟩
  rw [← h8, Array.toList_setIfInBounds, List.take_set]
theorem flat_set1 {α : Type} {C : α → List Value} {k : Nat} (hC : ∀ x, (C x).length = k) : ∀ {L : List α} {i r : Nat} {x x' : α} {v : Value}, L[i]? = some x → r < k → (C x') = (C x).set r v → (L.set i x').flatMap C = (L.flatMap C).set (i * k + r) v
 | [], i, r, x, x', v, h, _, _ => by simp at h
 | y :: L, 0, r, x, x', v, h, hr, e => by
  simp at h; subst h
  rw [List.set_cons_zero, List.flatMap_cons, List.flatMap_cons, e, Nat.zero_mul, Nat.zero_add, List.set_append_left _ _ (by rw [hC]; exact hr)]
 | y :: L, i + 1, r, x, x', v, h, hr, e => by
  rw [List.set_cons_succ, List.flatMap_cons, List.flatMap_cons, flat_set1 hC (i := i) (by simpa using h) hr e, List.set_append_right _ _ (by rw [hC, Nat.add_mul]; omega), hC]
  congr 2
  rw [Nat.add_mul]; omega
section
variable {w w' : World} {r : Nat} {D : Nat → Prop} {fs : List Fr} {st st' : LS}
theorem RNext.of {q al tk db ra a b c : Nat} {A : Option Addr} {L : List Hs} (h : RLAt w' r q al tk db ra a b A c L fs st') (hf : Foot D w w') (hy : ∀ i, RB r q al tk db ra a b A L i → D i ∨ w.heap.size ≤ i) : RNext w w' r D fs st' :=
 ⟨_, ⟨q, al, tk, db, ra, a, b, A, c, L, h, fun i hi => hi⟩, hf, fun i hi => (hy i hi).imp id fun x => ⟨x, h.rblt i hi⟩⟩
theorem RNext.same (h : RL w r D fs st) : RNext w w r D fs st := by
 obtain ⟨E, h1, h2, h3⟩ := h.tight
 exact ⟨E, h1, Foot.refl _ _, fun i hi => .inl (h2 i hi)⟩
theorem RNext.trans {w1 : World} {st1 : LS} (h : RNext w w1 r D fs st1) (k : ∀ D1, RL w1 r D1 fs st1 → RNext w1 w' r D1 fs st') : RNext w w' r D fs st' := by
 obtain ⟨D1, h1, h2, h3⟩ := h
 obtain ⟨D2, k1, k2, k3⟩ := k D1 h1
 refine ⟨D2, k1, h2.trans k2 fun i hi => (h3 i hi).imp id fun x => x.1, fun i hi => ?_⟩
 have s1 := h2.size
 have s2 := k2.size
 rcases k3 i hi with e | e
 ·rcases h3 i e with e | e
  ·exact .inl e
  ·exact .inr (by omega)
 ·exact .inr (by omega)
theorem RLAt.hold {q al tk db ra a b c : Nat} {A : Option Addr} {L : List Hs} (h : RLAt w r q al tk db ra a b A c L fs st) {k : Nat} {g : Hd} (hk : st.hs[k]? = some g) : ∃ (x : Hs) (G : Nat), L[k]? = some x ∧ x.h = g ∧ A = some ⟨G, 0, none⟩ ∧ G < w.heap.size ∧ (∀ (i : Nat) (v : Value), (hsC x)[i]? = some v → w.cell? ⟨G, k * 5 + i, none⟩ = some v) ∧ (∀ i, w.frozen? ⟨G, i, none⟩ = false) ∧ G ≠ r ∧ k < L.length := by
 have h1 := h.hs
 rw [← h1, List.getElem?_map] at hk
 cases hx : L[k]? with
 | none => rw [hx] at hk; cases hk
 | some x =>
  rw [hx] at hk
  have hg : x.h = g := by simpa using hk
  have hkl := (List.getElem?_eq_some_iff.1 hx).1
  rcases h.row.2 with ⟨e, h0⟩ | ⟨G, cap, cur, e, _, hG, _⟩
  ·omega
  ·injection e with e1 _ _
   obtain ⟨bb, off, e6, hb, hc⟩ := (els_own (C := hsC) hsC_len (l := L) h.row rfl).1.at_ hx
   rw [e1] at e6
   injection e6 with e6
   injection e6 with e7 e8
   subst e7
   subst e8
   refine ⟨x, G, rfl, hg, e1, hb, fun i v hv => ?_, fun i => frozen_blk hG, fun e9 => ?_, hkl⟩
   ·have h9 := hc k x hx i v hv
    simpa using h9
   ·have := h.rown G 0 e1
    rw [e9] at this; simp at this
end
end Go.Proofs.YtgpfmlidchogcaaGreat
