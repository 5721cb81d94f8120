/- What is left of a view behind a placing; and put back. Plain facts. -/
import Derived.Test.YtjbjjdcmkbigdaaDoorPackSame
import Derived.Test.YtjbjjdcmkbigdaaDoorPackTurn
namespace Go.Proofs.YtjbjjdcmkbigdaaDoor
open Go.RowKit
open PK
theorem hitL_at {l : List Fe} {k : Nat} {f : Fe} (hn : (spotsL l).Nodup) (h : l[k]? = some f) : hitL l f.n f.d = some k := by
  unfold hitL
  obtain ⟨hk, rfl⟩ := List.getElem?_eq_some_iff.1 h
  rw [List.findIdx?_eq_some_iff_getElem]
  refine ⟨hk, by simp, fun j hj => ?_⟩
  have := List.pairwise_iff_getElem.1 hn j k (by unfold spotsL; rw [List.length_map]; omega) (by unfold spotsL; rw [List.length_map]; exact hk) hj
  unfold spotsL at this
  simp only [List.getElem_map] at this
  simp only [Bool.and_eq_true, beq_iff_eq]
  exact fun ⟨e1, e2⟩ => this (by rw [e1, e2])
theorem roomF_set {S : Shp} : ∀ {l : List Fe} {k : Nat} {f : Fe} (g : Fe), l[k]? = some f → roomF S (l.set k g) + fitF S f = roomF S l + fitF S g
  | [], _, _, _, h => by simp at h
  | x :: l, 0, f, g, h => by
    simp at h; subst h
    unfold roomF fitsL
    simp only [List.set_cons_zero, List.map_cons, List.sum_cons]; omega
  | x :: l, k + 1, f, g, h => by
    have ih := roomF_set (S := S) (l := l) (k := k) (f := f) g (by simpa using h)
    unfold roomF fitsL at *
    simp only [List.set_cons_succ, List.map_cons, List.sum_cons]; omega
theorem fitF_mono {S : Shp} {f g : Fe} (hm : MM.cnt f.m ≤ MM.cnt g.m) (hc : f.c ≤ g.c) : fitF S f ≤ fitF S g := by
  unfold fitF
  split
  · exact fitZ_more hm hc
  · omega
theorem restF_le {S : Shp} {f : Fe} (h : 0 < fitF S f) : fitF S (restF S f) ≤ fitF S f := by
  obtain ⟨hok, g, c, k, hg, hc, hk, e, h1, h2⟩ := fit_pos' h
  refine fitF_mono ?_ ?_
  · unfold restF; simp only; rw [MM.cnt_rest]; omega
  · unfold restF; simp only; omega
theorem low_sub (m g : Nat) : MM.sub (MM.low m g) m = 0 := Nat.eq_of_testBit_eq fun i => by
  rw [MM.testBit_sub, Nat.zero_testBit]
  cases h : (MM.low m g).testBit i
  · rfl
  · have := MM.low_in _ _ _ h; simp [this]
/-- One piece, taken off. -/
theorem less_piece {S : Shp} {l : List Fe} {k : Nat} {f : Fe} (hn : (spotsL l).Nodup) (hk : l[k]? = some f) (h : 0 < fitF S f) : stepL lessC l (slotF S f) = (0, l.set k (restF S f)) := by
  obtain ⟨hok, g, c, q, hg, hc, hq, e, h1, h2⟩ := fit_pos' h
  unfold stepL
  have hs : ¬ (slotF S f).c < 0 := by unfold slotF; simp only; omega
  rw [if_neg hs]
  have hh : hitL l (slotF S f).n (slotF S f).d = some k := by show hitL l f.n f.d = some k; exact hitL_at hn hk
  rw [hh]
  simp only [hk]
  have hl : lessC f (slotF S f) = (0, restF S f) := by
    unfold lessC
    rw [if_neg (by
      rintro (hx | hx)
      · exact hx (low_sub _ _)
      · unfold slotF at hx; simp only at hx; omega)]
    rfl
  rw [hl]
  rfl
/-- So many pieces, taken off. -/
theorem less_pieces {S : Shp} : ∀ (x : Nat) {l : List Fe} {k : Nat} {f : Fe}, (spotsL l).Nodup → l[k]? = some f → x ≤ fitF S f →
    turnL lessC l (pieces S f x) = (0, l.set k (rests S f x)) ∧ fitF S (rests S f x) ≤ fitF S f ∧ fitF S f ≤ fitF S (rests S f x) + x
  | 0, l, k, f, hn, hk, hx => by
    obtain ⟨hkl, rfl⟩ := List.getElem?_eq_some_iff.1 hk
    refine ⟨?_, Nat.le_refl _, by rw [rests]; omega⟩
    rw [pieces, turnL, rests]
    simp
  | x + 1, l, k, f, hn, hk, hx => by
    have hpos : 0 < fitF S f := by omega
    have h1 := less_piece hn hk hpos
    have hkl := (List.getElem?_eq_some_iff.1 hk).1
    have h2 := restF_fit hpos
    have h3 := restF_le hpos
    have ih := less_pieces (S := S) x (l := l.set k (restF S f)) (k := k) (f := restF S f) (by rw [spotsL_set (g := restF S f) hk rfl rfl]; exact hn) (List.getElem?_set_self hkl) (by omega)
    refine ⟨?_, by rw [rests]; omega, by rw [rests]; omega⟩
    rw [pieces, turnL, h1, if_pos rfl]
    rw [show (0, l.set k (restF S f)).2 = l.set k (restF S f) from rfl, ih.1, List.set_set, rests]
/-- A whole placing, taken off. -/
theorem less_place {S : Shp} {l0 : List Fe} : ∀ (Z : List Nat) (r : Nat) {l : List Fe}, Z.Nodup → (spotsL l).Nodup → (∀ k ∈ Z, l[k]? = l0[k]?) →
    ∃ l', turnL lessC l (placeL S l0 Z r) = (0, l') ∧ spotsL l' = spotsL l ∧ roomF S l' ≤ roomF S l ∧ roomF S l ≤ roomF S l' + r
  | [], r, l, _, _, _ => ⟨l, by rw [placeL, turnL], rfl, Nat.le_refl _, by omega⟩
  | k :: Z, r, l, hz, hn, hl => by
    obtain ⟨hz1, hz2⟩ := List.nodup_cons.1 hz
    rw [placeL]
    cases hk : l0[k]? with
    | none => exact less_place (S := S) (l0 := l0) Z r hz2 hn fun j hj => hl j (List.mem_cons_of_mem _ hj)
    | some f =>
      simp only
      have hkl : l[k]? = some f := by rw [hl k (by simp), hk]
      obtain ⟨a1, a2, a3⟩ := less_pieces (S := S) (min (fitF S f) r) hn hkl (by omega)
      have hlen := (List.getElem?_eq_some_iff.1 hkl).1
      have hsp := spotsL_set hkl (g := rests S f (min (fitF S f) r)) (rests_spot S _ f).1 (rests_spot S _ f).2
      obtain ⟨l', b1, b2, b3, b4⟩ := less_place (S := S) (l0 := l0) Z (r - min (fitF S f) r) (l := l.set k (rests S f (min (fitF S f) r))) hz2 (by rw [hsp]; exact hn) (fun j hj => by
        have hne : k ≠ j := fun e => hz1 (e ▸ hj)
        rw [List.getElem?_set_ne hne]
        exact hl j (List.mem_cons_of_mem _ hj))
      have hr := roomF_set (S := S) (rests S f (min (fitF S f) r)) hkl
      refine ⟨l', ?_, by rw [b2, hsp], by omega, by omega⟩
      rw [turnL_app, a1]
      exact b1
theorem less_placeF {S : Shp} {l : List Fe} {p : Nat} (hn : (spotsL l).Nodup) : ∃ l', turnL lessC l (placeF S l p) = (0, l') ∧ spotsL l' = spotsL l ∧ roomF S l' ≤ roomF S l ∧ roomF S l ≤ roomF S l' + p :=
  less_place _ p ((orderF_perm' S l).nodup_iff.2 List.nodup_range) hn fun _ _ => rfl
theorem slots_ok {S : Shp} (hw : S.Wf) : ∀ (x : Nat) {f : Fe}, FeOk f → x ≤ fitF S f → ∀ s ∈ pieces S f x, FeOk s ∧ MM.cnt s.m = S.g.toNat ∧ s.c = S.c
  | 0, f, _, _, s, hs => by rw [pieces] at hs; cases hs
  | x + 1, f, hf, hx, s, hs => by
    have hpos : 0 < fitF S f := by omega
    have h2 := restF_fit hpos
    rw [pieces] at hs
    rcases List.mem_cons.1 hs with rfl | hs
    · obtain ⟨hok, g, c, k, hg, hc, hk, e, h1, h3⟩ := fit_pos' hpos
      refine ⟨slotF_ok hw hf, ?_, rfl⟩
      unfold slotF; simp only
      rw [MM.cnt_low (by rw [hg]; exact h1)]
    · exact slots_ok hw x (restF_ok hf hpos) (by omega) s hs
theorem placeL_ok {S : Shp} {l : List Fe} (hw : S.Wf) (hf : ∀ f ∈ l, FeOk f) : ∀ (Z : List Nat) (r : Nat), ∀ s ∈ placeL S l Z r, FeOk s ∧ MM.cnt s.m = S.g.toNat ∧ s.c = S.c
  | [], r, s, hs => by rw [placeL] at hs; cases hs
  | k :: Z, r, s, hs => by
    rw [placeL] at hs
    cases hk : l[k]? with
    | none => rw [hk] at hs; exact placeL_ok hw hf Z r s hs
    | some f =>
      rw [hk] at hs
      simp only at hs
      rcases List.mem_append.1 hs with hs | hs
      · exact slots_ok hw _ (hf f (List.mem_of_getElem? hk)) (by omega) s hs
      · exact placeL_ok hw hf Z _ s hs
end Go.Proofs.YtjbjjdcmkbigdaaDoor
