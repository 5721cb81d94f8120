/- The best spot, looked for each time: plain facts for the document's placing. -/
import Derived.Test.YtmejcmoodbbmoaaGreatDoorPackR
namespace Go.Proofs.YtmejcmoodbbmoaaGreatDoor
open Go.RowKit
open PK
theorem keyL_less {L : List Nat} (h16 : ∀ x ∈ L, x ≤ 16) {b x : Nat} (hx : x < L.length) (h : ftL L b < ftL L x) : keyL L x < keyL L b := by
 have hle : ∀ k, ftL L k ≤ 16 := fun k => by
  unfold ftL
  cases hk : L[k]? with
  | none => simp
  | some y => simpa using h16 y (List.mem_of_getElem? hk)
 have h1 := hle x
 have h2 : (16 - ftL L x + 1) * L.length ≤ (16 - ftL L b) * L.length := Nat.mul_le_mul_right _ (by omega)
 rw [Nat.add_mul, Nat.one_mul] at h2
 unfold keyL
 omega
theorem keyL_more {L : List Nat} {b x : Nat} (hbx : b ≤ x) (h : ftL L x ≤ ftL L b) : keyL L b ≤ keyL L x := by
 have h2 : (16 - ftL L b) * L.length ≤ (16 - ftL L x) * L.length := Nat.mul_le_mul_right _ (by omega)
 unfold keyL
 omega
def Best (L T : List Nat) (k : Nat) (b : Int) : Prop :=
 (b = -1 ∧ ∀ x, x < k → x ∈ T) ∨ ∃ c : Nat, b = c ∧ c < k ∧ c ∉ T ∧ ∀ x, x < k → x ∉ T → keyL L c ≤ keyL L x
theorem Best.start (L T : List Nat) : Best L T 0 (-1) := .inl ⟨rfl, fun x h => absurd h (by omega)⟩
theorem Best.past {L T : List Nat} {k : Nat} {b : Int} (h : Best L T k b) (hk : k ∈ T) : Best L T (k + 1) b := by
 rcases h with ⟨h1, h2⟩ | ⟨c, h1, h2, h3, h4⟩
 ·exact .inl ⟨h1, fun x hx => by rcases Nat.lt_or_ge x k with h | h; exact h2 x h; exact (show x = k by omega) ▸ hk⟩
 ·exact .inr ⟨c, h1, by omega, h3, fun x hx hn => by rcases Nat.lt_or_ge x k with h | h; exact h4 x h hn; exact absurd ((show x = k by omega) ▸ hk) hn⟩
theorem Best.first {L T : List Nat} {k : Nat} (h : Best L T k (-1)) (hk : k ∉ T) : Best L T (k + 1) (k : Int) := by
 rcases h with ⟨_, h2⟩ | ⟨c, h1, _⟩
 ·exact .inr ⟨k, rfl, by omega, hk, fun x hx hn => by rcases Nat.lt_or_ge x k with h | h; exact absurd (h2 x h) hn; rw [show x = k by omega]; exact Nat.le_refl _⟩
 ·omega
theorem Best.take {L T : List Nat} (h16 : ∀ x ∈ L, x ≤ 16) {k c : Nat} (h : Best L T k (c : Int)) (hkl : k < L.length) (hk : k ∉ T) (hlt : ftL L c < ftL L k) : Best L T (k + 1) (k : Int) := by
 rcases h with ⟨h1, _⟩ | ⟨c', h1, h2, h3, h4⟩
 ·omega
 ·obtain rfl : c = c' := by omega
  have := keyL_less h16 hkl hlt
  exact .inr ⟨k, rfl, by omega, hk, fun x hx hn => by rcases Nat.lt_or_ge x k with h | h; have := h4 x h hn; omega; rw [show x = k by omega]; exact Nat.le_refl _⟩
theorem Best.keep {L T : List Nat} {k c : Nat} (h : Best L T k (c : Int)) (hle : ftL L k ≤ ftL L c) : Best L T (k + 1) (c : Int) := by
 rcases h with ⟨h1, _⟩ | ⟨c', h1, h2, h3, h4⟩
 ·omega
 ·obtain rfl : c = c' := by omega
  have := keyL_more (L := L) (b := c) (x := k) (by omega) hle
  exact .inr ⟨c, rfl, by omega, h3, fun x hx hn => by rcases Nat.lt_or_ge x k with h | h; exact h4 x h hn; rw [show x = k by omega]; exact this⟩
theorem order_nodup (L : List Nat) : (orderF L).Nodup := (orderF_perm L).nodup_iff.2 List.nodup_range
theorem order_len (L : List Nat) : (orderF L).length = L.length := by rw [(orderF_perm L).length_eq, List.length_range]
theorem order_mem {L : List Nat} {x : Nat} : x ∈ orderF L ↔ x < L.length := by rw [(orderF_perm L).mem_iff]; exact List.mem_range
theorem Best.next {L : List Nat} {j : Nat} {b : Int} (hj : j < L.length) (h : Best L ((orderF L).take j) L.length b) : ∃ c : Nat, b = c ∧ (orderF L)[j]? = some c ∧ c < L.length := by
 have hjz : j < (orderF L).length := by rw [order_len]; exact hj
 have hz := List.getElem?_eq_getElem hjz
 obtain ⟨z, hzd⟩ : ∃ z, z = (orderF L)[j] := ⟨_, rfl⟩
 rw [← hzd] at hz
 have hzn : z ∉ (orderF L).take j := fun hm => by
  obtain ⟨i, hi⟩ := List.mem_iff_getElem?.1 hm
  rw [List.getElem?_take] at hi
  split at hi
  ·rename_i hij
   obtain ⟨hi1, hi2⟩ := List.getElem?_eq_some_iff.1 hi
   have := List.pairwise_iff_getElem.1 (order_nodup L) i j hi1 hjz hij
   exact this (hi2.trans hzd)
  ·cases hi
 have hzl : z < L.length := order_mem.1 (List.mem_of_getElem? hz)
 rcases h with ⟨_, h2⟩ | ⟨c, h1, h2, h3, h4⟩
 ·exact absurd (h2 z hzl) hzn
 ·refine ⟨c, h1, ?_, h2⟩
  have hcz := h4 z hzl hzn
  obtain ⟨i, hi⟩ := List.mem_iff_getElem?.1 (order_mem.2 h2)
  obtain ⟨hi1, hi2⟩ := List.getElem?_eq_some_iff.1 hi
  have hij : j ≤ i := by
   rcases Nat.lt_or_ge i j with h | h
   ·exact absurd (List.mem_iff_getElem?.2 ⟨i, by rw [List.getElem?_take, if_pos h, hi]⟩) h3
   ·exact h
  have hzc : keyL L z ≤ keyL L c := by
   rcases Nat.lt_or_ge j i with h | h
   ·have := List.pairwise_iff_getElem.1 (orderF_asc L) j i hjz hi1 h
    rw [hi2, ← hzd] at this
    exact this
   ·obtain rfl : j = i := by omega
    rw [hz] at hi
    rw [Option.some.inj hi]; exact Nat.le_refl _
  have := keyL_inj h2 hzl (by omega)
  rw [this]; exact hz
theorem placeL_enough (S : Shp) (l : List Fe) (Y : List Nat) : ∀ (Z : List Nat) (r : Nat), r ≤ fitSum S l Z → placeL S l (Z ++ Y) r = placeL S l Z r
 | [], r, h => by
  have h0 : r = 0 := by simpa [fitSum] using h
  subst h0
  have : (placeL S l ([] ++ Y) 0).length = 0 := by rw [placeL_len]; omega
  rw [List.length_eq_zero_iff.1 this, placeL]
 | k :: Z, r, h => by
  have e : fitSum S l (k :: Z) = ftL (fitsL S l) k + fitSum S l Z := by simp [fitSum]
  rw [e] at h
  rw [List.cons_append, placeL, placeL]
  cases hk : l[k]? with
  | none =>
   have : ftL (fitsL S l) k = 0 := by unfold ftL fitsL; rw [List.getElem?_map, hk]; rfl
   simp only
   exact placeL_enough S l Y Z r (by omega)
  | some f =>
   simp only
   rw [ftL_at hk] at h
   rw [placeL_enough S l Y Z (r - min (fitF S f) r) (by omega)]
theorem place_done {S : Shp} {l : List Fe} {p j : Nat} (h : p ≤ fitSum S l ((orderF (fitsL S l)).take j)) : placeL S l ((orderF (fitsL S l)).take j) p = placeF S l p := by
 unfold placeF
 have := placeL_enough S l ((orderF (fitsL S l)).drop j) ((orderF (fitsL S l)).take j) p h
 rw [List.take_append_drop] at this
 exact this.symm
theorem place_more {S : Shp} {l : List Fe} {p j : Nat} (hp : p ≤ roomF S l) (h : fitSum S l ((orderF (fitsL S l)).take j) < p) : j < l.length := by
 rcases Nat.lt_or_ge j l.length with hj | hj
 ·exact hj
 ·rw [List.take_of_length_le (by rw [order_len, fitsL_len]; exact hj), fitSum_perm (orderF_perm' S l)] at h
  omega
theorem place_pos {S : Shp} {l : List Fe} {p j c : Nat} (hp : p ≤ roomF S l) (h : fitSum S l ((orderF (fitsL S l)).take j) < p) (hz : (orderF (fitsL S l))[j]? = some c) : 0 < ftL (fitsL S l) c := by
 rcases Nat.eq_zero_or_pos (ftL (fitsL S l) c) with h0 | h0
 ·exfalso
  have hsum : fitSum S l (orderF (fitsL S l)) = fitSum S l ((orderF (fitsL S l)).take j) + fitSum S l ((orderF (fitsL S l)).drop j) := by
   unfold fitSum
   rw [← List.sum_append, ← List.map_append, List.take_append_drop]
  have hall : ∀ x ∈ (orderF (fitsL S l)).drop j, ftL (fitsL S l) x = 0 := fun x hx => by
   obtain ⟨i, hi⟩ := List.mem_iff_getElem?.1 hx
   rw [List.getElem?_drop] at hi
   obtain ⟨hi1, hi2⟩ := List.getElem?_eq_some_iff.1 hi
   obtain ⟨hj1, hj2⟩ := List.getElem?_eq_some_iff.1 hz
   have hxl : x < (fitsL S l).length := order_mem.1 (List.mem_of_getElem? hi)
   have hk : keyL (fitsL S l) c ≤ keyL (fitsL S l) x := by
    cases i with
    | zero =>
     have : c = x := by rw [← hj2, ← hi2]; rfl
     rw [this]; exact Nat.le_refl _
    | succ i =>
     have := List.pairwise_iff_getElem.1 (orderF_asc (fitsL S l)) j (j + (i + 1)) hj1 hi1 (by omega)
     rw [hj2, hi2] at this
     exact this
   rcases Nat.lt_or_ge (ftL (fitsL S l) c) (ftL (fitsL S l) x) with hlt | hge
   ·have := keyL_less (fitsL_le S l) hxl hlt
    omega
   ·omega
  have hz0 : ∀ Z : List Nat, (∀ x ∈ Z, ftL (fitsL S l) x = 0) → fitSum S l Z = 0 := fun Z hZ => by
   induction Z with
   | nil => rfl
   | cons x Z ih =>
    have e : fitSum S l (x :: Z) = ftL (fitsL S l) x + fitSum S l Z := by simp [fitSum]
    rw [e, hZ x (by simp), ih fun y hy => hZ y (List.mem_cons_of_mem _ hy)]
  rw [hz0 _ hall, fitSum_perm (orderF_perm' S l)] at hsum
  omega
 ·exact h0
theorem place_step {S : Shp} {l : List Fe} {p j c : Nat} {f : Fe} (hj : (orderF (fitsL S l))[j]? = some c) (hf : l[c]? = some f) :
  placeL S l ((orderF (fitsL S l)).take (j + 1)) p = placeL S l ((orderF (fitsL S l)).take j) p ++ pieces S f (min (fitF S f) (p - fitSum S l ((orderF (fitsL S l)).take j))) := by
 rw [take_at hj]
 exact placeL_next S l hf _ p
end Go.Proofs.YtmejcmoodbbmoaaGreatDoor
