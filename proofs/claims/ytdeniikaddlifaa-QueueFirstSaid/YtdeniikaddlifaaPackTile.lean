/- Lists in tiles of one length: each sorted by its key; two and two are merged till one is left. No program is spoken of. -/
import Derived.Test.YtdeniikaddlifaaPackMath
namespace Go.Proofs.Ytdeniikaddlifaa
namespace PK
def tile (t q : Nat) (L : List Nat) : List Nat := (L.drop (q * t)).take t
theorem tile_left {t p : Nat} {D E : List Nat} (h : (p + 1) * t ≤ D.length) : tile t p (D ++ E) = tile t p D := by
  unfold tile
  rw [Nat.succ_mul] at h
  rw [List.drop_append_of_le_length (by omega), List.take_append_of_le_length (by rw [List.length_drop]; omega)]
theorem tile_at {t q : Nat} {D E : List Nat} (h : D.length = q * t) : tile t q (D ++ E) = E.take t := by
  unfold tile; rw [← h, List.drop_left]
theorem tile_past {t p q : Nat} {L : List Nat} (hpq : q < p) (h : L.length ≤ (q + 1) * t) : tile t p L = [] := by
  unfold tile
  have : (q + 1) * t ≤ p * t := Nat.mul_le_mul_right t hpq
  rw [List.drop_eq_nil_of_le (by omega), List.take_nil]
theorem tile_two (s q : Nat) (L : List Nat) : tile (2 * s) q L = tile s (2 * q) L ++ tile s (2 * q + 1) L := by
  unfold tile
  rw [show q * (2 * s) = 2 * q * s by rw [Nat.mul_comm 2 q, Nat.mul_assoc], show (2 * q + 1) * s = 2 * q * s + s by rw [Nat.succ_mul], show 2 * s = s + s by omega, List.take_add, List.drop_drop]
/-- The first q tiles are done. -/
structure Part (key : Nat → Nat) (t : Nat) (R D : List Nat) (q : Nat) : Prop where
  len : D.length = q * t
  perm : ∀ p, p < q → (tile t p D).Perm (tile t p R)
  asc : ∀ p, p < q → Asc key (tile t p D)
structure Tiled (key : Nat → Nat) (t : Nat) (R L : List Nat) : Prop where
  len : L.length = R.length
  perm : ∀ p, (tile t p L).Perm (tile t p R)
  asc : ∀ p, Asc key (tile t p L)
section
variable {key : Nat → Nat} {t q : Nat} {R D Z L : List Nat}
theorem Part.nil : Part key t R [] 0 := ⟨by simp, fun _ h => by omega, fun _ h => by omega⟩
theorem part_tile (h : Part key t R D q) {p : Nat} (hp : p < q) (E : List Nat) : tile t p (D ++ E) = tile t p D :=
  tile_left (by rw [h.len]; exact Nat.mul_le_mul_right t hp)
theorem Part.step (h : Part key t R D q) (hz : Z.Perm (tile t q R)) (ha : Asc key Z) (hl : Z.length = t) : Part key t R (D ++ Z) (q + 1) := by
  refine ⟨by rw [List.length_append, h.len, hl, Nat.succ_mul], fun p hp => ?_, fun p hp => ?_⟩
  · rcases Nat.lt_or_eq_of_le (Nat.le_of_lt_succ hp) with e | rfl
    · rw [part_tile h e]; exact h.perm p e
    · rw [tile_at h.len, List.take_of_length_le (by omega)]; exact hz
  · rcases Nat.lt_or_eq_of_le (Nat.le_of_lt_succ hp) with e | rfl
    · rw [part_tile h e]; exact h.asc p e
    · rw [tile_at h.len, List.take_of_length_le (by omega)]; exact ha
theorem Part.done (h : Part key t R D q) (hz : Z.Perm (tile t q R)) (ha : Asc key Z) (h1 : q * t ≤ R.length) (h2 : R.length ≤ (q + 1) * t) : Tiled key t R (D ++ Z) := by
  have hzl : Z.length = R.length - q * t := by
    have h3 := h2
    rw [Nat.succ_mul] at h3
    rw [hz.length_eq]; unfold tile; rw [List.length_take, List.length_drop]; omega
  have hl : (D ++ Z).length = R.length := by rw [List.length_append, h.len, hzl]; omega
  have hzt : Z.length ≤ t := by rw [Nat.succ_mul] at h2; omega
  refine ⟨hl, fun p => ?_, fun p => ?_⟩
  · rcases Nat.lt_trichotomy p q with e | rfl | e
    · rw [part_tile h e]; exact h.perm p e
    · rw [tile_at h.len, List.take_of_length_le hzt]; exact hz
    · rw [tile_past e (by rw [hl]; exact h2), tile_past e h2]
  · rcases Nat.lt_trichotomy p q with e | rfl | e
    · rw [part_tile h e]; exact h.asc p e
    · rw [tile_at h.len, List.take_of_length_le hzt]; exact ha
    · rw [tile_past e (by rw [hl]; exact h2)]; exact List.Pairwise.nil
theorem Tiled.one (h : Tiled key t R L) (hn : R.length ≤ t) : L.Perm R ∧ Asc key L := by
  have h1 := h.perm 0
  have h2 := h.asc 0
  unfold tile at h1 h2
  rw [Nat.zero_mul, List.drop_zero, List.drop_zero, List.take_of_length_le (by rw [h.len]; exact hn), List.take_of_length_le hn] at h1
  rw [Nat.zero_mul, List.drop_zero, List.take_of_length_le (by rw [h.len]; exact hn)] at h2
  exact ⟨h1, h2⟩
end
/-- What a tile of the first n numbers holds. -/
theorem tile_range {n t q x : Nat} (h : x ∈ tile t q (List.range n)) : q * t ≤ x ∧ x < q * t + t ∧ x < n := by
  unfold tile at h
  obtain ⟨i, hi, hx⟩ := mem_take h
  rw [List.getElem?_drop] at hx
  have hl := lt_of_get hx
  rw [List.length_range] at hl
  rw [List.getElem?_range hl] at hx
  cases hx
  omega
theorem two_rel {key : Nat → Nat} {lt : Nat → Nat → Bool} {n s q : Nat} {L : List Nat} (hr : ∀ x y, x < y → y < n → lt y x = decide (key y < key x)) (h : Tiled key s (List.range n) L) : Rel key lt (tile s (2 * q) L) (tile s (2 * q + 1) L) := by
  intro x hx y hy
  have h1 := tile_range ((h.perm _).mem_iff.1 hx)
  have h2 := tile_range ((h.perm _).mem_iff.1 hy)
  have h3 := h2.1
  rw [Nat.succ_mul] at h3
  exact hr x y (by omega) h2.2.2
theorem tile_lt {key : Nat → Nat} {n s q : Nat} {L : List Nat} (h : Tiled key s (List.range n) L) : ∀ z ∈ tile s q L, z < n := fun _ hz => (tile_range ((h.perm _).mem_iff.1 hz)).2.2
/-- What the merge of two tiles needs and leaves. -/
theorem two_cut {key : Nat → Nat} {s q a : Nat} {R L : List Nat} (ha : a = q * (2 * s)) (hT : Tiled key s R L) :
    (L.drop a).take (2 * s) = tile s (2 * q) L ++ tile s (2 * q + 1) L ∧ (tile s (2 * q) L).length = min s (L.length - a) ∧ (tile s (2 * q + 1) L).length = min s (L.length - (a + s)) ∧ ∀ Z : List Nat, Z.Perm (tile s (2 * q) L ++ tile s (2 * q + 1) L) → Z.Perm (tile (2 * s) q R) := by
  have e1 : 2 * q * s = a := by rw [ha, Nat.mul_comm 2 q, Nat.mul_assoc]
  have e2 : (2 * q + 1) * s = a + s := by rw [Nat.succ_mul, e1]
  refine ⟨by rw [← tile_two, ha]; rfl, by unfold tile; rw [e1, List.length_take, List.length_drop], by unfold tile; rw [e2, List.length_take, List.length_drop], fun Z hz => ?_⟩
  rw [tile_two]
  exact hz.trans ((hT.perm _).append (hT.perm _))
end PK
end Go.Proofs.Ytdeniikaddlifaa
