import Derived.Test.YtkkkhonjcbhelaaGreatDoorKitP
namespace Go.Proofs.YtkkkhonjcbhelaaGreatDoor
section
open Go.RowKit
namespace PK
def nums (L : List Nat) : Array Value := (L.map (fun x : Nat => Value.int .i64 (x : Int))).toArray
theorem nums_get {L : List Nat} {i x : Nat} (h : L[i]? = some x) : (nums L)[i]? = some (.int .i64 (x : Int)) := by simp [nums, h]
theorem nums_set (L : List Nat) (i x : Nat) : (nums L).setIfInBounds i (.int .i64 (x : Int)) = nums (L.set i x) := by simp [nums, List.map_set]
theorem set_mid (A B C : List Nat) (x y : Nat) : ((A ++ x :: (B ++ y :: C)).set A.length y).set (A.length + 1 + B.length) x = A ++ y :: (B ++ x :: C) := by
 rw [List.set_append_right _ _ (Nat.le_refl _), Nat.sub_self, List.set_cons_zero, List.set_append_right _ _ (by omega), show A.length + 1 + B.length - A.length = B.length + 1 by omega, List.set_cons_succ,
  List.set_append_right _ _ (Nat.le_refl _), Nat.sub_self, List.set_cons_zero]
theorem get_mid (A C : List Nat) (x : Nat) : (A ++ x :: C)[A.length]? = some x := by simp
theorem get_mid2 (A B C : List Nat) (x y : Nat) : (A ++ x :: (B ++ y :: C))[A.length + 1 + B.length]? = some y := by
 rw [List.getElem?_append_right (by omega), show A.length + 1 + B.length - A.length = B.length + 1 by omega, List.getElem?_cons_succ];exact get_mid _ _ _
theorem next_st {A C : List Nat} {x y k : Nat} (hk : A.length = k) : (A ++ x :: y :: C)[k]? = some x ∧ (A ++ x :: y :: C)[k + 1]? = some y ∧ ((A ++ x :: y :: C).set k y).set (k + 1) x = A ++ y :: x :: C := by
 subst hk; exact ⟨get_mid _ _ _, get_mid2 A [] C x y, set_mid A [] C x y⟩
theorem next_ts {A C : List Nat} {x y k : Nat} (hk : A.length = k) : ((A ++ x :: y :: C).set (k + 1) x).set k y = A ++ y :: x :: C := by
 rw [List.set_comm _ _ (by omega)]; exact (next_st hk).2.2
theorem drop_at {L : List Nat} {k x : Nat} (h : L[k]? = some x) : L.drop k = x :: L.drop (k + 1) := by
 obtain ⟨hk, rfl⟩ := List.getElem?_eq_some_iff.1 h;exact List.drop_eq_getElem_cons hk
theorem take_at {L : List Nat} {k x : Nat} (h : L[k]? = some x) : L.take (k + 1) = L.take k ++ [x] := by rw [List.take_add_one, h]; rfl
theorem get_of_lt {L : List Nat} {k : Nat} (h : k < L.length) : ∃ x, L[k]? = some x := ⟨_, List.getElem?_eq_getElem h⟩
theorem lt_of_get {L : List Nat} {k x : Nat} (h : L[k]? = some x) : k < L.length := (List.getElem?_eq_some_iff.1 h).1
/-! ### Two pieces of one length change places -/
def swapSt (P X M Y S : List Nat) (k : Nat) : List Nat := P ++ (Y.take k ++ X.drop k) ++ M ++ (X.take k ++ Y.drop k) ++ S
theorem swapSt_zero (P X M Y S : List Nat) : swapSt P X M Y S 0 = P ++ X ++ M ++ Y ++ S := by simp [swapSt]
theorem swapSt_all {P X M Y S : List Nat} (h : X.length = Y.length) : swapSt P X M Y S Y.length = P ++ Y ++ M ++ X ++ S := by
 unfold swapSt;rw [List.take_length, List.drop_length, ← h, List.take_length, List.drop_length]; simp
theorem swapSt_form {P X M Y S : List Nat} {k x y : Nat} (hx : X[k]? = some x) (hy : Y[k]? = some y) :
  swapSt P X M Y S k = (P ++ Y.take k) ++ x :: ((X.drop (k + 1) ++ M ++ X.take k) ++ y :: (Y.drop (k + 1) ++ S)) := by
 unfold swapSt; rw [drop_at hx, drop_at hy]; simp
theorem swapSt_next {P X M Y S : List Nat} {k x y : Nat} (hx : X[k]? = some x) (hy : Y[k]? = some y) :
  swapSt P X M Y S (k + 1) = (P ++ Y.take k) ++ y :: ((X.drop (k + 1) ++ M ++ X.take k) ++ x :: (Y.drop (k + 1) ++ S)) := by
 unfold swapSt; rw [take_at hx, take_at hy]; simp
theorem swapSt_step {P X M Y S : List Nat} {k x y a b : Nat} (hx : X[k]? = some x) (hy : Y[k]? = some y) (ha : a = P.length + k) (hb : b = P.length + X.length + M.length + k) :
  (swapSt P X M Y S k)[a]? = some x ∧ (swapSt P X M Y S k)[b]? = some y ∧ ((swapSt P X M Y S k).set a y).set b x = swapSt P X M Y S (k + 1) := by
 have h1 := lt_of_get hx;have h2 := lt_of_get hy;have ea : a = (P ++ Y.take k).length := by rw [ha, List.length_append, List.length_take]; omega
 have eb : b = (P ++ Y.take k).length + 1 + (X.drop (k + 1) ++ M ++ X.take k).length := by
  rw [hb]; simp only [List.length_append, List.length_take, List.length_drop]; omega
 rw [swapSt_form hx hy, swapSt_next hx hy, eb, ea];refine ⟨get_mid _ _ _, ?_, set_mid _ _ _ _ _⟩;rw [List.getElem?_append_right (by omega), show (P ++ Y.take k).length + 1 + (X.drop (k + 1) ++ M ++ X.take k).length - (P ++ Y.take k).length = (X.drop (k + 1) ++ M ++ X.take k).length + 1 by omega, List.getElem?_cons_succ];exact get_mid _ _ _
/-! ### Sorted by a key -/
abbrev Asc (key : Nat → Nat) (L : List Nat) : Prop := L.Pairwise (fun a b => key a ≤ key b)
def Rel (key : Nat → Nat) (lt : Nat → Nat → Bool) (X Y : List Nat) : Prop := ∀ x ∈ X, ∀ y ∈ Y, lt y x = decide (key y < key x)
section
variable {key : Nat → Nat} {lt : Nat → Nat → Bool} {X Y X' Y' : List Nat}
theorem Rel.sub (h : Rel key lt X Y) (hX : ∀ x ∈ X', x ∈ X) (hY : ∀ y ∈ Y', y ∈ Y) : Rel key lt X' Y' := fun x hx y hy => h x (hX x hx) y (hY y hy)
theorem Rel.at_ (h : Rel key lt X Y) {i j x y : Nat} (hx : X[i]? = some x) (hy : Y[j]? = some y) : lt y x = decide (key y < key x) := h x (List.mem_of_getElem? hx) y (List.mem_of_getElem? hy)
theorem Asc.get {L : List Nat} (h : Asc key L) {i j x y : Nat} (hij : i ≤ j) (hx : L[i]? = some x) (hy : L[j]? = some y) : key x ≤ key y := by
 rcases Nat.lt_or_eq_of_le hij with e | e
 ·obtain ⟨hi, rfl⟩ := List.getElem?_eq_some_iff.1 hx;obtain ⟨hj, rfl⟩ := List.getElem?_eq_some_iff.1 hy;exact List.pairwise_iff_getElem.1 h i j hi hj e
 ·subst e; rw [hx] at hy; cases hy; exact Nat.le_refl _
theorem mem_take {L : List Nat} {k x : Nat} (h : x ∈ L.take k) : ∃ i, i < k ∧ L[i]? = some x := by
 obtain ⟨i, hi⟩ := List.mem_iff_getElem?.1 h;rw [List.getElem?_take] at hi
 split at hi
 ·exact ⟨i, ‹_›, hi⟩
 ·cases hi
theorem mem_drop {L : List Nat} {k x : Nat} (h : x ∈ L.drop k) : ∃ i, k ≤ i ∧ L[i]? = some x := by
 obtain ⟨i, hi⟩ := List.mem_iff_getElem?.1 h;rw [List.getElem?_drop] at hi;exact ⟨k + i, by omega, hi⟩
theorem asc_put {L : List Nat} {k z : Nat} (h : Asc key L) (hk : k ≤ L.length) (h1 : k = 0 ∨ ∀ x, L[k - 1]? = some x → key x ≤ key z) (h2 : k = L.length ∨ ∀ x, L[k]? = some x → key z ≤ key x) : Asc key (L.take k ++ z :: L.drop k) := by
 have hL : Asc key (L.take k ++ L.drop k) := by rw [List.take_append_drop]; exact h
 obtain ⟨a1, a2, a3⟩ := List.pairwise_append.1 hL;refine List.pairwise_append.2 ⟨a1, List.pairwise_cons.2 ⟨fun b hb => ?_, a2⟩, fun a ha b hb => ?_⟩
 ·obtain ⟨i, hi, hx⟩ := mem_drop hb;have hl := lt_of_get hx;rcases h2 with e | h2
  ·omega
  obtain ⟨y, hy⟩ := get_of_lt (L := L) (k := k) (by omega);exact Nat.le_trans (h2 y hy) (h.get hi hy hx)
 ·obtain ⟨i, hi, hx⟩ := mem_take ha;have hl := lt_of_get hx;have hz : key a ≤ key z := by
   rcases h1 with e | h1
   ·omega
   obtain ⟨y, hy⟩ := get_of_lt (L := L) (k := k - 1) (by omega);exact Nat.le_trans (h.get (by omega) hx hy) (h1 y hy)
  rcases List.mem_cons.1 hb with rfl | hb
  ·exact hz
  ·exact a3 a ha b hb
theorem sym_cut {H u : Nat} (hX : Asc key X) (hY : Asc key Y) (hlo : H - Y.length ≤ u) (hhi : u ≤ H) (hhi2 : u ≤ X.length)
  (h1 : u = H - Y.length ∨ ∀ x y, X[u - 1]? = some x → Y[H - u]? = some y → key x ≤ key y) (h2 : u = H ∨ u = X.length ∨ ∀ x y, X[u]? = some x → Y[H - 1 - u]? = some y → key y ≤ key x) :
  ∀ z ∈ X.take u ++ Y.take (H - u), ∀ z' ∈ X.drop u ++ Y.drop (H - u), key z ≤ key z' := by
 intro z hz z' hz';rcases List.mem_append.1 hz with hz | hz <;> rcases List.mem_append.1 hz' with hz' | hz' <;> obtain ⟨i, hi, hx⟩ := mem_take hz <;> obtain ⟨j, hj, hy⟩ := mem_drop hz' <;> have l1 := lt_of_get hx <;> have l2 := lt_of_get hy
 ·exact hX.get (by omega) hx hy
 ·rcases h1 with e | h1
  ·omega
  ·obtain ⟨x, hx'⟩ := get_of_lt (L := X) (k := u - 1) (by omega);obtain ⟨y, hy'⟩ := get_of_lt (L := Y) (k := H - u) (by omega);exact Nat.le_trans (hX.get (by omega) hx hx') (Nat.le_trans (h1 x y hx' hy') (hY.get (by omega) hy' hy))
 ·rcases h2 with e | e | h2
  ·omega
  ·omega
  ·obtain ⟨x, hx'⟩ := get_of_lt (L := X) (k := u) (by omega);obtain ⟨y, hy'⟩ := get_of_lt (L := Y) (k := H - 1 - u) (by omega);exact Nat.le_trans (hY.get (by omega) hx hy') (Nat.le_trans (h2 x y hx' hy') (hX.get (by omega) hx' hy))
 ·exact hY.get (by omega) hx hy
end
end PK
end
section
namespace PK
def tile (t q : Nat) (L : List Nat) : List Nat := (L.drop (q * t)).take t
theorem tile_left {t p : Nat} {D E : List Nat} (h : (p + 1) * t ≤ D.length) : tile t p (D ++ E) = tile t p D := by
 unfold tile;rw [Nat.succ_mul] at h;rw [List.drop_append_of_le_length (by omega), List.take_append_of_le_length (by rw [List.length_drop]; omega)]
theorem tile_at {t q : Nat} {D E : List Nat} (h : D.length = q * t) : tile t q (D ++ E) = E.take t := by
 unfold tile; rw [← h, List.drop_left]
theorem tile_past {t p q : Nat} {L : List Nat} (hpq : q < p) (h : L.length ≤ (q + 1) * t) : tile t p L = [] := by
 unfold tile;have : (q + 1) * t ≤ p * t := Nat.mul_le_mul_right t hpq;rw [List.drop_eq_nil_of_le (by omega), List.take_nil]
theorem tile_two (s q : Nat) (L : List Nat) : tile (2 * s) q L = tile s (2 * q) L ++ tile s (2 * q + 1) L := by
 unfold tile;rw [show q * (2 * s) = 2 * q * s by rw [Nat.mul_comm 2 q, Nat.mul_assoc], show (2 * q + 1) * s = 2 * q * s + s by rw [Nat.succ_mul], show 2 * s = s + s by omega, List.take_add, List.drop_drop]
structure Part (key : Nat → Nat) (t : Nat) (R D : List Nat) (q : Nat) : Prop where
 len : D.length = q * t
 perm : ∀ p, p < q → (tile t p D).Perm (tile t p R)
 asc : ∀ p, p < q → Asc key (tile t p D)
structure Tiled (key : Nat → Nat) (t : Nat) (R L : List Nat) : Prop where
 len : L.length = R.length
 perm : ∀ p, (tile t p L).Perm (tile t p R)
 asc : ∀ p, Asc key (tile t p L)
section
variable {key : Nat → Nat} {t q : Nat} {R D Z L : List Nat}
theorem Part.nil : Part key t R [] 0 := ⟨by simp, fun _ h => by omega, fun _ h => by omega⟩
theorem part_tile (h : Part key t R D q) {p : Nat} (hp : p < q) (E : List Nat) : tile t p (D ++ E) = tile t p D :=
 tile_left (by rw [h.len]; exact Nat.mul_le_mul_right t hp)
theorem Part.step (h : Part key t R D q) (hz : Z.Perm (tile t q R)) (ha : Asc key Z) (hl : Z.length = t) : Part key t R (D ++ Z) (q + 1) := by
 refine ⟨by rw [List.length_append, h.len, hl, Nat.succ_mul], fun p hp => ?_, fun p hp => ?_⟩
 ·rcases Nat.lt_or_eq_of_le (Nat.le_of_lt_succ hp) with e | rfl
  ·rw [part_tile h e]; exact h.perm p e
  ·rw [tile_at h.len, List.take_of_length_le (by omega)]; exact hz
 ·rcases Nat.lt_or_eq_of_le (Nat.le_of_lt_succ hp) with e | rfl
  ·rw [part_tile h e]; exact h.asc p e
  ·rw [tile_at h.len, List.take_of_length_le (by omega)]; exact ha
theorem Part.done (h : Part key t R D q) (hz : Z.Perm (tile t q R)) (ha : Asc key Z) (h1 : q * t ≤ R.length) (h2 : R.length ≤ (q + 1) * t) : Tiled key t R (D ++ Z) := by
 have hzl : Z.length = R.length - q * t := by
  have h3 := h2;rw [Nat.succ_mul] at h3;rw [hz.length_eq]; unfold tile; rw [List.length_take, List.length_drop]; omega
 have hl : (D ++ Z).length = R.length := by rw [List.length_append, h.len, hzl]; omega
 have hzt : Z.length ≤ t := by rw [Nat.succ_mul] at h2; omega
 refine ⟨hl, fun p => ?_, fun p => ?_⟩
 ·rcases Nat.lt_trichotomy p q with e | rfl | e
  ·rw [part_tile h e]; exact h.perm p e
  ·rw [tile_at h.len, List.take_of_length_le hzt]; exact hz
  ·rw [tile_past e (by rw [hl]; exact h2), tile_past e h2]
 ·rcases Nat.lt_trichotomy p q with e | rfl | e
  ·rw [part_tile h e]; exact h.asc p e
  ·rw [tile_at h.len, List.take_of_length_le hzt]; exact ha
  ·rw [tile_past e (by rw [hl]; exact h2)]; exact List.Pairwise.nil
theorem Tiled.one (h : Tiled key t R L) (hn : R.length ≤ t) : L.Perm R ∧ Asc key L := by
 have h1 := h.perm 0;have h2 := h.asc 0;unfold tile at h1 h2;rw [Nat.zero_mul, List.drop_zero, List.drop_zero, List.take_of_length_le (by rw [h.len]; exact hn), List.take_of_length_le hn] at h1;rw [Nat.zero_mul, List.drop_zero, List.take_of_length_le (by rw [h.len]; exact hn)] at h2;exact ⟨h1, h2⟩
end
theorem tile_range {n t q x : Nat} (h : x ∈ tile t q (List.range n)) : q * t ≤ x ∧ x < q * t + t ∧ x < n := by
 unfold tile at h;obtain ⟨i, hi, hx⟩ := mem_take h;rw [List.getElem?_drop] at hx;have hl := lt_of_get hx;rw [List.length_range] at hl;rw [List.getElem?_range hl] at hx
 cases hx
 omega
theorem two_rel {key : Nat → Nat} {lt : Nat → Nat → Bool} {n s q : Nat} {L : List Nat} (hr : ∀ x y, x < y → y < n → lt y x = decide (key y < key x)) (h : Tiled key s (List.range n) L) : Rel key lt (tile s (2 * q) L) (tile s (2 * q + 1) L) := by
 intro x hx y hy;have h1 := tile_range ((h.perm _).mem_iff.1 hx);have h2 := tile_range ((h.perm _).mem_iff.1 hy);have h3 := h2.1;rw [Nat.succ_mul] at h3;exact hr x y (by omega) h2.2.2
theorem tile_lt {key : Nat → Nat} {n s q : Nat} {L : List Nat} (h : Tiled key s (List.range n) L) : ∀ z ∈ tile s q L, z < n := fun _ hz => (tile_range ((h.perm _).mem_iff.1 hz)).2.2
theorem two_cut {key : Nat → Nat} {s q a : Nat} {R L : List Nat} (ha : a = q * (2 * s)) (hT : Tiled key s R L) :
  (L.drop a).take (2 * s) = tile s (2 * q) L ++ tile s (2 * q + 1) L ∧ (tile s (2 * q) L).length = min s (L.length - a) ∧ (tile s (2 * q + 1) L).length = min s (L.length - (a + s)) ∧ ∀ Z : List Nat, Z.Perm (tile s (2 * q) L ++ tile s (2 * q + 1) L) → Z.Perm (tile (2 * s) q R) := by
 have e1 : 2 * q * s = a := by rw [ha, Nat.mul_comm 2 q, Nat.mul_assoc]
 have e2 : (2 * q + 1) * s = a + s := by rw [Nat.succ_mul, e1]
 refine ⟨by rw [← tile_two, ha]; rfl, by unfold tile; rw [e1, List.length_take, List.length_drop], by unfold tile; rw [e2, List.length_take, List.length_drop], fun Z hz => ?_⟩;rw [tile_two];exact hz.trans ((hT.perm _).append (hT.perm _))
end PK
end
end Go.Proofs.YtkkkhonjcbhelaaGreatDoor
