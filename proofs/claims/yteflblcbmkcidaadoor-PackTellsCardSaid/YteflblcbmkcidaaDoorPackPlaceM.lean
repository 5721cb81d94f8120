/- Where members go: plain facts of a placing, in whatever order the spots are gone through. -/
import Derived.Test.YteflblcbmkcidaaDoorPackCut
import Derived.Test.YteflblcbmkcidaaDoorPackRoomy
namespace Go.Proofs.YteflblcbmkcidaaDoor
open Go.RowKit
open PK
/-- The slots of r members: spots gone through in the order of Z, into each as many as fit. -/
def placeL (S : Shp) (l : List Fe) : List Nat → Nat → List Fe
  | [], _ => []
  | k :: Z, r => match l[k]? with
    | none => placeL S l Z r
    | some f => pieces S f (min (fitF S f) r) ++ placeL S l Z (r - min (fitF S f) r)
/-- How many members fit into the spots of Z. -/
def fitSum (S : Shp) (l : List Fe) (Z : List Nat) : Nat := (Z.map (ftL (fitsL S l))).sum
theorem ftL_at {S : Shp} {l : List Fe} {k : Nat} {f : Fe} (h : l[k]? = some f) : ftL (fitsL S l) k = fitF S f := by unfold ftL fitsL; rw [List.getElem?_map, h]; rfl
theorem placeL_len (S : Shp) (l : List Fe) : ∀ (Z : List Nat) (r : Nat), (placeL S l Z r).length = min r (fitSum S l Z)
  | [], r => by simp [placeL, fitSum]
  | k :: Z, r => by
    unfold placeL
    have e : fitSum S l (k :: Z) = ftL (fitsL S l) k + fitSum S l Z := by simp [fitSum]
    rw [e]
    cases h : l[k]? with
    | none =>
      have : ftL (fitsL S l) k = 0 := by unfold ftL fitsL; rw [List.getElem?_map, h]; rfl
      rw [this]; simp only
      rw [placeL_len S l Z r, Nat.zero_add]
    | some f =>
      simp only
      rw [ftL_at h, List.length_append, pieces_len, placeL_len S l Z _]
      omega
theorem fitSum_take {S : Shp} {l : List Fe} {Z : List Nat} {j k : Nat} (h : Z[j]? = some k) : fitSum S l (Z.take (j + 1)) = fitSum S l (Z.take j) + ftL (fitsL S l) k := by
  unfold fitSum; rw [take_at h, List.map_append, List.sum_append]; simp
theorem placeL_next (S : Shp) (l : List Fe) {k : Nat} {f : Fe} (hk : l[k]? = some f) : ∀ (Z : List Nat) (r : Nat), placeL S l (Z ++ [k]) r = placeL S l Z r ++ pieces S f (min (fitF S f) (r - fitSum S l Z))
  | [], r => by simp [placeL, hk, fitSum]
  | q :: Z, r => by
    have e : fitSum S l (q :: Z) = ftL (fitsL S l) q + fitSum S l Z := by simp [fitSum]
    rw [e]
    cases h : l[q]? with
    | none =>
      have : ftL (fitsL S l) q = 0 := by unfold ftL fitsL; rw [List.getElem?_map, h]; rfl
      rw [this, Nat.zero_add]
      have := placeL_next S l hk Z r
      simp only [List.cons_append, placeL, h]
      exact this
    | some x =>
      rw [ftL_at h]
      have := placeL_next S l hk Z (r - min (fitF S x) r)
      simp only [List.cons_append, placeL, h]
      rw [this, List.append_assoc]
      congr 3
      omega
theorem fitSum_perm {S : Shp} {l : List Fe} {Z : List Nat} (h : Z.Perm (List.range l.length)) : fitSum S l Z = roomF S l := by
  have h1 : (Z.map (ftL (fitsL S l))).sum = ((List.range l.length).map (ftL (fitsL S l))).sum := (h.map _).sum_nat
  unfold fitSum roomF
  rw [h1]
  congr 1
  refine List.ext_getElem? fun i => ?_
  rw [List.getElem?_map]
  rcases Nat.lt_or_ge i l.length with hi | hi
  · rw [List.getElem?_range hi]
    have hf : i < (fitsL S l).length := by rw [fitsL_len]; exact hi
    unfold ftL
    rw [Option.map_some, List.getElem?_eq_getElem hf, Option.getD_some]
  · rw [List.getElem?_eq_none (by simpa using hi), List.getElem?_eq_none (by rw [fitsL_len]; exact hi)]; rfl
/-- Sorted by a key that tells all apart, a list is one. -/
theorem asc_unique {key : Nat → Nat} {Y Z : List Nat} (hp : Y.Perm Z) (hi : ∀ x ∈ Z, ∀ y ∈ Z, key x = key y → x = y) (hn : Z.Nodup) (hY : Asc key Y) (hZ : Asc key Z) : Y = Z := by
  induction Y generalizing Z with
  | nil => exact (List.nil_perm.1 hp).symm ▸ rfl
  | cons y Y ih =>
    cases Z with
    | nil => exact absurd hp.length_eq (by simp)
    | cons z Z =>
      have hyz : y = z := by
        have h1 : y ∈ z :: Z := hp.mem_iff.1 (by simp)
        have h2 : z ∈ y :: Y := hp.mem_iff.2 (by simp)
        have a : key z ≤ key y := by
          rcases List.mem_cons.1 h1 with h | h
          · rw [h]; exact Nat.le_refl _
          · exact (List.pairwise_cons.1 hZ).1 y h
        have b : key y ≤ key z := by
          rcases List.mem_cons.1 h2 with h | h
          · rw [h]; exact Nat.le_refl _
          · exact (List.pairwise_cons.1 hY).1 z h
        exact hi y h1 z (by simp) (by omega)
      subst hyz
      rw [ih ((List.perm_cons y).1 hp) (fun a ha b hb => hi a (List.mem_cons_of_mem _ ha) b (List.mem_cons_of_mem _ hb)) (List.nodup_cons.1 hn).2 (List.pairwise_cons.1 hY).2 (List.pairwise_cons.1 hZ).2]
theorem keyL_inj {L : List Nat} {x y : Nat} (hx : x < L.length) (hy : y < L.length) (h : keyL L x = keyL L y) : x = y := by
  unfold keyL at h
  have e1 := congrArg (· % L.length) h
  simp only [Nat.add_comm, Nat.mul_comm, Nat.add_mul_mod_self_left, Nat.mod_eq_of_lt hx, Nat.mod_eq_of_lt hy] at e1
  exact e1
theorem order_unique {L Y Z : List Nat} {n : Nat} (hL : L.length = n) (hY : Y.Perm (List.range n)) (hZ : Z.Perm (List.range n)) (aY : Asc (keyL L) Y) (aZ : Asc (keyL L) Z) : Y = Z :=
  asc_unique (hY.trans hZ.symm) (fun x hx y hy h => keyL_inj (by have := hZ.mem_iff.1 hx; rw [hL]; simpa using this) (by have := hZ.mem_iff.1 hy; rw [hL]; simpa using this) h) (hZ.nodup_iff.2 List.nodup_range) aY aZ
end Go.Proofs.YteflblcbmkcidaaDoor
