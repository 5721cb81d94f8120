/- Queues of gangs that wait, as one list in the order in which they were added: what is meant, in plain words. No program is spoken of. -/
import Derived.Test.YtdeniikaddlifaaOrdBase
namespace Go.Proofs.Ytdeniikaddlifaa
namespace QL
/-- No wait. -/
def zw : Wt := ⟨0, 0, 0, 0, 0, 0, 0, 0, 0, 0⟩
/-- A queue's waits, in their order. -/
def rowL (L : List Wt) (k : Nat) : List Wt := L.filter fun x => decide (x.q = (k : Int))
/-- One of that Id is there. -/
def hasI (L : List Wt) (id : Int) : Bool := L.any fun x => decide (x.id = id)
/-- All waits, queue by queue. -/
def allL (n : Nat) (L : List Wt) : List Wt := (List.range n).flatMap (rowL L)
/-- The wait of an Id. -/
def getI (L : List Wt) (id : Int) : Option Wt := L.find? fun x => decide (x.id = id)
/-- All but those of an Id. -/
def dropI (L : List Wt) (id : Int) : List Wt := L.filter fun x => !decide (x.id = id)
/-- A queue's room. -/
def roomOf (R : List Int) (k : Nat) : Int := (R[k]?).getD 0
/-- Rooms may be so. -/
def right (R : List Int) : Bool := decide (1 ≤ R.length) && decide (R.length ≤ 8) && R.all fun r => decide (0 ≤ r) && decide (r ≤ 16)
structure Right (R : List Int) : Prop where
  lo : 1 ≤ R.length
  hi : R.length ≤ 8
  room : ∀ (k : Nat) (r : Int), R[k]? = some r → 0 ≤ r ∧ r ≤ 16
theorem right_iff {R : List Int} : right R = true ↔ Right R := by
  unfold right
  simp only [Bool.and_eq_true, decide_eq_true_eq, List.all_eq_true]
  constructor
  · rintro ⟨⟨h1, h2⟩, h3⟩
    exact ⟨h1, h2, fun k r hr => h3 r (List.mem_of_getElem? hr)⟩
  · intro h
    refine ⟨⟨h.lo, h.hi⟩, fun r hr => ?_⟩
    obtain ⟨k, hk⟩ := List.getElem?_of_mem hr
    exact h.room k r hk
theorem Right.of (R : List Int) (h : Right R) (k : Nat) (hk : k < R.length) : 0 ≤ roomOf R k ∧ roomOf R k ≤ 16 ∧ R[k]? = some (roomOf R k) := by
  have : R[k]? = some R[k] := List.getElem?_eq_getElem hk
  unfold roomOf
  rw [this]
  have h2 := h.room k _ this
  exact ⟨h2.1, h2.2, rfl⟩
/-- What holds of queues with such rooms. -/
structure Inv (R : List Int) (L : List Wt) : Prop where
  r : Right R
  q : ∀ x ∈ L, 0 ≤ x.q ∧ x.q < (R.length : Int)
  id : L.Pairwise fun x y => x.id ≠ y.id
  len : ∀ k, k < R.length → ((rowL L k).length : Int) ≤ roomOf R k
/-- What is told of an Add, and what lies behind it. -/
def addE (R : List Int) (L : List Wt) (x : Wt) : Int :=
  if x.q < 0 ∨ (R.length : Int) ≤ x.q then 3 else if hasI L x.id then 4 else if roomOf R x.q.toNat = ((rowL L x.q.toNat).length : Int) then 2 else 0
def addL (R : List Int) (L : List Wt) (x : Wt) : List Wt := if addE R L x = 0 then L ++ [x] else L
/-- What is told of a Get, a Remove. -/
def getW (L : List Wt) (id : Int) : Wt := (getI L id).getD zw
def getE (L : List Wt) (id : Int) : Int := if hasI L id then 0 else 3
theorem mem_row {L : List Wt} {k : Nat} {x : Wt} : x ∈ rowL L k ↔ x ∈ L ∧ x.q = (k : Int) := by
  unfold rowL; rw [List.mem_filter]; simp
theorem hasI_true {L : List Wt} {id : Int} : hasI L id = true ↔ ∃ x ∈ L, x.id = id := by
  unfold hasI; simp [List.any_eq_true]
theorem hasI_false {L : List Wt} {id : Int} : hasI L id = false ↔ ∀ x ∈ L, x.id ≠ id := by
  unfold hasI; simp [List.any_eq_false]
theorem getI_none {L : List Wt} {id : Int} (h : hasI L id = false) : getI L id = none := by
  unfold getI; rw [List.find?_eq_none]; intro x hx; simpa using hasI_false.1 h x hx
theorem getI_some {L : List Wt} {id : Int} (h : hasI L id = true) : ∃ x, getI L id = some x ∧ x ∈ L ∧ x.id = id := by
  cases e : getI L id with
  | none =>
    unfold getI at e; rw [List.find?_eq_none] at e
    obtain ⟨x, hx, hi⟩ := hasI_true.1 h
    exact absurd (decide_eq_true hi) (by simpa using e x hx)
  | some x =>
    unfold getI at e
    exact ⟨x, rfl, List.mem_of_find?_eq_some e, by simpa using List.find?_some e⟩
theorem pair_eq : ∀ {L : List Wt}, L.Pairwise (fun x y => x.id ≠ y.id) → ∀ {x y : Wt}, x ∈ L → y ∈ L → x.id = y.id → x = y
  | [], _, x, y, hx, _, _ => by simp at hx
  | z :: L, h, x, y, hx, hy, e => by
    obtain ⟨h1, h2⟩ := List.pairwise_cons.1 h
    rcases List.mem_cons.1 hx with e1 | hx1
    · rcases List.mem_cons.1 hy with e2 | hy1
      · rw [e1, e2]
      · exact absurd (by rw [← e, e1]) (h1 y hy1)
    · rcases List.mem_cons.1 hy with e2 | hy1
      · exact absurd (by rw [e, e2]) (h1 x hx1)
      · exact pair_eq h2 hx1 hy1 e
theorem Inv.one {R : List Int} {L : List Wt} (h : Inv R L) {x y : Wt} (hx : x ∈ L) (hy : y ∈ L) (e : x.id = y.id) : x = y := pair_eq h.id hx hy e
theorem Inv.get {R : List Int} {L : List Wt} (h : Inv R L) {x : Wt} (hx : x ∈ L) : getI L x.id = some x ∧ hasI L x.id = true := by
  have hh : hasI L x.id = true := hasI_true.2 ⟨x, hx, rfl⟩
  obtain ⟨y, e, hy, hi⟩ := getI_some hh
  rw [h.one hy hx hi] at e
  exact ⟨e, hh⟩
theorem Inv.getW {R : List Int} {L : List Wt} (h : Inv R L) {x : Wt} (hx : x ∈ L) : getW L x.id = x ∧ getE L x.id = 0 := by
  obtain ⟨e, hh⟩ := h.get hx
  unfold QL.getW getE
  rw [e, hh]; exact ⟨rfl, rfl⟩
theorem get_no {L : List Wt} {id : Int} (h : hasI L id = false) : getW L id = zw ∧ getE L id = 3 := by
  unfold getW getE
  rw [getI_none h, h]; exact ⟨rfl, rfl⟩
theorem dropI_no {L : List Wt} {id : Int} (h : hasI L id = false) : dropI L id = L := by
  unfold dropI; rw [List.filter_eq_self]; intro x hx; simpa using hasI_false.1 h x hx
theorem filter_drop : ∀ {l : List Wt}, l.Pairwise (fun x y => x.id ≠ y.id) → ∀ {k : Nat} {x : Wt}, l[k]? = some x → dropI l x.id = l.take k ++ l.drop (k + 1)
  | [], _, k, x, hx => by simp at hx
  | y :: l, h, k, x, hx => by
    obtain ⟨h1, h2⟩ := List.pairwise_cons.1 h
    cases k with
    | zero =>
      simp at hx; subst hx
      unfold dropI
      rw [List.filter_cons, if_neg (by simp)]
      simp only [List.take_zero, List.nil_append, Nat.zero_add, List.drop_one, List.tail_cons]
      rw [List.filter_eq_self]
      intro z hz
      have := h1 z hz
      simp; exact fun e => this e.symm
    | succ k =>
      simp at hx
      have ih := filter_drop h2 hx
      unfold dropI at ih ⊢
      have hy := h1 x (List.mem_of_getElem? hx)
      rw [List.filter_cons, if_pos (by simp; exact hy), ih]
      simp
theorem row_drop {L : List Wt} {id : Int} {k : Nat} : rowL (dropI L id) k = dropI (rowL L k) id := by
  unfold rowL dropI; rw [List.filter_filter, List.filter_filter]; congr 1; funext x; exact Bool.and_comm _ _
theorem Inv.row {R : List Int} {L : List Wt} (h : Inv R L) (k : Nat) : (rowL L k).Pairwise fun x y => x.id ≠ y.id := h.id.filter _
/-- The place of a wait in its queue. -/
theorem Inv.find {R : List Int} {L : List Wt} (h : Inv R L) {k i : Nat} {x : Wt} (hx : (rowL L k)[i]? = some x) :
    x ∈ L ∧ x.q = (k : Int) ∧ dropI (rowL L k) x.id = (rowL L k).take i ++ (rowL L k).drop (i + 1) ∧ ∀ j, j ≠ k → rowL (dropI L x.id) j = rowL L j := by
  have hm := mem_row.1 (List.mem_of_getElem? hx)
  refine ⟨hm.1, hm.2, filter_drop (h.row k) hx, fun j hj => ?_⟩
  rw [row_drop]
  apply dropI_no
  rw [hasI_false]
  intro y hy e
  obtain ⟨y1, y2⟩ := mem_row.1 hy
  have := h.one y1 hm.1 e
  subst this
  omega
theorem row_add {L : List Wt} {x : Wt} {k : Nat} : rowL (L ++ [x]) k = if x.q = (k : Int) then rowL L k ++ [x] else rowL L k := by
  unfold rowL
  rw [List.filter_append]
  by_cases h : x.q = (k : Int)
  · rw [if_pos h]; simp [h]
  · rw [if_neg h]; simp [h]
theorem Inv.nil {R : List Int} (h : Right R) : Inv R [] := ⟨h, fun x hx => by simp at hx, List.Pairwise.nil, fun k hk => by have := (h.of R k hk).1; simp [rowL]; exact this⟩
theorem Inv.drop {R : List Int} {L : List Wt} (h : Inv R L) (id : Int) : Inv R (dropI L id) := by
  refine ⟨h.r, fun x hx => h.q x (List.mem_filter.1 hx).1, h.id.filter _, fun k hk => ?_⟩
  have h1 := h.len k hk
  rw [row_drop]
  have : (dropI (rowL L k) id).length ≤ (rowL L k).length := List.length_filter_le _ _
  omega
theorem Inv.add {R : List Int} {L : List Wt} (h : Inv R L) (x : Wt) : Inv R (addL R L x) := by
  unfold addL
  by_cases e : addE R L x = 0
  · rw [if_pos e]
    unfold addE at e
    split at e
    · omega
    · rename_i hq
      split at e
      · omega
      · rename_i hi
        split at e
        · omega
        · rename_i hr
          have hi' : hasI L x.id = false := by simpa using hi
          refine ⟨h.r, fun y hy => ?_, ?_, fun k hk => ?_⟩
          · rcases List.mem_append.1 hy with hy | hy
            · exact h.q y hy
            · simp at hy; subst hy; omega
          · rw [List.pairwise_append]
            refine ⟨h.id, by simp, fun a ha b hb => ?_⟩
            simp at hb; subst hb
            exact hasI_false.1 hi' a ha
          · rw [row_add]
            have h1 := h.len k hk
            split
            · rename_i hk2
              rw [List.length_append]
              rw [hk2] at hr
              simp only [Int.toNat_natCast] at hr
              simp; omega
            · exact h1
  · rw [if_neg e]; exact h
theorem Inv.room {R : List Int} {L : List Wt} (h : Inv R L) (k : Nat) : (rowL L k).length ≤ 16 := by
  by_cases hk : k < R.length
  · have h1 := h.len k hk
    have h2 := (h.r.of R k hk).2.1
    omega
  · have : rowL L k = [] := by
      unfold rowL; rw [List.filter_eq_nil_iff]; intro x hx; have := h.q x hx; simp; omega
    rw [this]; simp
theorem Inv.all {R : List Int} {L : List Wt} (h : Inv R L) : (allL R.length L).length ≤ 128 := by
  have : ∀ n : Nat, (allL n L).length ≤ n * 16 := fun n => by
    induction n with
    | zero => simp [allL]
    | succ n ih =>
      unfold allL at *
      rw [List.range_succ, List.flatMap_append, List.length_append, List.flatMap_cons, List.flatMap_nil, List.append_nil]
      have := h.room n
      omega
  have h1 := this R.length
  have h2 := h.r.hi
  omega
theorem allL_next {n : Nat} {L : List Wt} : allL (n + 1) L = allL n L ++ rowL L n := by
  unfold allL
  rw [List.range_succ, List.flatMap_append, List.flatMap_cons, List.flatMap_nil, List.append_nil]
end QL
end Go.Proofs.Ytdeniikaddlifaa
