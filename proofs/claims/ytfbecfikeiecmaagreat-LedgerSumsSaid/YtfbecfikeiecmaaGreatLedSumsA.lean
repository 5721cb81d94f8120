/- Each call keeps what is taken, and used, the holds' own; a row of units in a block of its own; the sums of the first holds. No program is walked. -/
import Derived.Test.YtfbecfikeiecmaaGreatLedMore
import Derived.Test.YtfbecfikeiecmaaGreatLedActM
import Derived.Test.YtfbecfikeiecmaaGreatQuotaRefZ
set_option maxRecDepth 100000
set_option linter.unusedVariables false
namespace Go.Proofs.YtfbecfikeiecmaaGreat
open Go.RowKit
namespace LM
theorem act_sums {fs : List Fr} {us : List Un} {st : LS} (hh : SumsS fs us st) (ha : Asc st.hs) (a : La) : SumsS fs us (act fs st a).2 := by
  unfold act
  repeat' split
  · exact reserve_sums hh _ _ _ _ _
  · exact commit_sums hh _ _ _
  · exact grow_sums hh ha _ _
  · exact shrink_sums hh ha _
  · exact release_sums hh ha _
  · exact expire_sums hh ha _
  · exact drain_sums hh ha _
  · exact undrain_sums hh _
theorem init_sums {ns : List (List (Int × Int))} {us : List Un} (hq : quotasOk us = true) : SumsS (frees ns) us (init ns us) := by
  obtain ⟨_, _, h3⟩ := quotasOk_iff.1 hq
  have hk : ∀ (k : Nat) (x : Qa), (newL us)[k]? = some x → x.u.g = 0 ∧ x.u.c = 0 := fun k x hx => by
    unfold newL at hx
    rw [List.getElem?_map, Option.map_eq_some_iff] at hx
    obtain ⟨u, _, rfl⟩ := hx
    exact ⟨rfl, rfl⟩
  refine ⟨PM.Sum.nil _, ?_, fun x hx => ?_, (fun h hh => by cases hh), fun k x hx => ?_, fun k x hx => ?_⟩
  · show (newL us).map (·.m) = us
    unfold newL
    rw [List.map_map]
    conv => rhs; rw [← List.map_id us]
    rfl
  · obtain ⟨u, hu, rfl⟩ := List.mem_map.1 hx
    exact newA_ok (List.all_eq_true.1 h3 u hu)
  · rw [(hk k x hx).1]; rfl
  · rw [(hk k x hx).2]; rfl
/-- What the first holds of each queue have. -/
def usedL (n : Nat) (hs : List Hd) : List Un := (List.range n).map fun i => ⟨gsumQ i hs, csumQ i hs⟩
theorem usedL_len (n : Nat) (hs : List Hd) : (usedL n hs).length = n := by simp [usedL]
theorem usedL_at {n i : Nat} (hs : List Hd) (h : i < n) : (usedL n hs)[i]? = some ⟨gsumQ i hs, csumQ i hs⟩ := by
  unfold usedL; rw [List.getElem?_map, List.getElem?_range h]; rfl
theorem sumQ_append {f : Hd → Int} (hs : List Hd) (h : Hd) : ((hs ++ [h]).map f).sum = (hs.map f).sum + f h := by simp
theorem usedL_next {n : Nat} {hs : List Hd} {j k : Nat} {h : Hd} (hj : hs[j]? = some h) (hq : h.q = (k : Int)) (hk : k < n) :
    usedL n (hs.take (j + 1)) = (usedL n (hs.take j)).set k ⟨gsumQ k (hs.take j) + (units h.sl).g, csumQ k (hs.take j) + (units h.sl).c⟩ := by
  refine List.ext_getElem? fun i => ?_
  rw [take_next hj]
  by_cases hi : i < n
  · rw [usedL_at _ hi]
    by_cases e : k = i
    · subst e
      rw [List.getElem?_set_self (by rw [usedL_len]; exact hk)]
      unfold gsumQ csumQ
      rw [sumQ_append, sumQ_append, if_pos hq, if_pos hq]
    · rw [List.getElem?_set_ne e, usedL_at _ hi]
      unfold gsumQ csumQ
      rw [sumQ_append, sumQ_append, if_neg (by omega), if_neg (by omega), Int.add_zero, Int.add_zero]
  · rw [List.getElem?_eq_none (by rw [usedL_len]; omega), List.getElem?_eq_none (by rw [List.length_set, usedL_len]; omega)]
theorem usedL_all {fs : List Fr} {us : List Un} {ts : List Fr} {qs : List Qa} {hs : List Hd} (h : Sums fs us ts qs hs) : usedL qs.length hs = qs.map (·.u) := by
  refine List.ext_getElem? fun i => ?_
  by_cases hi : i < qs.length
  · obtain ⟨x, hx⟩ := get_lt hi
    rw [usedL_at _ hi, List.getElem?_map, hx]
    have h1 := h.g i x hx
    have h2 := h.c i x hx
    rw [← h1, ← h2]; rfl
  · rw [List.getElem?_eq_none (by rw [usedL_len]; omega), List.getElem?_eq_none (by rw [List.length_map]; omega)]
theorem usedL_nil (n : Nat) : ∀ (i : Nat) (x : Un), (usedL n [])[i]? = some x → i < n ∧ x = ⟨0, 0⟩ := fun i x hx => by
  have hi : i < n := by have := (List.getElem?_eq_some_iff.1 hx).1; rwa [usedL_len] at this
  rw [usedL_at _ hi] at hx
  cases hx
  exact ⟨hi, rfl⟩
/-- The sums of the first holds are no more than what the queue uses. -/
theorem gsum_part {fs : List Fr} {us : List Un} {ts : List Fr} {qs : List Qa} {hs : List Hd} (h : Sums fs us ts qs hs) (k j : Nat) {x : Qa} (hx : qs[k]? = some x) :
    0 ≤ gsumQ k (hs.take j) ∧ gsumQ k (hs.take j) ≤ 1048576 ∧ 0 ≤ csumQ k (hs.take j) ∧ csumQ k (hs.take j) ≤ 1048576 := by
  have ok := h.ok x (List.mem_of_getElem? hx)
  obtain ⟨m1, m2, m3, m4⟩ := mayU_iff.1 ok.m
  have g := ok.g
  have c := ok.c
  have h1 := h.g k x hx
  have h2 := h.c k x hx
  have hp := h.pos
  have e : hs = hs.take j ++ hs.drop j := (List.take_append_drop j hs).symm
  have q1 : ∀ l : List Hd, (∀ y ∈ l, y ∈ hs) → 0 ≤ gsumQ k l ∧ 0 ≤ csumQ k l := fun l hl =>
    ⟨sumQ_pos fun y hy => by have := hp y (hl y hy); split <;> omega, sumQ_pos fun y hy => by have := hp y (hl y hy); split <;> omega⟩
  have a1 := q1 (hs.take j) fun y hy => List.mem_of_mem_take hy
  have a2 := q1 (hs.drop j) fun y hy => List.mem_of_mem_drop hy
  have s1 : gsumQ k hs = gsumQ k (hs.take j) + gsumQ k (hs.drop j) := by
    unfold gsumQ
    rw [← List.sum_append, ← List.map_append, List.take_append_drop]
  have s2 : csumQ k hs = csumQ k (hs.take j) + csumQ k (hs.drop j) := by
    unfold csumQ
    rw [← List.sum_append, ← List.map_append, List.take_append_drop]
  omega
/-- With the first holds' slots given back. -/
theorem drop_sum {fs ts : List Fr} {hs : List Hd} {j : Nat} {h : Hd} (hj : hs[j]? = some h) (hs' : PM.Sum fs ts (slots (hs.drop j))) : ∃ ts', PM.many fs [] true h.sl ts = (0, ts') ∧ PM.Sum fs ts' (slots (hs.drop (j + 1))) := by
  have e : hs.drop j = h :: hs.drop (j + 1) := by
    obtain ⟨hlt, e⟩ := List.getElem?_eq_some_iff.1 hj
    rw [List.drop_eq_getElem_cons hlt, e]
  rw [e] at hs'
  exact PM.Sum.gives [] (l := h.sl) (L := slots (hs.drop (j + 1))) (by simpa [slots] using hs')
end LM
/-- All that is in a cluster, in a block that is young. -/
theorem refall_y (A : Option Addr) (c : Nat) (ns : List (List (Int × Int))) (w W : World) (h : Nodes w w.heap.size A ns) (hB : Below w.heap.size w W) (hok : cluOk ns = true) :
    Calls Tryz.prog 14 #[.agg #[.slice A ns.length c]] W fun e w' => ∃ g cp, e = .returned (.slice (some ⟨g, 0, none⟩) (frees ns).length cp) ∧ W.heap.size ≤ g ∧ RowB w' g (frees ns) ∧ Below W.heap.size W w' := by
  have h' := Nodes.keep h hB hB.size
  obtain ⟨x, hx⟩ := get_lt (l := ns) (k := 0) (by have := cluOk_len hok; omega)
  obtain ⟨b, off, rfl, hb, hc⟩ := h'.at_ hx
  refine (refall_loop b off c _ ns rfl W hb hc hok).mono fun e w' ⟨v, he, ho, hb⟩ => ?_
  obtain ⟨A, cap, rfl⟩ := own_formE ho
  obtain ⟨g, rfl, hgB, hr⟩ := RowB.of_own ho (frees_pos hok)
  exact ⟨g, cap, he, by omega, hr, hb⟩
/-- A row of units, in a block of its own. -/
def UnB (w : World) (g : Nat) (L : List Un) : Prop := ∃ cur, w.heap[g]? = some (.cells cur 58 (0, 0)) ∧ ∀ (i : Nat) (x : Un), L[i]? = some x → cur[i * 2]? = some (.int .i64 x.g) ∧ cur[i * 2 + 1]? = some (.int .i64 x.c)
theorem UnB.of_block {w w' : World} {g : Nat} {L : List Un} (h : UnB w g L) (e : w'.heap[g]? = w.heap[g]?) : UnB w' g L := by
  obtain ⟨cur, h1, h2⟩ := h
  exact ⟨cur, e.trans h1, h2⟩
theorem UnB.uns {w : World} {g : Nat} {L : List Un} (h : UnB w g L) : Uns w w.heap.size (some ⟨g, 0, none⟩) L := by
  obtain ⟨cur, h1, h2⟩ := h
  refine .inr ⟨g, 0, rfl, blk_lt h1, fun i x hx r v hr => ?_⟩
  obtain ⟨a, b⟩ := h2 i x hx
  rw [Nat.zero_add]
  match r, hr with
  | 0, hr => simp [uC] at hr; subst hr; exact cell_blk h1 a
  | 1, hr => simp [uC] at hr; subst hr; exact cell_blk h1 b
  | r + 2, hr => simp [uC] at hr
theorem UnB.setG {w : World} {g k : Nat} {L : List Un} {x : Un} (h : UnB w g L) (hx : L[k]? = some x) (G : Int) : UnB (w.setCell ⟨g, k * 2, none⟩ (.int .i64 G)) g (L.set k ⟨G, x.c⟩) := by
  obtain ⟨cur, h1, h2⟩ := h
  refine ⟨_, blk_put _ h1, fun i z hz => ?_⟩
  have b := (Array.getElem?_eq_some_iff.1 (h2 k x hx).1).1
  by_cases hk : k = i
  · subst hk
    rw [List.getElem?_set_self (List.getElem?_eq_some_iff.1 hx).1] at hz
    cases hz
    exact ⟨Array.getElem?_setIfInBounds_self_of_lt b, by rw [Array.getElem?_setIfInBounds_ne (by omega)]; exact (h2 k x hx).2⟩
  · rw [List.getElem?_set_ne hk] at hz
    rw [Array.getElem?_setIfInBounds_ne (by omega), Array.getElem?_setIfInBounds_ne (by omega)]
    exact h2 i z hz
theorem UnB.setC {w : World} {g k : Nat} {L : List Un} {x : Un} (h : UnB w g L) (hx : L[k]? = some x) (C : Int) : UnB (w.setCell ⟨g, k * 2 + 1, none⟩ (.int .i64 C)) g (L.set k ⟨x.g, C⟩) := by
  obtain ⟨cur, h1, h2⟩ := h
  refine ⟨_, blk_put _ h1, fun i z hz => ?_⟩
  have b := (Array.getElem?_eq_some_iff.1 (h2 k x hx).2).1
  by_cases hk : k = i
  · subst hk
    rw [List.getElem?_set_self (List.getElem?_eq_some_iff.1 hx).1] at hz
    cases hz
    exact ⟨by rw [Array.getElem?_setIfInBounds_ne (by omega)]; exact (h2 k x hx).1, Array.getElem?_setIfInBounds_self_of_lt b⟩
  · rw [List.getElem?_set_ne hk] at hz
    rw [Array.getElem?_setIfInBounds_ne (by omega), Array.getElem?_setIfInBounds_ne (by omega)]
    exact h2 i z hz
end Go.Proofs.YtfbecfikeiecmaaGreat
