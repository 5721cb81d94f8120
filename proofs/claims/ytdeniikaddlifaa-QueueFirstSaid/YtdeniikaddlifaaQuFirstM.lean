/- Queues: who came when; what is removed and added anew is the last. -/
import Derived.Test.YtdeniikaddlifaaQuMapM
set_option linter.unusedVariables false
set_option maxRecDepth 100000
namespace Go.Proofs.Ytdeniikaddlifaa
open Go.RowKit
namespace QL
/-- Those that are there came one behind the other, none behind turn i. -/
structure Came (cm : Int → Int) (L : List Wt) (i : Int) : Prop where
  up : L.Pairwise fun x y => cm x.id < cm y.id
  le : ∀ x ∈ L, cm x.id ≤ i
theorem Came.later {cm : Int → Int} {L : List Wt} {i j : Int} (h : Came cm L i) (hij : i ≤ j) : Came cm L j := ⟨h.up, fun x hx => Int.le_trans (h.le x hx) hij⟩
theorem Came.drop {cm : Int → Int} {L : List Wt} {i : Int} (h : Came cm L i) (id : Int) : Came cm (dropI L id) i := ⟨h.up.filter _, fun x hx => h.le x (List.mem_filter.1 hx).1⟩
theorem Came.add {cm : Int → Int} {L : List Wt} {i : Int} (h : Came cm L i) (x : Wt) (hn : hasI L x.id = false) : Came (fun y => if y = x.id then i + 1 else cm y) (L ++ [x]) (i + 1) := by
  have hne : ∀ a ∈ L, ¬ a.id = x.id := fun a ha => hasI_false.1 hn a ha
  refine ⟨List.pairwise_append.2 ⟨h.up.imp_of_mem fun {a b} ha hb hab => ?_, by simp, fun a ha b hb => ?_⟩, fun a ha => ?_⟩
  · simp only [if_neg (hne a ha), if_neg (hne b hb)]; exact hab
  · simp at hb; subst hb
    simp only [if_neg (hne a ha), if_true]
    have := h.le a ha; omega
  · rcases List.mem_append.1 ha with ha | ha
    · simp only [if_neg (hne a ha)]; have := h.le a ha; omega
    · simp at ha; subst ha; simp
theorem mem_allq {n : Nat} {L : List Wt} {x : Wt} (h : x ∈ allL n L) : 0 ≤ x.q ∧ x.q < (n : Int) := by
  unfold allL at h
  obtain ⟨k, hk, h2⟩ := List.mem_flatMap.1 h
  have h3 := (mem_row.1 h2).2
  have h4 := List.mem_range.1 hk
  omega
theorem Came.all {cm : Int → Int} {L : List Wt} {i : Int} (h : Came cm L i) : ∀ n : Nat, (allL n L).Pairwise fun x y => x.q < y.q ∨ (x.q = y.q ∧ cm x.id < cm y.id)
  | 0 => by simp [allL]
  | n + 1 => by
    rw [allL_next]
    refine List.pairwise_append.2 ⟨h.all n, ?_, fun a ha b hb => .inl ?_⟩
    · exact (h.up.filter _).imp_of_mem fun {a b} ha hb hab => .inr ⟨by rw [(mem_row.1 ha).2, (mem_row.1 hb).2], hab⟩
    · have h1 := mem_allq ha
      have h2 := (mem_row.1 hb).2
      omega
theorem Came.two {cm : Int → Int} {L : List Wt} {i : Int} (h : Came cm L i) {n j : Nat} {a b : Wt} (ha : (allL n L)[j]? = some a) (hb : (allL n L)[j + 1]? = some b) : a.q < b.q ∨ (a.q = b.q ∧ cm a.id < cm b.id) := by
  obtain ⟨h1, e1⟩ := List.getElem?_eq_some_iff.1 ha
  obtain ⟨h2, e2⟩ := List.getElem?_eq_some_iff.1 hb
  have := List.pairwise_iff_getElem.1 (h.all n) j (j + 1) h1 h2 (by omega)
  rw [e1, e2] at this; exact this
theorem drop_len {R : List Int} {L : List Wt} (h : Inv R L) {x : Wt} (hx : x ∈ L) : (dropI L x.id).length + 1 = L.length := by
  obtain ⟨k, hk⟩ := List.getElem?_of_mem hx
  have hl := (List.getElem?_eq_some_iff.1 hk).1
  rw [filter_drop h.id hk, List.length_append, List.length_take, List.length_drop]; omega
theorem getW_mem {L : List Wt} {id : Int} (h : hasI L id = true) : getW L id ∈ L ∧ (getW L id).id = id := by
  obtain ⟨x, e, hx, hi⟩ := getI_some h
  unfold getW; rw [e]; exact ⟨hx, hi⟩
/-- What was removed can be added anew. -/
theorem readd {R : List Int} {L : List Wt} (h : Inv R L) {id : Int} (hh : hasI L id = true) : addE R (dropI L id) (getW L id) = 0 ∧ addL R (dropI L id) (getW L id) = dropI L id ++ [getW L id] := by
  obtain ⟨hm, hi⟩ := getW_mem hh
  obtain ⟨y, hy⟩ : ∃ y, y = getW L id := ⟨_, rfl⟩
  rw [← hy] at hm hi ⊢
  have hq := h.q y hm
  obtain ⟨k, hk⟩ : ∃ k : Nat, y.q = k := ⟨y.q.toNat, by omega⟩
  have e : addE R (dropI L id) y = 0 := by
    unfold addE
    rw [if_neg (by omega), hasI_drop, hi]
    simp only [decide_true, Bool.not_true, Bool.and_false, Bool.false_eq_true, if_false]
    rw [hk, Int.toNat_natCast, if_neg]
    have hr : y ∈ rowL L k := mem_row.2 ⟨hm, hk⟩
    obtain ⟨j, hj⟩ := List.getElem?_of_mem hr
    have h3 := (h.find hj).2.2.1
    have hl := (List.getElem?_eq_some_iff.1 hj).1
    have h4 := h.len k (by omega)
    rw [← hi, row_drop, h3, List.length_append, List.length_take, List.length_drop]
    omega
  exact ⟨e, by unfold addL; rw [if_pos e]⟩
theorem row_all {L : List Wt} {k : Nat} : ∀ n : Nat, k < n → rowL (allL n L) k = rowL L k
  | 0, h => by omega
  | n + 1, h => by
    rw [allL_next]
    have e0 : rowL (allL n L ++ rowL L n) k = rowL (allL n L) k ++ rowL (rowL L n) k := List.filter_append _ _
    rw [e0]
    by_cases e : k = n
    · subst e
      have h1 : rowL (allL k L) k = [] := by
        unfold rowL
        rw [List.filter_eq_nil_iff]
        intro x hx
        have := mem_allq hx
        simp; omega
      have h2 : rowL (rowL L k) k = rowL L k := by
        unfold rowL
        rw [List.filter_filter]
        congr 1
        funext x
        exact Bool.and_self _
      rw [h1, h2]; rfl
    · have h2 : rowL (rowL L n) k = [] := by
        conv => lhs; unfold rowL
        rw [List.filter_eq_nil_iff]
        intro x hx
        have := (mem_row.1 hx).2
        simp; omega
      rw [h2, List.append_nil]
      exact row_all n (by omega)
/-- The last one of a queue. -/
def lastq (l : List Wt) (q : Int) : Wt := ((l.filter fun x => decide (x.q = q)).getLast?).getD zw
theorem lastq_next {l : List Wt} {i : Nat} {x : Wt} {q : Int} (hx : l[i]? = some x) : lastq (l.take (i + 1)) q = if x.q = q then x else lastq (l.take i) q := by
  unfold lastq
  rw [take_next hx, List.filter_append]
  by_cases e : x.q = q
  · rw [if_pos e]; simp [e]
  · rw [if_neg e]; simp [e]
theorem lastq_all {R : List Int} {L : List Wt} {y : Wt} (hq : 0 ≤ y.q ∧ y.q < (R.length : Int)) : lastq (allL R.length (L ++ [y])) y.q = y := by
  obtain ⟨k, hk⟩ : ∃ k : Nat, y.q = k := ⟨y.q.toNat, by omega⟩
  unfold lastq
  have h1 := row_all (L := L ++ [y]) (k := k) R.length (by omega)
  unfold rowL at h1
  rw [hk, h1, List.filter_append]
  simp [hk]
end QL
def jbA (x : Wt) : Array Value := #[.int .i64 x.id, .int .i64 x.q, .int .i64 x.p, .int .i64 x.r, .int .i64 x.g, .int .i64 x.c, .int .i64 x.mn, .int .i64 x.mx]
def jbC (x : Wt) : List Value := [.int .i64 x.id, .int .i64 x.q, .int .i64 x.p, .int .i64 x.r, .int .i64 x.g, .int .i64 x.c, .int .i64 x.mn, .int .i64 x.mx]
theorem run_load_jb {oi : Oper} {ρ : Operand → Value} {W : World} {y : Operand} {g o : Nat} {x : Wt} (ho : oi.op = .load 37 y) (hy : ρ y = .pointer (some ⟨g, o, none⟩)) (h : WtAt W g o x) :
    (execOp ρ oi).run Try.prog W = .ok (.value (.agg (jbA x))) W := by
  have hl : (loadCells ⟨g, o, none⟩ 8).run Try.prog W = .ok (jbA x) W := run_loadCells_list (P := Try.prog) W ⟨g, o, none⟩ (jbC x) fun j v hv => by
    rw [Addr.add_lit]
    refine h j v ?_
    have hj := (List.getElem?_eq_some_iff.1 hv).1
    rw [show (wtC x)[j]? = (jbC x ++ [.int .i64 x.s, .int .i64 x.n])[j]? from rfl, List.getElem?_append_left hj]
    exact hv
  have ha : (isAgg 37).run Try.prog W = .ok true W := by
    unfold isAgg
    rw [Sem.run_bind, run_underlying Try.underlying37 W]
    simp
  unfold execOp
  simp only [ho, hy, Instr.loadAt, Instr.sureAddr, Sem.run_bind, Sem.run_pure, Result.andThen_ok, loadVar, ha, if_true, Try.sizeOf37, hl]
theorem jbA_one (x : Wt) : (jbA x).all (·.oneCell') = true := by simp [jbA, Value.oneCell']
theorem all_f (p : Nat) (R : List Int) (L : List Wt) (w0 w : World) (h : QuIn w0 w p R L) :
    Calls Try.prog 14 #[.pointer (some ⟨p, 0, none⟩)] w fun e w' => ∃ A c, e = .returned (.slice A (QL.allL R.length L).length c) ∧ Wts w' w'.heap.size A (QL.allL R.length L) ∧ (∀ b off, A = some ⟨b, off, none⟩ → w.heap.size ≤ b) ∧ Below w.heap.size w w' := by
  obtain ⟨F, h1, _⟩ := h.ex
  refine (all_q p F R L w h1).mono ?_
  rintro e w' ⟨A, c, rfl, ho, hb⟩
  have hh := els_own wtC_len ho rfl
  exact ⟨A, c, rfl, hh.1, fun b off e => (hh.2 b off e).1, hb⟩
end Go.Proofs.Ytdeniikaddlifaa
