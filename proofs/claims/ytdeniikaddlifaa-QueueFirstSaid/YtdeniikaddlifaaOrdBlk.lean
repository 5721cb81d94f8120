/- A block of waits, told by their places in a list; a wait loaded, a wait stored. -/
import Derived.Laws.CopyRow
import Derived.Test.YtdeniikaddlifaaPackMath
import Derived.Test.YtdeniikaddlifaaHeldTo
import Derived.Test.YtdeniikaddlifaaOrdRank
namespace Go.Proofs.Ytdeniikaddlifaa
open Go.RowKit
open PK
section
variable {P : Program} {ops : Array Oper} {Q : Exit → Act → World → Prop} {md : Region.Mode} {S : World → Prop} {c : Nat}
theorem until_free_first {i : Nat} {oi : Oper} {v : Value} (hi : ops[i]? = some oi) (hsel : ∀ (j : Nat) (o : Oper) cs b, ops[j]? = some o → o.op ≠ .select cs b)
    (hQ : ∀ ch a w, Q (.panic ch) (a.put oi.dst v) w → Q (.panic ch) a w) (hic : i ≠ c) :
    ∀ (f : Nat) (listed : Array Bool) (a : Act) (w : World),
      (∀ j oj, ops[j]? = some oj → j ≠ i → listed.getD j true = false → (∀ e ∈ oj.after, Region.binds md e = true → e.on ≠ i) → oi.apart ops oj = true) →
      i ∈ Region.ready md ops listed → YieldsIf P ops (fun _ => True) oi v a → ((listed.setIfInBounds i true).getD c true = false → S w) →
      wpUntil P md ops Q S c f (listed.setIfInBounds i true) (a.put oi.dst v) w → wpUntil P md ops Q S c (f + 1) listed a w
  | 0, listed, a, w => fun _ hr hy hS H => by
    refine ⟨fun h => (by rw [h] at hr; cases hr), fun j hj => ?_⟩
    by_cases hji : j = i
    · subst hji; exact hy.wpOp hi trivial ⟨hS, H⟩
    · have := ready_mono hj hji
      rw [H.1] at this
      cases this
  | f + 1, listed, a, w => fun hfree hr hy hS H => by
    refine ⟨fun h => (by rw [h] at hr; cases hr), fun j hj => ?_⟩
    by_cases hji : j = i
    · subst hji; exact hy.wpOp hi trivial ⟨hS, H⟩
    · have hun := (mem_ready.1 hr).1
      obtain ⟨hjun, oj, hoj, hall⟩ := mem_ready.1 hj
      have hnot : ∀ e ∈ oj.after, Region.binds md e = true → e.on ≠ i := fun e he hb heq => by
        have h1 := hall e he hb
        rw [heq, getD_both hun] at h1
        cases h1
      have h1 := H.2 j (ready_mono hj hji)
      have h2 := wpOp_putIf hoj (hfree j oj hoj hji hjun hnot) (fun cs b => hsel i oi cs b hi) (fun cs b => hsel j oj cs b hoj) hQ hy h1
      have hc3 : (listed.setIfInBounds j true).getD c true = false → ((listed.setIfInBounds i true).setIfInBounds j true).getD c true = false := fun h => by
        by_cases hjc : j = c
        · subst hjc
          have e : (listed.setIfInBounds j true).getD j true = true := by
            by_cases hl : j < listed.size
            · simp [Array.getD, hl]
            · simp [Array.getD, hl]
          rw [e] at h
          cases h
        · rw [getD_set_ne true hjc] at h
          rw [getD_set_ne true hjc, getD_set_ne true hic]; exact h
      refine wpOp_mono (fun a' w' h3 => ⟨fun hh => h3.2.1 (hc3 hh), until_free_first hi hsel hQ hic f (listed.setIfInBounds j true) a' w' ?_ (ready_mono hr (Ne.symm hji)) h3.1 ?_ ?_⟩) h2
      · intro k ok hk hki hku hno
        refine hfree k ok hk hki ?_ hno
        by_cases hjk : j = k
        · subst hjk; exact hjun
        · rw [getD_set_ne true hjk] at hku; exact hku
      · intro hh
        rw [Array.setIfInBounds_comm _ _ hji] at hh
        exact h3.2.1 hh
      · rw [Array.setIfInBounds_comm _ _ hji]
        exact h3.2.2
/-- Number i first: it yields v in every world, whatever number c does. -/
theorem until_free (i t : Nat) {oi : Oper} {v : Value} {f : Nat} {listed : Array Bool} {a : Act} {w : World} (hi : ops[i]? = some oi) (ht : oi.dst = some t)
    (hs : Region.noSelect ops = true) (hf : Region.free md ops listed i = true) (hr : (Region.ready md ops listed).contains i = true) (hic : (i != c) = true)
    (hQ : ∀ ch a w, Q (.panic ch) (a.put (some t) v) w → Q (.panic ch) a w) (hy : Region.wanted oi (yielded ops a.tmps) = true ∧ ∀ w, (execOp a.eval oi).run P w = .ok (.value v) w) (hS : (listed.setIfInBounds i true).getD c true = false → S w)
    (h : wpUntil P md ops Q S c f (listed.setIfInBounds i true) (a.put (some t) v) w) : wpUntil P md ops Q S c (f + 1) listed a w := by
  rw [← ht] at hQ h
  exact until_free_first hi (Region.noSelect_spec hs) hQ (by simpa using hic) f listed a w (Region.free_spec hi hf) (by simpa using hr) (.inl ⟨hy.1, fun w _ => hy.2 w⟩) hS h
end
/-- A block that holds waits, each told by its place in a list: those of E. -/
def WBlk (E : Nat → Wt) (w : World) (g : Nat) (L : List Nat) : Prop :=
  ∃ cur : Array Value, w.heap[g]? = some (.cells cur 39 (0, 0)) ∧ L.length * 10 ≤ cur.size ∧ cur.toList.take (L.length * 10) = L.flatMap fun i => wtC (E i)
section
variable {E : Nat → Wt} {w w' : World} {g : Nat} {L : List Nat}
theorem WBlk.lt (h : WBlk E w g L) : g < w.heap.size := by obtain ⟨cur, h1, _⟩ := h; exact blk_lt h1
theorem WBlk.of (h : WBlk E w g L) (e : w'.heap[g]? = w.heap[g]?) : WBlk E w' g L := by obtain ⟨cur, h1, h2⟩ := h; exact ⟨cur, e.trans h1, h2⟩
theorem WBlk.keep (h : WBlk E w g L) {B : Nat} (hg : g < B) (hk : Below B w w') : WBlk E w' g L := h.of (hk.block g hg)
theorem WBlk.at_ (h : WBlk E w g L) {i x : Nat} (hi : L[i]? = some x) : WtAt w g (i * 10) (E x) := by
  obtain ⟨cur, h1, h2, h3⟩ := h
  have hl := lt_of_get hi
  intro r v hr
  have hr10 : r < 10 := by have := (List.getElem?_eq_some_iff.1 hr).1; rwa [wtC_len] at this
  refine cell_blk h1 ?_
  have e : (cur.toList.take (L.length * 10))[i * 10 + r]? = (L.flatMap fun i => wtC (E i))[i * 10 + r]? := by rw [h3]
  rw [List.getElem?_take, if_pos (by omega), flat_get (C := fun i => wtC (E i)) (k := 10) (fun i => wtC_len (E i)) hi hr10, hr] at e
  simpa using e
theorem flat_put (C : Nat → List Value) (hC : ∀ x, (C x).length = 10) : ∀ (L : List Nat) (i x : Nat), i < L.length → (L.set i x).flatMap C = (L.flatMap C).take (i * 10) ++ C x ++ (L.flatMap C).drop (i * 10 + 10)
  | [], i, x, h => by simp at h
  | y :: L, 0, x, _ => by
    rw [List.set_cons_zero, List.flatMap_cons, List.flatMap_cons, Nat.zero_mul, List.take_zero, List.nil_append, Nat.zero_add, List.drop_append, hC, Nat.sub_self, List.drop_zero, List.drop_of_length_le (l := C y) (by rw [hC]; omega), List.nil_append]
  | y :: L, i + 1, x, h => by
    have ih := flat_put C hC L i x (by simpa using h)
    rw [List.set_cons_succ, List.flatMap_cons, ih, List.flatMap_cons, List.take_append, List.drop_append, hC, show (i + 1) * 10 - 10 = i * 10 by omega, show (i + 1) * 10 + 10 - 10 = i * 10 + 10 by omega,
      List.take_of_length_le (l := C y) (by rw [hC]; omega), List.drop_of_length_le (l := C y) (by rw [hC]; omega)]
    simp
/-- A wait is stored at a place of the block. -/
theorem wp_store_wt {oi : Oper} {a : Act} {K : Act → World → Prop} {Q : Exit → Act → World → Prop} {p v : Operand} {i x : Nat} (ho : oi.op = .store 39 p v) (hp : a.eval p = .pointer (some ⟨g, i * 10, none⟩)) (hv : a.eval v = .agg (wtA (E x)))
    (h : WBlk E w g L) (hi : i < L.length) (hK : ∀ w', WBlk E w' g (L.set i x) → Foot (· = g) w w' → K (a.put oi.dst undef) w') : oi.wp Try.prog a w K Q := by
  obtain ⟨cur, h1, h2, h3⟩ := h
  have hst := run_storeCells_at Try.prog g (i * 10) 39 (wtC (E x)) 0 cur w h1 (by rw [wtC_len]; omega) (by simp [wtC, Value.oneCell'])
  rw [wtC_len, Nat.add_zero] at hst
  obtain ⟨cs, hcs⟩ : ∃ cs, cs = (cur.toList.take (i * 10) ++ wtC (E x) ++ cur.toList.drop (i * 10 + 10)).toArray := ⟨_, rfl⟩
  rw [← hcs] at hst
  have hb := setRow_heap w g cur cs _ _ h1
  have hrun : (execOp a.eval oi).run Try.prog w = .ok .skip (w.setRow g cs) := by
    unfold execOp
    have hsz : (wtA (E x)).size = 10 := rfl
    have hl : (wtA (E x)).toList = wtC (E x) := rfl
    simp only [ho, hp, hv, Instr.storeAt, Instr.sureAddr, Sem.run_bind, Sem.run_pure, Result.andThen_ok, storeVar, Try.sizeOf39, Value.cells, hsz, hl, ne_eq, not_true_eq_false, if_false, hst]
  unfold Oper.wp
  rw [hrun, Oper.upon_skip]
  refine hK _ ⟨cs, hb, ?_, ?_⟩ ⟨rfl, rfl, rfl, by simp, fun k _ hk => setRow_other w g k cs hk⟩
  · rw [hcs, List.length_set]
    simp [wtC_len]
    omega
  · rw [List.length_set, flat_put (fun i => wtC (E i)) (fun i => wtC_len (E i)) L i x hi, ← h3, hcs]
    have e1 : i * 10 + 10 ≤ L.length * 10 := by omega
    rw [List.take_take, Nat.min_eq_left (by omega)]
    simp only
    rw [List.append_assoc, List.append_assoc, List.take_append, List.take_append, List.length_take, wtC_len]
    have h4 : min (i * 10) cur.toList.length = i * 10 := Nat.min_eq_left (by simp; omega)
    rw [h4, List.take_take, Nat.min_eq_right (by omega), List.take_of_length_le (l := wtC (E x)) (by rw [wtC_len]; omega), List.drop_take, show L.length * 10 - i * 10 - 10 = L.length * 10 - (i * 10 + 10) by omega]
end
/-- The closure of the sort: what it answers of two waits, in whatever world the sort passes through. -/
def CmpW (E : Nat → Wt) (g n : Nat) (v0 : Value) (cv : Nat → Nat → Int) (w0 : World) : Prop :=
  ∀ W, Foot (· = g) w0 W → ∀ x y, x < n → y < n → Calls Try.prog 52 #[.agg (wtA (E x)), .agg (wtA (E y)), v0] W fun e w' => e = .returned (.int .i64 (cv x y)) ∧ Below W.heap.size W w'
theorem CmpW.at_ {E : Nat → Wt} {g n : Nat} {v0 : Value} {cv : Nat → Nat → Int} {w0 w W : World} (h : CmpW E g n v0 cv w0) (h0 : Foot (· = g) w0 w) (hW : Foot (· = g) w W) {x y : Nat} (hx : x < n) (hy : y < n) :
    Calls Try.prog 52 #[.agg (wtA (E x)), .agg (wtA (E y)), v0] W fun e w' => e = .returned (.int .i64 (cv x y)) ∧ Below W.heap.size W w' := h _ (h0.trans hW fun _ h => .inl h) x y hx hy
end Go.Proofs.Ytdeniikaddlifaa
