/- Queues beside a map of numbers; how often an Id is there. -/
import Derived.Test.YtdeniikaddlifaaMapOf
import Derived.Test.YtdeniikaddlifaaQuAwake
set_option linter.unusedVariables false
set_option maxRecDepth 100000
namespace Go.Proofs.Ytdeniikaddlifaa
open Go.RowKit
theorem hKeyQ : Try.prog.underlying 3 = some (.int .i64) := Try.underlying3
theorem hTyQ : Try.prog.underlying 55 = some (.map 3 3) := Try.underlying55
theorem turnedQ {w w' : World} {m : Nat} (h : w.mapTurned w' m) : Foot (· = m) w w' := (Foot.refl (· = m) w).grown h.grown fun k hk => by injection hk with hk; exact .inl hk.symm
namespace QL
def cI (L : List Wt) (x : Int) : Int := if hasI L x then 1 else 0
theorem hasI_add {L : List Wt} {x : Wt} {y : Int} : hasI (L ++ [x]) y = (hasI L y || decide (x.id = y)) := by
  unfold hasI; rw [List.any_append]; simp
theorem hasI_drop {L : List Wt} {id y : Int} : hasI (dropI L id) y = (hasI L y && !decide (y = id)) := by
  by_cases e : hasI L y = true ∧ y ≠ id
  · obtain ⟨e1, e2⟩ := e
    rw [e1, show decide (y = id) = false from decide_eq_false e2]
    obtain ⟨x, hx, hi⟩ := hasI_true.1 e1
    exact hasI_true.2 ⟨x, List.mem_filter.2 ⟨hx, by simp; rw [hi]; exact e2⟩, hi⟩
  · have h1 : hasI (dropI L id) y = false := by
      rw [hasI_false]
      intro x hx hi
      obtain ⟨h1, h2⟩ := List.mem_filter.1 hx
      exact e ⟨hasI_true.2 ⟨x, h1, hi⟩, by rw [← hi]; simpa using h2⟩
    rw [h1]
    cases h2 : hasI L y with
    | false => rfl
    | true =>
      have : y = id := by
        by_cases h3 : y = id
        · exact h3
        · exact absurd ⟨h2, h3⟩ e
      simp [this]
theorem mem_all {n : Nat} {L : List Wt} {x : Wt} (h : x ∈ allL n L) : x ∈ L := by
  unfold allL at h
  obtain ⟨k, _, hk⟩ := List.mem_flatMap.1 h
  exact (mem_row.1 hk).1
theorem nodup_len : ∀ {A B : List Int}, A.Nodup → B.Nodup → (∀ x, x ∈ A ↔ x ∈ B) → A.length = B.length
  | [], B, _, _, h => by
    cases B with
    | nil => rfl
    | cons b B => exact absurd ((h b).2 (List.mem_cons_self ..)) (by simp)
  | a :: A, B, ha, hb, h => by
    obtain ⟨h1, h2⟩ := List.nodup_cons.1 ha
    have hm : a ∈ B := (h a).1 (List.mem_cons_self ..)
    have ih := nodup_len (A := A) (B := B.erase a) h2 (hb.erase a) fun x => by
      rw [hb.mem_erase_iff]
      constructor
      · intro hx
        exact ⟨fun e => h1 (e ▸ hx), (h x).1 (List.mem_cons_of_mem _ hx)⟩
      · rintro ⟨e, hx⟩
        rcases List.mem_cons.1 ((h x).2 hx) with e2 | e2
        · exact absurd e2 e
        · exact e2
    have hl := List.length_erase_of_mem hm
    have hp : 0 < B.length := List.length_pos_of_mem hm
    rw [List.length_cons, ih, hl]; omega
theorem seen_sum {R : List Int} {L : List Wt} (hI : Inv R L) {seen : List Int} (hn : seen.Nodup) (h : ∀ x ∈ L, x.id ∈ seen) : (seen.filter fun x => hasI L x).length = L.length := by
  rw [show L.length = (L.map fun x : Wt => x.id).length by simp]
  refine nodup_len (hn.filter _) ?_ fun x => ?_
  · exact List.pairwise_map.2 hI.id
  · rw [List.mem_filter, List.mem_map]
    constructor
    · rintro ⟨_, h2⟩
      obtain ⟨y, hy, e⟩ := hasI_true.1 h2
      exact ⟨y, hy, e⟩
    · rintro ⟨y, hy, e⟩
      exact ⟨by rw [← e]; exact h y hy, hasI_true.2 ⟨y, hy, e⟩⟩
theorem rows_sum (x : Wt) (L : List Wt) : ∀ n : Nat, (allL n (x :: L)).length = (allL n L).length + if 0 ≤ x.q ∧ x.q < (n : Int) then 1 else 0
  | 0 => by simp [allL]
  | n + 1 => by
    rw [allL_next, allL_next, List.length_append, List.length_append, rows_sum x L n]
    have : (rowL (x :: L) n).length = (rowL L n).length + if x.q = (n : Int) then 1 else 0 := by
      unfold rowL
      rw [List.filter_cons]
      by_cases e : x.q = (n : Int)
      · simp [e]
      · simp [e]
    rw [this]
    by_cases e : x.q = (n : Int)
    · rw [if_pos e, if_neg (by omega), if_pos (by omega)]; omega
    · rw [if_neg e]
      by_cases e2 : 0 ≤ x.q ∧ x.q < (n : Int)
      · rw [if_pos e2, if_pos (by omega)]; omega
      · rw [if_neg e2, if_neg (by omega)]; omega
theorem all_len (n : Nat) : ∀ L : List Wt, (∀ x ∈ L, 0 ≤ x.q ∧ x.q < (n : Int)) → (allL n L).length = L.length
  | [], _ => by
    induction n with
    | zero => rfl
    | succ n ih => rw [allL_next, List.length_append, ih (by simp)]; rfl
  | x :: L, h => by
    rw [rows_sum, all_len n L fun y hy => h y (List.mem_cons_of_mem _ hy), if_pos (h x (List.mem_cons_self ..))]; rfl
end QL
/-- A map of numbers, by what it tells of each. -/
def TellsI (f : Int → Option Value) (c : Int → Int) : Prop := ∀ x : Int, (f x).getD (.int .i64 0) = .int .i64 (c x)
structure QuMap (w0 w : World) (p m n : Nat) (f : Int → Option Value) (R : List Int) (L : List Wt) : Prop where
  ex : ∃ F, QuObj w p F R L ∧ (∀ i, F i → w0.heap.size ≤ i) ∧ ¬ F m
  map : MapOf Try.prog 3 w m n f
  lo : w0.heap.size ≤ m
  b : Below w0.heap.size w0 w
section
variable {w0 w w' : World} {p m n n' : Nat} {f f' : Int → Option Value} {R : List Int} {L : List Wt}
theorem QuMap.inq (h : QuMap w0 w p m n f R L) : QuIn w0 w p R L := by
  obtain ⟨F, h1, h2, _⟩ := h.ex
  exact ⟨⟨F, h1, h2⟩, h.b⟩
theorem QuMap.keep (h : QuMap w0 w p m n f R L) (hk : Below w.heap.size w w') : QuMap w0 w' p m n f R L := by
  obtain ⟨F, h1, h2, h3⟩ := h.ex
  exact ⟨⟨F, h1.keep hk, h2, h3⟩, h.map.of_block (hk.block m h.map.lt), h.lo, below_step h.b hk⟩
theorem QuMap.turned (h : QuMap w0 w p m n f R L) (hm : MapOf Try.prog 3 w' m n' f') (ht : w.mapTurned w' m) : QuMap w0 w' p m n' f' R L := by
  obtain ⟨F, h1, h2, h3⟩ := h.ex
  have hf := turnedQ ht
  exact ⟨⟨F, h1.of fun i hi => hf.block i (h1.lt i hi) (fun e => h3 (by rw [← e]; exact hi)), h2, h3⟩, hm, h.lo, h.b.trans (hf.below h.b.size fun i hi => by rw [hi]; exact h.lo)⟩
theorem QuMap.made (h : QuIn w0 w p R L) : QuMap w0 (w.alloc (.map #[] 0)) p w.heap.size 0 (fun _ => none) R L := by
  obtain ⟨F, h1, h2⟩ := h.ex
  have hb := (Below.refl w.heap.size w).alloc (Nat.le_refl _) (.map #[] 0)
  exact ⟨⟨F, h1.keep hb, h2, fun e => Nat.lt_irrefl _ (h1.lt _ e)⟩, MapOf.new _ _ w, h.b.size, below_step h.b hb⟩
theorem QuMap.look (h : QuMap w0 w p m n f R L) {c : Int → Int} (hc : TellsI f c) {x : Int} (hx : (Lit.int .i64 x).wf = true) :
    (Instr.lookup 55 (.map (some m)) (.int .i64 x) false).run Try.prog w = .ok (.int .i64 (c x)) w := by
  have := (h.map.look hKeyQ hTyQ (z := .int .i64 0) (fun w => Try.zeroValue3 w) hx).2
  rwa [hc x] at this
theorem QuMap.put (h : QuMap w0 w p m n f R L) (hn : n < 100000) (v : Int) {x : Int} (hx : (Lit.int .i64 x).wf = true) :
    ∃ w' n', (Instr.mapUpdate 55 (.map (some m)) (.int .i64 x) (.int .i64 v)).run Try.prog w = .ok () w' ∧ n' ≤ n + 1 ∧ QuMap w0 w' p m n' (fun y => if y = x then some (.int .i64 v) else f y) R L ∧ Foot (· = m) w w' := by
  obtain ⟨w', h1, h2, h3⟩ := h.map.store hKeyQ hTyQ (by unfold maxLen; omega) (.int .i64 v) hx
  exact ⟨w', _, h1, by split <;> omega, h.turned h2 h3, turnedQ h3⟩
end
theorem do_m (p m n : Nat) (f : Int → Option Value) (R : List Int) (L : List Wt) (a : Qk) (w0 w : World) (h : QuMap w0 w p m n f R L) :
    Calls Try.prog 11 #[.pointer (some ⟨p, 0, none⟩), qkV a] w fun e w' => e = .returned (.tuple #[wtV (QL.doW L a), .int .i64 (QL.doE R L a)]) ∧ QuMap w0 w' p m n f R (QL.doL R L a) := by
  obtain ⟨F, h1, h2, h3⟩ := h.ex
  refine (do_q p F R L a w h1).mono ?_
  rintro e w' ⟨rfl, F', g1, g2, g3⟩
  refine ⟨rfl, ⟨F', g1, fun i hi => ?_, fun e => ?_⟩, h.map.of_block (g2.block m h.map.lt h3), h.lo, h.b.trans (g2.below h.b.size h2)⟩
  · rcases g3 i hi with e | e
    · exact h2 i e
    · exact Nat.le_trans h.b.size e
  · rcases g3 m e with e | e
    · exact h3 e
    · have := h.map.lt; omega
end Go.Proofs.Ytdeniikaddlifaa
