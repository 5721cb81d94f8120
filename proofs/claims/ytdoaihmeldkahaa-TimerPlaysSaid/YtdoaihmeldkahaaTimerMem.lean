/- A timer in memory: a map from ids to ticks; a heap of entries, its cells; one entry against another one. -/
import Derived.Maps.OwnSet
import Derived.Deep.AppendLies
import Derived.Handy
import Derived.StillTactics
import Derived.StillTailTactics
import Derived.Deep.DrawnRows
import Derived.BigRegion
import Derived.RegionTactic
import Derived.Deep.QuietTactic
import Derived.BigQuiet
import Derived.Test.YtdoaihmeldkahaaElem
import Derived.Test.YtdoaihmeldkahaaHeldOn
import Derived.Test.YtdoaihmeldkahaaTimerMath
import Derived.Test.YtdoaihmeldkahaaProg
set_option linter.unusedVariables false
namespace Go.Proofs.Ytdoaihmeldkahaa
open Go.RowKit

/-! ### A map from ids to ticks -/
abbrev tWorld (w : World) (m n : Nat) (D : DataW Unit) : Prop := w.ownsMap Try.prog 3 (plainElem Try.prog 3) m n D
def TMap (w : World) (m n : Nat) (f : Int → Option Int) : Prop :=
  ∃ D : DataW Unit, tWorld w m n D ∧ Maps.size D = n ∧ ∀ x : Int, (Lit.int .i64 x).wf = true → D.atKey (.int .i64 x) (.lit (.int .i64 0)) = .lit (.int .i64 ((f x).getD 0)) ∧ Maps.has D (.int .i64 x) = (f x).isSome
theorem intKeysT : Maps.Keyed Try.prog 3 := Maps.int_keyed Try.underlying3
theorem mapType : Try.prog.underlying 54 = some (.map 3 3) := Try.underlying54
theorem intKeyT {x : Int} (h : (Lit.int .i64 x).wf = true) : keyOf Try.prog 3 (.int .i64 x) = some (.int .i64 x) := Maps.keyOf_int_mk Try.underlying3 h
theorem isKeyT {x : Int} (_ : (Lit.int .i64 x).wf = true) : WideAt.IsKeyLit (.int .i64 x) := trivial
theorem intElem {x : Int} (h : (Lit.int .i64 x).wf = true) : plainElem (H := Unit) Try.prog 3 (.int .i64 x) = some (.lit (.int .i64 x), []) := plainElem_int Try.underlying3 h
theorem intElem_inv {v : Value} {x : Int} {ps : List MemPlace} (h : plainElem (H := Unit) Try.prog 3 v = some (.lit (.int .i64 x), ps)) : v = .int .i64 x := by
  obtain ⟨a, rfl, e, _⟩ := plainElem_int_inv Try.underlying3 h
  simp at e
  rw [e.1]
theorem zeroInt (w : World) : (zeroValue 3).run Try.prog w = .ok (.int .i64 0) w := by kernel_rfl
section
variable {w w' : World} {m n : Nat} {f : Int → Option Int}
theorem TMap.lt (h : TMap w m n f) : m < w.heap.size := by
  obtain ⟨D, h1, _⟩ := h
  exact h1.lt
theorem TMap.of_block (h : TMap w m n f) (e : w'.heap[m]? = w.heap[m]?) : TMap w' m n f := by
  obtain ⟨D, ⟨es, clock, hb, r⟩, h2⟩ := h
  exact ⟨D, ⟨es, clock, e.trans hb, r⟩, h2⟩
theorem TMap.kind (h : TMap w m n f) : ∃ es clock, w.heap[m]? = some (.map es clock) := by
  obtain ⟨D, ⟨es, clock, hb, r⟩, h2⟩ := h
  exact ⟨es, clock, hb⟩
theorem TMap.new (w : World) : TMap (w.alloc (.map #[] 0)) w.heap.size 0 fun _ => none :=
  ⟨_, World.ownsMap_made w _ _ _, rfl, fun x _ => ⟨rfl, rfl⟩⟩
theorem TMap.len (h : TMap w m n f) (ty : TypeId) : (Builtin.len_ #[54] ty #[.map (some m)]).run Try.prog w = .ok (.int .i64 (n : Nat)) w := by
  obtain ⟨D, h1, h2, _⟩ := h
  have := h1.len mapType ty
  rwa [h2] at this
theorem TMap.look (h : TMap w m n f) {x : Int} (hx : (Lit.int .i64 x).wf = true) :
    (Instr.lookup 54 (.map (some m)) (.int .i64 x) true).run Try.prog w = .ok (.tuple #[.int .i64 ((f x).getD 0), .bool (f x).isSome]) w := by
  obtain ⟨D, h1, h2, h3⟩ := h
  obtain ⟨v, ps, hrun, hv⟩ := h1.look_ok intKeysT mapType (zeroInt w) (intElem (x := 0) (by decide)) (intKeyT hx)
  rw [(h3 x hx).1] at hv
  rw [intElem_inv hv, (h3 x hx).2] at hrun
  exact hrun
theorem TMap.store (h : TMap w m n f) {x k : Int} (hx : (Lit.int .i64 x).wf = true) (hk : (Lit.int .i64 k).wf = true) (hf : f x = none) (hn : n ≤ 5000) :
    ∃ w', (Instr.mapUpdate 54 (.map (some m)) (.int .i64 x) (.int .i64 k)).run Try.prog w = .ok () w' ∧ TMap w' m (n + 1) (fun y => if y = x then some k else f y) ∧ w.mapTurned w' m := by
  obtain ⟨D, h1, h2, h3⟩ := h
  obtain ⟨w', hrun, r1, r2⟩ := h1.store intKeysT mapType (by unfold maxLen; omega) (intKeyT hx) (intElem hk)
  have hno : Maps.has D (.int .i64 x) = false := by rw [(h3 _ hx).2, hf]; rfl
  refine ⟨w', hrun, ⟨_, r1, by rw [Maps.size_put (h1.tidy intKeysT), hno, h2]; rfl, fun y hy => ?_⟩, r2⟩
  by_cases e : y = x
  · subst e
    simp only [if_true]
    exact ⟨Maps.atKey_put_same h1.isMap (isKeyT hx) _ _, Maps.has_put_same h1.isMap (isKeyT hx) _⟩
  · simp only [if_neg e]
    have ne : (Lit.int .i64 y) ≠ .int .i64 x := fun h => e (by injection h)
    rw [Maps.atKey_put_other ne, Maps.has_put_other ne]
    exact h3 y hy
theorem TMap.drop (h : TMap w m (n + 1) f) {x k : Int} (hx : (Lit.int .i64 x).wf = true) (hf : f x = some k) :
    ∃ w', (∀ ty, (Builtin.delete_ #[54, 3] ty #[.map (some m), .int .i64 x]).run Try.prog w = .ok (.tuple #[]) w') ∧ TMap w' m n (fun y => if y = x then none else f y) ∧ w.mapTurned w' m := by
  obtain ⟨D, h1, h2, h3⟩ := h
  obtain ⟨w', hrun, r1, r2⟩ := h1.drop intKeysT mapType (intKeyT hx) 0
  have hyes : Maps.has D (.int .i64 x) = true := by rw [(h3 _ hx).2, hf]; rfl
  have hsz := Maps.size_del (h1.tidy intKeysT) (k := .int .i64 x)
  rw [hyes] at hsz
  simp at hsz
  have hsz' : Maps.size (D.del (.int .i64 x)) = n := by omega
  obtain ⟨es, clock, e1, e2, e3, e4⟩ := r1
  refine ⟨w', fun ty => ?_, ⟨_, ⟨es, clock, e1, e2, ?_, e4⟩, hsz', fun y hy => ?_⟩, r2⟩
  · obtain ⟨w3, hrun3, _⟩ := h1.drop intKeysT mapType (intKeyT hx) ty
    exact hrun
  · rw [e4] at hsz'
    simp [Maps.size, length_sorted] at hsz'
    omega
  by_cases e : y = x
  · subst e
    simp only [if_true]
    exact ⟨Maps.atKey_del_same _, Maps.has_del_same⟩
  · simp only [if_neg e]
    have ne : (Lit.int .i64 y) ≠ .int .i64 x := fun h => e (by injection h)
    rw [Maps.atKey_del_other ne, Maps.has_del_other ne]
    exact h3 y hy
end

/-! ### A heap's cells -/
def enC (x : En) : List Value := [.int .i64 x.i, .int .i64 x.k]
def enV (x : En) : Value := .agg #[.int .i64 x.i, .int .i64 x.k]
theorem enC_len (x : En) : (enC x).length = 2 := rfl
theorem enC_one (x : En) : ∀ v ∈ enC x, v.oneCell' = true := by simp [enC, Value.oneCell']
/-- A heap: its object at block p (behind it u), its slice v. -/
structure HpAt (w : World) (p : Nat) (u v : Value) (H : List En) : Prop where
  obj : w.heap[p]? = some (.cells #[v, u] 59 (0, 0))
  row : w.ownsRow 0 62 2 v H.length (H.flatMap enC)
  few : H.length ≤ 5000
theorem flat_set : ∀ {l : List En} {k : Nat} {x : En} (y : En), l[k]? = some x → (l.set k y).flatMap enC = ((l.flatMap enC).set (k * 2) (.int .i64 y.i)).set (k * 2 + 1) (.int .i64 y.k)
  | [], _, _, _, h => by simp at h
  | z :: l, 0, x, y, h => by simp [enC]
  | z :: l, k + 1, x, y, h => by
    have ih := flat_set y (l := l) (k := k) (x := x) (by simpa using h)
    rw [List.set_cons_succ, List.flatMap_cons, ih, List.flatMap_cons, show (k + 1) * 2 = k * 2 + 2 by omega, show k * 2 + 2 + 1 = k * 2 + 1 + 2 by omega]
    simp [enC]
section
variable {w w' : World} {p : Nat} {u v : Value} {H : List En}
theorem HpAt.ne (h : HpAt w p u v H) : ∀ i, v.ownBlock = some i → i ≠ p := fun i hi e => by
  rcases h.row.2 with ⟨h1, _⟩ | ⟨g, cap, cur, rfl, _, hg, _⟩
  · rw [h1] at hi; cases hi
  · injection hi with hi
    have h2 := h.obj
    simp only at hi
    rw [← e, ← hi, hg] at h2
    injection h2 with h2; injection h2 with _ ht; exact absurd ht (by decide)
theorem HpAt.lt (h : HpAt w p u v H) : p < w.heap.size ∧ ∀ i, v.ownBlock = some i → i < w.heap.size := ⟨blk_lt h.obj, fun i hi => (h.row.lt i hi).2⟩
theorem HpAt.off (h : HpAt w p u v H) (hk : ∀ i, i < w.heap.size → (i = p ∨ v.ownBlock = some i) → w'.heap[i]? = w.heap[i]?) : HpAt w' p u v H :=
  ⟨(hk p h.lt.1 (.inl rfl)).trans h.obj, own_stays h.row fun i hi => hk i (h.lt.2 i hi) (.inr hi), h.few⟩
theorem HpAt.keep (h : HpAt w p u v H) (hk : Below w.heap.size w w') : HpAt w' p u v H := h.off fun i hi _ => hk.block i hi
theorem HpAt.foot {F : Nat → Prop} (h : HpAt w p u v H) (hk : Foot F w w') (hF : ∀ i, F i → i ≠ p ∧ v.ownBlock ≠ some i) : HpAt w' p u v H := h.off fun i hi ht => hk.block i hi fun hf => by
  obtain ⟨a, b⟩ := hF i hf
  rcases ht with e | e
  · exact a e
  · exact b e
theorem HpAt.drew (h : HpAt w p u v H) : HpAt w.drew p u v H := ⟨h.obj, h.row.drew, h.few⟩
theorem HpAt.head (h : HpAt w p u v H) : w.cell? ⟨p, 0, none⟩ = some v ∧ w.frozen? ⟨p, 0, none⟩ = false := ⟨cell_blk (i := 0) h.obj rfl, frozen_blk h.obj⟩
theorem HpAt.form (h : HpAt w p u v H) (hn : 0 < H.length) : ∃ g cap, v = .slice (some ⟨g, 0, none⟩) H.length cap ∧ g < w.heap.size ∧ g ≠ p := by
  obtain ⟨g, cap, rfl, _, hg⟩ := h.row.form hn
  exact ⟨g, cap, rfl, hg, h.ne g rfl⟩
theorem HpAt.cells {g cap : Nat} (h : HpAt w p u (.slice (some ⟨g, 0, none⟩) H.length cap) H) {i : Nat} {x : En} (hx : H[i]? = some x) :
    w.cell? ⟨g, i * 2, none⟩ = some (.int .i64 x.i) ∧ w.cell? ⟨g, i * 2 + 1, none⟩ = some (.int .i64 x.k) ∧ w.frozen? ⟨g, i * 2, none⟩ = false ∧ w.frozen? ⟨g, i * 2 + 1, none⟩ = false := by
  have hi := (List.getElem?_eq_some_iff.1 hx).1
  refine ⟨?_, ?_, h.row.frozenAt _, h.row.frozenAt _⟩
  · rw [h.row.cellAt _ (by omega)]
    have := flat_get enC_len hx (show 0 < 2 by omega)
    simpa [enC] using this
  · rw [h.row.cellAt _ (by omega)]
    have := flat_get enC_len hx (show 1 < 2 by omega)
    simpa [enC] using this
/-- One entry is written anew. -/
theorem HpAt.put {g cap i : Nat} (h : HpAt w p u (.slice (some ⟨g, 0, none⟩) H.length cap) H) (y : En) (hi : i < H.length) :
    HpAt ((w.setCell ⟨g, i * 2, none⟩ (.int .i64 y.i)).setCell ⟨g, i * 2 + 1, none⟩ (.int .i64 y.k)) p u (.slice (some ⟨g, 0, none⟩) H.length cap) (H.set i y) := by
  obtain ⟨x, hx⟩ := get_lt hi
  have hg := h.ne g rfl
  have h1 := (h.row.stored (i * 2) (.int .i64 y.i)).1
  have h2 := (h1.stored (i * 2 + 1) (.int .i64 y.k)).1
  refine ⟨?_, by rw [flat_set y hx, List.length_set]; exact h2, by rw [List.length_set]; exact h.few⟩
  rw [Below.heap_setCell _ _ _ p (Ne.symm hg), Below.heap_setCell _ _ _ p (Ne.symm hg)]
  exact h.obj
end
theorem ahead_fn (a b : Int) (W : World) : ∀ n, n = Try.prog.types.size + Made.depth → (method n 62 (.agg #[.int .i64 a, .int .i64 b]) "ensemble/timer.ahead").run Try.prog W = .ok (43, .agg #[.int .i64 a, .int .i64 b]) W := by
  intro n hn; subst hn; kernel_rfl
/-- Whether one entry comes ahead of another one. -/
theorem ahead_any (x y : En) (w : World) : Calls Try.prog 43 #[enV x, enV y] w fun e w' => e = .returned (.bool (TM.ltB x y)) ∧ Below w.heap.size w w' := by
  obtain ⟨R, hR⟩ : ∃ R, R = TM.ltB x y := ⟨_, rfl⟩
  rw [← hR]
  obtain ⟨a, b⟩ := x
  obtain ⟨c, d⟩ := y
  simp only [enV, TM.ltB] at *
  have hB := Lib.hid ((((Below.refl w.heap.size w).alloc (Nat.le_refl _) (.cells #[.int .i64 b, .int .i64 a] 62)).alloc (by simp) (.cells #[.int .i64 d, .int .i64 c] 62)))
  by_cases e : a = c
  · subst e
    have t0 : (a != a) = false := by simp
    have eR : R = decide (b < d) := by rw [hR]; simp
    subst eR
    clear hR
    go_enter Try.func43, Try.ntmps43
    go_wp2
    go_ret
    exact ⟨rfl, hB.out⟩
  · have t0 : (a != c) = true := by simpa using e
    have eR : R = decide (a < c) := by rw [hR, decide_eq_false e]; simp
    subst eR
    clear hR
    go_enter Try.func43, Try.ntmps43
    go_wp2
    go_ret
    exact ⟨rfl, hB.out⟩
end Go.Proofs.Ytdoaihmeldkahaa
