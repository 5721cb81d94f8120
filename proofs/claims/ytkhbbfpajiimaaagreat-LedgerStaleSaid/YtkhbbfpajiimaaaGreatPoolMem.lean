/- A pool in memory: its blocks, its map of drained nodes, what keeps it. -/
import Derived.Maps.OwnSet
import Derived.Test.YtkhbbfpajiimaaaGreatTopoLaws
import Derived.Test.YtkhbbfpajiimaaaGreatPoolMath2
import Derived.Test.YtkhbbfpajiimaaaGreatFoot
namespace Go.Proofs.YtkhbbfpajiimaaaGreat
open Go.RowKit

/-! ### Drained nodes: a map -/
def isDr (dr : List Bool) (x : Int) : Bool := decide (0 ≤ x) && (dr[x.toNat]?.getD false)
theorem isDr_nat (dr : List Bool) (k : Nat) : isDr dr (k : Int) = (dr[k]?.getD false) := by simp [isDr]
theorem isDr_iff (dr : List Bool) (k : Nat) : isDr dr (k : Int) = true ↔ dr[k]? = some true := by
  rw [isDr_nat]; cases h : dr[k]? with
  | none => simp
  | some b => cases b <;> simp
theorem isDr_set (dr : List Bool) (k : Nat) (b : Bool) (hk : k < dr.length) (x : Int) : isDr (dr.set k b) x = if x = (k : Int) then b else isDr dr x := by
  unfold isDr
  by_cases h0 : 0 ≤ x
  · obtain ⟨n, rfl⟩ := Int.eq_ofNat_of_zero_le h0
    simp only [Int.toNat_natCast]
    by_cases e : k = n
    · subst e; simp [hk]
    · rw [List.getElem?_set_ne e, if_neg (by omega)]
  · rw [if_neg (by omega)]; simp [h0]
abbrev dWorld (w : World) (m n : Nat) (D : DataW Unit) : Prop := w.ownsMap Tryz.prog 3 (plainElem Tryz.prog 4) m n D
def Drs (w : World) (m : Nat) (dr : List Bool) : Prop :=
  ∃ D : DataW Unit, dWorld w m (dr.count true) D ∧ Maps.size D = dr.count true ∧ ∀ x : Int, (Lit.int .i64 x).wf = true → D.atKey (.int .i64 x) (.lit (.bool false)) = .lit (.bool (isDr dr x)) ∧ Maps.has D (.int .i64 x) = isDr dr x
theorem intKeys : Maps.Keyed Tryz.prog 3 := Maps.int_keyed Tryz.underlying3
theorem drType : Tryz.prog.underlying 148 = some (.map 3 4) := Tryz.underlying148
theorem intKey {x : Int} (h : (Lit.int .i64 x).wf = true) : keyOf Tryz.prog 3 (.int .i64 x) = some (.int .i64 x) := Maps.keyOf_int_mk Tryz.underlying3 h
theorem boolElem (b : Bool) : plainElem (H := Unit) Tryz.prog 4 (.bool b) = some (.lit (.bool b), []) := plainElem_bool Tryz.underlying4 b
set_option maxRecDepth 100000 in
theorem boolElem_inv {v : Value} {b : Bool} {ps : List MemPlace} (h : plainElem (H := Unit) Tryz.prog 4 v = some (.lit (.bool b), ps)) : v = .bool b := by
  unfold plainElem at h
  rw [Tryz.underlying4] at h
  cases v <;> simp at h
  rw [h.1]
theorem zeroBool (w : World) : (zeroValue 4).run Tryz.prog w = .ok (.bool false) w := by kernel_rfl
theorem Drs.lt {w : World} {m : Nat} {dr : List Bool} (h : Drs w m dr) : m < w.heap.size := by
  obtain ⟨D, h1, _⟩ := h
  exact h1.lt
theorem Drs.of_block {w w' : World} {m : Nat} {dr : List Bool} (h : Drs w m dr) (e : w'.heap[m]? = w.heap[m]?) : Drs w' m dr := by
  obtain ⟨D, ⟨es, clock, hb, r⟩, h2⟩ := h
  exact ⟨D, ⟨es, clock, e.trans hb, r⟩, h2⟩
theorem Drs.new (w : World) (k : Nat) : Drs (w.alloc (.map #[] 0)) w.heap.size (List.replicate k false) := by
  have e : (List.replicate k false).count true = 0 := by rw [List.count_replicate]; simp
  refine ⟨_, by rw [e]; exact World.ownsMap_made w _ _ _, by rw [e]; rfl, fun x _ => ?_⟩
  have e2 : isDr (List.replicate k false) x = false := by
    unfold isDr
    cases h : (List.replicate k false)[x.toNat]? with
    | none => simp
    | some b => have := List.mem_of_getElem? h; simp at this; simp [this.2]
  rw [e2]
  exact ⟨rfl, rfl⟩
theorem Drs.look {w : World} {m : Nat} {dr : List Bool} (h : Drs w m dr) {x : Int} (hx : (Lit.int .i64 x).wf = true) :
    (Instr.lookup 148 (.map (some m)) (.int .i64 x) false).run Tryz.prog w = .ok (.bool (isDr dr x)) w := by
  obtain ⟨D, h1, h2, h3⟩ := h
  obtain ⟨v, ps, hrun, hv⟩ := h1.lookup intKeys drType (zeroBool w) (boolElem false) (intKey hx)
  rw [(h3 x hx).1] at hv
  rw [boolElem_inv hv] at hrun
  exact hrun
theorem count_set {dr : List Bool} {k : Nat} {a b : Bool} (h : dr[k]? = some a) : (dr.set k b).count true + (if a = true then 1 else 0) = dr.count true + (if b = true then 1 else 0) := by
  induction dr generalizing k with
  | nil => simp at h
  | cons c l ih =>
    cases k with
    | zero => simp at h; subst h; cases c <;> cases b <;> simp
    | succ k => have := ih (k := k) (by simpa using h); simp [List.count_cons]; omega
theorem isKeyInt {x : Int} (_ : (Lit.int .i64 x).wf = true) : WideAt.IsKeyLit (.int .i64 x) := trivial
theorem Drs.store {w : World} {m k : Nat} {dr : List Bool} (h : Drs w m dr) (hk : dr[k]? = some false) (hl : dr.length ≤ 1000) :
    ∃ w', (Instr.mapUpdate 148 (.map (some m)) (.int .i64 (k : Nat)) (.bool true)).run Tryz.prog w = .ok () w' ∧ Drs w' m (dr.set k true) ∧ w.mapTurned w' m := by
  obtain ⟨D, h1, h2, h3⟩ := h
  have hkl : k < dr.length := (List.getElem?_eq_some_iff.1 hk).1
  have hw : (Lit.int .i64 (k : Int)).wf = true := wf_nat (by omega)
  have hct : dr.count true ≤ dr.length := List.count_le_length
  obtain ⟨w', hrun, r1, r2⟩ := h1.store intKeys drType (by unfold maxLen; omega) (intKey hw) (boolElem true)
  have hc := count_set (b := true) hk
  simp at hc
  have hno : Maps.has D (.int .i64 (k : Int)) = false := by rw [(h3 _ hw).2, isDr_nat, hk]; rfl
  refine ⟨w', hrun, ⟨_, by rw [hc]; exact r1, by rw [Maps.size_put (h1.tidy intKeys), hno, hc, h2]; rfl, fun x hx => ?_⟩, r2⟩
  rw [isDr_set _ _ _ hkl]
  by_cases e : x = (k : Int)
  · subst e
    rw [if_pos rfl]
    exact ⟨Maps.atKey_put_same h1.isMap (isKeyInt hw) _ _, Maps.has_put_same h1.isMap (isKeyInt hw) _⟩
  · rw [if_neg e]
    have ne : (Lit.int .i64 x) ≠ .int .i64 (k : Int) := fun h => e (by injection h)
    rw [Maps.atKey_put_other ne, Maps.has_put_other ne]
    exact h3 x hx
theorem Drs.drop {w : World} {m k : Nat} {dr : List Bool} (h : Drs w m dr) (hk : dr[k]? = some true) (hl : dr.length ≤ 1000) (ty : TypeId) :
    ∃ w', (Builtin.delete_ #[148, 3] ty #[.map (some m), .int .i64 (k : Nat)]).run Tryz.prog w = .ok (.tuple #[]) w' ∧ Drs w' m (dr.set k false) ∧ w.mapTurned w' m := by
  obtain ⟨D, h1, h2, h3⟩ := h
  have hkl : k < dr.length := (List.getElem?_eq_some_iff.1 hk).1
  have hw : (Lit.int .i64 (k : Int)).wf = true := wf_nat (by omega)
  obtain ⟨w', hrun, r1, r2⟩ := h1.drop intKeys drType (intKey hw) ty
  have hc := count_set (b := false) hk
  simp at hc
  have hyes : Maps.has D (.int .i64 (k : Int)) = true := by rw [(h3 _ hw).2, isDr_nat, hk]; rfl
  have hsz := Maps.size_del (h1.tidy intKeys) (k := .int .i64 (k : Int))
  rw [hyes] at hsz
  simp at hsz
  have hsz' : Maps.size (D.del (.int .i64 (k : Int))) = (dr.set k false).count true := by omega
  obtain ⟨es, clock, e1, e2, e3, e4⟩ := r1
  refine ⟨w', hrun, ⟨_, ⟨es, clock, e1, e2, ?_, e4⟩, hsz', fun x hx => ?_⟩, r2⟩
  · rw [e4] at hsz'
    simp [Maps.size, length_sorted] at hsz'
    omega
  rw [isDr_set _ _ _ hkl]
  by_cases e : x = (k : Int)
  · subst e
    rw [if_pos rfl]
    exact ⟨Maps.atKey_del_same _, Maps.has_del_same⟩
  · rw [if_neg e]
    have ne : (Lit.int .i64 x) ≠ .int .i64 (k : Int) := fun h => e (by injection h)
    rw [Maps.atKey_del_other ne, Maps.has_del_other ne]
    exact h3 x hx
end Go.Proofs.YtkhbbfpajiimaaaGreat
