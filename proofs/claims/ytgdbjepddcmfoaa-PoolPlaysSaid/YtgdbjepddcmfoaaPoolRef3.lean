/- The document's pool: Turn; what a slot does. -/
import Derived.Deep.RegionWith
import Derived.Test.YtgdbjepddcmfoaaPoolRef2
namespace Go.Proofs.Ytgdbjepddcmfoaa
open Go.RowKit

theorem RefAt.turned {w : World} {q al tk db ca ct cd k : Nat} {fs ts : List Fr} {dr : List Bool} (b : Bool) (h : RefAt w q al tk db ca ct cd fs ts dr) :
    RefAt (w.setCell ⟨db, k, none⟩ (.bool b)) q al tk db ca ct cd fs ts (dr.set k b) ∧ Foot (· = db) w (w.setCell ⟨db, k, none⟩ (.bool b)) := by
  have hf : Foot (· = db) w (w.setCell ⟨db, k, none⟩ (.bool b)) := by refine Foot.setCell (F := (· = db)) (p := ⟨db, k, none⟩) (Foot.refl _ _) (.inl ?_) _; rfl
  obtain ⟨l1, l2, l3, l4⟩ := h.lt
  obtain ⟨n1, n2, n3, n4, n5, n6⟩ := h.ne
  obtain ⟨cur, h1, h2⟩ := h.taken
  refine ⟨⟨by rw [List.length_set]; exact h.ok, h.inv, ?_, fun i f hfi => (h.all i f hfi).of (hf.block al l2 n5), ⟨cur, (hf.block tk l3 n6).trans h1, h2⟩, ?_, h.ne⟩, hf⟩
  · rw [List.length_set]; exact (hf.block q l1 n3).trans h.blk
  · have hd := h.drained
    unfold boolBlk at hd ⊢
    rw [blk_put _ hd, List.map_set]
    simp
set_option maxHeartbeats 1000000 in
theorem refturn_any (q al tk db ca ct cd : Nat) (fs ts : List Fr) (dr : List Bool) (x : Int) (to : Bool) (w : World) (h : RefAt w q al tk db ca ct cd fs ts dr) :
    Calls Try.prog 27 #[.pointer (some ⟨q, 0, none⟩), .int .i64 x, .bool to] w fun e w' => e = .returned (.int .i64 (turn dr x to).1) ∧ RefAt w' q al tk db ca ct cd fs ts (turn dr x to).2 ∧ Foot (· = db) w w' := by
  obtain ⟨_, _, c2⟩ := h.heads
  have hnod := h.ok.nodes
  have HR := Lib.hid h
  unfold turn
  obtain ⟨k, hk⟩ : ∃ k, k = dr.length := ⟨_, rfl⟩
  rw [← hk] at c2 hnod ⊢
  by_cases h0 : x < 0 ∨ (k : Int) ≤ x
  · rw [if_pos h0]
    by_cases hx : x < 0
    · have t0 : decide (x < 0) = true := decide_eq_true hx
      clear h h0 hk hx
      go_enter Try.func27, Try.ntmps27
      go_wp2
      go_ret
      exact ⟨rfl, HR.out, Foot.refl _ _⟩
    · have t0 : decide (x < 0) = false := decide_eq_false hx
      have t1 : decide ((k : Int) ≤ x) = true := decide_eq_true (by omega)
      clear h h0 hk hx
      go_enter Try.func27, Try.ntmps27
      go_wp2
      go_ret
      exact ⟨rfl, HR.out, Foot.refl _ _⟩
  rw [if_neg h0]
  obtain ⟨j, rfl⟩ : ∃ j : Nat, x = j := ⟨x.toNat, by omega⟩
  have hjk : j < k := by omega
  have t0 : decide ((j : Int) < 0) = false := decide_eq_false (by omega)
  have t1 : decide (k ≤ j) = false := decide_eq_false (by omega)
  rw [isDr_nat]
  obtain ⟨b, hb⟩ := get_lt (l := dr) (k := j) (by omega)
  rw [hb]
  obtain ⟨y0, y1⟩ := h.bit hb
  have HT := Lib.hid (h.turned (k := j) to)
  clear h h0 hk hb
  cases b <;> cases to
  all_goals
    go_enter Try.func27, Try.ntmps27
    go_wp2
    go_ret
    first
      | exact ⟨rfl, HR.out, Foot.refl _ _⟩
      | exact ⟨rfl, HT.out.1, HT.out.2⟩
/-! ### one -/
/-- One spot's taken units are written anew. -/
theorem RefAt.wrote {w w1 w' : World} {q al tk db ca ct cd k : Nat} {fs ts : List Fr} {dr : List Bool} {t : Fr} (u : Fr) (M C : Int) (h : RefAt w q al tk db ca ct cd fs ts dr) (ht : ts[k]? = some t) (hn : u.n = t.n ∧ u.d = t.d) (hw : Below w.heap.size w w1) (hi : PM.Inv fs (ts.set k u))
    (hft : Foot (· = tk) w w') (e : w'.heap = ((w1.setCell ⟨tk, k * 4 + 2, none⟩ (.int .u64 M)).setCell ⟨tk, k * 4 + 3, none⟩ (.int .i64 C)).heap) (hM : M = (u.m : Nat)) (hC : C = (u.c : Nat)) : RefAt w' q al tk db ca ct cd fs (ts.set k u) dr := by
  subst hM hC
  obtain ⟨l1, l2, l3, l4⟩ := h.lt
  obtain ⟨n1, n2, n3, n4, n5, n6⟩ := h.ne
  obtain ⟨cur, h1, h2⟩ := h.taken
  refine ⟨h.ok, hi, (hft.block q l1 n2).trans h.blk, fun i f hf => (h.all i f hf).of (hft.block al l2 n4), ?_, (hft.block db l4 (Ne.symm n6)).trans h.drained, h.ne⟩
  refine ⟨_, by rw [e]; exact blk_put _ (blk_put _ ((hw.block tk l3).trans h1)), fun j v hj => ?_⟩
  have hset := flat_set u.m u.c ht
  rw [← hn.1, ← hn.2] at hset
  rw [show (⟨u.n, u.d, u.m, u.c⟩ : Fr) = u from rfl] at hset
  rw [hset] at hj
  have hkl := (List.getElem?_eq_some_iff.1 ht).1
  have hlen := frC_len ts
  have hsz : k * 4 + 3 < cur.size := by
    have e3 := flat_at ht (show 3 < 4 by omega)
    exact (Array.getElem?_eq_some_iff.1 (h2 _ _ (e3.trans rfl))).1
  by_cases e3 : k * 4 + 3 = j
  · subst e3
    rw [List.getElem?_set_self (by rw [List.length_set]; omega)] at hj
    rw [Array.getElem?_setIfInBounds_self_of_lt (by simp; omega)]
    exact hj
  · rw [List.getElem?_set_ne e3] at hj
    rw [Array.getElem?_setIfInBounds_ne e3]
    by_cases e2 : k * 4 + 2 = j
    · subst e2
      rw [List.getElem?_set_self (by omega)] at hj
      rw [Array.getElem?_setIfInBounds_self_of_lt (by omega)]
      exact hj
    · rw [List.getElem?_set_ne e2] at hj
      rw [Array.getElem?_setIfInBounds_ne e2]
      exact h2 j v hj
theorem RefAt.cells {w : World} {q al tk db ca ct cd k : Nat} {fs ts : List Fr} {dr : List Bool} {f t : Fr} (h : RefAt w q al tk db ca ct cd fs ts dr) (hf : fs[k]? = some f) (ht : ts[k]? = some t) :
    w.cell? ⟨al, k * 4 + 2, none⟩ = some (.int .u64 (f.m : Nat)) ∧ w.cell? ⟨al, k * 4 + 3, none⟩ = some (.int .i64 (f.c : Nat)) ∧ w.cell? ⟨tk, k * 4 + 2, none⟩ = some (.int .u64 (t.m : Nat)) ∧ w.cell? ⟨tk, k * 4 + 3, none⟩ = some (.int .i64 (t.c : Nat)) ∧ w.frozen? ⟨tk, k * 4 + 2, none⟩ = false ∧ w.frozen? ⟨tk, k * 4 + 3, none⟩ = false := by
  obtain ⟨_, _, a2, a3⟩ := h.all k f hf
  obtain ⟨_, _, b2, b3⟩ := h.taken.at_ ht
  obtain ⟨cur, h1, _⟩ := h.taken
  exact ⟨a2, a3, b2, b3, frozen_blk h1, frozen_blk h1⟩
end Go.Proofs.Ytgdbjepddcmfoaa
