/- The document's pool: Act. -/
import Derived.Test.YtgdbjepddcmfoaaPoolAct
import Derived.Test.YtgdbjepddcmfoaaPoolRef6
namespace Go.Proofs.Ytgdbjepddcmfoaa
open Go.RowKit

set_option maxRecDepth 100000 in
set_option maxHeartbeats 1000000 in
theorem refact_at (q al tk db ca ct cd : Nat) (fs ts : List Fr) (dr : List Bool) (A : Option Addr) (c : Nat) (a : Ac) (w : World) (hP : RefAt w q al tk db ca ct cd fs ts dr) (ha : AcOk a) (hl : Slots w w.heap.size A a.sl) (hoff : a.sl ≠ [] → Off A (· = tk)) :
    Calls Try.prog 10 #[.pointer (some ⟨q, 0, none⟩), .agg #[.int .i64 a.kind, .int .i64 a.node, .slice A a.sl.length c]] w fun e w' =>
      e = .returned (.int .i64 (act fs (ts, dr) a).1) ∧ ∃ tk' ct', RefAt w' q al tk' db ca ct' cd fs (act fs (ts, dr) a).2.1 (act fs (ts, dr) a).2.2 ∧ (tk' = tk ∨ w.heap.size ≤ tk') ∧ Foot (fun i => i = q ∨ i = tk ∨ i = db) w w' := by
  have hB1 := (Below.refl w.heap.size w).alloc (Nat.le_refl _) (.cells #[.int .i64 a.kind, .int .i64 a.node, .slice A a.sl.length c] 38)
  have hP1 := hP.keep hB1
  have hS1 : Slots (w.alloc (.cells #[.int .i64 a.kind, .int .i64 a.node, .slice A a.sl.length c] 38)) (w.alloc (.cells #[.int .i64 a.kind, .int .i64 a.node, .slice A a.sl.length c] 38)).heap.size A a.sl :=
    (Slots.keep hl hB1 (by simp))
  have HB := Lib.hid hB1
  unfold act
  by_cases k0 : a.kind = 0
  · rw [if_pos k0]
    have hC := Lib.hid (refdo_any false q al tk db ca ct cd fs ts dr A c a.sl _ hP1 ha.sl hS1 hoff ha.few)
    obtain ⟨R, hR⟩ : ∃ R, R = PM.whole fs dr false a.sl ts := ⟨_, rfl⟩
    simp only [← hR] at hC ⊢
    obtain ⟨kind, node, sl⟩ := a
    simp only at *
    have t0 : (kind == 0) = true := beq_iff_eq.2 k0
    clear hP hP1 hS1 ha hl hR k0 hoff
    go_enter Try.func10, Try.ntmps10
    go_wp2_with (go_at_call 26; refine hC.out.mono ?_; rintro e w1 ⟨rfl, tk', ct', hp1, hf1, hg1⟩)
    go_ret
    exact ⟨rfl, tk', ct', hp1, by simp at hg1; omega, ((Foot.of_below HB.out).trans hf1 (fun i hi => .inl hi)).mono (fun i hi => by rcases hi with h | h; exact .inl h; exact .inr (.inl h))⟩
  rw [if_neg k0]
  by_cases k1 : a.kind = 1
  · rw [if_pos k1]
    have hC := Lib.hid (refdo_any true q al tk db ca ct cd fs ts dr A c a.sl _ hP1 ha.sl hS1 hoff ha.few)
    obtain ⟨R, hR⟩ : ∃ R, R = PM.whole fs dr true a.sl ts := ⟨_, rfl⟩
    simp only [← hR] at hC ⊢
    obtain ⟨kind, node, sl⟩ := a
    simp only at *
    have t0 : (kind == 0) = false := beq_eq_false_iff_ne.2 k0
    have t1 : (kind == 1) = true := beq_iff_eq.2 k1
    clear hP hP1 hS1 ha hl hR k0 k1 hoff
    go_enter Try.func10, Try.ntmps10
    go_wp2_with (go_at_call 26; refine hC.out.mono ?_; rintro e w1 ⟨rfl, tk', ct', hp1, hf1, hg1⟩)
    go_ret
    exact ⟨rfl, tk', ct', hp1, by simp at hg1; omega, ((Foot.of_below HB.out).trans hf1 (fun i hi => .inl hi)).mono (fun i hi => by rcases hi with h | h; exact .inl h; exact .inr (.inl h))⟩
  rw [if_neg k1]
  by_cases k2 : a.kind = 2
  · rw [if_pos k2]
    have hC := Lib.hid (refturn_any q al tk db ca ct cd fs ts dr a.node true _ hP1)
    obtain ⟨R, hR⟩ : ∃ R, R = turn dr a.node true := ⟨_, rfl⟩
    simp only [← hR] at hC ⊢
    obtain ⟨kind, node, sl⟩ := a
    simp only at *
    have t0 : (kind == 0) = false := beq_eq_false_iff_ne.2 k0
    have t1 : (kind == 1) = false := beq_eq_false_iff_ne.2 k1
    have t2 : (kind == 2) = true := beq_iff_eq.2 k2
    clear hP hP1 hS1 ha hl hR k0 k1 k2 hoff
    go_enter Try.func10, Try.ntmps10
    go_wp2_with (go_at_call 27; refine hC.out.mono ?_; rintro e w1 ⟨rfl, hp1, hf1⟩)
    go_ret
    exact ⟨rfl, tk, ct, hp1, .inl rfl, ((Foot.of_below HB.out).trans hf1 (fun i hi => .inl hi)).mono (fun i hi => .inr (.inr hi))⟩
  rw [if_neg k2]
  have hC := Lib.hid (refturn_any q al tk db ca ct cd fs ts dr a.node false _ hP1)
  obtain ⟨R, hR⟩ : ∃ R, R = turn dr a.node false := ⟨_, rfl⟩
  simp only [← hR] at hC ⊢
  obtain ⟨kind, node, sl⟩ := a
  simp only at *
  have t0 : (kind == 0) = false := beq_eq_false_iff_ne.2 k0
  have t1 : (kind == 1) = false := beq_eq_false_iff_ne.2 k1
  have t2 : (kind == 2) = false := beq_eq_false_iff_ne.2 k2
  clear hP hP1 hS1 ha hl hR k0 k1 k2 hoff
  go_enter Try.func10, Try.ntmps10
  go_wp2_with (go_at_call 27; refine hC.out.mono ?_; rintro e w1 ⟨rfl, hp1, hf1⟩)
  go_ret
  exact ⟨rfl, tk, ct, hp1, .inl rfl, ((Foot.of_below HB.out).trans hf1 (fun i hi => .inl hi)).mono (fun i hi => .inr (.inr hi))⟩
/-- The document's pool within these blocks. -/
def RefIn (w : World) (F : Nat → Prop) (q : Nat) (fs : List Fr) (st : List Fr × List Bool) : Prop := ∃ al tk db ca ct cd, RefAt w q al tk db ca ct cd fs st.1 st.2 ∧ F q ∧ F al ∧ F tk ∧ F db
theorem refact_in (F : Nat → Prop) (q : Nat) (fs : List Fr) (st : List Fr × List Bool) (A : Option Addr) (c : Nat) (a : Ac) (w : World) (h : RefIn w F q fs st) (hF : ∀ i, w.heap.size ≤ i → F i) (ha : AcOk a) (hl : Slots w w.heap.size A a.sl) (hoff : a.sl ≠ [] → Off A F) :
    Calls Try.prog 10 #[.pointer (some ⟨q, 0, none⟩), .agg #[.int .i64 a.kind, .int .i64 a.node, .slice A a.sl.length c]] w fun e w' =>
      e = .returned (.int .i64 (act fs st a).1) ∧ RefIn w' F q fs (act fs st a).2 ∧ Foot F w w' := by
  obtain ⟨al, tk, db, ca, ct, cd, hP, h1, h2, h3, h4⟩ := h
  refine (refact_at q al tk db ca ct cd fs st.1 st.2 A c a w hP ha hl (fun hne b off e hb => hoff hne b off e (by rw [hb]; exact h3))).mono fun e w' ⟨he, tk', ct', hp, hg, hf⟩ => ⟨he, ⟨al, tk', db, ca, ct', cd, hp, h1, h2, ?_, h4⟩, hf.mono ?_⟩
  · rcases hg with rfl | hg
    · exact h3
    · exact hF _ hg
  · rintro i (rfl | rfl | rfl) <;> assumption
end Go.Proofs.Ytgdbjepddcmfoaa
