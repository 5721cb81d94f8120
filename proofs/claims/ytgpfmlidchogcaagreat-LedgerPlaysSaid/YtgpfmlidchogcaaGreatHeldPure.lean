/- A region that draws: what yields in whatever world, first; a load that number c waits for by way of another number. -/
import Derived.Test.YtgpfmlidchogcaaGreatKitZ
namespace Go.Proofs.YtgpfmlidchogcaaGreat
open Go.RowKit
section
variable {P : Program} {ops : Array Oper} {Q : Exit → Act → World → Prop} {md : Region.Mode} {S : World → Prop} {c : Nat}
theorem until_pure1 {i : Nat} {oi : Oper} {v : Value} (hi : ops[i]? = some oi) (hsel : ∀ (j : Nat) (o : Oper) cs b, ops[j]? = some o → o.op ≠ .select cs b)
  (hQ : ∀ ch a w, Q (.panic ch) (a.put oi.dst v) w → Q (.panic ch) a w) (hic : i ≠ c) :
  ∀ (f : Nat) (listed : Array Bool) (a : Act) (w : World),
   (∀ j oj, ops[j]? = some oj → j ≠ i → listed.getD j true = false → (∀ e ∈ oj.after, Region.binds md e = true → e.on ≠ i) → oi.apart ops oj = true) →
   i ∈ Region.ready md ops listed → (listed.getD c true = false → S w) → YieldsIf P ops (fun _ => True) oi v a →
   wpUntil P md ops Q S c f (listed.setIfInBounds i true) (a.put oi.dst v) w → wpUntil P md ops Q S c (f + 1) listed a w
 | 0, listed, a, w => fun _ hr hS hy H => by
  refine ⟨fun h => (by rw [h] at hr; cases hr), fun j hj => ?_⟩
  by_cases hji : j = i
  ·subst hji; exact hy.wpOp hi trivial ⟨fun h => hS (by rw [getD_set_ne true hic] at h; exact h), H⟩
  ·have := ready_mono hj hji
   rw [H.1] at this
   cases this
 | f + 1, listed, a, w => fun hfree hr hS hy H => by
  refine ⟨fun h => (by rw [h] at hr; cases hr), fun j hj => ?_⟩
  by_cases hji : j = i
  ·subst hji; exact hy.wpOp hi trivial ⟨fun h => hS (by rw [getD_set_ne true hic] at h; exact h), H⟩
  ·have hun := (mem_ready.1 hr).1
   obtain ⟨hjun, oj, hoj, hall⟩ := mem_ready.1 hj
   have hnot : ∀ e ∈ oj.after, Region.binds md e = true → e.on ≠ i := fun e he hb heq => by
    have h1 := hall e he hb
    rw [heq, getD_both hun] at h1
    cases h1
   have h1 := H.2 j (ready_mono hj hji)
   have h2 := wpOp_putIf hoj (hfree j oj hoj hji hjun hnot) (fun cs b => hsel i oi cs b hi) (fun cs b => hsel j oj cs b hoj) hQ hy h1
   have hc3 : ((listed.setIfInBounds i true).setIfInBounds j true).getD c true = (listed.setIfInBounds j true).getD c true := by
    rw [Array.setIfInBounds_comm _ _ (Ne.symm hji), getD_set_ne true hic]
   refine wpOp_mono (fun a' w' h3 => ⟨fun h => h3.2.1 (by rw [hc3]; exact h), until_pure1 hi hsel hQ hic f (listed.setIfInBounds j true) a' w' ?_ (ready_mono hr (Ne.symm hji)) (fun h => h3.2.1 (by rw [hc3]; exact h)) h3.1 ?_⟩) h2
   ·intro k ok hk hki hku hno
    refine hfree k ok hk hki ?_ hno
    by_cases hjk : j = k
    ·subst hjk; exact hjun
    ·rw [getD_set_ne true hjk] at hku; exact hku
   ·rw [Array.setIfInBounds_comm _ _ hji]
    exact h3.2.2
theorem until_pure (i t : Nat) {oi : Oper} {v : Value} {f : Nat} {listed : Array Bool} {a : Act} {w : World} (hi : ops[i]? = some oi) (ht : oi.dst = some t)
  (hs : Region.noSelect ops = true) (hf : Region.free md ops listed i = true) (hr : (Region.ready md ops listed).contains i = true) (hic : (i != c) = true)
  (hQ : ∀ ch a w, Q (.panic ch) (a.put (some t) v) w → Q (.panic ch) a w) (hy : Region.wanted oi (yielded ops a.tmps) = true ∧ ∀ w, (execOp a.eval oi).run P w = .ok (.value v) w) (hS : S w)
  (h : wpUntil P md ops Q S c f (listed.setIfInBounds i true) (a.put (some t) v) w) : wpUntil P md ops Q S c (f + 1) listed a w := by
 rw [← ht] at hQ h
 exact until_pure1 hi (Region.noSelect_spec hs) hQ (by simpa using hic) f listed a w (Region.free_spec hi hf) (by simpa using hr) (fun _ => hS) (.inl ⟨hy.1, fun w _ => hy.2 w⟩) h
theorem until_first2 {i k : Nat} {oi : Oper} {v : Value} (hi : ops[i]? = some oi) (hsel : ∀ (j : Nat) (o : Oper) cs b, ops[j]? = some o → o.op ≠ .select cs b)
  (hQ : ∀ ch a w, Q (.panic ch) (a.put oi.dst v) w → Q (.panic ch) a w) (hw : Region.waitsFor md ops k i = true) (hw2 : Region.waitsFor md ops c k = true) (hic : i ≠ c) (hik : i ≠ k) :
  ∀ (f : Nat) (listed : Array Bool) (a : Act) (w : World),
   (∀ j oj, ops[j]? = some oj → j ≠ i → listed.getD j true = false → (∀ e ∈ oj.after, Region.binds md e = true → e.on ≠ i) → oi.apart ops oj = true) →
   i ∈ Region.ready md ops listed → listed[k]? = some false → listed.getD c true = false → YieldsIf P ops S oi v a → S w →
   wpUntil P md ops Q S c f (listed.setIfInBounds i true) (a.put oi.dst v) w → wpUntil P md ops Q S c (f + 1) listed a w
 | 0, listed, a, w => fun _ hr _ _ hy hS H => by
  refine ⟨fun h => (by rw [h] at hr; cases hr), fun j hj => ?_⟩
  by_cases hji : j = i
  ·subst hji; exact hy.wpOp hi hS ⟨fun _ => hS, H⟩
  ·have := ready_mono hj hji
   rw [H.1] at this
   cases this
 | f + 1, listed, a, w => fun hfree hr hk hc hy hS H => by
  refine ⟨fun h => (by rw [h] at hr; cases hr), fun j hj => ?_⟩
  by_cases hji : j = i
  ·subst hji; exact hy.wpOp hi hS ⟨fun _ => hS, H⟩
  ·have hun := (mem_ready.1 hr).1
   obtain ⟨hjun, oj, hoj, hall⟩ := mem_ready.1 hj
   have hnot : ∀ e ∈ oj.after, Region.binds md e = true → e.on ≠ i := fun e he hb heq => by
    have h1 := hall e he hb
    rw [heq, getD_both hun] at h1
    cases h1
   have hjk : j ≠ k := by
    rintro rfl
    obtain ⟨o', ho', e, he, hb, hon⟩ := Region.waitsFor_spec hw
    have : o' = oj := Option.some.inj (ho'.symm.trans hoj)
    subst this
    exact hnot e he hb hon
   have hjc : j ≠ c := by
    rintro rfl
    obtain ⟨o', ho', e, he, hb, hon⟩ := Region.waitsFor_spec hw2
    have : o' = oj := Option.some.inj (ho'.symm.trans hoj)
    subst this
    have h1 := hall e he hb
    rw [hon] at h1
    obtain ⟨hlt, hv⟩ := Array.getElem?_eq_some_iff.1 hk
    rw [show listed.getD k false = listed[k] from by simp [Array.getD, hlt], hv] at h1
    cases h1
   have h1 := H.2 j (ready_mono hj hji)
   have h2 := wpOp_putIf hoj (hfree j oj hoj hji hjun hnot) (fun cs b => hsel i oi cs b hi) (fun cs b => hsel j oj cs b hoj) hQ hy h1
   have hc2 : (listed.setIfInBounds j true).getD c true = false := by rw [getD_set_ne true hjc]; exact hc
   have hc3 : ((listed.setIfInBounds i true).setIfInBounds j true).getD c true = false := by rw [getD_set_ne true hjc, getD_set_ne true hic]; exact hc
   refine wpOp_mono (fun a' w' h3 => ⟨fun _ => h3.2.1 hc3, until_first2 hi hsel hQ hw hw2 hic hik f (listed.setIfInBounds j true) a' w' ?_ (ready_mono hr (Ne.symm hji)) (by rw [Array.getElem?_setIfInBounds_ne hjk]; exact hk) hc2 h3.1 (h3.2.1 hc3) ?_⟩) h2
   ·intro k ok hk hki hku hno
    refine hfree k ok hk hki ?_ hno
    by_cases hjk : j = k
    ·subst hjk; exact hjun
    ·rw [getD_set_ne true hjk] at hku; exact hku
   ·rw [Array.setIfInBounds_comm _ _ hji]
    exact h3.2.2
theorem until_take2 (i t k : Nat) {oi : Oper} {v : Value} {f : Nat} {listed : Array Bool} {a : Act} {w : World} (hi : ops[i]? = some oi) (ht : oi.dst = some t)
  (hs : Region.noSelect ops = true) (hf : Region.free md ops listed i = true) (hr : (Region.ready md ops listed).contains i = true) (hw : (Region.waitsFor md ops k i && Region.waitsFor md ops c k && (i != c) && (i != k) && !listed.getD c true) = true) (hk : listed[k]? = some false)
  (hQ : ∀ ch a w, Q (.panic ch) (a.put (some t) v) w → Q (.panic ch) a w) (hy : Region.wanted oi (yielded ops a.tmps) = true ∧ ∀ w, S w → (execOp a.eval oi).run P w = .ok (.value v) w) (hS : S w)
  (h : wpUntil P md ops Q S c f (listed.setIfInBounds i true) (a.put (some t) v) w) : wpUntil P md ops Q S c (f + 1) listed a w := by
 rw [← ht] at hQ h
 simp only [Bool.and_eq_true, bne_iff_ne, ne_eq, Bool.not_eq_true'] at hw
 exact until_first2 hi (Region.noSelect_spec hs) hQ hw.1.1.1.1 hw.1.1.1.2 hw.1.1.2 hw.1.2 f listed a w (Region.free_spec hi hf) (by simpa using hr) hk hw.2 (.inl hy) hS h
end
end Go.Proofs.YtgpfmlidchogcaaGreat
