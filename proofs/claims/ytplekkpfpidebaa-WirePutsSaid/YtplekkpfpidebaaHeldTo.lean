/- A region that draws its order, whose last store hits a cell that it loads: the loads are taken first by a condition on the world that is asked only until that store. -/
import Derived.OrdersHeld
import Derived.StillTail
import Derived.WalkKit
import Derived.Below
import Derived.Lib.Hide
namespace Go.Proofs.Ytplekkpfpidebaa
open Go.RowKit
section
variable {P : Program} {ops : Array Oper} {Q : Exit → Act → World → Prop} {md : Region.Mode} {S : World → Prop} {c : Nat}

/-- Whatever order is picked from here on; S holds behind every operation until number c has come up. -/
def wpUntil (P : Program) (md : Region.Mode) (ops : Array Oper) (Q : Exit → Act → World → Prop) (S : World → Prop) (c : Nat) : Nat → Array Bool → Act → World → Prop
  | 0, listed, a, w => Region.ready md ops listed = [] ∧ Q .normal a w
  | f + 1, listed, a, w => (Region.ready md ops listed = [] → Q .normal a w) ∧
      ∀ i ∈ Region.ready md ops listed, wpOp P ops Q i (fun a' w' => ((listed.setIfInBounds i true).getD c true = false → S w') ∧ wpUntil P md ops Q S c f (listed.setIfInBounds i true) a' w') a w
theorem wpAny_of_until : ∀ (f : Nat) (listed : Array Bool) (a : Act) (w : World), wpUntil P md ops Q S c f listed a w → wpAny P md ops Q f listed a w
  | 0, _, _, _, h => h
  | f + 1, _, _, _, h => ⟨h.1, fun i hi => wpOp_mono (fun a' w' k => wpAny_of_until f _ a' w' k.2) (h.2 i hi)⟩
theorem wp_until (S : World → Prop) (c : Nat) {id : Nat} {a : Act} {w : World} (hm : P.follows .mixedOrders = true)
    (h : wpUntil P .any ops Q S c ops.size (Array.replicate ops.size false) a w.drew) : (Code.region id ops true).wp P Q a w :=
  wp_region_any hm (wpAny_of_until _ _ _ _ h)

theorem until_first {i : Nat} {oi : Oper} {v : Value} (hi : ops[i]? = some oi) (hsel : ∀ (j : Nat) (o : Oper) cs b, ops[j]? = some o → o.op ≠ .select cs b)
    (hQ : ∀ ch a w, Q (.panic ch) (a.put oi.dst v) w → Q (.panic ch) a w) (hw : Region.waitsFor md ops c i = true) (hic : i ≠ c) :
    ∀ (f : Nat) (listed : Array Bool) (a : Act) (w : World),
      (∀ j oj, ops[j]? = some oj → j ≠ i → listed.getD j true = false → (∀ e ∈ oj.after, Region.binds md e = true → e.on ≠ i) → oi.apart ops oj = true) →
      i ∈ Region.ready md ops listed → listed.getD c true = false → YieldsIf P ops S oi v a → S w →
      wpUntil P md ops Q S c f (listed.setIfInBounds i true) (a.put oi.dst v) w → wpUntil P md ops Q S c (f + 1) listed a w
  | 0, listed, a, w => fun _ hr _ hy hS H => by
    refine ⟨fun h => (by rw [h] at hr; cases hr), fun j hj => ?_⟩
    by_cases hji : j = i
    · subst hji; exact hy.wpOp hi hS ⟨fun _ => hS, H⟩
    · have := ready_mono hj hji
      rw [H.1] at this
      cases this
  | f + 1, listed, a, w => fun hfree hr hc hy hS H => by
    refine ⟨fun h => (by rw [h] at hr; cases hr), fun j hj => ?_⟩
    by_cases hji : j = i
    · subst hji; exact hy.wpOp hi hS ⟨fun _ => hS, H⟩
    · have hun := (mem_ready.1 hr).1
      obtain ⟨hjun, oj, hoj, hall⟩ := mem_ready.1 hj
      have hnot : ∀ e ∈ oj.after, Region.binds md e = true → e.on ≠ i := fun e he hb heq => by
        have h1 := hall e he hb
        rw [heq, getD_both hun] at h1
        cases h1
      have hjc : j ≠ c := by
        rintro rfl
        obtain ⟨o', ho', e, he, hb, hon⟩ := Region.waitsFor_spec hw
        have : o' = oj := Option.some.inj (ho'.symm.trans hoj)
        subst this
        exact hnot e he hb hon
      have h1 := H.2 j (ready_mono hj hji)
      have h2 := wpOp_putIf hoj (hfree j oj hoj hji hjun hnot) (fun cs b => hsel i oi cs b hi) (fun cs b => hsel j oj cs b hoj) hQ hy h1
      have hc2 : (listed.setIfInBounds j true).getD c true = false := by rw [getD_set_ne true hjc]; exact hc
      have hc3 : ((listed.setIfInBounds i true).setIfInBounds j true).getD c true = false := by rw [getD_set_ne true hjc, getD_set_ne true hic]; exact hc
      refine wpOp_mono (fun a' w' h3 => ⟨fun _ => h3.2.1 hc3, until_first hi hsel hQ hw hic f (listed.setIfInBounds j true) a' w' ?_ (ready_mono hr (Ne.symm hji)) hc2 h3.1 (h3.2.1 hc3) ?_⟩) h2
      · intro k ok hk hki hku hno
        refine hfree k ok hk hki ?_ hno
        by_cases hjk : j = k
        · subst hjk; exact hjun
        · rw [getD_set_ne true hjk] at hku; exact hku
      · rw [Array.setIfInBounds_comm _ _ hji]
        exact h3.2.2

/-- Number i first: it yields v in every world that meets S; number c waits for it. -/
theorem until_take (i t : Nat) {oi : Oper} {v : Value} {f : Nat} {listed : Array Bool} {a : Act} {w : World} (hi : ops[i]? = some oi) (ht : oi.dst = some t)
    (hs : Region.noSelect ops = true) (hf : Region.free md ops listed i = true) (hr : (Region.ready md ops listed).contains i = true) (hw : (Region.waitsFor md ops c i && (i != c) && !listed.getD c true) = true)
    (hQ : ∀ ch a w, Q (.panic ch) (a.put (some t) v) w → Q (.panic ch) a w) (hy : Region.wanted oi (yielded ops a.tmps) = true ∧ ∀ w, S w → (execOp a.eval oi).run P w = .ok (.value v) w) (hS : S w)
    (h : wpUntil P md ops Q S c f (listed.setIfInBounds i true) (a.put (some t) v) w) : wpUntil P md ops Q S c (f + 1) listed a w := by
  rw [← ht] at hQ h
  simp only [Bool.and_eq_true, bne_iff_ne, ne_eq, Bool.not_eq_true'] at hw
  exact until_first hi (Region.noSelect_spec hs) hQ hw.1.1 hw.1.2 f listed a w (Region.free_spec hi hf) (by simpa using hr) hw.2 (.inl hy) hS h
theorem tkU (v : Value) (i t : Nat) {oi : Oper} {f : Nat} {listed : Array Bool} {a : Act} {w : World} (hy : ∀ w, S w → (execOp a.eval oi).run P w = .ok (.value v) w) (hS : S w)
    (h : wpUntil P md ops Q S c f (listed.setIfInBounds i true) (a.put (some t) v) w) (hi : ops[i]? = some oi := by rfl) (ht : oi.dst = some t := by rfl) (hg : Region.wanted oi (yielded ops a.tmps) = true := by rfl)
    (hs : Region.noSelect ops = true := by kernel_rfl) (hf : Region.free md ops listed i = true := by kernel_rfl) (hr : (Region.ready md ops listed).contains i = true := by kernel_rfl) (hw : (Region.waitsFor md ops c i && (i != c) && !listed.getD c true) = true := by kernel_rfl)
    (hQ : ∀ ch a w, Q (.panic ch) (a.put (some t) v) w → Q (.panic ch) a w := by exact fun _ _ _ h => h) : wpUntil P md ops Q S c (f + 1) listed a w := until_take i t hi ht hs hf hr hw hQ ⟨hg, hy⟩ hS h
theorem tkB (i t : Nat) {oi : Oper} {f : Nat} {listed L : Array Bool} {a b : Act} {v : Value} {w : World} (hS : S w)
    (h : wpUntil P md ops Q S c f L b w) (hi : ops[i]? = some oi := by rfl) (ht : oi.dst = some t := by rfl) (hg : Region.wanted oi (yielded ops a.tmps) = true := by rfl)
    (hs : Region.noSelect ops = true := by kernel_rfl) (hf : Region.free md ops listed i = true := by kernel_rfl) (hr : (Region.ready md ops listed).contains i = true := by kernel_rfl) (hw : (Region.waitsFor md ops c i && (i != c) && !listed.getD c true) = true := by kernel_rfl)
    (hy : ∀ w, S w → (execOp a.eval oi).run P w = .ok (.value v) w := by intro w' h; go_simp; (try with_reducible rfl))
    (hl : listed.setIfInBounds i true = L := by (try simp only [List.setIfInBounds_toArray, List.set_cons_zero, List.set_cons_succ]); rfl)
    (hb : a.put (some t) v = b := by simp only [Act.put, List.setIfInBounds_toArray, List.set_cons_zero, List.set_cons_succ]; rfl)
    (hQ : ∀ ch a w, Q (.panic ch) (a.put (some t) v) w → Q (.panic ch) a w := by exact fun _ _ _ h => h) : wpUntil P md ops Q S c (f + 1) listed a w := by
  subst hl hb; exact until_take i t hi ht hs hf hr hw hQ ⟨hg, hy⟩ hS h
/-- Number i alone may come up. -/
theorem until_one (i : Nat) {oi : Oper} {f : Nat} {listed : Array Bool} {a : Act} {w : World} (hi : ops[i]? = some oi) (hr : Region.ready md ops listed = [i]) (hg : oi.guard = none)
    (h : ∀ K : Act → World → Prop, Hid (∀ a' w', ((listed.setIfInBounds i true).getD c true = false → S w') → wpUntil P md ops Q S c f (listed.setIfInBounds i true) a' w' → K a' w') → oi.wp P a w K Q) : wpUntil P md ops Q S c (f + 1) listed a w := by
  refine ⟨fun h0 => (by rw [hr] at h0; cases h0), fun j hj => ?_⟩
  rw [hr] at hj
  obtain rfl : j = i := by simpa using hj
  unfold wpOp
  simp only [hi]
  rw [if_pos (by simp [Region.wanted, hg])]
  exact .inl (h _ (Lib.hid fun _ _ h1 h2 => ⟨h1, h2⟩))
theorem until_done {f : Nat} {listed : Array Bool} {a : Act} {w : World} (hr : Region.ready md ops listed = []) (h : Q .normal a w) : wpUntil P md ops Q S c f listed a w := by
  cases f with
  | zero => exact ⟨hr, h⟩
  | succ f => exact ⟨fun _ => h, by rw [hr]; simp⟩
end
end Go.Proofs.Ytplekkpfpidebaa
