/- A region that draws, walked operation by operation: what may be taken first is taken, what a guard passes over is passed over, a call is met alone. -/
import Derived.OrdersHeld
import Derived.WalkKit
import Derived.Below
import Derived.Lib.Hide
namespace Go.Proofs.Ytplekkpfpidebaa
open Go.RowKit
section
variable {P : Program} {ops : Array Oper} {Q : Exit → Act → World → Prop} {md : Region.Mode} {S : World → Prop}
/-- Number i first: it yields v in every world that meets S. -/
theorem held_take (i t : Nat) {oi : Oper} {v : Value} {f : Nat} {listed : Array Bool} {a : Act} {w : World} (hi : ops[i]? = some oi) (ht : oi.dst = some t)
    (hs : Region.noSelect ops = true) (hf : Region.free md ops listed i = true) (hr : (Region.ready md ops listed).contains i = true)
    (hQ : ∀ ch a w, Q (.panic ch) (a.put (some t) v) w → Q (.panic ch) a w) (hy : Region.wanted oi (yielded ops a.tmps) = true ∧ ∀ w, S w → (execOp a.eval oi).run P w = .ok (.value v) w) (hS : S w)
    (h : wpAnyH P md ops Q S f (listed.setIfInBounds i true) (a.put (some t) v) w) : wpAnyH P md ops Q S (f + 1) listed a w := by
  rw [← ht] at hQ h
  exact wpAnyH_take hi hs hf hr hQ (.inl hy) hS h
/-- Number i is passed over: its guard is shut. -/
theorem held_skip (i t : Nat) {oi : Oper} {f : Nat} {listed : Array Bool} {a : Act} {w : World} (hi : ops[i]? = some oi) (ht : oi.dst = some t)
    (hs : Region.noSelect ops = true) (hf : Region.free md ops listed i = true) (hr : (Region.ready md ops listed).contains i = true)
    (hQ : ∀ ch a w, Q (.panic ch) (a.put (some t) undef) w → Q (.panic ch) a w) (hy : Region.wanted oi (yielded ops a.tmps) = false) (hS : S w)
    (h : wpAnyH P md ops Q S f (listed.setIfInBounds i true) (a.put (some t) undef) w) : wpAnyH P md ops Q S (f + 1) listed a w := by
  rw [← ht] at hQ h
  exact wpAnyH_take hi hs hf hr hQ (.inr ⟨hy, rfl⟩) hS h
/-- The same, with what is decided left out. -/
theorem held_takeK (i t : Nat) {oi : Oper} {v : Value} {f : Nat} {listed : Array Bool} {a : Act} {w : World} (hi : ops[i]? = some oi) (ht : oi.dst = some t)
    (hy : Region.wanted oi (yielded ops a.tmps) = true ∧ ∀ w, S w → (execOp a.eval oi).run P w = .ok (.value v) w) (hS : S w)
    (h : wpAnyH P md ops Q S f (listed.setIfInBounds i true) (a.put (some t) v) w) (hs : Region.noSelect ops = true := by kernel_rfl) (hf : Region.free md ops listed i = true := by kernel_rfl) (hr : (Region.ready md ops listed).contains i = true := by kernel_rfl)
    (hQ : ∀ ch a w, Q (.panic ch) (a.put (some t) v) w → Q (.panic ch) a w := by exact fun _ _ _ h => h) : wpAnyH P md ops Q S (f + 1) listed a w := held_take i t hi ht hs hf hr hQ hy hS h
theorem held_skipK (i t : Nat) {oi : Oper} {f : Nat} {listed : Array Bool} {a : Act} {w : World} (hi : ops[i]? = some oi) (ht : oi.dst = some t)
    (hy : Region.wanted oi (yielded ops a.tmps) = false) (hS : S w)
    (h : wpAnyH P md ops Q S f (listed.setIfInBounds i true) (a.put (some t) undef) w) (hs : Region.noSelect ops = true := by kernel_rfl) (hf : Region.free md ops listed i = true := by kernel_rfl) (hr : (Region.ready md ops listed).contains i = true := by kernel_rfl)
    (hQ : ∀ ch a w, Q (.panic ch) (a.put (some t) undef) w → Q (.panic ch) a w := by exact fun _ _ _ h => h) : wpAnyH P md ops Q S (f + 1) listed a w := held_skip i t hi ht hs hf hr hQ hy hS h
theorem tkH (v : Value) (i t : Nat) {oi : Oper} {f : Nat} {listed : Array Bool} {a : Act} {w : World} (hy : ∀ w, S w → (execOp a.eval oi).run P w = .ok (.value v) w) (hS : S w)
    (h : wpAnyH P md ops Q S f (listed.setIfInBounds i true) (a.put (some t) v) w) (hi : ops[i]? = some oi := by rfl) (ht : oi.dst = some t := by rfl) (hw : Region.wanted oi (yielded ops a.tmps) = true := by rfl)
    (hs : Region.noSelect ops = true := by kernel_rfl) (hf : Region.free md ops listed i = true := by kernel_rfl) (hr : (Region.ready md ops listed).contains i = true := by kernel_rfl)
    (hQ : ∀ ch a w, Q (.panic ch) (a.put (some t) v) w → Q (.panic ch) a w := by exact fun _ _ _ h => h) : wpAnyH P md ops Q S (f + 1) listed a w := held_take i t hi ht hs hf hr hQ ⟨hw, hy⟩ hS h
theorem tkA (i t : Nat) {oi : Oper} {f : Nat} {listed L : Array Bool} {a b : Act} {v : Value} {w : World} (hS : S w)
    (h : wpAnyH P md ops Q S f L b w) (hi : ops[i]? = some oi := by rfl) (ht : oi.dst = some t := by rfl) (hw : Region.wanted oi (yielded ops a.tmps) = true := by rfl)
    (hs : Region.noSelect ops = true := by kernel_rfl) (hf : Region.free md ops listed i = true := by kernel_rfl) (hr : (Region.ready md ops listed).contains i = true := by kernel_rfl)
    (hy : ∀ w, S w → (execOp a.eval oi).run P w = .ok (.value v) w := by intro w' h; go_simp; (try with_reducible rfl))
    (hl : listed.setIfInBounds i true = L := by (try simp only [List.setIfInBounds_toArray, List.set_cons_zero, List.set_cons_succ]); rfl)
    (hb : a.put (some t) v = b := by simp only [Act.put, List.setIfInBounds_toArray, List.set_cons_zero, List.set_cons_succ]; rfl)
    (hQ : ∀ ch a w, Q (.panic ch) (a.put (some t) v) w → Q (.panic ch) a w := by exact fun _ _ _ h => h) : wpAnyH P md ops Q S (f + 1) listed a w := by
  subst hl hb; exact held_take i t hi ht hs hf hr hQ ⟨hw, hy⟩ hS h
theorem skA (i t : Nat) {oi : Oper} {f : Nat} {listed L : Array Bool} {a b : Act} {w : World} (hS : S w)
    (h : wpAnyH P md ops Q S f L b w) (hi : ops[i]? = some oi := by rfl) (ht : oi.dst = some t := by rfl) (hy : Region.wanted oi (yielded ops a.tmps) = false := by rfl)
    (hs : Region.noSelect ops = true := by kernel_rfl) (hf : Region.free md ops listed i = true := by kernel_rfl) (hr : (Region.ready md ops listed).contains i = true := by kernel_rfl)
    (hl : listed.setIfInBounds i true = L := by (try simp only [List.setIfInBounds_toArray, List.set_cons_zero, List.set_cons_succ]); rfl)
    (hb : a.put (some t) undef = b := by simp only [Act.put, List.setIfInBounds_toArray, List.set_cons_zero, List.set_cons_succ]; rfl)
    (hQ : ∀ ch a w, Q (.panic ch) (a.put (some t) undef) w → Q (.panic ch) a w := by exact fun _ _ _ h => h) : wpAnyH P md ops Q S (f + 1) listed a w := by
  subst hl hb; exact held_skip i t hi ht hs hf hr hQ hy hS h
/-- Number i alone may come up, and does. -/
theorem held_one (i : Nat) {oi : Oper} {f : Nat} {listed : Array Bool} {a : Act} {w : World} (hi : ops[i]? = some oi) (hr : Region.ready md ops listed = [i]) (hw : Region.wanted oi (yielded ops a.tmps) = true)
    (h : ∀ K : Act → World → Prop, Hid (∀ a' w', S w' → wpAnyH P md ops Q S f (listed.setIfInBounds i true) a' w' → K a' w') → oi.wp P a w K Q) : wpAnyH P md ops Q S (f + 1) listed a w := by
  refine wpAnyH_all hr (by simp) fun j hj => ?_
  obtain rfl : j = i := by simpa using hj
  unfold wpOp
  simp only [hi]
  rw [if_pos hw]
  exact .inl (h _ (Lib.hid fun _ _ h1 h2 => ⟨h1, h2⟩))
theorem held_begin (S : World → Prop) {id : Nat} {a : Act} {w : World} (hm : P.follows .mixedOrders = true)
    (h : wpAnyH P .any ops Q S ops.size (Array.replicate ops.size false) a w.drew) : (Code.region id ops true).wp P Q a w :=
  wp_region_held hm h
end
end Go.Proofs.Ytplekkpfpidebaa
