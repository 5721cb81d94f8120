/- Strings that come in; entries' last. -/
import Derived.Test.YtplekkpfpidebaaFrame
import Derived.ChangeMaps5
import Derived.Test.YtplekkpfpidebaaWireAwake
set_option linter.unusedVariables false
set_option maxRecDepth 100000
namespace Go.Proofs.Ytplekkpfpidebaa
open Go.ChangeShapes Go.WideShapes Go.ChangeAt Go.RowKit
theorem str_of {H : Type} {enc : TypeId × Value → H} {w : World} {held : Bool} {r : Reach} {b0 : Nat} {v : Value} {d : DataW H} {p : List MemPlace} (hv : Value.okWide Try.prog w r b0 9 v) (h : DataW.Trod enc Try.prog w 0 (fun _ => true) held 9 v d p) : ∃ s : ByteArray, v = .string s ∧ s.size ≤ maxLen := by
  obtain ⟨s, h1, _, _, h2⟩ := Go.ChangeMaps.open_string Try.underlying9 hv h
  exact ⟨s, h1, h2⟩
theorem short_last : ∀ (f : Nat) (l : List UInt8) (t : Nat) (x : WM.We), l.length ≤ f → x ∈ WM.entL t l → x.e = 11 → (WM.entL t l).getLast? = some x := by
  intro f
  induction f with
  | zero =>
    intro l t x hl hx
    obtain rfl : l = [] := List.length_eq_zero_iff.1 (Nat.le_zero.1 hl)
    simp [WM.entL_nil] at hx
  | succ f ih =>
    intro l t x hl hx he
    cases l with
    | nil => simp [WM.entL_nil] at hx
    | cons k r =>
      simp only [List.length_cons] at hl
      cases hs : WM.size k.toNat with
      | none =>
        rw [WM.entL_bad hs] at hx ⊢
        rcases List.mem_cons.1 hx with rfl | hx
        · simp at he
        · have := ih r (t + 1) x (by omega) hx he
          rw [List.getLast?_cons, this]; rfl
      | some n =>
        by_cases hr : r.length < n
        · rw [WM.entL_short hs hr] at hx ⊢
          rw [List.mem_singleton.1 hx]; rfl
        · rw [WM.entL_ok hs (Nat.le_of_not_lt hr)] at hx ⊢
          rcases List.mem_cons.1 hx with rfl | hx
          · simp at he
          · have := ih (r.drop n) (t + 1 + n) x (by simp; omega) hx he
            rw [List.getLast?_cons, this]; rfl
end Go.Proofs.Ytplekkpfpidebaa
