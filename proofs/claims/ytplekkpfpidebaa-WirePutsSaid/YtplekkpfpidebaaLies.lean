/- Slices of structs in memory, in words; lists, gone through from the left. No program is spoken of. -/
import Derived.WalkKit
import Derived.Lib.Hide
import Derived.Below
import Derived.Deep.Draws
import Derived.OwnWalk
import Derived.Test.YtplekkpfpidebaaBlk
namespace Go.Proofs.Ytplekkpfpidebaa
open Go.RowKit

/-- A slice (its address A) whose elements are the list's: p says of a block, an offset and an element what the cells there hold; they lie below block B. -/
def Rows {α : Type} (B : Nat) (A : Option Addr) (p : Nat → Nat → α → Prop) (k : Nat) (l : List α) : Prop :=
  l = [] ∨ ∃ b off, A = some ⟨b, off, none⟩ ∧ b < B ∧ ∀ (i : Nat) (x : α), l[i]? = some x → p b (off + i * k) x
section
variable {α : Type} {B B' k : Nat} {A : Option Addr} {p q : Nat → Nat → α → Prop} {l : List α}
theorem Rows.imp (h : Rows B A p k l) (hB : B ≤ B') (hp : ∀ b o x, b < B → p b o x → q b o x) : Rows B' A q k l := by
  rcases h with h | ⟨b, off, ha, hb, hc⟩
  · exact .inl h
  · exact .inr ⟨b, off, ha, by omega, fun i x hx => hp _ _ _ hb (hc i x hx)⟩
theorem Rows.at_ (h : Rows B A p k l) {i : Nat} {x : α} (hx : l[i]? = some x) : ∃ b off, A = some ⟨b, off, none⟩ ∧ b < B ∧ ∀ (i : Nat) (x : α), l[i]? = some x → p b (off + i * k) x := by
  rcases h with h | h
  · subst h; simp at hx
  · exact h
end

/-! Lists, gone through from the left. -/
section
variable {α : Type} {l : List α} {k : Nat} {x : α}
theorem take_next (h : l[k]? = some x) : l.take (k + 1) = l.take k ++ [x] := by
  rw [List.take_add_one, h]; rfl
theorem all_next {p : α → Bool} (h : l[k]? = some x) (ha : (l.take k).all p = true) (hp : p x = true) : (l.take (k + 1)).all p = true := by
  rw [take_next h, List.all_append, ha]; simp [hp]
theorem all_no {p : α → Bool} (h : l[k]? = some x) (hp : p x = false) : l.all p = false := by
  rw [← Bool.not_eq_true, List.all_eq_true]
  intro ha
  have := ha x (List.mem_of_getElem? h)
  rw [hp] at this; cases this
theorem all_end {p : α → Bool} (ha : (l.take l.length).all p = true) : l.all p = true := by rwa [List.take_length] at ha
theorem get_lt (h : k < l.length) : ∃ x, l[k]? = some x := ⟨_, List.getElem?_eq_getElem h⟩
end
end Go.Proofs.Ytplekkpfpidebaa
