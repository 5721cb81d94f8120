/- Strings as lists of bytes. No program is spoken of. -/
import Derived.WalkKit
import Derived.Lib.Hide
import Derived.IntWalk
import Derived.Laws.Strings2
import Derived.Laws.Strings3
import Derived.Laws.DeepStrings4
import Derived.Laws.Concat
import Derived.Laws.BytesArg
import Derived.Test.YtplekkpfpidebaaBlk
import Derived.Test.YtplekkpfpidebaaWireMath
set_option linter.unusedVariables false
namespace Go.Proofs.Ytplekkpfpidebaa
open Go.RowKit
/-- Bytes as a string. -/
def bs (l : List UInt8) : ByteArray := ⟨l.toArray⟩
/-- The byte at a place. -/
def byt (l : List UInt8) (i : Nat) : Nat := (l.getD i 0).toNat
theorem bs_size (l : List UInt8) : (bs l).size = l.length := rfl
theorem bs_get (l : List UInt8) (i : Nat) (h : i < (bs l).size) : ((bs l)[i]'h).toNat = byt l i := by
  have h2 : i < l.length := h
  unfold byt
  rw [List.getD_eq_getElem?_getD, List.getElem?_eq_getElem h2]
  simp [bs, ByteArray.getElem_eq_getElem_data]
theorem bs_cut (l : List UInt8) (a b : Nat) : (bs l).extract a b = bs ((l.drop a).take (b - a)) := ByteArray.extract_mk l a b
theorem bs_app (a b : List UInt8) : bs a ++ bs b = bs (a ++ b) := ByteArray.mk_append_mk a b
theorem bs_nil : ByteArray.mk #[] = bs [] := rfl
theorem bs_list (l : List UInt8) : (bs l).toList = l := by unfold bs; rw [ByteArray.toList_mk]
theorem bs_of (s : ByteArray) : ∃ l, s = bs l := ⟨s.data.toList, by apply ByteArray.ext; simp [bs]⟩
theorem byt_lt (l : List UInt8) (i : Nat) : byt l i < 256 := UInt8.toNat_lt _
theorem bs_inj {a b : List UInt8} (h : bs a = bs b) : a = b := by rw [← bs_list a, h, bs_list]
theorem byt_cons (b : UInt8) (l : List UInt8) : byt (b :: l) 0 = b.toNat := rfl
theorem byt_drop (l : List UInt8) (i k : Nat) : byt (l.drop k) i = byt l (k + i) := by
  unfold byt; rw [List.getD_eq_getElem?_getD, List.getD_eq_getElem?_getD, List.getElem?_drop]
theorem num_take {l : List UInt8} {k : Nat} (h : k < l.length) : WM.num (l.take (k + 1)) = WM.num (l.take k) * 256 + byt l k := by
  rw [List.take_succ_eq_append_getElem h, WM.num_snoc]
  unfold byt
  rw [List.getD_eq_getElem?_getD, List.getElem?_eq_getElem h]
  rfl
theorem num_le {l : List UInt8} (c : Nat) (h : l.length ≤ c) : WM.num l < 256 ^ c := Nat.lt_of_lt_of_le (WM.num_lt l) (Nat.pow_le_pow_right (by decide) h)
/-- A Go int. -/
abbrev I64 (n : Int) : Prop := -9223372036854775808 ≤ n ∧ n ≤ 9223372036854775807
theorem wf_i64 {n : Int} : (Lit.int .i64 n).wf = true ↔ I64 n := by
  have e1 : IntKind.min .i64 = -9223372036854775808 := by decide
  have e2 : IntKind.max .i64 = 9223372036854775807 := by decide
  simp only [Lit.wf, e1, e2, Bool.and_eq_true, decide_eq_true_eq]
/-- A field: its number's block and place, its width. -/
abbrev FldP := Nat × Nat × Nat
def fpC (x : FldP) : List Value := [.pointer (some ⟨x.1, x.2.1, none⟩), .int .i64 (x.2.2 : Nat)]
theorem fpC_len (x : FldP) : (fpC x).length = 2 := rfl
/-- A byte as a cell. -/
def u8C (b : UInt8) : List Value := [.int .u8 (b.toNat : Nat)]
theorem u8C_len (b : UInt8) : (u8C b).length = 1 := rfl
theorem u8C_one (b : UInt8) : ∀ v ∈ u8C b, v.oneCell' = true := by simp [u8C, Value.oneCell']
end Go.Proofs.Ytplekkpfpidebaa
