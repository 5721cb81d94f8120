/- What comes in to quota's laws; their own do, and the document's example. -/
import Derived.Test.YtbcldamfekejgaaReads
import Derived.Test.YtbcldamfekejgaaQuotaNew
set_option linter.unusedVariables false
set_option maxRecDepth 100000
namespace Go.Proofs.Ytbcldamfekejgaa
open Go.ChangeShapes Go.WideShapes Go.ChangeAt Go.RowKit Go.Deep

def unSh : Sh := .struct (.cons (.int .i64) (.cons (.int .i64) .nil))
theorem un_lift {w : World} {B : Nat} {cs : List Value} (hl : cs.length = 2) (h : unSh.Holds w B cs) : ∃ u : Un, cs = uC u ∧ UnW u := by
  match cs, hl with
  | [a, b], _ =>
    simp [unSh, Sh.Holds, Sh.size] at h
    obtain ⟨⟨x, rfl, hx⟩, ⟨y, rfl, hy⟩⟩ := h
    exact ⟨⟨x, y⟩, rfl, ⟨hx, hy⟩⟩
/-- A call: Sub (or Add), of a queue, units. -/
structure Qc where
  sub : Bool
  q : Int
  u : Un
structure QcOk (x : Qc) : Prop where
  q : (Lit.int .i64 x.q).wf = true
  u : UnW x.u
def qcC (x : Qc) : List Value := [.bool x.sub, .int .i64 x.q, .int .i64 x.u.g, .int .i64 x.u.c]
def qcV (x : Qc) : Value := .agg #[.bool x.sub, .int .i64 x.q, .int .i64 x.u.g, .int .i64 x.u.c]
theorem qcC_len (x : Qc) : (qcC x).length = 4 := rfl
abbrev Qcs (w : World) (B : Nat) (A : Option Addr) (l : List Qc) : Prop := Els qcC 4 w B A l
def qcSh : Sh := .struct (.cons .bool (.cons (.int .i64) (.cons unSh .nil)))
theorem qc_lift {w : World} {B : Nat} {cs : List Value} (hl : cs.length = 4) (h : qcSh.Holds w B cs) : ∃ x : Qc, cs = qcC x ∧ QcOk x := by
  match cs, hl with
  | [a, b, c, d], _ =>
    simp [qcSh, unSh, Sh.Holds, Sh.size] at h
    obtain ⟨h0, ⟨q, rfl, hq⟩, ⟨x, rfl, hx⟩, ⟨y, rfl, hy⟩⟩ := h
    obtain ⟨s, rfl⟩ : ∃ s, a = Value.bool s := by
      rcases h0 with h0 | h0
      · exact ⟨_, h0⟩
      · exact ⟨_, h0⟩
    exact ⟨⟨s, q, ⟨x, y⟩⟩, rfl, ⟨hq, ⟨hx, hy⟩⟩⟩
section
variable {H : Type} {enc : TypeId × Value → H} {w : World} {held : Bool} {r : Reach} {b0 : Nat} {v : Value} {d : DataW H} {p : List MemPlace}
theorem uns_of (hv : Value.okWide Try.prog w r b0 25 v) (h : DataW.Trod enc Try.prog w 0 (fun _ => true) held 25 v d p) :
    ∃ (A : Option Addr) (c : Nat) (l : List Un), v = .slice A l.length c ∧ l.length ≤ c ∧ c ≤ maxLen ∧ Uns w w.heap.size A l ∧ ∀ a ∈ l, UnW a :=
  rows_of (e := unSh) (arg_slice (sh := .slice unSh) Try.underlying25 (by kernel_rfl) hv h) fun b o cs _ hl hat hh => by
    obtain ⟨u, e, hu⟩ := un_lift hl hh
    subst e
    exact ⟨u, hat, hu⟩
theorem un_of (hv : Value.okWide Try.prog w r b0 44 v) (h : DataW.Trod enc Try.prog w 0 (fun _ => true) held 44 v d p) : ∃ u : Un, v = unV u ∧ UnW u := by
  obtain ⟨cs, rfl, hl, hh⟩ := arg_struct (sh := unSh) Try.underlying44 (by kernel_rfl) hv h
  obtain ⟨s, rfl, hs⟩ := un_lift (by rw [hl]; kernel_rfl) hh
  exact ⟨s, rfl, hs⟩
theorem quotaIn_mark : True := trivial
end
/-- What a call answers, and leaves. -/
def qDo (l : List Qa) (x : Qc) : Int × List Qa := if x.sub then qSub l x.q x.u else qAdd l x.q x.u
theorem unV_ne (u v : Un) (W : World) : (binOp .neq 44 (.agg #[.int .i64 u.g, .int .i64 u.c]) (.agg #[.int .i64 v.g, .int .i64 v.c])).run Try.prog W = .ok (.bool (!decide (u = v))) W := by
  obtain ⟨a, b⟩ := u
  obtain ⟨c, d⟩ := v
  go_simp
  by_cases h1 : a = c <;> by_cases h2 : b = d <;> simp [h1, h2]
end Go.Proofs.Ytbcldamfekejgaa
