/- Acts and configurations that come in. -/
import Derived.Test.YtplekkpfpidebaaFrame
import Derived.Test.YtplekkpfpidebaaReadsR
import Derived.Test.YtplekkpfpidebaaWireAPut
import Derived.Test.YtplekkpfpidebaaWirePP
import Derived.Test.YtplekkpfpidebaaWireFew
set_option linter.unusedVariables false
set_option linter.unusedSimpArgs false
set_option maxRecDepth 100000
namespace Go.Proofs.Ytplekkpfpidebaa
open Go.ChangeShapes Go.WideShapes Go.ChangeAt Go.RowKit
abbrev sI : Sh := .int .i64
def shpSh : Sh := .struct (.cons sI (.cons sI (.cons sI (.cons sI .nil))))
def jobSh : Sh := .struct (.cons sI (.cons sI (.cons sI (.cons sI (.cons shpSh .nil)))))
def actSh : Sh := .struct (.cons sI (.cons sI (.cons jobSh .nil)))
def domSh : Sh := .struct (.cons sI (.cons sI .nil))
def nodSh : Sh := .struct (.cons (.slice domSh) .nil)
def cluSh : Sh := .struct (.cons (.slice nodSh) .nil)
def untSh : Sh := .struct (.cons sI (.cons sI .nil))
def queSh : Sh := .struct (.cons untSh (.cons sI .nil))
def cfgSh : Sh := .struct (.cons cluSh (.cons (.slice queSh) (.cons sI (.cons sI (.cons sI (.cons sI .nil))))))
structure AcW (a : WM.Ac) : Prop where
  k : I64 a.k
  ok : AcOk a
theorem ac_lift {w : World} {B : Nat} {cs : List Value} (hl : cs.length = 10) (h : actSh.Holds w B cs) : ∃ a : WM.Ac, cs.toArray = acA a ∧ AcW a := by
  match cs, hl with
  | [v0, v1, v2, v3, v4, v5, v6, v7, v8, v9], _ =>
    simp [actSh, jobSh, shpSh, sI, Sh.Holds, Sh.size] at h
    obtain ⟨⟨x0, rfl, h0⟩, ⟨x1, rfl, h1⟩, ⟨x2, rfl, h2⟩, ⟨x3, rfl, h3⟩, ⟨x4, rfl, h4⟩, ⟨x5, rfl, h5⟩, ⟨x6, rfl, h6⟩, ⟨x7, rfl, h7⟩, ⟨x8, rfl, h8⟩, ⟨x9, rfl, h9⟩⟩ := h
    exact ⟨⟨x0, x1, x2, x3, x4, x5, x6, x7, x8, x9⟩, rfl, wf_i64.1 h0, ⟨wf_i64.1 h1, wf_i64.1 h2, wf_i64.1 h3, wf_i64.1 h4, wf_i64.1 h5, wf_i64.1 h6, wf_i64.1 h7, wf_i64.1 h8, wf_i64.1 h9⟩⟩
section
variable {H : Type} {enc : TypeId × Value → H} {w : World} {held : Bool} {r : Reach} {b0 : Nat} {v : Value} {d : DataW H} {p : List MemPlace} {ts : List TypeId} {ds : List (DataW H)} {j : Nat}
theorem ac_of (hv : Value.okWide Try.prog w r b0 27 v) (h : DataW.Trod enc Try.prog w 0 (fun _ => true) held 27 v d p) : ∃ a : WM.Ac, v = acV a ∧ AcW a := by
  obtain ⟨cs, rfl, hl, hh⟩ := arg_struct (sh := actSh) Try.underlying27 (by kernel_rfl) hv h
  obtain ⟨a, ha, hw⟩ := ac_lift (by rw [hl]; kernel_rfl) hh
  exact ⟨a, by unfold acV; rw [ha], hw⟩
structure CmW (w : World) (m : Cm) : Prop where
  inn : CmIn w w.heap.size m
  ok : CmOk m
  len : CmLen m
theorem dom_lift {w : World} {b o : Nat} {cs : List Value} {B : Nat} (hl : cs.length = domSh.size) (hat : ∀ j u, cs[j]? = some u → w.cell? ⟨b, o + j, none⟩ = some u) (h : domSh.HoldsR w B cs) : ∃ a : Int × Int, CellsAt w b o (dmC a) ∧ DmOk a := by
  match cs, hl with
  | [v0, v1], _ =>
    simp [domSh, sI, Sh.HoldsR, Sh.size] at h
    obtain ⟨⟨x0, rfl, h0⟩, ⟨x1, rfl, h1⟩⟩ := h
    exact ⟨(x0, x1), fun r v hr => hat r v hr, wf_i64.1 h0, wf_i64.1 h1⟩
theorem que_lift {w : World} {b o : Nat} {cs : List Value} {B : Nat} (hl : cs.length = queSh.size) (hat : ∀ j u, cs[j]? = some u → w.cell? ⟨b, o + j, none⟩ = some u) (h : queSh.HoldsR w B cs) : ∃ a : Int × Int × Int, CellsAt w b o (quC a) ∧ QuOk a := by
  match cs, hl with
  | [v0, v1, v2], _ =>
    simp [queSh, untSh, sI, Sh.HoldsR, Sh.size] at h
    obtain ⟨⟨⟨x0, rfl, h0⟩, ⟨x1, rfl, h1⟩⟩, ⟨x2, rfl, h2⟩⟩ := h
    exact ⟨(x0, x1, x2), fun r v hr => hat r v hr, wf_i64.1 h0, wf_i64.1 h1, wf_i64.1 h2⟩
theorem nod_lift {w : World} {b o : Nat} {cs : List Value} (hl : cs.length = nodSh.size) (hat : ∀ j u, cs[j]? = some u → w.cell? ⟨b, o + j, none⟩ = some u) (h : nodSh.HoldsR w w.heap.size cs) :
    ∃ a : Nd, CellsAt w b o (ndC a) ∧ (Els dmC 2 w w.heap.size a.A a.ds ∧ (∀ x ∈ a.ds, DmOk x) ∧ a.ds.length ≤ 140737488351232) := by
  match cs, hl with
  | [v0], _ =>
    unfold nodSh at h
    simp only [Sh.HoldsR, Sh.size, List.take_succ_cons, List.take_zero, List.drop_succ_cons, List.drop_zero, and_true] at h
    obtain ⟨A, c, l, rfl, _, _, h3, h4, h5⟩ := rowsR_of (e := domSh) (p := fun b o x => CellsAt w b o (dmC x)) (q := DmOk) (w := w) (B := w.heap.size) (v := v0) h (fun b o cs _ hl hat hh => dom_lift hl hat hh)
    exact ⟨⟨A, c, l⟩, fun r v hr => hat r v hr, h4, h5, h3⟩
theorem cfg_of (hv : Value.okWide Try.prog w r b0 33 v) (h : DataW.Trod enc Try.prog w 0 (fun _ => true) held 33 v d p) (hsz : (DataW.weightsEach Try.prog ts ds).all (· ≤ reachBytes) = true) (ht : ts[j]? = some 33) (hd : ds[j]? = some d) : ∃ m : Cm, v = cmV m ∧ CmW w m := by
  obtain ⟨cs, rfl, hl, hh⟩ := argR_struct (sh := cfgSh) Try.underlying33 (by kernel_rfl) (by kernel_rfl) hv h hsz ht hd
  have hl6 : cs.length = 6 := by rw [hl]; kernel_rfl
  match cs, hl6 with
  | [v0, v1, v2, v3, v4, v5], _ =>
    unfold cfgSh cluSh at hh
    simp only [sI, Sh.HoldsR, Sh.size, List.take_succ_cons, List.take_zero, List.drop_succ_cons, List.drop_zero, and_true] at hh
    obtain ⟨hn, hq, ⟨x2, e2, h2⟩, ⟨x3, e3, h3⟩, ⟨x4, e4, h4⟩, ⟨x5, e5, h5⟩⟩ := hh
    simp only [List.cons.injEq, and_true] at e2 e3 e4 e5
    subst e2 e3 e4 e5
    obtain ⟨nA, nc, ns, rfl, _, _, n3, n4, n5⟩ := rowsR_of (e := nodSh) (p := fun b o x => CellsAt w b o (ndC x)) (q := fun a : Nd => Els dmC 2 w w.heap.size a.A a.ds ∧ (∀ x ∈ a.ds, DmOk x) ∧ a.ds.length ≤ 140737488351232) (w := w) (B := w.heap.size) (v := v0) hn (fun b o cs _ hl hat hh => nod_lift hl hat hh)
    obtain ⟨qA, qc, qs, rfl, _, _, q3, q4, q5⟩ := rowsR_of (e := queSh) (p := fun b o x => CellsAt w b o (quC x)) (q := QuOk) (w := w) (B := w.heap.size) (v := v1) hq (fun b o cs _ hl hat hh => que_lift hl hat hh)
    exact ⟨⟨nA, nc, ns, qA, qc, qs, x2, x3, x4, x5⟩, rfl, ⟨n4, fun n hn => (n5 n hn).1, q4⟩, ⟨wf_i64.1 h2, wf_i64.1 h3, wf_i64.1 h4, wf_i64.1 h5, fun n hn => (n5 n hn).2.1, q5⟩, ⟨by simp only; omega, by simp only; omega, fun n hn => by have := (n5 n hn).2.2; omega⟩⟩
end
end Go.Proofs.Ytplekkpfpidebaa
