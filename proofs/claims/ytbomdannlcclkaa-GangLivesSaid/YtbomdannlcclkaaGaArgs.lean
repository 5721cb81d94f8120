/- A job, and bools, that come in. -/
import Derived.Test.YtbomdannlcclkaaGaMade
set_option maxRecDepth 100000
namespace Go.Proofs.Ytbomdannlcclkaa
open Go.ChangeShapes Go.WideShapes Go.ChangeAt Go.RowKit Go.Deep
abbrev Bls (w : World) (B : Nat) (A : Option Addr) (l : List Bool) : Prop := Els (fun b : Bool => [Value.bool b]) 1 w B A l
section
variable {H : Type} {enc : TypeId × Value → H} {w : World} {held : Bool} {r : Reach} {b0 : Nat} {v : Value} {d : DataW H} {p : List MemPlace}
theorem jb_of (hv : Value.okWide Try.prog w r b0 40 v) (h : DataW.Trod enc Try.prog w 0 (fun _ => true) held 40 v d p) : ∃ j : Jb, v = jbV j ∧ JbW j := by
  obtain ⟨cs, rfl, hl, hh⟩ := arg_struct (sh := jobShG) Try.underlying40 (by kernel_rfl) hv h
  obtain ⟨s, rfl, hs⟩ := jb_lift (by rw [hl]; kernel_rfl) hh
  exact ⟨s, rfl, hs⟩
theorem bools_of (hv : Value.okWide Try.prog w r b0 60 v) (h : DataW.Trod enc Try.prog w 0 (fun _ => true) held 60 v d p) :
    ∃ (A : Option Addr) (c : Nat) (l : List Bool), v = .slice A l.length c ∧ l.length ≤ c ∧ c ≤ maxLen ∧ Bls w w.heap.size A l ∧ ∀ a ∈ l, True :=
  rows_of (e := .bool) (arg_slice (sh := .slice .bool) Try.underlying60 (by kernel_rfl) hv h) fun b o cs _ hl hat hh => by
    obtain ⟨n, e⟩ := hh
    subst e
    exact ⟨n, hat, trivial⟩
end
theorem run_load_ga {oi : Oper} {ρ : Operand → Value} {W : World} {y : Operand} {g o : Nat} {a : Ga} (ho : oi.op = .load 46 y) (hy : ρ y = .pointer (some ⟨g, o, none⟩)) (h : CellsAt W g o (gaC a)) :
    (execOp ρ oi).run Try.prog W = .ok (.value (gaV a)) W := by
  have hl : (loadCells ⟨g, o, none⟩ 12).run Try.prog W = .ok (gaA a) W := run_loadCells_list (P := Try.prog) W ⟨g, o, none⟩ (gaC a) fun k v hv => by rw [Addr.add_lit]; exact h k v hv
  have ha : (isAgg 46).run Try.prog W = .ok true W := by
    unfold isAgg
    rw [Sem.run_bind, run_underlying Try.underlying46 W]
    simp
  unfold execOp
  simp only [ho, hy, Instr.loadAt, Instr.sureAddr, Sem.run_bind, Sem.run_pure, Result.andThen_ok, loadVar, ha, if_true, Try.sizeOf46, hl]
  rfl
theorem wpList_load_ga {ops : Array Oper} {rest : List Oper} {o : Oper} {a : Act} {w : World} {Q : Exit → Act → World → Prop} (hgd : o.guard = none) (y : Operand) (ho : o.op = .load 46 y)
    (g off : Nat) (x : Ga) (hy : a.eval y = .pointer (some ⟨g, off, none⟩)) (hx : CellsAt w g off (gaC x)) (h : wpList Try.prog ops Q rest (a.put o.dst (gaV x)) w) : wpList Try.prog ops Q (o :: rest) a w := by
  refine wpList_plain hgd fun K hK => ?_
  unfold Oper.wp
  rw [run_load_ga ho hy hx]
  exact hK _ _ h
namespace GL
/-- How many are below a state. -/
def cnt (L : List Rc) (s : Nat) : Nat := (L.filter fun x => decide (x.st < (s : Int))).length
theorem cnt_zero {L : List Rc} (h : ∀ x ∈ L, ROk x) : cnt L 0 = 0 := by
  unfold cnt
  rw [List.length_eq_zero_iff, List.filter_eq_nil_iff]
  intro x hx
  have := (h x hx).st
  simp; omega
theorem cnt_succ (L : List Rc) (s : Nat) : cnt L (s + 1) = cnt L s + (inL L s).length := by
  unfold cnt inL
  induction L with
  | nil => rfl
  | cons x L ih =>
    simp only [List.filter_cons]
    by_cases h1 : x.st < (s : Int)
    · have d1 : decide (x.st < (s : Int)) = true := decide_eq_true h1
      have d2 : decide (x.st < ((s + 1 : Nat) : Int)) = true := decide_eq_true (by omega)
      have d3 : decide (x.st = (s : Int)) = false := decide_eq_false (by omega)
      rw [d1, d2, d3]
      simp only [if_true, List.length_cons, Bool.false_eq_true, if_false]
      omega
    · have d1 : decide (x.st < (s : Int)) = false := decide_eq_false h1
      by_cases h3 : x.st = (s : Int)
      · have d2 : decide (x.st < ((s + 1 : Nat) : Int)) = true := decide_eq_true (by omega)
        have d3 : decide (x.st = (s : Int)) = true := decide_eq_true h3
        rw [d1, d2, d3]
        simp only [if_true, List.length_cons, Bool.false_eq_true, if_false]
        omega
      · have d2 : decide (x.st < ((s + 1 : Nat) : Int)) = false := decide_eq_false (by omega)
        have d3 : decide (x.st = (s : Int)) = false := decide_eq_false h3
        rw [d1, d2, d3]
        simp only [Bool.false_eq_true, if_false]
        exact ih
theorem cnt_all {L : List Rc} (h : ∀ x ∈ L, ROk x) : cnt L 8 = L.length := by
  unfold cnt
  rw [List.filter_eq_self.2]
  intro x hx
  have := (h x hx).st
  simp; omega
theorem cnt_le (L : List Rc) (s : Nat) : cnt L s ≤ L.length := List.length_filter_le _ _
/-- Numbers rise in each list. -/
theorem inL_rise {L : List Rc} (h : Inv L) {s : Int} {k : Nat} {x y : Rc} (hx : (inL L s)[k]? = some x) (hy : (inL L s)[k + 1]? = some y) : x.nu < y.nu := by
  have hp : L.Pairwise fun a b => a.nu < b.nu := by
    rw [List.pairwise_iff_getElem]
    intro i j hi hj hij
    have e1 := h.nu i _ (List.getElem?_eq_getElem hi)
    have e2 := h.nu j _ (List.getElem?_eq_getElem hj)
    omega
  have hp2 : (inL L s).Pairwise fun a b => a.nu < b.nu := hp.filter _
  obtain ⟨h1, e1⟩ := List.getElem?_eq_some_iff.1 hx
  obtain ⟨h2, e2⟩ := List.getElem?_eq_some_iff.1 hy
  have := List.pairwise_iff_getElem.1 hp2 k (k + 1) h1 h2 (by omega)
  rwa [e1, e2] at this
theorem inL_st {L : List Rc} {s : Int} {k : Nat} {x : Rc} (hx : (inL L s)[k]? = some x) : x.st = s := by
  have := List.mem_of_getElem? hx
  unfold inL at this
  simpa using (List.mem_filter.1 this).2
end GL
end Go.Proofs.Ytbomdannlcclkaa
