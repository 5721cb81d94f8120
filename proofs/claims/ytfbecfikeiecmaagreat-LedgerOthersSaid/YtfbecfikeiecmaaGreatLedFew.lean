/- Calls put into one row: elements told by their cells; what a law's few asks of such a row. -/
import Derived.Deep.DrawnRows
import Derived.SizedLaws
import Derived.ChangeArms
import Derived.Test.YtfbecfikeiecmaaGreatKitZ
import Derived.Test.YtfbecfikeiecmaaGreatLedActM
set_option maxRecDepth 100000
namespace Go.Proofs.YtfbecfikeiecmaaGreat
open Go.RowKit Go.MuLone
/-- A call, and where its slots lie. -/
structure Lx where
  a : La
  A : Option Addr
  c : Nat
def lxC (x : Lx) : List Value := laC x.a x.A x.c
theorem lxC_len (x : Lx) : (lxC x).length = 7 := rfl
theorem lxC_one (x : Lx) : ∀ v ∈ lxC x, v.oneCell' = true := by simp [lxC, laC, Value.oneCell']
theorem choose_list {α β : Type} : ∀ {P : Nat → α → β → Prop} (l : List α), (∀ (i : Nat) x, l[i]? = some x → ∃ y, P i x y) → ∃ L : List β, L.length = l.length ∧ ∀ (i : Nat) x y, l[i]? = some x → L[i]? = some y → P i x y
  | P, [], _ => ⟨[], rfl, fun i x y h => by simp at h⟩
  | P, a :: l, h => by
    obtain ⟨y, hy⟩ := h 0 a rfl
    obtain ⟨L, h1, h2⟩ := choose_list (P := fun i => P (i + 1)) l fun i x hx => h (i + 1) x (by simpa using hx)
    refine ⟨y :: L, by simp [h1], fun i x z hx hz => ?_⟩
    cases i with
    | zero => simp at hx hz; subst hx; subst hz; exact hy
    | succ i => exact h2 i x z (by simpa using hx) (by simpa using hz)
theorem las_els {w : World} {B : Nat} {A : Option Addr} {l : List La} (h : Las w B A l) : ∃ L : List Lx, L.map (·.a) = l ∧ Els lxC 7 w B A L ∧ ∀ x ∈ L, Slots w B x.A x.a.sl := by
  rcases h with rfl | ⟨b, off, rfl, hb, hc⟩
  · exact ⟨[], rfl, .inl rfl, fun x hx => by simp at hx⟩
  · obtain ⟨L, h1, h2⟩ := choose_list (P := fun i (x : La) (y : Lx) => y.a = x ∧ CellsAt w b (off + i * 7) (lxC y) ∧ Slots w B y.A x.sl) l fun i x hx => by
      obtain ⟨A, c, h3, h4⟩ := hc i x hx
      exact ⟨⟨x, A, c⟩, rfl, fun r v hr => h3 r v hr, h4⟩
    have hget : ∀ (i : Nat) y, L[i]? = some y → ∃ x, l[i]? = some x := fun i y hy => get_lt (by have := (List.getElem?_eq_some_iff.1 hy).1; omega)
    refine ⟨L, ?_, .inr ⟨b, off, rfl, hb, fun i y hy => ?_⟩, fun y hy => ?_⟩
    · apply List.ext_getElem?
      intro i
      rw [List.getElem?_map]
      cases hL : L[i]? with
      | none => rw [List.getElem?_eq_none_iff] at hL; rw [Option.map_none]; symm; rw [List.getElem?_eq_none_iff]; omega
      | some y =>
        obtain ⟨x, hx⟩ := hget i y hL
        rw [hx, Option.map_some, (h2 i x y hx hL).1]
    · obtain ⟨x, hx⟩ := hget i y hy
      exact (h2 i x y hx hy).2.1
    · obtain ⟨i, hi⟩ := List.mem_iff_getElem?.1 hy
      obtain ⟨x, hx⟩ := hget i y hi
      obtain ⟨e1, _, e3⟩ := h2 i x y hx hi
      rw [e1]; exact e3
theorem els_las {w : World} {B : Nat} {A : Option Addr} {L : List Lx} (h : Els lxC 7 w B A L) (hs : ∀ x ∈ L, Slots w B x.A x.a.sl) : Las w B A (L.map (·.a)) := by
  rcases h with rfl | ⟨b, off, rfl, hb, hc⟩
  · exact .inl rfl
  · refine .inr ⟨b, off, rfl, hb, fun i a ha => ?_⟩
    rw [List.getElem?_map] at ha
    obtain ⟨x, hx, rfl⟩ := Option.map_eq_some_iff.1 ha
    exact ⟨x.A, x.c, fun j u hj => hc i x hx j u hj, hs x (List.mem_of_getElem? hx)⟩
theorem info_la : (Tryz.prog.info? 49).map (fun i => (i.zero, i.size, i.bytes)) = some (some (.agg #[.int .i64 0, .int .i64 0, .int .i64 0, .int .i64 0, .int .i64 0, .int .i64 0, .slice none 0 0]), 7, 72) := by kernel_rfl
theorem run_load_la {oi : Oper} {ρ : Operand → Value} {W : World} {y : Operand} {g o : Nat} {x : Lx} (ho : oi.op = .load 49 y) (hy : ρ y = .pointer (some ⟨g, o, none⟩)) (h : CellsAt W g o (lxC x)) :
    (execOp ρ oi).run Tryz.prog W = .ok (.value (.agg (lxC x).toArray)) W := by
  have hl : (loadCells ⟨g, o, none⟩ 7).run Tryz.prog W = .ok (lxC x).toArray W := run_loadCells_list (P := Tryz.prog) W ⟨g, o, none⟩ (lxC x) fun j v hv => by rw [Addr.add_lit]; exact h j v hv
  have ha : (isAgg 49).run Tryz.prog W = .ok true W := by
    unfold isAgg
    rw [Sem.run_bind, run_underlying Tryz.underlying49 W]
    simp
  unfold execOp
  simp only [ho, hy, Instr.loadAt, Instr.sureAddr, Sem.run_bind, Sem.run_pure, Result.andThen_ok, loadVar, ha, if_true, Tryz.sizeOf49, hl]
/-- Boxes made one behind the other. -/
theorem new_0 (w : World) (a b : Obj) : ((w.alloc a).alloc b).heap[w.heap.size]? = some a := by
  rw [Below.heap_alloc _ _ _ (by simp)]
  exact heap_alloc_new w a
theorem new_1 (w : World) (a b : Obj) : ((w.alloc a).alloc b).heap[w.heap.size + 1]? = some b := by
  have := heap_alloc_new (w.alloc a) b
  simpa using this
theorem new_0' (w : World) (a b c : Obj) : (((w.alloc a).alloc b).alloc c).heap[w.heap.size]? = some a := by
  rw [Below.heap_alloc _ _ _ (by simp; omega)]
  exact new_0 w a b
theorem new_1' (w : World) (a b c : Obj) : (((w.alloc a).alloc b).alloc c).heap[w.heap.size + 1]? = some b := by
  rw [Below.heap_alloc _ _ _ (by simp)]
  exact new_1 w a b
theorem new_2' (w : World) (a b c : Obj) : (((w.alloc a).alloc b).alloc c).heap[w.heap.size + 1 + 1]? = some c := by
  have := heap_alloc_new ((w.alloc a).alloc b) c
  simpa using this
theorem lx_box {w : World} {g : Nat} {t : TypeId} {x : Lx} (h : w.heap[g]? = some (.cells (lxC x).toArray t (0, 0))) : CellsAt w g 0 (lxC x) := fun r v hr => by
  rw [Nat.zero_add]
  exact cell_blk h (by simpa using hr)
/-- What was read takes no more than the form's reach. -/
theorem slice_reach {H : Type} {enc : TypeId × Value → H} {P : Program} {w : World} {spare : Nat → Bool} {held : Bool} {t e : TypeId} {A : Option Addr} {n c j : Nat} {d : DataW H} {p : List MemPlace} {ts : List TypeId} {ds : List (DataW H)}
    (h : DataW.Trod enc P w 0 spare held t (.slice A n c) d p) (hu : P.underlying t = some (.slice e)) (hsz : (DataW.weightsEach P ts ds).all (· ≤ reachBytes) = true) (ht : ts[j]? = some t) (hd : ds[j]? = some d) : n * P.bytesOf e ≤ 140737488351232 := by
  obtain ⟨fuel, hf⟩ := h
  rcases DataW.trod_slice hu hf with ⟨e1, _⟩ | ⟨a, len, cap, elems, rest, k, _, e1, e2, _, _, _, hl, _⟩
  · simp [Value.cells] at e1
    rw [e1.2.1]; omega
  · simp [Value.cells] at e1
    simp only [Prod.mk.injEq] at e2
    have := sized_slice hsz ht (by rw [hd, e2.1]) hu
    simp only [List.length_map, reachBytes] at this
    rw [e1.2.1, ← hl]
    exact Nat.le_trans (Nat.mul_le_mul_right _ (Nat.le_add_right _ _)) this
end Go.Proofs.YtfbecfikeiecmaaGreat
