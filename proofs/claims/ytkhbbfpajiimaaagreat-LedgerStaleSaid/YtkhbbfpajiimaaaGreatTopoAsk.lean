/- What a topology tells: Nodes, Index, At. -/
import Derived.Deep.QuietTactic
import Derived.BigQuiet
import Derived.Laws.CopyRow
import Derived.Laws.Append
import Derived.Laws.MakeOwn
import Derived.Test.YtkhbbfpajiimaaaGreatTopoNew
namespace Go.Proofs.YtkhbbfpajiimaaaGreat
open Go.RowKit

theorem flat_at : ∀ {l : List Fr} {i r : Nat} {f : Fr}, l[i]? = some f → r < 4 → (l.flatMap frC)[i * 4 + r]? = (frC f)[r]?
  | [], _, _, _, h, _ => by simp at h
  | x :: l, 0, r, f, h, hr => by
    simp at h; subst h
    rw [List.flatMap_cons, List.getElem?_append_left (by simp [frC]; omega)]; simp
  | x :: l, i + 1, r, f, h, hr => by
    rw [List.flatMap_cons, List.getElem?_append_right (by simp [frC]; omega), show (i + 1) * 4 + r - (frC x).length = i * 4 + r by simp [frC]; omega]
    exact flat_at (by simpa using h) hr
/-- A topology that is made: block a. -/
def TopoAt (w : World) (a k : Nat) (l : List Fr) : Prop :=
  ∃ m A c, w.heap[a]? = some (.cells #[.int .i64 (k : Nat), .slice A l.length c, .map (some m)] 181 (0, 0)) ∧ Frees w w.heap.size A l ∧ MapAt w m (l.map spOf)
theorem TopoAt.lt {w : World} {a k : Nat} {l : List Fr} (h : TopoAt w a k l) : a < w.heap.size := by
  obtain ⟨m, A, c, h1, h2, h3⟩ := h
  exact blk_lt h1
theorem TopoAt.keep {w w' : World} {a k : Nat} {l : List Fr} (h : TopoAt w a k l) (hb : Below w.heap.size w w') : TopoAt w' a k l := by
  obtain ⟨m, A, c, h1, h2, h3⟩ := h
  exact ⟨m, A, c, (hb.block a (blk_lt h1)).trans h1, Frees.keep h2 hb hb.size, h3.of_block (hb.block m h3.lt)⟩
theorem own_frees {w : World} {B g c : Nat} {l : List Fr} (h : w.ownsRow B 130 4 (.slice (some ⟨g, 0, none⟩) l.length c) l.length (l.flatMap frC)) : Frees w w.heap.size (some ⟨g, 0, none⟩) l := by
  refine .inr ⟨g, 0, rfl, (h.lt g rfl).2, fun i f hf => ?_⟩
  have hi : i < l.length := (List.getElem?_eq_some_iff.1 hf).1
  have hc : ∀ r, r < 4 → w.cell? ⟨g, 0 + i * 4 + r, none⟩ = (frC f)[r]? := fun r hr => by
    rw [← flat_at hf hr, Nat.zero_add]
    exact h.cellAt _ (by omega)
  exact ⟨hc 0 (by omega), hc 1 (by omega), hc 2 (by omega), hc 3 (by omega)⟩
theorem Half.done {w : World} {B a m k : Nat} {v : Value} {l : List Fr} (h : Half w B a m k v l) : TopoAt w a k l := by
  obtain ⟨A, c, rfl⟩ := h.form
  refine ⟨m, A, c, h.blk, ?_, h.map⟩
  rcases h.own.2 with ⟨e, h0⟩ | ⟨g, cap, cur, e, _⟩
  · exact .inl (List.length_eq_zero_iff.1 h0)
  · cases e; exact own_frees h.own
/-- New of a cluster that may be. -/
theorem new_ok (A : Option Addr) (c B : Nat) (ns : List (List (Int × Int))) (w : World) (h : Nodes w B A ns) (hB : B ≤ w.heap.size) (hok : cluOk ns = true) :
    Calls Tryz.prog 75 #[.agg #[.slice A ns.length c]] w fun e w' => ∃ a, e = .returned (.tuple #[.pointer (some ⟨a, 0, none⟩), .int .i64 0]) ∧ TopoAt w' a ns.length (frees ns) ∧ Below w.heap.size w w' := by
  obtain ⟨x, hx⟩ := get_lt (l := ns) (k := 0) (by have := cluOk_len hok; omega)
  obtain ⟨b, off, rfl, hb, hc⟩ := h.at_ hx
  exact (new_loop b off c B _ ns rfl w hb hc hB hok).mono fun e w' ⟨a, m, v, he, hH, hb⟩ => ⟨a, he, hH.done, hb⟩

theorem nodes_any (a k : Nat) (l : List Fr) (w : World) (h : TopoAt w a k l) :
    Calls Tryz.prog 148 #[.pointer (some ⟨a, 0, none⟩)] w fun e w' => e = .returned (.int .i64 (k : Nat)) ∧ w = w' := by
  obtain ⟨m, A, c, h1, h2, h3⟩ := h
  have c0 : w.cell? ⟨a, 0, none⟩ = some (.int .i64 (k : Nat)) := cell_blk (i := 0) h1 rfl
  clear h1 h2 h3
  go_enter Tryz.func148, Tryz.ntmps148
  go_wp2
  go_ret
  exact ⟨rfl, rfl⟩
set_option maxHeartbeats 1000000 in
theorem index_core (a m : Nat) (x y : Int) (r : Nat) (b : Bool) (w : World) (c2 : w.cell? ⟨a, 2, none⟩ = some (.map (some m)))
    (hl : ∀ n, (Instr.lookup 179 (.map (some m)) (.agg #[.int .i64 x, .int .i64 y]) true).run Tryz.prog ((w.alloc (.cells #[.int .i64 x, .int .i64 y] 38)).drewN n) = .ok (.tuple #[.int .i64 (r : Nat), .bool b]) ((w.alloc (.cells #[.int .i64 x, .int .i64 y] 38)).drewN n)) (ha : a < w.heap.size) :
    Calls Tryz.prog 169 #[.pointer (some ⟨a, 0, none⟩), .agg #[.int .i64 x, .int .i64 y]] w fun e w' => e = .returned (.tuple #[.int .i64 (r : Nat), .bool b]) ∧ Below w.heap.size w w' := by
  have c3 : (w.alloc (.cells #[.int .i64 x, .int .i64 y] 38)).cell? ⟨a, 2, none⟩ = some (.map (some m)) := (((Below.refl w.heap.size w).alloc (Nat.le_refl _) _).cell (p := ⟨a, 2, none⟩) ha).trans c2
  go_enter Tryz.func169, Tryz.ntmps169
  go_wp2_with fail
  go_quiet (fail)
  go_wp2
  go_ret2
  exact ⟨rfl, below_drewN ((Below.refl _ _).alloc (Nat.le_refl _) _) _⟩
theorem index_hit (a k i : Nat) (f : Fr) (l : List Fr) (w : World) (h : TopoAt w a k l) (hi : l[i]? = some f) (hn : (l.map spOf).Nodup) :
    Calls Tryz.prog 169 #[.pointer (some ⟨a, 0, none⟩), .agg #[.int .i64 (f.n : Nat), .int .i64 (f.d : Nat)]] w fun e w' => e = .returned (.tuple #[.int .i64 (i : Nat), .bool true]) ∧ Below w.heap.size w w' := by
  obtain ⟨m, A, c, h1, h2, h3⟩ := h
  refine index_core a m _ _ i true w (cell_blk (i := 2) h1 rfl) (fun n => ?_) (blk_lt h1)
  have h4 : MapAt ((w.alloc (.cells #[.int .i64 (f.n : Nat), .int .i64 (f.d : Nat)] 38)).drewN n) m (l.map spOf) := h3.of_block (Below.heap_alloc w _ m h3.lt)
  exact h4.look_hit (s := spOf f) (by rw [List.getElem?_map, hi]; rfl) hn
theorem index_miss (a k : Nat) (x y : Int) (l : List Fr) (w : World) (h : TopoAt w a k l) (hx : (Lit.int .i64 x).wf = true) (hy : (Lit.int .i64 y).wf = true) (hno : ∀ f ∈ l, ¬ ((f.n : Int) = x ∧ (f.d : Int) = y)) :
    Calls Tryz.prog 169 #[.pointer (some ⟨a, 0, none⟩), .agg #[.int .i64 x, .int .i64 y]] w fun e w' => e = .returned (.tuple #[.int .i64 (0 : Nat), .bool false]) ∧ Below w.heap.size w w' := by
  obtain ⟨m, A, c, h1, h2, h3⟩ := h
  refine index_core a m _ _ 0 false w (cell_blk (i := 2) h1 rfl) (fun n => ?_) (blk_lt h1)
  have h4 : MapAt ((w.alloc (.cells #[.int .i64 x, .int .i64 y] 38)).drewN n) m (l.map spOf) := h3.of_block (Below.heap_alloc w _ m h3.lt)
  refine h4.look_miss hx hy fun s hs => ?_
  obtain ⟨f, hf, rfl⟩ := List.mem_map.1 hs
  exact hno f hf
theorem box4 (w : World) (o : Obj) (v0 v1 v2 v3 : Value) (t : TypeId) (w2 : World) (hb : Below ((w.alloc o).alloc (.cells #[v0, v1, v2, v3] t)).heap.size ((w.alloc o).alloc (.cells #[v0, v1, v2, v3] t)) w2) :
    w2.cell? ⟨w.heap.size + 1, 0, none⟩ = some v0 ∧ w2.cell? ⟨w.heap.size + 1, 1, none⟩ = some v1 ∧ w2.cell? ⟨w.heap.size + 1, 2, none⟩ = some v2 ∧ w2.cell? ⟨w.heap.size + 1, 3, none⟩ = some v3 ∧
    w2.frozen? ⟨w.heap.size + 1, 0, none⟩ = false ∧ w2.frozen? ⟨w.heap.size + 1, 1, none⟩ = false ∧ w2.frozen? ⟨w.heap.size + 1, 2, none⟩ = false ∧ w2.frozen? ⟨w.heap.size + 1, 3, none⟩ = false := by
  have h : w2.heap[w.heap.size + 1]? = some (.cells #[v0, v1, v2, v3] t (0, 0)) := by
    refine (hb.block _ (by simp)).trans ?_
    have := heap_alloc_new (w.alloc o) (.cells #[v0, v1, v2, v3] t)
    simpa using this
  exact ⟨cell_blk (i := 0) h rfl, cell_blk (i := 1) h rfl, cell_blk (i := 2) h rfl, cell_blk (i := 3) h rfl, frozen_blk h, frozen_blk h, frozen_blk h, frozen_blk h⟩
set_option maxRecDepth 100000 in
set_option maxHeartbeats 1000000 in
theorem at_hit (a k i : Nat) (f : Fr) (l : List Fr) (w : World) (h : TopoAt w a k l) (hi : l[i]? = some f) (hn : (l.map spOf).Nodup) :
    Calls Tryz.prog 142 #[.pointer (some ⟨a, 0, none⟩), .agg #[.int .i64 (f.n : Nat), .int .i64 (f.d : Nat)]] w fun e w' => e = .returned (.tuple #[.agg #[.int .i64 (f.n : Nat), .int .i64 (f.d : Nat), .int .u64 (f.m : Nat), .int .i64 (f.c : Nat)], .int .i64 0]) ∧ Below w.heap.size w w' := by
  have hI := Lib.hid (fun W (hW : Below w.heap.size w W) => index_hit a k i f l W (h.keep hW) hi hn)
  have hil : i < l.length := (List.getElem?_eq_some_iff.1 hi).1
  have hT := Lib.hid h
  obtain ⟨m, A, c, h1, h2, h3⟩ := h
  obtain ⟨b, off, rfl, hb, hc⟩ := h2.at_ hi
  obtain ⟨n, hln⟩ : ∃ n, l.length = n := ⟨_, rfl⟩
  rw [hln] at h1 hil
  have hF := Lib.hid (hc i f hi)
  have ha := blk_lt h1
  have H1 := Lib.hid h1
  clear h1 h2 h3 hc hi hn hln
  have hB0 := ((Below.refl w.heap.size w).alloc (Nat.le_refl _) (.cells #[.int .i64 (f.n : Nat), .int .i64 (f.d : Nat)] 38)).alloc (by simp) (.cells #[.int .i64 0, .int .i64 0, .int .u64 0, .int .i64 0] 130)
  go_enter Tryz.func142, Tryz.ntmps142
  go_wp2_with (go_at_call 169; refine (hI.out _ hB0).mono ?_; rintro e w2 ⟨rfl, hb2⟩; have hBw := below_step hB0 hb2; have c1 : w2.cell? ⟨a, 1, none⟩ = some (.slice (some ⟨b, off, none⟩) n c) := (hBw.cell (p := ⟨a, 1, none⟩) ha).trans (cell_blk (i := 1) H1.out rfl); obtain ⟨f0, f1, f2, f3⟩ := hF.out.keep hb hBw; obtain ⟨z0, z1, z2, z3, y0, y1, y2, y3⟩ := box4 w _ _ _ _ _ _ w2 hb2)
  refine bodyPost_ret (v := .tuple #[.agg #[.int .i64 (f.n : Nat), .int .i64 (f.d : Nat), .int .u64 (f.m : Nat), .int .i64 (f.c : Nat)], .int .i64 0]) (by simp [results, Tryz.results142, go_sem, z0, z1, z2, z3]) rfl ?_
  exact ⟨rfl, (((hBw.setCell (by simp) _).setCell (by simp) _).setCell (by simp) _).setCell (by simp) _⟩
set_option maxRecDepth 100000 in
set_option maxHeartbeats 1000000 in
theorem at_miss (a k : Nat) (x y : Int) (l : List Fr) (w : World) (h : TopoAt w a k l) (hx : (Lit.int .i64 x).wf = true) (hy : (Lit.int .i64 y).wf = true) (hno : ∀ f ∈ l, ¬ ((f.n : Int) = x ∧ (f.d : Int) = y)) :
    Calls Tryz.prog 142 #[.pointer (some ⟨a, 0, none⟩), .agg #[.int .i64 x, .int .i64 y]] w fun e w' => e = .returned (.tuple #[.agg #[.int .i64 0, .int .i64 0, .int .u64 0, .int .i64 0], .int .i64 3]) ∧ Below w.heap.size w w' := by
  have hI := Lib.hid (fun W (hW : Below w.heap.size w W) => index_miss a k x y l W (h.keep hW) hx hy hno)
  clear h hx hy hno
  have hB0 := ((Below.refl w.heap.size w).alloc (Nat.le_refl _) (.cells #[.int .i64 x, .int .i64 y] 38)).alloc (by simp) (.cells #[.int .i64 0, .int .i64 0, .int .u64 0, .int .i64 0] 130)
  go_enter Tryz.func142, Tryz.ntmps142
  go_wp2_with (go_at_call 169; refine (hI.out _ hB0).mono ?_; rintro e w2 ⟨rfl, hb2⟩; have hBw := below_step hB0 hb2; obtain ⟨z0, z1, z2, z3, y0, y1, y2, y3⟩ := box4 w _ _ _ _ _ _ w2 hb2)
  refine bodyPost_ret (v := .tuple #[.agg #[.int .i64 0, .int .i64 0, .int .u64 0, .int .i64 0], .int .i64 3]) (by simp [results, Tryz.results142, go_sem, z0, z1, z2, z3]) rfl ?_
  exact ⟨rfl, (((hBw.setCell (by simp) _).setCell (by simp) _).setCell (by simp) _).setCell (by simp) _⟩

/-! ### All -/
/-- 'copy' over the whole of a block that the call has made, whatever an element's size. -/
theorem run_copy_whole {P : Program} (w : World) (dT sT ty elem : TypeId) (i : TypeInfo) (g n dCap : Nat) (a : Addr) (sCap size : Nat) (cur : Array Value) (t : TypeId) (cs : List Value)
    (hu : P.underlying dT = some (.slice elem)) (hi : P.info? elem = some i) (hs : i.size = size) (hg : w.heap[g]? = some (.cells cur t (0, 0))) (hc : cs.length = n * size) (hz : cur.size = n * size)
    (hsrc : ∀ j v, cs[j]? = some v → w.cell? (a.add j) = some v) (h1 : ∀ v ∈ cs, v.oneCell' = true) :
    (Builtin.copy_ #[dT, sT] ty #[.slice (some ⟨g, 0, none⟩) n dCap, .slice (some a) n sCap]).run P w = .ok (goInt n) (w.setRow g cs.toArray) := by
  have hl := run_firstCells_some (P := P) w size n a n sCap cs hc hsrc
  have hst := run_storeCells_at P g 0 t cs 0 cur w hg (by omega) h1
  have e : cur.toList.take (0 + 0) ++ cs ++ cur.toList.drop (0 + 0 + cs.length) = cs := by
    rw [List.drop_of_length_le (by simp; omega)]; simp
  rw [e] at hst
  simp [Builtin.copy_, run_underlying hu, Builtin.lenOf, sizeOf, typeInfo, hi, hs, hl, hst]
theorem wpList_copy_whole {P : Program} {w : World} {ops : Array Oper} {rest : List Oper} {o : Oper} {a : Act} {Q : Exit → Act → World → Prop} (hgd : o.guard = none) (d s : Operand) (dT sT : TypeId)
    (ho : o.op = .call { callee := .builtin .copy, args := #[d, s], argTypes := #[dT, sT] }) (elem : TypeId) (i : TypeInfo) (size : Nat) (hu : P.underlying dT = some (.slice elem)) (hi : P.info? elem = some i) (hs : i.size = size)
    (g n dCap sCap : Nat) (ad : Addr) (hd : a.eval d = .slice (some ⟨g, 0, none⟩) n dCap) (hsv : a.eval s = .slice (some ad) n sCap)
    (cur : Array Value) (t : TypeId) (cs : List Value) (hg : w.heap[g]? = some (.cells cur t (0, 0))) (hc : cs.length = n * size) (hz : cur.size = n * size)
    (hsrc : ∀ j v, cs[j]? = some v → w.cell? (ad.add j) = some v) (h1 : ∀ v ∈ cs, v.oneCell' = true)
    (h : wpList P ops Q rest (a.put o.dst (goInt n)) (w.setRow g cs.toArray)) : wpList P ops Q (o :: rest) a w := by
  refine wpList_plain hgd fun K hK => ?_
  have hrun := run_copy_whole (P := P) w dT sT o.type elem i g n dCap ad sCap size cur t cs hu hi hs hg hc hz hsrc h1
  unfold Oper.wp
  simp [execOp, ho, resolve, invoke, builtin, hd, hsv, hrun, Result.andThen]
  exact hK _ _ h
end Go.Proofs.YtkhbbfpajiimaaaGreat
