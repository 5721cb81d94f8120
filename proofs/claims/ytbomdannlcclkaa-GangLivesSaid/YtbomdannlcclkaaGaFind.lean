/- Gangs: a book in memory; where the record of an Id stands. -/
import Derived.Test.YtbomdannlcclkaaGaIter
set_option linter.unusedVariables false
namespace Go.Proofs.Ytbomdannlcclkaa
open Go.RowKit Go.Shelf
attribute [local go_sem] Oper.semAt_some
/-- A book at block p: its records are V. -/
structure GaAt (T : TypeId) (w : World) (p : Nat) (V : Value) (L : List Rc) : Prop where
  obj : w.heap[p]? = some (.cells #[V] T (0, 0))
  own : w.ownsRow 0 42 16 V L.length (L.flatMap rcC)
  ap : ∀ b, V.ownBlock = some b → b ≠ p
  len : L.length ≤ 4096
section
variable {T : TypeId} {w w' : World} {p : Nat} {V : Value} {L : List Rc}
theorem GaAt.lt (h : GaAt T w p V L) : ∀ i, i = p ∨ V.ownBlock = some i → i < w.heap.size := by
  rintro i (rfl | hb)
  · exact blk_lt h.obj
  · exact (h.own.lt i hb).2
theorem GaAt.of (h : GaAt T w p V L) (e : ∀ i, i = p ∨ V.ownBlock = some i → w'.heap[i]? = w.heap[i]?) : GaAt T w' p V L :=
  ⟨(e p (.inl rfl)).trans h.obj, own_stays h.own fun i hi => e i (.inr hi), h.ap, h.len⟩
theorem GaAt.keep (h : GaAt T w p V L) (hk : Below w.heap.size w w') : GaAt T w' p V L := h.of fun i hi => hk.block i (h.lt i hi)
theorem GaAt.head (h : GaAt T w p V L) : w.cell? ⟨p, 0, none⟩ = some V := cell_blk (i := 0) h.obj rfl
/-- What its slice is. -/
theorem own_slc (h : w.ownsRow 0 42 16 V L.length (L.flatMap rcC)) : ∃ A g c, V = .slice A L.length c ∧ L.length ≤ c ∧ c ≤ maxLen ∧ RsAt w A g L ∧ (A = none ∧ g = 0 ∨ A = some ⟨g, 0, none⟩ ∧ V.ownBlock = some g) ∧ Els rcC 16 w w.heap.size A L ∧ (L ≠ [] → A = some ⟨g, 0, none⟩ ∧ V.ownBlock = some g) := by
  obtain ⟨A, c, e⟩ := own_formE h
  have ho := h
  rw [e] at ho
  have hE := (els_own rcC_len ho rfl).1
  rcases h.2 with ⟨e1, e2⟩ | ⟨b, cap, cu, e1, h5, h6, h7, h8, h9⟩
  · rw [e] at e1; injection e1 with e3 e4 e5
    subst e3
    have h0 : L = [] := List.eq_nil_of_length_eq_zero e4
    refine ⟨none, 0, c, e, by omega, by unfold maxLen; omega, fun k x hx => ?_, .inl ⟨rfl, rfl⟩, hE, fun h => absurd h0 h⟩
    rw [h0] at hx; simp at hx
  · rw [e] at e1; injection e1 with e3 e4 e5
    subst e3
    refine ⟨_, b, c, e, by omega, by omega, fun k x hx => ⟨rfl, blk_lt h6, ?_⟩, .inr ⟨rfl, by rw [e]; rfl⟩, hE, fun _ => ⟨rfl, by rw [e]; rfl⟩⟩
    rcases hE with h0 | ⟨b', off', e', hb', hc'⟩
    · rw [h0] at hx; simp at hx
    · injection e' with e'; injection e' with e1 e2
      subst e1; subst e2
      have := hc' k x hx
      rwa [Nat.zero_add] at this
end
theorem plc_nil {L : List Rc} {id : Int} (h : plc (fun x => decide (x.id = id)) L L.length = []) : GL.hasI L id = false := by
  cases hh : GL.hasI L id
  · rfl
  · obtain ⟨x, hx, hi, hl⟩ := GL.pos_yes hh
    have : GL.pos L id ∈ plc (fun x => decide (x.id = id)) L L.length := by
      unfold plc
      rw [List.mem_filter, List.mem_range]
      exact ⟨hl, by rw [hx]; simpa using hi⟩
    rw [h] at this
    cases this
theorem plc_head {L : List Rc} {id : Int} {k : Nat} (h : [k] <+: plc (fun x => decide (x.id = id)) L L.length) : k = GL.pos L id ∧ GL.hasI L id = true := by
  obtain ⟨t, ht⟩ := h
  have hk : k ∈ plc (fun x => decide (x.id = id)) L L.length := by rw [← ht]; simp
  have hord : (plc (fun x => decide (x.id = id)) L L.length).Pairwise (· < ·) := by
    unfold plc
    exact List.Pairwise.filter _ (List.pairwise_lt_range)
  unfold plc at hk
  rw [List.mem_filter, List.mem_range] at hk
  obtain ⟨hkl, hkx⟩ := hk
  obtain ⟨x, hx⟩ : ∃ x, L[k]? = some x := ⟨_, List.getElem?_eq_getElem hkl⟩
  rw [hx] at hkx
  have hxi : x.id = id := by simpa using hkx
  refine ⟨(GL.pos_at hx hxi fun j y hj hy e => ?_).symm, GL.hasI_true.2 ⟨x, List.mem_of_getElem? hx, hxi⟩⟩
  have hjm : j ∈ plc (fun x => decide (x.id = id)) L L.length := by
    unfold plc
    rw [List.mem_filter, List.mem_range]
    exact ⟨by omega, by rw [hy]; simpa using e⟩
  rw [← ht] at hjm hord
  rcases List.mem_cons.1 (by simpa using hjm) with e1 | e1
  · omega
  · have := (List.pairwise_cons.1 (by simpa using hord)).1 j e1
    omega
/-- What a search tells: nothing, or where the record stands. -/
def FoundG (V : Value) (L : List Rc) (id : Int) (e : Ending) : Prop :=
  (GL.hasI L id = false ∧ e = .returned (.pointer none)) ∨ ∃ g x, V.ownBlock = some g ∧ L[GL.pos L id]? = some x ∧ x.id = id ∧ GL.hasI L id = true ∧ e = .returned (.pointer (some ⟨g, GL.pos L id * 16, none⟩))
set_option maxHeartbeats 2000000 in
theorem askp_any (A : Option Addr) (n c : Nat) (fs ft : Fn) (cs : Array Value) (w : World) : Calls Try.prog 51 #[.slice A n c, .func fs #[] cs, .func ft #[] #[]] w fun e w' =>
    e = .returned (.func (.func 54) #[] #[.pointer (some ⟨w.heap.size, 0, none⟩), .pointer (some ⟨w.heap.size + 1, 0, none⟩), .pointer (some ⟨w.heap.size + 2, 0, none⟩)]) ∧
      w'.heap.size = w.heap.size + 3 ∧ w'.cell? ⟨w.heap.size, 0, none⟩ = some (.slice A n c) ∧ w'.cell? ⟨w.heap.size + 1, 0, none⟩ = some (.func fs #[] cs) ∧ w'.cell? ⟨w.heap.size + 2, 0, none⟩ = some (.func ft #[] #[]) ∧ Below w.heap.size w w' := by
  go_enter Try.func51, Try.ntmps51
  go_wp2
  go_ret
  have e0 : ∀ (W : World) (o : Obj), (W.alloc o).heap.size = W.heap.size + 1 := fun W o => by simp
  have b0 := heap_alloc_new w (.cells #[.slice A n c] 34)
  have b1 := heap_alloc_new (w.alloc (.cells #[.slice A n c] 34)) (.cells #[.func fs #[] cs] 73)
  have b2 := heap_alloc_new ((w.alloc (.cells #[.slice A n c] 34)).alloc (.cells #[.func fs #[] cs] 73)) (.cells #[.func ft #[] #[]] 92)
  rw [e0] at b1
  rw [e0, e0] at b2
  have f0 := (Below.heap_alloc ((w.alloc (.cells #[.slice A n c] 34)).alloc (.cells #[.func fs #[] cs] 73)) (.cells #[.func ft #[] #[]] 92) w.heap.size (by rw [e0, e0]; omega)).trans ((Below.heap_alloc _ (.cells #[.func fs #[] cs] 73) _ (by rw [e0]; omega)).trans b0)
  have f1 := (Below.heap_alloc ((w.alloc (.cells #[.slice A n c] 34)).alloc (.cells #[.func fs #[] cs] 73)) (.cells #[.func ft #[] #[]] 92) (w.heap.size + 1) (by rw [e0, e0]; omega)).trans b1
  exact ⟨rfl, by rw [e0, e0, e0], cell_blk (i := 0) f0 rfl, cell_blk (i := 0) f1 rfl, cell_blk (i := 0) b2 rfl, (((Below.refl w.heap.size w).alloc (Nat.le_refl _) _).alloc (by simp) _).alloc (by simp; omega) _⟩
set_option maxHeartbeats 2000000 in
theorem askr_any (A : Option Addr) (n c : Nat) (fs ft : Fn) (cs : Array Value) (w : World) : Calls Try.prog 35 #[.slice A n c, .func fs #[] cs, .func ft #[] #[]] w fun e w' =>
    e = .returned (.func (.func 49) #[] #[.pointer (some ⟨w.heap.size, 0, none⟩), .pointer (some ⟨w.heap.size + 1, 0, none⟩), .pointer (some ⟨w.heap.size + 2, 0, none⟩)]) ∧
      w'.heap.size = w.heap.size + 3 ∧ w'.cell? ⟨w.heap.size, 0, none⟩ = some (.slice A n c) ∧ w'.cell? ⟨w.heap.size + 1, 0, none⟩ = some (.func fs #[] cs) ∧ w'.cell? ⟨w.heap.size + 2, 0, none⟩ = some (.func ft #[] #[]) ∧ Below w.heap.size w w' := by
  go_enter Try.func35, Try.ntmps35
  go_wp2
  go_ret
  have e0 : ∀ (W : World) (o : Obj), (W.alloc o).heap.size = W.heap.size + 1 := fun W o => by simp
  have b0 := heap_alloc_new w (.cells #[.slice A n c] 34)
  have b1 := heap_alloc_new (w.alloc (.cells #[.slice A n c] 34)) (.cells #[.func fs #[] cs] 73)
  have b2 := heap_alloc_new ((w.alloc (.cells #[.slice A n c] 34)).alloc (.cells #[.func fs #[] cs] 73)) (.cells #[.func ft #[] #[]] 78)
  rw [e0] at b1
  rw [e0, e0] at b2
  have f0 := (Below.heap_alloc ((w.alloc (.cells #[.slice A n c] 34)).alloc (.cells #[.func fs #[] cs] 73)) (.cells #[.func ft #[] #[]] 78) w.heap.size (by rw [e0, e0]; omega)).trans ((Below.heap_alloc _ (.cells #[.func fs #[] cs] 73) _ (by rw [e0]; omega)).trans b0)
  have f1 := (Below.heap_alloc ((w.alloc (.cells #[.slice A n c] 34)).alloc (.cells #[.func fs #[] cs] 73)) (.cells #[.func ft #[] #[]] 78) (w.heap.size + 1) (by rw [e0, e0]; omega)).trans b1
  exact ⟨rfl, by rw [e0, e0, e0], cell_blk (i := 0) f0 rfl, cell_blk (i := 0) f1 rfl, cell_blk (i := 0) b2 rfl, (((Below.refl w.heap.size w).alloc (Nat.le_refl _) _).alloc (by simp) _).alloc (by simp; omega) _⟩
/-- A pointer is told: it lies in a block. -/
theorem results_ptr {fn : Func} {q : Tmp} (h : fn.results = #[.cell q 72]) (tmps : Array Value) (w : World) (g : Nat) (a : Option Addr)
    (hp : tmps.getD q undef = .pointer (some ⟨g, 0, none⟩)) (hg : w.cell? ⟨g, 0, none⟩ = some (.pointer a)) : (results fn tmps).run Try.prog w = .ok (.pointer a) w := by
  have hp' : tmps[q]?.getD undef = .pointer (some ⟨g, 0, none⟩) := by simpa using hp
  have ha : (isAgg 72).run Try.prog w = .ok false w := by
    unfold isAgg
    rw [Sem.run_bind, run_underlying Try.underlying72 w]
    simp
  simp [results, h, hp', asAddr, loadVar, ha, hg, go_sem]
set_option maxRecDepth 100000 in
set_option maxHeartbeats 4000000 in
theorem find_any (T : TypeId) (p : Nat) (V : Value) (L : List Rc) (id : Int) (w : World) (h : GaAt T w p V L) :
    Calls Try.prog 38 #[.pointer (some ⟨p, 0, none⟩), .int .i64 id] w fun e w' => FoundG V L id e ∧ Below w.heap.size w w' := by
  obtain ⟨A, g, c, hV, hc1, hc2, hR, hA, hEl, hA2⟩ := own_slc h.own
  have c0 := h.head
  have hl := h.len
  have lp := h.lt p (.inl rfl)
  have h1 : (1 : Nat) ≤ 8 := by omega
  have h1' : (1 : Nat) ≤ 8 - 1 := by omega
  rw [hV] at c0
  have HV := Lib.hid (And.intro hV (And.intro hA2 hA))
  have HH := Lib.hid h
  have HR := Lib.hid hR
  clear hV hA hA2 hEl hR h
  refine (callsIn_wide (n := 8)).1 ?_
  refine callsIn_of_wp_marks Try.func38 rfl trivial ?_ rfl
  simp only [Try.ntmps38, List.size_toArray, List.length_cons, List.length_nil, Nat.reduceAdd, Nat.reduceSub, Array.replicate_succ, Array.replicate_zero, List.push_toArray, List.append_toArray, List.nil_append, List.cons_append]
  gi_wp2_with fail
  obtain ⟨w2, hw2⟩ : ∃ w2, w2 = ((w.alloc (.cells #[.int .i64 id] 3)).alloc (.cells #[.pointer none] 72)) := ⟨_, rfl⟩
  rw [← hw2]
  obtain ⟨M, hM⟩ : ∃ M, M = w.heap.size := ⟨_, rfl⟩
  have z1 : (w.alloc (.cells #[.int .i64 id] 3)).heap.size = M + 1 := by rw [hM]; simp
  have z2 : w2.heap.size = M + 2 := by rw [hw2, hM]; simp
  have hB2 : Below M w w2 := by rw [hw2, hM]; exact ((Below.refl w.heap.size w).alloc (Nat.le_refl _) _).alloc (by simp) _
  have bS : Boxed w2 M 3 (.int .i64 id) := by
    rw [hw2]
    refine Boxed.alloc ?_ _
    rw [hM]; exact Boxed.new w _ _
  have bR : Boxed w2 (M + 1) 72 (.pointer none) := by
    have := Boxed.new (w.alloc (.cells #[.int .i64 id] 3)) 72 (.pointer none)
    rw [z1] at this
    rw [hw2]; exact this
  rw [← hM]
  refine ⟨trivial, ?_⟩
  refine (callsIn_wide.2 (askp_any A L.length c _ _ _ w2)).mono ?_
  rintro e w3 ⟨rfl, z3, d0, d1, d2, hb3⟩
  rw [z2] at z3 d0 d1 d2 hb3 ⊢
  have bS3 : w3.cell? ⟨M, 0, none⟩ = some (.int .i64 id) := (hb3.cell (p := ⟨M, 0, none⟩) (by show M < M + 2; omega)).trans bS.cell
  have bR3 : Boxed w3 (M + 1) 72 (.pointer none) := (hb3.block (M + 1) (by omega)).trans bR
  have hB3 : Below M w w3 := hB2.trans (hb3.mono (by omega))
  have hlp : ∀ i, i < w.heap.size → w3.heap[i]? = w.heap[i]? := fun i hi => hB3.block i (by omega)
  have hR3 : RsAt w3 A g L := fun k x hx => by
    obtain ⟨a1, a2, a3⟩ := HR.out k x hx
    exact ⟨a1, Nat.lt_of_lt_of_le a2 (by have := hB3.size; omega), a3.of (hlp g a2)⟩
  have hgM : g < M + 5 := by
    rcases HV.out.2.2 with ⟨_, h0⟩ | ⟨_, h0⟩
    · omega
    · have := HH.out.lt g (.inr h0); omega
  have HM := Lib.hid hM
  have hMw : M ≤ w.heap.size := by omega
  clear hw2 z1 bS bR hb3 hlp hB2 z2 hM
  gi_wp2
  have z3' : w3.heap.size = M + 5 := by omega
  clear z3
  refine wpIn_rangeFunc_ownF rfl h1 (gf := 54) (lb := #[.pointer (some ⟨M + 2, 0, none⟩), .pointer (some ⟨M + 2 + 1, 0, none⟩), .pointer (some ⟨M + 2 + 2, 0, none⟩)]) rfl trivial (enters_of Try.func54 (by kernel_rfl) rfl)
    (encs := fun k : Nat => #[Value.pointer (some ⟨g, k * 16, none⟩)]) (S := fun ys => ys = plc (fun x => decide (x.id = id)) L L.length) (Sp := fun pre => pre <+: plc (fun x => decide (x.id = id)) L L.length) (N := L.length) (Kp := Below (M + 5)) (w0 := w3)
    (fun l J Jx W hW hJ hJx hY h0 => ?iter) (belowK_t (n₀ := M + 5)) (belowK_b (n₀ := M + 5) (w := w3) (by omega)) (Below.refl _ w3) (fun _ => rfl)
    (fun (pre : List Nat) W => (pre = [] ∧ Boxed W (M + 1) 72 (.pointer none)) ∧ Below M w W)
    (fun cd pre W => (cd = .ret ∧ ∃ k, pre = [k] ∧ Boxed W (M + 1) 72 (.pointer (some ⟨g, k * 16, none⟩))) ∧ Below M w W)
    (OwnFrom.and (Own.from (fun s A B row hs hg hr => ⟨hs.1, boxed_own _ _ _ _ _ _ _ hs.2 hg hr⟩) _) (ownFrom_below (w₀ := w) (by omega) (by omega)))
    (fun cd => OwnFrom.and (Own.from (fun s A B row hs hg hr => by
      obtain ⟨hc, k, hl, hb⟩ := hs
      exact ⟨hc, k, hl, boxed_own _ _ _ _ _ _ _ hb hg hr⟩) _) (ownFrom_below (w₀ := w) (by omega) (by omega)))
    ⟨⟨rfl, bR3⟩, hB3⟩
    (fun (y : Nat) => { tmps := #[.pointer (some ⟨p, 0, none⟩), .int .i64 id, undef, .pointer (some ⟨M, 0, none⟩), .pointer (some ⟨M + 1, 0, none⟩), .func (.func 50) #[] #[.pointer (some ⟨M, 0, none⟩)], .pointer (some ⟨g, y * 16, none⟩), .func (.func 50) #[] #[.pointer (some ⟨M, 0, none⟩)], .pointer (some ⟨p, 0, none⟩), .pointer (some ⟨p, 0, none⟩), .pointer (some ⟨p, 0, none⟩), .slice A L.length c, .func (.func 50) #[] #[.pointer (some ⟨M, 0, none⟩)],
      .func (.func 54) #[] #[.pointer (some ⟨M + 2, 0, none⟩), .pointer (some ⟨M + 2 + 1, 0, none⟩), .pointer (some ⟨M + 2 + 2, 0, none⟩)], .pointer (some ⟨g, y * 16, none⟩), undef], defers := [] }) ?assign ?body ?done ?stop
  case iter =>
    have hk : ∀ b, b < M + 5 → W.heap[b]? = w3.heap[b]? := fun b hb => hW.block b (by omega)
    exact ask_find (8 - 1) h1' l (M + 2) (M + 5) M id L A g c hl J Jx w W hJ hY (by have := hW.size; omega) (fun k x hx => by
      obtain ⟨a1, a2, a3⟩ := hR3 k x hx
      exact ⟨a1, Nat.lt_of_lt_of_le a2 hW.size, a3.of (hk g hgM)⟩) hgM (by omega) (by omega) ((hW.cell (p := ⟨M, 0, none⟩) (by show M < _; omega)).trans bS3)
      ((hW.cell (p := ⟨M + 2, 0, none⟩) (by show M + 2 < _; omega)).trans d0) ((hW.cell (p := ⟨M + 2 + 1, 0, none⟩) (by show M + 2 + 1 < _; omega)).trans d1) ((hW.cell (p := ⟨M + 2 + 2, 0, none⟩) (by show M + 2 + 2 < _; omega)).trans d2) h0
  case assign =>
    intro l y W K hK
    gi_wp2
    exact hK
  case body =>
    rintro l pre y W ⟨⟨rfl, hb1⟩, hB⟩ _
    have hc1 := hb1.cell
    have hf1 := hb1.frozen
    have H := Lib.hid (And.intro hb1 hB)
    clear hb1 hB bS3 bR3 d0 d1 d2 hB3 hR3
    gi_wp2
    exact ⟨KeepsOthers.setCell _ _ _, ⟨rfl, y, rfl, H.out.1.set _⟩, H.out.2.setCell (p := ⟨M + 1, 0, none⟩) (by show M ≤ M + 1; omega) _⟩
  case done =>
    rintro D ys W hD hys ⟨⟨rfl, hb1⟩, hB⟩ hK
    have hc1 := hb1.cell
    have hf1 := hb1.frozen
    have H := Lib.hid (And.intro hb1 (And.intro hB (plc_nil hys.symm)))
    clear hb1 hB bS3 bR3 d0 d1 d2 hB3 hR3 hys
    gi_wp2
    have hK2 : (W.setCell ⟨M + 1, 0, none⟩ (.pointer none)).heap[D]? = some (.deferred (some [])) := (KeepsOthers.setCell _ _ _).same D _ hK rfl
    refine ⟨by simp, .inl ⟨_, _, rfl, run_takeDeferred hK2, ?_⟩⟩
    have hb2 := (H.out.1.set (.pointer none)).cell
    have hb3 : ((W.setCell ⟨M + 1, 0, none⟩ (.pointer none)).putObj D (.deferred none)).cell? ⟨M + 1, 0, none⟩ = some (.pointer none) := cell_kept hb2 (grownBy_putObj' _ D (.deferred none)) (fun r e => by cases e; exact ⟨_, hK2, rfl⟩)
    refine ⟨.pointer none, results_ptr Try.results38 _ _ (M + 1) none rfl hb3, .inl ⟨H.out.2.2, rfl⟩, ?_⟩
    have e := HM.out
    rw [← e]
    exact (H.out.2.1.setCell (p := ⟨M + 1, 0, none⟩) (by show M ≤ M + 1; omega) _).trans (belowK_b (n₀ := M) (w := w) (by omega) _ D _ _ (by omega) hK2 rfl rfl)
  case stop =>
    rintro D cd pre W hD hpre ⟨⟨rfl, k, rfl, hb1⟩, hB⟩ hK
    have hc1 := hb1.cell
    have hf1 := hb1.frozen
    have H := Lib.hid (And.intro hb1 (And.intro hB (plc_head hpre)))
    clear hb1 hB bS3 bR3 d0 d1 d2 hB3 hR3 hpre
    gi_wp2
    refine ⟨by simp, .inl ⟨_, _, rfl, run_takeDeferred hK, ?_⟩⟩
    have hb3 : (W.putObj D (.deferred none)).cell? ⟨M + 1, 0, none⟩ = some (.pointer (some ⟨g, k * 16, none⟩)) := cell_kept H.out.1.cell (grownBy_putObj' _ D (.deferred none)) (fun r e => by cases e; exact ⟨_, hK, rfl⟩)
    obtain ⟨x, hx, hxi, hxl⟩ := GL.pos_yes H.out.2.2.2
    have hne : L ≠ [] := fun e => by rw [e] at hxl; simp at hxl
    refine ⟨.pointer (some ⟨g, k * 16, none⟩), results_ptr Try.results38 _ _ (M + 1) _ rfl hb3, .inr ⟨g, x, (HV.out.2.1 hne).2, hx, hxi, H.out.2.2.2, by rw [H.out.2.2.1]⟩, ?_⟩
    have e := HM.out
    rw [← e]
    exact H.out.2.1.trans (belowK_b (n₀ := M) (w := w) (by omega) _ D _ _ (by omega) hK rfl rfl)
end Go.Proofs.Ytbomdannlcclkaa
