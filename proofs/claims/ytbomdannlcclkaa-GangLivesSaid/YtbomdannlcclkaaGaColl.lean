/- Gangs: records, collected. -/
import Derived.Test.YtbomdannlcclkaaGaFind
set_option linter.unusedVariables false
namespace Go.Proofs.Ytbomdannlcclkaa
open Go.RowKit Go.Shelf
attribute [local go_sem] Oper.semAt_some
theorem wpListIn_load_rc {F : Fence} {n : Nat} {ops : Array Oper} {rest : List Oper} {o : Oper} {a : Act} {w : World} {Q : Exit → Act → World → Prop} (hgd : o.guard = none) (y : Operand) (ho : o.op = .load 42 y)
    (g off : Nat) (x : Rc) (hy : a.eval y = .pointer (some ⟨g, off, none⟩)) (hx : RcAt w g off x) (h : wpListIn F n Try.prog ops Q rest (a.put o.dst (.agg (rcA x))) w) : wpListIn F n Try.prog ops Q (o :: rest) a w := by
  refine wpListIn_plain hgd fun K hK => ?_
  unfold Oper.wpIn
  refine ⟨by simp [Oper.about, ho], ?_⟩
  rw [Oper.semAt_plain F _ _ (by rw [ho]; intro c hc'; cases hc'), run_load_rc ho hy hx]
  exact hK _ _ h
theorem wpListIn_store_rc {F : Fence} {n : Nat} {ops : Array Oper} {rest : List Oper} {o : Oper} {a : Act} {w : World} {Q : Exit → Act → World → Prop} (hgd : o.guard = none) (x y : Operand) (ho : o.op = .store 42 x y)
    (g : Nat) (z : Rc) (hx : a.eval x = .pointer (some ⟨g, 0, none⟩)) (hy : a.eval y = .agg (rcA z)) (old : Rc) (hg : w.heap[g]? = some (rcO old))
    (h : wpListIn F n Try.prog ops Q rest (a.put o.dst undef) (w.setRow g (rcA z))) : wpListIn F n Try.prog ops Q (o :: rest) a w := by
  refine wpListIn_plain hgd fun K hK => ?_
  unfold Oper.wpIn
  refine ⟨by simp [Oper.about, ho], ?_⟩
  rw [Oper.semAt_plain F _ _ (by rw [ho]; intro c hc'; cases hc')]
  unfold execOp
  simp only [ho, hx, hy, Instr.storeAt, Instr.sureAddr, Sem.run_bind, Sem.run_pure, Result.andThen_ok, run_storeVar_row (P := Try.prog) w g 42 42 (rcA old) (rcA z) hg (by kernel_rfl) rfl (rcA_one z)]
  exact hK _ _ h
theorem rcs_at (w : World) (x : Rc) : ∀ j u, (rcC x)[j]? = some u → (w.alloc (rcO x)).cell? ((⟨w.heap.size, 0, none⟩ : Addr).add j) = some u := fun j u hj => by
  have := rcAt_of (rc_new w x) j u hj
  rwa [Addr.add_lit]
theorem below_setRow {B : Nat} {w w' : World} {g : Nat} (h : Below B w w') (hg : B ≤ g) (cs : Array Value) : Below B w (w'.setRow g cs) :=
  ⟨h.os, h.tape, h.output, by simp; exact h.size, fun i hi => (setRow_other w' g i cs (by omega)).trans (h.block i hi)⟩
theorem keeps_setRow {w : World} {g : Nat} {cs old : Array Value} {t : TypeId} (h : w.heap[g]? = some (.cells old t (0, 0))) : KeepsOthers w (w.setRow g cs) :=
  ⟨by simp, fun k o hk ho => by
    by_cases e : k = g
    · subst e; rw [h] at hk; cases hk; cases ho
    · exact (setRow_other w g k cs e).trans hk⟩
set_option maxRecDepth 100000 in
set_option maxHeartbeats 4000000 in
theorem appseq_any (lb : Array Value) (l : List Rc) (N : Nat) (hl : l.length ≤ 4096) (hN : N ≤ 4096) (w : World)
    (hseq : ∀ W, Below w.heap.size w W → SeqStopsK Fence.wide (8 - 1) Try.prog 49 lb (fun x : Rc => #[rcV x]) (Below w.heap.size) (fun ys => ys = l) (fun pre => pre <+: l) N W) :
    Calls Try.prog 48 #[.slice none 0 0, .func (.func 49) #[] lb] w fun e w' =>
      ∃ v, e = .returned v ∧ w'.ownsRow w.heap.size 42 16 v l.length (l.flatMap rcC) ∧ Below w.heap.size w w' := by
  have h1 : (1 : Nat) ≤ 8 := by omega
  obtain ⟨i0, hi, hz0, hz1, hz2⟩ := info_parts info_rc
  obtain ⟨M, hM⟩ : ∃ M, M = w.heap.size := ⟨_, rfl⟩
  have bO : Boxed (w.alloc (.cells #[.slice none 0 0] 34)) M 34 (.slice none 0 0) := by rw [hM]; exact Boxed.new w _ _
  have hB0 : Below M w (w.alloc (.cells #[.slice none 0 0] 34)) := by rw [hM]; exact (Below.refl _ w).alloc (Nat.le_refl _) _
  have hz : (w.alloc (.cells #[.slice none 0 0] 34)).heap.size = M + 1 := by rw [hM]; simp
  rw [← hM] at hseq ⊢
  have HS := Lib.hid (hseq _ hB0)
  have HM := Lib.hid hM
  have hMw : M ≤ w.heap.size := by omega
  have hrow0 : ∀ W : World, W.ownsRow M 42 16 (.slice none 0 0) 0 [] := fun W => World.ownsRow_nil W M _ _
  have H0 := Lib.hid (And.intro bO (And.intro hB0 hz))
  clear hseq bO hB0
  refine (callsIn_wide (n := 8)).1 ?_
  refine callsIn_of_wp_marks Try.func48 rfl trivial ?_ rfl
  simp only [Try.ntmps48, List.size_toArray, List.length_cons, List.length_nil, Nat.reduceAdd, Nat.reduceSub, Array.replicate_succ, Array.replicate_zero, List.push_toArray, List.append_toArray, List.nil_append, List.cons_append]
  gi_wp2
  obtain ⟨W0, hW0⟩ : ∃ W0, W0 = w.alloc (.cells #[.slice none 0 0] 34) := ⟨_, rfl⟩
  rw [← hM, ← hW0]
  rw [← hW0] at HS H0
  clear hM hW0 hz
  have zW := H0.out.2.2
  refine wpIn_rangeFunc_ownH rfl h1 (gf := 49) (lb := lb) rfl trivial (enters_of Try.func49 (by kernel_rfl) rfl)
    HS.out (belowK_t (n₀ := M)) (belowK_b (n₀ := M) (w := W0) (by omega)) (Below.refl _ W0) (fun _ => rfl)
    (fun (pre : List Rc) W => (∃ v, Boxed W M 34 v ∧ W.ownsRow M 42 16 v pre.length (pre.flatMap rcC) ∧ True) ∧ Below M w W)
    (fun _ _ _ => False)
    (OwnFrom.and (Own.from (holdsRow_own M M 34 42 16 (fun (pre : List Rc) => pre.length) (fun pre => pre.flatMap rcC) (fun _ _ => True)) _) (ownFrom_below (w₀ := w) (by omega) (by omega)))
    (fun _ _ _ _ _ hs _ _ => hs)
    ⟨⟨_, H0.out.1, hrow0 _, trivial⟩, H0.out.2.1⟩
    (fun x a' W => ∃ Bx, M < Bx ∧ W.heap[Bx]? = some (rcO x) ∧ a' = { tmps := #[.slice none 0 0, .func (.func 49) #[] lb, .pointer (some ⟨M, 0, none⟩), undef, .slice none 0 0, .pointer (some ⟨Bx, 0, none⟩), .func (.func 49) #[] lb, .agg (rcA x), undef, undef, undef, undef, undef], defers := [] })
    (fun x a' => Own.from (fun _ X Y row hs hg hr => by
      obtain ⟨Bx, h3, h4, h5⟩ := hs
      exact ⟨Bx, h3, (grownBy_keeps_cells hg hr h4 rfl).trans h4, h5⟩) _) ?assign ?body ?done ?stop
  case assign =>
    rintro l pre x W K ⟨⟨v, hv, hrow, _⟩, hB⟩ hK
    have hMW : M < W.heap.size := hv.lt
    have HV := Lib.hid (And.intro hv (And.intro hrow hB))
    have HZ := Lib.hid (rc_new W GL.zr)
    clear hv hrow hB
    simp only [rcO, rcA, GL.zr] at HZ
    gi_wp2_with (refine wpListIn_store_rc rfl _ _ rfl W.heap.size x rfl rfl GL.zr HZ.out ?_)
    have hst := keeps_setRow (cs := rcA x) HZ.out
    refine hK _ _ (((KeepsOthers.alloc _ _).trans hst).from _) (below_setRow ((Below.refl _ W).alloc (Nat.le_of_lt hMW) _) (Nat.le_of_lt hMW) _) ⟨⟨v, ?_, ?_, trivial⟩, below_setRow (HV.out.2.2.alloc (Nat.le_of_lt hMW) _) (Nat.le_of_lt hMW) _⟩ ⟨W.heap.size, hMW, setRow_rc (old := GL.zr) HZ.out, rfl⟩
    · exact (setRow_other _ _ _ _ (by omega)).trans (HV.out.1.alloc _)
    · refine own_stays (HV.out.2.1.alloc _) fun i hi => setRow_other _ _ _ _ ?_
      have := (HV.out.2.1.lt i hi).2
      omega
  case body =>
    rintro l pre x a' W hl' ⟨r, hr⟩ ⟨⟨v, hv, hrow, _⟩, hB⟩ ⟨Bx, hBx, hx, rfl⟩ hlt
    have hlt' : pre.length < 4096 := Nat.lt_of_lt_of_le hlt hN
    have hc0 := hv.cell
    have hBs : M ≤ W.heap.size := Nat.le_of_lt hv.lt
    have HX := Lib.hid (rcAt_of hx)
    have HR := Lib.hid (rcs_at W x)
    clear hlt hx hr hl'
    gi_wp2_with (first
      | (refine wpListIn_load_rc rfl _ rfl Bx 0 x rfl HX.out ?_; simp only [rcA])
      | (gi_at_builtin; refine wpListIn_append_own _ rfl _ _ 34 rfl M 42 i0 (rcV GL.zr) 16 128 Try.underlying34 hi hz0 hz1 hz2 rfl (by decide) _ _ _ rfl (hrow.alloc (rcO x)) ⟨W.heap.size, 0, none⟩ 1 1 (rcC x) rfl rfl HR.out (rcC_one x) (by unfold maxLen; omega) (by omega) (by simp; omega) ?_; intro v' w1 hown' hgrow _; obtain ⟨g', cap', rfl⟩ := ownsRow_succ hown'; obtain ⟨hv1, hv2, hr2, hk2, hb2⟩ := hv.appended (by decide) hrow hBs (Nat.le_refl M) hown' hgrow; have hc1 := hv1.cell; have hf1 := hv1.frozen))
    exact ⟨hk2.from _, hb2, ⟨_, hv2, by simpa using hr2, trivial⟩, hB.trans hb2⟩
  case done =>
    rintro D ys W hD hys ⟨⟨v, hv, hrow, _⟩, hB⟩ hK
    have hc0 := hv.cell
    have HY := Lib.hid hys
    clear hys
    gi_wp2
    refine ⟨by simp, .inl ⟨_, _, rfl, run_takeDeferred hK, ?_⟩⟩
    rw [HY.out] at hrow
    have eM := HM.out
    exact ⟨_, results_tmp rfl _ _ _, v, rfl, ownsRow_putObj hrow _ hK rfl, hB.trans (belowK_b (n₀ := M) (w := w) (by omega) W D _ _ (by omega) hK rfl rfl)⟩
  case stop =>
    rintro D c pre W _ _ h _
    exact h.elim
theorem own_less {w : World} {B B' k n : Nat} {t : TypeId} {v : Value} {xs : List Value} (h : w.ownsRow B t k v n xs) (hb : B' ≤ B) : w.ownsRow B' t k v n xs := by
  refine ⟨h.1, ?_⟩
  rcases h.2 with h1 | ⟨g, cap, cur, e, h2, h3⟩
  · exact .inl h1
  · exact .inr ⟨g, cap, cur, e, Nat.le_trans hb h2, h3⟩
set_option maxHeartbeats 2000000 in
theorem collect_any (lb : Array Value) (l : List Rc) (N : Nat) (hl : l.length ≤ 4096) (hN : N ≤ 4096) (w : World)
    (hseq : ∀ W, Below w.heap.size w W → SeqStopsK Fence.wide (8 - 1) Try.prog 49 lb (fun x : Rc => #[rcV x]) (Below w.heap.size) (fun ys => ys = l) (fun pre => pre <+: l) N W) :
    Calls Try.prog 34 #[.func (.func 49) #[] lb] w fun e w' =>
      ∃ v, e = .returned v ∧ w'.ownsRow w.heap.size 42 16 v l.length (l.flatMap rcC) ∧ Below w.heap.size w w' := by
  have H := Lib.hid (appseq_any lb l N hl hN w hseq)
  clear hseq
  go_enter Try.func34, Try.ntmps34
  go_wp2_with fail
  refine H.out.mono ?_
  rintro e w' ⟨v, rfl, ho, hb⟩
  have HO := Lib.hid (And.intro ho hb)
  clear ho hb H
  go_wp2
  go_ret
  exact ⟨v, by simp, HO.out⟩
theorem rcp_any (L : List Rc) : rcp anyR L L.length = L := by unfold rcp anyR; simp
theorem rcp_in (L : List Rc) (s : Int) : rcp (fun x => decide (x.st = s)) L L.length = GL.inL L s := by unfold rcp GL.inL; simp
theorem seq_all (w : World) (Bn g c : Nat) (A : Option Addr) (L : List Rc) (hL : L.length ≤ 4096) (hR : RsAt w A g L) (hg : g < w.heap.size) (hBn : Bn + 2 < w.heap.size)
    (d0 : w.cell? ⟨Bn, 0, none⟩ = some (.slice A L.length c)) (d1 : w.cell? ⟨Bn + 1, 0, none⟩ = some (.func (.func 33) #[] #[])) (d2 : w.cell? ⟨Bn + 2, 0, none⟩ = some (.func (.func 36) #[] #[])) :
    ∀ W, Below w.heap.size w W → SeqStopsK Fence.wide (8 - 1) Try.prog 49 #[.pointer (some ⟨Bn, 0, none⟩), .pointer (some ⟨Bn + 1, 0, none⟩), .pointer (some ⟨Bn + 2, 0, none⟩)] (fun x : Rc => #[rcV x]) (Below w.heap.size) (fun ys => ys = L) (fun pre => pre <+: L) L.length W :=
  fun W hW l J Jx W2 hW2 hJ hJx hY h0 => by
    have hb := below_step hW hW2
    have := ask_all (8 - 1) (by omega) l Bn w.heap.size 0 0 L A g c hL J Jx w W2 hJ hY hb.size (hR.keep hb hg) hg hBn
      ((hb.cell (p := ⟨Bn, 0, none⟩) (by show Bn < _; omega)).trans d0) ((hb.cell (p := ⟨Bn + 1, 0, none⟩) (by show Bn + 1 < _; omega)).trans d1) ((hb.cell (p := ⟨Bn + 2, 0, none⟩) (by show Bn + 2 < _; omega)).trans d2) h0
    rw [rcp_any] at this
    exact this
theorem seq_in (w : World) (Bn g c S : Nat) (s : Int) (A : Option Addr) (L : List Rc) (hL : L.length ≤ 4096) (hR : RsAt w A g L) (hg : g < w.heap.size) (hBn : Bn + 2 < w.heap.size) (hS : S < w.heap.size) (hSc : w.cell? ⟨S, 0, none⟩ = some (.int .i64 s))
    (d0 : w.cell? ⟨Bn, 0, none⟩ = some (.slice A L.length c)) (d1 : w.cell? ⟨Bn + 1, 0, none⟩ = some (.func (.func 37) #[] #[.pointer (some ⟨S, 0, none⟩)])) (d2 : w.cell? ⟨Bn + 2, 0, none⟩ = some (.func (.func 36) #[] #[])) :
    ∀ W, Below w.heap.size w W → SeqStopsK Fence.wide (8 - 1) Try.prog 49 #[.pointer (some ⟨Bn, 0, none⟩), .pointer (some ⟨Bn + 1, 0, none⟩), .pointer (some ⟨Bn + 2, 0, none⟩)] (fun x : Rc => #[rcV x]) (Below w.heap.size) (fun ys => ys = GL.inL L s) (fun pre => pre <+: GL.inL L s) L.length W :=
  fun W hW l J Jx W2 hW2 hJ hJx hY h0 => by
    have hb := below_step hW hW2
    have := ask_in (8 - 1) (by omega) l Bn w.heap.size S s L A g c hL J Jx w W2 hJ hY hb.size (hR.keep hb hg) hg hBn hS ((hb.cell (p := ⟨S, 0, none⟩) hS).trans hSc)
      ((hb.cell (p := ⟨Bn, 0, none⟩) (by show Bn < _; omega)).trans d0) ((hb.cell (p := ⟨Bn + 1, 0, none⟩) (by show Bn + 1 < _; omega)).trans d1) ((hb.cell (p := ⟨Bn + 2, 0, none⟩) (by show Bn + 2 < _; omega)).trans d2) h0
    rw [rcp_in] at this
    exact this
set_option maxRecDepth 100000 in
set_option maxHeartbeats 4000000 in
theorem all_any (T : TypeId) (p : Nat) (V : Value) (L : List Rc) (w : World) (h : GaAt T w p V L) :
    Calls Try.prog 17 #[.pointer (some ⟨p, 0, none⟩)] w fun e w' => ∃ A c, e = .returned (.slice A L.length c) ∧ w'.ownsRow w.heap.size 42 16 (.slice A L.length c) L.length (L.flatMap rcC) ∧ Below w.heap.size w w' := by
  obtain ⟨A, g, c, hV, hc1, hc2, hR, hA, hEl, hA2⟩ := own_slc h.own
  have c0 := h.head
  rw [hV] at c0
  have HH := Lib.hid h
  have HA := Lib.hid (askr_any A L.length c (.func 33) (.func 36) #[] w)
  have hgw : g < w.heap.size := by
    rcases hA with ⟨_, h0⟩ | ⟨_, h0⟩
    · have := h.lt p (.inl rfl); omega
    · exact h.lt g (.inr h0)
  have HS := Lib.hid (fun (w3 : World) (hb : Below w.heap.size w w3) (hz : w3.heap.size = w.heap.size + 3) d0 d1 d2 => collect_any _ L L.length h.len h.len w3 (seq_all w3 w.heap.size g c A L h.len (hR.keep hb hgw) (by omega) (by omega) d0 d1 d2))
  clear h hV hR hA hEl hA2
  go_enter Try.func17, Try.ntmps17
  go_wp2_with fail
  refine HA.out.mono ?_
  rintro e w3 ⟨rfl, z3, d0, d1, d2, hb3⟩
  have HC := Lib.hid (HS.out w3 hb3 z3 d0 d1 d2)
  have HB := Lib.hid (And.intro hb3 z3)
  clear HS z3 d0 d1 d2 hb3 HA c0
  go_wp2_with fail
  refine HC.out.mono ?_
  rintro e w4 ⟨v, rfl, ho, hb4⟩
  obtain ⟨A', c', rfl⟩ := own_formE ho
  have HO := Lib.hid (And.intro (own_less ho HB.out.1.size) (below_step HB.out.1 hb4))
  clear ho hb4 HC
  go_wp2
  go_ret
  exact ⟨A', c', by simp, HO.out⟩
set_option maxRecDepth 100000 in
set_option maxHeartbeats 4000000 in
theorem in_any (T : TypeId) (p : Nat) (V : Value) (L : List Rc) (s : Int) (w : World) (h : GaAt T w p V L) :
    Calls Try.prog 18 #[.pointer (some ⟨p, 0, none⟩), .int .i64 s] w fun e w' => ∃ A c, e = .returned (.slice A (GL.inL L s).length c) ∧ w'.ownsRow w.heap.size 42 16 (.slice A (GL.inL L s).length c) (GL.inL L s).length ((GL.inL L s).flatMap rcC) ∧ Below w.heap.size w w' := by
  obtain ⟨A, g, c, hV, hc1, hc2, hR, hA, hEl, hA2⟩ := own_slc h.own
  obtain ⟨M, hM⟩ : ∃ M, M = w.heap.size := ⟨_, rfl⟩
  obtain ⟨w1, hw1⟩ : ∃ w1, w1 = w.alloc (.cells #[.int .i64 s] 3) := ⟨_, rfl⟩
  have z1 : w1.heap.size = M + 1 := by rw [hw1, hM]; simp
  have hB1 : Below w.heap.size w w1 := by rw [hw1]; exact (Below.refl _ w).alloc (Nat.le_refl _) _
  have bS : w1.cell? ⟨M, 0, none⟩ = some (.int .i64 s) := by rw [hw1, hM]; exact cell_blk (i := 0) (heap_alloc_new w _) rfl
  have h1 := h.keep hB1
  have c0 := h1.head
  rw [hV] at c0
  have HA := Lib.hid (askr_any A L.length c (.func 37) (.func 36) #[.pointer (some ⟨M, 0, none⟩)] w1)
  rw [z1] at HA
  have hgw : g < w.heap.size := by
    rcases hA with ⟨_, h0⟩ | ⟨_, h0⟩
    · have := h.lt p (.inl rfl); omega
    · exact h.lt g (.inr h0)
  have hli : (GL.inL L s).length ≤ 4096 := Nat.le_trans (GL.inL_len L s) h.len
  have HS := Lib.hid (fun (w3 : World) (hb : Below (M + 1) w1 w3) (hz : w3.heap.size = M + 1 + 3) d0 d1 d2 => collect_any _ (GL.inL L s) L.length hli h.len w3 (seq_in w3 (M + 1) g c M s A L h.len ((hR.keep hB1 hgw).keep hb (by omega)) (by omega) (by omega) (by omega) ((hb.cell (p := ⟨M, 0, none⟩) (by show M < _; omega)).trans bS) d0 d1 d2))
  have HB1 := Lib.hid (And.intro hB1 (And.intro z1 hM))
  have hw1' := hw1
  rw [hw1] at HA c0
  rw [hw1] at HB1 HS
  clear h hV hR hA hEl hA2 h1 hB1 bS hw1 hw1' z1
  rw [hM] at HA
  have HM := Lib.hid hM
  clear hM
  go_enter Try.func18, Try.ntmps18
  go_wp2_with fail
  refine HA.out.mono ?_
  rintro e w3 ⟨rfl, z3, d0, d1, d2, hb3⟩
  rw [← HM.out] at z3 d0 d1 d2 hb3 ⊢
  have HC := Lib.hid (HS.out w3 hb3 z3 d0 d1 d2)
  have HB := Lib.hid (And.intro (HB1.out.1.trans (hb3.mono (by rw [HM.out]; omega))) z3)
  clear HS z3 d0 d1 d2 hb3 HA c0
  go_wp2_with fail
  refine HC.out.mono ?_
  rintro e w4 ⟨v, rfl, ho, hb4⟩
  obtain ⟨A', c', rfl⟩ := own_formE ho
  have HO := Lib.hid (And.intro (own_less ho HB.out.1.size) (below_step HB.out.1 hb4))
  clear ho hb4 HC
  rw [HM.out] at *
  go_wp2
  go_ret
  exact ⟨A', c', by simp, HO.out⟩
end Go.Proofs.Ytbomdannlcclkaa
