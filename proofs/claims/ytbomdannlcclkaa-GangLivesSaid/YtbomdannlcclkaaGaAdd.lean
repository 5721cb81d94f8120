/- Gangs: Add. -/
import Derived.Deep.AppendLies
import Derived.Deep.DrawnRows
import Derived.Test.YtbomdannlcclkaaHeldTo
import Derived.Test.YtbomdannlcclkaaGaOps
set_option linter.unusedVariables false
namespace Go.Proofs.Ytbomdannlcclkaa
open Go.RowKit
def jbC (j : Jb) : List Value := [.int .i64 j.id, .int .i64 j.q, .int .i64 j.p, .int .i64 j.r, .int .i64 j.g, .int .i64 j.c, .int .i64 j.mn, .int .i64 j.mx]
def jbA (j : Jb) : Array Value := #[.int .i64 j.id, .int .i64 j.q, .int .i64 j.p, .int .i64 j.r, .int .i64 j.g, .int .i64 j.c, .int .i64 j.mn, .int .i64 j.mx]
def jbV (j : Jb) : Value := .agg (jbA j)
theorem run_load_jb {oi : Oper} {ρ : Operand → Value} {W : World} {y : Operand} {g o : Nat} {j : Jb} (ho : oi.op = .load 40 y) (hy : ρ y = .pointer (some ⟨g, o, none⟩)) (h : CellsAt W g o (jbC j)) :
    (execOp ρ oi).run Try.prog W = .ok (.value (.agg #[.int .i64 j.id, .int .i64 j.q, .int .i64 j.p, .int .i64 j.r, .int .i64 j.g, .int .i64 j.c, .int .i64 j.mn, .int .i64 j.mx])) W := by
  have hl : (loadCells ⟨g, o, none⟩ 8).run Try.prog W = .ok #[.int .i64 j.id, .int .i64 j.q, .int .i64 j.p, .int .i64 j.r, .int .i64 j.g, .int .i64 j.c, .int .i64 j.mn, .int .i64 j.mx] W := run_loadCells_list (P := Try.prog) W ⟨g, o, none⟩ (jbC j) fun k v hv => by rw [Addr.add_lit]; exact h k v hv
  have ha : (isAgg 40).run Try.prog W = .ok true W := by
    unfold isAgg
    rw [Sem.run_bind, run_underlying Try.underlying40 W]
    simp
  unfold execOp
  simp only [ho, hy, Instr.loadAt, Instr.sureAddr, Sem.run_bind, Sem.run_pure, Result.andThen_ok, loadVar, ha, if_true, Try.sizeOf40, hl]
theorem GaAt.add {T : TypeId} {w5 w6 w' : World} {p n c gg cap' RB : Nat} {A : Option Addr} {L : List Rc} {r : Rc} {cs : Array Value} (h : GaAt T w5 p (.slice A n c) L) (hn : n = L.length) (hlt : L.length < 4096)
    (hown6 : w6.ownsRow 0 42 16 (.slice (some ⟨gg, 0, none⟩) (n + 1) cap') (n + 1) (L.flatMap rcC ++ rcC r)) (hgrow : (w5.alloc (rcO r)).grownBy w6 (Value.slice A n c).ownBlock) (hat : (Value.slice A n c).ownBlock = some gg ∨ gg = w5.heap.size + 1)
    (hRB : RB < w5.heap.size) (hRp : RB ≠ p) (hRV : ∀ b, (Value.slice A n c).ownBlock = some b → b ≠ RB) (e : w' = (w6.setCell ⟨p, 0, none⟩ (.slice (some ⟨gg, 0, none⟩) (n + 1) cap')).setRow RB cs) :
    GaAt T w' p (.slice (some ⟨gg, 0, none⟩) (n + 1) cap') (L ++ [r]) ∧ Foot (fun i => i = p ∨ (Value.slice A n c).ownBlock = some i ∨ i = RB) w5 w' ∧ ∀ i, (i = p ∨ (Value.slice (some ⟨gg, 0, none⟩) (n + 1) cap').ownBlock = some i) → (i = p ∨ (Value.slice A n c).ownBlock = some i) ∨ w5.heap.size ≤ i := by
  subst e
  have hlp := h.lt p (.inl rfl)
  have hgp : gg ≠ p := by
    rcases hat with e | e
    · exact h.ap gg e
    · omega
  have hgR : gg ≠ RB := by
    rcases hat with e | e
    · exact hRV gg e
    · omega
  have hold : ∀ i, i < w5.heap.size → (Value.slice A n c).ownBlock ≠ some i → w6.heap[i]? = w5.heap[i]? := fun i hi hne => (hgrow.block i (by simp; omega) (Ne.symm hne)).trans (Below.heap_alloc w5 _ i hi)
  have hp6 := (hold p hlp fun e => h.ap p e rfl).trans h.obj
  refine ⟨⟨?_, ?_, ?_, by simp; omega⟩, ?_, ?_⟩
  · exact (setRow_other _ RB p cs (Ne.symm hRp)).trans (blk_put (i := 0) _ hp6)
  · rw [List.length_append, List.length_singleton, ← hn, List.flatMap_append, List.flatMap_singleton]
    refine own_stays hown6 fun i hi => ?_
    have : i = gg := by simpa [Value.ownBlock] using hi.symm
    subst this
    exact (setRow_other _ RB i cs hgR).trans (Below.heap_setCell w6 ⟨p, 0, none⟩ _ i hgp)
  · intro b hb
    have : b = gg := by simpa [Value.ownBlock] using hb.symm
    subst this; exact hgp
  · exact foot_row ((((Foot.refl _ w5).alloc _).grown hgrow fun b hb => .inl (.inr (.inl hb))).setCell (.inl (.inl rfl)) _) (.inl (.inr (.inr rfl))) _
  · rintro i (rfl | hi)
    · exact .inl (.inl rfl)
    · have : i = gg := by simpa [Value.ownBlock] using hi.symm
      subst this
      rcases hat with e | e
      · exact .inl (.inr e)
      · exact .inr (by omega)
set_option maxRecDepth 100000 in
set_option maxHeartbeats 4000000 in
theorem add_any (T : TypeId) (p : Nat) (F : Nat → Prop) (L : List Rc) (j : Jb) (s : Int) (w : World) (h : GaObj T w p F L) :
    Calls Try.prog 24 #[.pointer (some ⟨p, 0, none⟩), jbV j, .int .i64 s] w fun e w' => e = .returned (.tuple #[rcV (GL.addR L j s), .int .i64 (GL.addE L j.id)]) ∧ ∃ F', GaObj T w' p F' (GL.addL L j s) ∧ Foot F w w' ∧ ∀ i, F' i → F i ∨ w.heap.size ≤ i := by
  obtain ⟨V, hV, hF⟩ := h
  obtain ⟨A, g, c, hVs, hc1, hc2, hR, hA, hEl, hA2⟩ := own_slc hV.own
  subst hVs
  obtain ⟨i0, hi, hz0, hz1, hz2⟩ := info_parts info_rc
  obtain ⟨J, hJ⟩ : ∃ J, J = w.heap.size := ⟨_, rfl⟩
  have e0 : ∀ (W : World) (o : Obj), (W.alloc o).heap.size = W.heap.size + 1 := fun W o => by simp
  obtain ⟨wa, hwa⟩ : ∃ wa, wa = w.alloc (.cells (jbA j) 40) := ⟨_, rfl⟩
  have hza : wa.heap.size = J + 1 := by rw [hwa, hJ]; simp
  have hja : wa.heap[J]? = some (.cells (jbA j) 40 (0, 0)) := by rw [hwa, hJ]; exact heap_alloc_new w _
  have hBa : Below J w wa := by rw [hwa, hJ]; exact (Below.refl _ w).alloc (Nat.le_refl _) _
  obtain ⟨w1, hw1⟩ : ∃ w1, w1 = wa.alloc (rcO GL.zr) := ⟨_, rfl⟩
  have hz1' : w1.heap.size = J + 2 := by rw [hw1, e0, hza]
  have hj1 : w1.heap[J]? = some (.cells (jbA j) 40 (0, 0)) := by rw [hw1]; exact (Below.heap_alloc _ _ _ (by omega)).trans hja
  have hr1 : w1.heap[J + 1]? = some (rcO GL.zr) := by rw [hw1, ← hza]; exact rc_new wa _
  have hB1 : Below J w w1 := by rw [hw1]; exact hBa.alloc (by omega) _
  have hV1 := hV.keep (by rw [← hJ]; exact hB1)
  have HF := Lib.hid (find_any T p _ L j.id w1 hV1)
  have HV := Lib.hid (And.intro hV hF)
  have H1 := Lib.hid (And.intro hV1 (And.intro hj1 (And.intro hr1 (And.intro hB1 hz1'))))
  have a0 : w1.cell? ⟨J, 0, none⟩ = some (.int .i64 j.id) := cell_blk hj1 rfl
  have hlen := hV.len
  have hlV : ∀ i, i = p ∨ (Value.slice A L.length c).ownBlock = some i → i < J := fun i hi => by rw [hJ]; exact hV.lt i hi
  have HLV := Lib.hid hlV
  have Same : Hid (∀ w', Below J w w' → GL.addE L j.id ≠ 0 → ∃ F', GaObj T w' p F' (GL.addL L j s) ∧ Foot F w w' ∧ ∀ i, F' i → F i ∨ w.heap.size ≤ i) := Lib.hid (fun w' hw hne => by
    unfold GL.addL; rw [if_neg hne]
    rw [hJ] at hw
    exact ⟨F, ⟨_, hV.keep hw, hF⟩, Foot.of_below hw, fun i hi => .inl hi⟩)
  have HOWN : Hid (∀ W, GaAt T W p (.slice A L.length c) L → ∀ o, (W.alloc o).ownsRow 0 42 16 (.slice A L.length c) L.length (L.flatMap rcC)) := Lib.hid (fun W hW o => hW.own.alloc o)
  obtain ⟨n, hn⟩ : ∃ n, n = L.length := ⟨_, rfl⟩
  rw [← hn] at HF HV H1 HOWN hlen HLV
  have HN := Lib.hid hn
  have HJ := Lib.hid hJ
  rw [hJ] at H1 a0 Same HLV
  rw [hw1, hwa] at H1 HF a0
  clear hn hV hF hR hA hEl hA2 hc1 hz1' hj1 hr1 hB1 hV1 hza hja hBa hwa hw1 e0 hlV hJ
  simp only [rcO, rcA, GL.zr, jbV, jbA] at *
  go_enter Try.func24, Try.ntmps24
  go_wp2_with fail
  refine HF.out.mono ?_
  rintro e w2 ⟨hfo, hb⟩
  have H2 := Lib.hid (And.intro (H1.out.1.keep hb) (And.intro ((hb.block w.heap.size (by have := H1.out.2.2.2.2; omega)).trans H1.out.2.1) (And.intro ((hb.block (w.heap.size + 1) (by have := H1.out.2.2.2.2; omega)).trans H1.out.2.2.1) (And.intro (H1.out.2.2.2.1.trans (hb.mono (by have := H1.out.2.2.2.2; omega))) (show w.heap.size + 2 ≤ w2.heap.size by have := H1.out.2.2.2.2; have := hb.size; omega)))))
  clear hb HF H1 a0
  rcases hfo with ⟨hno, rfl⟩ | ⟨g', x', hg', hx', hxi', hh, rfl⟩
  · by_cases hfull : n = 4096
    · have HE : Hid (GL.addE L j.id = 2) := Lib.hid (by unfold GL.addE; rw [hno, ← HN.out, hfull]; rfl)
      have c0 := H2.out.1.head
      have t1 : ((n : Int) == 4096) = true := by simp [hfull]
      clear hno hfull
      have HZ2 : Hid (w2.heap[w.heap.size + 1]? = some (rcO GL.zr)) := Lib.hid H2.out.2.2.1
      go_wp2_with (refine wpList_store_rc rfl _ _ rfl (w.heap.size + 1) GL.zr rfl rfl GL.zr HZ2.out ?_)
      refine bodyPost_ret (results_rcn Try.results24 _ _ (w.heap.size + 1) GL.zr (.int .i64 2) rfl (setRow_rc (old := GL.zr) HZ2.out) rfl) rfl ?_
      refine ⟨?_, Same.out _ (below_row H2.out.2.2.2.1 (by omega) _) (by rw [HE.out]; decide)⟩
      unfold GL.addR
      rw [HE.out]; rfl
    · have HE : Hid (GL.addE L j.id = 0) := Lib.hid (by unfold GL.addE; rw [hno, ← HN.out, if_neg (by simp), if_neg hfull])
      have t1 : ((n : Int) == 4096) = false := by simp; omega
      have hn2 : n < 4096 := by omega
      have hwr : IntKind.i64.wrap ((n : Int) + 1) = (n : Int) + 1 := IntWalk.i64_in _ (by omega)
      have c0 := H2.out.1.head
      have hj2 : CellsAt w2 w.heap.size 0 (jbC j) := fun k v hv => by rw [Nat.zero_add]; exact cell_blk H2.out.2.1 (by simpa [jbC] using hv)
      have lJ2 : w.heap.size < w2.heap.size := by have := H2.out.2.2.2.2; omega
      have lp2 : p < w2.heap.size := H2.out.1.lt p (.inl rfl)
      clear hno hfull
      go_wp2_with fail
      refine held_begin (fun w' : World => CellsAt w' w.heap.size 0 (jbC j) ∧ w'.cell? ⟨p, 0, none⟩ = some (.slice A n c)) (by kernel_rfl) ?_
      have hBh0 : Below w2.heap.size w2 w2.drew := (Below.refl _ _).drew
      have hSh0 : (fun w' : World => CellsAt w' w.heap.size 0 (jbC j) ∧ w'.cell? ⟨p, 0, none⟩ = some (.slice A n c)) w2.drew := ⟨hj2, c0⟩
      obtain ⟨wd, hwd⟩ : ∃ wd, wd = w2.drew := ⟨_, rfl⟩
      have hzd : wd.heap.size = w2.heap.size := by rw [hwd]; rfl
      rw [← hwd] at hBh0 hSh0 ⊢
      clear hwd
      refine held_take (v := ?_) 0 22 rfl rfl (by kernel_rfl) (by kernel_rfl) (by kernel_rfl) (fun _ _ _ h => h) ⟨by rfl, ?_⟩ hSh0 ?_
      rotate_left
      · intro w' hw'; obtain ⟨x0, x1⟩ := hw'; refine Eq.trans (run_load_jb (by rfl) (by rfl) x0) ?_; (with_reducible rfl)
      simp only [Act.put, List.setIfInBounds_toArray, List.set_cons_zero, List.set_cons_succ]
      refine held_take (v := ?_) 1 23 rfl rfl (by kernel_rfl) (by kernel_rfl) (by kernel_rfl) (fun _ _ _ h => h) ⟨by rfl, ?_⟩ hSh0 ?_
      rotate_left
      · intro w' hw'; obtain ⟨x0, x1⟩ := hw'; go_simp; (try with_reducible rfl)
      simp only [Act.put, List.setIfInBounds_toArray, List.set_cons_zero, List.set_cons_succ]
      refine held_take (v := ?_) 2 24 rfl rfl (by kernel_rfl) (by kernel_rfl) (by kernel_rfl) (fun _ _ _ h => h) ⟨by rfl, ?_⟩ hSh0 ?_
      rotate_left
      · intro w' hw'; obtain ⟨x0, x1⟩ := hw'; go_simp; (try with_reducible rfl)
      simp only [Act.put, List.setIfInBounds_toArray, List.set_cons_zero, List.set_cons_succ]
      refine held_take (v := ?_) 3 25 rfl rfl (by kernel_rfl) (by kernel_rfl) (by kernel_rfl) (fun _ _ _ h => h) ⟨by rfl, ?_⟩ hSh0 ?_
      rotate_left
      · intro w' hw'; obtain ⟨x0, x1⟩ := hw'; go_simp; (try with_reducible rfl)
      simp only [Act.put, List.setIfInBounds_toArray, List.set_cons_zero, List.set_cons_succ]
      refine held_take (v := ?_) 4 26 rfl rfl (by kernel_rfl) (by kernel_rfl) (by kernel_rfl) (fun _ _ _ h => h) ⟨by rfl, ?_⟩ hSh0 ?_
      rotate_left
      · intro w' hw'; obtain ⟨x0, x1⟩ := hw'; go_simp; (try with_reducible rfl)
      simp only [Act.put, List.setIfInBounds_toArray, List.set_cons_zero, List.set_cons_succ]
      refine held_take (v := ?_) 5 27 rfl rfl (by kernel_rfl) (by kernel_rfl) (by kernel_rfl) (fun _ _ _ h => h) ⟨by rfl, ?_⟩ hSh0 ?_
      rotate_left
      · intro w' hw'; obtain ⟨x0, x1⟩ := hw'; go_simp; (try with_reducible rfl)
      simp only [Act.put, List.setIfInBounds_toArray, List.set_cons_zero, List.set_cons_succ]
      refine held_take (v := ?_) 6 28 rfl rfl (by kernel_rfl) (by kernel_rfl) (by kernel_rfl) (fun _ _ _ h => h) ⟨by rfl, ?_⟩ hSh0 ?_
      rotate_left
      · intro w' hw'; obtain ⟨x0, x1⟩ := hw'; go_simp; (try with_reducible rfl)
      simp only [Act.put, List.setIfInBounds_toArray, List.set_cons_zero, List.set_cons_succ]
      refine held_take (v := ?_) 7 29 rfl rfl (by kernel_rfl) (by kernel_rfl) (by kernel_rfl) (fun _ _ _ h => h) ⟨by rfl, ?_⟩ hSh0 ?_
      rotate_left
      · intro w' hw'; obtain ⟨x0, x1⟩ := hw'; go_simp; (try with_reducible rfl)
      simp only [Act.put, List.setIfInBounds_toArray, List.set_cons_zero, List.set_cons_succ]
      refine held_take (v := ?_) 8 30 rfl rfl (by kernel_rfl) (by kernel_rfl) (by kernel_rfl) (fun _ _ _ h => h) ⟨by rfl, ?_⟩ hSh0 ?_
      rotate_left
      · intro w' hw'; obtain ⟨x0, x1⟩ := hw'; go_simp; (try with_reducible rfl)
      simp only [Act.put, List.setIfInBounds_toArray, List.set_cons_zero, List.set_cons_succ]
      refine held_one 9 rfl (by kernel_rfl) (by rfl) (fun K hK => ?_)
      go_simp
      obtain ⟨wh1, hwh1⟩ : ∃ wld, wld = wd.alloc (.cells #[.int .i64 0, .int .i64 0, .int .i64 0, .int .i64 0, .int .i64 0, .int .i64 0, .int .i64 0, .int .i64 0, .int .i64 0, .int .i64 0, .int .i64 0, .int .i64 0, .int .i64 0, .int .i64 0, .int .i64 0, .int .i64 0] 42) := ⟨_, rfl⟩
      have hBh1 : Below w2.heap.size w2 wh1 := by rw [hwh1]; exact hBh0.alloc hBh0.size _
      have hSh1 : (fun w' : World => CellsAt w' w.heap.size 0 (jbC j) ∧ w'.cell? ⟨p, 0, none⟩ = some (.slice A n c)) wh1 := ⟨hj2.keep lJ2 hBh1, (hBh1.cell (p := ⟨p, 0, none⟩) (lp2)).trans c0⟩
      refine hK.out _ _ (show _ from by rw [← hwh1]; exact hSh1) ?_
      clear hK K
      try simp only [Act.put, List.setIfInBounds_toArray, List.set_cons_zero, List.set_cons_succ]
      rw [← hwh1]
      have Hwh1 := Lib.hid hwh1
      clear hwh1
      have hzz : wh1.heap.size = w2.heap.size + 1 := by rw [Hwh1.out]; simp [hzd]
      have hbz : wh1.heap[wd.heap.size]? = some (rcO GL.zr) := by rw [Hwh1.out]; exact rc_new wd GL.zr
      refine held_one 10 rfl (by kernel_rfl) (by rfl) (fun K hK => ?_)
      simp only [Go.wp_at_zero, Go.wp_at_succ]
      have hbz2 : wh1.heap[w2.heap.size]? = some (rcO GL.zr) := by rw [← hzd]; exact hbz
      refine wp_store_row 42 _ _ rfl w2.heap.size (rcA (⟨j.id, j.q, j.p, j.r, j.g, j.c, j.mn, j.mx, 1, s, (n : Int) + 1, 0, 0, 0, 0, 0⟩ : Rc)) rfl rfl 42 (rcA GL.zr) hbz2 (by kernel_rfl) rfl (rcA_one _) ?_
      have hBw := below_row hBh1 (Nat.le_refl _) (rcA (⟨j.id, j.q, j.p, j.r, j.g, j.c, j.mn, j.mx, 1, s, (n : Int) + 1, 0, 0, 0, 0, 0⟩ : Rc))
      have hb4 : (wh1.setRow w2.heap.size (rcA (⟨j.id, j.q, j.p, j.r, j.g, j.c, j.mn, j.mx, 1, s, (n : Int) + 1, 0, 0, 0, 0, 0⟩ : Rc))).heap[w2.heap.size]? = some (rcO (⟨j.id, j.q, j.p, j.r, j.g, j.c, j.mn, j.mx, 1, s, (n : Int) + 1, 0, 0, 0, 0, 0⟩ : Rc)) := setRow_rc (old := GL.zr) hbz2
      obtain ⟨r, hr⟩ : ∃ r : Rc, r = (⟨j.id, j.q, j.p, j.r, j.g, j.c, j.mn, j.mx, 1, s, (n : Int) + 1, 0, 0, 0, 0, 0⟩ : Rc) := ⟨_, rfl⟩
      rw [← hr] at hBw hb4 ⊢
      have Hr := Lib.hid (show GL.newR L j s = r by rw [hr]; unfold GL.newR; rw [← HN.out])
      obtain ⟨w4, hw4⟩ : ∃ w4, w4 = wh1.setRow w2.heap.size (rcA r) := ⟨_, rfl⟩
      rw [← hw4] at hBw hb4 ⊢
      refine hK.out _ _ ⟨hj2.keep lJ2 hBw, (hBw.cell (p := ⟨p, 0, none⟩) lp2).trans c0⟩ ?_
      clear hK K hbz hbz2 hSh0 hSh1 hBh0 hBh1 Hwh1 hr hw4 hzz
      refine wpAnyH_done (by kernel_rfl) ?_ _
      have c4 := (hBw.cell (p := ⟨p, 0, none⟩) lp2).trans c0
      have H4a := Lib.hid (H2.out.1.keep hBw)
      have fp4 : w4.frozen? ⟨p, 0, none⟩ = false := frozen_blk H4a.out.obj
      have hr4 := rcAt_of hb4
      have HNB := Lib.hid (show (Value.slice A n c).ownBlock ≠ some w2.heap.size from fun e => by have := H2.out.1.lt _ (.inr e); omega)
      have HR4 := Lib.hid (And.intro ((hBw.block (w.heap.size + 1) (by have := H2.out.2.2.2.2; omega)).trans H2.out.2.2.1) (H2.out.2.2.2.1.trans (hBw.mono (by have := H2.out.2.2.2.2; omega))))
      have lb4 : w2.heap.size < w4.heap.size := blk_lt hb4
      have lp4 : p < w4.heap.size := Nat.lt_of_lt_of_le lp2 hBw.size
      obtain ⟨b, hbe⟩ : ∃ b, b = w2.heap.size := ⟨_, rfl⟩
      have hpb : p < b := by rw [hbe]; exact lp2
      have hRB : w.heap.size + 1 < b := by rw [hbe]; have := H2.out.2.2.2.2; omega
      rw [← hbe] at hr4 HNB lb4 ⊢
      clear hbe hb4 hBw hj2 lJ2 lp2 c0 hwr
      go_wp2_with fail
      refine wp_until (fun w' : World => w'.cell? ⟨p, 0, none⟩ = some (.slice A n c) ∧ RcAt w' b 0 r) 10 (by kernel_rfl) ?_
      have hS : (fun w' : World => w'.cell? ⟨p, 0, none⟩ = some (.slice A n c) ∧ RcAt w' b 0 r) w4.drew := ⟨c4, hr4⟩
      have f4 : w4.drew.frozen? ⟨p, 0, none⟩ = false := fp4
      have H4 := Lib.hid (show GaAt T w4.drew p (.slice A n c) L from H4a.out.keep (Below.refl _ _).drew)
      have hsb : b < w4.drew.heap.size := lb4
      have hsp : p < w4.drew.heap.size := lp4
      have hd0 : Below w4.heap.size w4 w4.drew := (Below.refl _ _).drew
      have HD := Lib.hid hd0
      clear c4 fp4 hr4 hd0
      generalize w4.drew = w5 at hS f4 H4 hsb hsp HD ⊢
      refine until_take (v := ?_) 0 31 rfl rfl (by kernel_rfl) (by kernel_rfl) (by kernel_rfl) (by kernel_rfl) (fun _ _ _ h => h) ⟨by rfl, ?_⟩ hS ?_
      rotate_left
      · intro w' hw'; obtain ⟨x0, x1⟩ := hw'; go_simp; (try with_reducible rfl)
      simp only [Act.put, List.setIfInBounds_toArray, List.set_cons_zero, List.set_cons_succ]
      refine until_take (v := ?_) 1 32 rfl rfl (by kernel_rfl) (by kernel_rfl) (by kernel_rfl) (by kernel_rfl) (fun _ _ _ h => h) ⟨by rfl, ?_⟩ hS ?_
      rotate_left
      · intro w' hw'; obtain ⟨x0, x1⟩ := hw'; go_simp; (try with_reducible rfl)
      simp only [Act.put, List.setIfInBounds_toArray, List.set_cons_zero, List.set_cons_succ]
      refine until_take (v := ?_) 2 33 rfl rfl (by kernel_rfl) (by kernel_rfl) (by kernel_rfl) (by kernel_rfl) (fun _ _ _ h => h) ⟨by rfl, ?_⟩ hS ?_
      rotate_left
      · intro w' hw'; obtain ⟨x0, x1⟩ := hw'; go_simp; (try with_reducible rfl)
      simp only [Act.put, List.setIfInBounds_toArray, List.set_cons_zero, List.set_cons_succ]
      refine until_take (v := ?_) 3 34 rfl rfl (by kernel_rfl) (by kernel_rfl) (by kernel_rfl) (by kernel_rfl) (fun _ _ _ h => h) ⟨by rfl, ?_⟩ hS ?_
      rotate_left
      · intro w' hw'; obtain ⟨x0, x1⟩ := hw'; go_simp; (try with_reducible rfl)
      simp only [Act.put, List.setIfInBounds_toArray, List.set_cons_zero, List.set_cons_succ]
      refine until_take (v := ?_) 4 35 rfl rfl (by kernel_rfl) (by kernel_rfl) (by kernel_rfl) (by kernel_rfl) (fun _ _ _ h => h) ⟨by rfl, ?_⟩ hS ?_
      rotate_left
      · intro w' hw'; obtain ⟨x0, x1⟩ := hw'; go_simp; (try with_reducible rfl)
      simp only [Act.put, List.setIfInBounds_toArray, List.set_cons_zero, List.set_cons_succ]
      refine until_take (v := ?_) 5 36 rfl rfl (by kernel_rfl) (by kernel_rfl) (by kernel_rfl) (by kernel_rfl) (fun _ _ _ h => h) ⟨by rfl, ?_⟩ hS ?_
      rotate_left
      · intro w' hw'; obtain ⟨x0, x1⟩ := hw'; refine Eq.trans (run_load_rc (by rfl) (by rfl) x1) ?_; (with_reducible rfl)
      simp only [Act.put, List.setIfInBounds_toArray, List.set_cons_zero, List.set_cons_succ]
      simp only [rcA]
      refine until_one 6 rfl (by kernel_rfl) rfl (fun K hK => ?_)
      go_simp
      have hst := (Below.refl w5.heap.size w5).alloc (Nat.le_refl _) (.cells #[.int .i64 r.id, .int .i64 r.q, .int .i64 r.p, .int .i64 r.r, .int .i64 r.g, .int .i64 r.c, .int .i64 r.mn, .int .i64 r.mx, .int .i64 r.st, .int .i64 r.si, .int .i64 r.nu, .int .i64 r.me, .int .i64 r.bg, .int .i64 r.en, .int .i64 r.li, .int .i64 r.wo] 42)
      have hS4 : (fun w' : World => w'.cell? ⟨p, 0, none⟩ = some (.slice A n c) ∧ RcAt w' b 0 r) (w5.alloc (.cells #[.int .i64 r.id, .int .i64 r.q, .int .i64 r.p, .int .i64 r.r, .int .i64 r.g, .int .i64 r.c, .int .i64 r.mn, .int .i64 r.mx, .int .i64 r.st, .int .i64 r.si, .int .i64 r.nu, .int .i64 r.me, .int .i64 r.bg, .int .i64 r.en, .int .i64 r.li, .int .i64 r.wo] 42)) := ⟨(hst.cell (p := ⟨p, 0, none⟩) hsp).trans hS.1, hS.2.keep hsb hst⟩
      refine hK.out _ _ (fun _ => hS4) ?_
      clear hK K
      refine until_one 7 rfl (by kernel_rfl) rfl (fun K hK => ?_)
      simp only [Go.wp_at_zero, Go.wp_at_succ]
      refine wp_append_lies _ _ _ 34 rfl 0 42 i0 _ 16 128 Try.underlying34 hi hz0 hz1 hz2 rfl (by omega) (.slice A n c) n (L.flatMap rcC) rfl (HOWN.out w5 H4.out (rcO r)) ⟨w5.heap.size, 0, none⟩ 1 1 [.int .i64 r.id, .int .i64 r.q, .int .i64 r.p, .int .i64 r.r, .int .i64 r.g, .int .i64 r.c, .int .i64 r.mn, .int .i64 r.mx, .int .i64 r.st, .int .i64 r.si, .int .i64 r.nu, .int .i64 r.me, .int .i64 r.bg, .int .i64 r.en, .int .i64 r.li, .int .i64 r.wo] rfl rfl (World.news_of_block (cs := #[.int .i64 r.id, .int .i64 r.q, .int .i64 r.p, .int .i64 r.r, .int .i64 r.g, .int .i64 r.c, .int .i64 r.mn, .int .i64 r.mx, .int .i64 r.st, .int .i64 r.si, .int .i64 r.nu, .int .i64 r.me, .int .i64 r.bg, .int .i64 r.en, .int .i64 r.li, .int .i64 r.wo]) (t := 42) (fr := (0, 0)) (heap_alloc_new w5 _)) (by simp [Value.oneCell']) (by omega) (by unfold maxLen; omega) (by omega) (by simp) (w5.heap.size + 1) (by simp) ?_
      intro gg cap' w6 hown6 hgrow hat hlt6
      have hnp : (Value.slice A n c).ownBlock ≠ some p := fun e => H4.out.ap p e rfl
      have hnb : (Value.slice A n c).ownBlock ≠ some b := fun e => HNB.out e
      have hS5 : (fun w' : World => w'.cell? ⟨p, 0, none⟩ = some (.slice A n c) ∧ RcAt w' b 0 r) w6 :=
        ⟨(hgrow.cell_far _ (by simp; omega) (Ne.symm hnp)).trans hS4.1, fun k v hk => (hgrow.cell_far ⟨b, 0 + k, none⟩ (by simp; omega) (Ne.symm hnb)).trans (hS4.2 k v hk)⟩
      have g4 := hS5.1
      have g5 : w6.frozen? ⟨p, 0, none⟩ = false := (hgrow.frozen_far ⟨p, 0, none⟩ (by simp; omega) (Ne.symm hnp)).trans ((hst.frozen (p := ⟨p, 0, none⟩) hsp).trans f4)
      refine hK.out _ _ (fun _ => hS5) ?_
      clear hK K
      simp only [Act.put, List.setIfInBounds_toArray, List.set_cons_zero, List.set_cons_succ]
      refine until_one 8 rfl (by kernel_rfl) rfl (fun K hK => ?_)
      go_simp
      refine hK.out _ _ (fun _ => hS5) ?_
      clear hK K
      refine until_one 9 rfl (by kernel_rfl) rfl (fun K hK => ?_)
      go_simp
      refine hK.out _ _ (fun _ => hS5) ?_
      clear hK K
      refine until_one 10 rfl (by kernel_rfl) rfl (fun K hK => ?_)
      go_simp
      refine hK.out _ _ (fun h => absurd h (by decide)) ?_
      clear hK K
      refine until_done (by kernel_rfl) ?_

      have hRBp : w.heap.size + 1 ≠ p := by have := HLV.out p (.inl rfl); omega
      have hRBV : ∀ i, (Value.slice A n c).ownBlock = some i → i ≠ w.heap.size + 1 := fun i hi => by have := HLV.out i (.inr hi); omega
      have hRB5 : w.heap.size + 1 < w5.heap.size := by omega
      have hz5 : w5.heap[w.heap.size + 1]? = some (rcO GL.zr) := (HD.out.block _ (by omega)).trans HR4.out.1
      have hz6 : w6.heap[w.heap.size + 1]? = some (rcO GL.zr) := (hgrow.block (w.heap.size + 1) (by simp; omega) (fun e => hRBV _ e.symm rfl)).trans ((Below.heap_alloc w5 _ _ hRB5).trans hz5)
      have HZ7 : Hid ((w6.setCell ⟨p, 0, none⟩ (.slice (some ⟨gg, 0, none⟩) (n + 1) cap')).heap[w.heap.size + 1]? = some (rcO GL.zr)) := Lib.hid ((Below.heap_setCell w6 ⟨p, 0, none⟩ _ _ hRBp).trans hz6)
      have HX7 : Hid (RcAt (w6.setCell ⟨p, 0, none⟩ (.slice (some ⟨gg, 0, none⟩) (n + 1) cap')) b 0 r) := Lib.hid (hS5.2.of (Below.heap_setCell w6 ⟨p, 0, none⟩ _ _ (by show b ≠ p; omega)))
      have HG := Lib.hid (And.intro hown6 (And.intro hgrow (And.intro hat (And.intro hRB5 (And.intro hRBp hRBV)))))
      clear hown6 hgrow hat hlt6 hnp hnb hS5 g4 g5 hS4 hst hS f4 hz5 hz6 hRBV
      go_wp2_with (first
        | (refine wpList_load_rc rfl _ rfl b 0 r rfl HX7.out ?_)
        | (refine wpList_store_rc rfl _ _ rfl (w.heap.size + 1) r rfl rfl GL.zr HZ7.out ?_))
      refine bodyPost_ret (results_rcn Try.results24 _ _ (w.heap.size + 1) r (.int .i64 0) rfl (setRow_rc (old := GL.zr) HZ7.out) rfl) rfl ?_
      obtain ⟨y1, y2, y3, y4, y5, y6⟩ := HG.out
      obtain ⟨z1, z2, z3⟩ := H4.out.add (cs := rcA r) HN.out (by rw [← HN.out]; exact hn2) (by simpa [rcC] using y1) y2 y3 y4 y5 y6 rfl
      have hF := HV.out.2
      have hB5 : Below w.heap.size w w5 := HR4.out.2.trans (HD.out.mono (by omega))
      have hL : GL.addL L j s = L ++ [r] := by unfold GL.addL; rw [if_pos HE.out, Hr.out]
      rw [hL]
      refine ⟨?_, (fun i => i = p ∨ (Value.slice (some ⟨gg, 0, none⟩) (n + 1) cap').ownBlock = some i), ⟨_, z1, fun i => Iff.rfl⟩, (Foot.of_below (F := F) hB5).trans z2 fun i hi => ?_, fun i hi => ?_⟩
      · unfold GL.addR; rw [HE.out, Hr.out]; rfl
      · rcases hi with e | e | e
        · exact .inl ((hF i).2 (.inl e))
        · exact .inl ((hF i).2 (.inr e))
        · exact .inr (by omega)
      · rcases z3 i hi with e | e
        · exact .inl ((hF i).2 e)
        · exact .inr (by have := hB5.size; omega)
  · have HE : Hid (GL.addE L j.id = 4) := Lib.hid (by unfold GL.addE; rw [hh]; rfl)
    have HZ2 : Hid (w2.heap[w.heap.size + 1]? = some (rcO GL.zr)) := Lib.hid H2.out.2.2.1
    clear hx' hxi' hh
    go_wp2_with (refine wpList_store_rc rfl _ _ rfl (w.heap.size + 1) GL.zr rfl rfl GL.zr HZ2.out ?_)
    refine bodyPost_ret (results_rcn Try.results24 _ _ (w.heap.size + 1) GL.zr (.int .i64 4) rfl (setRow_rc (old := GL.zr) HZ2.out) rfl) rfl ?_
    refine ⟨?_, Same.out _ (below_row H2.out.2.2.2.1 (by omega) _) (by rw [HE.out]; decide)⟩
    unfold GL.addR
    rw [HE.out]; rfl
end Go.Proofs.Ytbomdannlcclkaa
