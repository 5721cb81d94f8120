/- A call of one hold changes no other one; what is reserved, and let go, leaves what is free, what is used and all holds as they were: the law LedgerOthers answers true, at every input. -/
import Derived.Laws.StructEq
import Derived.Test.YtfbecfikeiecmaaGreatLedFew
import Derived.Test.YtfbecfikeiecmaaGreatTopoFrame
import Derived.Test.YtfbecfikeiecmaaGreatLedOthA
set_option linter.unusedVariables false
namespace Go.Proofs.YtfbecfikeiecmaaGreat.ledgerOthers
open Go Go.ChangeShapes Go.WideShapes Go.ChangeAt Go.RowKit
open Go.MuLone

set_option maxRecDepth 100000 in
set_option maxHeartbeats 16000000 in
theorem walk (a0 : Option Addr) (c0 : Nat) (n0 : List (List (Int × Int))) (a1 : Option Addr) (c1 : Nat) (l1 : List Un) (a2 : Option Addr) (c2 : Nat) (l2 : List La) (x3 : La) (a3 : Option Addr) (c3 : Nat) (w : World) (w0 : Nodes w w.heap.size a0 n0) (lc0 : n0.length ≤ c0) (mc0 : c0 ≤ maxLen)
    (v1 : Uns w w.heap.size a1 l1) (q1 : ∀ a ∈ l1, UnW a) (lc1 : l1.length ≤ c1) (mc1 : c1 ≤ maxLen) (v2 : Las w w.heap.size a2 l2) (q2 : ∀ a ∈ l2, LaOk a) (lc2 : l2.length ≤ c2) (mc2 : c2 ≤ maxLen) (v3 : Slots w w.heap.size a3 x3.sl) (q3 : LaOk x3) (hz : l2.length * 72 ≤ 140737488351232) :
    Calls Tryz.prog 5 #[.agg #[.slice a0 n0.length c0], .slice a1 l1.length c1, .slice a2 l2.length c2, .agg (laC x3 a3 c3).toArray] w fun e w' => e = .returned (.bool true) ∧ Below w.heap.size w w' := by
  have hA := Lib.hid awake_l
  obtain ⟨m, hm⟩ : ∃ m, n0.length = m := ⟨_, rfl⟩
  obtain ⟨k1, hk1⟩ : ∃ k, l1.length = k := ⟨_, rfl⟩
  obtain ⟨n, hn⟩ : ∃ k, l2.length = k := ⟨_, rfl⟩
  obtain ⟨i0, hi, hz0, hz1, hz2⟩ := info_parts info_la
  obtain ⟨xa, hxa⟩ : ∃ x : Lx, x = ⟨x3, a3, c3⟩ := ⟨_, rfl⟩
  have exa : laC x3 a3 c3 = lxC xa := by rw [hxa]; rfl
  have fxa : Slots w w.heap.size xa.A xa.a.sl := by rw [hxa]; exact v3
  have gxa : LaOk xa.a := by rw [hxa]; exact q3
  rw [exa]
  have HB0 : Hid (Below w.heap.size w ((w.alloc (.cells #[.slice a0 m c0] 24)).alloc (.cells (lxC xa).toArray 49)) ∧ (((w.alloc (.cells #[.slice a0 m c0] 24)).alloc (.cells (lxC xa).toArray 49))).heap[w.heap.size]? = some (.cells #[.slice a0 m c0] 24) ∧ (((w.alloc (.cells #[.slice a0 m c0] 24)).alloc (.cells (lxC xa).toArray 49))).heap[w.heap.size + 1]? = some (.cells (lxC xa).toArray 49)) := Lib.hid ⟨(((Below.refl w.heap.size w).alloc (Nat.le_refl _) _).alloc (by simp) _), new_0 _ _ _, new_1 _ _ _⟩
  have hV0 := And.intro w0 (And.intro v1 (And.intro v2 (And.intro hn (And.intro hm (And.intro hk1 (And.intro q2 (And.intro fxa (And.intro gxa trivial))))))))
  have HNM := Lib.hid (Nat.le_trans lc2 mc2)
  have HV := Lib.hid hV0
  clear hV0
  have hn72 : n * 72 ≤ 140737488351232 := by rw [← hn]; exact hz
  have hc2 : n ≤ c2 := by rw [← hn]; exact lc2
  have mc2' := mc2
  unfold maxLen at mc2'
  rw [hm, hk1, hn]
  clear w0 v1 v2 q1 q2 lc0 lc1 lc2 mc0 mc1 mc2 hn hm hk1 hz v3 q3 hxa exa fxa gxa
  simp only [lxC, laC] at HB0 ⊢
  go_enter Tryz.func5, Tryz.ntmps5
  go_wp2_with fail
  refine (hA.out _).mono ?_
  rintro e u2 ⟨rfl, hb2⟩
  obtain ⟨hB0, hy0, hy1⟩ := HB0.out
  clear HB0
  obtain ⟨wb, hwb⟩ : ∃ z, z = ((w.alloc (.cells #[.slice a0 m c0] 24)).alloc (.cells #[.int .i64 xa.a.k, .int .i64 xa.a.id, .int .i64 xa.a.q, .int .i64 xa.a.un, .int .i64 xa.a.now, .int .i64 xa.a.old, .slice xa.A xa.a.sl.length xa.c] 49)) := ⟨_, rfl⟩
  rw [← hwb] at hB0 hb2 hy0 hy1
  obtain ⟨K1, eK1⟩ : ∃ z, z = w.heap.size + 1 := ⟨_, rfl⟩
  rw [← eK1] at hy1 ⊢
  obtain ⟨K0, eK0⟩ : ∃ z, z = w.heap.size := ⟨_, rfl⟩
  rw [← eK0] at hy0 ⊢
  have HBb := Lib.hid hB0
  have sK : K0 < wb.heap.size ∧ K1 < wb.heap.size := ⟨blk_lt hy0, blk_lt hy1⟩
  have HE := Lib.hid (show _ ∧ _ from ⟨hy0, hy1⟩)
  obtain ⟨w0, v1, v2, hn, hm, hk1, q2, fxa, gxa, _⟩ := HV.out
  have hnm := HNM.out
  have s2 := hb2.size
  have HS2 : Hid ((fun w' : World => w'.cell? ⟨K0, 0, none⟩ = some (.slice a0 m c0) ∧ CellsAt w' K1 0 (lxC xa)) u2) := Lib.hid ⟨(hb2.cell (p := ⟨K0, 0, none⟩) sK.1).trans (cell_blk (i := 0) hy0 rfl), (lx_box hy1).keep sK.2 hb2⟩
  have hBw : Below w.heap.size w u2 := below_step hB0 hb2
  obtain ⟨L2, hL2, hE2, hS2⟩ := las_els (v2.up hBw hBw.size)
  have HE2 := Lib.hid hE2
  have HL2 := Lib.hid (show n = L2.length by rw [← hn, ← hL2, List.length_map])
  have HFew : Hid (∀ W, Below u2.heap.size u2 W → ∀ A7 c7, W.ownsRow u2.heap.size 49 7 (.slice A7 (n + 1) c7) (n + 1) (L2.flatMap lxC ++ [xa].flatMap lxC) →
      Calls Tryz.prog 7 #[.agg #[.slice a0 m c0], .slice a1 k1 c1, .slice A7 (n + 1) c7] W fun e w' => e = .returned (.bool (few8 n0 l1 (l2 ++ [xa.a]))) ∧ Below W.heap.size W w') := Lib.hid (fun W hW A7 c7 ho => by
    rw [← List.flatMap_append] at ho
    have hlen : (L2 ++ [xa]).length = n + 1 := by rw [List.length_append, ← HL2.out]; rfl
    have he := (els_own lxC_len ho hlen).1
    have hWw : Below w.heap.size w W := hBw.trans (hW.mono hBw.size)
    have hla : Las W W.heap.size A7 (l2 ++ [xa.a]) := by
      have := els_las he (fun x hx => by
        rcases List.mem_append.1 hx with hx | hx
        · exact (Slots.keep (hS2 x hx) hW hW.size)
        · rcases List.mem_cons.1 hx with rfl | hx
          · exact Slots.keep fxa hWw hWw.size
          · simp at hx)
      rwa [List.map_append, hL2] at this
    have := few_l a0 a1 A7 c0 c1 c7 n0 l1 (l2 ++ [xa.a]) W (Nodes.keep w0 hWw hWw.size) (v1.keep hWw hWw.size) hla (by rw [List.length_append, hn]; unfold maxLen at hnm ⊢; simp; omega) (fun a ha => by
      rcases List.mem_append.1 ha with ha | ha
      · exact (q2 a ha).few
      · rcases List.mem_cons.1 ha with rfl | ha
        · exact gxa.few
        · simp at ha)
    rw [List.length_append, hn, hm, hk1] at this
    exact this)
  have Hb2 := Lib.hid hb2
  have HBw := Lib.hid hBw
  clear hwb eK0 eK1 hy0 hy1 w0 v1 v2 q2 hn hnm hm hk1 fxa gxa hB0 hb2 hBw hL2 hE2 hS2
  have hK0 : K0 < u2.heap.size := by omega
  have hK1 : K1 < u2.heap.size := by omega
  go_wp2_with fail
  refine held_begin (fun w' : World => w'.cell? ⟨K0, 0, none⟩ = some (.slice a0 m c0) ∧ CellsAt w' K1 0 (lxC xa)) (by kernel_rfl) ?_
  have hB0 : Below u2.heap.size u2 u2.drew := (Below.refl _ _).drew
  have hS0 : (fun w' : World => w'.cell? ⟨K0, 0, none⟩ = some (.slice a0 m c0) ∧ CellsAt w' K1 0 (lxC xa)) u2.drew := HS2.out
  generalize u2.drew = wd at hB0 hS0 ⊢
  have sd := hB0.size
  refine held_take (v := ?_) 0 24 rfl rfl (by kernel_rfl) (by kernel_rfl) (by kernel_rfl) (fun _ _ _ h => h) ⟨by rfl, ?_⟩ hS0 ?_
  rotate_left
  · intro w' hw'; obtain ⟨x0, x1⟩ := hw'; go_simp; (try with_reducible rfl)
  simp only [Act.put, List.setIfInBounds_toArray, List.set_cons_zero, List.set_cons_succ]
  refine held_take (v := ?_) 1 25 rfl rfl (by kernel_rfl) (by kernel_rfl) (by kernel_rfl) (fun _ _ _ h => h) ⟨by rfl, ?_⟩ hS0 ?_
  rotate_left
  · intro w' hw'; obtain ⟨x0, x1⟩ := hw'; go_simp; (try with_reducible rfl)
  simp only [Act.put, List.setIfInBounds_toArray, List.set_cons_zero, List.set_cons_succ]
  refine held_take (v := ?_) 3 27 rfl rfl (by kernel_rfl) (by kernel_rfl) (by kernel_rfl) (fun _ _ _ h => h) ⟨by rfl, ?_⟩ hS0 ?_
  rotate_left
  · intro w' hw'; obtain ⟨x0, x1⟩ := hw'; go_simp; (try with_reducible rfl)
  simp only [Act.put, List.setIfInBounds_toArray, List.set_cons_zero, List.set_cons_succ]
  refine held_take (v := ?_) 5 29 rfl rfl (by kernel_rfl) (by kernel_rfl) (by kernel_rfl) (fun _ _ _ h => h) ⟨by rfl, ?_⟩ hS0 ?_
  rotate_left
  · intro w' hw'; obtain ⟨x0, x1⟩ := hw'; refine Eq.trans (run_load_la (by rfl) (by rfl) x1) ?_; (with_reducible rfl)
  simp only [Act.put, List.setIfInBounds_toArray, List.set_cons_zero, List.set_cons_succ]
  refine held_two 2 6 rfl rfl (by kernel_rfl) (by rfl) (by rfl) (fun K hK => ?_) (fun K hK => ?_)
  · go_simp
    obtain ⟨wa, hwa⟩ : ∃ x, x = wd.alloc (.cells #[] 49) := ⟨_, rfl⟩
    have ownE : wa.ownsRow u2.heap.size 49 7 (.slice (some ⟨wd.heap.size, 0, none⟩) 0 0) 0 [] := by rw [hwa]; exact World.ownsRow_lit wd #[] 0 (by omega) (by unfold maxLen; omega) rfl
    have hBa : Below u2.heap.size u2 wa := by rw [hwa]; exact hB0.alloc hB0.size _
    have swa : wd.heap.size < wa.heap.size := by rw [hwa]; simp
    have bwa : Below wd.heap.size wd wa := by rw [hwa]; exact (Below.refl _ _).alloc (Nat.le_refl _) _
    have hSa : (fun w' : World => w'.cell? ⟨K0, 0, none⟩ = some (.slice a0 m c0) ∧ CellsAt w' K1 0 (lxC xa)) wa := ⟨(bwa.cell (p := ⟨K0, 0, none⟩) (show K0 < _ by omega)).trans hS0.1, CellsAt.keep hS0.2 (by omega) bwa⟩
    rw [← hwa]
    refine hK.out _ _ hSa ?_
    clear hK K hwa
    try simp only [Act.put, List.setIfInBounds_toArray, List.set_cons_zero, List.set_cons_succ]
    refine held_two 4 6 rfl rfl (by kernel_rfl) (by rfl) (by rfl) (fun K hK => ?_) (fun K hK => ?_)
    · simp only [Go.wp_at_zero, Go.wp_at_succ]
      refine wp_append_els (C := lxC) (k := 7) _ _ _ 26 rfl u2.heap.size 49 i0 _ 72 Tryz.underlying26 hi hz0 hz1 hz2 rfl (by decide) (.slice (some ⟨wd.heap.size, 0, none⟩) 0 0) 0 [] rfl ownE u2.heap.size a2 c2 n L2 rfl (HE2.out.keep (hBa) (Nat.le_refl _)) HL2.out lxC_len lxC_one (by unfold maxLen; omega) (by omega) (by omega) ?_
      intro A5 c5 wb2 own5 gwb2 kwb2
      rw [Nat.zero_add] at own5 ⊢
      rw [List.nil_append] at own5
      have hob : ∀ j, (Value.slice (some ⟨wd.heap.size, 0, none⟩) 0 0).ownBlock = some j → j = wd.heap.size := fun j hj => by simpa [Value.ownBlock] using hj.symm
      have hBb : Below u2.heap.size u2 wb2 := hBa.grown gwb2 (by omega) (fun j hj => by have := hob j hj; omega)
      have swb2 := gwb2.size
      have hSb : (fun w' : World => w'.cell? ⟨K0, 0, none⟩ = some (.slice a0 m c0) ∧ CellsAt w' K1 0 (lxC xa)) wb2 := ⟨(gwb2.cell_far ⟨K0, 0, none⟩ (show K0 < wa.heap.size by omega) (fun e => by have := hob K0 e.symm; omega)).trans hSa.1, CellsAt.of hSa.2 (gwb2.block K1 (by omega) (fun e => by have := hob K1 e.symm; omega))⟩
      refine hK.out _ _ hSb ?_
      clear hK K
      try simp only [Act.put, List.setIfInBounds_toArray, List.set_cons_zero, List.set_cons_succ]
      have Own5 := Lib.hid own5
      clear own5 gwb2 kwb2 hob
      refine held_one 6 rfl (by kernel_rfl) (by rfl) (fun K hK => ?_)
      simp only [lxC, laC]
      go_simp
      obtain ⟨wc, hwc⟩ : ∃ z, z = wb2.alloc (.cells (lxC xa).toArray 49) := ⟨_, rfl⟩
      have elsB : Els lxC 7 wc wc.heap.size (some ⟨wb2.heap.size, 0, none⟩) [xa] := by rw [hwc]; exact els_blk lxC_len (heap_alloc_new wb2 _) (fun j v hj => by simpa [List.flatMap_cons] using hj)
      have hBc : Below u2.heap.size u2 wc := by rw [hwc]; exact hBb.alloc hBb.size _
      have swc : wb2.heap.size < wc.heap.size := by rw [hwc]; simp
      have bwc : Below wb2.heap.size wb2 wc := by rw [hwc]; exact (Below.refl _ _).alloc (Nat.le_refl _) _
      have hSc : (fun w' : World => w'.cell? ⟨K0, 0, none⟩ = some (.slice a0 m c0) ∧ CellsAt w' K1 0 (lxC xa)) wc := ⟨(bwc.cell (p := ⟨K0, 0, none⟩) (show K0 < _ by omega)).trans hSb.1, CellsAt.keep hSb.2 (by omega) bwc⟩
      simp only [lxC, laC] at hwc
      rw [← hwc]
      refine hK.out _ _ hSc ?_
      clear hK K hwc
      try simp only [Act.put, List.setIfInBounds_toArray, List.set_cons_zero, List.set_cons_succ]
      have own5 := own_keep Own5.out bwc
      refine held_one 7 rfl (by kernel_rfl) (by rfl) (fun K hK => ?_)
      simp only [Go.wp_at_zero, Go.wp_at_succ]
      refine wp_append_els (C := lxC) (k := 7) _ _ _ 26 rfl u2.heap.size 49 i0 _ 72 Tryz.underlying26 hi hz0 hz1 hz2 rfl (by decide) (.slice A5 n c5) n _ rfl own5 _ (some ⟨wb2.heap.size, 0, none⟩) 1 1 [xa] rfl elsB rfl lxC_len lxC_one (by unfold maxLen; omega) (by omega) (by omega) ?_
      intro A7 c7 w7 own7 g7 k7
      have hob5 : ∀ j, (Value.slice A5 n c5).ownBlock = some j → u2.heap.size ≤ j := fun j hj => (own5.lt j hj).1
      have hB7 : Below u2.heap.size u2 w7 := hBc.grown g7 (by omega) (fun j hj => by have := hob5 j hj; omega)
      have hS7 : (fun w' : World => w'.cell? ⟨K0, 0, none⟩ = some (.slice a0 m c0) ∧ CellsAt w' K1 0 (lxC xa)) w7 := ⟨(g7.cell_far ⟨K0, 0, none⟩ (show K0 < wc.heap.size by omega) (fun e => by have := hob5 K0 e.symm; omega)).trans hSc.1, CellsAt.of hSc.2 (g7.block K1 (by omega) (fun e => by have := hob5 K1 e.symm; omega))⟩
      refine hK.out _ _ hS7 ?_
      clear hK K
      try simp only [Act.put, List.setIfInBounds_toArray, List.set_cons_zero, List.set_cons_succ]
      have hFW := HFew.out w7 hB7 A7 c7 own7
      clear own7 own5 g7 k7 hob5
      try clear elsB
      try clear ownE
      try clear gwb2
      try clear kwb2
      try clear gwc
      try clear kwc
      try clear hob
      try clear hSc
      try clear hSb
      try clear hSa
      try clear hBc
      try clear hBb
      try clear hBa
      try clear bwa
      try clear bwb2
      try clear bwc
      try clear swa
      try clear swb2
      try clear swc
      refine held_one 8 rfl (by kernel_rfl) (by rfl) (fun K hK => ?_)
      go_simp
      go_at_call 7
      refine hFW.mono ?_
      rintro e w8 ⟨rfl, hb8⟩
      have hS8 : (fun w' : World => w'.cell? ⟨K0, 0, none⟩ = some (.slice a0 m c0) ∧ CellsAt w' K1 0 (lxC xa)) w8 := ⟨(hb8.cell (p := ⟨K0, 0, none⟩) (show K0 < _ by have := hB7.size; omega)).trans hS7.1, CellsAt.keep hS7.2 (by have := hB7.size; omega) hb8⟩
      have hB8 := Lib.hid (below_step hB7 hb8)
      refine hK.out _ _ hS8 ?_
      clear hK K hS7 hB7 hb8 hFW
      try simp only [Act.put, List.setIfInBounds_toArray, List.set_cons_zero, List.set_cons_succ]
      refine held_take (v := ?_) 9 33 rfl rfl (by kernel_rfl) (by kernel_rfl) (by kernel_rfl) (fun _ _ _ h => h) ⟨by rfl, ?_⟩ hS8 ?_
      rotate_left
      · intro w' _; go_simp; (try with_reducible rfl)
      simp only [Act.put, List.setIfInBounds_toArray, List.set_cons_zero, List.set_cons_succ]
      refine wpAnyH_done (by kernel_rfl) ?_ _
      have HB8 := Lib.hid (Hb2.out.trans (hB8.out.mono Hb2.out.size))
      have HW8 := Lib.hid (HBb.out.trans (HB8.out.mono HBb.out.size))
      have hk8 := hS8.1
      have HV8 := HV
      obtain ⟨fb, hfb⟩ : ∃ b, b = few8 n0 l1 (l2 ++ [xa.a]) := ⟨_, rfl⟩
      rw [← hfb]
      have HFB := Lib.hid hfb
      clear hS8 hB8 hfb HFew HE2 HL2 hB0 hS0 sd
      cases fb
      · go_wp2
        go_ret
        exact ⟨by first | rfl | (simp; done), HW8.out⟩
      · have hff := HFB.out
        obtain ⟨hcq, hq0, hn60⟩ : cluOk n0 = true ∧ quotasOk l1 = true ∧ n ≤ 60 := by
          have h1 := hff.symm
          unfold few8 at h1
          simp only [Bool.and_eq_true] at h1
          obtain ⟨⟨h1, h2⟩, h3⟩ := h1
          unfold fewLs at h3
          simp only [Bool.and_eq_true, decide_eq_true_eq, List.length_append] at h3
          exact ⟨h1, h2, by rw [← HV8.out.2.2.2.1]; omega⟩
        have hN : Hid (Calls Tryz.prog 8 #[.agg #[.slice a0 m c0], .slice a1 k1 c1] w8 fun e w' => ∃ p F, e = .returned (.tuple #[.pointer (some ⟨p, 0, none⟩), .int .i64 0]) ∧ LIn wb w' p F (frees n0) (LM.init n0 l1)) := Lib.hid (by
          obtain ⟨w0, v1, _, _, hm, hk1, _⟩ := HV8.out
          have hl := lnew_l a0 a1 c0 c1 n0 l1 w8 (Nodes.keep w0 HW8.out HW8.out.size) (v1.keep HW8.out HW8.out.size)
          rw [hm, hk1] at hl
          refine hl.mono fun e w' (hl : LNew n0 l1 w8 e w') => ?_
          rcases hl.2 with ⟨h2 | h2, _⟩ | ⟨_, _, p, F, he, ho, hF⟩
          · rw [hcq] at h2; cases h2
          · rw [hq0] at h2; cases h2
          · exact ⟨p, F, he, .made HB8.out ho hF hl.1⟩)
        have hver0 : (LM.init n0 l1).ver = 0 := rfl
        obtain ⟨st0, hst0⟩ : ∃ st, st = LM.init n0 l1 := ⟨_, rfl⟩
        obtain ⟨fs, hfs⟩ : ∃ fs, fs = frees n0 := ⟨_, rfl⟩
        rw [← hst0] at hver0 hN
        rw [← hfs] at hN
        clear hst0 hfs hff hcq hq0
        go_wp2_with fail
        refine hN.out.mono ?_
        rintro e u4 ⟨p, F4, rfl, hl4⟩
        have HL4 := Lib.hid hl4
        have hver0' := Lib.hid hver0
        clear hl4 hN hk8 hver0
        go_wp2
        go_loopw [11] (fun i wr => ∃ k : Nat, i = .int .i64 k ∧ k ≤ n ∧ Hid (∃ F st, LIn wb wr p F fs st ∧ st.ver ≤ k)) (fun i _ => n - (intOf i).toNat)
        case atStart => exact ⟨0, rfl, by omega, Lib.hid ⟨F4, st0, HL4.out, by have := hver0'.out; omega⟩⟩
        case round =>
          clear HL4 hver0'
          obtain ⟨k, rfl, hk, hW⟩ := hrel
          by_cases hlt : k < n
          · obtain ⟨F, st, hL, hv⟩ := hW.out
            obtain ⟨_, _, v2, hn, _, _, q2, _⟩ := HV8.out
            have v2 := v2.up HBb.out HBb.out.size
            obtain ⟨a, hx⟩ := get_lt (l := l2) (k := k) (by rw [hn]; exact hlt)
            have ha := q2 a (List.mem_of_getElem? hx)
            obtain ⟨b, off, rfl, hb, hcw⟩ := v2.at_ hx
            obtain ⟨A, c, hcells, hsl⟩ := hcw k a hx
            have hv2 : st.ver ≤ 100000 := by omega
            have hvk := LM.act_ver fs st a
            have hc4 := fun j u hj => (hL.bel.cell (p := ⟨b, off + k * 7 + j, none⟩) hb).trans (hcells j u hj)
            have HD := Lib.hid (do_l A c a hL.at_ hv2 ha (Slots.keep hsl hL.bel hL.bel.size) (hsl.old hL.hF))
            have HK := Lib.hid (And.intro hv hvk)
            have HLo := Lib.hid hL
            obtain ⟨T, hT⟩ : ∃ T, T = LM.act fs st a := ⟨_, rfl⟩
            rw [← hT] at HD HK
            obtain ⟨ak, aid, aq, aun, anow, aold, asl⟩ := a
            simp only [laC] at HD
            have y0 := hc4 0 _ rfl
            rw [Nat.add_zero] at y0
            have y1 := hc4 1 _ rfl
            have y2 := hc4 2 _ rfl
            have y3 := hc4 3 _ rfl
            have y4 := hc4 4 _ rfl
            have y5 := hc4 5 _ rfl
            have y6 := hc4 6 _ rfl
            simp only at y0 y1 y2 y3 y4 y5 y6
            have j1 : (k : Int) < (n : Int) := by omega
            have t1 : decide (k < n) = true := decide_eq_true hlt
            clear hT hx hcw hcells hsl ha v2 q2 hn hL hv hv2 hvk hW hc4
            go_wp2_with fail
            refine HD.out.mono ?_
            rintro e x5 ⟨v, rfl, _, F5, s1, s2, s3⟩
            have HL5 := Lib.hid (HLo.out.step s1 s2 s3)
            clear s1 s2 s3 HD HLo y0 y1 y2 y3 y4 y5 y6
            go_wp2
            go_roundw
            case rel => exact ⟨k + 1, by go_num, by omega, Lib.hid ⟨F5, _, HL5.out, by have := HK.out.2; have := HK.out.1; omega⟩⟩
            case measure => simp [intOf]; omega
          · obtain rfl : k = n := by omega
            have t1 : decide (k < k) = false := decide_eq_false (by omega)
            obtain ⟨F, st, hL, hv⟩ := hW.out
            have HLo := Lib.hid hL
            have HK := Lib.hid hv
            clear hW hL hv hlt
            obtain ⟨fxa, gxa, _⟩ := HV8.out.2.2.2.2.2.2.2
            have fxa := Slots.keep fxa HBb.out HBb.out.size
            have HC : Hid (∀ W, Below wb.heap.size wb W → CellsAt W K1 0 (lxC xa)) := Lib.hid fun W hW => (lx_box HE.out.2).keep (blk_lt HE.out.2) hW
            have hok := HLo.out.at_.ok
            have hv60 : st.ver ≤ 60 := by have := HK.out; omega
            have hfew : st.hs.length ≤ 60 := by have := hok.1.few; omega
            have HOK := Lib.hid (And.intro hok (And.intro hv60 hfew))
            have HGX := Lib.hid (And.intro gxa fxa)
            obtain ⟨q, hq⟩ : ∃ q, q = st.hs.length := ⟨_, rfl⟩
            have HQ := Lib.hid hq
            have hq60 : q ≤ 60 := by omega
            obtain ⟨fl, hfl⟩ : ∃ q, q = (PM.free fs st.ts).length := ⟨_, rfl⟩
            have HFL := Lib.hid hfl
            obtain ⟨ul, hul⟩ : ∃ q, q = st.qs.length := ⟨_, rfl⟩
            have HUL := Lib.hid hul
            have HAO := Lib.hid (fun h0 h4 (h : Hd) hh hne => LM.act_others (fs := fs) (st := st) (a := xa.a) h0 h4 (h := h) hh hne)
            have HAV := Lib.hid (LM.act_ver fs st xa.a)
            have H40 : Hid (xa.a.sl.length ≤ 40) := Lib.hid (by
              have h1 := HFB.out.symm
              unfold few8 fewLs at h1
              simp only [Bool.and_eq_true, decide_eq_true_eq, List.all_eq_true] at h1
              exact h1.2.2 xa.a (by simp))
            clear hok hv60 hfew hq hfl hul fxa gxa
            go_wp2_with fail
            refine (holds_lc HLo.out.at_ (by have := HOK.out.2.2; omega)).mono ?_
            rintro e x6 ⟨A6, c6, G6, rfl, hc6, hh6, hG6, hy6⟩
            rw [← HQ.out] at hc6 ⊢
            have HL6 := Lib.hid (HLo.out.keep hy6)
            have HH6 := Lib.hid (And.intro hh6 (And.intro hG6 hy6))
            clear hh6 hG6 hy6
            go_wp2_with fail
            refine (free_l HL6.out.at_).mono ?_
            rintro e x7 ⟨A7, c7, rfl, hh7, hG7, hy7⟩
            rw [← HFL.out]
            have HL7 := Lib.hid (HL6.out.keep hy7)
            have HH7 := Lib.hid (And.intro hh7 (And.intro hG7 hy7))
            clear hh7 hG7 hy7
            go_wp2_with fail
            refine (used_l HL7.out.at_).mono ?_
            rintro e x8 ⟨A8, c8, rfl, hh8, hG8, hy8⟩
            rw [← HUL.out]
            have HL8 := Lib.hid (HL7.out.keep hy8)
            have HH8 := Lib.hid (And.intro hh8 (And.intro hG8 hy8))
            clear hh8 hG8 hy8
            have HD := Lib.hid (do_l xa.A xa.c xa.a HL8.out.at_ (by have := HOK.out.2.1; omega) HGX.out.1 (Slots.keep HGX.out.2 HL8.out.bel HL8.out.bel.size) (HGX.out.2.old HL8.out.hF))
            obtain ⟨T, hT⟩ : ∃ T, T = LM.act fs st xa.a := ⟨_, rfl⟩
            rw [← hT] at HD HAO HAV
            obtain ⟨⟨⟨te, tids, tsl, thd⟩, st2⟩, hT2⟩ : ∃ X, X = T := ⟨_, rfl⟩
            rw [← hT2] at HD HAO HAV
            have HT := Lib.hid (hT2.trans hT)
            simp only [laC] at HD
            clear hT hT2 T
            have y0 : x8.cell? ⟨K1, 0, none⟩ = some (.int .i64 xa.a.k) := HC.out x8 HL8.out.bel 0 _ rfl
            have y1 : x8.cell? ⟨K1, 1, none⟩ = some (.int .i64 xa.a.id) := HC.out x8 HL8.out.bel 1 _ rfl
            have y2 : x8.cell? ⟨K1, 2, none⟩ = some (.int .i64 xa.a.q) := HC.out x8 HL8.out.bel 2 _ rfl
            have y3 : x8.cell? ⟨K1, 3, none⟩ = some (.int .i64 xa.a.un) := HC.out x8 HL8.out.bel 3 _ rfl
            have y4 : x8.cell? ⟨K1, 4, none⟩ = some (.int .i64 xa.a.now) := HC.out x8 HL8.out.bel 4 _ rfl
            have y5 : x8.cell? ⟨K1, 5, none⟩ = some (.int .i64 xa.a.old) := HC.out x8 HL8.out.bel 5 _ rfl
            have y6 : x8.cell? ⟨K1, 6, none⟩ = some (.slice xa.A xa.a.sl.length xa.c) := HC.out x8 HL8.out.bel 6 _ rfl
            go_wp2_with fail
            refine HD.out.mono ?_
            rintro e x9 ⟨v, rfl, ⟨A1, cc1, Ah, ch, rfl, _, _, _, _⟩, F9, s1, s2, s3⟩
            simp only [tlV]
            clear y0 y1 y2 y3 y4 y5 y6
            obtain ⟨nid, hnid⟩ : ∃ m, m = tids.length := ⟨_, rfl⟩
            try simp only at hnid
            rw [← hnid]
            clear hnid
            have hL9 := HL8.out.step s1 s2 s3
            have hltF := HLo.out.at_.lt.2
            have l6 := HH6.out.2.2.size
            have l7 := HH7.out.2.2.size
            have l8 := HH8.out.2.2.size
            have o2 : HL x9 G6 A6 st.hs := (HH6.out.1.keep (below_step HH7.out.2.2 HH8.out.2.2)).foot s2 fun i hg hf => by have := hltF i hf; have := (HH6.out.2.1 i hg).1; omega
            have o3 : Frees x9 x9.heap.size A7 (PM.free fs st.ts) := (Frees.keep HH7.out.1 HH8.out.2.2 HH8.out.2.2.size).off s2.size fun b off e hb => s2.block b hb fun hf => by have := hltF b hf; have := (HH7.out.2.1 b off e).1; omega
            have o4 : Uns x9 x9.heap.size A8 (st.qs.map (·.u)) := Uns.apart HH8.out.1 s2 fun b off e hf => by have := hltF b hf; have := (HH8.out.2.1 b off e).1; omega
            have hFF : Hid ((∀ i, G6 i → ¬ F9 i) ∧ (∀ b off, A7 = some ⟨b, off, none⟩ → ¬ F9 b) ∧ (∀ b off, A8 = some ⟨b, off, none⟩ → ¬ F9 b)) := Lib.hid ⟨fun i hg hf => by
                have := (HH6.out.2.1 i hg); rcases s3 i hf with e | e
                · have := hltF i e; omega
                · omega, fun b off e hf => by
                have := HH7.out.2.1 b off e; rcases s3 b hf with e | e
                · have := hltF b e; omega
                · omega, fun b off e hf => by
                have := HH8.out.2.1 b off e; rcases s3 b hf with e | e
                · have := hltF b e; omega
                · omega⟩
            have hal := (Below.refl x9.heap.size x9).alloc (Nat.le_refl _) (.cells #[.int .i64 te, .slice A1 nid cc1, .int .i64 tsl.n, .int .i64 tsl.d, .int .u64 (tsl.m : Nat), .int .i64 tsl.c, .int .i64 thd.id, .int .i64 thd.q, .int .i64 thd.un, .bool thd.run, .slice Ah thd.sl.length ch] 46)
            have HL10 := Lib.hid (hL9.keep hal)
            have HOB := Lib.hid (And.intro (o2.keep hal) (And.intro (Frees.keep o3 hal hal.size) (Els.keep o4 hal hal.size)))
            have HT9 : Hid ((x9.alloc (.cells #[.int .i64 te, .slice A1 nid cc1, .int .i64 tsl.n, .int .i64 tsl.d, .int .u64 (tsl.m : Nat), .int .i64 tsl.c, .int .i64 thd.id, .int .i64 thd.q, .int .i64 thd.un, .bool thd.run, .slice Ah thd.sl.length ch] 46)).cell? ⟨x9.heap.size, 0, none⟩ = some (.int .i64 te)) := Lib.hid (cell_blk (i := 0) (heap_alloc_new x9 _) rfl)
            have y0 : x9.cell? ⟨K1, 0, none⟩ = some (.int .i64 xa.a.k) := HC.out x9 hL9.bel 0 _ rfl
            have lK9 : K1 < x9.heap.size := Nat.lt_of_lt_of_le (blk_lt HE.out.2) hL9.bel.size
            have HBX := Lib.hid (HBb.out.trans (HL10.out.bel.mono HBb.out.size))
            have HL9 := Lib.hid hL9
            clear o2 o3 o4 s1 s2 s3 hltF l6 l7 l8 hal hL9 HLo HL6 HL7 HL8 HH6 HH7 HH8 HD
            by_cases hk0 : xa.a.k < 0
            · have t1 : decide (xa.a.k < 0) = true := decide_eq_true hk0
              clear hk0
              go_wp2
              go_ret
              exact ⟨by first | rfl | (simp; done), HBX.out⟩
            have t1 : decide (xa.a.k < 0) = false := decide_eq_false hk0
            by_cases hk4 : 4 < xa.a.k
            · have t2 : decide (4 < xa.a.k) = true := decide_eq_true hk4
              have t3 : decide (xa.a.k > 4) = true := decide_eq_true hk4
              clear hk0 hk4
              go_wp2
              go_ret
              exact ⟨by first | rfl | (simp; done), HBX.out⟩
            have t2 : decide (4 < xa.a.k) = false := decide_eq_false hk4
            have t3 : decide (xa.a.k > 4) = false := decide_eq_false hk4
            have HKK : Hid (∀ h : Hd, h ∈ st.hs → h.id ≠ xa.a.id → h ∈ st2.hs) := Lib.hid fun h hh hne => HAO.out (by omega) (by omega) h hh hne
            clear hk0 hk4 HAO
            have hok2 := HL10.out.at_.ok.1
            have hv2 : st2.ver ≤ 61 := by have h1 := HAV.out; have h2 := HOK.out.2.1; (try simp only at h1); omega
            have hfew2 : st2.hs.length ≤ 61 := by have := hok2.few; omega
            have HST := Lib.hid (And.intro hok2 (And.intro hv2 hfew2))
            obtain ⟨q2, hq2⟩ : ∃ q, q = st2.hs.length := ⟨_, rfl⟩
            have HQ2 := Lib.hid hq2
            have hq61 : q2 ≤ 61 := by omega
            clear hok2 hv2 hfew2 hq2
            go_wp2_with fail
            refine (holds_lc HL10.out.at_ (by have := HST.out.2.2; omega)).mono ?_
            rintro e x11 ⟨A11, c11, G11, rfl, hc11, hh11, hG11, hy11⟩
            rw [← HQ2.out] at hc11 ⊢
            have HL11 := Lib.hid (HL10.out.keep hy11)
            have HOW := Lib.hid (And.intro (HOB.out.1.keep hy11) (And.intro (Frees.keep HOB.out.2.1 hy11 hy11.size) (And.intro (Els.keep HOB.out.2.2 hy11 hy11.size) (And.intro hh11 hG11))))
            have lT : x9.heap.size < x11.heap.size := by have := hy11.size; simp at this; omega
            have HT11 := Lib.hid ((hy11.cell (p := ⟨x9.heap.size, 0, none⟩) (by simp)).trans HT9.out)
            have lK : K1 < x11.heap.size := by omega
            obtain ⟨T9, hT9⟩ : ∃ z, z = x9.heap.size := ⟨_, rfl⟩
            rw [← hT9] at lT HT11 ⊢
            clear y0 t1 t2 t3 hh11 hG11 hy11 HL10 HOB HT9 HBX lK9 hT9
            go_wp2
            go_loopw [17] (fun i wr => ∃ k : Nat, i = .int .i64 k ∧ k ≤ q ∧ Hid (Below x11.heap.size x11 wr)) (fun i _ => q - (intOf i).toNat)
            case atStart => exact ⟨0, rfl, by omega, Lib.hid (Below.refl _ _)⟩
            case round =>
              obtain ⟨k, rfl, hk, hI⟩ := hrel
              by_cases hlt : k < q
              · obtain ⟨L, e1, l2, l3, l4, l5⟩ := HOW.out.1
                obtain ⟨x, hx⟩ := get_lt (l := L) (k := k) (by have := congrArg List.length e1; rw [List.length_map, ← HQ.out] at this; omega)
                have hxk : st.hs[k]? = some x.h := by rw [← e1, List.getElem?_map, hx]; rfl
                obtain ⟨b, off, e6, hb, hc⟩ := l2.at_ hx
                have f0 := (hI.out.cell (p := ⟨b, off + k * 5 + 0, none⟩) hb).trans (hc k x hx 0 _ rfl)
                rw [Nat.add_zero] at f0
                obtain ⟨xh, exh⟩ : ∃ v, v = x.h := ⟨_, rfl⟩
                rw [← exh] at f0 hxk
                obtain ⟨xi, exi⟩ : ∃ v, v = xh.id := ⟨_, rfl⟩
                rw [← exi] at f0
                have HX := Lib.hid (And.intro hxk exi)
                have lbw : b < wr.heap.size := Nat.lt_of_lt_of_le hb hI.out.size
                have lKw : K1 < wr.heap.size := Nat.lt_of_lt_of_le lK hI.out.size
                have y1 : wr.cell? ⟨K1, 1, none⟩ = some (.int .i64 xa.a.id) := HC.out wr (HL11.out.keep hI.out).bel 1 _ rfl
                subst e6
                have j1 : (k : Int) < (q : Int) := by omega
                have t1 : decide (k < q) = true := decide_eq_true hlt
                have hk6 : k + 1 ≤ c6 := by omega
                clear e1 l2 l3 l4 l5 hx hxk hc exh exi hb
                by_cases hxi : xi = xa.a.id
                · have t2 : (xi == xa.a.id) = true := by simpa using hxi
                  clear hxi
                  go_wp2
                  go_region
                  go_wp2
                  go_roundw
                  case rel => exact ⟨k + 1, by go_num, by omega, Lib.hid hI.out.drew⟩
                  case measure => simp [intOf]; omega
                · have t2 : (xi == xa.a.id) = false := beq_eq_false_iff_ne.2 hxi
                  have HIN : Hid (∃ m, m < q2 ∧ st2.hs[m]? = some xh) := Lib.hid (by
                    have := HKK.out xh (List.mem_of_getElem? HX.out.1) (by rw [← HX.out.2]; exact hxi)
                    obtain ⟨m, hm⟩ := List.mem_iff_getElem?.1 this
                    exact ⟨m, by rw [HQ2.out]; exact (List.getElem?_eq_some_iff.1 hm).1, hm⟩)
                  have hx16 : Hid (xh.sl.length ≤ 16) := Lib.hid (HOK.out.1.1.ok xh (List.mem_of_getElem? HX.out.1)).n2
                  clear hxi
                  go_wp2
                  go_region
                  have HI0 := Lib.hid hI.out.drew
                  clear hI f0 y1 t2 lbw lKw
                  go_wp2
                  go_loopw [18, 19] (fun f i wr => ∃ (fb : Bool) (j : Nat), f = .bool fb ∧ i = .int .i64 j ∧ j ≤ q2 ∧ Hid (fb = true ↔ ∃ m, m < j ∧ st2.hs[m]? = some xh) ∧ Hid (Below x11.heap.size x11 wr)) (fun _ i _ => q2 - (intOf i).toNat)
                  case atStart => exact ⟨false, 0, rfl, rfl, by omega, Lib.hid ⟨fun h => by simp at h, fun ⟨m, h, _⟩ => absurd h (by omega)⟩, HI0⟩
                  case round =>
                    clear HI0 t1 j1
                    obtain ⟨fb, j, rfl, rfl, hj, hF, hI⟩ := hrel
                    by_cases hjl : j < q2
                    · have t4 : decide (j < q2) = true := decide_eq_true hjl
                      have j2 : (j : Int) < (q2 : Int) := by omega
                      obtain ⟨yh, hyj⟩ := get_lt (l := st2.hs) (k := j) (by rw [← HQ2.out]; exact hjl)
                      obtain ⟨R, hR⟩ := truth (yh = xh)
                      have hnext : (fb || R) = true ↔ ∃ m, m < j + 1 ∧ st2.hs[m]? = some xh := by
                        rw [Bool.or_eq_true, hF.out, hR]
                        constructor
                        · rintro (⟨m, h1, h2⟩ | rfl)
                          · exact ⟨m, by omega, h2⟩
                          · exact ⟨j, by omega, hyj⟩
                        · rintro ⟨m, h1, h2⟩
                          by_cases e : m = j
                          · subst e; right; rw [hyj] at h2; injection h2
                          · exact .inl ⟨m, by omega, h2⟩
                      have HN := Lib.hid hnext
                      have hS := fun W (hW : Below x11.heap.size x11 W) => same_one (c11 - j) (c6 - k) (HOW.out.2.2.2.1.keep hW) (HOW.out.1.keep hW) hyj HX.out.1 (HST.out.1.ok yh (List.mem_of_getElem? hyj)).n2 hx16.out hR
                      obtain ⟨AJ, hAJ⟩ : ∃ z, z = A11.map (·.add (j * 5)) := ⟨_, rfl⟩
                      obtain ⟨AK, hAK⟩ : ∃ z, z = (some ⟨b, off, none⟩ : Option Addr).map (·.add (k * 5)) := ⟨_, rfl⟩
                      obtain ⟨cj, hcj⟩ : ∃ z, z = c11 - j := ⟨_, rfl⟩
                      obtain ⟨ck, hck⟩ : ∃ z, z = c6 - k := ⟨_, rfl⟩
                      rw [← hAJ, ← hAK, ← hcj, ← hck] at hS
                      have HS := Lib.hid hS
                      have HAj := Lib.hid hAJ
                      have HAk := Lib.hid hAK
                      have HCj := Lib.hid hcj
                      have HCk := Lib.hid hck
                      clear hS hAJ hAK hcj hck
                      have hj11 : j + 1 ≤ c11 := by omega
                      have ek : IntKind.i64.wrap ((k : Int) + 1) = (k : Int) + 1 := IntWalk.i64_in _ (by omega)
                      have ej : IntKind.i64.wrap ((j : Int) + 1) = (j : Int) + 1 := IntWalk.i64_in _ (by omega)
                      clear hyj hR hnext
                      cases fb
                      · go_wp2
                        refine held_begin (fun w' : World => True) (by kernel_rfl) ?_
                        have hBh0 : Below wr.heap.size wr wr.drew := (Below.refl _ _).drew
                        have hSh0 : (fun w' : World => True) wr.drew := trivial
                        refine held_take (v := ?_) 0 97 rfl rfl (by kernel_rfl) (by kernel_rfl) (by kernel_rfl) (fun _ _ _ h => h) ⟨by rfl, ?_⟩ hSh0 ?_
                        rotate_left
                        · intro w' hw'; obtain _ := hw'; go_simp; (try with_reducible rfl)
                        simp only [Act.put, List.setIfInBounds_toArray, List.set_cons_zero, List.set_cons_succ]
                        refine held_take (v := ?_) 1 98 rfl rfl (by kernel_rfl) (by kernel_rfl) (by kernel_rfl) (fun _ _ _ h => h) ⟨by rfl, ?_⟩ hSh0 ?_
                        rotate_left
                        · intro w' hw'; obtain _ := hw'; go_simp; (try with_reducible rfl)
                        simp only [Act.put, List.setIfInBounds_toArray, List.set_cons_zero, List.set_cons_succ]
                        refine held_take (v := ?_) 2 99 rfl rfl (by kernel_rfl) (by kernel_rfl) (by kernel_rfl) (fun _ _ _ h => h) ⟨by rfl, ?_⟩ hSh0 ?_
                        rotate_left
                        · intro w' hw'; obtain _ := hw'; go_simp; (try with_reducible rfl)
                        simp only [Act.put, List.setIfInBounds_toArray, List.set_cons_zero, List.set_cons_succ]
                        refine held_take (v := ?_) 3 100 rfl rfl (by kernel_rfl) (by kernel_rfl) (by kernel_rfl) (fun _ _ _ h => h) ⟨by rfl, ?_⟩ hSh0 ?_
                        rotate_left
                        · intro w' hw'; obtain _ := hw'; go_simp; (try with_reducible rfl)
                        simp only [Act.put, List.setIfInBounds_toArray, List.set_cons_zero, List.set_cons_succ]
                        refine held_take (v := ?_) 4 101 rfl rfl (by kernel_rfl) (by kernel_rfl) (by kernel_rfl) (fun _ _ _ h => h) ⟨by rfl, ?_⟩ hSh0 ?_
                        rotate_left
                        · intro w' hw'; obtain _ := hw'; go_simp; (try with_reducible rfl)
                        simp only [Act.put, List.setIfInBounds_toArray, List.set_cons_zero, List.set_cons_succ]
                        refine held_take (v := ?_) 5 102 rfl rfl (by kernel_rfl) (by kernel_rfl) (by kernel_rfl) (fun _ _ _ h => h) ⟨by rfl, ?_⟩ hSh0 ?_
                        rotate_left
                        · intro w' hw'; obtain _ := hw'; go_simp; (try with_reducible rfl)
                        simp only [Act.put, List.setIfInBounds_toArray, List.set_cons_zero, List.set_cons_succ]
                        refine held_take (v := ?_) 6 103 rfl rfl (by kernel_rfl) (by kernel_rfl) (by kernel_rfl) (fun _ _ _ h => h) ⟨by rfl, ?_⟩ hSh0 ?_
                        rotate_left
                        · intro w' hw'; obtain _ := hw'; refine Eq.trans (run_slice_one (k := j) (by rfl) (by rfl) (by rfl) (by rfl) hj11 HAj.out HCj.out) ?_; (with_reducible rfl)
                        simp only [Act.put, List.setIfInBounds_toArray, List.set_cons_zero, List.set_cons_succ]
                        refine held_take (v := ?_) 7 104 rfl rfl (by kernel_rfl) (by kernel_rfl) (by kernel_rfl) (fun _ _ _ h => h) ⟨by rfl, ?_⟩ hSh0 ?_
                        rotate_left
                        · intro w' hw'; obtain _ := hw'; go_simp; (try with_reducible rfl)
                        simp only [Act.put, List.setIfInBounds_toArray, List.set_cons_zero, List.set_cons_succ]
                        refine held_take (v := ?_) 8 105 rfl rfl (by kernel_rfl) (by kernel_rfl) (by kernel_rfl) (fun _ _ _ h => h) ⟨by rfl, ?_⟩ hSh0 ?_
                        rotate_left
                        · intro w' hw'; obtain _ := hw'; go_simp; (try with_reducible rfl)
                        simp only [Act.put, List.setIfInBounds_toArray, List.set_cons_zero, List.set_cons_succ]
                        refine held_take (v := ?_) 9 106 rfl rfl (by kernel_rfl) (by kernel_rfl) (by kernel_rfl) (fun _ _ _ h => h) ⟨by rfl, ?_⟩ hSh0 ?_
                        rotate_left
                        · intro w' hw'; obtain _ := hw'; go_simp; (try with_reducible rfl)
                        simp only [Act.put, List.setIfInBounds_toArray, List.set_cons_zero, List.set_cons_succ]
                        refine held_take (v := ?_) 10 107 rfl rfl (by kernel_rfl) (by kernel_rfl) (by kernel_rfl) (fun _ _ _ h => h) ⟨by rfl, ?_⟩ hSh0 ?_
                        rotate_left
                        · intro w' hw'; obtain _ := hw'; go_simp; (try with_reducible rfl)
                        simp only [Act.put, List.setIfInBounds_toArray, List.set_cons_zero, List.set_cons_succ]
                        refine held_take (v := ?_) 11 108 rfl rfl (by kernel_rfl) (by kernel_rfl) (by kernel_rfl) (fun _ _ _ h => h) ⟨by rfl, ?_⟩ hSh0 ?_
                        rotate_left
                        · intro w' hw'; obtain _ := hw'; refine Eq.trans (run_slice_one (k := k) (by rfl) (by rfl) (by rfl) (by rfl) hk6 HAk.out HCk.out) ?_; (with_reducible rfl)
                        simp only [Act.put, List.setIfInBounds_toArray, List.set_cons_zero, List.set_cons_succ]
                        refine held_one 12 rfl (by kernel_rfl) (by rfl) (fun K hK => ?_)
                        go_simp
                        go_at_call 22
                        refine (HS.out wr.drew (hI.out.drew)).mono ?_
                        rintro e wh1 ⟨rfl, hbh1⟩
                        have hBh1 : Below wr.heap.size wr wh1 := below_step hBh0 hbh1
                        have hSh1 : (fun w' : World => True) wh1 := trivial
                        refine hK.out _ _ hSh1 ?_
                        clear hK K
                        refine held_take (v := ?_) 13 110 rfl rfl (by kernel_rfl) (by kernel_rfl) (by kernel_rfl) (fun _ _ _ h => h) ⟨by rfl, ?_⟩ hSh1 ?_
                        rotate_left
                        · intro w' hw'; obtain _ := hw'; go_simp; (try with_reducible rfl)
                        simp only [Act.put, List.setIfInBounds_toArray, List.set_cons_zero, List.set_cons_succ]
                        refine held_take (v := ?_) 14 18 rfl rfl (by kernel_rfl) (by kernel_rfl) (by kernel_rfl) (fun _ _ _ h => h) ⟨by rfl, ?_⟩ hSh1 ?_
                        rotate_left
                        · intro w' hw'; obtain _ := hw'; go_simp; (try with_reducible rfl)
                        simp only [Act.put, List.setIfInBounds_toArray, List.set_cons_zero, List.set_cons_succ]
                        refine wpAnyH_done (by kernel_rfl) ?_ _
                        simp only [Bool.false_or] at HN
                        have HI2 := Lib.hid (hI.out.drew.trans (hbh1.mono hI.out.drew.size))
                        clear hBh0 hSh0 hBh1 hSh1 hbh1
                        go_wp2
                        go_roundw
                        case rel => exact ⟨R, j + 1, rfl, by go_num, by omega, Lib.hid HN.out, HI2⟩
                        case measure => simp [intOf]; omega
                      · have HI2 := Lib.hid hI.out.drew
                        go_wp2
                        go_region
                        go_wp2
                        go_roundw
                        case rel => exact ⟨true, j + 1, rfl, by go_num, by omega, Lib.hid HN.out, HI2⟩
                        case measure => simp [intOf]; omega
                    · obtain rfl : j = q2 := by omega
                      have t4 : decide (j < j) = false := decide_eq_false (by omega)
                      have hfb : fb = true := hF.out.2 HIN.out
                      subst hfb
                      go_wp2
                      go_roundw
                      case rel => exact ⟨k + 1, by go_num, by omega, hI⟩
                      case measure => simp [intOf]; omega
              · obtain rfl : k = q := by omega
                have t1 : decide (k < k) = false := decide_eq_false (by omega)
                have hLr := HL11.out.keep hI.out
                have HLr := Lib.hid hLr
                have HBX := Lib.hid (HBb.out.trans (hLr.bel.mono HBb.out.size))
                have y0 : wr.cell? ⟨K1, 0, none⟩ = some (.int .i64 xa.a.k) := HC.out wr hLr.bel 0 _ rfl
                have yt : wr.cell? ⟨T9, 0, none⟩ = some (.int .i64 te) := (hI.out.cell (p := ⟨T9, 0, none⟩) lT).trans HT11.out
                have lKw : K1 < wr.heap.size := Nat.lt_of_lt_of_le lK hI.out.size
                clear hlt hLr
                by_cases hk0 : xa.a.k = 0
                rotate_left
                · have t2 : (xa.a.k != 0) = true := by rw [bne_iff_ne]; exact hk0
                  clear hk0
                  go_wp2
                  go_ret
                  exact ⟨by first | rfl | (simp; done), HBX.out⟩
                have t2 : (xa.a.k != 0) = false := by rw [hk0]; rfl
                by_cases hte : te = 0
                rotate_left
                · have t3 : (te != 0) = true := by rw [bne_iff_ne]; exact hte
                  clear hk0 hte
                  go_wp2
                  go_ret
                  exact ⟨by first | rfl | (simp; done), HBX.out⟩
                have t3 : (te != 0) = false := by rw [hte]; rfl
                have hrb : (LM.release fs st2 xa.a.id).1 = (⟨xa.a.id, xa.a.q, xa.a.un, false, xa.a.sl⟩, 0) ∧ (LM.release fs st2 xa.a.id).2.ts = st.ts ∧ (LM.release fs st2 xa.a.id).2.qs = st.qs ∧ (LM.release fs st2 xa.a.id).2.hs = st.hs := by
                  have h1 := HT.out
                  unfold LM.act at h1
                  rw [if_pos hk0] at h1
                  injection h1 with h1 h2
                  injection h1 with h1 _ _ _
                  obtain ⟨hok, _, hinv, w9, pa, FQ, hqo⟩ := HOK.out.1
                  rw [h2]
                  exact LM.reserve_back hok.asc hinv (by obtain ⟨g, c, hq, _⟩ := hqo; exact hq.ok) (by rw [← h1]; exact hte)
                have HREL := Lib.hid (release_l xa.a.id HLr.out.at_ (by have := HST.out.2.1; omega) HGX.out.1.id)
                have hver3 : (LM.release fs st2 xa.a.id).2.ver ≤ 100 := by
                  have := HST.out.2.1
                  have := LM.release_steps fs st2 xa.a.id
                  rcases this with ⟨_, h⟩ | ⟨_, h⟩
                  · rw [h]; omega
                  · omega
                obtain ⟨R3, hR3⟩ : ∃ R, R = LM.release fs st2 xa.a.id := ⟨_, rfl⟩
                rw [← hR3] at HREL hrb hver3
                obtain ⟨⟨hd3, er3⟩, st3⟩ := R3
                obtain ⟨hr1, hr2, hr3, hr4⟩ := hrb
                try simp only at hr1 hr2 hr3 hr4 hver3
                injection hr1 with hr1 hr1'
                subst hr1 hr1'
                have HR3 := Lib.hid (And.intro hr2 (And.intro hr3 (And.intro hr4 hver3)))
                have y1 : wr.cell? ⟨K1, 1, none⟩ = some (.int .i64 xa.a.id) := HC.out wr HLr.out.bel 1 _ rfl
                clear hR3 hr2 hr3 hr4 hver3 hk0 hte
                go_wp2_with fail
                refine HREL.out.mono ?_
                rintro e z1 ⟨⟨v, rfl, ⟨Ar, cr, rfl, hsr, _⟩⟩, F12, s1, s2, s3⟩
                simp only [hdV]
                have hLz := HLr.out.step s1 s2 s3
                have p2 : HL z1 G6 A6 st.hs := (HOW.out.1.keep hI.out).foot s2 fun i hg hf => hFF.out.1 i hg hf
                have p3 : Frees z1 z1.heap.size A7 (PM.free fs st.ts) := (Frees.keep HOW.out.2.1 hI.out hI.out.size).off s2.size fun b off e hb => s2.block b hb fun hf => hFF.out.2.1 b off e hf
                have p4 : Uns z1 z1.heap.size A8 (st.qs.map (·.u)) := Uns.apart (Els.keep HOW.out.2.2.1 hI.out hI.out.size) s2 fun b off e hf => hFF.out.2.2 b off e hf
                have y1 : z1.cell? ⟨K1, 1, none⟩ = some (.int .i64 xa.a.id) := HC.out z1 hLz.bel 1 _ rfl
                have y6 : z1.cell? ⟨K1, 6, none⟩ = some (.slice xa.A xa.a.sl.length xa.c) := HC.out z1 hLz.bel 6 _ rfl
                have lKz : K1 < z1.heap.size := Nat.lt_of_lt_of_le lKw s2.size
                have hsa : Slots z1 z1.heap.size xa.A xa.a.sl := Slots.keep HGX.out.2 hLz.bel hLz.bel.size
                obtain ⟨sn, hsn⟩ : ∃ m, m = xa.a.sl.length := ⟨_, rfl⟩
                have HSN := Lib.hid hsn
                rw [← hsn] at y6 ⊢
                have hal := (Below.refl z1.heap.size z1).alloc (Nat.le_refl _) (.cells #[.int .i64 xa.a.id, .int .i64 xa.a.q, .int .i64 xa.a.un, .bool false, .slice Ar sn cr] 44)
                have HLz := Lib.hid (hLz.keep hal)
                have HP := Lib.hid (And.intro (p2.keep hal) (And.intro (Frees.keep p3 hal hal.size) (And.intro (Els.keep p4 hal hal.size) (And.intro (Slots.keep hsr hal hal.size) (Slots.keep hsa hal hal.size)))))
                have t4 : (xa.a.id == xa.a.id) = true := by simp
                clear hLz p2 p3 p4 hsr hsa hsn s1 s2 s3 hal y0 yt t2 t3
                go_wp2_with fail
                refine (show Calls _ _ _ _ _ by have h9 := same_sl Ar xa.A cr xa.c _ xa.a.sl _ HP.out.2.2.2.1 HP.out.2.2.2.2 (by have := H40.out; omega); rw [← HSN.out] at h9; exact h9).mono ?_
                rintro e z2 ⟨rfl, hz2⟩
                have HL2 := Lib.hid (HLz.out.keep hz2)
                have HB2 := Lib.hid hz2
                clear hz2
                go_wp2_with fail
                refine (free_l HL2.out.at_).mono ?_
                rintro e z3 ⟨A13, c13, rfl, hh13, _, hz3⟩
                try simp only at hh13
                rw [HR3.out.1] at hh13 ⊢
                rw [← HFL.out]
                have HL3 := Lib.hid (HL2.out.keep hz3)
                have HB3 := Lib.hid (And.intro (below_step HB2.out hz3) hh13)
                clear hz3 hh13
                go_wp2_with fail
                refine (show Calls _ _ _ _ _ by have h9 := same_any A13 A7 c13 c7 (PM.free fs st.ts) z3 HB3.out.2 (HP.out.2.1.keep HB3.out.1 HB3.out.1.size) (by rw [PM.free_len HOK.out.1.2.2.1]; exact HOK.out.1.2.1.few); rw [← HFL.out] at h9; exact h9).mono ?_
                rintro e z4 ⟨rfl, hz4⟩
                have HL4 := Lib.hid (HL3.out.keep hz4)
                have HB4 := Lib.hid (below_step HB3.out.1 hz4)
                clear hz4
                go_wp2_with fail
                refine (used_l HL4.out.at_).mono ?_
                rintro e z5 ⟨A14, c14, rfl, hh14, _, hz5⟩
                try simp only at hh14
                rw [HR3.out.2.1] at hh14 ⊢
                have HL5 := Lib.hid (HL4.out.keep hz5)
                have HB5 := Lib.hid (And.intro (below_step HB4.out hz5) hh14)
                clear hz5 hh14
                rw [← HUL.out]
                go_wp2_with fail
                refine (show Calls _ _ _ _ _ by have h9 := same_u A14 A8 c14 c8 (st.qs.map (·.u)) (st.qs.map (·.u)) z5 HB5.out.2 (HP.out.2.2.1.keep HB5.out.1 HB5.out.1.size) (by rw [List.length_map]; obtain ⟨_, _, _, w9, pa, FQ, g, c, hq, _⟩ := HOK.out.1; have := hq.few; omega); rw [List.length_map, ← HUL.out] at h9; exact h9).mono ?_
                rintro e z6 ⟨rfl, hz6⟩
                have hdd : decide (st.qs.map (·.u) = st.qs.map (·.u)) = true := decide_eq_true rfl
                rw [hdd]
                have HL6 := Lib.hid (HL5.out.keep hz6)
                have HB6 := Lib.hid (below_step HB5.out.1 hz6)
                clear hz6 hdd
                go_wp2_with fail
                refine (holds_l HL6.out.at_ (by have h1 := HR3.out.2.2.1; have h2 := HOK.out.2.2; (try simp only at h1); rw [h1]; omega)).mono ?_
                rintro e z7 ⟨A15, c15, G15, rfl, hh15, _, hz7⟩
                try simp only at hh15
                rw [HR3.out.2.2.1] at hh15 ⊢
                have HL7 := Lib.hid (HL6.out.keep hz7)
                have HB7 := Lib.hid (And.intro (below_step HB6.out hz7) hh15)
                clear hz7 hh15
                rw [← HQ.out]
                go_wp2_with fail
                refine (show Calls _ _ _ _ _ by have h9 := same_holds A15 A6 c15 c6 G15 G6 st.hs z7 HB7.out.2 (HP.out.1.keep HB7.out.1) (by have := HOK.out.2.2; omega) (fun g hg => (HOK.out.1.1.ok g hg).n2); rw [← HQ.out] at h9; exact h9).mono ?_
                rintro e z8 ⟨rfl, hz8⟩
                have HBZ := Lib.hid (HBb.out.trans ((HL7.out.keep hz8).bel.mono HBb.out.size))
                clear hz8
                go_wp2
                go_ret
                exact ⟨by first | rfl | (simp; done), HBZ.out⟩
    · have OwnE := Lib.hid ownE
      clear ownE
      simp only [lxC, laC]
      go_simp
      obtain ⟨wb2, hwb2⟩ : ∃ z, z = wa.alloc (.cells (lxC xa).toArray 49) := ⟨_, rfl⟩
      have elsB : Els lxC 7 wb2 wb2.heap.size (some ⟨wa.heap.size, 0, none⟩) [xa] := by rw [hwb2]; exact els_blk lxC_len (heap_alloc_new wa _) (fun j v hj => by simpa [List.flatMap_cons] using hj)
      have hBb : Below u2.heap.size u2 wb2 := by rw [hwb2]; exact hBa.alloc hBa.size _
      have swb2 : wa.heap.size < wb2.heap.size := by rw [hwb2]; simp
      have bwb2 : Below wa.heap.size wa wb2 := by rw [hwb2]; exact (Below.refl _ _).alloc (Nat.le_refl _) _
      have hSb : (fun w' : World => w'.cell? ⟨K0, 0, none⟩ = some (.slice a0 m c0) ∧ CellsAt w' K1 0 (lxC xa)) wb2 := ⟨(bwb2.cell (p := ⟨K0, 0, none⟩) (show K0 < _ by omega)).trans hSa.1, CellsAt.keep hSa.2 (by omega) bwb2⟩
      simp only [lxC, laC] at hwb2
      rw [← hwb2]
      refine hK.out _ _ hSb ?_
      clear hK K hwb2
      try simp only [Act.put, List.setIfInBounds_toArray, List.set_cons_zero, List.set_cons_succ]
      have ownE := own_keep OwnE.out bwb2
      refine held_one 4 rfl (by kernel_rfl) (by rfl) (fun K hK => ?_)
      simp only [Go.wp_at_zero, Go.wp_at_succ]
      refine wp_append_els (C := lxC) (k := 7) _ _ _ 26 rfl u2.heap.size 49 i0 _ 72 Tryz.underlying26 hi hz0 hz1 hz2 rfl (by decide) (.slice (some ⟨wd.heap.size, 0, none⟩) 0 0) 0 [] rfl ownE u2.heap.size a2 c2 n L2 rfl (HE2.out.keep (hBb) (Nat.le_refl _)) HL2.out lxC_len lxC_one (by unfold maxLen; omega) (by omega) (by omega) ?_
      intro A5 c5 wc own5 gwc kwc
      rw [Nat.zero_add] at own5 ⊢
      rw [List.nil_append] at own5
      have hob : ∀ j, (Value.slice (some ⟨wd.heap.size, 0, none⟩) 0 0).ownBlock = some j → j = wd.heap.size := fun j hj => by simpa [Value.ownBlock] using hj.symm
      have hBc : Below u2.heap.size u2 wc := hBb.grown gwc (by omega) (fun j hj => by have := hob j hj; omega)
      have swc := gwc.size
      have hSc : (fun w' : World => w'.cell? ⟨K0, 0, none⟩ = some (.slice a0 m c0) ∧ CellsAt w' K1 0 (lxC xa)) wc := ⟨(gwc.cell_far ⟨K0, 0, none⟩ (show K0 < wb2.heap.size by omega) (fun e => by have := hob K0 e.symm; omega)).trans hSb.1, CellsAt.of hSb.2 (gwc.block K1 (by omega) (fun e => by have := hob K1 e.symm; omega))⟩
      have elsB : Els lxC 7 wc wc.heap.size (some ⟨wa.heap.size, 0, none⟩) [xa] := (elsB.off (w' := wc) fun b2 o2 e2 hb2 => gwc.block b2 hb2 (fun e => by have := hob b2 e.symm; injection e2 with e2; injection e2 with e2; omega)).imp swc fun _ _ _ _ hd => hd
      refine hK.out _ _ hSc ?_
      clear hK K
      try simp only [Act.put, List.setIfInBounds_toArray, List.set_cons_zero, List.set_cons_succ]
      refine held_one 7 rfl (by kernel_rfl) (by rfl) (fun K hK => ?_)
      simp only [Go.wp_at_zero, Go.wp_at_succ]
      refine wp_append_els (C := lxC) (k := 7) _ _ _ 26 rfl u2.heap.size 49 i0 _ 72 Tryz.underlying26 hi hz0 hz1 hz2 rfl (by decide) (.slice A5 n c5) n _ rfl own5 _ (some ⟨wa.heap.size, 0, none⟩) 1 1 [xa] rfl elsB rfl lxC_len lxC_one (by unfold maxLen; omega) (by omega) (by omega) ?_
      intro A7 c7 w7 own7 g7 k7
      have hob5 : ∀ j, (Value.slice A5 n c5).ownBlock = some j → u2.heap.size ≤ j := fun j hj => (own5.lt j hj).1
      have hB7 : Below u2.heap.size u2 w7 := hBc.grown g7 (by omega) (fun j hj => by have := hob5 j hj; omega)
      have hS7 : (fun w' : World => w'.cell? ⟨K0, 0, none⟩ = some (.slice a0 m c0) ∧ CellsAt w' K1 0 (lxC xa)) w7 := ⟨(g7.cell_far ⟨K0, 0, none⟩ (show K0 < wc.heap.size by omega) (fun e => by have := hob5 K0 e.symm; omega)).trans hSc.1, CellsAt.of hSc.2 (g7.block K1 (by omega) (fun e => by have := hob5 K1 e.symm; omega))⟩
      refine hK.out _ _ hS7 ?_
      clear hK K
      try simp only [Act.put, List.setIfInBounds_toArray, List.set_cons_zero, List.set_cons_succ]
      have hFW := HFew.out w7 hB7 A7 c7 own7
      clear own7 own5 g7 k7 hob5
      try clear elsB
      try clear ownE
      try clear gwb2
      try clear kwb2
      try clear gwc
      try clear kwc
      try clear hob
      try clear hSc
      try clear hSb
      try clear hSa
      try clear hBc
      try clear hBb
      try clear hBa
      try clear bwa
      try clear bwb2
      try clear bwc
      try clear swa
      try clear swb2
      try clear swc
      refine held_one 8 rfl (by kernel_rfl) (by rfl) (fun K hK => ?_)
      go_simp
      go_at_call 7
      refine hFW.mono ?_
      rintro e w8 ⟨rfl, hb8⟩
      have hS8 : (fun w' : World => w'.cell? ⟨K0, 0, none⟩ = some (.slice a0 m c0) ∧ CellsAt w' K1 0 (lxC xa)) w8 := ⟨(hb8.cell (p := ⟨K0, 0, none⟩) (show K0 < _ by have := hB7.size; omega)).trans hS7.1, CellsAt.keep hS7.2 (by have := hB7.size; omega) hb8⟩
      have hB8 := Lib.hid (below_step hB7 hb8)
      refine hK.out _ _ hS8 ?_
      clear hK K hS7 hB7 hb8 hFW
      try simp only [Act.put, List.setIfInBounds_toArray, List.set_cons_zero, List.set_cons_succ]
      refine held_take (v := ?_) 9 33 rfl rfl (by kernel_rfl) (by kernel_rfl) (by kernel_rfl) (fun _ _ _ h => h) ⟨by rfl, ?_⟩ hS8 ?_
      rotate_left
      · intro w' _; go_simp; (try with_reducible rfl)
      simp only [Act.put, List.setIfInBounds_toArray, List.set_cons_zero, List.set_cons_succ]
      refine wpAnyH_done (by kernel_rfl) ?_ _
      have HB8 := Lib.hid (Hb2.out.trans (hB8.out.mono Hb2.out.size))
      have HW8 := Lib.hid (HBb.out.trans (HB8.out.mono HBb.out.size))
      have hk8 := hS8.1
      have HV8 := HV
      obtain ⟨fb, hfb⟩ : ∃ b, b = few8 n0 l1 (l2 ++ [xa.a]) := ⟨_, rfl⟩
      rw [← hfb]
      have HFB := Lib.hid hfb
      clear hS8 hB8 hfb HFew HE2 HL2 hB0 hS0 sd
      cases fb
      · go_wp2
        go_ret
        exact ⟨by first | rfl | (simp; done), HW8.out⟩
      · have hff := HFB.out
        obtain ⟨hcq, hq0, hn60⟩ : cluOk n0 = true ∧ quotasOk l1 = true ∧ n ≤ 60 := by
          have h1 := hff.symm
          unfold few8 at h1
          simp only [Bool.and_eq_true] at h1
          obtain ⟨⟨h1, h2⟩, h3⟩ := h1
          unfold fewLs at h3
          simp only [Bool.and_eq_true, decide_eq_true_eq, List.length_append] at h3
          exact ⟨h1, h2, by rw [← HV8.out.2.2.2.1]; omega⟩
        have hN : Hid (Calls Tryz.prog 8 #[.agg #[.slice a0 m c0], .slice a1 k1 c1] w8 fun e w' => ∃ p F, e = .returned (.tuple #[.pointer (some ⟨p, 0, none⟩), .int .i64 0]) ∧ LIn wb w' p F (frees n0) (LM.init n0 l1)) := Lib.hid (by
          obtain ⟨w0, v1, _, _, hm, hk1, _⟩ := HV8.out
          have hl := lnew_l a0 a1 c0 c1 n0 l1 w8 (Nodes.keep w0 HW8.out HW8.out.size) (v1.keep HW8.out HW8.out.size)
          rw [hm, hk1] at hl
          refine hl.mono fun e w' (hl : LNew n0 l1 w8 e w') => ?_
          rcases hl.2 with ⟨h2 | h2, _⟩ | ⟨_, _, p, F, he, ho, hF⟩
          · rw [hcq] at h2; cases h2
          · rw [hq0] at h2; cases h2
          · exact ⟨p, F, he, .made HB8.out ho hF hl.1⟩)
        have hver0 : (LM.init n0 l1).ver = 0 := rfl
        obtain ⟨st0, hst0⟩ : ∃ st, st = LM.init n0 l1 := ⟨_, rfl⟩
        obtain ⟨fs, hfs⟩ : ∃ fs, fs = frees n0 := ⟨_, rfl⟩
        rw [← hst0] at hver0 hN
        rw [← hfs] at hN
        clear hst0 hfs hff hcq hq0
        go_wp2_with fail
        refine hN.out.mono ?_
        rintro e u4 ⟨p, F4, rfl, hl4⟩
        have HL4 := Lib.hid hl4
        have hver0' := Lib.hid hver0
        clear hl4 hN hk8 hver0
        go_wp2
        go_loopw [11] (fun i wr => ∃ k : Nat, i = .int .i64 k ∧ k ≤ n ∧ Hid (∃ F st, LIn wb wr p F fs st ∧ st.ver ≤ k)) (fun i _ => n - (intOf i).toNat)
        case atStart => exact ⟨0, rfl, by omega, Lib.hid ⟨F4, st0, HL4.out, by have := hver0'.out; omega⟩⟩
        case round =>
          clear HL4 hver0'
          obtain ⟨k, rfl, hk, hW⟩ := hrel
          by_cases hlt : k < n
          · obtain ⟨F, st, hL, hv⟩ := hW.out
            obtain ⟨_, _, v2, hn, _, _, q2, _⟩ := HV8.out
            have v2 := v2.up HBb.out HBb.out.size
            obtain ⟨a, hx⟩ := get_lt (l := l2) (k := k) (by rw [hn]; exact hlt)
            have ha := q2 a (List.mem_of_getElem? hx)
            obtain ⟨b, off, rfl, hb, hcw⟩ := v2.at_ hx
            obtain ⟨A, c, hcells, hsl⟩ := hcw k a hx
            have hv2 : st.ver ≤ 100000 := by omega
            have hvk := LM.act_ver fs st a
            have hc4 := fun j u hj => (hL.bel.cell (p := ⟨b, off + k * 7 + j, none⟩) hb).trans (hcells j u hj)
            have HD := Lib.hid (do_l A c a hL.at_ hv2 ha (Slots.keep hsl hL.bel hL.bel.size) (hsl.old hL.hF))
            have HK := Lib.hid (And.intro hv hvk)
            have HLo := Lib.hid hL
            obtain ⟨T, hT⟩ : ∃ T, T = LM.act fs st a := ⟨_, rfl⟩
            rw [← hT] at HD HK
            obtain ⟨ak, aid, aq, aun, anow, aold, asl⟩ := a
            simp only [laC] at HD
            have y0 := hc4 0 _ rfl
            rw [Nat.add_zero] at y0
            have y1 := hc4 1 _ rfl
            have y2 := hc4 2 _ rfl
            have y3 := hc4 3 _ rfl
            have y4 := hc4 4 _ rfl
            have y5 := hc4 5 _ rfl
            have y6 := hc4 6 _ rfl
            simp only at y0 y1 y2 y3 y4 y5 y6
            have j1 : (k : Int) < (n : Int) := by omega
            have t1 : decide (k < n) = true := decide_eq_true hlt
            clear hT hx hcw hcells hsl ha v2 q2 hn hL hv hv2 hvk hW hc4
            go_wp2_with fail
            refine HD.out.mono ?_
            rintro e x5 ⟨v, rfl, _, F5, s1, s2, s3⟩
            have HL5 := Lib.hid (HLo.out.step s1 s2 s3)
            clear s1 s2 s3 HD HLo y0 y1 y2 y3 y4 y5 y6
            go_wp2
            go_roundw
            case rel => exact ⟨k + 1, by go_num, by omega, Lib.hid ⟨F5, _, HL5.out, by have := HK.out.2; have := HK.out.1; omega⟩⟩
            case measure => simp [intOf]; omega
          · obtain rfl : k = n := by omega
            have t1 : decide (k < k) = false := decide_eq_false (by omega)
            obtain ⟨F, st, hL, hv⟩ := hW.out
            have HLo := Lib.hid hL
            have HK := Lib.hid hv
            clear hW hL hv hlt
            obtain ⟨fxa, gxa, _⟩ := HV8.out.2.2.2.2.2.2.2
            have fxa := Slots.keep fxa HBb.out HBb.out.size
            have HC : Hid (∀ W, Below wb.heap.size wb W → CellsAt W K1 0 (lxC xa)) := Lib.hid fun W hW => (lx_box HE.out.2).keep (blk_lt HE.out.2) hW
            have hok := HLo.out.at_.ok
            have hv60 : st.ver ≤ 60 := by have := HK.out; omega
            have hfew : st.hs.length ≤ 60 := by have := hok.1.few; omega
            have HOK := Lib.hid (And.intro hok (And.intro hv60 hfew))
            have HGX := Lib.hid (And.intro gxa fxa)
            obtain ⟨q, hq⟩ : ∃ q, q = st.hs.length := ⟨_, rfl⟩
            have HQ := Lib.hid hq
            have hq60 : q ≤ 60 := by omega
            obtain ⟨fl, hfl⟩ : ∃ q, q = (PM.free fs st.ts).length := ⟨_, rfl⟩
            have HFL := Lib.hid hfl
            obtain ⟨ul, hul⟩ : ∃ q, q = st.qs.length := ⟨_, rfl⟩
            have HUL := Lib.hid hul
            have HAO := Lib.hid (fun h0 h4 (h : Hd) hh hne => LM.act_others (fs := fs) (st := st) (a := xa.a) h0 h4 (h := h) hh hne)
            have HAV := Lib.hid (LM.act_ver fs st xa.a)
            have H40 : Hid (xa.a.sl.length ≤ 40) := Lib.hid (by
              have h1 := HFB.out.symm
              unfold few8 fewLs at h1
              simp only [Bool.and_eq_true, decide_eq_true_eq, List.all_eq_true] at h1
              exact h1.2.2 xa.a (by simp))
            clear hok hv60 hfew hq hfl hul fxa gxa
            go_wp2_with fail
            refine (holds_lc HLo.out.at_ (by have := HOK.out.2.2; omega)).mono ?_
            rintro e x6 ⟨A6, c6, G6, rfl, hc6, hh6, hG6, hy6⟩
            rw [← HQ.out] at hc6 ⊢
            have HL6 := Lib.hid (HLo.out.keep hy6)
            have HH6 := Lib.hid (And.intro hh6 (And.intro hG6 hy6))
            clear hh6 hG6 hy6
            go_wp2_with fail
            refine (free_l HL6.out.at_).mono ?_
            rintro e x7 ⟨A7, c7, rfl, hh7, hG7, hy7⟩
            rw [← HFL.out]
            have HL7 := Lib.hid (HL6.out.keep hy7)
            have HH7 := Lib.hid (And.intro hh7 (And.intro hG7 hy7))
            clear hh7 hG7 hy7
            go_wp2_with fail
            refine (used_l HL7.out.at_).mono ?_
            rintro e x8 ⟨A8, c8, rfl, hh8, hG8, hy8⟩
            rw [← HUL.out]
            have HL8 := Lib.hid (HL7.out.keep hy8)
            have HH8 := Lib.hid (And.intro hh8 (And.intro hG8 hy8))
            clear hh8 hG8 hy8
            have HD := Lib.hid (do_l xa.A xa.c xa.a HL8.out.at_ (by have := HOK.out.2.1; omega) HGX.out.1 (Slots.keep HGX.out.2 HL8.out.bel HL8.out.bel.size) (HGX.out.2.old HL8.out.hF))
            obtain ⟨T, hT⟩ : ∃ T, T = LM.act fs st xa.a := ⟨_, rfl⟩
            rw [← hT] at HD HAO HAV
            obtain ⟨⟨⟨te, tids, tsl, thd⟩, st2⟩, hT2⟩ : ∃ X, X = T := ⟨_, rfl⟩
            rw [← hT2] at HD HAO HAV
            have HT := Lib.hid (hT2.trans hT)
            simp only [laC] at HD
            clear hT hT2 T
            have y0 : x8.cell? ⟨K1, 0, none⟩ = some (.int .i64 xa.a.k) := HC.out x8 HL8.out.bel 0 _ rfl
            have y1 : x8.cell? ⟨K1, 1, none⟩ = some (.int .i64 xa.a.id) := HC.out x8 HL8.out.bel 1 _ rfl
            have y2 : x8.cell? ⟨K1, 2, none⟩ = some (.int .i64 xa.a.q) := HC.out x8 HL8.out.bel 2 _ rfl
            have y3 : x8.cell? ⟨K1, 3, none⟩ = some (.int .i64 xa.a.un) := HC.out x8 HL8.out.bel 3 _ rfl
            have y4 : x8.cell? ⟨K1, 4, none⟩ = some (.int .i64 xa.a.now) := HC.out x8 HL8.out.bel 4 _ rfl
            have y5 : x8.cell? ⟨K1, 5, none⟩ = some (.int .i64 xa.a.old) := HC.out x8 HL8.out.bel 5 _ rfl
            have y6 : x8.cell? ⟨K1, 6, none⟩ = some (.slice xa.A xa.a.sl.length xa.c) := HC.out x8 HL8.out.bel 6 _ rfl
            go_wp2_with fail
            refine HD.out.mono ?_
            rintro e x9 ⟨v, rfl, ⟨A1, cc1, Ah, ch, rfl, _, _, _, _⟩, F9, s1, s2, s3⟩
            simp only [tlV]
            clear y0 y1 y2 y3 y4 y5 y6
            obtain ⟨nid, hnid⟩ : ∃ m, m = tids.length := ⟨_, rfl⟩
            try simp only at hnid
            rw [← hnid]
            clear hnid
            have hL9 := HL8.out.step s1 s2 s3
            have hltF := HLo.out.at_.lt.2
            have l6 := HH6.out.2.2.size
            have l7 := HH7.out.2.2.size
            have l8 := HH8.out.2.2.size
            have o2 : HL x9 G6 A6 st.hs := (HH6.out.1.keep (below_step HH7.out.2.2 HH8.out.2.2)).foot s2 fun i hg hf => by have := hltF i hf; have := (HH6.out.2.1 i hg).1; omega
            have o3 : Frees x9 x9.heap.size A7 (PM.free fs st.ts) := (Frees.keep HH7.out.1 HH8.out.2.2 HH8.out.2.2.size).off s2.size fun b off e hb => s2.block b hb fun hf => by have := hltF b hf; have := (HH7.out.2.1 b off e).1; omega
            have o4 : Uns x9 x9.heap.size A8 (st.qs.map (·.u)) := Uns.apart HH8.out.1 s2 fun b off e hf => by have := hltF b hf; have := (HH8.out.2.1 b off e).1; omega
            have hFF : Hid ((∀ i, G6 i → ¬ F9 i) ∧ (∀ b off, A7 = some ⟨b, off, none⟩ → ¬ F9 b) ∧ (∀ b off, A8 = some ⟨b, off, none⟩ → ¬ F9 b)) := Lib.hid ⟨fun i hg hf => by
                have := (HH6.out.2.1 i hg); rcases s3 i hf with e | e
                · have := hltF i e; omega
                · omega, fun b off e hf => by
                have := HH7.out.2.1 b off e; rcases s3 b hf with e | e
                · have := hltF b e; omega
                · omega, fun b off e hf => by
                have := HH8.out.2.1 b off e; rcases s3 b hf with e | e
                · have := hltF b e; omega
                · omega⟩
            have hal := (Below.refl x9.heap.size x9).alloc (Nat.le_refl _) (.cells #[.int .i64 te, .slice A1 nid cc1, .int .i64 tsl.n, .int .i64 tsl.d, .int .u64 (tsl.m : Nat), .int .i64 tsl.c, .int .i64 thd.id, .int .i64 thd.q, .int .i64 thd.un, .bool thd.run, .slice Ah thd.sl.length ch] 46)
            have HL10 := Lib.hid (hL9.keep hal)
            have HOB := Lib.hid (And.intro (o2.keep hal) (And.intro (Frees.keep o3 hal hal.size) (Els.keep o4 hal hal.size)))
            have HT9 : Hid ((x9.alloc (.cells #[.int .i64 te, .slice A1 nid cc1, .int .i64 tsl.n, .int .i64 tsl.d, .int .u64 (tsl.m : Nat), .int .i64 tsl.c, .int .i64 thd.id, .int .i64 thd.q, .int .i64 thd.un, .bool thd.run, .slice Ah thd.sl.length ch] 46)).cell? ⟨x9.heap.size, 0, none⟩ = some (.int .i64 te)) := Lib.hid (cell_blk (i := 0) (heap_alloc_new x9 _) rfl)
            have y0 : x9.cell? ⟨K1, 0, none⟩ = some (.int .i64 xa.a.k) := HC.out x9 hL9.bel 0 _ rfl
            have lK9 : K1 < x9.heap.size := Nat.lt_of_lt_of_le (blk_lt HE.out.2) hL9.bel.size
            have HBX := Lib.hid (HBb.out.trans (HL10.out.bel.mono HBb.out.size))
            have HL9 := Lib.hid hL9
            clear o2 o3 o4 s1 s2 s3 hltF l6 l7 l8 hal hL9 HLo HL6 HL7 HL8 HH6 HH7 HH8 HD
            by_cases hk0 : xa.a.k < 0
            · have t1 : decide (xa.a.k < 0) = true := decide_eq_true hk0
              clear hk0
              go_wp2
              go_ret
              exact ⟨by first | rfl | (simp; done), HBX.out⟩
            have t1 : decide (xa.a.k < 0) = false := decide_eq_false hk0
            by_cases hk4 : 4 < xa.a.k
            · have t2 : decide (4 < xa.a.k) = true := decide_eq_true hk4
              have t3 : decide (xa.a.k > 4) = true := decide_eq_true hk4
              clear hk0 hk4
              go_wp2
              go_ret
              exact ⟨by first | rfl | (simp; done), HBX.out⟩
            have t2 : decide (4 < xa.a.k) = false := decide_eq_false hk4
            have t3 : decide (xa.a.k > 4) = false := decide_eq_false hk4
            have HKK : Hid (∀ h : Hd, h ∈ st.hs → h.id ≠ xa.a.id → h ∈ st2.hs) := Lib.hid fun h hh hne => HAO.out (by omega) (by omega) h hh hne
            clear hk0 hk4 HAO
            have hok2 := HL10.out.at_.ok.1
            have hv2 : st2.ver ≤ 61 := by have h1 := HAV.out; have h2 := HOK.out.2.1; (try simp only at h1); omega
            have hfew2 : st2.hs.length ≤ 61 := by have := hok2.few; omega
            have HST := Lib.hid (And.intro hok2 (And.intro hv2 hfew2))
            obtain ⟨q2, hq2⟩ : ∃ q, q = st2.hs.length := ⟨_, rfl⟩
            have HQ2 := Lib.hid hq2
            have hq61 : q2 ≤ 61 := by omega
            clear hok2 hv2 hfew2 hq2
            go_wp2_with fail
            refine (holds_lc HL10.out.at_ (by have := HST.out.2.2; omega)).mono ?_
            rintro e x11 ⟨A11, c11, G11, rfl, hc11, hh11, hG11, hy11⟩
            rw [← HQ2.out] at hc11 ⊢
            have HL11 := Lib.hid (HL10.out.keep hy11)
            have HOW := Lib.hid (And.intro (HOB.out.1.keep hy11) (And.intro (Frees.keep HOB.out.2.1 hy11 hy11.size) (And.intro (Els.keep HOB.out.2.2 hy11 hy11.size) (And.intro hh11 hG11))))
            have lT : x9.heap.size < x11.heap.size := by have := hy11.size; simp at this; omega
            have HT11 := Lib.hid ((hy11.cell (p := ⟨x9.heap.size, 0, none⟩) (by simp)).trans HT9.out)
            have lK : K1 < x11.heap.size := by omega
            obtain ⟨T9, hT9⟩ : ∃ z, z = x9.heap.size := ⟨_, rfl⟩
            rw [← hT9] at lT HT11 ⊢
            clear y0 t1 t2 t3 hh11 hG11 hy11 HL10 HOB HT9 HBX lK9 hT9
            go_wp2
            go_loopw [17] (fun i wr => ∃ k : Nat, i = .int .i64 k ∧ k ≤ q ∧ Hid (Below x11.heap.size x11 wr)) (fun i _ => q - (intOf i).toNat)
            case atStart => exact ⟨0, rfl, by omega, Lib.hid (Below.refl _ _)⟩
            case round =>
              obtain ⟨k, rfl, hk, hI⟩ := hrel
              by_cases hlt : k < q
              · obtain ⟨L, e1, l2, l3, l4, l5⟩ := HOW.out.1
                obtain ⟨x, hx⟩ := get_lt (l := L) (k := k) (by have := congrArg List.length e1; rw [List.length_map, ← HQ.out] at this; omega)
                have hxk : st.hs[k]? = some x.h := by rw [← e1, List.getElem?_map, hx]; rfl
                obtain ⟨b, off, e6, hb, hc⟩ := l2.at_ hx
                have f0 := (hI.out.cell (p := ⟨b, off + k * 5 + 0, none⟩) hb).trans (hc k x hx 0 _ rfl)
                rw [Nat.add_zero] at f0
                obtain ⟨xh, exh⟩ : ∃ v, v = x.h := ⟨_, rfl⟩
                rw [← exh] at f0 hxk
                obtain ⟨xi, exi⟩ : ∃ v, v = xh.id := ⟨_, rfl⟩
                rw [← exi] at f0
                have HX := Lib.hid (And.intro hxk exi)
                have lbw : b < wr.heap.size := Nat.lt_of_lt_of_le hb hI.out.size
                have lKw : K1 < wr.heap.size := Nat.lt_of_lt_of_le lK hI.out.size
                have y1 : wr.cell? ⟨K1, 1, none⟩ = some (.int .i64 xa.a.id) := HC.out wr (HL11.out.keep hI.out).bel 1 _ rfl
                subst e6
                have j1 : (k : Int) < (q : Int) := by omega
                have t1 : decide (k < q) = true := decide_eq_true hlt
                have hk6 : k + 1 ≤ c6 := by omega
                clear e1 l2 l3 l4 l5 hx hxk hc exh exi hb
                by_cases hxi : xi = xa.a.id
                · have t2 : (xi == xa.a.id) = true := by simpa using hxi
                  clear hxi
                  go_wp2
                  go_region
                  go_wp2
                  go_roundw
                  case rel => exact ⟨k + 1, by go_num, by omega, Lib.hid hI.out.drew⟩
                  case measure => simp [intOf]; omega
                · have t2 : (xi == xa.a.id) = false := beq_eq_false_iff_ne.2 hxi
                  have HIN : Hid (∃ m, m < q2 ∧ st2.hs[m]? = some xh) := Lib.hid (by
                    have := HKK.out xh (List.mem_of_getElem? HX.out.1) (by rw [← HX.out.2]; exact hxi)
                    obtain ⟨m, hm⟩ := List.mem_iff_getElem?.1 this
                    exact ⟨m, by rw [HQ2.out]; exact (List.getElem?_eq_some_iff.1 hm).1, hm⟩)
                  have hx16 : Hid (xh.sl.length ≤ 16) := Lib.hid (HOK.out.1.1.ok xh (List.mem_of_getElem? HX.out.1)).n2
                  clear hxi
                  go_wp2
                  go_region
                  have HI0 := Lib.hid hI.out.drew
                  clear hI f0 y1 t2 lbw lKw
                  go_wp2
                  go_loopw [18, 19] (fun f i wr => ∃ (fb : Bool) (j : Nat), f = .bool fb ∧ i = .int .i64 j ∧ j ≤ q2 ∧ Hid (fb = true ↔ ∃ m, m < j ∧ st2.hs[m]? = some xh) ∧ Hid (Below x11.heap.size x11 wr)) (fun _ i _ => q2 - (intOf i).toNat)
                  case atStart => exact ⟨false, 0, rfl, rfl, by omega, Lib.hid ⟨fun h => by simp at h, fun ⟨m, h, _⟩ => absurd h (by omega)⟩, HI0⟩
                  case round =>
                    clear HI0 t1 j1
                    obtain ⟨fb, j, rfl, rfl, hj, hF, hI⟩ := hrel
                    by_cases hjl : j < q2
                    · have t4 : decide (j < q2) = true := decide_eq_true hjl
                      have j2 : (j : Int) < (q2 : Int) := by omega
                      obtain ⟨yh, hyj⟩ := get_lt (l := st2.hs) (k := j) (by rw [← HQ2.out]; exact hjl)
                      obtain ⟨R, hR⟩ := truth (yh = xh)
                      have hnext : (fb || R) = true ↔ ∃ m, m < j + 1 ∧ st2.hs[m]? = some xh := by
                        rw [Bool.or_eq_true, hF.out, hR]
                        constructor
                        · rintro (⟨m, h1, h2⟩ | rfl)
                          · exact ⟨m, by omega, h2⟩
                          · exact ⟨j, by omega, hyj⟩
                        · rintro ⟨m, h1, h2⟩
                          by_cases e : m = j
                          · subst e; right; rw [hyj] at h2; injection h2
                          · exact .inl ⟨m, by omega, h2⟩
                      have HN := Lib.hid hnext
                      have hS := fun W (hW : Below x11.heap.size x11 W) => same_one (c11 - j) (c6 - k) (HOW.out.2.2.2.1.keep hW) (HOW.out.1.keep hW) hyj HX.out.1 (HST.out.1.ok yh (List.mem_of_getElem? hyj)).n2 hx16.out hR
                      obtain ⟨AJ, hAJ⟩ : ∃ z, z = A11.map (·.add (j * 5)) := ⟨_, rfl⟩
                      obtain ⟨AK, hAK⟩ : ∃ z, z = (some ⟨b, off, none⟩ : Option Addr).map (·.add (k * 5)) := ⟨_, rfl⟩
                      obtain ⟨cj, hcj⟩ : ∃ z, z = c11 - j := ⟨_, rfl⟩
                      obtain ⟨ck, hck⟩ : ∃ z, z = c6 - k := ⟨_, rfl⟩
                      rw [← hAJ, ← hAK, ← hcj, ← hck] at hS
                      have HS := Lib.hid hS
                      have HAj := Lib.hid hAJ
                      have HAk := Lib.hid hAK
                      have HCj := Lib.hid hcj
                      have HCk := Lib.hid hck
                      clear hS hAJ hAK hcj hck
                      have hj11 : j + 1 ≤ c11 := by omega
                      have ek : IntKind.i64.wrap ((k : Int) + 1) = (k : Int) + 1 := IntWalk.i64_in _ (by omega)
                      have ej : IntKind.i64.wrap ((j : Int) + 1) = (j : Int) + 1 := IntWalk.i64_in _ (by omega)
                      clear hyj hR hnext
                      cases fb
                      · go_wp2
                        refine held_begin (fun w' : World => True) (by kernel_rfl) ?_
                        have hBh0 : Below wr.heap.size wr wr.drew := (Below.refl _ _).drew
                        have hSh0 : (fun w' : World => True) wr.drew := trivial
                        refine held_take (v := ?_) 0 97 rfl rfl (by kernel_rfl) (by kernel_rfl) (by kernel_rfl) (fun _ _ _ h => h) ⟨by rfl, ?_⟩ hSh0 ?_
                        rotate_left
                        · intro w' hw'; obtain _ := hw'; go_simp; (try with_reducible rfl)
                        simp only [Act.put, List.setIfInBounds_toArray, List.set_cons_zero, List.set_cons_succ]
                        refine held_take (v := ?_) 1 98 rfl rfl (by kernel_rfl) (by kernel_rfl) (by kernel_rfl) (fun _ _ _ h => h) ⟨by rfl, ?_⟩ hSh0 ?_
                        rotate_left
                        · intro w' hw'; obtain _ := hw'; go_simp; (try with_reducible rfl)
                        simp only [Act.put, List.setIfInBounds_toArray, List.set_cons_zero, List.set_cons_succ]
                        refine held_take (v := ?_) 2 99 rfl rfl (by kernel_rfl) (by kernel_rfl) (by kernel_rfl) (fun _ _ _ h => h) ⟨by rfl, ?_⟩ hSh0 ?_
                        rotate_left
                        · intro w' hw'; obtain _ := hw'; go_simp; (try with_reducible rfl)
                        simp only [Act.put, List.setIfInBounds_toArray, List.set_cons_zero, List.set_cons_succ]
                        refine held_take (v := ?_) 3 100 rfl rfl (by kernel_rfl) (by kernel_rfl) (by kernel_rfl) (fun _ _ _ h => h) ⟨by rfl, ?_⟩ hSh0 ?_
                        rotate_left
                        · intro w' hw'; obtain _ := hw'; go_simp; (try with_reducible rfl)
                        simp only [Act.put, List.setIfInBounds_toArray, List.set_cons_zero, List.set_cons_succ]
                        refine held_take (v := ?_) 4 101 rfl rfl (by kernel_rfl) (by kernel_rfl) (by kernel_rfl) (fun _ _ _ h => h) ⟨by rfl, ?_⟩ hSh0 ?_
                        rotate_left
                        · intro w' hw'; obtain _ := hw'; go_simp; (try with_reducible rfl)
                        simp only [Act.put, List.setIfInBounds_toArray, List.set_cons_zero, List.set_cons_succ]
                        refine held_take (v := ?_) 5 102 rfl rfl (by kernel_rfl) (by kernel_rfl) (by kernel_rfl) (fun _ _ _ h => h) ⟨by rfl, ?_⟩ hSh0 ?_
                        rotate_left
                        · intro w' hw'; obtain _ := hw'; go_simp; (try with_reducible rfl)
                        simp only [Act.put, List.setIfInBounds_toArray, List.set_cons_zero, List.set_cons_succ]
                        refine held_take (v := ?_) 6 103 rfl rfl (by kernel_rfl) (by kernel_rfl) (by kernel_rfl) (fun _ _ _ h => h) ⟨by rfl, ?_⟩ hSh0 ?_
                        rotate_left
                        · intro w' hw'; obtain _ := hw'; refine Eq.trans (run_slice_one (k := j) (by rfl) (by rfl) (by rfl) (by rfl) hj11 HAj.out HCj.out) ?_; (with_reducible rfl)
                        simp only [Act.put, List.setIfInBounds_toArray, List.set_cons_zero, List.set_cons_succ]
                        refine held_take (v := ?_) 7 104 rfl rfl (by kernel_rfl) (by kernel_rfl) (by kernel_rfl) (fun _ _ _ h => h) ⟨by rfl, ?_⟩ hSh0 ?_
                        rotate_left
                        · intro w' hw'; obtain _ := hw'; go_simp; (try with_reducible rfl)
                        simp only [Act.put, List.setIfInBounds_toArray, List.set_cons_zero, List.set_cons_succ]
                        refine held_take (v := ?_) 8 105 rfl rfl (by kernel_rfl) (by kernel_rfl) (by kernel_rfl) (fun _ _ _ h => h) ⟨by rfl, ?_⟩ hSh0 ?_
                        rotate_left
                        · intro w' hw'; obtain _ := hw'; go_simp; (try with_reducible rfl)
                        simp only [Act.put, List.setIfInBounds_toArray, List.set_cons_zero, List.set_cons_succ]
                        refine held_take (v := ?_) 9 106 rfl rfl (by kernel_rfl) (by kernel_rfl) (by kernel_rfl) (fun _ _ _ h => h) ⟨by rfl, ?_⟩ hSh0 ?_
                        rotate_left
                        · intro w' hw'; obtain _ := hw'; go_simp; (try with_reducible rfl)
                        simp only [Act.put, List.setIfInBounds_toArray, List.set_cons_zero, List.set_cons_succ]
                        refine held_take (v := ?_) 10 107 rfl rfl (by kernel_rfl) (by kernel_rfl) (by kernel_rfl) (fun _ _ _ h => h) ⟨by rfl, ?_⟩ hSh0 ?_
                        rotate_left
                        · intro w' hw'; obtain _ := hw'; go_simp; (try with_reducible rfl)
                        simp only [Act.put, List.setIfInBounds_toArray, List.set_cons_zero, List.set_cons_succ]
                        refine held_take (v := ?_) 11 108 rfl rfl (by kernel_rfl) (by kernel_rfl) (by kernel_rfl) (fun _ _ _ h => h) ⟨by rfl, ?_⟩ hSh0 ?_
                        rotate_left
                        · intro w' hw'; obtain _ := hw'; refine Eq.trans (run_slice_one (k := k) (by rfl) (by rfl) (by rfl) (by rfl) hk6 HAk.out HCk.out) ?_; (with_reducible rfl)
                        simp only [Act.put, List.setIfInBounds_toArray, List.set_cons_zero, List.set_cons_succ]
                        refine held_one 12 rfl (by kernel_rfl) (by rfl) (fun K hK => ?_)
                        go_simp
                        go_at_call 22
                        refine (HS.out wr.drew (hI.out.drew)).mono ?_
                        rintro e wh1 ⟨rfl, hbh1⟩
                        have hBh1 : Below wr.heap.size wr wh1 := below_step hBh0 hbh1
                        have hSh1 : (fun w' : World => True) wh1 := trivial
                        refine hK.out _ _ hSh1 ?_
                        clear hK K
                        refine held_take (v := ?_) 13 110 rfl rfl (by kernel_rfl) (by kernel_rfl) (by kernel_rfl) (fun _ _ _ h => h) ⟨by rfl, ?_⟩ hSh1 ?_
                        rotate_left
                        · intro w' hw'; obtain _ := hw'; go_simp; (try with_reducible rfl)
                        simp only [Act.put, List.setIfInBounds_toArray, List.set_cons_zero, List.set_cons_succ]
                        refine held_take (v := ?_) 14 18 rfl rfl (by kernel_rfl) (by kernel_rfl) (by kernel_rfl) (fun _ _ _ h => h) ⟨by rfl, ?_⟩ hSh1 ?_
                        rotate_left
                        · intro w' hw'; obtain _ := hw'; go_simp; (try with_reducible rfl)
                        simp only [Act.put, List.setIfInBounds_toArray, List.set_cons_zero, List.set_cons_succ]
                        refine wpAnyH_done (by kernel_rfl) ?_ _
                        simp only [Bool.false_or] at HN
                        have HI2 := Lib.hid (hI.out.drew.trans (hbh1.mono hI.out.drew.size))
                        clear hBh0 hSh0 hBh1 hSh1 hbh1
                        go_wp2
                        go_roundw
                        case rel => exact ⟨R, j + 1, rfl, by go_num, by omega, Lib.hid HN.out, HI2⟩
                        case measure => simp [intOf]; omega
                      · have HI2 := Lib.hid hI.out.drew
                        go_wp2
                        go_region
                        go_wp2
                        go_roundw
                        case rel => exact ⟨true, j + 1, rfl, by go_num, by omega, Lib.hid HN.out, HI2⟩
                        case measure => simp [intOf]; omega
                    · obtain rfl : j = q2 := by omega
                      have t4 : decide (j < j) = false := decide_eq_false (by omega)
                      have hfb : fb = true := hF.out.2 HIN.out
                      subst hfb
                      go_wp2
                      go_roundw
                      case rel => exact ⟨k + 1, by go_num, by omega, hI⟩
                      case measure => simp [intOf]; omega
              · obtain rfl : k = q := by omega
                have t1 : decide (k < k) = false := decide_eq_false (by omega)
                have hLr := HL11.out.keep hI.out
                have HLr := Lib.hid hLr
                have HBX := Lib.hid (HBb.out.trans (hLr.bel.mono HBb.out.size))
                have y0 : wr.cell? ⟨K1, 0, none⟩ = some (.int .i64 xa.a.k) := HC.out wr hLr.bel 0 _ rfl
                have yt : wr.cell? ⟨T9, 0, none⟩ = some (.int .i64 te) := (hI.out.cell (p := ⟨T9, 0, none⟩) lT).trans HT11.out
                have lKw : K1 < wr.heap.size := Nat.lt_of_lt_of_le lK hI.out.size
                clear hlt hLr
                by_cases hk0 : xa.a.k = 0
                rotate_left
                · have t2 : (xa.a.k != 0) = true := by rw [bne_iff_ne]; exact hk0
                  clear hk0
                  go_wp2
                  go_ret
                  exact ⟨by first | rfl | (simp; done), HBX.out⟩
                have t2 : (xa.a.k != 0) = false := by rw [hk0]; rfl
                by_cases hte : te = 0
                rotate_left
                · have t3 : (te != 0) = true := by rw [bne_iff_ne]; exact hte
                  clear hk0 hte
                  go_wp2
                  go_ret
                  exact ⟨by first | rfl | (simp; done), HBX.out⟩
                have t3 : (te != 0) = false := by rw [hte]; rfl
                have hrb : (LM.release fs st2 xa.a.id).1 = (⟨xa.a.id, xa.a.q, xa.a.un, false, xa.a.sl⟩, 0) ∧ (LM.release fs st2 xa.a.id).2.ts = st.ts ∧ (LM.release fs st2 xa.a.id).2.qs = st.qs ∧ (LM.release fs st2 xa.a.id).2.hs = st.hs := by
                  have h1 := HT.out
                  unfold LM.act at h1
                  rw [if_pos hk0] at h1
                  injection h1 with h1 h2
                  injection h1 with h1 _ _ _
                  obtain ⟨hok, _, hinv, w9, pa, FQ, hqo⟩ := HOK.out.1
                  rw [h2]
                  exact LM.reserve_back hok.asc hinv (by obtain ⟨g, c, hq, _⟩ := hqo; exact hq.ok) (by rw [← h1]; exact hte)
                have HREL := Lib.hid (release_l xa.a.id HLr.out.at_ (by have := HST.out.2.1; omega) HGX.out.1.id)
                have hver3 : (LM.release fs st2 xa.a.id).2.ver ≤ 100 := by
                  have := HST.out.2.1
                  have := LM.release_steps fs st2 xa.a.id
                  rcases this with ⟨_, h⟩ | ⟨_, h⟩
                  · rw [h]; omega
                  · omega
                obtain ⟨R3, hR3⟩ : ∃ R, R = LM.release fs st2 xa.a.id := ⟨_, rfl⟩
                rw [← hR3] at HREL hrb hver3
                obtain ⟨⟨hd3, er3⟩, st3⟩ := R3
                obtain ⟨hr1, hr2, hr3, hr4⟩ := hrb
                try simp only at hr1 hr2 hr3 hr4 hver3
                injection hr1 with hr1 hr1'
                subst hr1 hr1'
                have HR3 := Lib.hid (And.intro hr2 (And.intro hr3 (And.intro hr4 hver3)))
                have y1 : wr.cell? ⟨K1, 1, none⟩ = some (.int .i64 xa.a.id) := HC.out wr HLr.out.bel 1 _ rfl
                clear hR3 hr2 hr3 hr4 hver3 hk0 hte
                go_wp2_with fail
                refine HREL.out.mono ?_
                rintro e z1 ⟨⟨v, rfl, ⟨Ar, cr, rfl, hsr, _⟩⟩, F12, s1, s2, s3⟩
                simp only [hdV]
                have hLz := HLr.out.step s1 s2 s3
                have p2 : HL z1 G6 A6 st.hs := (HOW.out.1.keep hI.out).foot s2 fun i hg hf => hFF.out.1 i hg hf
                have p3 : Frees z1 z1.heap.size A7 (PM.free fs st.ts) := (Frees.keep HOW.out.2.1 hI.out hI.out.size).off s2.size fun b off e hb => s2.block b hb fun hf => hFF.out.2.1 b off e hf
                have p4 : Uns z1 z1.heap.size A8 (st.qs.map (·.u)) := Uns.apart (Els.keep HOW.out.2.2.1 hI.out hI.out.size) s2 fun b off e hf => hFF.out.2.2 b off e hf
                have y1 : z1.cell? ⟨K1, 1, none⟩ = some (.int .i64 xa.a.id) := HC.out z1 hLz.bel 1 _ rfl
                have y6 : z1.cell? ⟨K1, 6, none⟩ = some (.slice xa.A xa.a.sl.length xa.c) := HC.out z1 hLz.bel 6 _ rfl
                have lKz : K1 < z1.heap.size := Nat.lt_of_lt_of_le lKw s2.size
                have hsa : Slots z1 z1.heap.size xa.A xa.a.sl := Slots.keep HGX.out.2 hLz.bel hLz.bel.size
                obtain ⟨sn, hsn⟩ : ∃ m, m = xa.a.sl.length := ⟨_, rfl⟩
                have HSN := Lib.hid hsn
                rw [← hsn] at y6 ⊢
                have hal := (Below.refl z1.heap.size z1).alloc (Nat.le_refl _) (.cells #[.int .i64 xa.a.id, .int .i64 xa.a.q, .int .i64 xa.a.un, .bool false, .slice Ar sn cr] 44)
                have HLz := Lib.hid (hLz.keep hal)
                have HP := Lib.hid (And.intro (p2.keep hal) (And.intro (Frees.keep p3 hal hal.size) (And.intro (Els.keep p4 hal hal.size) (And.intro (Slots.keep hsr hal hal.size) (Slots.keep hsa hal hal.size)))))
                have t4 : (xa.a.id == xa.a.id) = true := by simp
                clear hLz p2 p3 p4 hsr hsa hsn s1 s2 s3 hal y0 yt t2 t3
                go_wp2_with fail
                refine (show Calls _ _ _ _ _ by have h9 := same_sl Ar xa.A cr xa.c _ xa.a.sl _ HP.out.2.2.2.1 HP.out.2.2.2.2 (by have := H40.out; omega); rw [← HSN.out] at h9; exact h9).mono ?_
                rintro e z2 ⟨rfl, hz2⟩
                have HL2 := Lib.hid (HLz.out.keep hz2)
                have HB2 := Lib.hid hz2
                clear hz2
                go_wp2_with fail
                refine (free_l HL2.out.at_).mono ?_
                rintro e z3 ⟨A13, c13, rfl, hh13, _, hz3⟩
                try simp only at hh13
                rw [HR3.out.1] at hh13 ⊢
                rw [← HFL.out]
                have HL3 := Lib.hid (HL2.out.keep hz3)
                have HB3 := Lib.hid (And.intro (below_step HB2.out hz3) hh13)
                clear hz3 hh13
                go_wp2_with fail
                refine (show Calls _ _ _ _ _ by have h9 := same_any A13 A7 c13 c7 (PM.free fs st.ts) z3 HB3.out.2 (HP.out.2.1.keep HB3.out.1 HB3.out.1.size) (by rw [PM.free_len HOK.out.1.2.2.1]; exact HOK.out.1.2.1.few); rw [← HFL.out] at h9; exact h9).mono ?_
                rintro e z4 ⟨rfl, hz4⟩
                have HL4 := Lib.hid (HL3.out.keep hz4)
                have HB4 := Lib.hid (below_step HB3.out.1 hz4)
                clear hz4
                go_wp2_with fail
                refine (used_l HL4.out.at_).mono ?_
                rintro e z5 ⟨A14, c14, rfl, hh14, _, hz5⟩
                try simp only at hh14
                rw [HR3.out.2.1] at hh14 ⊢
                have HL5 := Lib.hid (HL4.out.keep hz5)
                have HB5 := Lib.hid (And.intro (below_step HB4.out hz5) hh14)
                clear hz5 hh14
                rw [← HUL.out]
                go_wp2_with fail
                refine (show Calls _ _ _ _ _ by have h9 := same_u A14 A8 c14 c8 (st.qs.map (·.u)) (st.qs.map (·.u)) z5 HB5.out.2 (HP.out.2.2.1.keep HB5.out.1 HB5.out.1.size) (by rw [List.length_map]; obtain ⟨_, _, _, w9, pa, FQ, g, c, hq, _⟩ := HOK.out.1; have := hq.few; omega); rw [List.length_map, ← HUL.out] at h9; exact h9).mono ?_
                rintro e z6 ⟨rfl, hz6⟩
                have hdd : decide (st.qs.map (·.u) = st.qs.map (·.u)) = true := decide_eq_true rfl
                rw [hdd]
                have HL6 := Lib.hid (HL5.out.keep hz6)
                have HB6 := Lib.hid (below_step HB5.out.1 hz6)
                clear hz6 hdd
                go_wp2_with fail
                refine (holds_l HL6.out.at_ (by have h1 := HR3.out.2.2.1; have h2 := HOK.out.2.2; (try simp only at h1); rw [h1]; omega)).mono ?_
                rintro e z7 ⟨A15, c15, G15, rfl, hh15, _, hz7⟩
                try simp only at hh15
                rw [HR3.out.2.2.1] at hh15 ⊢
                have HL7 := Lib.hid (HL6.out.keep hz7)
                have HB7 := Lib.hid (And.intro (below_step HB6.out hz7) hh15)
                clear hz7 hh15
                rw [← HQ.out]
                go_wp2_with fail
                refine (show Calls _ _ _ _ _ by have h9 := same_holds A15 A6 c15 c6 G15 G6 st.hs z7 HB7.out.2 (HP.out.1.keep HB7.out.1) (by have := HOK.out.2.2; omega) (fun g hg => (HOK.out.1.1.ok g hg).n2); rw [← HQ.out] at h9; exact h9).mono ?_
                rintro e z8 ⟨rfl, hz8⟩
                have HBZ := Lib.hid (HBb.out.trans ((HL7.out.keep hz8).bel.mono HBb.out.size))
                clear hz8
                go_wp2
                go_ret
                exact ⟨by first | rfl | (simp; done), HBZ.out⟩

  · simp only [lxC, laC]
    go_simp
    obtain ⟨wa, hwa⟩ : ∃ z, z = wd.alloc (.cells (lxC xa).toArray 49) := ⟨_, rfl⟩
    have elsB : Els lxC 7 wa wa.heap.size (some ⟨wd.heap.size, 0, none⟩) [xa] := by rw [hwa]; exact els_blk lxC_len (heap_alloc_new wd _) (fun j v hj => by simpa [List.flatMap_cons] using hj)
    have hBa : Below u2.heap.size u2 wa := by rw [hwa]; exact hB0.alloc hB0.size _
    have swa : wd.heap.size < wa.heap.size := by rw [hwa]; simp
    have bwa : Below wd.heap.size wd wa := by rw [hwa]; exact (Below.refl _ _).alloc (Nat.le_refl _) _
    have hSa : (fun w' : World => w'.cell? ⟨K0, 0, none⟩ = some (.slice a0 m c0) ∧ CellsAt w' K1 0 (lxC xa)) wa := ⟨(bwa.cell (p := ⟨K0, 0, none⟩) (show K0 < _ by omega)).trans hS0.1, CellsAt.keep hS0.2 (by omega) bwa⟩
    simp only [lxC, laC] at hwa
    rw [← hwa]
    refine hK.out _ _ hSa ?_
    clear hK K hwa
    try simp only [Act.put, List.setIfInBounds_toArray, List.set_cons_zero, List.set_cons_succ]
    have ElsB := Lib.hid elsB
    clear elsB
    refine held_one 2 rfl (by kernel_rfl) (by rfl) (fun K hK => ?_)
    go_simp
    obtain ⟨wb2, hwb2⟩ : ∃ x, x = wa.alloc (.cells #[] 49) := ⟨_, rfl⟩
    have ownE : wb2.ownsRow u2.heap.size 49 7 (.slice (some ⟨wa.heap.size, 0, none⟩) 0 0) 0 [] := by rw [hwb2]; exact World.ownsRow_lit wa #[] 0 (by omega) (by unfold maxLen; omega) rfl
    have hBb : Below u2.heap.size u2 wb2 := by rw [hwb2]; exact hBa.alloc hBa.size _
    have swb2 : wa.heap.size < wb2.heap.size := by rw [hwb2]; simp
    have bwb2 : Below wa.heap.size wa wb2 := by rw [hwb2]; exact (Below.refl _ _).alloc (Nat.le_refl _) _
    have hSb : (fun w' : World => w'.cell? ⟨K0, 0, none⟩ = some (.slice a0 m c0) ∧ CellsAt w' K1 0 (lxC xa)) wb2 := ⟨(bwb2.cell (p := ⟨K0, 0, none⟩) (show K0 < _ by omega)).trans hSa.1, CellsAt.keep hSa.2 (by omega) bwb2⟩
    rw [← hwb2]
    refine hK.out _ _ hSb ?_
    clear hK K hwb2
    try simp only [Act.put, List.setIfInBounds_toArray, List.set_cons_zero, List.set_cons_succ]
    have elsB : Els lxC 7 wb2 wb2.heap.size (some ⟨wd.heap.size, 0, none⟩) [xa] := ElsB.out.keep bwb2 (by omega)
    refine held_one 4 rfl (by kernel_rfl) (by rfl) (fun K hK => ?_)
    simp only [Go.wp_at_zero, Go.wp_at_succ]
    refine wp_append_els (C := lxC) (k := 7) _ _ _ 26 rfl u2.heap.size 49 i0 _ 72 Tryz.underlying26 hi hz0 hz1 hz2 rfl (by decide) (.slice (some ⟨wa.heap.size, 0, none⟩) 0 0) 0 [] rfl ownE u2.heap.size a2 c2 n L2 rfl (HE2.out.keep (hBb) (Nat.le_refl _)) HL2.out lxC_len lxC_one (by unfold maxLen; omega) (by omega) (by omega) ?_
    intro A5 c5 wc own5 gwc kwc
    rw [Nat.zero_add] at own5 ⊢
    rw [List.nil_append] at own5
    have hob : ∀ j, (Value.slice (some ⟨wa.heap.size, 0, none⟩) 0 0).ownBlock = some j → j = wa.heap.size := fun j hj => by simpa [Value.ownBlock] using hj.symm
    have hBc : Below u2.heap.size u2 wc := hBb.grown gwc (by omega) (fun j hj => by have := hob j hj; omega)
    have swc := gwc.size
    have hSc : (fun w' : World => w'.cell? ⟨K0, 0, none⟩ = some (.slice a0 m c0) ∧ CellsAt w' K1 0 (lxC xa)) wc := ⟨(gwc.cell_far ⟨K0, 0, none⟩ (show K0 < wb2.heap.size by omega) (fun e => by have := hob K0 e.symm; omega)).trans hSb.1, CellsAt.of hSb.2 (gwc.block K1 (by omega) (fun e => by have := hob K1 e.symm; omega))⟩
    have elsB : Els lxC 7 wc wc.heap.size (some ⟨wd.heap.size, 0, none⟩) [xa] := (elsB.off (w' := wc) fun b2 o2 e2 hb2 => gwc.block b2 hb2 (fun e => by have := hob b2 e.symm; injection e2 with e2; injection e2 with e2; omega)).imp swc fun _ _ _ _ hd => hd
    refine hK.out _ _ hSc ?_
    clear hK K
    try simp only [Act.put, List.setIfInBounds_toArray, List.set_cons_zero, List.set_cons_succ]
    refine held_one 7 rfl (by kernel_rfl) (by rfl) (fun K hK => ?_)
    simp only [Go.wp_at_zero, Go.wp_at_succ]
    refine wp_append_els (C := lxC) (k := 7) _ _ _ 26 rfl u2.heap.size 49 i0 _ 72 Tryz.underlying26 hi hz0 hz1 hz2 rfl (by decide) (.slice A5 n c5) n _ rfl own5 _ (some ⟨wd.heap.size, 0, none⟩) 1 1 [xa] rfl elsB rfl lxC_len lxC_one (by unfold maxLen; omega) (by omega) (by omega) ?_
    intro A7 c7 w7 own7 g7 k7
    have hob5 : ∀ j, (Value.slice A5 n c5).ownBlock = some j → u2.heap.size ≤ j := fun j hj => (own5.lt j hj).1
    have hB7 : Below u2.heap.size u2 w7 := hBc.grown g7 (by omega) (fun j hj => by have := hob5 j hj; omega)
    have hS7 : (fun w' : World => w'.cell? ⟨K0, 0, none⟩ = some (.slice a0 m c0) ∧ CellsAt w' K1 0 (lxC xa)) w7 := ⟨(g7.cell_far ⟨K0, 0, none⟩ (show K0 < wc.heap.size by omega) (fun e => by have := hob5 K0 e.symm; omega)).trans hSc.1, CellsAt.of hSc.2 (g7.block K1 (by omega) (fun e => by have := hob5 K1 e.symm; omega))⟩
    refine hK.out _ _ hS7 ?_
    clear hK K
    try simp only [Act.put, List.setIfInBounds_toArray, List.set_cons_zero, List.set_cons_succ]
    have hFW := HFew.out w7 hB7 A7 c7 own7
    clear own7 own5 g7 k7 hob5
    try clear elsB
    try clear ownE
    try clear gwb2
    try clear kwb2
    try clear gwc
    try clear kwc
    try clear hob
    try clear hSc
    try clear hSb
    try clear hSa
    try clear hBc
    try clear hBb
    try clear hBa
    try clear bwa
    try clear bwb2
    try clear bwc
    try clear swa
    try clear swb2
    try clear swc
    refine held_one 8 rfl (by kernel_rfl) (by rfl) (fun K hK => ?_)
    go_simp
    go_at_call 7
    refine hFW.mono ?_
    rintro e w8 ⟨rfl, hb8⟩
    have hS8 : (fun w' : World => w'.cell? ⟨K0, 0, none⟩ = some (.slice a0 m c0) ∧ CellsAt w' K1 0 (lxC xa)) w8 := ⟨(hb8.cell (p := ⟨K0, 0, none⟩) (show K0 < _ by have := hB7.size; omega)).trans hS7.1, CellsAt.keep hS7.2 (by have := hB7.size; omega) hb8⟩
    have hB8 := Lib.hid (below_step hB7 hb8)
    refine hK.out _ _ hS8 ?_
    clear hK K hS7 hB7 hb8 hFW
    try simp only [Act.put, List.setIfInBounds_toArray, List.set_cons_zero, List.set_cons_succ]
    refine held_take (v := ?_) 9 33 rfl rfl (by kernel_rfl) (by kernel_rfl) (by kernel_rfl) (fun _ _ _ h => h) ⟨by rfl, ?_⟩ hS8 ?_
    rotate_left
    · intro w' _; go_simp; (try with_reducible rfl)
    simp only [Act.put, List.setIfInBounds_toArray, List.set_cons_zero, List.set_cons_succ]
    refine wpAnyH_done (by kernel_rfl) ?_ _
    have HB8 := Lib.hid (Hb2.out.trans (hB8.out.mono Hb2.out.size))
    have HW8 := Lib.hid (HBb.out.trans (HB8.out.mono HBb.out.size))
    have hk8 := hS8.1
    have HV8 := HV
    obtain ⟨fb, hfb⟩ : ∃ b, b = few8 n0 l1 (l2 ++ [xa.a]) := ⟨_, rfl⟩
    rw [← hfb]
    have HFB := Lib.hid hfb
    clear hS8 hB8 hfb HFew HE2 HL2 hB0 hS0 sd
    cases fb
    · go_wp2
      go_ret
      exact ⟨by first | rfl | (simp; done), HW8.out⟩
    · have hff := HFB.out
      obtain ⟨hcq, hq0, hn60⟩ : cluOk n0 = true ∧ quotasOk l1 = true ∧ n ≤ 60 := by
        have h1 := hff.symm
        unfold few8 at h1
        simp only [Bool.and_eq_true] at h1
        obtain ⟨⟨h1, h2⟩, h3⟩ := h1
        unfold fewLs at h3
        simp only [Bool.and_eq_true, decide_eq_true_eq, List.length_append] at h3
        exact ⟨h1, h2, by rw [← HV8.out.2.2.2.1]; omega⟩
      have hN : Hid (Calls Tryz.prog 8 #[.agg #[.slice a0 m c0], .slice a1 k1 c1] w8 fun e w' => ∃ p F, e = .returned (.tuple #[.pointer (some ⟨p, 0, none⟩), .int .i64 0]) ∧ LIn wb w' p F (frees n0) (LM.init n0 l1)) := Lib.hid (by
        obtain ⟨w0, v1, _, _, hm, hk1, _⟩ := HV8.out
        have hl := lnew_l a0 a1 c0 c1 n0 l1 w8 (Nodes.keep w0 HW8.out HW8.out.size) (v1.keep HW8.out HW8.out.size)
        rw [hm, hk1] at hl
        refine hl.mono fun e w' (hl : LNew n0 l1 w8 e w') => ?_
        rcases hl.2 with ⟨h2 | h2, _⟩ | ⟨_, _, p, F, he, ho, hF⟩
        · rw [hcq] at h2; cases h2
        · rw [hq0] at h2; cases h2
        · exact ⟨p, F, he, .made HB8.out ho hF hl.1⟩)
      have hver0 : (LM.init n0 l1).ver = 0 := rfl
      obtain ⟨st0, hst0⟩ : ∃ st, st = LM.init n0 l1 := ⟨_, rfl⟩
      obtain ⟨fs, hfs⟩ : ∃ fs, fs = frees n0 := ⟨_, rfl⟩
      rw [← hst0] at hver0 hN
      rw [← hfs] at hN
      clear hst0 hfs hff hcq hq0
      go_wp2_with fail
      refine hN.out.mono ?_
      rintro e u4 ⟨p, F4, rfl, hl4⟩
      have HL4 := Lib.hid hl4
      have hver0' := Lib.hid hver0
      clear hl4 hN hk8 hver0
      go_wp2
      go_loopw [11] (fun i wr => ∃ k : Nat, i = .int .i64 k ∧ k ≤ n ∧ Hid (∃ F st, LIn wb wr p F fs st ∧ st.ver ≤ k)) (fun i _ => n - (intOf i).toNat)
      case atStart => exact ⟨0, rfl, by omega, Lib.hid ⟨F4, st0, HL4.out, by have := hver0'.out; omega⟩⟩
      case round =>
        clear HL4 hver0'
        obtain ⟨k, rfl, hk, hW⟩ := hrel
        by_cases hlt : k < n
        · obtain ⟨F, st, hL, hv⟩ := hW.out
          obtain ⟨_, _, v2, hn, _, _, q2, _⟩ := HV8.out
          have v2 := v2.up HBb.out HBb.out.size
          obtain ⟨a, hx⟩ := get_lt (l := l2) (k := k) (by rw [hn]; exact hlt)
          have ha := q2 a (List.mem_of_getElem? hx)
          obtain ⟨b, off, rfl, hb, hcw⟩ := v2.at_ hx
          obtain ⟨A, c, hcells, hsl⟩ := hcw k a hx
          have hv2 : st.ver ≤ 100000 := by omega
          have hvk := LM.act_ver fs st a
          have hc4 := fun j u hj => (hL.bel.cell (p := ⟨b, off + k * 7 + j, none⟩) hb).trans (hcells j u hj)
          have HD := Lib.hid (do_l A c a hL.at_ hv2 ha (Slots.keep hsl hL.bel hL.bel.size) (hsl.old hL.hF))
          have HK := Lib.hid (And.intro hv hvk)
          have HLo := Lib.hid hL
          obtain ⟨T, hT⟩ : ∃ T, T = LM.act fs st a := ⟨_, rfl⟩
          rw [← hT] at HD HK
          obtain ⟨ak, aid, aq, aun, anow, aold, asl⟩ := a
          simp only [laC] at HD
          have y0 := hc4 0 _ rfl
          rw [Nat.add_zero] at y0
          have y1 := hc4 1 _ rfl
          have y2 := hc4 2 _ rfl
          have y3 := hc4 3 _ rfl
          have y4 := hc4 4 _ rfl
          have y5 := hc4 5 _ rfl
          have y6 := hc4 6 _ rfl
          simp only at y0 y1 y2 y3 y4 y5 y6
          have j1 : (k : Int) < (n : Int) := by omega
          have t1 : decide (k < n) = true := decide_eq_true hlt
          clear hT hx hcw hcells hsl ha v2 q2 hn hL hv hv2 hvk hW hc4
          go_wp2_with fail
          refine HD.out.mono ?_
          rintro e x5 ⟨v, rfl, _, F5, s1, s2, s3⟩
          have HL5 := Lib.hid (HLo.out.step s1 s2 s3)
          clear s1 s2 s3 HD HLo y0 y1 y2 y3 y4 y5 y6
          go_wp2
          go_roundw
          case rel => exact ⟨k + 1, by go_num, by omega, Lib.hid ⟨F5, _, HL5.out, by have := HK.out.2; have := HK.out.1; omega⟩⟩
          case measure => simp [intOf]; omega
        · obtain rfl : k = n := by omega
          have t1 : decide (k < k) = false := decide_eq_false (by omega)
          obtain ⟨F, st, hL, hv⟩ := hW.out
          have HLo := Lib.hid hL
          have HK := Lib.hid hv
          clear hW hL hv hlt
          obtain ⟨fxa, gxa, _⟩ := HV8.out.2.2.2.2.2.2.2
          have fxa := Slots.keep fxa HBb.out HBb.out.size
          have HC : Hid (∀ W, Below wb.heap.size wb W → CellsAt W K1 0 (lxC xa)) := Lib.hid fun W hW => (lx_box HE.out.2).keep (blk_lt HE.out.2) hW
          have hok := HLo.out.at_.ok
          have hv60 : st.ver ≤ 60 := by have := HK.out; omega
          have hfew : st.hs.length ≤ 60 := by have := hok.1.few; omega
          have HOK := Lib.hid (And.intro hok (And.intro hv60 hfew))
          have HGX := Lib.hid (And.intro gxa fxa)
          obtain ⟨q, hq⟩ : ∃ q, q = st.hs.length := ⟨_, rfl⟩
          have HQ := Lib.hid hq
          have hq60 : q ≤ 60 := by omega
          obtain ⟨fl, hfl⟩ : ∃ q, q = (PM.free fs st.ts).length := ⟨_, rfl⟩
          have HFL := Lib.hid hfl
          obtain ⟨ul, hul⟩ : ∃ q, q = st.qs.length := ⟨_, rfl⟩
          have HUL := Lib.hid hul
          have HAO := Lib.hid (fun h0 h4 (h : Hd) hh hne => LM.act_others (fs := fs) (st := st) (a := xa.a) h0 h4 (h := h) hh hne)
          have HAV := Lib.hid (LM.act_ver fs st xa.a)
          have H40 : Hid (xa.a.sl.length ≤ 40) := Lib.hid (by
            have h1 := HFB.out.symm
            unfold few8 fewLs at h1
            simp only [Bool.and_eq_true, decide_eq_true_eq, List.all_eq_true] at h1
            exact h1.2.2 xa.a (by simp))
          clear hok hv60 hfew hq hfl hul fxa gxa
          go_wp2_with fail
          refine (holds_lc HLo.out.at_ (by have := HOK.out.2.2; omega)).mono ?_
          rintro e x6 ⟨A6, c6, G6, rfl, hc6, hh6, hG6, hy6⟩
          rw [← HQ.out] at hc6 ⊢
          have HL6 := Lib.hid (HLo.out.keep hy6)
          have HH6 := Lib.hid (And.intro hh6 (And.intro hG6 hy6))
          clear hh6 hG6 hy6
          go_wp2_with fail
          refine (free_l HL6.out.at_).mono ?_
          rintro e x7 ⟨A7, c7, rfl, hh7, hG7, hy7⟩
          rw [← HFL.out]
          have HL7 := Lib.hid (HL6.out.keep hy7)
          have HH7 := Lib.hid (And.intro hh7 (And.intro hG7 hy7))
          clear hh7 hG7 hy7
          go_wp2_with fail
          refine (used_l HL7.out.at_).mono ?_
          rintro e x8 ⟨A8, c8, rfl, hh8, hG8, hy8⟩
          rw [← HUL.out]
          have HL8 := Lib.hid (HL7.out.keep hy8)
          have HH8 := Lib.hid (And.intro hh8 (And.intro hG8 hy8))
          clear hh8 hG8 hy8
          have HD := Lib.hid (do_l xa.A xa.c xa.a HL8.out.at_ (by have := HOK.out.2.1; omega) HGX.out.1 (Slots.keep HGX.out.2 HL8.out.bel HL8.out.bel.size) (HGX.out.2.old HL8.out.hF))
          obtain ⟨T, hT⟩ : ∃ T, T = LM.act fs st xa.a := ⟨_, rfl⟩
          rw [← hT] at HD HAO HAV
          obtain ⟨⟨⟨te, tids, tsl, thd⟩, st2⟩, hT2⟩ : ∃ X, X = T := ⟨_, rfl⟩
          rw [← hT2] at HD HAO HAV
          have HT := Lib.hid (hT2.trans hT)
          simp only [laC] at HD
          clear hT hT2 T
          have y0 : x8.cell? ⟨K1, 0, none⟩ = some (.int .i64 xa.a.k) := HC.out x8 HL8.out.bel 0 _ rfl
          have y1 : x8.cell? ⟨K1, 1, none⟩ = some (.int .i64 xa.a.id) := HC.out x8 HL8.out.bel 1 _ rfl
          have y2 : x8.cell? ⟨K1, 2, none⟩ = some (.int .i64 xa.a.q) := HC.out x8 HL8.out.bel 2 _ rfl
          have y3 : x8.cell? ⟨K1, 3, none⟩ = some (.int .i64 xa.a.un) := HC.out x8 HL8.out.bel 3 _ rfl
          have y4 : x8.cell? ⟨K1, 4, none⟩ = some (.int .i64 xa.a.now) := HC.out x8 HL8.out.bel 4 _ rfl
          have y5 : x8.cell? ⟨K1, 5, none⟩ = some (.int .i64 xa.a.old) := HC.out x8 HL8.out.bel 5 _ rfl
          have y6 : x8.cell? ⟨K1, 6, none⟩ = some (.slice xa.A xa.a.sl.length xa.c) := HC.out x8 HL8.out.bel 6 _ rfl
          go_wp2_with fail
          refine HD.out.mono ?_
          rintro e x9 ⟨v, rfl, ⟨A1, cc1, Ah, ch, rfl, _, _, _, _⟩, F9, s1, s2, s3⟩
          simp only [tlV]
          clear y0 y1 y2 y3 y4 y5 y6
          obtain ⟨nid, hnid⟩ : ∃ m, m = tids.length := ⟨_, rfl⟩
          try simp only at hnid
          rw [← hnid]
          clear hnid
          have hL9 := HL8.out.step s1 s2 s3
          have hltF := HLo.out.at_.lt.2
          have l6 := HH6.out.2.2.size
          have l7 := HH7.out.2.2.size
          have l8 := HH8.out.2.2.size
          have o2 : HL x9 G6 A6 st.hs := (HH6.out.1.keep (below_step HH7.out.2.2 HH8.out.2.2)).foot s2 fun i hg hf => by have := hltF i hf; have := (HH6.out.2.1 i hg).1; omega
          have o3 : Frees x9 x9.heap.size A7 (PM.free fs st.ts) := (Frees.keep HH7.out.1 HH8.out.2.2 HH8.out.2.2.size).off s2.size fun b off e hb => s2.block b hb fun hf => by have := hltF b hf; have := (HH7.out.2.1 b off e).1; omega
          have o4 : Uns x9 x9.heap.size A8 (st.qs.map (·.u)) := Uns.apart HH8.out.1 s2 fun b off e hf => by have := hltF b hf; have := (HH8.out.2.1 b off e).1; omega
          have hFF : Hid ((∀ i, G6 i → ¬ F9 i) ∧ (∀ b off, A7 = some ⟨b, off, none⟩ → ¬ F9 b) ∧ (∀ b off, A8 = some ⟨b, off, none⟩ → ¬ F9 b)) := Lib.hid ⟨fun i hg hf => by
              have := (HH6.out.2.1 i hg); rcases s3 i hf with e | e
              · have := hltF i e; omega
              · omega, fun b off e hf => by
              have := HH7.out.2.1 b off e; rcases s3 b hf with e | e
              · have := hltF b e; omega
              · omega, fun b off e hf => by
              have := HH8.out.2.1 b off e; rcases s3 b hf with e | e
              · have := hltF b e; omega
              · omega⟩
          have hal := (Below.refl x9.heap.size x9).alloc (Nat.le_refl _) (.cells #[.int .i64 te, .slice A1 nid cc1, .int .i64 tsl.n, .int .i64 tsl.d, .int .u64 (tsl.m : Nat), .int .i64 tsl.c, .int .i64 thd.id, .int .i64 thd.q, .int .i64 thd.un, .bool thd.run, .slice Ah thd.sl.length ch] 46)
          have HL10 := Lib.hid (hL9.keep hal)
          have HOB := Lib.hid (And.intro (o2.keep hal) (And.intro (Frees.keep o3 hal hal.size) (Els.keep o4 hal hal.size)))
          have HT9 : Hid ((x9.alloc (.cells #[.int .i64 te, .slice A1 nid cc1, .int .i64 tsl.n, .int .i64 tsl.d, .int .u64 (tsl.m : Nat), .int .i64 tsl.c, .int .i64 thd.id, .int .i64 thd.q, .int .i64 thd.un, .bool thd.run, .slice Ah thd.sl.length ch] 46)).cell? ⟨x9.heap.size, 0, none⟩ = some (.int .i64 te)) := Lib.hid (cell_blk (i := 0) (heap_alloc_new x9 _) rfl)
          have y0 : x9.cell? ⟨K1, 0, none⟩ = some (.int .i64 xa.a.k) := HC.out x9 hL9.bel 0 _ rfl
          have lK9 : K1 < x9.heap.size := Nat.lt_of_lt_of_le (blk_lt HE.out.2) hL9.bel.size
          have HBX := Lib.hid (HBb.out.trans (HL10.out.bel.mono HBb.out.size))
          have HL9 := Lib.hid hL9
          clear o2 o3 o4 s1 s2 s3 hltF l6 l7 l8 hal hL9 HLo HL6 HL7 HL8 HH6 HH7 HH8 HD
          by_cases hk0 : xa.a.k < 0
          · have t1 : decide (xa.a.k < 0) = true := decide_eq_true hk0
            clear hk0
            go_wp2
            go_ret
            exact ⟨by first | rfl | (simp; done), HBX.out⟩
          have t1 : decide (xa.a.k < 0) = false := decide_eq_false hk0
          by_cases hk4 : 4 < xa.a.k
          · have t2 : decide (4 < xa.a.k) = true := decide_eq_true hk4
            have t3 : decide (xa.a.k > 4) = true := decide_eq_true hk4
            clear hk0 hk4
            go_wp2
            go_ret
            exact ⟨by first | rfl | (simp; done), HBX.out⟩
          have t2 : decide (4 < xa.a.k) = false := decide_eq_false hk4
          have t3 : decide (xa.a.k > 4) = false := decide_eq_false hk4
          have HKK : Hid (∀ h : Hd, h ∈ st.hs → h.id ≠ xa.a.id → h ∈ st2.hs) := Lib.hid fun h hh hne => HAO.out (by omega) (by omega) h hh hne
          clear hk0 hk4 HAO
          have hok2 := HL10.out.at_.ok.1
          have hv2 : st2.ver ≤ 61 := by have h1 := HAV.out; have h2 := HOK.out.2.1; (try simp only at h1); omega
          have hfew2 : st2.hs.length ≤ 61 := by have := hok2.few; omega
          have HST := Lib.hid (And.intro hok2 (And.intro hv2 hfew2))
          obtain ⟨q2, hq2⟩ : ∃ q, q = st2.hs.length := ⟨_, rfl⟩
          have HQ2 := Lib.hid hq2
          have hq61 : q2 ≤ 61 := by omega
          clear hok2 hv2 hfew2 hq2
          go_wp2_with fail
          refine (holds_lc HL10.out.at_ (by have := HST.out.2.2; omega)).mono ?_
          rintro e x11 ⟨A11, c11, G11, rfl, hc11, hh11, hG11, hy11⟩
          rw [← HQ2.out] at hc11 ⊢
          have HL11 := Lib.hid (HL10.out.keep hy11)
          have HOW := Lib.hid (And.intro (HOB.out.1.keep hy11) (And.intro (Frees.keep HOB.out.2.1 hy11 hy11.size) (And.intro (Els.keep HOB.out.2.2 hy11 hy11.size) (And.intro hh11 hG11))))
          have lT : x9.heap.size < x11.heap.size := by have := hy11.size; simp at this; omega
          have HT11 := Lib.hid ((hy11.cell (p := ⟨x9.heap.size, 0, none⟩) (by simp)).trans HT9.out)
          have lK : K1 < x11.heap.size := by omega
          obtain ⟨T9, hT9⟩ : ∃ z, z = x9.heap.size := ⟨_, rfl⟩
          rw [← hT9] at lT HT11 ⊢
          clear y0 t1 t2 t3 hh11 hG11 hy11 HL10 HOB HT9 HBX lK9 hT9
          go_wp2
          go_loopw [17] (fun i wr => ∃ k : Nat, i = .int .i64 k ∧ k ≤ q ∧ Hid (Below x11.heap.size x11 wr)) (fun i _ => q - (intOf i).toNat)
          case atStart => exact ⟨0, rfl, by omega, Lib.hid (Below.refl _ _)⟩
          case round =>
            obtain ⟨k, rfl, hk, hI⟩ := hrel
            by_cases hlt : k < q
            · obtain ⟨L, e1, l2, l3, l4, l5⟩ := HOW.out.1
              obtain ⟨x, hx⟩ := get_lt (l := L) (k := k) (by have := congrArg List.length e1; rw [List.length_map, ← HQ.out] at this; omega)
              have hxk : st.hs[k]? = some x.h := by rw [← e1, List.getElem?_map, hx]; rfl
              obtain ⟨b, off, e6, hb, hc⟩ := l2.at_ hx
              have f0 := (hI.out.cell (p := ⟨b, off + k * 5 + 0, none⟩) hb).trans (hc k x hx 0 _ rfl)
              rw [Nat.add_zero] at f0
              obtain ⟨xh, exh⟩ : ∃ v, v = x.h := ⟨_, rfl⟩
              rw [← exh] at f0 hxk
              obtain ⟨xi, exi⟩ : ∃ v, v = xh.id := ⟨_, rfl⟩
              rw [← exi] at f0
              have HX := Lib.hid (And.intro hxk exi)
              have lbw : b < wr.heap.size := Nat.lt_of_lt_of_le hb hI.out.size
              have lKw : K1 < wr.heap.size := Nat.lt_of_lt_of_le lK hI.out.size
              have y1 : wr.cell? ⟨K1, 1, none⟩ = some (.int .i64 xa.a.id) := HC.out wr (HL11.out.keep hI.out).bel 1 _ rfl
              subst e6
              have j1 : (k : Int) < (q : Int) := by omega
              have t1 : decide (k < q) = true := decide_eq_true hlt
              have hk6 : k + 1 ≤ c6 := by omega
              clear e1 l2 l3 l4 l5 hx hxk hc exh exi hb
              by_cases hxi : xi = xa.a.id
              · have t2 : (xi == xa.a.id) = true := by simpa using hxi
                clear hxi
                go_wp2
                go_region
                go_wp2
                go_roundw
                case rel => exact ⟨k + 1, by go_num, by omega, Lib.hid hI.out.drew⟩
                case measure => simp [intOf]; omega
              · have t2 : (xi == xa.a.id) = false := beq_eq_false_iff_ne.2 hxi
                have HIN : Hid (∃ m, m < q2 ∧ st2.hs[m]? = some xh) := Lib.hid (by
                  have := HKK.out xh (List.mem_of_getElem? HX.out.1) (by rw [← HX.out.2]; exact hxi)
                  obtain ⟨m, hm⟩ := List.mem_iff_getElem?.1 this
                  exact ⟨m, by rw [HQ2.out]; exact (List.getElem?_eq_some_iff.1 hm).1, hm⟩)
                have hx16 : Hid (xh.sl.length ≤ 16) := Lib.hid (HOK.out.1.1.ok xh (List.mem_of_getElem? HX.out.1)).n2
                clear hxi
                go_wp2
                go_region
                have HI0 := Lib.hid hI.out.drew
                clear hI f0 y1 t2 lbw lKw
                go_wp2
                go_loopw [18, 19] (fun f i wr => ∃ (fb : Bool) (j : Nat), f = .bool fb ∧ i = .int .i64 j ∧ j ≤ q2 ∧ Hid (fb = true ↔ ∃ m, m < j ∧ st2.hs[m]? = some xh) ∧ Hid (Below x11.heap.size x11 wr)) (fun _ i _ => q2 - (intOf i).toNat)
                case atStart => exact ⟨false, 0, rfl, rfl, by omega, Lib.hid ⟨fun h => by simp at h, fun ⟨m, h, _⟩ => absurd h (by omega)⟩, HI0⟩
                case round =>
                  clear HI0 t1 j1
                  obtain ⟨fb, j, rfl, rfl, hj, hF, hI⟩ := hrel
                  by_cases hjl : j < q2
                  · have t4 : decide (j < q2) = true := decide_eq_true hjl
                    have j2 : (j : Int) < (q2 : Int) := by omega
                    obtain ⟨yh, hyj⟩ := get_lt (l := st2.hs) (k := j) (by rw [← HQ2.out]; exact hjl)
                    obtain ⟨R, hR⟩ := truth (yh = xh)
                    have hnext : (fb || R) = true ↔ ∃ m, m < j + 1 ∧ st2.hs[m]? = some xh := by
                      rw [Bool.or_eq_true, hF.out, hR]
                      constructor
                      · rintro (⟨m, h1, h2⟩ | rfl)
                        · exact ⟨m, by omega, h2⟩
                        · exact ⟨j, by omega, hyj⟩
                      · rintro ⟨m, h1, h2⟩
                        by_cases e : m = j
                        · subst e; right; rw [hyj] at h2; injection h2
                        · exact .inl ⟨m, by omega, h2⟩
                    have HN := Lib.hid hnext
                    have hS := fun W (hW : Below x11.heap.size x11 W) => same_one (c11 - j) (c6 - k) (HOW.out.2.2.2.1.keep hW) (HOW.out.1.keep hW) hyj HX.out.1 (HST.out.1.ok yh (List.mem_of_getElem? hyj)).n2 hx16.out hR
                    obtain ⟨AJ, hAJ⟩ : ∃ z, z = A11.map (·.add (j * 5)) := ⟨_, rfl⟩
                    obtain ⟨AK, hAK⟩ : ∃ z, z = (some ⟨b, off, none⟩ : Option Addr).map (·.add (k * 5)) := ⟨_, rfl⟩
                    obtain ⟨cj, hcj⟩ : ∃ z, z = c11 - j := ⟨_, rfl⟩
                    obtain ⟨ck, hck⟩ : ∃ z, z = c6 - k := ⟨_, rfl⟩
                    rw [← hAJ, ← hAK, ← hcj, ← hck] at hS
                    have HS := Lib.hid hS
                    have HAj := Lib.hid hAJ
                    have HAk := Lib.hid hAK
                    have HCj := Lib.hid hcj
                    have HCk := Lib.hid hck
                    clear hS hAJ hAK hcj hck
                    have hj11 : j + 1 ≤ c11 := by omega
                    have ek : IntKind.i64.wrap ((k : Int) + 1) = (k : Int) + 1 := IntWalk.i64_in _ (by omega)
                    have ej : IntKind.i64.wrap ((j : Int) + 1) = (j : Int) + 1 := IntWalk.i64_in _ (by omega)
                    clear hyj hR hnext
                    cases fb
                    · go_wp2
                      refine held_begin (fun w' : World => True) (by kernel_rfl) ?_
                      have hBh0 : Below wr.heap.size wr wr.drew := (Below.refl _ _).drew
                      have hSh0 : (fun w' : World => True) wr.drew := trivial
                      refine held_take (v := ?_) 0 97 rfl rfl (by kernel_rfl) (by kernel_rfl) (by kernel_rfl) (fun _ _ _ h => h) ⟨by rfl, ?_⟩ hSh0 ?_
                      rotate_left
                      · intro w' hw'; obtain _ := hw'; go_simp; (try with_reducible rfl)
                      simp only [Act.put, List.setIfInBounds_toArray, List.set_cons_zero, List.set_cons_succ]
                      refine held_take (v := ?_) 1 98 rfl rfl (by kernel_rfl) (by kernel_rfl) (by kernel_rfl) (fun _ _ _ h => h) ⟨by rfl, ?_⟩ hSh0 ?_
                      rotate_left
                      · intro w' hw'; obtain _ := hw'; go_simp; (try with_reducible rfl)
                      simp only [Act.put, List.setIfInBounds_toArray, List.set_cons_zero, List.set_cons_succ]
                      refine held_take (v := ?_) 2 99 rfl rfl (by kernel_rfl) (by kernel_rfl) (by kernel_rfl) (fun _ _ _ h => h) ⟨by rfl, ?_⟩ hSh0 ?_
                      rotate_left
                      · intro w' hw'; obtain _ := hw'; go_simp; (try with_reducible rfl)
                      simp only [Act.put, List.setIfInBounds_toArray, List.set_cons_zero, List.set_cons_succ]
                      refine held_take (v := ?_) 3 100 rfl rfl (by kernel_rfl) (by kernel_rfl) (by kernel_rfl) (fun _ _ _ h => h) ⟨by rfl, ?_⟩ hSh0 ?_
                      rotate_left
                      · intro w' hw'; obtain _ := hw'; go_simp; (try with_reducible rfl)
                      simp only [Act.put, List.setIfInBounds_toArray, List.set_cons_zero, List.set_cons_succ]
                      refine held_take (v := ?_) 4 101 rfl rfl (by kernel_rfl) (by kernel_rfl) (by kernel_rfl) (fun _ _ _ h => h) ⟨by rfl, ?_⟩ hSh0 ?_
                      rotate_left
                      · intro w' hw'; obtain _ := hw'; go_simp; (try with_reducible rfl)
                      simp only [Act.put, List.setIfInBounds_toArray, List.set_cons_zero, List.set_cons_succ]
                      refine held_take (v := ?_) 5 102 rfl rfl (by kernel_rfl) (by kernel_rfl) (by kernel_rfl) (fun _ _ _ h => h) ⟨by rfl, ?_⟩ hSh0 ?_
                      rotate_left
                      · intro w' hw'; obtain _ := hw'; go_simp; (try with_reducible rfl)
                      simp only [Act.put, List.setIfInBounds_toArray, List.set_cons_zero, List.set_cons_succ]
                      refine held_take (v := ?_) 6 103 rfl rfl (by kernel_rfl) (by kernel_rfl) (by kernel_rfl) (fun _ _ _ h => h) ⟨by rfl, ?_⟩ hSh0 ?_
                      rotate_left
                      · intro w' hw'; obtain _ := hw'; refine Eq.trans (run_slice_one (k := j) (by rfl) (by rfl) (by rfl) (by rfl) hj11 HAj.out HCj.out) ?_; (with_reducible rfl)
                      simp only [Act.put, List.setIfInBounds_toArray, List.set_cons_zero, List.set_cons_succ]
                      refine held_take (v := ?_) 7 104 rfl rfl (by kernel_rfl) (by kernel_rfl) (by kernel_rfl) (fun _ _ _ h => h) ⟨by rfl, ?_⟩ hSh0 ?_
                      rotate_left
                      · intro w' hw'; obtain _ := hw'; go_simp; (try with_reducible rfl)
                      simp only [Act.put, List.setIfInBounds_toArray, List.set_cons_zero, List.set_cons_succ]
                      refine held_take (v := ?_) 8 105 rfl rfl (by kernel_rfl) (by kernel_rfl) (by kernel_rfl) (fun _ _ _ h => h) ⟨by rfl, ?_⟩ hSh0 ?_
                      rotate_left
                      · intro w' hw'; obtain _ := hw'; go_simp; (try with_reducible rfl)
                      simp only [Act.put, List.setIfInBounds_toArray, List.set_cons_zero, List.set_cons_succ]
                      refine held_take (v := ?_) 9 106 rfl rfl (by kernel_rfl) (by kernel_rfl) (by kernel_rfl) (fun _ _ _ h => h) ⟨by rfl, ?_⟩ hSh0 ?_
                      rotate_left
                      · intro w' hw'; obtain _ := hw'; go_simp; (try with_reducible rfl)
                      simp only [Act.put, List.setIfInBounds_toArray, List.set_cons_zero, List.set_cons_succ]
                      refine held_take (v := ?_) 10 107 rfl rfl (by kernel_rfl) (by kernel_rfl) (by kernel_rfl) (fun _ _ _ h => h) ⟨by rfl, ?_⟩ hSh0 ?_
                      rotate_left
                      · intro w' hw'; obtain _ := hw'; go_simp; (try with_reducible rfl)
                      simp only [Act.put, List.setIfInBounds_toArray, List.set_cons_zero, List.set_cons_succ]
                      refine held_take (v := ?_) 11 108 rfl rfl (by kernel_rfl) (by kernel_rfl) (by kernel_rfl) (fun _ _ _ h => h) ⟨by rfl, ?_⟩ hSh0 ?_
                      rotate_left
                      · intro w' hw'; obtain _ := hw'; refine Eq.trans (run_slice_one (k := k) (by rfl) (by rfl) (by rfl) (by rfl) hk6 HAk.out HCk.out) ?_; (with_reducible rfl)
                      simp only [Act.put, List.setIfInBounds_toArray, List.set_cons_zero, List.set_cons_succ]
                      refine held_one 12 rfl (by kernel_rfl) (by rfl) (fun K hK => ?_)
                      go_simp
                      go_at_call 22
                      refine (HS.out wr.drew (hI.out.drew)).mono ?_
                      rintro e wh1 ⟨rfl, hbh1⟩
                      have hBh1 : Below wr.heap.size wr wh1 := below_step hBh0 hbh1
                      have hSh1 : (fun w' : World => True) wh1 := trivial
                      refine hK.out _ _ hSh1 ?_
                      clear hK K
                      refine held_take (v := ?_) 13 110 rfl rfl (by kernel_rfl) (by kernel_rfl) (by kernel_rfl) (fun _ _ _ h => h) ⟨by rfl, ?_⟩ hSh1 ?_
                      rotate_left
                      · intro w' hw'; obtain _ := hw'; go_simp; (try with_reducible rfl)
                      simp only [Act.put, List.setIfInBounds_toArray, List.set_cons_zero, List.set_cons_succ]
                      refine held_take (v := ?_) 14 18 rfl rfl (by kernel_rfl) (by kernel_rfl) (by kernel_rfl) (fun _ _ _ h => h) ⟨by rfl, ?_⟩ hSh1 ?_
                      rotate_left
                      · intro w' hw'; obtain _ := hw'; go_simp; (try with_reducible rfl)
                      simp only [Act.put, List.setIfInBounds_toArray, List.set_cons_zero, List.set_cons_succ]
                      refine wpAnyH_done (by kernel_rfl) ?_ _
                      simp only [Bool.false_or] at HN
                      have HI2 := Lib.hid (hI.out.drew.trans (hbh1.mono hI.out.drew.size))
                      clear hBh0 hSh0 hBh1 hSh1 hbh1
                      go_wp2
                      go_roundw
                      case rel => exact ⟨R, j + 1, rfl, by go_num, by omega, Lib.hid HN.out, HI2⟩
                      case measure => simp [intOf]; omega
                    · have HI2 := Lib.hid hI.out.drew
                      go_wp2
                      go_region
                      go_wp2
                      go_roundw
                      case rel => exact ⟨true, j + 1, rfl, by go_num, by omega, Lib.hid HN.out, HI2⟩
                      case measure => simp [intOf]; omega
                  · obtain rfl : j = q2 := by omega
                    have t4 : decide (j < j) = false := decide_eq_false (by omega)
                    have hfb : fb = true := hF.out.2 HIN.out
                    subst hfb
                    go_wp2
                    go_roundw
                    case rel => exact ⟨k + 1, by go_num, by omega, hI⟩
                    case measure => simp [intOf]; omega
            · obtain rfl : k = q := by omega
              have t1 : decide (k < k) = false := decide_eq_false (by omega)
              have hLr := HL11.out.keep hI.out
              have HLr := Lib.hid hLr
              have HBX := Lib.hid (HBb.out.trans (hLr.bel.mono HBb.out.size))
              have y0 : wr.cell? ⟨K1, 0, none⟩ = some (.int .i64 xa.a.k) := HC.out wr hLr.bel 0 _ rfl
              have yt : wr.cell? ⟨T9, 0, none⟩ = some (.int .i64 te) := (hI.out.cell (p := ⟨T9, 0, none⟩) lT).trans HT11.out
              have lKw : K1 < wr.heap.size := Nat.lt_of_lt_of_le lK hI.out.size
              clear hlt hLr
              by_cases hk0 : xa.a.k = 0
              rotate_left
              · have t2 : (xa.a.k != 0) = true := by rw [bne_iff_ne]; exact hk0
                clear hk0
                go_wp2
                go_ret
                exact ⟨by first | rfl | (simp; done), HBX.out⟩
              have t2 : (xa.a.k != 0) = false := by rw [hk0]; rfl
              by_cases hte : te = 0
              rotate_left
              · have t3 : (te != 0) = true := by rw [bne_iff_ne]; exact hte
                clear hk0 hte
                go_wp2
                go_ret
                exact ⟨by first | rfl | (simp; done), HBX.out⟩
              have t3 : (te != 0) = false := by rw [hte]; rfl
              have hrb : (LM.release fs st2 xa.a.id).1 = (⟨xa.a.id, xa.a.q, xa.a.un, false, xa.a.sl⟩, 0) ∧ (LM.release fs st2 xa.a.id).2.ts = st.ts ∧ (LM.release fs st2 xa.a.id).2.qs = st.qs ∧ (LM.release fs st2 xa.a.id).2.hs = st.hs := by
                have h1 := HT.out
                unfold LM.act at h1
                rw [if_pos hk0] at h1
                injection h1 with h1 h2
                injection h1 with h1 _ _ _
                obtain ⟨hok, _, hinv, w9, pa, FQ, hqo⟩ := HOK.out.1
                rw [h2]
                exact LM.reserve_back hok.asc hinv (by obtain ⟨g, c, hq, _⟩ := hqo; exact hq.ok) (by rw [← h1]; exact hte)
              have HREL := Lib.hid (release_l xa.a.id HLr.out.at_ (by have := HST.out.2.1; omega) HGX.out.1.id)
              have hver3 : (LM.release fs st2 xa.a.id).2.ver ≤ 100 := by
                have := HST.out.2.1
                have := LM.release_steps fs st2 xa.a.id
                rcases this with ⟨_, h⟩ | ⟨_, h⟩
                · rw [h]; omega
                · omega
              obtain ⟨R3, hR3⟩ : ∃ R, R = LM.release fs st2 xa.a.id := ⟨_, rfl⟩
              rw [← hR3] at HREL hrb hver3
              obtain ⟨⟨hd3, er3⟩, st3⟩ := R3
              obtain ⟨hr1, hr2, hr3, hr4⟩ := hrb
              try simp only at hr1 hr2 hr3 hr4 hver3
              injection hr1 with hr1 hr1'
              subst hr1 hr1'
              have HR3 := Lib.hid (And.intro hr2 (And.intro hr3 (And.intro hr4 hver3)))
              have y1 : wr.cell? ⟨K1, 1, none⟩ = some (.int .i64 xa.a.id) := HC.out wr HLr.out.bel 1 _ rfl
              clear hR3 hr2 hr3 hr4 hver3 hk0 hte
              go_wp2_with fail
              refine HREL.out.mono ?_
              rintro e z1 ⟨⟨v, rfl, ⟨Ar, cr, rfl, hsr, _⟩⟩, F12, s1, s2, s3⟩
              simp only [hdV]
              have hLz := HLr.out.step s1 s2 s3
              have p2 : HL z1 G6 A6 st.hs := (HOW.out.1.keep hI.out).foot s2 fun i hg hf => hFF.out.1 i hg hf
              have p3 : Frees z1 z1.heap.size A7 (PM.free fs st.ts) := (Frees.keep HOW.out.2.1 hI.out hI.out.size).off s2.size fun b off e hb => s2.block b hb fun hf => hFF.out.2.1 b off e hf
              have p4 : Uns z1 z1.heap.size A8 (st.qs.map (·.u)) := Uns.apart (Els.keep HOW.out.2.2.1 hI.out hI.out.size) s2 fun b off e hf => hFF.out.2.2 b off e hf
              have y1 : z1.cell? ⟨K1, 1, none⟩ = some (.int .i64 xa.a.id) := HC.out z1 hLz.bel 1 _ rfl
              have y6 : z1.cell? ⟨K1, 6, none⟩ = some (.slice xa.A xa.a.sl.length xa.c) := HC.out z1 hLz.bel 6 _ rfl
              have lKz : K1 < z1.heap.size := Nat.lt_of_lt_of_le lKw s2.size
              have hsa : Slots z1 z1.heap.size xa.A xa.a.sl := Slots.keep HGX.out.2 hLz.bel hLz.bel.size
              obtain ⟨sn, hsn⟩ : ∃ m, m = xa.a.sl.length := ⟨_, rfl⟩
              have HSN := Lib.hid hsn
              rw [← hsn] at y6 ⊢
              have hal := (Below.refl z1.heap.size z1).alloc (Nat.le_refl _) (.cells #[.int .i64 xa.a.id, .int .i64 xa.a.q, .int .i64 xa.a.un, .bool false, .slice Ar sn cr] 44)
              have HLz := Lib.hid (hLz.keep hal)
              have HP := Lib.hid (And.intro (p2.keep hal) (And.intro (Frees.keep p3 hal hal.size) (And.intro (Els.keep p4 hal hal.size) (And.intro (Slots.keep hsr hal hal.size) (Slots.keep hsa hal hal.size)))))
              have t4 : (xa.a.id == xa.a.id) = true := by simp
              clear hLz p2 p3 p4 hsr hsa hsn s1 s2 s3 hal y0 yt t2 t3
              go_wp2_with fail
              refine (show Calls _ _ _ _ _ by have h9 := same_sl Ar xa.A cr xa.c _ xa.a.sl _ HP.out.2.2.2.1 HP.out.2.2.2.2 (by have := H40.out; omega); rw [← HSN.out] at h9; exact h9).mono ?_
              rintro e z2 ⟨rfl, hz2⟩
              have HL2 := Lib.hid (HLz.out.keep hz2)
              have HB2 := Lib.hid hz2
              clear hz2
              go_wp2_with fail
              refine (free_l HL2.out.at_).mono ?_
              rintro e z3 ⟨A13, c13, rfl, hh13, _, hz3⟩
              try simp only at hh13
              rw [HR3.out.1] at hh13 ⊢
              rw [← HFL.out]
              have HL3 := Lib.hid (HL2.out.keep hz3)
              have HB3 := Lib.hid (And.intro (below_step HB2.out hz3) hh13)
              clear hz3 hh13
              go_wp2_with fail
              refine (show Calls _ _ _ _ _ by have h9 := same_any A13 A7 c13 c7 (PM.free fs st.ts) z3 HB3.out.2 (HP.out.2.1.keep HB3.out.1 HB3.out.1.size) (by rw [PM.free_len HOK.out.1.2.2.1]; exact HOK.out.1.2.1.few); rw [← HFL.out] at h9; exact h9).mono ?_
              rintro e z4 ⟨rfl, hz4⟩
              have HL4 := Lib.hid (HL3.out.keep hz4)
              have HB4 := Lib.hid (below_step HB3.out.1 hz4)
              clear hz4
              go_wp2_with fail
              refine (used_l HL4.out.at_).mono ?_
              rintro e z5 ⟨A14, c14, rfl, hh14, _, hz5⟩
              try simp only at hh14
              rw [HR3.out.2.1] at hh14 ⊢
              have HL5 := Lib.hid (HL4.out.keep hz5)
              have HB5 := Lib.hid (And.intro (below_step HB4.out hz5) hh14)
              clear hz5 hh14
              rw [← HUL.out]
              go_wp2_with fail
              refine (show Calls _ _ _ _ _ by have h9 := same_u A14 A8 c14 c8 (st.qs.map (·.u)) (st.qs.map (·.u)) z5 HB5.out.2 (HP.out.2.2.1.keep HB5.out.1 HB5.out.1.size) (by rw [List.length_map]; obtain ⟨_, _, _, w9, pa, FQ, g, c, hq, _⟩ := HOK.out.1; have := hq.few; omega); rw [List.length_map, ← HUL.out] at h9; exact h9).mono ?_
              rintro e z6 ⟨rfl, hz6⟩
              have hdd : decide (st.qs.map (·.u) = st.qs.map (·.u)) = true := decide_eq_true rfl
              rw [hdd]
              have HL6 := Lib.hid (HL5.out.keep hz6)
              have HB6 := Lib.hid (below_step HB5.out.1 hz6)
              clear hz6 hdd
              go_wp2_with fail
              refine (holds_l HL6.out.at_ (by have h1 := HR3.out.2.2.1; have h2 := HOK.out.2.2; (try simp only at h1); rw [h1]; omega)).mono ?_
              rintro e z7 ⟨A15, c15, G15, rfl, hh15, _, hz7⟩
              try simp only at hh15
              rw [HR3.out.2.2.1] at hh15 ⊢
              have HL7 := Lib.hid (HL6.out.keep hz7)
              have HB7 := Lib.hid (And.intro (below_step HB6.out hz7) hh15)
              clear hz7 hh15
              rw [← HQ.out]
              go_wp2_with fail
              refine (show Calls _ _ _ _ _ by have h9 := same_holds A15 A6 c15 c6 G15 G6 st.hs z7 HB7.out.2 (HP.out.1.keep HB7.out.1) (by have := HOK.out.2.2; omega) (fun g hg => (HOK.out.1.1.ok g hg).n2); rw [← HQ.out] at h9; exact h9).mono ?_
              rintro e z8 ⟨rfl, hz8⟩
              have HBZ := Lib.hid (HBb.out.trans ((HL7.out.keep hz8).bel.mono HBb.out.size))
              clear hz8
              go_wp2
              go_ret
              exact ⟨by first | rfl | (simp; done), HBZ.out⟩


set_option maxRecDepth 100000 in
set_option maxHeartbeats 1000000 in
theorem lifted (os : Os) (started : os.Started) (H : Type) (enc : TypeId × Value → H) :
    ReturnsInHanded {} Tryz.checked os 5 .any (Rows.ledgerOthersSpec.pre6 enc Tryz.prog Tryz.f5 Rows.ledgerOthersRow.domain false) (Rows.ledgerOthersSpec.post enc Tryz.prog Tryz.f5 false true false false) := by
  refine returnsInHanded_of_change_sized (C := Tryz.checked) own started (by kernel_rfl) Tryz.func5
    (ChangeSpec.witness6 (enc := enc) (C := Tryz.checked) false ⟨#[], #[.agg #[.slice none 0 0], .slice none 0 0, .slice none 0 0, .agg #[.int .i64 0, .int .i64 0, .int .i64 0, .int .i64 0, .int .i64 0, .int .i64 0, .slice none 0 0]], []⟩ 8 (by kernel_rfl) (by kernel_rfl) (by kernel_rfl) (by kernel_rfl)) ?_
  intro W base args ds gs before hval0 hW _ hsz0 _
  have hsz : (DataW.weightsEach Tryz.prog (Tryz.f5.params.toList ++ Rows.ledgerOthersSpec.plain.varTypes Tryz.prog) (ds ++ gs)).all (· ≤ reachBytes) = true := hsz0
  have hval : ∀ (j : Nat) t v, Tryz.f5.params[j]? = some t → args[j]? = some v → Value.okWide Tryz.prog W .any base t v := hval0
  have hW' := hW
  obtain ⟨p, q, hA0, hV, rfl, hfz, hnd⟩ := hW
  have hA : DataW.TrodAll enc Tryz.prog W 0 (fun _ => true) true Tryz.f5.params.toList args.toList ds p := hA0
  rw [Tryz.params5] at hA hval hsz
  obtain ⟨v0, vs0, d0, ds0, p0, q0, hargs, rfl, rfl, h0, r0⟩ := trodAll_cons hA
  obtain ⟨v1, vs1, d1, ds1, p1, q1, rfl, rfl, rfl, h1, r1⟩ := trodAll_cons r0
  obtain ⟨v2, vs2, d2, ds2, p2, q2, rfl, rfl, rfl, h2, r2⟩ := trodAll_cons r1
  obtain ⟨v3, vs3, d3, ds3, p3, q3, rfl, rfl, rfl, h3, r3⟩ := trodAll_cons r2
  obtain ⟨rfl, rfl, rfl⟩ := trodAll_nil r3
  obtain rfl : args = #[v0, v1, v2, v3] := by cases args; simp_all
  obtain ⟨rfl, rfl⟩ := trodVars_none hV
  have k0 := h0
  have lt0 : ∀ x ∈ p0, x.block < W.heap.size := by obtain ⟨m, hm⟩ := k0; exact DataW.trod_lt m _ _ _ hm
  obtain ⟨a0, c0, n0, rfl, lc0, mc0, w0⟩ := clu_of (hval 0 24 v0 rfl rfl) h0
  have k1 := h1
  have lt1 : ∀ x ∈ p1, x.block < W.heap.size := by obtain ⟨m, hm⟩ := k1; exact DataW.trod_lt m _ _ _ hm
  obtain ⟨a1, c1, l1, rfl, lc1, mc1, v1, q1⟩ := uns_of (hval 1 25 v1 rfl rfl) h1
  have k2 := h2
  have lt2 : ∀ x ∈ p2, x.block < W.heap.size := by obtain ⟨m, hm⟩ := k2; exact DataW.trod_lt m _ _ _ hm
  obtain ⟨a2, c2, l2, rfl, lc2, mc2, v2, q2⟩ := las_of (hval 2 26 v2 rfl rfl) h2
  have k3 := h3
  have lt3 : ∀ x ∈ p3, x.block < W.heap.size := by obtain ⟨m, hm⟩ := k3; exact DataW.trod_lt m _ _ _ hm
  obtain ⟨x3, a3, c3, rfl, v3, q3⟩ := la_of (hval 3 49 v3 rfl rfl) h3
  have hreach2 : l2.length * 72 ≤ 140737488351232 := by
    have := slice_reach k2 Tryz.underlying26 hsz (j := 2) rfl rfl
    rwa [show Tryz.prog.bytesOf 49 = 72 by kernel_rfl] at this
  clear hA0 hval0
  refine (walk a0 c0 n0 a1 c1 l1 a2 c2 l2 x3 a3 c3 W w0 lc0 mc0 v1 q1 lc1 mc1 v2 q2 lc2 mc2 v3 q3 hreach2).mono fun e W' ⟨he, bel⟩ => ?_
  subst he
  exact ⟨_, rfl, _, _, _, [], _, [], hW', trodAll_mk1 (shut_bool Tryz.underlying4 _), (trodAll_cons_mk (Below.trod laidOut (by kernel_rfl) (of_decide_eq_true (by kernel_rfl)) k0 bel lt0) (trodAll_cons_mk (Below.trod laidOut (by kernel_rfl) (of_decide_eq_true (by kernel_rfl)) k1 bel lt1) (trodAll_cons_mk (Below.trod laidOut (by kernel_rfl) (of_decide_eq_true (by kernel_rfl)) k2 bel lt2) (trodAll_cons_mk (Below.trod laidOut (by kernel_rfl) (of_decide_eq_true (by kernel_rfl)) k3 bel lt3) trodAll_mk0)))), rfl, bel.frame _, fun h => by cases h⟩

/-- THE STATEMENT. -/
theorem holds : Rows.LedgerOthersSaid :=
  OpenClaim.holds_of_wide 5 Tryz.f5 rfl rfl rfl rfl rfl rfl rfl ⟨rfl, rfl, rfl, rfl, rfl⟩ rfl rfl rfl rfl rfl (by kernel_rfl) Tryz.func5 (by kernel_rfl)
    (of_decide_eq_true (by kernel_rfl)) (by unfold Func.isWrapper; first | (rw [if_pos (by decide +kernel)]; kernel_rfl) | (rw [if_neg (by decide +kernel)]; exact ⟨rfl, rfl⟩))
    (fun os started H enc _ => lifted os started H enc)
end Go.Proofs.YtfbecfikeiecmaaGreat.ledgerOthers
