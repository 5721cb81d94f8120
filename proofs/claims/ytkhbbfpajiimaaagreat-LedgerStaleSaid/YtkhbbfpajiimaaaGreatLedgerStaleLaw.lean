/- Of two that reserve by the same version the second is refused as lost; by the version then it is told as it would be: the law LedgerStale answers true, at every input. -/
import Derived.Laws.StructEq
import Derived.Test.YtkhbbfpajiimaaaGreatLedFew
import Derived.Test.YtkhbbfpajiimaaaGreatTopoFrame
import Derived.Test.YtkhbbfpajiimaaaGreatLedStaleM
set_option linter.unusedVariables false
namespace Go.Proofs.YtkhbbfpajiimaaaGreat.ledgerStale
open Go Go.ChangeShapes Go.WideShapes Go.ChangeAt Go.RowKit
open Go.MuLone

set_option maxRecDepth 100000 in
set_option maxHeartbeats 16000000 in
theorem walk (a0 : Option Addr) (c0 : Nat) (n0 : List (List (Int × Int))) (a1 : Option Addr) (c1 : Nat) (l1 : List Un) (a2 : Option Addr) (c2 : Nat) (l2 : List La) (x3 : La) (a3 : Option Addr) (c3 : Nat) (x4 : La) (a4 : Option Addr) (c4 : Nat) (w : World) (w0 : Nodes w w.heap.size a0 n0) (lc0 : n0.length ≤ c0) (mc0 : c0 ≤ maxLen)
    (v1 : Uns w w.heap.size a1 l1) (q1 : ∀ a ∈ l1, UnW a) (lc1 : l1.length ≤ c1) (mc1 : c1 ≤ maxLen) (v2 : Las w w.heap.size a2 l2) (q2 : ∀ a ∈ l2, LaOk a) (lc2 : l2.length ≤ c2) (mc2 : c2 ≤ maxLen) (v3 : Slots w w.heap.size a3 x3.sl) (q3 : LaOk x3) (v4 : Slots w w.heap.size a4 x4.sl) (q4 : LaOk x4) (hz : l2.length * 72 ≤ 140737488351232) :
    Calls Tryz.prog 6 #[.agg #[.slice a0 n0.length c0], .slice a1 l1.length c1, .slice a2 l2.length c2, .agg (laC x3 a3 c3).toArray, .agg (laC x4 a4 c4).toArray] w fun e w' => e = .returned (.bool true) ∧ Below w.heap.size w w' := by
  have hA := Lib.hid awake_l
  obtain ⟨m, hm⟩ : ∃ m, n0.length = m := ⟨_, rfl⟩
  obtain ⟨k1, hk1⟩ : ∃ k, l1.length = k := ⟨_, rfl⟩
  obtain ⟨n, hn⟩ : ∃ k, l2.length = k := ⟨_, rfl⟩
  obtain ⟨i0, hi, hz0, hz1, hz2⟩ := info_parts info_la
  obtain ⟨xa, hxa⟩ : ∃ x : Lx, x = ⟨x3, a3, c3⟩ := ⟨_, rfl⟩
  have exa : laC x3 a3 c3 = lxC xa := by rw [hxa]; rfl
  have fxa : Slots w w.heap.size xa.A xa.a.sl := by rw [hxa]; exact v3
  have gxa : LaOk xa.a := by rw [hxa]; exact q3
  rw [exa]
  obtain ⟨xb, hxb⟩ : ∃ x : Lx, x = ⟨x4, a4, c4⟩ := ⟨_, rfl⟩
  have exb : laC x4 a4 c4 = lxC xb := by rw [hxb]; rfl
  have fxb : Slots w w.heap.size xb.A xb.a.sl := by rw [hxb]; exact v4
  have gxb : LaOk xb.a := by rw [hxb]; exact q4
  rw [exb]
  have HB0 : Hid (Below w.heap.size w (((w.alloc (.cells #[.slice a0 m c0] 24)).alloc (.cells (lxC xa).toArray 49)).alloc (.cells (lxC xb).toArray 49)) ∧ ((((w.alloc (.cells #[.slice a0 m c0] 24)).alloc (.cells (lxC xa).toArray 49)).alloc (.cells (lxC xb).toArray 49))).heap[w.heap.size]? = some (.cells #[.slice a0 m c0] 24) ∧ ((((w.alloc (.cells #[.slice a0 m c0] 24)).alloc (.cells (lxC xa).toArray 49)).alloc (.cells (lxC xb).toArray 49))).heap[w.heap.size + 1]? = some (.cells (lxC xa).toArray 49) ∧ ((((w.alloc (.cells #[.slice a0 m c0] 24)).alloc (.cells (lxC xa).toArray 49)).alloc (.cells (lxC xb).toArray 49))).heap[w.heap.size + 1 + 1]? = some (.cells (lxC xb).toArray 49)) := Lib.hid ⟨((((Below.refl w.heap.size w).alloc (Nat.le_refl _) _).alloc (by simp) _).alloc (by simp; omega) _), new_0' _ _ _ _, new_1' _ _ _ _, new_2' _ _ _ _⟩
  have hV0 := And.intro w0 (And.intro v1 (And.intro v2 (And.intro hn (And.intro hm (And.intro hk1 (And.intro q2 (And.intro fxa (And.intro gxa (And.intro fxb (And.intro gxb trivial))))))))))
  have HNM := Lib.hid (Nat.le_trans lc2 mc2)
  have HV := Lib.hid hV0
  clear hV0
  have hn72 : n * 72 ≤ 140737488351232 := by rw [← hn]; exact hz
  have hc2 : n ≤ c2 := by rw [← hn]; exact lc2
  have mc2' := mc2
  unfold maxLen at mc2'
  rw [hm, hk1, hn]
  clear w0 v1 v2 q1 q2 lc0 lc1 lc2 mc0 mc1 mc2 hn hm hk1 hz v3 q3 hxa exa fxa gxa v4 q4 hxb exb fxb gxb
  simp only [lxC, laC] at HB0 ⊢
  go_enter Tryz.func6, Tryz.ntmps6
  go_wp2_with fail
  refine (hA.out _).mono ?_
  rintro e u2 ⟨rfl, hb2⟩
  obtain ⟨hB0, hy0, hy1, hy2⟩ := HB0.out
  clear HB0
  obtain ⟨wb, hwb⟩ : ∃ z, z = (((w.alloc (.cells #[.slice a0 m c0] 24)).alloc (.cells #[.int .i64 xa.a.k, .int .i64 xa.a.id, .int .i64 xa.a.q, .int .i64 xa.a.un, .int .i64 xa.a.now, .int .i64 xa.a.old, .slice xa.A xa.a.sl.length xa.c] 49)).alloc (.cells #[.int .i64 xb.a.k, .int .i64 xb.a.id, .int .i64 xb.a.q, .int .i64 xb.a.un, .int .i64 xb.a.now, .int .i64 xb.a.old, .slice xb.A xb.a.sl.length xb.c] 49)) := ⟨_, rfl⟩
  rw [← hwb] at hB0 hb2 hy0 hy1 hy2
  obtain ⟨K2, eK2⟩ : ∃ z, z = w.heap.size + 1 + 1 := ⟨_, rfl⟩
  rw [← eK2] at hy2 ⊢
  obtain ⟨K1, eK1⟩ : ∃ z, z = w.heap.size + 1 := ⟨_, rfl⟩
  rw [← eK1] at hy1 ⊢
  obtain ⟨K0, eK0⟩ : ∃ z, z = w.heap.size := ⟨_, rfl⟩
  rw [← eK0] at hy0 ⊢
  have HBb := Lib.hid hB0
  have sK : K0 < wb.heap.size ∧ K1 < wb.heap.size ∧ K2 < wb.heap.size := ⟨blk_lt hy0, blk_lt hy1, blk_lt hy2⟩
  have HE := Lib.hid (show _ ∧ _ ∧ _ from ⟨hy0, hy1, hy2⟩)
  obtain ⟨w0, v1, v2, hn, hm, hk1, q2, fxa, gxa, fxb, gxb, _⟩ := HV.out
  have hnm := HNM.out
  have s2 := hb2.size
  have HS2 : Hid ((fun w' : World => w'.cell? ⟨K0, 0, none⟩ = some (.slice a0 m c0) ∧ CellsAt w' K1 0 (lxC xa) ∧ CellsAt w' K2 0 (lxC xb)) u2) := Lib.hid ⟨(hb2.cell (p := ⟨K0, 0, none⟩) sK.1).trans (cell_blk (i := 0) hy0 rfl), (lx_box hy1).keep sK.2.1 hb2, (lx_box hy2).keep sK.2.2 hb2⟩
  have hBw : Below w.heap.size w u2 := below_step hB0 hb2
  obtain ⟨L2, hL2, hE2, hS2⟩ := las_els (v2.up hBw hBw.size)
  have HE2 := Lib.hid hE2
  have HL2 := Lib.hid (show n = L2.length by rw [← hn, ← hL2, List.length_map])
  have HFew : Hid (∀ W, Below u2.heap.size u2 W → ∀ A7 c7, W.ownsRow u2.heap.size 49 7 (.slice A7 (n + 2) c7) (n + 2) (L2.flatMap lxC ++ [xa, xb].flatMap lxC) →
      Calls Tryz.prog 8 #[.agg #[.slice a0 m c0], .slice a1 k1 c1, .slice A7 (n + 2) c7] W fun e w' => e = .returned (.bool (few8 n0 l1 (l2 ++ [xa.a, xb.a]))) ∧ Below W.heap.size W w') := Lib.hid (fun W hW A7 c7 ho => by
    rw [← List.flatMap_append] at ho
    have hlen : (L2 ++ [xa, xb]).length = n + 2 := by rw [List.length_append, ← HL2.out]; rfl
    have he := (els_own lxC_len ho hlen).1
    have hWw : Below w.heap.size w W := hBw.trans (hW.mono hBw.size)
    have hla : Las W W.heap.size A7 (l2 ++ [xa.a, xb.a]) := by
      have := els_las he (fun x hx => by
        rcases List.mem_append.1 hx with hx | hx
        · exact (Slots.keep (hS2 x hx) hW hW.size)
        · rcases List.mem_cons.1 hx with rfl | hx
          · exact Slots.keep fxa hWw hWw.size
          · rcases List.mem_cons.1 hx with rfl | hx
            · exact Slots.keep fxb hWw hWw.size
            · simp at hx)
      rwa [List.map_append, hL2] at this
    have := few_l a0 a1 A7 c0 c1 c7 n0 l1 (l2 ++ [xa.a, xb.a]) W (Nodes.keep w0 hWw hWw.size) (v1.keep hWw hWw.size) hla (by rw [List.length_append, hn]; unfold maxLen at hnm ⊢; simp; omega) (fun a ha => by
      rcases List.mem_append.1 ha with ha | ha
      · exact (q2 a ha).few
      · rcases List.mem_cons.1 ha with rfl | ha
        · exact gxa.few
        · rcases List.mem_cons.1 ha with rfl | ha
          · exact gxb.few
          · simp at ha)
    rw [List.length_append, hn, hm, hk1] at this
    exact this)
  have Hb2 := Lib.hid hb2
  have HBw := Lib.hid hBw
  clear hwb eK0 eK1 eK2 hy0 hy1 hy2 w0 v1 v2 q2 hn hnm hm hk1 fxa gxa fxb gxb hB0 hb2 hBw hL2 hE2 hS2
  have hK0 : K0 < u2.heap.size := by omega
  have hK1 : K1 < u2.heap.size := by omega
  have hK2 : K2 < u2.heap.size := by omega
  go_wp2_with fail
  refine held_begin (fun w' : World => w'.cell? ⟨K0, 0, none⟩ = some (.slice a0 m c0) ∧ CellsAt w' K1 0 (lxC xa) ∧ CellsAt w' K2 0 (lxC xb)) (by kernel_rfl) ?_
  have hB0 : Below u2.heap.size u2 u2.drew := (Below.refl _ _).drew
  have hS0 : (fun w' : World => w'.cell? ⟨K0, 0, none⟩ = some (.slice a0 m c0) ∧ CellsAt w' K1 0 (lxC xa) ∧ CellsAt w' K2 0 (lxC xb)) u2.drew := HS2.out
  generalize u2.drew = wd at hB0 hS0 ⊢
  have sd := hB0.size
  refine held_take (v := ?_) 0 19 rfl rfl (by kernel_rfl) (by kernel_rfl) (by kernel_rfl) (fun _ _ _ h => h) ⟨by rfl, ?_⟩ hS0 ?_
  rotate_left
  · intro w' hw'; obtain ⟨x0, x1, x2⟩ := hw'; go_simp; (try with_reducible rfl)
  simp only [Act.put, List.setIfInBounds_toArray, List.set_cons_zero, List.set_cons_succ]
  refine held_take (v := ?_) 1 20 rfl rfl (by kernel_rfl) (by kernel_rfl) (by kernel_rfl) (fun _ _ _ h => h) ⟨by rfl, ?_⟩ hS0 ?_
  rotate_left
  · intro w' hw'; obtain ⟨x0, x1, x2⟩ := hw'; go_simp; (try with_reducible rfl)
  simp only [Act.put, List.setIfInBounds_toArray, List.set_cons_zero, List.set_cons_succ]
  refine held_take (v := ?_) 3 22 rfl rfl (by kernel_rfl) (by kernel_rfl) (by kernel_rfl) (fun _ _ _ h => h) ⟨by rfl, ?_⟩ hS0 ?_
  rotate_left
  · intro w' hw'; obtain ⟨x0, x1, x2⟩ := hw'; go_simp; (try with_reducible rfl)
  simp only [Act.put, List.setIfInBounds_toArray, List.set_cons_zero, List.set_cons_succ]
  refine held_take (v := ?_) 5 24 rfl rfl (by kernel_rfl) (by kernel_rfl) (by kernel_rfl) (fun _ _ _ h => h) ⟨by rfl, ?_⟩ hS0 ?_
  rotate_left
  · intro w' hw'; obtain ⟨x0, x1, x2⟩ := hw'; refine Eq.trans (run_load_la (by rfl) (by rfl) x1) ?_; (with_reducible rfl)
  simp only [Act.put, List.setIfInBounds_toArray, List.set_cons_zero, List.set_cons_succ]
  refine held_take (v := ?_) 6 25 rfl rfl (by kernel_rfl) (by kernel_rfl) (by kernel_rfl) (fun _ _ _ h => h) ⟨by rfl, ?_⟩ hS0 ?_
  rotate_left
  · intro w' hw'; obtain ⟨x0, x1, x2⟩ := hw'; refine Eq.trans (run_load_la (by rfl) (by rfl) x2) ?_; (with_reducible rfl)
  simp only [Act.put, List.setIfInBounds_toArray, List.set_cons_zero, List.set_cons_succ]
  refine held_two 2 7 rfl rfl (by kernel_rfl) (by rfl) (by rfl) (fun K hK => ?_) (fun K hK => ?_)
  · go_simp
    obtain ⟨wa, hwa⟩ : ∃ x, x = wd.alloc (.cells #[] 49) := ⟨_, rfl⟩
    have ownE : wa.ownsRow u2.heap.size 49 7 (.slice (some ⟨wd.heap.size, 0, none⟩) 0 0) 0 [] := by rw [hwa]; exact World.ownsRow_lit wd #[] 0 (by omega) (by unfold maxLen; omega) rfl
    have hBa : Below u2.heap.size u2 wa := by rw [hwa]; exact hB0.alloc hB0.size _
    have swa : wd.heap.size < wa.heap.size := by rw [hwa]; simp
    have bwa : Below wd.heap.size wd wa := by rw [hwa]; exact (Below.refl _ _).alloc (Nat.le_refl _) _
    have hSa : (fun w' : World => w'.cell? ⟨K0, 0, none⟩ = some (.slice a0 m c0) ∧ CellsAt w' K1 0 (lxC xa) ∧ CellsAt w' K2 0 (lxC xb)) wa := ⟨(bwa.cell (p := ⟨K0, 0, none⟩) (show K0 < _ by omega)).trans hS0.1, CellsAt.keep hS0.2.1 (by omega) bwa, CellsAt.keep hS0.2.2 (by omega) bwa⟩
    rw [← hwa]
    refine hK.out _ _ hSa ?_
    clear hK K hwa
    try simp only [Act.put, List.setIfInBounds_toArray, List.set_cons_zero, List.set_cons_succ]
    refine held_two 4 7 rfl rfl (by kernel_rfl) (by rfl) (by rfl) (fun K hK => ?_) (fun K hK => ?_)
    · simp only [Go.wp_at_zero, Go.wp_at_succ]
      refine wp_append_els (C := lxC) (k := 7) _ _ _ 26 rfl u2.heap.size 49 i0 _ 72 Tryz.underlying26 hi hz0 hz1 hz2 rfl (by decide) (.slice (some ⟨wd.heap.size, 0, none⟩) 0 0) 0 [] rfl ownE u2.heap.size a2 c2 n L2 rfl (HE2.out.keep (hBa) (Nat.le_refl _)) HL2.out lxC_len lxC_one (by unfold maxLen; omega) (by omega) (by omega) ?_
      intro A5 c5 wb2 own5 gwb2 kwb2
      rw [Nat.zero_add] at own5 ⊢
      rw [List.nil_append] at own5
      have hob : ∀ j, (Value.slice (some ⟨wd.heap.size, 0, none⟩) 0 0).ownBlock = some j → j = wd.heap.size := fun j hj => by simpa [Value.ownBlock] using hj.symm
      have hBb : Below u2.heap.size u2 wb2 := hBa.grown gwb2 (by omega) (fun j hj => by have := hob j hj; omega)
      have swb2 := gwb2.size
      have hSb : (fun w' : World => w'.cell? ⟨K0, 0, none⟩ = some (.slice a0 m c0) ∧ CellsAt w' K1 0 (lxC xa) ∧ CellsAt w' K2 0 (lxC xb)) wb2 := ⟨(gwb2.cell_far ⟨K0, 0, none⟩ (show K0 < wa.heap.size by omega) (fun e => by have := hob K0 e.symm; omega)).trans hSa.1, CellsAt.of hSa.2.1 (gwb2.block K1 (by omega) (fun e => by have := hob K1 e.symm; omega)), CellsAt.of hSa.2.2 (gwb2.block K2 (by omega) (fun e => by have := hob K2 e.symm; omega))⟩
      refine hK.out _ _ hSb ?_
      clear hK K
      try simp only [Act.put, List.setIfInBounds_toArray, List.set_cons_zero, List.set_cons_succ]
      have Own5 := Lib.hid own5
      clear own5 gwb2 kwb2 hob
      refine held_one 7 rfl (by kernel_rfl) (by rfl) (fun K hK => ?_)
      simp only [lxC, laC]
      go_simp
      obtain ⟨wc, hwc⟩ : ∃ z, z = wb2.alloc (.cells (lxC xa ++ lxC xb).toArray 49) := ⟨_, rfl⟩
      have elsB : Els lxC 7 wc wc.heap.size (some ⟨wb2.heap.size, 0, none⟩) [xa, xb] := by rw [hwc]; exact els_blk lxC_len (heap_alloc_new wb2 _) (fun j v hj => by simpa [List.flatMap_cons] using hj)
      have hBc : Below u2.heap.size u2 wc := by rw [hwc]; exact hBb.alloc hBb.size _
      have swc : wb2.heap.size < wc.heap.size := by rw [hwc]; simp
      have bwc : Below wb2.heap.size wb2 wc := by rw [hwc]; exact (Below.refl _ _).alloc (Nat.le_refl _) _
      have hSc : (fun w' : World => w'.cell? ⟨K0, 0, none⟩ = some (.slice a0 m c0) ∧ CellsAt w' K1 0 (lxC xa) ∧ CellsAt w' K2 0 (lxC xb)) wc := ⟨(bwc.cell (p := ⟨K0, 0, none⟩) (show K0 < _ by omega)).trans hSb.1, CellsAt.keep hSb.2.1 (by omega) bwc, CellsAt.keep hSb.2.2 (by omega) bwc⟩
      simp only [lxC, laC, List.cons_append, List.nil_append] at hwc
      rw [← hwc]
      refine hK.out _ _ hSc ?_
      clear hK K hwc
      try simp only [Act.put, List.setIfInBounds_toArray, List.set_cons_zero, List.set_cons_succ]
      have own5 := own_keep Own5.out bwc
      refine held_one 8 rfl (by kernel_rfl) (by rfl) (fun K hK => ?_)
      simp only [Go.wp_at_zero, Go.wp_at_succ]
      refine wp_append_els (C := lxC) (k := 7) _ _ _ 26 rfl u2.heap.size 49 i0 _ 72 Tryz.underlying26 hi hz0 hz1 hz2 rfl (by decide) (.slice A5 n c5) n _ rfl own5 _ (some ⟨wb2.heap.size, 0, none⟩) 2 2 [xa, xb] rfl elsB rfl lxC_len lxC_one (by unfold maxLen; omega) (by omega) (by omega) ?_
      intro A7 c7 w7 own7 g7 k7
      have hob5 : ∀ j, (Value.slice A5 n c5).ownBlock = some j → u2.heap.size ≤ j := fun j hj => (own5.lt j hj).1
      have hB7 : Below u2.heap.size u2 w7 := hBc.grown g7 (by omega) (fun j hj => by have := hob5 j hj; omega)
      have hS7 : (fun w' : World => w'.cell? ⟨K0, 0, none⟩ = some (.slice a0 m c0) ∧ CellsAt w' K1 0 (lxC xa) ∧ CellsAt w' K2 0 (lxC xb)) w7 := ⟨(g7.cell_far ⟨K0, 0, none⟩ (show K0 < wc.heap.size by omega) (fun e => by have := hob5 K0 e.symm; omega)).trans hSc.1, CellsAt.of hSc.2.1 (g7.block K1 (by omega) (fun e => by have := hob5 K1 e.symm; omega)), CellsAt.of hSc.2.2 (g7.block K2 (by omega) (fun e => by have := hob5 K2 e.symm; omega))⟩
      refine hK.out _ _ hS7 ?_
      clear hK K
      try simp only [Act.put, List.setIfInBounds_toArray, List.set_cons_zero, List.set_cons_succ]
      have hFW := HFew.out w7 hB7 A7 c7 own7
      clear own7 own5 g7 k7 hob5
      try clear elsB
      try clear ownE
      try clear gwb2
      try clear kwb2
      try clear gwc
      try clear kwc
      try clear hob
      try clear hSc
      try clear hSb
      try clear hSa
      try clear hBc
      try clear hBb
      try clear hBa
      try clear bwa
      try clear bwb2
      try clear bwc
      try clear swa
      try clear swb2
      try clear swc
      refine held_one 9 rfl (by kernel_rfl) (by rfl) (fun K hK => ?_)
      go_simp
      go_at_call 8
      refine hFW.mono ?_
      rintro e w8 ⟨rfl, hb8⟩
      have hS8 : (fun w' : World => w'.cell? ⟨K0, 0, none⟩ = some (.slice a0 m c0) ∧ CellsAt w' K1 0 (lxC xa) ∧ CellsAt w' K2 0 (lxC xb)) w8 := ⟨(hb8.cell (p := ⟨K0, 0, none⟩) (show K0 < _ by have := hB7.size; omega)).trans hS7.1, CellsAt.keep hS7.2.1 (by have := hB7.size; omega) hb8, CellsAt.keep hS7.2.2 (by have := hB7.size; omega) hb8⟩
      have hB8 := Lib.hid (below_step hB7 hb8)
      refine hK.out _ _ hS8 ?_
      clear hK K hS7 hB7 hb8 hFW
      try simp only [Act.put, List.setIfInBounds_toArray, List.set_cons_zero, List.set_cons_succ]
      refine held_take (v := ?_) 10 29 rfl rfl (by kernel_rfl) (by kernel_rfl) (by kernel_rfl) (fun _ _ _ h => h) ⟨by rfl, ?_⟩ hS8 ?_
      rotate_left
      · intro w' _; go_simp; (try with_reducible rfl)
      simp only [Act.put, List.setIfInBounds_toArray, List.set_cons_zero, List.set_cons_succ]
      refine wpAnyH_done (by kernel_rfl) ?_ _
      have HB8 := Lib.hid (Hb2.out.trans (hB8.out.mono Hb2.out.size))
      have HW8 := Lib.hid (HBb.out.trans (HB8.out.mono HBb.out.size))
      have hk8 := hS8.1
      have HV8 := HV
      obtain ⟨fb, hfb⟩ : ∃ b, b = few8 n0 l1 (l2 ++ [xa.a, xb.a]) := ⟨_, rfl⟩
      rw [← hfb]
      have HFB := Lib.hid hfb
      clear hS8 hB8 hfb HFew HE2 HL2 hB0 hS0 sd
      cases fb
      · go_wp2
        go_ret
        exact ⟨by first | rfl | (simp; done), HW8.out⟩
      · have hff := HFB.out
        obtain ⟨hcq, hq0, hn60⟩ : cluOk n0 = true ∧ quotasOk l1 = true ∧ n ≤ 60 := by
          have h1 := hff.symm
          unfold few8 at h1
          simp only [Bool.and_eq_true] at h1
          obtain ⟨⟨h1, h2⟩, h3⟩ := h1
          unfold fewLs at h3
          simp only [Bool.and_eq_true, decide_eq_true_eq, List.length_append] at h3
          exact ⟨h1, h2, by rw [← HV8.out.2.2.2.1]; omega⟩
        have hN : Hid (Calls Tryz.prog 9 #[.agg #[.slice a0 m c0], .slice a1 k1 c1] w8 fun e w' => ∃ p F, e = .returned (.tuple #[.pointer (some ⟨p, 0, none⟩), .int .i64 0]) ∧ LIn wb w' p F (frees n0) (LM.init n0 l1)) := Lib.hid (by
          obtain ⟨w0, v1, _, _, hm, hk1, _⟩ := HV8.out
          have hl := lnew_l a0 a1 c0 c1 n0 l1 w8 (Nodes.keep w0 HW8.out HW8.out.size) (v1.keep HW8.out HW8.out.size)
          rw [hm, hk1] at hl
          refine hl.mono fun e w' (hl : LNew n0 l1 w8 e w') => ?_
          rcases hl.2 with ⟨h2 | h2, _⟩ | ⟨_, _, p, F, he, ho, hF⟩
          · rw [hcq] at h2; cases h2
          · rw [hq0] at h2; cases h2
          · exact ⟨p, F, he, .made HB8.out ho hF hl.1⟩)
        have hver0 : (LM.init n0 l1).ver = 0 := rfl
        obtain ⟨st0, hst0⟩ : ∃ st, st = LM.init n0 l1 := ⟨_, rfl⟩
        obtain ⟨fs, hfs⟩ : ∃ fs, fs = frees n0 := ⟨_, rfl⟩
        rw [← hst0] at hver0 hN
        rw [← hfs] at hN
        clear hst0 hfs hff hcq hq0
        go_wp2_with fail
        refine hN.out.mono ?_
        rintro e u4 ⟨p, F4, rfl, hl4⟩
        have HL4 := Lib.hid hl4
        have hver0' := Lib.hid hver0
        clear hl4 hN hk8 hver0
        go_wp2
        go_loopw [13] (fun i wr => ∃ k : Nat, i = .int .i64 k ∧ k ≤ n ∧ Hid (∃ F st, LIn wb wr p F fs st ∧ st.ver ≤ k)) (fun i _ => n - (intOf i).toNat)
        case atStart => exact ⟨0, rfl, by omega, Lib.hid ⟨F4, st0, HL4.out, by have := hver0'.out; omega⟩⟩
        case round =>
          clear HL4 hver0'
          obtain ⟨k, rfl, hk, hW⟩ := hrel
          by_cases hlt : k < n
          · obtain ⟨F, st, hL, hv⟩ := hW.out
            obtain ⟨_, _, v2, hn, _, _, q2, _⟩ := HV8.out
            have v2 := v2.up HBb.out HBb.out.size
            obtain ⟨a, hx⟩ := get_lt (l := l2) (k := k) (by rw [hn]; exact hlt)
            have ha := q2 a (List.mem_of_getElem? hx)
            obtain ⟨b, off, rfl, hb, hcw⟩ := v2.at_ hx
            obtain ⟨A, c, hcells, hsl⟩ := hcw k a hx
            have hv2 : st.ver ≤ 100000 := by omega
            have hvk := LM.act_ver fs st a
            have hc4 := fun j u hj => (hL.bel.cell (p := ⟨b, off + k * 7 + j, none⟩) hb).trans (hcells j u hj)
            have HD := Lib.hid (do_l A c a hL.at_ hv2 ha (Slots.keep hsl hL.bel hL.bel.size) (hsl.old hL.hF))
            have HK := Lib.hid (And.intro hv hvk)
            have HLo := Lib.hid hL
            obtain ⟨T, hT⟩ : ∃ T, T = LM.act fs st a := ⟨_, rfl⟩
            rw [← hT] at HD HK
            obtain ⟨ak, aid, aq, aun, anow, aold, asl⟩ := a
            simp only [laC] at HD
            have y0 := hc4 0 _ rfl
            rw [Nat.add_zero] at y0
            have y1 := hc4 1 _ rfl
            have y2 := hc4 2 _ rfl
            have y3 := hc4 3 _ rfl
            have y4 := hc4 4 _ rfl
            have y5 := hc4 5 _ rfl
            have y6 := hc4 6 _ rfl
            simp only at y0 y1 y2 y3 y4 y5 y6
            have j1 : (k : Int) < (n : Int) := by omega
            have t1 : decide (k < n) = true := decide_eq_true hlt
            clear hT hx hcw hcells hsl ha v2 q2 hn hL hv hv2 hvk hW hc4
            go_wp2_with fail
            refine HD.out.mono ?_
            rintro e x5 ⟨v, rfl, _, F5, s1, s2, s3⟩
            have HL5 := Lib.hid (HLo.out.step s1 s2 s3)
            clear s1 s2 s3 HD HLo y0 y1 y2 y3 y4 y5 y6
            go_wp2
            go_roundw
            case rel => exact ⟨k + 1, by go_num, by omega, Lib.hid ⟨F5, _, HL5.out, by have := HK.out.2; have := HK.out.1; omega⟩⟩
            case measure => simp [intOf]; omega
          · obtain rfl : k = n := by omega
            have t1 : decide (k < k) = false := decide_eq_false (by omega)
            obtain ⟨F, st, hL, hv⟩ := hW.out
            have HLo := Lib.hid hL
            have HK := Lib.hid hv
            clear hW hL hv hlt
            go_wp2_with fail
            refine (version_l HLo.out.at_).mono ?_
            rintro e x6 ⟨rfl, hb6⟩
            have HL6 := Lib.hid (HLo.out.keep hb6)
            clear hb6 HLo
            obtain ⟨ver, hver⟩ : ∃ v, v = st.ver := ⟨_, rfl⟩
            rw [← hver]
            obtain ⟨fxa, gxa, fxb, gxb, _⟩ := HV8.out.2.2.2.2.2.2.2
            have fxa := Slots.keep fxa HBb.out HBb.out.size
            have fxb := Slots.keep fxb HBb.out HBb.out.size
            have hvb : ver ≤ 60 := by have := HK.out; omega
            have HR1 := Lib.hid (reserve_l xa.a.id xa.a.q xa.a.un (ver : Int) xa.A xa.c xa.a.sl HL6.out.at_ (by omega) gxa.id gxa.q gxa.un gxa.sl (Slots.keep fxa HL6.out.bel HL6.out.bel.size) (fxa.old HL6.out.hF))
            have HST := Lib.hid (LM.reserve_steps fs st xa.a.id xa.a.q xa.a.un (ver : Int) xa.a.sl)
            have HFD := Lib.hid (fun h => LM.reserve_found (fs := fs) (st := st) (id := xa.a.id) (q := xa.a.q) (un := xa.a.un) (ver := (ver : Int)) (sl := xa.a.sl) HL6.out.at_.ok.1.asc h)
            obtain ⟨R1, hR1⟩ : ∃ R, R = LM.reserve fs st xa.a.id xa.a.q xa.a.un (ver : Int) xa.a.sl := ⟨_, rfl⟩
            rw [← hR1] at HR1 HST HFD
            obtain ⟨r1, st1⟩ := R1
            have HVer := Lib.hid hver
            have HG := Lib.hid (And.intro fxb gxb)
            have HE6 := Lib.hid (show CellsAt x6 K1 0 (lxC xa) ∧ CellsAt x6 K2 0 (lxC xb) ∧ K1 < wb.heap.size ∧ K2 < wb.heap.size from ⟨(lx_box HE.out.2.1).keep (blk_lt HE.out.2.1) HL6.out.bel, (lx_box HE.out.2.2).keep (blk_lt HE.out.2.2) HL6.out.bel, blk_lt HE.out.2.1, blk_lt HE.out.2.2⟩)
            have y1 : x6.cell? ⟨K1, 1, none⟩ = some (.int .i64 xa.a.id) := HE6.out.1 1 _ rfl
            have y2 : x6.cell? ⟨K1, 2, none⟩ = some (.int .i64 xa.a.q) := HE6.out.1 2 _ rfl
            have y3 : x6.cell? ⟨K1, 3, none⟩ = some (.int .i64 xa.a.un) := HE6.out.1 3 _ rfl
            have y6 : x6.cell? ⟨K1, 6, none⟩ = some (.slice xa.A xa.a.sl.length xa.c) := HE6.out.1 6 _ rfl
            clear hR1 hver fxa gxa fxb gxb
            go_wp2_with fail
            refine HR1.out.mono ?_
            rintro e x7 ⟨rfl, F7, s1, s2, s3⟩
            have HL7 := Lib.hid (HL6.out.step s1 s2 s3)
            clear s1 s2 s3 HR1 y1 y2 y3 y6
            by_cases hr : r1 = 0
            · subst hr
              have hfd := HFD.out rfl
              have hst1 : st1.ver = ver + 1 := by have := hfd.2; have := HVer.out; simp only at *; omega
              have HR2 := Lib.hid (reserve_l xb.a.id xb.a.q xb.a.un (ver : Int) xb.A xb.c xb.a.sl HL7.out.at_ (by omega) HG.out.2.id HG.out.2.q HG.out.2.un HG.out.2.sl (Slots.keep HG.out.1 HL7.out.bel HL7.out.bel.size) (HG.out.1.old HL7.out.hF))
              rw [LM.reserve_lost fs st1 xb.a.id xb.a.q xb.a.un (ver : Int) xb.a.sl (by omega)] at HR2
              have z1 : x7.cell? ⟨K2, 1, none⟩ = some (.int .i64 xb.a.id) := (lx_box HE.out.2.2).keep HE6.out.2.2.2 HL7.out.bel 1 _ rfl
              have z2 : x7.cell? ⟨K2, 2, none⟩ = some (.int .i64 xb.a.q) := (lx_box HE.out.2.2).keep HE6.out.2.2.2 HL7.out.bel 2 _ rfl
              have z3 : x7.cell? ⟨K2, 3, none⟩ = some (.int .i64 xb.a.un) := (lx_box HE.out.2.2).keep HE6.out.2.2.2 HL7.out.bel 3 _ rfl
              have z6 : x7.cell? ⟨K2, 6, none⟩ = some (.slice xb.A xb.a.sl.length xb.c) := (lx_box HE.out.2.2).keep HE6.out.2.2.2 HL7.out.bel 6 _ rfl
              have HF2 := Lib.hid (And.intro hfd.1 hst1)
              clear hfd hst1
              go_wp2_with fail
              refine HR2.out.mono ?_
              rintro e x8 ⟨rfl, F8, s1, s2, s3⟩
              have HL8 := Lib.hid (HL7.out.step s1 s2 s3)
              clear s1 s2 s3 HR2 z1 z2 z3 z6
              have HR3 := Lib.hid (reserve_l xb.a.id xb.a.q xb.a.un (st1.ver : Int) xb.A xb.c xb.a.sl HL8.out.at_ (by have := HF2.out.2; omega) HG.out.2.id HG.out.2.q HG.out.2.un HG.out.2.sl (Slots.keep HG.out.1 HL8.out.bel HL8.out.bel.size) (HG.out.1.old HL8.out.hF))
              have hT := LM.reserve_told fs st1 xb.a.id xb.a.q xb.a.un xb.a.sl
              have hTw := fun h => LM.reserve_twice fs st1 xb.a.id xb.a.q xb.a.un xb.a.sl h
              have hfd := HF2.out.1
              (try simp only at hfd HR3)
              rw [HF2.out.2] at HR3 hT hTw
              obtain ⟨r3, hr3⟩ : ∃ r, r = (LM.reserve fs st1 xb.a.id xb.a.q xb.a.un ((ver + 1 : Nat) : Int) xb.a.sl).1 := ⟨_, rfl⟩
              rw [← hr3] at HR3 hT hTw
              have hcase : xb.a.id ≠ xa.a.id ∨ (xb.a.id = xa.a.id ∧ r3 = 4) ∨ (xb.a.id = xa.a.id ∧ r3 = 1) := by
                by_cases e : xb.a.id = xa.a.id
                · right
                  have := hTw (by rw [e]; exact hfd)
                  rcases this with h | h
                  · exact .inl ⟨e, h⟩
                  · exact .inr ⟨e, h⟩
                · exact .inl e
              have HT := Lib.hid hT
              have z1 : x8.cell? ⟨K2, 1, none⟩ = some (.int .i64 xb.a.id) := (lx_box HE.out.2.2).keep HE6.out.2.2.2 HL8.out.bel 1 _ rfl
              have z2 : x8.cell? ⟨K2, 2, none⟩ = some (.int .i64 xb.a.q) := (lx_box HE.out.2.2).keep HE6.out.2.2.2 HL8.out.bel 2 _ rfl
              have z3 : x8.cell? ⟨K2, 3, none⟩ = some (.int .i64 xb.a.un) := (lx_box HE.out.2.2).keep HE6.out.2.2.2 HL8.out.bel 3 _ rfl
              have z6 : x8.cell? ⟨K2, 6, none⟩ = some (.slice xb.A xb.a.sl.length xb.c) := (lx_box HE.out.2.2).keep HE6.out.2.2.2 HL8.out.bel 6 _ rfl
              have ev : ((ver + 1 : Nat) : Int) = (ver : Int) + 1 := by omega
              rw [ev] at HR3
              clear hr3 hT hTw hfd ev
              go_wp2_with fail
              refine HR3.out.mono ?_
              rintro e x9 ⟨rfl, F9, s1, s2, s3⟩
              have HL9 := Lib.hid (HL8.out.step s1 s2 s3)
              clear s1 s2 s3 HR3 z1 z2 z3 z6
              have z1 : x9.cell? ⟨K2, 1, none⟩ = some (.int .i64 xb.a.id) := (lx_box HE.out.2.2).keep HE6.out.2.2.2 HL9.out.bel 1 _ rfl
              have y1 : x9.cell? ⟨K1, 1, none⟩ = some (.int .i64 xa.a.id) := (lx_box HE.out.2.1).keep HE6.out.2.2.1 HL9.out.bel 1 _ rfl
              have t3 : (r3 != 13) = true := by have := HT.out; simp; omega
              have HB9 := Lib.hid (HBb.out.trans (HL9.out.bel.mono HBb.out.size))
              rcases hcase with e | ⟨e, rfl⟩ | ⟨e, rfl⟩
              · have t4 : (xb.a.id != xa.a.id) = true := by simpa using e
                clear e
                go_wp2
                go_ret
                exact ⟨by first | rfl | (simp; done), HB9.out⟩
              · have t4 : (xb.a.id != xa.a.id) = false := by simpa using e
                clear e t3
                go_wp2
                go_ret
                exact ⟨by first | rfl | (simp; done), HB9.out⟩
              · have t4 : (xb.a.id != xa.a.id) = false := by simpa using e
                clear e t3
                go_wp2
                go_ret
                exact ⟨by first | rfl | (simp; done), HB9.out⟩
            · have t3 : (r1 != 0) = true := by simpa using hr
              have hst : st1 = st := by
                rcases HST.out with ⟨_, h⟩ | ⟨h, _⟩
                · exact h
                · simp [hr] at h
              have HE7 := Lib.hid (show st1.ver = ver by rw [hst]; exact HVer.out.symm)
              have t4 : ((ver : Int) == (ver : Int)) = true := by simp
              have t5 : (ver == ver) = true := by simp
              clear hst hr
              go_wp2_with fail
              refine (version_l HL7.out.at_).mono ?_
              rintro e x8 ⟨rfl, hb8⟩
              have HB9 := Lib.hid (HBb.out.trans ((HL7.out.keep hb8).bel.mono HBb.out.size))
              clear hb8
              simp only
              rw [HE7.out]
              go_wp2
              go_ret
              exact ⟨by first | rfl | (simp; done), HB9.out⟩
    · have OwnE := Lib.hid ownE
      clear ownE
      simp only [lxC, laC]
      go_simp
      obtain ⟨wb2, hwb2⟩ : ∃ z, z = wa.alloc (.cells (lxC xa ++ lxC xb).toArray 49) := ⟨_, rfl⟩
      have elsB : Els lxC 7 wb2 wb2.heap.size (some ⟨wa.heap.size, 0, none⟩) [xa, xb] := by rw [hwb2]; exact els_blk lxC_len (heap_alloc_new wa _) (fun j v hj => by simpa [List.flatMap_cons] using hj)
      have hBb : Below u2.heap.size u2 wb2 := by rw [hwb2]; exact hBa.alloc hBa.size _
      have swb2 : wa.heap.size < wb2.heap.size := by rw [hwb2]; simp
      have bwb2 : Below wa.heap.size wa wb2 := by rw [hwb2]; exact (Below.refl _ _).alloc (Nat.le_refl _) _
      have hSb : (fun w' : World => w'.cell? ⟨K0, 0, none⟩ = some (.slice a0 m c0) ∧ CellsAt w' K1 0 (lxC xa) ∧ CellsAt w' K2 0 (lxC xb)) wb2 := ⟨(bwb2.cell (p := ⟨K0, 0, none⟩) (show K0 < _ by omega)).trans hSa.1, CellsAt.keep hSa.2.1 (by omega) bwb2, CellsAt.keep hSa.2.2 (by omega) bwb2⟩
      simp only [lxC, laC, List.cons_append, List.nil_append] at hwb2
      rw [← hwb2]
      refine hK.out _ _ hSb ?_
      clear hK K hwb2
      try simp only [Act.put, List.setIfInBounds_toArray, List.set_cons_zero, List.set_cons_succ]
      have ownE := own_keep OwnE.out bwb2
      refine held_one 4 rfl (by kernel_rfl) (by rfl) (fun K hK => ?_)
      simp only [Go.wp_at_zero, Go.wp_at_succ]
      refine wp_append_els (C := lxC) (k := 7) _ _ _ 26 rfl u2.heap.size 49 i0 _ 72 Tryz.underlying26 hi hz0 hz1 hz2 rfl (by decide) (.slice (some ⟨wd.heap.size, 0, none⟩) 0 0) 0 [] rfl ownE u2.heap.size a2 c2 n L2 rfl (HE2.out.keep (hBb) (Nat.le_refl _)) HL2.out lxC_len lxC_one (by unfold maxLen; omega) (by omega) (by omega) ?_
      intro A5 c5 wc own5 gwc kwc
      rw [Nat.zero_add] at own5 ⊢
      rw [List.nil_append] at own5
      have hob : ∀ j, (Value.slice (some ⟨wd.heap.size, 0, none⟩) 0 0).ownBlock = some j → j = wd.heap.size := fun j hj => by simpa [Value.ownBlock] using hj.symm
      have hBc : Below u2.heap.size u2 wc := hBb.grown gwc (by omega) (fun j hj => by have := hob j hj; omega)
      have swc := gwc.size
      have hSc : (fun w' : World => w'.cell? ⟨K0, 0, none⟩ = some (.slice a0 m c0) ∧ CellsAt w' K1 0 (lxC xa) ∧ CellsAt w' K2 0 (lxC xb)) wc := ⟨(gwc.cell_far ⟨K0, 0, none⟩ (show K0 < wb2.heap.size by omega) (fun e => by have := hob K0 e.symm; omega)).trans hSb.1, CellsAt.of hSb.2.1 (gwc.block K1 (by omega) (fun e => by have := hob K1 e.symm; omega)), CellsAt.of hSb.2.2 (gwc.block K2 (by omega) (fun e => by have := hob K2 e.symm; omega))⟩
      have elsB : Els lxC 7 wc wc.heap.size (some ⟨wa.heap.size, 0, none⟩) [xa, xb] := (elsB.off (w' := wc) fun b2 o2 e2 hb2 => gwc.block b2 hb2 (fun e => by have := hob b2 e.symm; injection e2 with e2; injection e2 with e2; omega)).imp swc fun _ _ _ _ hd => hd
      refine hK.out _ _ hSc ?_
      clear hK K
      try simp only [Act.put, List.setIfInBounds_toArray, List.set_cons_zero, List.set_cons_succ]
      refine held_one 8 rfl (by kernel_rfl) (by rfl) (fun K hK => ?_)
      simp only [Go.wp_at_zero, Go.wp_at_succ]
      refine wp_append_els (C := lxC) (k := 7) _ _ _ 26 rfl u2.heap.size 49 i0 _ 72 Tryz.underlying26 hi hz0 hz1 hz2 rfl (by decide) (.slice A5 n c5) n _ rfl own5 _ (some ⟨wa.heap.size, 0, none⟩) 2 2 [xa, xb] rfl elsB rfl lxC_len lxC_one (by unfold maxLen; omega) (by omega) (by omega) ?_
      intro A7 c7 w7 own7 g7 k7
      have hob5 : ∀ j, (Value.slice A5 n c5).ownBlock = some j → u2.heap.size ≤ j := fun j hj => (own5.lt j hj).1
      have hB7 : Below u2.heap.size u2 w7 := hBc.grown g7 (by omega) (fun j hj => by have := hob5 j hj; omega)
      have hS7 : (fun w' : World => w'.cell? ⟨K0, 0, none⟩ = some (.slice a0 m c0) ∧ CellsAt w' K1 0 (lxC xa) ∧ CellsAt w' K2 0 (lxC xb)) w7 := ⟨(g7.cell_far ⟨K0, 0, none⟩ (show K0 < wc.heap.size by omega) (fun e => by have := hob5 K0 e.symm; omega)).trans hSc.1, CellsAt.of hSc.2.1 (g7.block K1 (by omega) (fun e => by have := hob5 K1 e.symm; omega)), CellsAt.of hSc.2.2 (g7.block K2 (by omega) (fun e => by have := hob5 K2 e.symm; omega))⟩
      refine hK.out _ _ hS7 ?_
      clear hK K
      try simp only [Act.put, List.setIfInBounds_toArray, List.set_cons_zero, List.set_cons_succ]
      have hFW := HFew.out w7 hB7 A7 c7 own7
      clear own7 own5 g7 k7 hob5
      try clear elsB
      try clear ownE
      try clear gwb2
      try clear kwb2
      try clear gwc
      try clear kwc
      try clear hob
      try clear hSc
      try clear hSb
      try clear hSa
      try clear hBc
      try clear hBb
      try clear hBa
      try clear bwa
      try clear bwb2
      try clear bwc
      try clear swa
      try clear swb2
      try clear swc
      refine held_one 9 rfl (by kernel_rfl) (by rfl) (fun K hK => ?_)
      go_simp
      go_at_call 8
      refine hFW.mono ?_
      rintro e w8 ⟨rfl, hb8⟩
      have hS8 : (fun w' : World => w'.cell? ⟨K0, 0, none⟩ = some (.slice a0 m c0) ∧ CellsAt w' K1 0 (lxC xa) ∧ CellsAt w' K2 0 (lxC xb)) w8 := ⟨(hb8.cell (p := ⟨K0, 0, none⟩) (show K0 < _ by have := hB7.size; omega)).trans hS7.1, CellsAt.keep hS7.2.1 (by have := hB7.size; omega) hb8, CellsAt.keep hS7.2.2 (by have := hB7.size; omega) hb8⟩
      have hB8 := Lib.hid (below_step hB7 hb8)
      refine hK.out _ _ hS8 ?_
      clear hK K hS7 hB7 hb8 hFW
      try simp only [Act.put, List.setIfInBounds_toArray, List.set_cons_zero, List.set_cons_succ]
      refine held_take (v := ?_) 10 29 rfl rfl (by kernel_rfl) (by kernel_rfl) (by kernel_rfl) (fun _ _ _ h => h) ⟨by rfl, ?_⟩ hS8 ?_
      rotate_left
      · intro w' _; go_simp; (try with_reducible rfl)
      simp only [Act.put, List.setIfInBounds_toArray, List.set_cons_zero, List.set_cons_succ]
      refine wpAnyH_done (by kernel_rfl) ?_ _
      have HB8 := Lib.hid (Hb2.out.trans (hB8.out.mono Hb2.out.size))
      have HW8 := Lib.hid (HBb.out.trans (HB8.out.mono HBb.out.size))
      have hk8 := hS8.1
      have HV8 := HV
      obtain ⟨fb, hfb⟩ : ∃ b, b = few8 n0 l1 (l2 ++ [xa.a, xb.a]) := ⟨_, rfl⟩
      rw [← hfb]
      have HFB := Lib.hid hfb
      clear hS8 hB8 hfb HFew HE2 HL2 hB0 hS0 sd
      cases fb
      · go_wp2
        go_ret
        exact ⟨by first | rfl | (simp; done), HW8.out⟩
      · have hff := HFB.out
        obtain ⟨hcq, hq0, hn60⟩ : cluOk n0 = true ∧ quotasOk l1 = true ∧ n ≤ 60 := by
          have h1 := hff.symm
          unfold few8 at h1
          simp only [Bool.and_eq_true] at h1
          obtain ⟨⟨h1, h2⟩, h3⟩ := h1
          unfold fewLs at h3
          simp only [Bool.and_eq_true, decide_eq_true_eq, List.length_append] at h3
          exact ⟨h1, h2, by rw [← HV8.out.2.2.2.1]; omega⟩
        have hN : Hid (Calls Tryz.prog 9 #[.agg #[.slice a0 m c0], .slice a1 k1 c1] w8 fun e w' => ∃ p F, e = .returned (.tuple #[.pointer (some ⟨p, 0, none⟩), .int .i64 0]) ∧ LIn wb w' p F (frees n0) (LM.init n0 l1)) := Lib.hid (by
          obtain ⟨w0, v1, _, _, hm, hk1, _⟩ := HV8.out
          have hl := lnew_l a0 a1 c0 c1 n0 l1 w8 (Nodes.keep w0 HW8.out HW8.out.size) (v1.keep HW8.out HW8.out.size)
          rw [hm, hk1] at hl
          refine hl.mono fun e w' (hl : LNew n0 l1 w8 e w') => ?_
          rcases hl.2 with ⟨h2 | h2, _⟩ | ⟨_, _, p, F, he, ho, hF⟩
          · rw [hcq] at h2; cases h2
          · rw [hq0] at h2; cases h2
          · exact ⟨p, F, he, .made HB8.out ho hF hl.1⟩)
        have hver0 : (LM.init n0 l1).ver = 0 := rfl
        obtain ⟨st0, hst0⟩ : ∃ st, st = LM.init n0 l1 := ⟨_, rfl⟩
        obtain ⟨fs, hfs⟩ : ∃ fs, fs = frees n0 := ⟨_, rfl⟩
        rw [← hst0] at hver0 hN
        rw [← hfs] at hN
        clear hst0 hfs hff hcq hq0
        go_wp2_with fail
        refine hN.out.mono ?_
        rintro e u4 ⟨p, F4, rfl, hl4⟩
        have HL4 := Lib.hid hl4
        have hver0' := Lib.hid hver0
        clear hl4 hN hk8 hver0
        go_wp2
        go_loopw [13] (fun i wr => ∃ k : Nat, i = .int .i64 k ∧ k ≤ n ∧ Hid (∃ F st, LIn wb wr p F fs st ∧ st.ver ≤ k)) (fun i _ => n - (intOf i).toNat)
        case atStart => exact ⟨0, rfl, by omega, Lib.hid ⟨F4, st0, HL4.out, by have := hver0'.out; omega⟩⟩
        case round =>
          clear HL4 hver0'
          obtain ⟨k, rfl, hk, hW⟩ := hrel
          by_cases hlt : k < n
          · obtain ⟨F, st, hL, hv⟩ := hW.out
            obtain ⟨_, _, v2, hn, _, _, q2, _⟩ := HV8.out
            have v2 := v2.up HBb.out HBb.out.size
            obtain ⟨a, hx⟩ := get_lt (l := l2) (k := k) (by rw [hn]; exact hlt)
            have ha := q2 a (List.mem_of_getElem? hx)
            obtain ⟨b, off, rfl, hb, hcw⟩ := v2.at_ hx
            obtain ⟨A, c, hcells, hsl⟩ := hcw k a hx
            have hv2 : st.ver ≤ 100000 := by omega
            have hvk := LM.act_ver fs st a
            have hc4 := fun j u hj => (hL.bel.cell (p := ⟨b, off + k * 7 + j, none⟩) hb).trans (hcells j u hj)
            have HD := Lib.hid (do_l A c a hL.at_ hv2 ha (Slots.keep hsl hL.bel hL.bel.size) (hsl.old hL.hF))
            have HK := Lib.hid (And.intro hv hvk)
            have HLo := Lib.hid hL
            obtain ⟨T, hT⟩ : ∃ T, T = LM.act fs st a := ⟨_, rfl⟩
            rw [← hT] at HD HK
            obtain ⟨ak, aid, aq, aun, anow, aold, asl⟩ := a
            simp only [laC] at HD
            have y0 := hc4 0 _ rfl
            rw [Nat.add_zero] at y0
            have y1 := hc4 1 _ rfl
            have y2 := hc4 2 _ rfl
            have y3 := hc4 3 _ rfl
            have y4 := hc4 4 _ rfl
            have y5 := hc4 5 _ rfl
            have y6 := hc4 6 _ rfl
            simp only at y0 y1 y2 y3 y4 y5 y6
            have j1 : (k : Int) < (n : Int) := by omega
            have t1 : decide (k < n) = true := decide_eq_true hlt
            clear hT hx hcw hcells hsl ha v2 q2 hn hL hv hv2 hvk hW hc4
            go_wp2_with fail
            refine HD.out.mono ?_
            rintro e x5 ⟨v, rfl, _, F5, s1, s2, s3⟩
            have HL5 := Lib.hid (HLo.out.step s1 s2 s3)
            clear s1 s2 s3 HD HLo y0 y1 y2 y3 y4 y5 y6
            go_wp2
            go_roundw
            case rel => exact ⟨k + 1, by go_num, by omega, Lib.hid ⟨F5, _, HL5.out, by have := HK.out.2; have := HK.out.1; omega⟩⟩
            case measure => simp [intOf]; omega
          · obtain rfl : k = n := by omega
            have t1 : decide (k < k) = false := decide_eq_false (by omega)
            obtain ⟨F, st, hL, hv⟩ := hW.out
            have HLo := Lib.hid hL
            have HK := Lib.hid hv
            clear hW hL hv hlt
            go_wp2_with fail
            refine (version_l HLo.out.at_).mono ?_
            rintro e x6 ⟨rfl, hb6⟩
            have HL6 := Lib.hid (HLo.out.keep hb6)
            clear hb6 HLo
            obtain ⟨ver, hver⟩ : ∃ v, v = st.ver := ⟨_, rfl⟩
            rw [← hver]
            obtain ⟨fxa, gxa, fxb, gxb, _⟩ := HV8.out.2.2.2.2.2.2.2
            have fxa := Slots.keep fxa HBb.out HBb.out.size
            have fxb := Slots.keep fxb HBb.out HBb.out.size
            have hvb : ver ≤ 60 := by have := HK.out; omega
            have HR1 := Lib.hid (reserve_l xa.a.id xa.a.q xa.a.un (ver : Int) xa.A xa.c xa.a.sl HL6.out.at_ (by omega) gxa.id gxa.q gxa.un gxa.sl (Slots.keep fxa HL6.out.bel HL6.out.bel.size) (fxa.old HL6.out.hF))
            have HST := Lib.hid (LM.reserve_steps fs st xa.a.id xa.a.q xa.a.un (ver : Int) xa.a.sl)
            have HFD := Lib.hid (fun h => LM.reserve_found (fs := fs) (st := st) (id := xa.a.id) (q := xa.a.q) (un := xa.a.un) (ver := (ver : Int)) (sl := xa.a.sl) HL6.out.at_.ok.1.asc h)
            obtain ⟨R1, hR1⟩ : ∃ R, R = LM.reserve fs st xa.a.id xa.a.q xa.a.un (ver : Int) xa.a.sl := ⟨_, rfl⟩
            rw [← hR1] at HR1 HST HFD
            obtain ⟨r1, st1⟩ := R1
            have HVer := Lib.hid hver
            have HG := Lib.hid (And.intro fxb gxb)
            have HE6 := Lib.hid (show CellsAt x6 K1 0 (lxC xa) ∧ CellsAt x6 K2 0 (lxC xb) ∧ K1 < wb.heap.size ∧ K2 < wb.heap.size from ⟨(lx_box HE.out.2.1).keep (blk_lt HE.out.2.1) HL6.out.bel, (lx_box HE.out.2.2).keep (blk_lt HE.out.2.2) HL6.out.bel, blk_lt HE.out.2.1, blk_lt HE.out.2.2⟩)
            have y1 : x6.cell? ⟨K1, 1, none⟩ = some (.int .i64 xa.a.id) := HE6.out.1 1 _ rfl
            have y2 : x6.cell? ⟨K1, 2, none⟩ = some (.int .i64 xa.a.q) := HE6.out.1 2 _ rfl
            have y3 : x6.cell? ⟨K1, 3, none⟩ = some (.int .i64 xa.a.un) := HE6.out.1 3 _ rfl
            have y6 : x6.cell? ⟨K1, 6, none⟩ = some (.slice xa.A xa.a.sl.length xa.c) := HE6.out.1 6 _ rfl
            clear hR1 hver fxa gxa fxb gxb
            go_wp2_with fail
            refine HR1.out.mono ?_
            rintro e x7 ⟨rfl, F7, s1, s2, s3⟩
            have HL7 := Lib.hid (HL6.out.step s1 s2 s3)
            clear s1 s2 s3 HR1 y1 y2 y3 y6
            by_cases hr : r1 = 0
            · subst hr
              have hfd := HFD.out rfl
              have hst1 : st1.ver = ver + 1 := by have := hfd.2; have := HVer.out; simp only at *; omega
              have HR2 := Lib.hid (reserve_l xb.a.id xb.a.q xb.a.un (ver : Int) xb.A xb.c xb.a.sl HL7.out.at_ (by omega) HG.out.2.id HG.out.2.q HG.out.2.un HG.out.2.sl (Slots.keep HG.out.1 HL7.out.bel HL7.out.bel.size) (HG.out.1.old HL7.out.hF))
              rw [LM.reserve_lost fs st1 xb.a.id xb.a.q xb.a.un (ver : Int) xb.a.sl (by omega)] at HR2
              have z1 : x7.cell? ⟨K2, 1, none⟩ = some (.int .i64 xb.a.id) := (lx_box HE.out.2.2).keep HE6.out.2.2.2 HL7.out.bel 1 _ rfl
              have z2 : x7.cell? ⟨K2, 2, none⟩ = some (.int .i64 xb.a.q) := (lx_box HE.out.2.2).keep HE6.out.2.2.2 HL7.out.bel 2 _ rfl
              have z3 : x7.cell? ⟨K2, 3, none⟩ = some (.int .i64 xb.a.un) := (lx_box HE.out.2.2).keep HE6.out.2.2.2 HL7.out.bel 3 _ rfl
              have z6 : x7.cell? ⟨K2, 6, none⟩ = some (.slice xb.A xb.a.sl.length xb.c) := (lx_box HE.out.2.2).keep HE6.out.2.2.2 HL7.out.bel 6 _ rfl
              have HF2 := Lib.hid (And.intro hfd.1 hst1)
              clear hfd hst1
              go_wp2_with fail
              refine HR2.out.mono ?_
              rintro e x8 ⟨rfl, F8, s1, s2, s3⟩
              have HL8 := Lib.hid (HL7.out.step s1 s2 s3)
              clear s1 s2 s3 HR2 z1 z2 z3 z6
              have HR3 := Lib.hid (reserve_l xb.a.id xb.a.q xb.a.un (st1.ver : Int) xb.A xb.c xb.a.sl HL8.out.at_ (by have := HF2.out.2; omega) HG.out.2.id HG.out.2.q HG.out.2.un HG.out.2.sl (Slots.keep HG.out.1 HL8.out.bel HL8.out.bel.size) (HG.out.1.old HL8.out.hF))
              have hT := LM.reserve_told fs st1 xb.a.id xb.a.q xb.a.un xb.a.sl
              have hTw := fun h => LM.reserve_twice fs st1 xb.a.id xb.a.q xb.a.un xb.a.sl h
              have hfd := HF2.out.1
              (try simp only at hfd HR3)
              rw [HF2.out.2] at HR3 hT hTw
              obtain ⟨r3, hr3⟩ : ∃ r, r = (LM.reserve fs st1 xb.a.id xb.a.q xb.a.un ((ver + 1 : Nat) : Int) xb.a.sl).1 := ⟨_, rfl⟩
              rw [← hr3] at HR3 hT hTw
              have hcase : xb.a.id ≠ xa.a.id ∨ (xb.a.id = xa.a.id ∧ r3 = 4) ∨ (xb.a.id = xa.a.id ∧ r3 = 1) := by
                by_cases e : xb.a.id = xa.a.id
                · right
                  have := hTw (by rw [e]; exact hfd)
                  rcases this with h | h
                  · exact .inl ⟨e, h⟩
                  · exact .inr ⟨e, h⟩
                · exact .inl e
              have HT := Lib.hid hT
              have z1 : x8.cell? ⟨K2, 1, none⟩ = some (.int .i64 xb.a.id) := (lx_box HE.out.2.2).keep HE6.out.2.2.2 HL8.out.bel 1 _ rfl
              have z2 : x8.cell? ⟨K2, 2, none⟩ = some (.int .i64 xb.a.q) := (lx_box HE.out.2.2).keep HE6.out.2.2.2 HL8.out.bel 2 _ rfl
              have z3 : x8.cell? ⟨K2, 3, none⟩ = some (.int .i64 xb.a.un) := (lx_box HE.out.2.2).keep HE6.out.2.2.2 HL8.out.bel 3 _ rfl
              have z6 : x8.cell? ⟨K2, 6, none⟩ = some (.slice xb.A xb.a.sl.length xb.c) := (lx_box HE.out.2.2).keep HE6.out.2.2.2 HL8.out.bel 6 _ rfl
              have ev : ((ver + 1 : Nat) : Int) = (ver : Int) + 1 := by omega
              rw [ev] at HR3
              clear hr3 hT hTw hfd ev
              go_wp2_with fail
              refine HR3.out.mono ?_
              rintro e x9 ⟨rfl, F9, s1, s2, s3⟩
              have HL9 := Lib.hid (HL8.out.step s1 s2 s3)
              clear s1 s2 s3 HR3 z1 z2 z3 z6
              have z1 : x9.cell? ⟨K2, 1, none⟩ = some (.int .i64 xb.a.id) := (lx_box HE.out.2.2).keep HE6.out.2.2.2 HL9.out.bel 1 _ rfl
              have y1 : x9.cell? ⟨K1, 1, none⟩ = some (.int .i64 xa.a.id) := (lx_box HE.out.2.1).keep HE6.out.2.2.1 HL9.out.bel 1 _ rfl
              have t3 : (r3 != 13) = true := by have := HT.out; simp; omega
              have HB9 := Lib.hid (HBb.out.trans (HL9.out.bel.mono HBb.out.size))
              rcases hcase with e | ⟨e, rfl⟩ | ⟨e, rfl⟩
              · have t4 : (xb.a.id != xa.a.id) = true := by simpa using e
                clear e
                go_wp2
                go_ret
                exact ⟨by first | rfl | (simp; done), HB9.out⟩
              · have t4 : (xb.a.id != xa.a.id) = false := by simpa using e
                clear e t3
                go_wp2
                go_ret
                exact ⟨by first | rfl | (simp; done), HB9.out⟩
              · have t4 : (xb.a.id != xa.a.id) = false := by simpa using e
                clear e t3
                go_wp2
                go_ret
                exact ⟨by first | rfl | (simp; done), HB9.out⟩
            · have t3 : (r1 != 0) = true := by simpa using hr
              have hst : st1 = st := by
                rcases HST.out with ⟨_, h⟩ | ⟨h, _⟩
                · exact h
                · simp [hr] at h
              have HE7 := Lib.hid (show st1.ver = ver by rw [hst]; exact HVer.out.symm)
              have t4 : ((ver : Int) == (ver : Int)) = true := by simp
              have t5 : (ver == ver) = true := by simp
              clear hst hr
              go_wp2_with fail
              refine (version_l HL7.out.at_).mono ?_
              rintro e x8 ⟨rfl, hb8⟩
              have HB9 := Lib.hid (HBb.out.trans ((HL7.out.keep hb8).bel.mono HBb.out.size))
              clear hb8
              simp only
              rw [HE7.out]
              go_wp2
              go_ret
              exact ⟨by first | rfl | (simp; done), HB9.out⟩

  · simp only [lxC, laC]
    go_simp
    obtain ⟨wa, hwa⟩ : ∃ z, z = wd.alloc (.cells (lxC xa ++ lxC xb).toArray 49) := ⟨_, rfl⟩
    have elsB : Els lxC 7 wa wa.heap.size (some ⟨wd.heap.size, 0, none⟩) [xa, xb] := by rw [hwa]; exact els_blk lxC_len (heap_alloc_new wd _) (fun j v hj => by simpa [List.flatMap_cons] using hj)
    have hBa : Below u2.heap.size u2 wa := by rw [hwa]; exact hB0.alloc hB0.size _
    have swa : wd.heap.size < wa.heap.size := by rw [hwa]; simp
    have bwa : Below wd.heap.size wd wa := by rw [hwa]; exact (Below.refl _ _).alloc (Nat.le_refl _) _
    have hSa : (fun w' : World => w'.cell? ⟨K0, 0, none⟩ = some (.slice a0 m c0) ∧ CellsAt w' K1 0 (lxC xa) ∧ CellsAt w' K2 0 (lxC xb)) wa := ⟨(bwa.cell (p := ⟨K0, 0, none⟩) (show K0 < _ by omega)).trans hS0.1, CellsAt.keep hS0.2.1 (by omega) bwa, CellsAt.keep hS0.2.2 (by omega) bwa⟩
    simp only [lxC, laC, List.cons_append, List.nil_append] at hwa
    rw [← hwa]
    refine hK.out _ _ hSa ?_
    clear hK K hwa
    try simp only [Act.put, List.setIfInBounds_toArray, List.set_cons_zero, List.set_cons_succ]
    have ElsB := Lib.hid elsB
    clear elsB
    refine held_one 2 rfl (by kernel_rfl) (by rfl) (fun K hK => ?_)
    go_simp
    obtain ⟨wb2, hwb2⟩ : ∃ x, x = wa.alloc (.cells #[] 49) := ⟨_, rfl⟩
    have ownE : wb2.ownsRow u2.heap.size 49 7 (.slice (some ⟨wa.heap.size, 0, none⟩) 0 0) 0 [] := by rw [hwb2]; exact World.ownsRow_lit wa #[] 0 (by omega) (by unfold maxLen; omega) rfl
    have hBb : Below u2.heap.size u2 wb2 := by rw [hwb2]; exact hBa.alloc hBa.size _
    have swb2 : wa.heap.size < wb2.heap.size := by rw [hwb2]; simp
    have bwb2 : Below wa.heap.size wa wb2 := by rw [hwb2]; exact (Below.refl _ _).alloc (Nat.le_refl _) _
    have hSb : (fun w' : World => w'.cell? ⟨K0, 0, none⟩ = some (.slice a0 m c0) ∧ CellsAt w' K1 0 (lxC xa) ∧ CellsAt w' K2 0 (lxC xb)) wb2 := ⟨(bwb2.cell (p := ⟨K0, 0, none⟩) (show K0 < _ by omega)).trans hSa.1, CellsAt.keep hSa.2.1 (by omega) bwb2, CellsAt.keep hSa.2.2 (by omega) bwb2⟩
    rw [← hwb2]
    refine hK.out _ _ hSb ?_
    clear hK K hwb2
    try simp only [Act.put, List.setIfInBounds_toArray, List.set_cons_zero, List.set_cons_succ]
    have elsB : Els lxC 7 wb2 wb2.heap.size (some ⟨wd.heap.size, 0, none⟩) [xa, xb] := ElsB.out.keep bwb2 (by omega)
    refine held_one 4 rfl (by kernel_rfl) (by rfl) (fun K hK => ?_)
    simp only [Go.wp_at_zero, Go.wp_at_succ]
    refine wp_append_els (C := lxC) (k := 7) _ _ _ 26 rfl u2.heap.size 49 i0 _ 72 Tryz.underlying26 hi hz0 hz1 hz2 rfl (by decide) (.slice (some ⟨wa.heap.size, 0, none⟩) 0 0) 0 [] rfl ownE u2.heap.size a2 c2 n L2 rfl (HE2.out.keep (hBb) (Nat.le_refl _)) HL2.out lxC_len lxC_one (by unfold maxLen; omega) (by omega) (by omega) ?_
    intro A5 c5 wc own5 gwc kwc
    rw [Nat.zero_add] at own5 ⊢
    rw [List.nil_append] at own5
    have hob : ∀ j, (Value.slice (some ⟨wa.heap.size, 0, none⟩) 0 0).ownBlock = some j → j = wa.heap.size := fun j hj => by simpa [Value.ownBlock] using hj.symm
    have hBc : Below u2.heap.size u2 wc := hBb.grown gwc (by omega) (fun j hj => by have := hob j hj; omega)
    have swc := gwc.size
    have hSc : (fun w' : World => w'.cell? ⟨K0, 0, none⟩ = some (.slice a0 m c0) ∧ CellsAt w' K1 0 (lxC xa) ∧ CellsAt w' K2 0 (lxC xb)) wc := ⟨(gwc.cell_far ⟨K0, 0, none⟩ (show K0 < wb2.heap.size by omega) (fun e => by have := hob K0 e.symm; omega)).trans hSb.1, CellsAt.of hSb.2.1 (gwc.block K1 (by omega) (fun e => by have := hob K1 e.symm; omega)), CellsAt.of hSb.2.2 (gwc.block K2 (by omega) (fun e => by have := hob K2 e.symm; omega))⟩
    have elsB : Els lxC 7 wc wc.heap.size (some ⟨wd.heap.size, 0, none⟩) [xa, xb] := (elsB.off (w' := wc) fun b2 o2 e2 hb2 => gwc.block b2 hb2 (fun e => by have := hob b2 e.symm; injection e2 with e2; injection e2 with e2; omega)).imp swc fun _ _ _ _ hd => hd
    refine hK.out _ _ hSc ?_
    clear hK K
    try simp only [Act.put, List.setIfInBounds_toArray, List.set_cons_zero, List.set_cons_succ]
    refine held_one 8 rfl (by kernel_rfl) (by rfl) (fun K hK => ?_)
    simp only [Go.wp_at_zero, Go.wp_at_succ]
    refine wp_append_els (C := lxC) (k := 7) _ _ _ 26 rfl u2.heap.size 49 i0 _ 72 Tryz.underlying26 hi hz0 hz1 hz2 rfl (by decide) (.slice A5 n c5) n _ rfl own5 _ (some ⟨wd.heap.size, 0, none⟩) 2 2 [xa, xb] rfl elsB rfl lxC_len lxC_one (by unfold maxLen; omega) (by omega) (by omega) ?_
    intro A7 c7 w7 own7 g7 k7
    have hob5 : ∀ j, (Value.slice A5 n c5).ownBlock = some j → u2.heap.size ≤ j := fun j hj => (own5.lt j hj).1
    have hB7 : Below u2.heap.size u2 w7 := hBc.grown g7 (by omega) (fun j hj => by have := hob5 j hj; omega)
    have hS7 : (fun w' : World => w'.cell? ⟨K0, 0, none⟩ = some (.slice a0 m c0) ∧ CellsAt w' K1 0 (lxC xa) ∧ CellsAt w' K2 0 (lxC xb)) w7 := ⟨(g7.cell_far ⟨K0, 0, none⟩ (show K0 < wc.heap.size by omega) (fun e => by have := hob5 K0 e.symm; omega)).trans hSc.1, CellsAt.of hSc.2.1 (g7.block K1 (by omega) (fun e => by have := hob5 K1 e.symm; omega)), CellsAt.of hSc.2.2 (g7.block K2 (by omega) (fun e => by have := hob5 K2 e.symm; omega))⟩
    refine hK.out _ _ hS7 ?_
    clear hK K
    try simp only [Act.put, List.setIfInBounds_toArray, List.set_cons_zero, List.set_cons_succ]
    have hFW := HFew.out w7 hB7 A7 c7 own7
    clear own7 own5 g7 k7 hob5
    try clear elsB
    try clear ownE
    try clear gwb2
    try clear kwb2
    try clear gwc
    try clear kwc
    try clear hob
    try clear hSc
    try clear hSb
    try clear hSa
    try clear hBc
    try clear hBb
    try clear hBa
    try clear bwa
    try clear bwb2
    try clear bwc
    try clear swa
    try clear swb2
    try clear swc
    refine held_one 9 rfl (by kernel_rfl) (by rfl) (fun K hK => ?_)
    go_simp
    go_at_call 8
    refine hFW.mono ?_
    rintro e w8 ⟨rfl, hb8⟩
    have hS8 : (fun w' : World => w'.cell? ⟨K0, 0, none⟩ = some (.slice a0 m c0) ∧ CellsAt w' K1 0 (lxC xa) ∧ CellsAt w' K2 0 (lxC xb)) w8 := ⟨(hb8.cell (p := ⟨K0, 0, none⟩) (show K0 < _ by have := hB7.size; omega)).trans hS7.1, CellsAt.keep hS7.2.1 (by have := hB7.size; omega) hb8, CellsAt.keep hS7.2.2 (by have := hB7.size; omega) hb8⟩
    have hB8 := Lib.hid (below_step hB7 hb8)
    refine hK.out _ _ hS8 ?_
    clear hK K hS7 hB7 hb8 hFW
    try simp only [Act.put, List.setIfInBounds_toArray, List.set_cons_zero, List.set_cons_succ]
    refine held_take (v := ?_) 10 29 rfl rfl (by kernel_rfl) (by kernel_rfl) (by kernel_rfl) (fun _ _ _ h => h) ⟨by rfl, ?_⟩ hS8 ?_
    rotate_left
    · intro w' _; go_simp; (try with_reducible rfl)
    simp only [Act.put, List.setIfInBounds_toArray, List.set_cons_zero, List.set_cons_succ]
    refine wpAnyH_done (by kernel_rfl) ?_ _
    have HB8 := Lib.hid (Hb2.out.trans (hB8.out.mono Hb2.out.size))
    have HW8 := Lib.hid (HBb.out.trans (HB8.out.mono HBb.out.size))
    have hk8 := hS8.1
    have HV8 := HV
    obtain ⟨fb, hfb⟩ : ∃ b, b = few8 n0 l1 (l2 ++ [xa.a, xb.a]) := ⟨_, rfl⟩
    rw [← hfb]
    have HFB := Lib.hid hfb
    clear hS8 hB8 hfb HFew HE2 HL2 hB0 hS0 sd
    cases fb
    · go_wp2
      go_ret
      exact ⟨by first | rfl | (simp; done), HW8.out⟩
    · have hff := HFB.out
      obtain ⟨hcq, hq0, hn60⟩ : cluOk n0 = true ∧ quotasOk l1 = true ∧ n ≤ 60 := by
        have h1 := hff.symm
        unfold few8 at h1
        simp only [Bool.and_eq_true] at h1
        obtain ⟨⟨h1, h2⟩, h3⟩ := h1
        unfold fewLs at h3
        simp only [Bool.and_eq_true, decide_eq_true_eq, List.length_append] at h3
        exact ⟨h1, h2, by rw [← HV8.out.2.2.2.1]; omega⟩
      have hN : Hid (Calls Tryz.prog 9 #[.agg #[.slice a0 m c0], .slice a1 k1 c1] w8 fun e w' => ∃ p F, e = .returned (.tuple #[.pointer (some ⟨p, 0, none⟩), .int .i64 0]) ∧ LIn wb w' p F (frees n0) (LM.init n0 l1)) := Lib.hid (by
        obtain ⟨w0, v1, _, _, hm, hk1, _⟩ := HV8.out
        have hl := lnew_l a0 a1 c0 c1 n0 l1 w8 (Nodes.keep w0 HW8.out HW8.out.size) (v1.keep HW8.out HW8.out.size)
        rw [hm, hk1] at hl
        refine hl.mono fun e w' (hl : LNew n0 l1 w8 e w') => ?_
        rcases hl.2 with ⟨h2 | h2, _⟩ | ⟨_, _, p, F, he, ho, hF⟩
        · rw [hcq] at h2; cases h2
        · rw [hq0] at h2; cases h2
        · exact ⟨p, F, he, .made HB8.out ho hF hl.1⟩)
      have hver0 : (LM.init n0 l1).ver = 0 := rfl
      obtain ⟨st0, hst0⟩ : ∃ st, st = LM.init n0 l1 := ⟨_, rfl⟩
      obtain ⟨fs, hfs⟩ : ∃ fs, fs = frees n0 := ⟨_, rfl⟩
      rw [← hst0] at hver0 hN
      rw [← hfs] at hN
      clear hst0 hfs hff hcq hq0
      go_wp2_with fail
      refine hN.out.mono ?_
      rintro e u4 ⟨p, F4, rfl, hl4⟩
      have HL4 := Lib.hid hl4
      have hver0' := Lib.hid hver0
      clear hl4 hN hk8 hver0
      go_wp2
      go_loopw [13] (fun i wr => ∃ k : Nat, i = .int .i64 k ∧ k ≤ n ∧ Hid (∃ F st, LIn wb wr p F fs st ∧ st.ver ≤ k)) (fun i _ => n - (intOf i).toNat)
      case atStart => exact ⟨0, rfl, by omega, Lib.hid ⟨F4, st0, HL4.out, by have := hver0'.out; omega⟩⟩
      case round =>
        clear HL4 hver0'
        obtain ⟨k, rfl, hk, hW⟩ := hrel
        by_cases hlt : k < n
        · obtain ⟨F, st, hL, hv⟩ := hW.out
          obtain ⟨_, _, v2, hn, _, _, q2, _⟩ := HV8.out
          have v2 := v2.up HBb.out HBb.out.size
          obtain ⟨a, hx⟩ := get_lt (l := l2) (k := k) (by rw [hn]; exact hlt)
          have ha := q2 a (List.mem_of_getElem? hx)
          obtain ⟨b, off, rfl, hb, hcw⟩ := v2.at_ hx
          obtain ⟨A, c, hcells, hsl⟩ := hcw k a hx
          have hv2 : st.ver ≤ 100000 := by omega
          have hvk := LM.act_ver fs st a
          have hc4 := fun j u hj => (hL.bel.cell (p := ⟨b, off + k * 7 + j, none⟩) hb).trans (hcells j u hj)
          have HD := Lib.hid (do_l A c a hL.at_ hv2 ha (Slots.keep hsl hL.bel hL.bel.size) (hsl.old hL.hF))
          have HK := Lib.hid (And.intro hv hvk)
          have HLo := Lib.hid hL
          obtain ⟨T, hT⟩ : ∃ T, T = LM.act fs st a := ⟨_, rfl⟩
          rw [← hT] at HD HK
          obtain ⟨ak, aid, aq, aun, anow, aold, asl⟩ := a
          simp only [laC] at HD
          have y0 := hc4 0 _ rfl
          rw [Nat.add_zero] at y0
          have y1 := hc4 1 _ rfl
          have y2 := hc4 2 _ rfl
          have y3 := hc4 3 _ rfl
          have y4 := hc4 4 _ rfl
          have y5 := hc4 5 _ rfl
          have y6 := hc4 6 _ rfl
          simp only at y0 y1 y2 y3 y4 y5 y6
          have j1 : (k : Int) < (n : Int) := by omega
          have t1 : decide (k < n) = true := decide_eq_true hlt
          clear hT hx hcw hcells hsl ha v2 q2 hn hL hv hv2 hvk hW hc4
          go_wp2_with fail
          refine HD.out.mono ?_
          rintro e x5 ⟨v, rfl, _, F5, s1, s2, s3⟩
          have HL5 := Lib.hid (HLo.out.step s1 s2 s3)
          clear s1 s2 s3 HD HLo y0 y1 y2 y3 y4 y5 y6
          go_wp2
          go_roundw
          case rel => exact ⟨k + 1, by go_num, by omega, Lib.hid ⟨F5, _, HL5.out, by have := HK.out.2; have := HK.out.1; omega⟩⟩
          case measure => simp [intOf]; omega
        · obtain rfl : k = n := by omega
          have t1 : decide (k < k) = false := decide_eq_false (by omega)
          obtain ⟨F, st, hL, hv⟩ := hW.out
          have HLo := Lib.hid hL
          have HK := Lib.hid hv
          clear hW hL hv hlt
          go_wp2_with fail
          refine (version_l HLo.out.at_).mono ?_
          rintro e x6 ⟨rfl, hb6⟩
          have HL6 := Lib.hid (HLo.out.keep hb6)
          clear hb6 HLo
          obtain ⟨ver, hver⟩ : ∃ v, v = st.ver := ⟨_, rfl⟩
          rw [← hver]
          obtain ⟨fxa, gxa, fxb, gxb, _⟩ := HV8.out.2.2.2.2.2.2.2
          have fxa := Slots.keep fxa HBb.out HBb.out.size
          have fxb := Slots.keep fxb HBb.out HBb.out.size
          have hvb : ver ≤ 60 := by have := HK.out; omega
          have HR1 := Lib.hid (reserve_l xa.a.id xa.a.q xa.a.un (ver : Int) xa.A xa.c xa.a.sl HL6.out.at_ (by omega) gxa.id gxa.q gxa.un gxa.sl (Slots.keep fxa HL6.out.bel HL6.out.bel.size) (fxa.old HL6.out.hF))
          have HST := Lib.hid (LM.reserve_steps fs st xa.a.id xa.a.q xa.a.un (ver : Int) xa.a.sl)
          have HFD := Lib.hid (fun h => LM.reserve_found (fs := fs) (st := st) (id := xa.a.id) (q := xa.a.q) (un := xa.a.un) (ver := (ver : Int)) (sl := xa.a.sl) HL6.out.at_.ok.1.asc h)
          obtain ⟨R1, hR1⟩ : ∃ R, R = LM.reserve fs st xa.a.id xa.a.q xa.a.un (ver : Int) xa.a.sl := ⟨_, rfl⟩
          rw [← hR1] at HR1 HST HFD
          obtain ⟨r1, st1⟩ := R1
          have HVer := Lib.hid hver
          have HG := Lib.hid (And.intro fxb gxb)
          have HE6 := Lib.hid (show CellsAt x6 K1 0 (lxC xa) ∧ CellsAt x6 K2 0 (lxC xb) ∧ K1 < wb.heap.size ∧ K2 < wb.heap.size from ⟨(lx_box HE.out.2.1).keep (blk_lt HE.out.2.1) HL6.out.bel, (lx_box HE.out.2.2).keep (blk_lt HE.out.2.2) HL6.out.bel, blk_lt HE.out.2.1, blk_lt HE.out.2.2⟩)
          have y1 : x6.cell? ⟨K1, 1, none⟩ = some (.int .i64 xa.a.id) := HE6.out.1 1 _ rfl
          have y2 : x6.cell? ⟨K1, 2, none⟩ = some (.int .i64 xa.a.q) := HE6.out.1 2 _ rfl
          have y3 : x6.cell? ⟨K1, 3, none⟩ = some (.int .i64 xa.a.un) := HE6.out.1 3 _ rfl
          have y6 : x6.cell? ⟨K1, 6, none⟩ = some (.slice xa.A xa.a.sl.length xa.c) := HE6.out.1 6 _ rfl
          clear hR1 hver fxa gxa fxb gxb
          go_wp2_with fail
          refine HR1.out.mono ?_
          rintro e x7 ⟨rfl, F7, s1, s2, s3⟩
          have HL7 := Lib.hid (HL6.out.step s1 s2 s3)
          clear s1 s2 s3 HR1 y1 y2 y3 y6
          by_cases hr : r1 = 0
          · subst hr
            have hfd := HFD.out rfl
            have hst1 : st1.ver = ver + 1 := by have := hfd.2; have := HVer.out; simp only at *; omega
            have HR2 := Lib.hid (reserve_l xb.a.id xb.a.q xb.a.un (ver : Int) xb.A xb.c xb.a.sl HL7.out.at_ (by omega) HG.out.2.id HG.out.2.q HG.out.2.un HG.out.2.sl (Slots.keep HG.out.1 HL7.out.bel HL7.out.bel.size) (HG.out.1.old HL7.out.hF))
            rw [LM.reserve_lost fs st1 xb.a.id xb.a.q xb.a.un (ver : Int) xb.a.sl (by omega)] at HR2
            have z1 : x7.cell? ⟨K2, 1, none⟩ = some (.int .i64 xb.a.id) := (lx_box HE.out.2.2).keep HE6.out.2.2.2 HL7.out.bel 1 _ rfl
            have z2 : x7.cell? ⟨K2, 2, none⟩ = some (.int .i64 xb.a.q) := (lx_box HE.out.2.2).keep HE6.out.2.2.2 HL7.out.bel 2 _ rfl
            have z3 : x7.cell? ⟨K2, 3, none⟩ = some (.int .i64 xb.a.un) := (lx_box HE.out.2.2).keep HE6.out.2.2.2 HL7.out.bel 3 _ rfl
            have z6 : x7.cell? ⟨K2, 6, none⟩ = some (.slice xb.A xb.a.sl.length xb.c) := (lx_box HE.out.2.2).keep HE6.out.2.2.2 HL7.out.bel 6 _ rfl
            have HF2 := Lib.hid (And.intro hfd.1 hst1)
            clear hfd hst1
            go_wp2_with fail
            refine HR2.out.mono ?_
            rintro e x8 ⟨rfl, F8, s1, s2, s3⟩
            have HL8 := Lib.hid (HL7.out.step s1 s2 s3)
            clear s1 s2 s3 HR2 z1 z2 z3 z6
            have HR3 := Lib.hid (reserve_l xb.a.id xb.a.q xb.a.un (st1.ver : Int) xb.A xb.c xb.a.sl HL8.out.at_ (by have := HF2.out.2; omega) HG.out.2.id HG.out.2.q HG.out.2.un HG.out.2.sl (Slots.keep HG.out.1 HL8.out.bel HL8.out.bel.size) (HG.out.1.old HL8.out.hF))
            have hT := LM.reserve_told fs st1 xb.a.id xb.a.q xb.a.un xb.a.sl
            have hTw := fun h => LM.reserve_twice fs st1 xb.a.id xb.a.q xb.a.un xb.a.sl h
            have hfd := HF2.out.1
            (try simp only at hfd HR3)
            rw [HF2.out.2] at HR3 hT hTw
            obtain ⟨r3, hr3⟩ : ∃ r, r = (LM.reserve fs st1 xb.a.id xb.a.q xb.a.un ((ver + 1 : Nat) : Int) xb.a.sl).1 := ⟨_, rfl⟩
            rw [← hr3] at HR3 hT hTw
            have hcase : xb.a.id ≠ xa.a.id ∨ (xb.a.id = xa.a.id ∧ r3 = 4) ∨ (xb.a.id = xa.a.id ∧ r3 = 1) := by
              by_cases e : xb.a.id = xa.a.id
              · right
                have := hTw (by rw [e]; exact hfd)
                rcases this with h | h
                · exact .inl ⟨e, h⟩
                · exact .inr ⟨e, h⟩
              · exact .inl e
            have HT := Lib.hid hT
            have z1 : x8.cell? ⟨K2, 1, none⟩ = some (.int .i64 xb.a.id) := (lx_box HE.out.2.2).keep HE6.out.2.2.2 HL8.out.bel 1 _ rfl
            have z2 : x8.cell? ⟨K2, 2, none⟩ = some (.int .i64 xb.a.q) := (lx_box HE.out.2.2).keep HE6.out.2.2.2 HL8.out.bel 2 _ rfl
            have z3 : x8.cell? ⟨K2, 3, none⟩ = some (.int .i64 xb.a.un) := (lx_box HE.out.2.2).keep HE6.out.2.2.2 HL8.out.bel 3 _ rfl
            have z6 : x8.cell? ⟨K2, 6, none⟩ = some (.slice xb.A xb.a.sl.length xb.c) := (lx_box HE.out.2.2).keep HE6.out.2.2.2 HL8.out.bel 6 _ rfl
            have ev : ((ver + 1 : Nat) : Int) = (ver : Int) + 1 := by omega
            rw [ev] at HR3
            clear hr3 hT hTw hfd ev
            go_wp2_with fail
            refine HR3.out.mono ?_
            rintro e x9 ⟨rfl, F9, s1, s2, s3⟩
            have HL9 := Lib.hid (HL8.out.step s1 s2 s3)
            clear s1 s2 s3 HR3 z1 z2 z3 z6
            have z1 : x9.cell? ⟨K2, 1, none⟩ = some (.int .i64 xb.a.id) := (lx_box HE.out.2.2).keep HE6.out.2.2.2 HL9.out.bel 1 _ rfl
            have y1 : x9.cell? ⟨K1, 1, none⟩ = some (.int .i64 xa.a.id) := (lx_box HE.out.2.1).keep HE6.out.2.2.1 HL9.out.bel 1 _ rfl
            have t3 : (r3 != 13) = true := by have := HT.out; simp; omega
            have HB9 := Lib.hid (HBb.out.trans (HL9.out.bel.mono HBb.out.size))
            rcases hcase with e | ⟨e, rfl⟩ | ⟨e, rfl⟩
            · have t4 : (xb.a.id != xa.a.id) = true := by simpa using e
              clear e
              go_wp2
              go_ret
              exact ⟨by first | rfl | (simp; done), HB9.out⟩
            · have t4 : (xb.a.id != xa.a.id) = false := by simpa using e
              clear e t3
              go_wp2
              go_ret
              exact ⟨by first | rfl | (simp; done), HB9.out⟩
            · have t4 : (xb.a.id != xa.a.id) = false := by simpa using e
              clear e t3
              go_wp2
              go_ret
              exact ⟨by first | rfl | (simp; done), HB9.out⟩
          · have t3 : (r1 != 0) = true := by simpa using hr
            have hst : st1 = st := by
              rcases HST.out with ⟨_, h⟩ | ⟨h, _⟩
              · exact h
              · simp [hr] at h
            have HE7 := Lib.hid (show st1.ver = ver by rw [hst]; exact HVer.out.symm)
            have t4 : ((ver : Int) == (ver : Int)) = true := by simp
            have t5 : (ver == ver) = true := by simp
            clear hst hr
            go_wp2_with fail
            refine (version_l HL7.out.at_).mono ?_
            rintro e x8 ⟨rfl, hb8⟩
            have HB9 := Lib.hid (HBb.out.trans ((HL7.out.keep hb8).bel.mono HBb.out.size))
            clear hb8
            simp only
            rw [HE7.out]
            go_wp2
            go_ret
            exact ⟨by first | rfl | (simp; done), HB9.out⟩


set_option maxRecDepth 100000 in
set_option maxHeartbeats 1000000 in
theorem lifted (os : Os) (started : os.Started) (H : Type) (enc : TypeId × Value → H) :
    ReturnsInHanded {} Tryz.checked os 6 .any (Rows.ledgerStaleSpec.pre6 enc Tryz.prog Tryz.f6 Rows.ledgerStaleRow.domain false) (Rows.ledgerStaleSpec.post enc Tryz.prog Tryz.f6 false true false false) := by
  refine returnsInHanded_of_change_sized (C := Tryz.checked) own started (by kernel_rfl) Tryz.func6
    (ChangeSpec.witness6 (enc := enc) (C := Tryz.checked) false ⟨#[], #[.agg #[.slice none 0 0], .slice none 0 0, .slice none 0 0, .agg #[.int .i64 0, .int .i64 0, .int .i64 0, .int .i64 0, .int .i64 0, .int .i64 0, .slice none 0 0], .agg #[.int .i64 0, .int .i64 0, .int .i64 0, .int .i64 0, .int .i64 0, .int .i64 0, .slice none 0 0]], []⟩ 8 (by kernel_rfl) (by kernel_rfl) (by kernel_rfl) (by kernel_rfl)) ?_
  intro W base args ds gs before hval0 hW _ hsz0 _
  have hsz : (DataW.weightsEach Tryz.prog (Tryz.f6.params.toList ++ Rows.ledgerStaleSpec.plain.varTypes Tryz.prog) (ds ++ gs)).all (· ≤ reachBytes) = true := hsz0
  have hval : ∀ (j : Nat) t v, Tryz.f6.params[j]? = some t → args[j]? = some v → Value.okWide Tryz.prog W .any base t v := hval0
  have hW' := hW
  obtain ⟨p, q, hA0, hV, rfl, hfz, hnd⟩ := hW
  have hA : DataW.TrodAll enc Tryz.prog W 0 (fun _ => true) true Tryz.f6.params.toList args.toList ds p := hA0
  rw [Tryz.params6] at hA hval hsz
  obtain ⟨v0, vs0, d0, ds0, p0, q0, hargs, rfl, rfl, h0, r0⟩ := trodAll_cons hA
  obtain ⟨v1, vs1, d1, ds1, p1, q1, rfl, rfl, rfl, h1, r1⟩ := trodAll_cons r0
  obtain ⟨v2, vs2, d2, ds2, p2, q2, rfl, rfl, rfl, h2, r2⟩ := trodAll_cons r1
  obtain ⟨v3, vs3, d3, ds3, p3, q3, rfl, rfl, rfl, h3, r3⟩ := trodAll_cons r2
  obtain ⟨v4, vs4, d4, ds4, p4, q4, rfl, rfl, rfl, h4, r4⟩ := trodAll_cons r3
  obtain ⟨rfl, rfl, rfl⟩ := trodAll_nil r4
  obtain rfl : args = #[v0, v1, v2, v3, v4] := by cases args; simp_all
  obtain ⟨rfl, rfl⟩ := trodVars_none hV
  have k0 := h0
  have lt0 : ∀ x ∈ p0, x.block < W.heap.size := by obtain ⟨m, hm⟩ := k0; exact DataW.trod_lt m _ _ _ hm
  obtain ⟨a0, c0, n0, rfl, lc0, mc0, w0⟩ := clu_of (hval 0 24 v0 rfl rfl) h0
  have k1 := h1
  have lt1 : ∀ x ∈ p1, x.block < W.heap.size := by obtain ⟨m, hm⟩ := k1; exact DataW.trod_lt m _ _ _ hm
  obtain ⟨a1, c1, l1, rfl, lc1, mc1, v1, q1⟩ := uns_of (hval 1 25 v1 rfl rfl) h1
  have k2 := h2
  have lt2 : ∀ x ∈ p2, x.block < W.heap.size := by obtain ⟨m, hm⟩ := k2; exact DataW.trod_lt m _ _ _ hm
  obtain ⟨a2, c2, l2, rfl, lc2, mc2, v2, q2⟩ := las_of (hval 2 26 v2 rfl rfl) h2
  have k3 := h3
  have lt3 : ∀ x ∈ p3, x.block < W.heap.size := by obtain ⟨m, hm⟩ := k3; exact DataW.trod_lt m _ _ _ hm
  obtain ⟨x3, a3, c3, rfl, v3, q3⟩ := la_of (hval 3 49 v3 rfl rfl) h3
  have k4 := h4
  have lt4 : ∀ x ∈ p4, x.block < W.heap.size := by obtain ⟨m, hm⟩ := k4; exact DataW.trod_lt m _ _ _ hm
  obtain ⟨x4, a4, c4, rfl, v4, q4⟩ := la_of (hval 4 49 v4 rfl rfl) h4
  have hreach2 : l2.length * 72 ≤ 140737488351232 := by
    have := slice_reach k2 Tryz.underlying26 hsz (j := 2) rfl rfl
    rwa [show Tryz.prog.bytesOf 49 = 72 by kernel_rfl] at this
  clear hA0 hval0
  refine (walk a0 c0 n0 a1 c1 l1 a2 c2 l2 x3 a3 c3 x4 a4 c4 W w0 lc0 mc0 v1 q1 lc1 mc1 v2 q2 lc2 mc2 v3 q3 v4 q4 hreach2).mono fun e W' ⟨he, bel⟩ => ?_
  subst he
  exact ⟨_, rfl, _, _, _, [], _, [], hW', trodAll_mk1 (shut_bool Tryz.underlying4 _), (trodAll_cons_mk (Below.trod laidOut (by kernel_rfl) (of_decide_eq_true (by kernel_rfl)) k0 bel lt0) (trodAll_cons_mk (Below.trod laidOut (by kernel_rfl) (of_decide_eq_true (by kernel_rfl)) k1 bel lt1) (trodAll_cons_mk (Below.trod laidOut (by kernel_rfl) (of_decide_eq_true (by kernel_rfl)) k2 bel lt2) (trodAll_cons_mk (Below.trod laidOut (by kernel_rfl) (of_decide_eq_true (by kernel_rfl)) k3 bel lt3) (trodAll_cons_mk (Below.trod laidOut (by kernel_rfl) (of_decide_eq_true (by kernel_rfl)) k4 bel lt4) trodAll_mk0))))), rfl, bel.frame _, fun h => by cases h⟩

/-- THE STATEMENT. -/
theorem holds : Rows.LedgerStaleSaid :=
  OpenClaim.holds_of_wide 6 Tryz.f6 rfl rfl rfl rfl rfl rfl rfl ⟨rfl, rfl, rfl, rfl, rfl⟩ rfl rfl rfl rfl rfl (by kernel_rfl) Tryz.func6 (by kernel_rfl)
    (of_decide_eq_true (by kernel_rfl)) (by unfold Func.isWrapper; first | (rw [if_pos (by decide +kernel)]; kernel_rfl) | (rw [if_neg (by decide +kernel)]; exact ⟨rfl, rfl⟩))
    (fun os started H enc _ => lifted os started H enc)
end Go.Proofs.YtkhbbfpajiimaaaGreat.ledgerStale
