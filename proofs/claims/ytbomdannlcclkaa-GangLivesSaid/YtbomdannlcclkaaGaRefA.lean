/- Gangs: the document's Add. -/
import Derived.Test.YtbomdannlcclkaaHeldTo
import Derived.Test.YtbomdannlcclkaaGaRef2
set_option linter.unusedVariables false
set_option maxRecDepth 100000
namespace Go.Proofs.Ytbomdannlcclkaa
open Go.RowKit
section
variable {P : Program} {ops : Array Oper} {Q : Exit → Act → World → Prop} {md : Region.Mode} {S : World → Prop} {c : Nat}
/-- Two numbers may come up: each first. -/
theorem until_two (i j : Nat) {oi oj : Oper} {f : Nat} {listed : Array Bool} {a : Act} {w : World} (hi : ops[i]? = some oi) (hj : ops[j]? = some oj) (hr : Region.ready md ops listed = [i, j]) (hgi : oi.guard = none) (hgj : oj.guard = none)
    (h1 : ∀ K : Act → World → Prop, Hid (∀ a' w', ((listed.setIfInBounds i true).getD c true = false → S w') → wpUntil P md ops Q S c f (listed.setIfInBounds i true) a' w' → K a' w') → oi.wp P a w K Q)
    (h2 : ∀ K : Act → World → Prop, Hid (∀ a' w', ((listed.setIfInBounds j true).getD c true = false → S w') → wpUntil P md ops Q S c f (listed.setIfInBounds j true) a' w' → K a' w') → oj.wp P a w K Q) : wpUntil P md ops Q S c (f + 1) listed a w := by
  refine ⟨fun h0 => (by rw [hr] at h0; cases h0), fun k hk => ?_⟩
  rw [hr] at hk
  have hk2 : k = i ∨ k = j := by simpa using hk
  rcases hk2 with rfl | rfl
  · unfold wpOp
    simp only [hi]
    rw [if_pos (by simp [Region.wanted, hgi])]
    exact .inl (h1 _ (Lib.hid fun _ _ h1 h2 => ⟨h1, h2⟩))
  · unfold wpOp
    simp only [hj]
    rw [if_pos (by simp [Region.wanted, hgj])]
    exact .inl (h2 _ (Lib.hid fun _ _ h1 h2 => ⟨h1, h2⟩))
end
/-- What an Add leaves, its records made anew. -/
theorem RADD {T : TypeId} {w w4 w7 : World} {p n c c7 : Nat} {A A7 : Option Addr} {L : List Rc} {r : Rc} {j : Jb} {s : Int} {F : Nat → Prop} (hE : GL.addE L j.id = 0) (hr : GL.newR L j s = r) (hn : n = L.length)
    (hown : w7.ownsRow w4.heap.size 42 16 (.slice A7 (n + 1) c7) (n + 1) (L.flatMap rcC ++ rcC r)) (hB : Below w4.heap.size w4 w7) (hobj : w7.heap[p]? = some (.cells #[.slice A n c] T (0, 0))) (hlt : L.length < 4096)
    (hBw : Below w.heap.size w w4) (hp : p < w.heap.size) (hRBp : w.heap.size + 1 ≠ p) (hRB : w.heap.size + 1 < w4.heap.size) (hF : ∀ i, F i ↔ (i = p ∨ (Value.slice A n c).ownBlock = some i)) :
    Ending.returned (.tuple #[rcV r, .int .i64 0]) = .returned (.tuple #[rcV (GL.addR L j s), .int .i64 (GL.addE L j.id)]) ∧ ∃ F', GaObj T ((w7.setCell ⟨p, 0, none⟩ (.slice A7 (n + 1) c7)).setRow (w.heap.size + 1) (rcA r)) p F' (GL.addL L j s) ∧ Foot F w ((w7.setCell ⟨p, 0, none⟩ (.slice A7 (n + 1) c7)).setRow (w.heap.size + 1) (rcA r)) ∧ ∀ i, F' i → F i ∨ w.heap.size ≤ i := by
  have hL : GL.addL L j s = L ++ [r] := by unfold GL.addL; rw [if_pos hE, hr]
  have hb : ∀ i, (Value.slice A7 (n + 1) c7).ownBlock = some i → w4.heap.size ≤ i := fun i hi => (hown.lt i hi).1
  have hsz := hBw.size
  refine ⟨?_, (fun i => i = p ∨ (Value.slice A7 (n + 1) c7).ownBlock = some i), ⟨_, ?_, fun i => Iff.rfl⟩, ?_, ?_⟩
  · unfold GL.addR; rw [if_pos hE, hE, hr]
  · rw [hL]
    refine ⟨(setRow_other _ _ p _ (Ne.symm hRBp)).trans (blk_put (i := 0) _ hobj), ?_, fun i hi => by have := hb i hi; omega, by simp; omega⟩
    rw [List.length_append, List.length_singleton, ← hn, List.flatMap_append, List.flatMap_singleton]
    exact own_less (own_stays hown fun i hi => by
      have := hb i hi
      exact (setRow_other _ _ i _ (by omega)).trans (Below.heap_setCell w7 ⟨p, 0, none⟩ _ i (by show i ≠ p; omega))) (Nat.zero_le _)
  · exact foot_row ((((Foot.of_below (F := F) hBw).trans (Foot.of_below (F := fun _ => False) hB) fun i hi => hi.elim)).setCell (.inl ((hF p).2 (.inl rfl))) _) (.inr (by omega)) _
  · rintro i (rfl | hi)
    · exact .inl ((hF i).2 (.inl rfl))
    · exact .inr (by have := hb i hi; omega)
set_option maxRecDepth 100000 in
set_option maxHeartbeats 4000000 in
theorem radd_any (T : TypeId) (p : Nat) (F : Nat → Prop) (L : List Rc) (j : Jb) (s : Int) (w : World) (h : GaObj T w p F L) :
    Calls Try.prog 28 #[.pointer (some ⟨p, 0, none⟩), jbV j, .int .i64 s] w fun e w' => e = .returned (.tuple #[rcV (GL.addR L j s), .int .i64 (GL.addE L j.id)]) ∧ ∃ F', GaObj T w' p F' (GL.addL L j s) ∧ Foot F w w' ∧ ∀ i, F' i → F i ∨ w.heap.size ≤ i := by
  obtain ⟨V, hV, hF⟩ := h
  obtain ⟨A, g, c, hVs, hc1, hc2, hR, hA, hEl, hA2⟩ := own_slc hV.own
  subst hVs
  obtain ⟨i0, hi, hz0, hz1, hz2⟩ := info_parts info_rc
  obtain ⟨J, hJ⟩ : ∃ J, J = w.heap.size := ⟨_, rfl⟩
  have e0 : ∀ (W : World) (o : Obj), (W.alloc o).heap.size = W.heap.size + 1 := fun W o => by simp
  obtain ⟨wa, hwa⟩ : ∃ wa, wa = w.alloc (.cells (jbA j) 40) := ⟨_, rfl⟩
  have hza : wa.heap.size = J + 1 := by rw [hwa, hJ]; simp
  have hja : wa.heap[J]? = some (.cells (jbA j) 40 (0, 0)) := by rw [hwa, hJ]; exact heap_alloc_new w _
  have hBa : Below J w wa := by rw [hwa, hJ]; exact (Below.refl _ w).alloc (Nat.le_refl _) _
  obtain ⟨w1, hw1⟩ : ∃ w1, w1 = wa.alloc (rcO GL.zr) := ⟨_, rfl⟩
  have hz1' : w1.heap.size = J + 2 := by rw [hw1, e0, hza]
  have hj1 : w1.heap[J]? = some (.cells (jbA j) 40 (0, 0)) := by rw [hw1]; exact (Below.heap_alloc _ _ _ (by omega)).trans hja
  have hr1 : w1.heap[J + 1]? = some (rcO GL.zr) := by rw [hw1, ← hza]; exact rc_new wa _
  have hB1 : Below J w w1 := by rw [hw1]; exact hBa.alloc (by omega) _
  have hV1 := hV.keep (by rw [← hJ]; exact hB1)
  have HF := Lib.hid (rfind_any T p _ L j.id w1 hV1)
  have HV := Lib.hid (And.intro hV hF)
  have H1 := Lib.hid (And.intro hV1 (And.intro hj1 (And.intro hr1 (And.intro hB1 hz1'))))
  have a0 : w1.cell? ⟨J, 0, none⟩ = some (.int .i64 j.id) := cell_blk hj1 rfl
  have hlen := hV.len
  have hlV : ∀ i, i = p ∨ (Value.slice A L.length c).ownBlock = some i → i < J := fun i hi => by rw [hJ]; exact hV.lt i hi
  have HLV := Lib.hid hlV
  have Same : Hid (∀ w', Below J w w' → GL.addE L j.id ≠ 0 → ∃ F', GaObj T w' p F' (GL.addL L j s) ∧ Foot F w w' ∧ ∀ i, F' i → F i ∨ w.heap.size ≤ i) := Lib.hid (fun w' hw hne => by
    unfold GL.addL; rw [if_neg hne]
    rw [hJ] at hw
    exact ⟨F, ⟨_, hV.keep hw, hF⟩, Foot.of_below hw, fun i hi => .inl hi⟩)
  have HOWN : Hid (∀ W, GaAt T W p (.slice A L.length c) L → ∀ o, (W.alloc o).ownsRow 0 42 16 (.slice A L.length c) L.length (L.flatMap rcC)) := Lib.hid (fun W hW o => hW.own.alloc o)
  obtain ⟨n, hn⟩ : ∃ n, n = L.length := ⟨_, rfl⟩
  rw [← hn] at HV H1 HOWN hlen HLV
  have HN := Lib.hid hn
  have HJ := Lib.hid hJ
  rw [hJ] at H1 a0 Same HLV
  rw [hw1, hwa] at H1 HF a0
  clear hn hV hF hR hA hEl hA2 hc1 hz1' hj1 hr1 hB1 hV1 hza hja hBa hwa hw1 e0 hlV hJ
  simp only [rcO, rcA, GL.zr, jbV, jbA] at *
  go_enter Try.func28, Try.ntmps28
  go_wp2_with fail
  refine HF.out.mono ?_
  rintro e w2 ⟨hfo, hw12⟩
  have hb : Below ((w.alloc (.cells #[.int .i64 j.id, .int .i64 j.q, .int .i64 j.p, .int .i64 j.r, .int .i64 j.g, .int .i64 j.c, .int .i64 j.mn, .int .i64 j.mx] 40)).alloc (.cells #[.int .i64 0, .int .i64 0, .int .i64 0, .int .i64 0, .int .i64 0, .int .i64 0, .int .i64 0, .int .i64 0, .int .i64 0, .int .i64 0, .int .i64 0, .int .i64 0, .int .i64 0, .int .i64 0, .int .i64 0, .int .i64 0] 42)).heap.size ((w.alloc (.cells #[.int .i64 j.id, .int .i64 j.q, .int .i64 j.p, .int .i64 j.r, .int .i64 j.g, .int .i64 j.c, .int .i64 j.mn, .int .i64 j.mx] 40)).alloc (.cells #[.int .i64 0, .int .i64 0, .int .i64 0, .int .i64 0, .int .i64 0, .int .i64 0, .int .i64 0, .int .i64 0, .int .i64 0, .int .i64 0, .int .i64 0, .int .i64 0, .int .i64 0, .int .i64 0, .int .i64 0, .int .i64 0] 42)) w2 := by rw [← hw12]; exact Below.refl _ _
  clear hw12
  have H2 := Lib.hid (And.intro (H1.out.1.keep hb) (And.intro ((hb.block w.heap.size (by have := H1.out.2.2.2.2; omega)).trans H1.out.2.1) (And.intro ((hb.block (w.heap.size + 1) (by have := H1.out.2.2.2.2; omega)).trans H1.out.2.2.1) (And.intro (H1.out.2.2.2.1.trans (hb.mono (by have := H1.out.2.2.2.2; omega))) (show w.heap.size + 2 ≤ w2.heap.size by have := H1.out.2.2.2.2; have := hb.size; omega)))))
  clear hb HF H1 a0
  rcases hfo with ⟨hno, rfl⟩ | ⟨x', hx', hxi', hh, rfl⟩
  · by_cases hfull : n = 4096
    · have HE : Hid (GL.addE L j.id = 2) := Lib.hid (by unfold GL.addE; rw [hno, ← HN.out, hfull]; rfl)
      have c0 := H2.out.1.head
      have t1 : decide (4096 ≤ (n : Int)) = true := by simp [hfull]
      clear hno hfull
      have HZ2 : Hid (w2.heap[w.heap.size + 1]? = some (rcO GL.zr)) := Lib.hid H2.out.2.2.1
      go_wp2_with (refine wpList_store_rc rfl _ _ rfl (w.heap.size + 1) GL.zr rfl rfl GL.zr HZ2.out ?_)
      refine bodyPost_ret (results_rcn Try.results28 _ _ (w.heap.size + 1) GL.zr (.int .i64 2) rfl (setRow_rc (old := GL.zr) HZ2.out) rfl) rfl ?_
      refine ⟨?_, Same.out _ (below_row H2.out.2.2.2.1 (by omega) _) (by rw [HE.out]; decide)⟩
      unfold GL.addR
      rw [HE.out]; rfl
    · have HE : Hid (GL.addE L j.id = 0) := Lib.hid (by unfold GL.addE; rw [hno, ← HN.out, if_neg (by simp), if_neg hfull])
      have t1 : decide (4096 ≤ (n : Int)) = false := by simp; omega
      have hn2 : n < 4096 := by omega
      have hwr : IntKind.i64.wrap ((n : Int) + 1) = (n : Int) + 1 := IntWalk.i64_in _ (by omega)
      have c0 := H2.out.1.head
      have hj2 : CellsAt w2 w.heap.size 0 (jbC j) := fun k v hv => by rw [Nat.zero_add]; exact cell_blk H2.out.2.1 (by simpa [jbC] using hv)
      have lJ2 : w.heap.size < w2.heap.size := by have := H2.out.2.2.2.2; omega
      have lp2 : p < w2.heap.size := H2.out.1.lt p (.inl rfl)
      clear hno hfull
      go_wp2_with fail
      refine held_begin (fun w' : World => CellsAt w' w.heap.size 0 (jbC j) ∧ w'.cell? ⟨p, 0, none⟩ = some (.slice A n c)) (by kernel_rfl) ?_
      have hBh0 : Below w2.heap.size w2 w2.drew := (Below.refl _ _).drew
      have hSh0 : (fun w' : World => CellsAt w' w.heap.size 0 (jbC j) ∧ w'.cell? ⟨p, 0, none⟩ = some (.slice A n c)) w2.drew := ⟨hj2, c0⟩
      obtain ⟨wd, hwd⟩ : ∃ wd, wd = w2.drew := ⟨_, rfl⟩
      have hzd : wd.heap.size = w2.heap.size := by rw [hwd]; rfl
      rw [← hwd] at hBh0 hSh0 ⊢
      clear hwd
      refine held_take (v := ?_) 0 22 rfl rfl (by kernel_rfl) (by kernel_rfl) (by kernel_rfl) (fun _ _ _ h => h) ⟨by rfl, ?_⟩ hSh0 ?_
      rotate_left
      · intro w' hw'; obtain ⟨x0, x1⟩ := hw'; refine Eq.trans (run_load_jb (by rfl) (by rfl) x0) ?_; (with_reducible rfl)
      simp only [Act.put, List.setIfInBounds_toArray, List.set_cons_zero, List.set_cons_succ]
      refine held_take (v := ?_) 1 23 rfl rfl (by kernel_rfl) (by kernel_rfl) (by kernel_rfl) (fun _ _ _ h => h) ⟨by rfl, ?_⟩ hSh0 ?_
      rotate_left
      · intro w' hw'; obtain ⟨x0, x1⟩ := hw'; go_simp; (try with_reducible rfl)
      simp only [Act.put, List.setIfInBounds_toArray, List.set_cons_zero, List.set_cons_succ]
      refine held_take (v := ?_) 2 24 rfl rfl (by kernel_rfl) (by kernel_rfl) (by kernel_rfl) (fun _ _ _ h => h) ⟨by rfl, ?_⟩ hSh0 ?_
      rotate_left
      · intro w' hw'; obtain ⟨x0, x1⟩ := hw'; go_simp; (try with_reducible rfl)
      simp only [Act.put, List.setIfInBounds_toArray, List.set_cons_zero, List.set_cons_succ]
      refine held_take (v := ?_) 3 25 rfl rfl (by kernel_rfl) (by kernel_rfl) (by kernel_rfl) (fun _ _ _ h => h) ⟨by rfl, ?_⟩ hSh0 ?_
      rotate_left
      · intro w' hw'; obtain ⟨x0, x1⟩ := hw'; go_simp; (try with_reducible rfl)
      simp only [Act.put, List.setIfInBounds_toArray, List.set_cons_zero, List.set_cons_succ]
      refine held_take (v := ?_) 4 26 rfl rfl (by kernel_rfl) (by kernel_rfl) (by kernel_rfl) (fun _ _ _ h => h) ⟨by rfl, ?_⟩ hSh0 ?_
      rotate_left
      · intro w' hw'; obtain ⟨x0, x1⟩ := hw'; go_simp; (try with_reducible rfl)
      simp only [Act.put, List.setIfInBounds_toArray, List.set_cons_zero, List.set_cons_succ]
      refine held_take (v := ?_) 5 27 rfl rfl (by kernel_rfl) (by kernel_rfl) (by kernel_rfl) (fun _ _ _ h => h) ⟨by rfl, ?_⟩ hSh0 ?_
      rotate_left
      · intro w' hw'; obtain ⟨x0, x1⟩ := hw'; go_simp; (try with_reducible rfl)
      simp only [Act.put, List.setIfInBounds_toArray, List.set_cons_zero, List.set_cons_succ]
      refine held_take (v := ?_) 6 28 rfl rfl (by kernel_rfl) (by kernel_rfl) (by kernel_rfl) (fun _ _ _ h => h) ⟨by rfl, ?_⟩ hSh0 ?_
      rotate_left
      · intro w' hw'; obtain ⟨x0, x1⟩ := hw'; go_simp; (try with_reducible rfl)
      simp only [Act.put, List.setIfInBounds_toArray, List.set_cons_zero, List.set_cons_succ]
      refine held_take (v := ?_) 7 29 rfl rfl (by kernel_rfl) (by kernel_rfl) (by kernel_rfl) (fun _ _ _ h => h) ⟨by rfl, ?_⟩ hSh0 ?_
      rotate_left
      · intro w' hw'; obtain ⟨x0, x1⟩ := hw'; go_simp; (try with_reducible rfl)
      simp only [Act.put, List.setIfInBounds_toArray, List.set_cons_zero, List.set_cons_succ]
      refine held_take (v := ?_) 8 30 rfl rfl (by kernel_rfl) (by kernel_rfl) (by kernel_rfl) (fun _ _ _ h => h) ⟨by rfl, ?_⟩ hSh0 ?_
      rotate_left
      · intro w' hw'; obtain ⟨x0, x1⟩ := hw'; go_simp; (try with_reducible rfl)
      simp only [Act.put, List.setIfInBounds_toArray, List.set_cons_zero, List.set_cons_succ]
      refine held_one 9 rfl (by kernel_rfl) (by rfl) (fun K hK => ?_)
      go_simp
      obtain ⟨wh1, hwh1⟩ : ∃ wld, wld = wd.alloc (.cells #[.int .i64 0, .int .i64 0, .int .i64 0, .int .i64 0, .int .i64 0, .int .i64 0, .int .i64 0, .int .i64 0, .int .i64 0, .int .i64 0, .int .i64 0, .int .i64 0, .int .i64 0, .int .i64 0, .int .i64 0, .int .i64 0] 42) := ⟨_, rfl⟩
      have hBh1 : Below w2.heap.size w2 wh1 := by rw [hwh1]; exact hBh0.alloc hBh0.size _
      have hSh1 : (fun w' : World => CellsAt w' w.heap.size 0 (jbC j) ∧ w'.cell? ⟨p, 0, none⟩ = some (.slice A n c)) wh1 := ⟨hj2.keep lJ2 hBh1, (hBh1.cell (p := ⟨p, 0, none⟩) (lp2)).trans c0⟩
      refine hK.out _ _ (show _ from by rw [← hwh1]; exact hSh1) ?_
      clear hK K
      try simp only [Act.put, List.setIfInBounds_toArray, List.set_cons_zero, List.set_cons_succ]
      rw [← hwh1]
      have Hwh1 := Lib.hid hwh1
      clear hwh1
      have hzz : wh1.heap.size = w2.heap.size + 1 := by rw [Hwh1.out]; simp [hzd]
      have hbz : wh1.heap[wd.heap.size]? = some (rcO GL.zr) := by rw [Hwh1.out]; exact rc_new wd GL.zr
      refine held_one 10 rfl (by kernel_rfl) (by rfl) (fun K hK => ?_)
      simp only [Go.wp_at_zero, Go.wp_at_succ]
      have hbz2 : wh1.heap[w2.heap.size]? = some (rcO GL.zr) := by rw [← hzd]; exact hbz
      refine wp_store_row 42 _ _ rfl w2.heap.size (rcA (⟨j.id, j.q, j.p, j.r, j.g, j.c, j.mn, j.mx, 1, s, (n : Int) + 1, 0, 0, 0, 0, 0⟩ : Rc)) rfl rfl 42 (rcA GL.zr) hbz2 (by kernel_rfl) rfl (rcA_one _) ?_
      have hBw := below_row hBh1 (Nat.le_refl _) (rcA (⟨j.id, j.q, j.p, j.r, j.g, j.c, j.mn, j.mx, 1, s, (n : Int) + 1, 0, 0, 0, 0, 0⟩ : Rc))
      have hb4 : (wh1.setRow w2.heap.size (rcA (⟨j.id, j.q, j.p, j.r, j.g, j.c, j.mn, j.mx, 1, s, (n : Int) + 1, 0, 0, 0, 0, 0⟩ : Rc))).heap[w2.heap.size]? = some (rcO (⟨j.id, j.q, j.p, j.r, j.g, j.c, j.mn, j.mx, 1, s, (n : Int) + 1, 0, 0, 0, 0, 0⟩ : Rc)) := setRow_rc (old := GL.zr) hbz2
      obtain ⟨r, hr⟩ : ∃ r : Rc, r = (⟨j.id, j.q, j.p, j.r, j.g, j.c, j.mn, j.mx, 1, s, (n : Int) + 1, 0, 0, 0, 0, 0⟩ : Rc) := ⟨_, rfl⟩
      rw [← hr] at hBw hb4 ⊢
      have Hr := Lib.hid (show GL.newR L j s = r by rw [hr]; unfold GL.newR; rw [← HN.out])
      obtain ⟨w3, hw3⟩ : ∃ w3, w3 = wh1.setRow w2.heap.size (rcA r) := ⟨_, rfl⟩
      rw [← hw3] at hBw hb4 ⊢
      refine hK.out _ _ ⟨hj2.keep lJ2 hBw, (hBw.cell (p := ⟨p, 0, none⟩) lp2).trans c0⟩ ?_
      clear hK K hbz hbz2 hSh0 hSh1 hBh0 hBh1 Hwh1 hr hw3 hzz
      refine wpAnyH_done (by kernel_rfl) ?_ _
      have c4 := (hBw.cell (p := ⟨p, 0, none⟩) lp2).trans c0
      have H4a := Lib.hid (H2.out.1.keep hBw)
      have fp4 : w3.frozen? ⟨p, 0, none⟩ = false := frozen_blk H4a.out.obj
      have hr4 := rcAt_of hb4
      have HNB := Lib.hid (show (Value.slice A n c).ownBlock ≠ some w2.heap.size from fun e => by have := H2.out.1.lt _ (.inr e); omega)
      have HR4a := Lib.hid (And.intro ((hBw.block (w.heap.size + 1) (by have := H2.out.2.2.2.2; omega)).trans H2.out.2.2.1) (H2.out.2.2.2.1.trans (hBw.mono (by have := H2.out.2.2.2.2; omega))))
      have lb3 : w2.heap.size < w3.heap.size := blk_lt hb4
      have lp4 : p < w3.heap.size := Nat.lt_of_lt_of_le lp2 hBw.size
      obtain ⟨b, hbe⟩ : ∃ b, b = w2.heap.size := ⟨_, rfl⟩
      have hpb : p < b := by rw [hbe]; exact lp2
      have hRB : w.heap.size + 1 < b := by rw [hbe]; have := H2.out.2.2.2.2; omega
      rw [← hbe] at hr4 HNB lb3 ⊢
      have hRBp : w.heap.size + 1 ≠ p := by have := HLV.out p (.inl rfl); omega
      have hp4 : p < w.heap.size := HLV.out p (.inl rfl)
      have hlt4 : L.length < 4096 := by rw [← HN.out]; exact hn2
      have Hn := HN
      clear hbe hb4 hBw hj2 lJ2 lp2 c0 hwr
      go_wp2_with fail
      refine wp_until (fun w' : World => w'.cell? ⟨p, 0, none⟩ = some (.slice A n c) ∧ RcAt w' b 0 r) 12 (by kernel_rfl) ?_
      have hS : (fun w' : World => w'.cell? ⟨p, 0, none⟩ = some (.slice A n c) ∧ RcAt w' b 0 r) w3.drew := ⟨c4, hr4⟩
      have f4 : w3.drew.frozen? ⟨p, 0, none⟩ = false := fp4
      have H4 : Hid (GaAt T w3.drew p (.slice A n c) L) := Lib.hid (H4a.out.keep (Below.refl _ _).drew)
      have HL4 : Hid (Els rcC 16 w3.drew w3.drew.heap.size A L) := Lib.hid (by
        obtain ⟨A', g', c', e1, _, _, _, _, hE, _⟩ := own_slc H4.out.own
        injection e1 with e1 _ _
        rw [e1]; exact hE)
      have HR4 : Hid (w3.drew.heap[w.heap.size + 1]? = some (rcO GL.zr) ∧ Below w.heap.size w w3.drew) := Lib.hid ⟨HR4a.out.1, HR4a.out.2.drew⟩
      have lr4 : p < w3.drew.heap.size := lp4
      have lb4 : b < w3.drew.heap.size := lb3
      have hRB4 : w.heap.size + 1 < w3.drew.heap.size := by show w.heap.size + 1 < w3.heap.size; omega
      clear c4 hr4 fp4 lp4 lb3
      generalize w3.drew = w4 at hS f4 H4 HL4 HR4 lr4 lb4 hRB4 ⊢
      have hB4 : Below w4.heap.size w4 w4 := Below.refl _ _
      refine until_take (v := ?_) 0 31 rfl rfl (by kernel_rfl) (by kernel_rfl) (by kernel_rfl) (by kernel_rfl) (fun _ _ _ h => h) ⟨by rfl, ?_⟩ hS ?_
      rotate_left
      · intro w' hw'; obtain ⟨x0, x1⟩ := hw'; go_simp; (try with_reducible rfl)
      simp only [Act.put, List.setIfInBounds_toArray, List.set_cons_zero, List.set_cons_succ]
      refine until_take (v := ?_) 2 33 rfl rfl (by kernel_rfl) (by kernel_rfl) (by kernel_rfl) (by kernel_rfl) (fun _ _ _ h => h) ⟨by rfl, ?_⟩ hS ?_
      rotate_left
      · intro w' hw'; obtain ⟨x0, x1⟩ := hw'; go_simp; (try with_reducible rfl)
      simp only [Act.put, List.setIfInBounds_toArray, List.set_cons_zero, List.set_cons_succ]
      refine until_take (v := ?_) 3 34 rfl rfl (by kernel_rfl) (by kernel_rfl) (by kernel_rfl) (by kernel_rfl) (fun _ _ _ h => h) ⟨by rfl, ?_⟩ hS ?_
      rotate_left
      · intro w' hw'; obtain ⟨x0, x1⟩ := hw'; go_simp; (try with_reducible rfl)
      simp only [Act.put, List.setIfInBounds_toArray, List.set_cons_zero, List.set_cons_succ]
      refine until_take (v := ?_) 4 35 rfl rfl (by kernel_rfl) (by kernel_rfl) (by kernel_rfl) (by kernel_rfl) (fun _ _ _ h => h) ⟨by rfl, ?_⟩ hS ?_
      rotate_left
      · intro w' hw'; obtain ⟨x0, x1⟩ := hw'; go_simp; (try with_reducible rfl)
      simp only [Act.put, List.setIfInBounds_toArray, List.set_cons_zero, List.set_cons_succ]
      refine until_take (v := ?_) 5 36 rfl rfl (by kernel_rfl) (by kernel_rfl) (by kernel_rfl) (by kernel_rfl) (fun _ _ _ h => h) ⟨by rfl, ?_⟩ hS ?_
      rotate_left
      · intro w' hw'; obtain ⟨x0, x1⟩ := hw'; go_simp; (try with_reducible rfl)
      simp only [Act.put, List.setIfInBounds_toArray, List.set_cons_zero, List.set_cons_succ]
      refine until_take (v := ?_) 7 38 rfl rfl (by kernel_rfl) (by kernel_rfl) (by kernel_rfl) (by kernel_rfl) (fun _ _ _ h => h) ⟨by rfl, ?_⟩ hS ?_
      rotate_left
      · intro w' hw'; obtain ⟨x0, x1⟩ := hw'; refine Eq.trans (run_load_rc (by rfl) (by rfl) x1) ?_; (with_reducible rfl)
      simp only [Act.put, List.setIfInBounds_toArray, List.set_cons_zero, List.set_cons_succ]
      refine until_two 1 8 rfl rfl (by kernel_rfl) rfl rfl (fun K hK => ?_) (fun K hK => ?_)
      · go_simp
        obtain ⟨wa, hwa⟩ : ∃ z, z = w4.alloc (.cells #[] 42) := ⟨_, rfl⟩
        have ownE : wa.ownsRow w4.heap.size 42 16 (.slice (some ⟨w4.heap.size, 0, none⟩) 0 0) 0 [] := by rw [hwa]; exact World.ownsRow_lit w4 #[] 0 (by omega) (by unfold maxLen; omega) rfl
        have hBa : Below w4.heap.size w4 wa := by rw [hwa]; exact hB4.alloc hB4.size _
        have swa : w4.heap.size < wa.heap.size := by rw [hwa]; simp
        have bwa : Below w4.heap.size w4 wa := by rw [hwa]; exact (Below.refl _ _).alloc (Nat.le_refl _) _
        have hSa : (fun w' : World => w'.cell? ⟨p, 0, none⟩ = some (.slice A n c) ∧ RcAt w' b 0 r) wa := ⟨(bwa.cell (p := ⟨p, 0, none⟩) (show p < _ by omega)).trans hS.1, hS.2.keep (by omega) bwa⟩
        rw [← hwa]
        refine hK.out _ _ (fun _ => hSa) ?_
        clear hK K hwa
        refine until_two 6 8 rfl rfl (by kernel_rfl) rfl rfl (fun K hK => ?_) (fun K hK => ?_)
        · simp only [Go.wp_at_zero, Go.wp_at_succ]
          refine wp_append_els (C := rcC) (k := 16) _ _ _ 34 rfl w4.heap.size 42 i0 _ 128 Try.underlying34 hi hz0 hz1 hz2 rfl (by decide) (.slice (some ⟨w4.heap.size, 0, none⟩) 0 0) 0 [] rfl ownE w4.heap.size A c n L rfl (HL4.out.keep (hBa) (Nat.le_refl _)) Hn.out rcC_len rcC_one (by unfold maxLen; omega) (by omega) (by omega) ?_
          intro A5 c5 wb own5 gwb kwb
          rw [Nat.zero_add] at own5 ⊢
          rw [List.nil_append] at own5
          have hob : ∀ j, (Value.slice (some ⟨w4.heap.size, 0, none⟩) 0 0).ownBlock = some j → j = w4.heap.size := fun j hj => by simpa [Value.ownBlock] using hj.symm
          have hBb : Below w4.heap.size w4 wb := hBa.grown gwb (by omega) (fun j hj => by have := hob j hj; omega)
          have swb := gwb.size
          have hSb : (fun w' : World => w'.cell? ⟨p, 0, none⟩ = some (.slice A n c) ∧ RcAt w' b 0 r) wb := ⟨(gwb.cell_far ⟨p, 0, none⟩ (show p < wa.heap.size by omega) (fun e => by have := hob p e.symm; omega)).trans hSa.1, CellsAt.of hSa.2 (gwb.block b (by omega) (fun e => by have := hob b e.symm; omega))⟩
          refine hK.out _ _ (fun _ => hSb) ?_
          clear hK K
          simp only [Act.put, List.setIfInBounds_toArray, List.set_cons_zero, List.set_cons_succ]
          have Own5 := Lib.hid own5
          clear own5 gwb kwb hob
          refine until_one 8 rfl (by kernel_rfl) rfl (fun K hK => ?_)
          simp only [rcA]
          go_simp
          obtain ⟨wc, hwc⟩ : ∃ z, z = wb.alloc (.cells #[.int .i64 r.id, .int .i64 r.q, .int .i64 r.p, .int .i64 r.r, .int .i64 r.g, .int .i64 r.c, .int .i64 r.mn, .int .i64 r.mx, .int .i64 r.st, .int .i64 r.si, .int .i64 r.nu, .int .i64 r.me, .int .i64 r.bg, .int .i64 r.en, .int .i64 r.li, .int .i64 r.wo] 42) := ⟨_, rfl⟩
          have elsB : Els rcC 16 wc wc.heap.size (some ⟨wb.heap.size, 0, none⟩) [r] := by rw [hwc]; exact els_blk rcC_len (heap_alloc_new wb _) (fun j v hj => by simpa [rcC] using hj)
          have hBc : Below w4.heap.size w4 wc := by rw [hwc]; exact hBb.alloc hBb.size _
          have swc : wb.heap.size < wc.heap.size := by rw [hwc]; simp
          have bwc : Below wb.heap.size wb wc := by rw [hwc]; exact (Below.refl _ _).alloc (Nat.le_refl _) _
          have hSc : (fun w' : World => w'.cell? ⟨p, 0, none⟩ = some (.slice A n c) ∧ RcAt w' b 0 r) wc := ⟨(bwc.cell (p := ⟨p, 0, none⟩) (show p < _ by omega)).trans hSb.1, hSb.2.keep (by omega) bwc⟩
          rw [← hwc]
          refine hK.out _ _ (fun _ => hSc) ?_
          clear hK K hwc
          try simp only [Act.put, List.setIfInBounds_toArray, List.set_cons_zero, List.set_cons_succ]
          have own5 := own_keep Own5.out bwc
          refine until_one 9 rfl (by kernel_rfl) rfl (fun K hK => ?_)
          simp only [Go.wp_at_zero, Go.wp_at_succ]
          refine wp_append_els (C := rcC) (k := 16) _ _ _ 34 rfl w4.heap.size 42 i0 _ 128 Try.underlying34 hi hz0 hz1 hz2 rfl (by decide) (.slice A5 n c5) n _ rfl own5 _ (some ⟨wb.heap.size, 0, none⟩) 1 1 [r] rfl elsB rfl rcC_len rcC_one (by unfold maxLen; omega) (by omega) (by omega) ?_
          intro A7 c7 w7 own7 g7 k7
          have hob5 : ∀ j, (Value.slice A5 n c5).ownBlock = some j → w4.heap.size ≤ j := fun j hj => (own5.lt j hj).1
          have hB7 : Below w4.heap.size w4 w7 := hBc.grown g7 (by omega) (fun j hj => by have := hob5 j hj; omega)
          have s7 := g7.size
          have hS7 : (fun w' : World => w'.cell? ⟨p, 0, none⟩ = some (.slice A n c) ∧ RcAt w' b 0 r) w7 := ⟨(g7.cell_far ⟨p, 0, none⟩ (show p < wc.heap.size by omega) (fun e => by have := hob5 p e.symm; omega)).trans hSc.1, CellsAt.of hSc.2 (g7.block b (by omega) (fun e => by have := hob5 b e.symm; omega))⟩
          have g9 : w7.frozen? ⟨p, 0, none⟩ = false := (hB7.frozen (p := ⟨p, 0, none⟩) lr4).trans f4
          refine hK.out _ _ (fun _ => hS7) ?_
          clear hK K
          simp only [Act.put, List.setIfInBounds_toArray, List.set_cons_zero, List.set_cons_succ]
          have hS9 : w7.cell? ⟨p, 0, none⟩ = some (.slice A n c) := hS7.1
          refine until_one 10 rfl (by kernel_rfl) rfl (fun K hK => ?_)
          go_simp
          refine hK.out _ _ (fun _ => hS7) ?_
          clear hK K
          refine until_one 11 rfl (by kernel_rfl) rfl (fun K hK => ?_)
          go_simp
          refine hK.out _ _ (fun _ => hS7) ?_
          clear hK K
          refine until_one 12 rfl (by kernel_rfl) rfl (fun K hK => ?_)
          go_simp
          refine hK.out _ _ (fun h => absurd h (by decide)) ?_
          clear hK K
          refine until_done (by kernel_rfl) ?_
          have HZ7 : Hid ((w7.setCell ⟨p, 0, none⟩ (.slice A7 (n + 1) c7)).heap[w.heap.size + 1]? = some (rcO GL.zr)) := Lib.hid ((Below.heap_setCell w7 ⟨p, 0, none⟩ _ _ hRBp).trans ((hB7.block _ hRB4).trans HR4.out.1))
          have HX7 : Hid (RcAt (w7.setCell ⟨p, 0, none⟩ (.slice A7 (n + 1) c7)) b 0 r) := Lib.hid (hS7.2.of (Below.heap_setCell w7 ⟨p, 0, none⟩ _ _ (by show b ≠ p; omega)))
          have HM := Lib.hid (And.intro (show w7.ownsRow w4.heap.size 42 16 (.slice A7 (n + 1) c7) (n + 1) (L.flatMap rcC ++ rcC r) by simpa using own7) (And.intro hB7 ((hB7.block p lr4).trans H4.out.obj)))
          clear hS hS7 hS9 hB7 own5 own7 g7 k7 hob5 g9
          go_wp2_with (first
            | (refine wpList_load_rc rfl _ rfl b 0 r rfl HX7.out ?_)
            | (refine wpList_store_rc rfl _ _ rfl (w.heap.size + 1) r rfl rfl GL.zr HZ7.out ?_))
          refine bodyPost_ret (results_rcn Try.results28 _ _ (w.heap.size + 1) r (.int .i64 0) rfl (setRow_rc (old := GL.zr) HZ7.out) rfl) rfl ?_
          exact RADD HE.out Hr.out Hn.out HM.out.1 HM.out.2.1 HM.out.2.2 hlt4 HR4.out.2 hp4 hRBp hRB4 HV.out.2

        · simp only [rcA]
          go_simp
          obtain ⟨wb, hwb⟩ : ∃ z, z = wa.alloc (.cells #[.int .i64 r.id, .int .i64 r.q, .int .i64 r.p, .int .i64 r.r, .int .i64 r.g, .int .i64 r.c, .int .i64 r.mn, .int .i64 r.mx, .int .i64 r.st, .int .i64 r.si, .int .i64 r.nu, .int .i64 r.me, .int .i64 r.bg, .int .i64 r.en, .int .i64 r.li, .int .i64 r.wo] 42) := ⟨_, rfl⟩
          have elsB : Els rcC 16 wb wb.heap.size (some ⟨wa.heap.size, 0, none⟩) [r] := by rw [hwb]; exact els_blk rcC_len (heap_alloc_new wa _) (fun j v hj => by simpa [rcC] using hj)
          have hBb : Below w4.heap.size w4 wb := by rw [hwb]; exact hBa.alloc hBa.size _
          have swb : wa.heap.size < wb.heap.size := by rw [hwb]; simp
          have bwb : Below wa.heap.size wa wb := by rw [hwb]; exact (Below.refl _ _).alloc (Nat.le_refl _) _
          have hSb : (fun w' : World => w'.cell? ⟨p, 0, none⟩ = some (.slice A n c) ∧ RcAt w' b 0 r) wb := ⟨(bwb.cell (p := ⟨p, 0, none⟩) (show p < _ by omega)).trans hSa.1, hSa.2.keep (by omega) bwb⟩
          rw [← hwb]
          refine hK.out _ _ (fun _ => hSb) ?_
          clear hK K hwb
          try simp only [Act.put, List.setIfInBounds_toArray, List.set_cons_zero, List.set_cons_succ]
          have ownE := own_keep ownE bwb
          refine until_one 6 rfl (by kernel_rfl) rfl (fun K hK => ?_)
          simp only [Go.wp_at_zero, Go.wp_at_succ]
          refine wp_append_els (C := rcC) (k := 16) _ _ _ 34 rfl w4.heap.size 42 i0 _ 128 Try.underlying34 hi hz0 hz1 hz2 rfl (by decide) (.slice (some ⟨w4.heap.size, 0, none⟩) 0 0) 0 [] rfl ownE w4.heap.size A c n L rfl (HL4.out.keep (hBb) (Nat.le_refl _)) Hn.out rcC_len rcC_one (by unfold maxLen; omega) (by omega) (by omega) ?_
          intro A5 c5 wc own5 gwc kwc
          rw [Nat.zero_add] at own5 ⊢
          rw [List.nil_append] at own5
          have hob : ∀ j, (Value.slice (some ⟨w4.heap.size, 0, none⟩) 0 0).ownBlock = some j → j = w4.heap.size := fun j hj => by simpa [Value.ownBlock] using hj.symm
          have hBc : Below w4.heap.size w4 wc := hBb.grown gwc (by omega) (fun j hj => by have := hob j hj; omega)
          have swc := gwc.size
          have hSc : (fun w' : World => w'.cell? ⟨p, 0, none⟩ = some (.slice A n c) ∧ RcAt w' b 0 r) wc := ⟨(gwc.cell_far ⟨p, 0, none⟩ (show p < wb.heap.size by omega) (fun e => by have := hob p e.symm; omega)).trans hSb.1, CellsAt.of hSb.2 (gwc.block b (by omega) (fun e => by have := hob b e.symm; omega))⟩
          have elsB : Els rcC 16 wc wc.heap.size (some ⟨wa.heap.size, 0, none⟩) [r] := (elsB.off (w' := wc) fun b2 o2 e2 hb2 => gwc.block b2 hb2 (fun e => by have := hob b2 e.symm; injection e2 with e2; injection e2 with e2; omega)).imp swc fun _ _ _ _ hd => hd
          refine hK.out _ _ (fun _ => hSc) ?_
          clear hK K
          simp only [Act.put, List.setIfInBounds_toArray, List.set_cons_zero, List.set_cons_succ]
          refine until_one 9 rfl (by kernel_rfl) rfl (fun K hK => ?_)
          simp only [Go.wp_at_zero, Go.wp_at_succ]
          refine wp_append_els (C := rcC) (k := 16) _ _ _ 34 rfl w4.heap.size 42 i0 _ 128 Try.underlying34 hi hz0 hz1 hz2 rfl (by decide) (.slice A5 n c5) n _ rfl own5 _ (some ⟨wa.heap.size, 0, none⟩) 1 1 [r] rfl elsB rfl rcC_len rcC_one (by unfold maxLen; omega) (by omega) (by omega) ?_
          intro A7 c7 w7 own7 g7 k7
          have hob5 : ∀ j, (Value.slice A5 n c5).ownBlock = some j → w4.heap.size ≤ j := fun j hj => (own5.lt j hj).1
          have hB7 : Below w4.heap.size w4 w7 := hBc.grown g7 (by omega) (fun j hj => by have := hob5 j hj; omega)
          have s7 := g7.size
          have hS7 : (fun w' : World => w'.cell? ⟨p, 0, none⟩ = some (.slice A n c) ∧ RcAt w' b 0 r) w7 := ⟨(g7.cell_far ⟨p, 0, none⟩ (show p < wc.heap.size by omega) (fun e => by have := hob5 p e.symm; omega)).trans hSc.1, CellsAt.of hSc.2 (g7.block b (by omega) (fun e => by have := hob5 b e.symm; omega))⟩
          have g9 : w7.frozen? ⟨p, 0, none⟩ = false := (hB7.frozen (p := ⟨p, 0, none⟩) lr4).trans f4
          refine hK.out _ _ (fun _ => hS7) ?_
          clear hK K
          simp only [Act.put, List.setIfInBounds_toArray, List.set_cons_zero, List.set_cons_succ]
          have hS9 : w7.cell? ⟨p, 0, none⟩ = some (.slice A n c) := hS7.1
          refine until_one 10 rfl (by kernel_rfl) rfl (fun K hK => ?_)
          go_simp
          refine hK.out _ _ (fun _ => hS7) ?_
          clear hK K
          refine until_one 11 rfl (by kernel_rfl) rfl (fun K hK => ?_)
          go_simp
          refine hK.out _ _ (fun _ => hS7) ?_
          clear hK K
          refine until_one 12 rfl (by kernel_rfl) rfl (fun K hK => ?_)
          go_simp
          refine hK.out _ _ (fun h => absurd h (by decide)) ?_
          clear hK K
          refine until_done (by kernel_rfl) ?_
          have HZ7 : Hid ((w7.setCell ⟨p, 0, none⟩ (.slice A7 (n + 1) c7)).heap[w.heap.size + 1]? = some (rcO GL.zr)) := Lib.hid ((Below.heap_setCell w7 ⟨p, 0, none⟩ _ _ hRBp).trans ((hB7.block _ hRB4).trans HR4.out.1))
          have HX7 : Hid (RcAt (w7.setCell ⟨p, 0, none⟩ (.slice A7 (n + 1) c7)) b 0 r) := Lib.hid (hS7.2.of (Below.heap_setCell w7 ⟨p, 0, none⟩ _ _ (by show b ≠ p; omega)))
          have HM := Lib.hid (And.intro (show w7.ownsRow w4.heap.size 42 16 (.slice A7 (n + 1) c7) (n + 1) (L.flatMap rcC ++ rcC r) by simpa using own7) (And.intro hB7 ((hB7.block p lr4).trans H4.out.obj)))
          clear hS hS7 hS9 hB7 own5 own7 g7 k7 hob5 g9
          go_wp2_with (first
            | (refine wpList_load_rc rfl _ rfl b 0 r rfl HX7.out ?_)
            | (refine wpList_store_rc rfl _ _ rfl (w.heap.size + 1) r rfl rfl GL.zr HZ7.out ?_))
          refine bodyPost_ret (results_rcn Try.results28 _ _ (w.heap.size + 1) r (.int .i64 0) rfl (setRow_rc (old := GL.zr) HZ7.out) rfl) rfl ?_
          exact RADD HE.out Hr.out Hn.out HM.out.1 HM.out.2.1 HM.out.2.2 hlt4 HR4.out.2 hp4 hRBp hRB4 HV.out.2


      · simp only [rcA]
        go_simp
        obtain ⟨wa, hwa⟩ : ∃ z, z = w4.alloc (.cells #[.int .i64 r.id, .int .i64 r.q, .int .i64 r.p, .int .i64 r.r, .int .i64 r.g, .int .i64 r.c, .int .i64 r.mn, .int .i64 r.mx, .int .i64 r.st, .int .i64 r.si, .int .i64 r.nu, .int .i64 r.me, .int .i64 r.bg, .int .i64 r.en, .int .i64 r.li, .int .i64 r.wo] 42) := ⟨_, rfl⟩
        have elsB : Els rcC 16 wa wa.heap.size (some ⟨w4.heap.size, 0, none⟩) [r] := by rw [hwa]; exact els_blk rcC_len (heap_alloc_new w4 _) (fun j v hj => by simpa [rcC] using hj)
        have hBa : Below w4.heap.size w4 wa := by rw [hwa]; exact hB4.alloc hB4.size _
        have swa : w4.heap.size < wa.heap.size := by rw [hwa]; simp
        have bwa : Below w4.heap.size w4 wa := by rw [hwa]; exact (Below.refl _ _).alloc (Nat.le_refl _) _
        have hSa : (fun w' : World => w'.cell? ⟨p, 0, none⟩ = some (.slice A n c) ∧ RcAt w' b 0 r) wa := ⟨(bwa.cell (p := ⟨p, 0, none⟩) (show p < _ by omega)).trans hS.1, hS.2.keep (by omega) bwa⟩
        rw [← hwa]
        refine hK.out _ _ (fun _ => hSa) ?_
        clear hK K hwa
        try simp only [Act.put, List.setIfInBounds_toArray, List.set_cons_zero, List.set_cons_succ]
        refine until_one 1 rfl (by kernel_rfl) rfl (fun K hK => ?_)
        go_simp
        obtain ⟨wb, hwb⟩ : ∃ z, z = wa.alloc (.cells #[] 42) := ⟨_, rfl⟩
        have ownE : wb.ownsRow w4.heap.size 42 16 (.slice (some ⟨wa.heap.size, 0, none⟩) 0 0) 0 [] := by rw [hwb]; exact World.ownsRow_lit wa #[] 0 (by omega) (by unfold maxLen; omega) rfl
        have hBb : Below w4.heap.size w4 wb := by rw [hwb]; exact hBa.alloc hBa.size _
        have swb : wa.heap.size < wb.heap.size := by rw [hwb]; simp
        have bwb : Below wa.heap.size wa wb := by rw [hwb]; exact (Below.refl _ _).alloc (Nat.le_refl _) _
        have hSb : (fun w' : World => w'.cell? ⟨p, 0, none⟩ = some (.slice A n c) ∧ RcAt w' b 0 r) wb := ⟨(bwb.cell (p := ⟨p, 0, none⟩) (show p < _ by omega)).trans hSa.1, hSa.2.keep (by omega) bwb⟩
        rw [← hwb]
        refine hK.out _ _ (fun _ => hSb) ?_
        clear hK K hwb
        have elsB : Els rcC 16 wb wb.heap.size (some ⟨w4.heap.size, 0, none⟩) [r] := elsB.keep bwb (by omega)
        refine until_one 6 rfl (by kernel_rfl) rfl (fun K hK => ?_)
        simp only [Go.wp_at_zero, Go.wp_at_succ]
        refine wp_append_els (C := rcC) (k := 16) _ _ _ 34 rfl w4.heap.size 42 i0 _ 128 Try.underlying34 hi hz0 hz1 hz2 rfl (by decide) (.slice (some ⟨wa.heap.size, 0, none⟩) 0 0) 0 [] rfl ownE w4.heap.size A c n L rfl (HL4.out.keep (hBb) (Nat.le_refl _)) Hn.out rcC_len rcC_one (by unfold maxLen; omega) (by omega) (by omega) ?_
        intro A5 c5 wc own5 gwc kwc
        rw [Nat.zero_add] at own5 ⊢
        rw [List.nil_append] at own5
        have hob : ∀ j, (Value.slice (some ⟨wa.heap.size, 0, none⟩) 0 0).ownBlock = some j → j = wa.heap.size := fun j hj => by simpa [Value.ownBlock] using hj.symm
        have hBc : Below w4.heap.size w4 wc := hBb.grown gwc (by omega) (fun j hj => by have := hob j hj; omega)
        have swc := gwc.size
        have hSc : (fun w' : World => w'.cell? ⟨p, 0, none⟩ = some (.slice A n c) ∧ RcAt w' b 0 r) wc := ⟨(gwc.cell_far ⟨p, 0, none⟩ (show p < wb.heap.size by omega) (fun e => by have := hob p e.symm; omega)).trans hSb.1, CellsAt.of hSb.2 (gwc.block b (by omega) (fun e => by have := hob b e.symm; omega))⟩
        have elsB : Els rcC 16 wc wc.heap.size (some ⟨w4.heap.size, 0, none⟩) [r] := (elsB.off (w' := wc) fun b2 o2 e2 hb2 => gwc.block b2 hb2 (fun e => by have := hob b2 e.symm; injection e2 with e2; injection e2 with e2; omega)).imp swc fun _ _ _ _ hd => hd
        refine hK.out _ _ (fun _ => hSc) ?_
        clear hK K
        simp only [Act.put, List.setIfInBounds_toArray, List.set_cons_zero, List.set_cons_succ]
        refine until_one 9 rfl (by kernel_rfl) rfl (fun K hK => ?_)
        simp only [Go.wp_at_zero, Go.wp_at_succ]
        refine wp_append_els (C := rcC) (k := 16) _ _ _ 34 rfl w4.heap.size 42 i0 _ 128 Try.underlying34 hi hz0 hz1 hz2 rfl (by decide) (.slice A5 n c5) n _ rfl own5 _ (some ⟨w4.heap.size, 0, none⟩) 1 1 [r] rfl elsB rfl rcC_len rcC_one (by unfold maxLen; omega) (by omega) (by omega) ?_
        intro A7 c7 w7 own7 g7 k7
        have hob5 : ∀ j, (Value.slice A5 n c5).ownBlock = some j → w4.heap.size ≤ j := fun j hj => (own5.lt j hj).1
        have hB7 : Below w4.heap.size w4 w7 := hBc.grown g7 (by omega) (fun j hj => by have := hob5 j hj; omega)
        have s7 := g7.size
        have hS7 : (fun w' : World => w'.cell? ⟨p, 0, none⟩ = some (.slice A n c) ∧ RcAt w' b 0 r) w7 := ⟨(g7.cell_far ⟨p, 0, none⟩ (show p < wc.heap.size by omega) (fun e => by have := hob5 p e.symm; omega)).trans hSc.1, CellsAt.of hSc.2 (g7.block b (by omega) (fun e => by have := hob5 b e.symm; omega))⟩
        have g9 : w7.frozen? ⟨p, 0, none⟩ = false := (hB7.frozen (p := ⟨p, 0, none⟩) lr4).trans f4
        refine hK.out _ _ (fun _ => hS7) ?_
        clear hK K
        simp only [Act.put, List.setIfInBounds_toArray, List.set_cons_zero, List.set_cons_succ]
        have hS9 : w7.cell? ⟨p, 0, none⟩ = some (.slice A n c) := hS7.1
        refine until_one 10 rfl (by kernel_rfl) rfl (fun K hK => ?_)
        go_simp
        refine hK.out _ _ (fun _ => hS7) ?_
        clear hK K
        refine until_one 11 rfl (by kernel_rfl) rfl (fun K hK => ?_)
        go_simp
        refine hK.out _ _ (fun _ => hS7) ?_
        clear hK K
        refine until_one 12 rfl (by kernel_rfl) rfl (fun K hK => ?_)
        go_simp
        refine hK.out _ _ (fun h => absurd h (by decide)) ?_
        clear hK K
        refine until_done (by kernel_rfl) ?_
        have HZ7 : Hid ((w7.setCell ⟨p, 0, none⟩ (.slice A7 (n + 1) c7)).heap[w.heap.size + 1]? = some (rcO GL.zr)) := Lib.hid ((Below.heap_setCell w7 ⟨p, 0, none⟩ _ _ hRBp).trans ((hB7.block _ hRB4).trans HR4.out.1))
        have HX7 : Hid (RcAt (w7.setCell ⟨p, 0, none⟩ (.slice A7 (n + 1) c7)) b 0 r) := Lib.hid (hS7.2.of (Below.heap_setCell w7 ⟨p, 0, none⟩ _ _ (by show b ≠ p; omega)))
        have HM := Lib.hid (And.intro (show w7.ownsRow w4.heap.size 42 16 (.slice A7 (n + 1) c7) (n + 1) (L.flatMap rcC ++ rcC r) by simpa using own7) (And.intro hB7 ((hB7.block p lr4).trans H4.out.obj)))
        clear hS hS7 hS9 hB7 own5 own7 g7 k7 hob5 g9
        go_wp2_with (first
          | (refine wpList_load_rc rfl _ rfl b 0 r rfl HX7.out ?_)
          | (refine wpList_store_rc rfl _ _ rfl (w.heap.size + 1) r rfl rfl GL.zr HZ7.out ?_))
        refine bodyPost_ret (results_rcn Try.results28 _ _ (w.heap.size + 1) r (.int .i64 0) rfl (setRow_rc (old := GL.zr) HZ7.out) rfl) rfl ?_
        exact RADD HE.out Hr.out Hn.out HM.out.1 HM.out.2.1 HM.out.2.2 hlt4 HR4.out.2 hp4 hRBp hRB4 HV.out.2

  · have HE : Hid (GL.addE L j.id = 4) := Lib.hid (by unfold GL.addE; rw [hh]; rfl)
    have HZ2 : Hid (w2.heap[w.heap.size + 1]? = some (rcO GL.zr)) := Lib.hid H2.out.2.2.1
    clear hx' hxi' hh
    go_wp2_with (refine wpList_store_rc rfl _ _ rfl (w.heap.size + 1) GL.zr rfl rfl GL.zr HZ2.out ?_)
    refine bodyPost_ret (results_rcn Try.results28 _ _ (w.heap.size + 1) GL.zr (.int .i64 4) rfl (setRow_rc (old := GL.zr) HZ2.out) rfl) rfl ?_
    refine ⟨?_, Same.out _ (below_row H2.out.2.2.2.1 (by omega) _) (by rw [HE.out]; decide)⟩
    unfold GL.addR
    rw [HE.out]; rfl
end Go.Proofs.Ytbomdannlcclkaa
