/- A heap's put: one entry more. -/
import Derived.Test.YtdoaihmeldkahaaHeldTo
import Derived.Test.YtdoaihmeldkahaaTimerCut
set_option linter.unusedVariables false
namespace Go.Proofs.Ytdoaihmeldkahaa
open Go.RowKit

namespace TM
theorem heapX_end {H : List En} {x : En} (h : Heap (at_ H) H.length) : HeapX (at_ (H ++ [x])) (H.length + 1) H.length := by
  have he : ∀ j, j < H.length → at_ (H ++ [x]) j = at_ H j := fun j hj => by
    simp only [at_, List.getD_eq_getElem?_getD]
    rw [List.getElem?_append_left hj]
  exact ⟨fun j h1 h2 h3 h4 => by rw [he j (by omega), he _ (by omega)]; exact h j h1 (by omega), fun j h1 h2 h3 h4 => by omega⟩
theorem down_end {e : Nat → En} {m s : Nat} (h : DownX e m s) (hm : m ≤ 2 * s + 1) : Heap e m := fun j h1 h2 => h.1 j h1 h2 (by omega)
end TM
theorem info_en : (Try.prog.info? 62).map (fun i => (i.zero, i.size, i.bytes)) = some (some (.agg #[.int .i64 0, .int .i64 0]), 2, 16) := by kernel_rfl
theorem own_formT {w : World} {B k n : Nat} {t : TypeId} {v : Value} {xs : List Value} (h : w.ownsRow B t k v n xs) : ∃ A c, v = .slice A n c := by
  rcases h.2 with ⟨rfl, h0⟩ | ⟨g, cap, cur, rfl, _⟩
  · exact ⟨none, 0, by rw [h0]⟩
  · exact ⟨_, _, rfl⟩
set_option maxRecDepth 100000 in
set_option maxHeartbeats 4000000 in
theorem put_heap (p : Nat) (u v : Value) (H : List En) (x : En) (w : World) (h : HpAt w p u v H) (hh : TM.Heap (TM.at_ H) H.length) (hf : H.length ≤ 4500) :
    Calls Try.prog 20 #[.pointer (some ⟨p, 0, none⟩), enV x] w fun e w' => e = .returned (.tuple #[]) ∧ ∃ v' H', HpAt w' p u v' H' ∧ H'.Perm (x :: H) ∧ TM.Heap (TM.at_ H') H'.length ∧ (∀ j, v'.ownBlock = some j → v.ownBlock = some j ∨ w.heap.size ≤ j) ∧ Foot (pB p v) w w' := by
  obtain ⟨A', cp, rfl⟩ := own_formT h.row
  obtain ⟨i0, hi, hz0, hz1, hz2⟩ := info_parts info_en
  have hb1 : Below w.heap.size w (w.alloc (.cells #[.int .i64 x.i, .int .i64 x.k] 62)) := (Below.refl _ _).alloc (Nat.le_refl _) _
  have hN1 := heap_alloc_new w (.cells #[.int .i64 x.i, .int .i64 x.k] 62)
  obtain ⟨w1, hw1⟩ : ∃ w1, w1 = w.alloc (.cells #[.int .i64 x.i, .int .i64 x.k] 62) := ⟨_, rfl⟩
  rw [← hw1] at hb1 hN1
  have hs1 : w1.heap.size = w.heap.size + 1 := by rw [hw1]; simp
  have hA1 := h.keep hb1
  have hpl := h.lt.1
  have hon : ∀ j, (Value.slice A' H.length cp).ownBlock = some j → j ≠ p ∧ j < w.heap.size := fun j hj => ⟨h.ne j hj, h.lt.2 j hj⟩
  obtain ⟨n, hn⟩ : ∃ n, n = H.length := ⟨_, rfl⟩
  have H0 := Lib.hid (And.intro hh (And.intro hn (And.intro hA1 (And.intro hb1 hf))))
  obtain ⟨c0, f0⟩ := hA1.head
  obtain ⟨xk, xi⟩ := x
  have u0 : w1.cell? ⟨w.heap.size, 0, none⟩ = some (.int .i64 xi) := cell_blk (i := 0) hN1 rfl
  have u1 : w1.cell? ⟨w.heap.size, 1, none⟩ = some (.int .i64 xk) := cell_blk (i := 1) hN1 rfl
  rw [← hn] at c0 hon hf ⊢
  have HN := Lib.hid hon
  have HW := Lib.hid hw1
  clear h hh hn hA1 hb1 hN1 hw1 hon
  unfold enV
  simp only at HW ⊢
  go_enter Try.func20, Try.ntmps20
  go_wp2_with fail
  rw [← HW.out]
  refine wp_until (fun w' : World => w'.cell? ⟨p, 0, none⟩ = some (.slice A' n cp) ∧ w'.cell? ⟨w.heap.size, 0, none⟩ = some (.int .i64 xi) ∧ w'.cell? ⟨w.heap.size, 1, none⟩ = some (.int .i64 xk)) 10 (by kernel_rfl) ?_
  have hS : (fun w' : World => w'.cell? ⟨p, 0, none⟩ = some (.slice A' n cp) ∧ w'.cell? ⟨w.heap.size, 0, none⟩ = some (.int .i64 xi) ∧ w'.cell? ⟨w.heap.size, 1, none⟩ = some (.int .i64 xk)) w1.drew := ⟨c0, u0, u1⟩
  have f4 : w1.drew.frozen? ⟨p, 0, none⟩ = false := f0
  have H4 := Lib.hid (show Below w.heap.size w w1.drew ∧ HpAt w1.drew p u (.slice A' n cp) H from by
    have := H0.out.2.2.1.drew
    rw [← H0.out.2.1] at this
    exact ⟨H0.out.2.2.2.1.drew, this⟩)
  have hs4 : w.heap.size < w1.drew.heap.size := by show w.heap.size < w1.heap.size; omega
  clear c0 f0 u0 u1 hs1
  generalize w1.drew = w4 at hS f4 H4 hs4 ⊢
  refine until_take (v := ?_) 0 4 rfl rfl (by kernel_rfl) (by kernel_rfl) (by kernel_rfl) (by kernel_rfl) (fun _ _ _ h => h) ⟨by rfl, ?_⟩ hS ?_
  rotate_left
  · intro w' hw'; obtain ⟨x0, x1, x2⟩ := hw'; go_simp; (try with_reducible rfl)
  simp only [Act.put, List.setIfInBounds_toArray, List.set_cons_zero, List.set_cons_succ]
  refine until_take (v := ?_) 1 5 rfl rfl (by kernel_rfl) (by kernel_rfl) (by kernel_rfl) (by kernel_rfl) (fun _ _ _ h => h) ⟨by rfl, ?_⟩ hS ?_
  rotate_left
  · intro w' hw'; obtain ⟨x0, x1, x2⟩ := hw'; go_simp; (try with_reducible rfl)
  simp only [Act.put, List.setIfInBounds_toArray, List.set_cons_zero, List.set_cons_succ]
  refine until_take (v := ?_) 2 6 rfl rfl (by kernel_rfl) (by kernel_rfl) (by kernel_rfl) (by kernel_rfl) (fun _ _ _ h => h) ⟨by rfl, ?_⟩ hS ?_
  rotate_left
  · intro w' hw'; obtain ⟨x0, x1, x2⟩ := hw'; go_simp; (try with_reducible rfl)
  simp only [Act.put, List.setIfInBounds_toArray, List.set_cons_zero, List.set_cons_succ]
  refine until_take (v := ?_) 3 7 rfl rfl (by kernel_rfl) (by kernel_rfl) (by kernel_rfl) (by kernel_rfl) (fun _ _ _ h => h) ⟨by rfl, ?_⟩ hS ?_
  rotate_left
  · intro w' hw'; obtain ⟨x0, x1, x2⟩ := hw'; go_simp; (try with_reducible rfl)
  simp only [Act.put, List.setIfInBounds_toArray, List.set_cons_zero, List.set_cons_succ]
  refine until_take (v := ?_) 4 8 rfl rfl (by kernel_rfl) (by kernel_rfl) (by kernel_rfl) (by kernel_rfl) (fun _ _ _ h => h) ⟨by rfl, ?_⟩ hS ?_
  rotate_left
  · intro w' hw'; obtain ⟨x0, x1, x2⟩ := hw'; go_simp; (try with_reducible rfl)
  simp only [Act.put, List.setIfInBounds_toArray, List.set_cons_zero, List.set_cons_succ]
  refine until_take (v := ?_) 5 9 rfl rfl (by kernel_rfl) (by kernel_rfl) (by kernel_rfl) (by kernel_rfl) (fun _ _ _ h => h) ⟨by rfl, ?_⟩ hS ?_
  rotate_left
  · intro w' hw'; obtain ⟨x0, x1, x2⟩ := hw'; go_simp; (try with_reducible rfl)
  simp only [Act.put, List.setIfInBounds_toArray, List.set_cons_zero, List.set_cons_succ]
  refine until_one 6 rfl (by kernel_rfl) rfl (fun K hK => ?_)
  go_simp
  have hst := (Below.refl w4.heap.size w4).alloc (Nat.le_refl _) (.cells #[.int .i64 xi, .int .i64 xk] 62)
  have hS4 : (fun w' : World => w'.cell? ⟨p, 0, none⟩ = some (.slice A' n cp) ∧ w'.cell? ⟨w.heap.size, 0, none⟩ = some (.int .i64 xi) ∧ w'.cell? ⟨w.heap.size, 1, none⟩ = some (.int .i64 xk)) (w4.alloc (.cells #[.int .i64 xi, .int .i64 xk] 62)) :=
    ⟨(hst.cell (p := ⟨p, 0, none⟩) (show p < _ by omega)).trans hS.1, (hst.cell (p := ⟨w.heap.size, 0, none⟩) (show w.heap.size < _ by omega)).trans hS.2.1, (hst.cell (p := ⟨w.heap.size, 1, none⟩) (show w.heap.size < _ by omega)).trans hS.2.2⟩
  refine hK.out _ _ (fun _ => hS4) ?_
  clear hK K
  refine until_one 7 rfl (by kernel_rfl) rfl (fun K hK => ?_)
  simp only [Go.wp_at_zero, Go.wp_at_succ]
  refine wp_append_lies _ _ _ 55 rfl 0 62 i0 _ 2 16 Try.underlying55 hi hz0 hz1 hz2 rfl (by omega) (.slice A' n cp) n (H.flatMap enC) rfl (by have := H4.out.2.row; rw [← H0.out.2.1] at this; exact this.alloc _) ⟨w4.heap.size, 0, none⟩ 1 1 [.int .i64 xi, .int .i64 xk] rfl rfl (World.news_of_block (cs := #[.int .i64 xi, .int .i64 xk]) (t := 62) (fr := (0, 0)) (heap_alloc_new w4 _)) (by simp [Value.oneCell']) (by omega) (by unfold maxLen; omega) (by omega) (by simp) (w4.heap.size + 1) (by simp) ?_
  intro gg cap' w5 hown5 hgrow hat hlt5
  have hop : ∀ j, (Value.slice A' n cp).ownBlock = some j → j ≠ p ∧ j < w.heap.size := HN.out
  have hnp : (Value.slice A' n cp).ownBlock ≠ some p := fun e => (hop p e).1 rfl
  have hnb : (Value.slice A' n cp).ownBlock ≠ some w.heap.size := fun e => by have := (hop _ e).2; omega
  have hS5 : (fun w' : World => w'.cell? ⟨p, 0, none⟩ = some (.slice A' n cp) ∧ w'.cell? ⟨w.heap.size, 0, none⟩ = some (.int .i64 xi) ∧ w'.cell? ⟨w.heap.size, 1, none⟩ = some (.int .i64 xk)) w5 :=
    ⟨(hgrow.cell_far _ (by simp; omega) (Ne.symm hnp)).trans hS4.1, (hgrow.cell_far _ (by simp; omega) (Ne.symm hnb)).trans hS4.2.1, (hgrow.cell_far _ (by simp; omega) (Ne.symm hnb)).trans hS4.2.2⟩
  have g4 := hS5.1
  have g5 : w5.frozen? ⟨p, 0, none⟩ = false := (hgrow.frozen_far ⟨p, 0, none⟩ (by simp; omega) (Ne.symm hnp)).trans ((hst.frozen (p := ⟨p, 0, none⟩) (show p < _ by omega)).trans f4)
  refine hK.out _ _ (fun _ => hS5) ?_
  clear hK K
  simp only [Act.put, List.setIfInBounds_toArray, List.set_cons_zero, List.set_cons_succ]
  refine until_one 8 rfl (by kernel_rfl) rfl (fun K hK => ?_)
  go_simp
  refine hK.out _ _ (fun _ => hS5) ?_
  clear hK K
  refine until_one 9 rfl (by kernel_rfl) rfl (fun K hK => ?_)
  go_simp
  refine hK.out _ _ (fun _ => hS5) ?_
  clear hK K
  refine until_one 10 rfl (by kernel_rfl) rfl (fun K hK => ?_)
  go_simp
  refine hK.out _ _ (fun h => absurd h (by decide)) ?_
  clear hK K
  refine until_done (by kernel_rfl) ?_
  have hgp : gg ≠ p := by
    rcases hat with e | e
    · exact (hop gg e).1
    · omega
  have hpb5 : w5.heap[p]? = some (.cells #[.slice A' n cp, u] 59 (0, 0)) := (hgrow.block _ (by simp; omega) (Ne.symm hnp)).trans ((Below.heap_alloc w4 _ _ (by omega)).trans H4.out.2.obj)
  have hA6 : HpAt (w5.setCell ⟨p, 0, none⟩ (.slice (some ⟨gg, 0, none⟩) (n + 1) cap')) p u (.slice (some ⟨gg, 0, none⟩) (n + 1) cap') (H ++ [⟨xk, xi⟩]) := by
    have hl : (H ++ [(⟨xk, xi⟩ : En)]).length = n + 1 := by rw [List.length_append, H0.out.2.1]; rfl
    refine ⟨?_, ?_, by rw [hl]; omega⟩
    · have := blk_put (i := 0) (.slice (some ⟨gg, 0, none⟩) (n + 1) cap') hpb5
      simpa using this
    · rw [hl]
      have e : (H ++ [(⟨xk, xi⟩ : En)]).flatMap enC = H.flatMap enC ++ [.int .i64 xi, .int .i64 xk] := by rw [List.flatMap_append]; simp [enC]
      rw [e]
      refine own_stays hown5 fun i hi => ?_
      have : i = gg := by simpa [Value.ownBlock] using hi.symm
      subst this
      exact Below.heap_setCell w5 ⟨p, 0, none⟩ _ _ hgp
  have hF6 : Foot (pB p (.slice A' n cp)) w (w5.setCell ⟨p, 0, none⟩ (.slice (some ⟨gg, 0, none⟩) (n + 1) cap')) :=
    ((((Foot.of_below H4.out.1).alloc _).grown hgrow (fun k e => .inl (.inr e))).setCell (p := ⟨p, 0, none⟩) (.inl (.inl rfl)) _)
  have hR6 : ∀ j, (Value.slice (some ⟨gg, 0, none⟩) (n + 1) cap').ownBlock = some j → (Value.slice A' n cp).ownBlock = some j ∨ w.heap.size ≤ j := fun j hj => by
    have : j = gg := by simpa [Value.ownBlock] using hj.symm
    subst this
    rcases hat with e | e
    · exact .inl e
    · exact .inr (by omega)
  have H6 := Lib.hid (And.intro hA6 (And.intro hF6 hR6))
  clear hS hS4 hS5 hst hpb5 hA6 hF6 hR6 hown5 hgrow hat g4 g5 f4 hop hnp hnb
  generalize w5.setCell ⟨p, 0, none⟩ (.slice (some ⟨gg, 0, none⟩) (n + 1) cap') = W at H6 ⊢
  obtain ⟨c6, _⟩ := H6.out.1.head
  have HR := Lib.hid (rise_any p u (.slice (some ⟨gg, 0, none⟩) (n + 1) cap') _ n W H6.out.1 (by rw [List.length_append, H0.out.2.1]; simp) (by rw [List.length_append, H0.out.2.1]; exact TM.heapX_end H0.out.1))
  go_wp2_with fail
  try rw [show ((n : Int) + 1) - 1 = (n : Int) by omega]
  (with_reducible refine HR.out.mono ?_)
  rintro e w7 ⟨rfl, H7, hA7, hP7, hD7, hF7⟩
  go_wp2_with fail
  go_end0
  refine ⟨rfl, _, H7, hA7, hP7.trans (List.perm_append_singleton _ _), TM.down_end hD7 ?_, H6.out.2.2, H6.out.2.1.trans hF7 fun i hi => ?_⟩
  · rw [hP7.length_eq, List.length_append, ← H0.out.2.1]; simp; omega
  · rcases H6.out.2.2 i hi with e | e
    · exact .inl (.inr e)
    · exact .inr e
end Go.Proofs.Ytdoaihmeldkahaa
