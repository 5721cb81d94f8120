/- Queues: Add. -/
import Derived.Deep.AppendLies
import Derived.RegionTactic
import Derived.Deep.DrawnRows
import Derived.BigRegion
import Derived.Test.YtdeniikaddlifaaHeldTo
import Derived.Test.YtdeniikaddlifaaOrdSort
import Derived.Test.YtdeniikaddlifaaQuRoom
import Derived.Test.YtdeniikaddlifaaQuFind
namespace Go.Proofs.Ytdeniikaddlifaa
open Go.RowKit
theorem QuAt.add {w w' w6 : World} {p g c k n gg cap' : Nat} {V : Nat → Value} {A : Option Addr} {m : Nat} {R : List Int} {L : List Wt} {x : Wt} (h : QuAt w p g c V R L) (hk : k < R.length) (hxq : x.q = (k : Int)) (hadd : QL.addE R L x = 0) (hn : n = (QL.rowL L k).length)
    (hV : V k = .slice A n m) (hown6 : w6.ownsRow 0 39 10 (.slice (some ⟨gg, 0, none⟩) (n + 1) cap') (n + 1) ((QL.rowL L k).flatMap wtC ++ wtC x)) (hgrow : (w.alloc (wtO x)).grownBy w6 (Value.slice A n m).ownBlock) (hat : (Value.slice A n m).ownBlock = some gg ∨ gg = w.heap.size + 1)
    (e : w' = w6.setCell ⟨g, k * 2 + 1, none⟩ (.slice (some ⟨gg, 0, none⟩) (n + 1) cap')) :
    QuAt w' p g c (fun j => if j = k then .slice (some ⟨gg, 0, none⟩) (n + 1) cap' else V j) R (QL.addL R L x) ∧ (∀ i, QuB R p g (fun j => if j = k then .slice (some ⟨gg, 0, none⟩) (n + 1) cap' else V j) i → QuB R p g V i ∨ w.heap.size ≤ i) ∧ Foot (QuB R p g V) w w' := by
  subst e
  have hrow : ∀ j, QL.rowL (QL.addL R L x) j = if x.q = (j : Int) then QL.rowL L j ++ [x] else QL.rowL L j := fun j => by
    unfold QL.addL; rw [if_pos hadd]; exact QL.row_add
  have hlp := h.lt p (.inl rfl)
  have hlg := h.lt g (.inr (.inl rfl))
  have hbk : ∀ b, (Value.slice A n m).ownBlock = some b → b ≠ p ∧ b ≠ g ∧ b < w.heap.size := fun b hb => by
    have h1 := h.ap k b hk (by rw [hV]; exact hb)
    exact ⟨h1.1, h1.2, h.lt b (.inr (.inr ⟨k, hk, by rw [hV]; exact hb⟩))⟩
  have hgg : gg ≠ g ∧ gg ≠ p := by
    rcases hat with e | e
    · have := hbk gg e; exact ⟨this.2.1, this.1⟩
    · constructor <;> omega
  have hgr : ∀ b, b < w.heap.size → (Value.slice A n m).ownBlock ≠ some b → w6.heap[b]? = w.heap[b]? := fun b hb hn => (hgrow.block b (by simp; omega) (Ne.symm hn)).trans (Below.heap_alloc w _ b hb)
  obtain ⟨h1, h2⟩ := h.wrote (w' := w6.setCell ⟨g, k * 2 + 1, none⟩ (.slice (some ⟨gg, 0, none⟩) (n + 1) cap')) (v := .slice (some ⟨gg, 0, none⟩) (n + 1) cap') hk (h.inv.add x)
    ((Below.heap_setCell w6 ⟨g, k * 2 + 1, none⟩ _ p h.pg).trans (hgr p hlp fun e => (hbk p e).1 rfl))
    (fun cur hc => blk_put _ ((hgr g hlg fun e => (hbk g e).2.1 rfl).trans hc))
    (by
      rw [hrow, if_pos hxq, List.length_append, ← hn, List.flatMap_append]
      have := own_stays (W' := w6.setCell ⟨g, k * 2 + 1, none⟩ (.slice (some ⟨gg, 0, none⟩) (n + 1) cap')) hown6 fun i hi => by
        have : i = gg := by simpa [Value.ownBlock] using hi.symm
        subst this
        exact Below.heap_setCell w6 ⟨g, k * 2 + 1, none⟩ _ _ hgg.1
      simpa using this)
    (fun j hj => by rw [hrow, if_neg (by omega)])
    (fun j b hj hne hb => by
      have hb2 := h.ap j b hj hb
      exact (Below.heap_setCell w6 ⟨g, k * 2 + 1, none⟩ _ b hb2.2).trans (hgr b (h.lt b (.inr (.inr ⟨j, hj, hb⟩))) (by rw [← hV]; exact h.ap2 j k b hj hk hne hb)))
    (fun b hb => by
      have : b = gg := by simpa [Value.ownBlock] using hb.symm
      subst this
      rcases hat with e | e
      · exact .inl (by rw [hV]; exact e)
      · exact .inr (by omega))
  refine ⟨h1, h2, (((Foot.refl _ w).alloc _).grown hgrow fun b hb => .inl (.inr (.inr ⟨k, hk, by rw [hV]; exact hb⟩))).setCell (.inl (.inr (.inl rfl))) _⟩
set_option maxRecDepth 100000 in
set_option maxHeartbeats 4000000 in
theorem add_q (p : Nat) (F : Nat → Prop) (R : List Int) (L : List Wt) (x : Wt) (w : World) (h : QuObj w p F R L) :
    Calls Try.prog 25 #[.pointer (some ⟨p, 0, none⟩), wtV x] w fun e w' => e = .returned (.int .i64 (QL.addE R L x)) ∧ ∃ F', QuObj w' p F' R (QL.addL R L x) ∧ Foot F w w' ∧ ∀ i, F' i → F i ∨ w.heap.size ≤ i := by
  obtain ⟨g, c, V, hQ, hF⟩ := h.ex
  obtain ⟨i0, hi, hz0, hz1, hz2⟩ := info_parts info_wt
  have hB1 := (Below.refl w.heap.size w).alloc (Nat.le_refl _) (wtO x)
  have hb := wt_new w x
  have a1 : (w.alloc (wtO x)).cell? ⟨w.heap.size, 1, none⟩ = some (.int .i64 x.q) := cell_blk (i := 1) hb rfl
  have a0 : (w.alloc (wtO x)).cell? ⟨w.heap.size, 0, none⟩ = some (.int .i64 x.id) := cell_blk (i := 0) hb rfl
  have hQ1 := hQ.keep hB1
  have hH := Lib.hid (has_q p g c V R L x.q _ hQ1)
  have HB1 := Lib.hid hB1
  have HQ1 := Lib.hid hQ1
  have HQ := Lib.hid (And.intro hQ hF)
  have HX := Lib.hid (wtAt_new hb)
  have lB1 : w.heap.size < (w.alloc (wtO x)).heap.size := blk_lt hb
  have Same : Hid (∀ w', Below w.heap.size w w' → QL.addE R L x ≠ 0 → ∃ F', QuObj w' p F' R (QL.addL R L x) ∧ Foot F w w' ∧ ∀ i, F' i → F i ∨ w.heap.size ≤ i) := Lib.hid (fun w' hw hne => by
    unfold QL.addL; rw [if_neg hne]
    exact ⟨F, ⟨g, c, V, hQ.keep hw, hF⟩, Foot.of_below hw, fun i hi => .inl hi⟩)
  cases hq : QL.hasQ R x.q
  · have he : QL.addE R L x = 3 := by
      unfold QL.addE
      rw [if_pos]
      have : ¬ (0 ≤ x.q ∧ x.q < (R.length : Int)) := by rw [← QL.hasQ_iff, hq]; simp
      omega
    rw [he]
    have HE := Lib.hid he
    rw [hq] at hH
    clear h hQ hF hB1 hb hQ1 hq he lB1
    simp only [wtV, wtA, wtO] at *
    go_enter Try.func25, Try.ntmps25
    go_wp2_with (go_at_call 30; refine hH.out.mono ?_; rintro e w2 ⟨rfl, rfl⟩)
    go_ret
    exact ⟨rfl, Same.out _ HB1.out (by rw [HE.out]; decide)⟩
  · obtain ⟨q0, q1⟩ := QL.hasQ_iff.1 hq
    obtain ⟨k, hxq⟩ : ∃ k : Nat, x.q = k := ⟨x.q.toNat, by omega⟩
    have hk : k < R.length := by omega
    rw [hq] at hH
    rw [hxq] at a1 hq hH
    have hro : QL.roomQ R L x.q = QL.roomOf R k - ((QL.rowL L k).length : Int) := by rw [hxq]; unfold QL.roomQ; rw [hq, if_pos rfl, Int.toNat_natCast]
    have HRo := Lib.hid (fun W (hW : QuAt W p g c V R L) => room_q p g c V R L x.q W hW)
    rw [hro, hxq] at HRo
    have HFi := Lib.hid (fun S W (hW : QuAt W p g c V R L) hS => find_q p g c V R L S x.id W hW hS)
    have hadd : QL.addE R L x = if QL.hasI L x.id then 4 else if QL.roomOf R k = ((QL.rowL L k).length : Int) then 2 else 0 := by
      unfold QL.addE; rw [if_neg (by omega), hxq, Int.toNat_natCast]
    have HADD := Lib.hid hadd
    have HK := Lib.hid (And.intro hk hxq)
    obtain ⟨_, _, A, m, hV, _⟩ := hQ.at_ hk
    have HOWN : Hid (∀ W, QuAt W p g c V R L → ∀ o, (W.alloc o).ownsRow 0 39 10 (.slice A (QL.rowL L k).length m) (QL.rowL L k).length ((QL.rowL L k).flatMap wtC)) := Lib.hid (fun W hW o => by rw [← hV]; exact (hW.own k hk).alloc o)
    have hr16 := hQ.inv.room k
    have hr8 := hQ.inv.r.hi
    obtain ⟨ro, hroo⟩ : ∃ ro, ro = QL.roomOf R k - ((QL.rowL L k).length : Int) := ⟨_, rfl⟩
    have HRV := Lib.hid hroo
    rw [← hroo] at HRo
    have HAP : Hid ((∀ b, (Value.slice A (QL.rowL L k).length m).ownBlock = some b → b ≠ p ∧ b ≠ g) ∧ ∀ b, (Value.slice A (QL.rowL L k).length m).ownBlock = some b → b < w.heap.size) := Lib.hid ⟨fun b hb => hQ.ap k b hk (by rw [hV]; exact hb), fun b hb => hQ.lt b (.inr (.inr ⟨k, hk, by rw [hV]; exact hb⟩))⟩
    have HV := Lib.hid hV
    obtain ⟨N, hN⟩ : ∃ N, N = R.length := ⟨_, rfl⟩
    have HN := Lib.hid hN
    rw [← hN] at hk hr8
    obtain ⟨n, hn⟩ : ∃ n, n = (QL.rowL L k).length := ⟨_, rfl⟩
    have Hn := Lib.hid hn
    rw [← hn] at HOWN HAP HV hr16 HRV
    clear h hQ hF hB1 hb hQ1 hq hadd hV hro hroo hN q0 q1 hxq hn
    simp only [wtV, wtA, wtO] at *
    go_enter Try.func25, Try.ntmps25
    go_wp2_with fail
    refine hH.out.mono ?_
    rintro e w2 ⟨rfl, rfl⟩
    clear hH
    go_wp2_with fail
    refine (ofid_q x.id _).mono ?_
    rintro e w2 ⟨S, rfl, hS, hb2⟩
    have HQ2 := Lib.hid (HQ1.out.keep hb2)
    have HB2 := Lib.hid (below_step HB1.out hb2)
    have hFi := HFi.out S w2 HQ2.out hS
    have lB2 := Nat.lt_of_lt_of_le lB1 hb2.size
    have hWx2 := HX.out.keep lB1 hb2
    have HX2 := Lib.hid hWx2
    clear HFi hS hb2 HQ1 a0 a1 lB1 HB1 hWx2 HX
    go_wp2_with fail
    refine hFi.mono ?_
    rintro e w3 ⟨hfo, hb3⟩
    have HB3 := Lib.hid (below_step HB2.out hb3)
    have HX3 := Lib.hid (HX2.out.keep lB2 hb3)
    have lB3 := Nat.lt_of_lt_of_le lB2 hb3.size
    have HQ3 := Lib.hid (HQ2.out.keep hb3)
    clear hb3 HQ2 hFi HX2 lB2
    rcases hfo with ⟨hno, rfl⟩ | ⟨k', i', y, _, hy, hid, rfl⟩
    · have HNO := Lib.hid hno
      have a1 : w3.cell? ⟨w.heap.size, 1, none⟩ = some (.int .i64 (k : Int)) := by have := HX3.out 1 _ rfl; rw [HK.out.2] at this; exact this
      have hRo := HRo.out w3 HQ3.out
      clear hno HRo HB2
      go_wp2_with fail
      refine hRo.mono ?_
      rintro e w4 ⟨rfl, hb4⟩
      have HB4a := Lib.hid (below_step HB3.out hb4)
      have HX4 := Lib.hid (HX3.out.keep lB3 hb4)
      have lB4 := Nat.lt_of_lt_of_le lB3 hb4.size
      have HQ4 := Lib.hid (HQ3.out.keep hb4)
      clear hb4 hRo HB3 HQ3 HX3 a1 lB3
      by_cases hz : ro = 0
      · have t1 : decide (ro = 0) = true := decide_eq_true hz
        have HE : Hid (QL.addE R L x = 2) := Lib.hid (by rw [HADD.out, HNO.out]; simp only [Bool.false_eq_true, if_false]; rw [if_pos (by have := HRV.out; rw [Hn.out] at this; omega)])
        subst hz
        go_wp2
        go_ret
        exact ⟨by rw [HE.out]; rfl, Same.out _ HB4a.out (by rw [HE.out]; decide)⟩
      · have t1 : decide (ro = 0) = false := decide_eq_false hz
        have HE : Hid (QL.addE R L x = 0) := Lib.hid (by rw [HADD.out, HNO.out]; simp only [Bool.false_eq_true, if_false]; rw [if_neg (by have := HRV.out; rw [Hn.out] at this; omega)])
        have c0 := HQ4.out.head
        rw [← HN.out] at c0
        have c2 := (HQ4.out.at_ HK.out.1).2.1
        rw [HV.out] at c2
        have f2 : w4.frozen? ⟨g, k * 2 + 1, none⟩ = false := by
          obtain ⟨cur, e1, _⟩ := HQ4.out.row
          exact frozen_blk e1
        have hWx : WtAt w4 w.heap.size 0 x := HX4.out
        have HB4 := Lib.hid HB4a.out
        have lg4 := HQ4.out.lt g (.inr (.inl rfl))
        have lp4 := HQ4.out.lt p (.inl rfl)
        have lw4 := HB4a.out.size
        clear HB4a HX4
        go_wp2_with fail
        refine wp_until (fun w' : World => w'.cell? ⟨g, k * 2 + 1, none⟩ = some (.slice A n m) ∧ WtAt w' w.heap.size 0 x) 10 (by kernel_rfl) ?_
        have hS : (fun w' : World => w'.cell? ⟨g, k * 2 + 1, none⟩ = some (.slice A n m) ∧ WtAt w' w.heap.size 0 x) w4.drew := ⟨c2, hWx⟩
        have f4 : w4.drew.frozen? ⟨g, k * 2 + 1, none⟩ = false := f2
        have H4 := Lib.hid (show Below w.heap.size w w4.drew ∧ QuAt w4.drew p g c V R L from ⟨HB4.out.drew, HQ4.out.keep (Below.refl _ _).drew⟩)
        have hsB : w.heap.size < w4.drew.heap.size := by show w.heap.size < w4.heap.size; omega
        have hsg : g < w4.drew.heap.size := by show g < w4.heap.size; omega
        have hsp : p < w4.drew.heap.size := by show p < w4.heap.size; omega
        have hsw : w.heap.size ≤ w4.drew.heap.size := by show w.heap.size ≤ w4.heap.size; omega
        clear c2 f2 hWx HB4 HQ4 lB4 lg4 lp4 lw4
        generalize w4.drew = w5 at hS f4 H4 hsB hsg hsp hsw ⊢
        refine until_take (v := ?_) 0 38 rfl rfl (by kernel_rfl) (by kernel_rfl) (by kernel_rfl) (by kernel_rfl) (fun _ _ _ h => h) ⟨by rfl, ?_⟩ hS ?_
        rotate_left
        · intro w' hw'; obtain ⟨x0, x1⟩ := hw'; go_simp; (try with_reducible rfl)
        simp only [Act.put, List.setIfInBounds_toArray, List.set_cons_zero, List.set_cons_succ]
        refine until_take (v := ?_) 1 39 rfl rfl (by kernel_rfl) (by kernel_rfl) (by kernel_rfl) (by kernel_rfl) (fun _ _ _ h => h) ⟨by rfl, ?_⟩ hS ?_
        rotate_left
        · intro w' hw'; obtain ⟨x0, x1⟩ := hw'; go_simp; (try with_reducible rfl)
        simp only [Act.put, List.setIfInBounds_toArray, List.set_cons_zero, List.set_cons_succ]
        refine until_take (v := ?_) 2 40 rfl rfl (by kernel_rfl) (by kernel_rfl) (by kernel_rfl) (by kernel_rfl) (fun _ _ _ h => h) ⟨by rfl, ?_⟩ hS ?_
        rotate_left
        · intro w' hw'; obtain ⟨x0, x1⟩ := hw'; go_simp; (try with_reducible rfl)
        simp only [Act.put, List.setIfInBounds_toArray, List.set_cons_zero, List.set_cons_succ]
        refine until_take (v := ?_) 3 41 rfl rfl (by kernel_rfl) (by kernel_rfl) (by kernel_rfl) (by kernel_rfl) (fun _ _ _ h => h) ⟨by rfl, ?_⟩ hS ?_
        rotate_left
        · intro w' hw'; obtain ⟨x0, x1⟩ := hw'; go_simp; (try with_reducible rfl)
        simp only [Act.put, List.setIfInBounds_toArray, List.set_cons_zero, List.set_cons_succ]
        refine until_take (v := ?_) 4 42 rfl rfl (by kernel_rfl) (by kernel_rfl) (by kernel_rfl) (by kernel_rfl) (fun _ _ _ h => h) ⟨by rfl, ?_⟩ hS ?_
        rotate_left
        · intro w' hw'; obtain ⟨x0, x1⟩ := hw'; go_simp; (try with_reducible rfl)
        simp only [Act.put, List.setIfInBounds_toArray, List.set_cons_zero, List.set_cons_succ]
        refine until_take (v := ?_) 5 43 rfl rfl (by kernel_rfl) (by kernel_rfl) (by kernel_rfl) (by kernel_rfl) (fun _ _ _ h => h) ⟨by rfl, ?_⟩ hS ?_
        rotate_left
        · intro w' hw'; obtain ⟨x0, x1⟩ := hw'; refine Eq.trans (run_load_wt (by rfl) (by rfl) x1) ?_; (with_reducible rfl)
        simp only [Act.put, List.setIfInBounds_toArray, List.set_cons_zero, List.set_cons_succ]
        simp only [wtA]
        refine until_one 6 rfl (by kernel_rfl) rfl (fun K hK => ?_)
        go_simp
        have hst := (Below.refl w5.heap.size w5).alloc (Nat.le_refl _) (.cells #[.int .i64 x.id, .int .i64 x.q, .int .i64 x.p, .int .i64 x.r, .int .i64 x.g, .int .i64 x.c, .int .i64 x.mn, .int .i64 x.mx, .int .i64 x.s, .int .i64 x.n] 39)
        have hS4 : (fun w' : World => w'.cell? ⟨g, k * 2 + 1, none⟩ = some (.slice A n m) ∧ WtAt w' w.heap.size 0 x) (w5.alloc (.cells #[.int .i64 x.id, .int .i64 x.q, .int .i64 x.p, .int .i64 x.r, .int .i64 x.g, .int .i64 x.c, .int .i64 x.mn, .int .i64 x.mx, .int .i64 x.s, .int .i64 x.n] 39)) := ⟨(hst.cell (p := ⟨g, k * 2 + 1, none⟩) hsg).trans hS.1, hS.2.keep hsB hst⟩
        refine hK.out _ _ (fun _ => hS4) ?_
        clear hK K
        refine until_one 7 rfl (by kernel_rfl) rfl (fun K hK => ?_)
        simp only [Go.wp_at_zero, Go.wp_at_succ]
        refine wp_append_lies _ _ _ 31 rfl 0 39 i0 _ 10 80 Try.underlying31 hi hz0 hz1 hz2 rfl (by omega) (.slice A n m) n ((QL.rowL L k).flatMap wtC) rfl (HOWN.out w5 H4.out.2 (wtO x)) ⟨w5.heap.size, 0, none⟩ 1 1 [.int .i64 x.id, .int .i64 x.q, .int .i64 x.p, .int .i64 x.r, .int .i64 x.g, .int .i64 x.c, .int .i64 x.mn, .int .i64 x.mx, .int .i64 x.s, .int .i64 x.n] rfl rfl (World.news_of_block (cs := #[.int .i64 x.id, .int .i64 x.q, .int .i64 x.p, .int .i64 x.r, .int .i64 x.g, .int .i64 x.c, .int .i64 x.mn, .int .i64 x.mx, .int .i64 x.s, .int .i64 x.n]) (t := 39) (fr := (0, 0)) (heap_alloc_new w5 _)) (by simp [Value.oneCell']) (by omega) (by unfold maxLen; omega) (by omega) (by simp) (w5.heap.size + 1) (by simp) ?_
        intro gg cap' w6 hown6 hgrow hat hlt6
        have hap := HAP.out
        have hnp : (Value.slice A n m).ownBlock ≠ some p := fun e => (hap.1 p e).1 rfl
        have hng : (Value.slice A n m).ownBlock ≠ some g := fun e => (hap.1 g e).2 rfl
        have hnB : (Value.slice A n m).ownBlock ≠ some w.heap.size := fun e => by have := hap.2 _ e; omega
        have hS5 : (fun w' : World => w'.cell? ⟨g, k * 2 + 1, none⟩ = some (.slice A n m) ∧ WtAt w' w.heap.size 0 x) w6 :=
          ⟨(hgrow.cell_far _ (by simp; omega) (Ne.symm hng)).trans hS4.1, fun j v hj => (hgrow.cell_far ⟨w.heap.size, 0 + j, none⟩ (by simp; omega) (Ne.symm hnB)).trans (hS4.2 j v hj)⟩
        have g4 := hS5.1
        have g5 : w6.frozen? ⟨g, k * 2 + 1, none⟩ = false := (hgrow.frozen_far ⟨g, k * 2 + 1, none⟩ (by simp; omega) (Ne.symm hng)).trans ((hst.frozen (p := ⟨g, k * 2 + 1, none⟩) hsg).trans f4)
        refine hK.out _ _ (fun _ => hS5) ?_
        clear hK K
        simp only [Act.put, List.setIfInBounds_toArray, List.set_cons_zero, List.set_cons_succ]
        refine until_one 8 rfl (by kernel_rfl) rfl (fun K hK => ?_)
        go_simp
        refine hK.out _ _ (fun _ => hS5) ?_
        clear hK K
        refine until_one 9 rfl (by kernel_rfl) rfl (fun K hK => ?_)
        go_simp
        refine hK.out _ _ (fun _ => hS5) ?_
        clear hK K
        refine until_one 10 rfl (by kernel_rfl) rfl (fun K hK => ?_)
        go_simp
        refine hK.out _ _ (fun h => absurd h (by decide)) ?_
        clear hK K
        refine until_done (by kernel_rfl) ?_
        go_wp2
        go_ret
        refine ⟨by rw [HE.out]; rfl, ?_⟩
        obtain ⟨z1, z2, z3⟩ := H4.out.2.add (w6 := w6) HK.out.1 HK.out.2 HE.out Hn.out HV.out (by simpa [wtC] using hown6) hgrow hat rfl
        have hFi := HQ.out.2
        refine ⟨_, ⟨g, c, _, z1, fun i => Iff.rfl⟩, (Foot.of_below (F := F) H4.out.1).trans z3 fun i hi => .inl ((hFi i).2 hi), fun i hi => ?_⟩
        rcases z2 i hi with e | e
        · exact .inl ((hFi i).2 e)
        · exact .inr (by omega)
    · have hh : QL.hasI L x.id = true := by
        rw [← hid]; exact (HQ.out.1.inv.get (QL.mem_row.1 (List.mem_of_getElem? hy)).1).2
      have HE : Hid (QL.addE R L x = 4) := Lib.hid (by rw [HADD.out, hh]; simp)
      clear hy hid hh
      go_wp2
      go_ret
      exact ⟨by rw [HE.out]; rfl, Same.out _ HB3.out (by rw [HE.out]; decide)⟩
end Go.Proofs.Ytdeniikaddlifaa
