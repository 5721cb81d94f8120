/- The document's Units of slots; masks that are apart; where a spot is. -/
import Derived.Deep.QuietTactic
import Derived.BigQuiet
import Derived.StillTail
import Derived.StillTailTactics
import Derived.Laws.StructEq
import Derived.Test.YtgpfmlidchogcaaGreatLedCore
import Derived.Test.YtgpfmlidchogcaaGreatMaskZ
import Derived.Test.YtgpfmlidchogcaaGreatKitZ
set_option maxRecDepth 100000
set_option linter.unusedVariables false
namespace Go.Proofs.YtgpfmlidchogcaaGreat
open Go.RowKit

theorem units_at8 {w : World} {B : Nat} {v : Value} {m : Nat} (h : w.ownsRow B 3 1 v (MM.cnt m) (ints (MM.units m))) : ∃ A c, v = .slice A (MM.cnt m) c ∧ (MM.cnt m = 0 ∨ ∃ g, A = some ⟨g, 0, none⟩ ∧ g < w.heap.size ∧ ∀ i k, (MM.units m)[i]? = some k → w.cell? ⟨g, i, none⟩ = some (.int .i64 (k : Nat))) := by
 rcases h.2 with ⟨rfl, h0⟩ | ⟨g, cap, cur, rfl, _⟩
 ·exact ⟨none, 0, by rw [h0], .inl h0⟩
 ·refine ⟨_, _, rfl, .inr ⟨g, rfl, (h.lt g rfl).2, fun i k hk => ?_⟩⟩
  have hi := (List.getElem?_eq_some_iff.1 hk).1
  have e := h.cellAt i (by have : (MM.units m).length = MM.cnt m := rfl; omega)
  rw [e]
  simp [ints, hk]
set_option maxHeartbeats 4000000 in
theorem refunits8_any (A : Option Addr) (c : Nat) (l : List PM.Sl) (w : World) (hl : Slots w w.heap.size A l) (hs : ∀ s ∈ l, SlIn s) (hn : l.length ≤ 16) :
  Calls Tryz.prog 113 #[.slice A l.length c] w fun e w' => e = .returned (unV (LM.units l)) ∧ Below w.heap.size w w' := by
 obtain ⟨n, hnl⟩ : ∃ n, l.length = n := ⟨_, rfl⟩
 rw [hnl] at hn ⊢
 obtain ⟨U, hU⟩ : ∃ U, U = w.heap.size + 1 := ⟨_, rfl⟩
 obtain ⟨w2, hw2⟩ : ∃ w2, w2 = (w.alloc (.cells #[.int .i64 0, .int .i64 0] 57)).alloc (.cells #[.int .i64 0, .int .i64 0] 57) := ⟨_, rfl⟩
 have hB2 : Below w.heap.size w w2 := by rw [hw2]; exact ((Below.refl w.heap.size w).alloc (Nat.le_refl _) _).alloc (by simp) _
 have rR : w2.heap[w.heap.size]? = some (.cells #[.int .i64 0, .int .i64 0] 57 (0, 0)) := by
  rw [hw2]; exact (Below.heap_alloc _ _ _ (by simp)).trans (heap_alloc_new w _)
 have rU : w2.heap[U]? = some (.cells #[.int .i64 0, .int .i64 0] 57 (0, 0)) := by
  rw [hw2, hU]; have := heap_alloc_new (w.alloc (.cells #[.int .i64 0, .int .i64 0] 57)) (.cells #[.int .i64 0, .int .i64 0] 57); simpa using this
 have hUw : w.heap.size < U := by omega
 have RR := Lib.hid rR
 have RU := Lib.hid rU
 have HB2 := Lib.hid hB2
 have Q := Lib.hid (And.intro hl (And.intro hs hnl))
 have HW2 := Lib.hid hw2
 have HU := Lib.hid hU
 clear rR rU hB2 hl hs hnl hw2 hU
 go_enter Tryz.func113, Tryz.ntmps113
 go_wp2
 rw [← HU.out, ← HW2.out]
 go_loopw [4] (fun i wr => ∃ (k : Nat) (G C : Int), i = .int .i64 k ∧ k ≤ n ∧ Below w.heap.size w wr ∧ Hid (G = (LM.units (l.take k)).g) ∧ Hid (C = (LM.units (l.take k)).c) ∧ Hid (wr.heap[w.heap.size]? = some (.cells #[.int .i64 0, .int .i64 0] 57 (0, 0))) ∧ Hid (wr.heap[U]? = some (.cells #[.int .i64 G, .int .i64 C] 57 (0, 0)))) (fun i _ => n - (intOf i).toNat)
 case atStart => exact ⟨0, 0, 0, rfl, by omega, HB2.out, Lib.hid rfl, Lib.hid rfl, RR, RU⟩
 case round =>
  obtain ⟨k, G, C, rfl, hk, hBl, hG, hC, hR, hTt⟩ := hrel
  have hBs := hBl.size
  by_cases hlt : k < n
  ·obtain ⟨hl, hs, hnl⟩ := Q.out
   obtain ⟨f, hx⟩ := get_lt (l := l) (k := k) (by rw [hnl]; exact hlt)
   obtain ⟨b, off, rfl, hb, hall⟩ := hl.at_ hx
   obtain ⟨f0, f1, f2, f3⟩ := (hall k f hx).keep hb hBl
   have t0 : decide (k < n) = true := by simpa using hlt
   have hfs := hs f (List.mem_of_getElem? hx)
   have hq := LM.units_le (l := l.take k) fun y hy => hs y (List.mem_of_mem_take hy)
   rw [List.length_take] at hq
   have bG : 0 ≤ G ∧ G ≤ 64000 := by rw [hG.out]; omega
   have bC : 0 ≤ C ∧ C ≤ 1024000 := by rw [hC.out]; omega
   have gT : U < wr.heap.size := blk_lt hTt.out
   have lb : b < wr.heap.size := by omega
   have hbU : b ≠ U := by omega
   have c0 : wr.cell? ⟨U, 0, none⟩ = some (.int .i64 G) := cell_blk (i := 0) hTt.out rfl
   obtain ⟨cm, hcm⟩ : ∃ cm, cm = MM.cnt f.m := ⟨_, rfl⟩
   have CN := Lib.hid (refunits_own f.m hfs.ok.m)
   have hcnt : cm ≤ 64 := by rw [hcm]; exact MM.cnt_le f.m
   have wG : IntKind.i64.wrap (G + (cm : Int)) = G + (cm : Int) := IntWalk.i64_in _ (by omega)
   have NX := Lib.hid (LM.units_next hx)
   have HF3 := Lib.hid f3
   have HBl := Lib.hid hBl
   have HCN := Lib.hid hcm
   have fc0 := hfs.c0
   have fc1 := hfs.c1
   clear hx hfs hq hall hl hs hnl f0 f1 f3 hBl hcm
   go_wp2_with fail
   refine wp_until (fun w' : World => w'.cell? ⟨U, 0, none⟩ = some (.int .i64 G) ∧ w'.cell? ⟨b, off + k * 4 + 2, none⟩ = some (.int .u64 (f.m : Nat))) 11 (by kernel_rfl) ?_
   have hBh0 : Below wr.heap.size wr wr.drew := (Below.refl _ _).drew
   have hSh0 : (fun w' : World => w'.cell? ⟨U, 0, none⟩ = some (.int .i64 G) ∧ w'.cell? ⟨b, off + k * 4 + 2, none⟩ = some (.int .u64 (f.m : Nat))) wr.drew := ⟨c0, f2⟩
   refine until_take (v := ?_) 0 12 rfl rfl (by kernel_rfl) (by kernel_rfl) (by kernel_rfl) (by kernel_rfl) (fun _ _ _ h => h) ⟨by rfl, ?_⟩ hSh0 ?_
   rotate_left
   ·intro w' hw'; obtain ⟨x0, x1⟩ := hw'; go_simp; (try with_reducible rfl)
   simp only [Act.put, pzA, pzB, pzC]
   refine until_take (v := ?_) 1 13 rfl rfl (by kernel_rfl) (by kernel_rfl) (by kernel_rfl) (by kernel_rfl) (fun _ _ _ h => h) ⟨by rfl, ?_⟩ hSh0 ?_
   rotate_left
   ·intro w' hw'; obtain ⟨x0, x1⟩ := hw'; go_simp; (try with_reducible rfl)
   simp only [Act.put, pzA, pzB, pzC]
   refine until_take (v := ?_) 2 14 rfl rfl (by kernel_rfl) (by kernel_rfl) (by kernel_rfl) (by kernel_rfl) (fun _ _ _ h => h) ⟨by rfl, ?_⟩ hSh0 ?_
   rotate_left
   ·intro w' hw'; obtain ⟨x0, x1⟩ := hw'; go_simp; (try with_reducible rfl)
   simp only [Act.put, pzA, pzB, pzC]
   refine until_take (v := ?_) 3 15 rfl rfl (by kernel_rfl) (by kernel_rfl) (by kernel_rfl) (by kernel_rfl) (fun _ _ _ h => h) ⟨by rfl, ?_⟩ hSh0 ?_
   rotate_left
   ·intro w' hw'; obtain ⟨x0, x1⟩ := hw'; go_simp; (try with_reducible rfl)
   simp only [Act.put, pzA, pzB, pzC]
   refine until_take (v := ?_) 4 16 rfl rfl (by kernel_rfl) (by kernel_rfl) (by kernel_rfl) (by kernel_rfl) (fun _ _ _ h => h) ⟨by rfl, ?_⟩ hSh0 ?_
   rotate_left
   ·intro w' hw'; obtain ⟨x0, x1⟩ := hw'; go_simp; (try with_reducible rfl)
   simp only [Act.put, pzA, pzB, pzC]
   refine until_take (v := ?_) 5 17 rfl rfl (by kernel_rfl) (by kernel_rfl) (by kernel_rfl) (by kernel_rfl) (fun _ _ _ h => h) ⟨by rfl, ?_⟩ hSh0 ?_
   rotate_left
   ·intro w' hw'; obtain ⟨x0, x1⟩ := hw'; go_simp; (try with_reducible rfl)
   simp only [Act.put, pzA, pzB, pzC]
   refine until_take (v := ?_) 6 18 rfl rfl (by kernel_rfl) (by kernel_rfl) (by kernel_rfl) (by kernel_rfl) (fun _ _ _ h => h) ⟨by rfl, ?_⟩ hSh0 ?_
   rotate_left
   ·intro w' hw'; obtain ⟨x0, x1⟩ := hw'; go_simp; (try with_reducible rfl)
   simp only [Act.put, pzA, pzB, pzC]
   refine until_one 7 rfl (by kernel_rfl) rfl (fun K hK => ?_)
   go_simp
   go_at_call 142
   refine (CN.out wr.drew).mono ?_
   rintro e wh1 ⟨v, rfl, ho, hbh1⟩
   have hBh1 : Below wr.heap.size wr wh1 := below_step hBh0 hbh1
   have hSh1 : (fun w' : World => w'.cell? ⟨U, 0, none⟩ = some (.int .i64 G) ∧ w'.cell? ⟨b, off + k * 4 + 2, none⟩ = some (.int .u64 (f.m : Nat))) wh1 := ⟨(hBh1.cell (p := ⟨U, 0, none⟩) (gT)).trans c0, (hBh1.cell (p := ⟨b, off + k * 4 + 2, none⟩) (lb)).trans f2⟩
   obtain ⟨Av, cv, rfl, _⟩ := units_at8 ho
   rw [← HCN.out]
   clear ho
   refine hK.out _ _ (fun _ => hSh1) ?_
   clear hK K
   refine until_take (v := ?_) 8 20 rfl rfl (by kernel_rfl) (by kernel_rfl) (by kernel_rfl) (by kernel_rfl) (fun _ _ _ h => h) ⟨by rfl, ?_⟩ hSh1 ?_
   rotate_left
   ·intro w' hw'; obtain ⟨x0, x1⟩ := hw'; go_simp; (try with_reducible rfl)
   simp only [Act.put, pzA, pzB, pzC]
   refine until_take (v := ?_) 9 21 rfl rfl (by kernel_rfl) (by kernel_rfl) (by kernel_rfl) (by kernel_rfl) (fun _ _ _ h => h) ⟨by rfl, ?_⟩ hSh1 ?_
   rotate_left
   ·intro w' hw'; obtain ⟨x0, x1⟩ := hw'; go_simp; (try with_reducible rfl)
   simp only [Act.put, pzA, pzB, pzC]
   refine until_one 10 rfl (by kernel_rfl) rfl (fun K hK => ?_)
   go_simp
   refine hK.out _ _ (fun _ => hSh1) ?_
   clear hK K
   try simp only [Act.put, pzA, pzB, pzC]
   refine until_one 11 rfl (by kernel_rfl) rfl (fun K hK => ?_)
   have bU1 := (hBh1.block U gT).trans hTt.out
   have z01 : wh1.frozen? ⟨U, 0, none⟩ = false := frozen_blk bU1
   have c01 : wh1.cell? ⟨U, 0, none⟩ = some (.int .i64 G) := cell_blk (i := 0) bU1 rfl
   go_simp
   refine hK.out _ _ (fun h => absurd h (by decide)) ?_
   clear hK K
   refine until_done (by kernel_rfl) ?_
   obtain ⟨W, hW⟩ : ∃ W, W = wh1.setCell ⟨U, 0, none⟩ (.int .i64 (G + cm)) := ⟨_, rfl⟩
   have bT : W.heap[U]? = some (.cells #[.int .i64 (G + cm), .int .i64 C] 57 (0, 0)) := by rw [hW]; exact blk_put (i := 0) _ ((hBh1.block U gT).trans hTt.out)
   have bR : W.heap[w.heap.size]? = some (.cells #[.int .i64 0, .int .i64 0] 57 (0, 0)) := by rw [hW]; exact (Below.heap_setCell _ _ _ _ (by simp; omega)).trans ((hBh1.block _ (by omega)).trans hR.out)
   have hBW : Below w.heap.size w W := by rw [hW]; exact (HBl.out.trans (hBh1.mono hBs)).setCell (by simp; omega) _
   have y1 : W.cell? ⟨U, 1, none⟩ = some (.int .i64 C) := cell_blk (i := 1) bT rfl
   have z1 : W.frozen? ⟨U, 1, none⟩ = false := frozen_blk bT
   have f3 : W.cell? ⟨b, off + k * 4 + 3, none⟩ = some (.int .i64 f.c) := by rw [hW]; exact (World.cell?_of_block (Below.heap_setCell _ _ _ _ (by simp; omega))).trans ((hBh1.cell (p := ⟨b, off + k * 4 + 3, none⟩) lb).trans HF3.out)
   have YR := Lib.hid bR
   have YT := Lib.hid bT
   have HW := Lib.hid hBW
   have gW : U < W.heap.size := blk_lt bT
   have lW : b < W.heap.size := Nat.lt_of_lt_of_le hb HW.out.size
   rw [← hW]
   clear hW bR bT hBW hBh0 hBh1 hSh0 hSh1 hbh1 c0 f2
   go_wp2_with fail
   go_still_tail 9, (by kernel_rfl)
   change wpList _ _ _ _ _ W.drew
   go_wp2
   go_roundw
   case rel =>
    refine ⟨k + 1, G + cm, C + f.c, by go_num, by omega, (HW.out.drew.setCell (by simp; omega) _), Lib.hid (by rw [NX.out, hG.out, HCN.out]), Lib.hid (by rw [NX.out, hC.out]), Lib.hid ?_, Lib.hid ?_⟩
    ·exact (Below.heap_setCell _ _ _ _ (by simp; omega)).trans YR.out
    ·exact blk_put (i := 1) (.int .i64 (C + f.c)) YT.out
   case measure => simp [intOf]; omega
  ·obtain rfl : k = n := by omega
   have gT : U < wr.heap.size := blk_lt hTt.out
   obtain ⟨x0, x1⟩ := cells2 hTt.out
   have y0 : wr.cell? ⟨w.heap.size, 0, none⟩ = some (.int .i64 0) := cell_blk (i := 0) hR.out rfl
   have y1 : wr.cell? ⟨w.heap.size, 1, none⟩ = some (.int .i64 0) := cell_blk (i := 1) hR.out rfl
   have z0 : wr.frozen? ⟨w.heap.size, 0, none⟩ = false := frozen_blk hR.out
   have z1 : wr.frozen? ⟨w.heap.size, 1, none⟩ = false := frozen_blk hR.out
   clear hlt
   go_wp2
   refine bodyPost_ret (v := .agg #[.int .i64 G, .int .i64 C]) (by simp [results, Tryz.results113, go_sem, y0, y1]) rfl ?_
   have e : l.take k = l := by rw [← Q.out.2.2]; exact List.take_length
   refine ⟨?_, (hBl.setCell (Nat.le_refl _) _).setCell (Nat.le_refl _) _⟩
   rw [hG.out, hC.out, e]; rfl
end Go.Proofs.YtgpfmlidchogcaaGreat
