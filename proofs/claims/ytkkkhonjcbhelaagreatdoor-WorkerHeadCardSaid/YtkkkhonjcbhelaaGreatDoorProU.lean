import Derived.Test.YtkkkhonjcbhelaaGreatDoorProS
set_option maxRecDepth 100000
set_option linter.unusedVariables false
namespace Go.Proofs.YtkkkhonjcbhelaaGreatDoor
section
open Go.RowKit
open PR
theorem units_at8 {w : World} {B : Nat} {v : Value} {m : Nat} (h : w.ownsRow B 3 1 v (MM.cnt m) (ints (MM.units m))) : ∃ A c, v = .slice A (MM.cnt m) c ∧ (MM.cnt m = 0 ∨ ∃ g, A = some ⟨g, 0, none⟩ ∧ g < w.heap.size ∧ ∀ i k, (MM.units m)[i]? = some k → w.cell? ⟨g, i, none⟩ = some (.int .i64 (k : Nat))) := by
 rcases h.2 with ⟨rfl, h0⟩ | ⟨g, cap, cur, rfl, _⟩
 ·exact ⟨none, 0, by rw [h0], .inl h0⟩
 ·refine ⟨_, _, rfl, .inr ⟨g, rfl, (h.lt g rfl).2, fun i k hk => ?_⟩⟩;have hi := (List.getElem?_eq_some_iff.1 hk).1;have e := h.cellAt i (by have : (MM.units m).length = MM.cnt m := rfl; omega);rw [e];simp [ints, hk]
set_option maxHeartbeats 4000000 in
theorem refunits8_any (A : Option Addr) (c : Nat) (l : List Fe) (w : World) (hl : Fes w w.heap.size A l) (hs : Low l) (hn : l.length ≤ 1000) :
  Calls Tryz.prog 33 #[.slice A l.length c] w fun e w' => e = .returned (.agg #[.int .i64 (gs l : Nat), .int .i64 (cs l)]) ∧ Below w.heap.size w w' := by
 obtain ⟨n, hnl⟩ : ∃ n, l.length = n := ⟨_, rfl⟩
 rw [hnl] at hn ⊢;obtain ⟨U, hU⟩ := nx (w.heap.size + 1);obtain ⟨w2, hw2⟩ := nx ((w.alloc (.cells #[.int .i64 0, .int .i64 0] 42)).alloc (.cells #[.int .i64 0, .int .i64 0] 42));have hB2 : Below w.heap.size w w2 := by rw [hw2]; exact ((Below.refl w.heap.size w).alloc (Nat.le_refl _) _).alloc (by simp) _
 have rR : w2.heap[w.heap.size]? = some (.cells #[.int .i64 0, .int .i64 0] 42 (0, 0)) := by
  rw [hw2]; exact (Below.heap_alloc _ _ _ (by simp)).trans (heap_alloc_new w _)
 have rU : w2.heap[U]? = some (.cells #[.int .i64 0, .int .i64 0] 42 (0, 0)) := by
  rw [hw2, hU]; have := heap_alloc_new (w.alloc (.cells #[.int .i64 0, .int .i64 0] 42)) (.cells #[.int .i64 0, .int .i64 0] 42); simpa using this
 have hUw : w.heap.size < U := by omega
 have RR := Hq rR;have RU := Hq rU;have HB2 := Hq hB2;have Q := Hq (Ai hl (Ai hs hnl));have HW2 := Hq hw2;have HU := Hq hU;clear rR rU hB2 hl hs hnl hw2 hU;go_enter Tryz.func33, Tryz.ntmps33;go_wp2;rw [← HU.out, ← HW2.out];go_loopw [4] (fun i wr => ∃ (k : Nat) (G C : Int), i = .int .i64 k ∧ k ≤ n ∧ Below w.heap.size w wr ∧ Hid (G = (gs (l.take k) : Nat)) ∧ Hid (C = cs (l.take k)) ∧ Hid (wr.heap[w.heap.size]? = some (.cells #[.int .i64 0, .int .i64 0] 42 (0, 0))) ∧ Hid (wr.heap[U]? = some (.cells #[.int .i64 G, .int .i64 C] 42 (0, 0)))) (fun i _ => n - (intOf i).toNat)
 case atStart => exact ⟨0, 0, 0, rfl, by omega, HB2.out, Hq rfl, Hq rfl, RR, RU⟩
 case round =>
  obtain ⟨k, G, C, rfl, hk, hBl, hG, hC, hR, hTt⟩ := hrel;have hBs := hBl.size;by_cases hlt : k < n
  ·obtain ⟨hl, hs, hnl⟩ := Q.out;obtain ⟨f, hx⟩ := get_lt (l := l) (k := k) (by rw [hnl]; exact hlt);obtain ⟨b, off, rfl, hb, hall⟩ := hl.at_ hx;obtain ⟨f0, f1, f2, f3⟩ := (hall k f hx).keep hb hBl;have t0 : decide (k < n) = true := by simpa using hlt
   have hfs := hs f (List.mem_of_getElem? hx);have hq1 := gs_le (l.take k);have hq2 := cs_le (l := l.take k) fun y hy => (hs y (List.mem_of_mem_take hy)).2
   rw [List.length_take] at hq1 hq2;have bG : 0 ≤ G ∧ G ≤ 64000 := by rw [hG.out]; omega
   have bC : 0 ≤ C ∧ C ≤ 2000000000 := by rw [hC.out]; omega
   have gT : U < wr.heap.size := blk_lt hTt.out;have lb : b < wr.heap.size := (by omega);have hbU : b ≠ U := (by omega);have c0 : wr.cell? ⟨U, 0, none⟩ = some (.int .i64 G) := cell_blk (i := 0) hTt.out rfl;obtain ⟨cm, hcm⟩ := nx (MM.cnt f.m);have CN := Hq (refunits_own f.m hfs.1.m);have hcnt : cm ≤ 64 := by rw [hcm]; exact MM.cnt_le f.m
   have wG : IntKind.i64.wrap (G + (cm : Int)) = G + (cm : Int) := IntWalk.i64_in _ (by omega);have NX1 := Hq (gs_next hx);have NX2 := Hq (cs_next hx);have HF3 := Hq f3;have HBl := Hq hBl;have HCN := Hq hcm;have fc0 := hfs.2.1;have fc1 := hfs.2.2;clear hx hfs hq1 hq2 hall hl hs hnl f0 f1 f3 hBl hcm;go_wp2_with fail;refine wp_until (fun w' : World => w'.cell? ⟨U, 0, none⟩ = some (.int .i64 G) ∧ w'.cell? ⟨b, off + k * 4 + 2, none⟩ = some (.int .u64 (f.m : Nat))) 11 (by kernel_rfl) ?_;have hBh0 : Below wr.heap.size wr wr.drew := (Below.refl _ _).drew;have hSh0 := Ai c0 f2;refine tkB 0 12 hSh0 ?_;refine tkB 1 13 hSh0 ?_;refine tkB 2 14 hSh0 ?_;refine tkB 3 15 hSh0 ?_;refine tkB 4 16 hSh0 ?_;refine tkB 5 17 hSh0 ?_;refine tkB 6 18 hSh0 ?_;refine until_one 7 rfl (by kernel_rfl) rfl (fun K hK => ?_);go_simp
   go_at_call 45
   refine (CN.out wr.drew).mono ?_;rintro e wh1 ⟨v, rfl, ho, hbh1⟩;have hBh1 : Below wr.heap.size wr wh1 := below_step hBh0 hbh1;have hSh1 := Ai ((hBh1.cell (p := ⟨U, 0, none⟩) (gT)).trans c0) ((hBh1.cell (p := ⟨b, off + k * 4 + 2, none⟩) (lb)).trans f2);obtain ⟨Av, cv, rfl, _⟩ := units_at8 ho;rw [← HCN.out];clear ho;refine hK.out _ _ (fun _ => hSh1) ?_;clear hK K;refine tkB 8 20 hSh1 ?_;refine tkB 9 21 hSh1 ?_;refine until_one 10 rfl (by kernel_rfl) rfl (fun K hK => ?_);go_simp;refine hK.out _ _ (fun _ => hSh1) ?_;clear hK K;try simp only [Act.put, pzA, pzB, pzC]
   refine until_one 11 rfl (by kernel_rfl) rfl (fun K hK => ?_);have bU1 := (hBh1.block U gT).trans hTt.out;have z01 : wh1.frozen? ⟨U, 0, none⟩ = false := frozen_blk bU1;have c01 : wh1.cell? ⟨U, 0, none⟩ = some (.int .i64 G) := cell_blk (i := 0) bU1 rfl;go_simp;refine hK.out _ _ (fun h => absurd h (by decide)) ?_;clear hK K;refine until_done (by kernel_rfl) ?_;obtain ⟨W, hW⟩ := nx (wh1.setCell ⟨U, 0, none⟩ (.int .i64 (G + cm)));have bT : W.heap[U]? = some (.cells #[.int .i64 (G + cm), .int .i64 C] 42 (0, 0)) := by rw [hW]; exact blk_put (i := 0) _ ((hBh1.block U gT).trans hTt.out)
   have bR : W.heap[w.heap.size]? = some (.cells #[.int .i64 0, .int .i64 0] 42 (0, 0)) := by rw [hW]; exact (Below.heap_setCell _ _ _ _ (by simp; omega)).trans ((hBh1.block _ (by omega)).trans hR.out)
   have hBW : Below w.heap.size w W := by rw [hW]; exact (HBl.out.trans (hBh1.mono hBs)).setCell (by simp; omega) _
   have y1 : W.cell? ⟨U, 1, none⟩ = some (.int .i64 C) := cell_blk (i := 1) bT rfl;have z1 : W.frozen? ⟨U, 1, none⟩ = false := frozen_blk bT;have f3 : W.cell? ⟨b, off + k * 4 + 3, none⟩ = some (.int .i64 f.c) := by rw [hW]; exact (World.cell?_of_block (Below.heap_setCell _ _ _ _ (by simp; omega))).trans ((hBh1.cell (p := ⟨b, off + k * 4 + 3, none⟩) lb).trans HF3.out)
   have YR := Hq bR;have YT := Hq bT;have HW := Hq hBW;have gW : U < W.heap.size := blk_lt bT;have lW : b < W.heap.size := Nat.lt_of_lt_of_le hb HW.out.size;rw [← hW];clear hW bR bT hBW hBh0 hBh1 hSh0 hSh1 hbh1 c0 f2;go_wp2_with fail
   go_still_tail 9, (by kernel_rfl)
   change wpList _ _ _ _ _ W.drew
   go_wp2
   go_roundw
   case rel =>
    refine ⟨k + 1, G + cm, C + f.c, by go_num, by omega, (HW.out.drew.setCell (by simp; omega) _), Hq (by rw [NX1.out, hG.out, HCN.out]; omega), Hq (by rw [NX2.out, hC.out]), Hq ?_, Hq ?_⟩
    ·exact (Below.heap_setCell _ _ _ _ (by simp; omega)).trans YR.out
    ·exact blk_put (i := 1) (.int .i64 (C + f.c)) YT.out
   case measure => simp [intOf]; omega
  ·obtain rfl : k = n := by omega
   have gT : U < wr.heap.size := blk_lt hTt.out;obtain ⟨x0, x1⟩ := cells2 hTt.out;have y0 : wr.cell? ⟨w.heap.size, 0, none⟩ = some (.int .i64 0) := cell_blk (i := 0) hR.out rfl;have y1 : wr.cell? ⟨w.heap.size, 1, none⟩ = some (.int .i64 0) := cell_blk (i := 1) hR.out rfl;have z0 : wr.frozen? ⟨w.heap.size, 0, none⟩ = false := frozen_blk hR.out;have z1 : wr.frozen? ⟨w.heap.size, 1, none⟩ = false := frozen_blk hR.out;clear hlt;go_wp2;refine bodyPost_ret (v := .agg #[.int .i64 G, .int .i64 C]) (by simp [results, Tryz.results33, go_sem, y0, y1]) rfl ?_;have e : l.take k = l := by rw [← Q.out.2.2]; exact List.take_length
   refine ⟨?_, (hBl.setCell (Nat.le_refl _) _).setCell (Nat.le_refl _) _⟩;rw [hG.out, hC.out, e]
def shared (a b : Nat) : Nat := (MM.units a).countP fun k => b.testBit k
theorem shared_pos {a b : Nat} (ha : a < 18446744073709551616) : 0 < shared a b ↔ a &&& b ≠ 0 := by
 unfold shared;rw [List.countP_pos_iff];constructor
 ·rintro ⟨k, hk, hb⟩ h0;have := congrArg (fun x => x.testBit k) h0;simp only [Nat.testBit_and, (MM.units_mem.1 hk).2, Nat.zero_testBit] at this;rw [hb] at this
  cases this
 ·intro h;have : ∃ i, (a &&& b).testBit i = true := by
   by_cases hex : ∃ i, (a &&& b).testBit i = true
   ·exact hex
   ·exact absurd (Nat.eq_of_testBit_eq fun i => by rw [Nat.zero_testBit]; cases hi : (a &&& b).testBit i; rfl; exact absurd ⟨i, hi⟩ hex) h
  obtain ⟨i, hi⟩ := this;rw [Nat.testBit_and, Bool.and_eq_true] at hi;exact ⟨i, MM.units_mem.2 ⟨MM.bits_lt ha hi.1, hi.1⟩, hi.2⟩
set_option maxHeartbeats 2000000 in
theorem refmasks_any (a b : Nat) (ha : a < 18446744073709551616) (hb : b < 18446744073709551616) (w : World) :
  Calls Tryz.prog 31 #[.int .u64 a, .int .u64 b] w fun e w' => e = .returned (.int .i64 (shared a b : Nat)) ∧ Below w.heap.size w w' := by
 have hU := Hq (refunits_own a ha w);have hH := Hq (fun k (hk : k < 64) W => has_any b k hb hk W);have hul : (MM.units a).length = MM.cnt a := rfl;obtain ⟨n, hn⟩ := nx (MM.cnt a);have hn64 : n ≤ 64 := by rw [hn]; exact MM.cnt_le a
 rw [← hn] at hU hul;have Q := Hq (Ai hul hn);clear hul hn ha hb;go_enter Tryz.func31, Tryz.ntmps31;go_wp2_with fail;refine hU.out.mono ?_;rintro e w1 ⟨v, rfl, ho, hb1⟩;rw [Q.out.2] at ho;obtain ⟨A, c, rfl, hA⟩ := units_at8 ho;rw [← Q.out.2] at hA ⊢;have HA := Hq hA;have HB := Hq hb1;clear ho hA hb1 hU;go_wp2_with fail
 go_loop [5, 7] (fun m i => ∃ k q : Nat, m = .int .i64 q ∧ i = .int .i64 k ∧ k ≤ n ∧ q ≤ k ∧ Hid (q = ((MM.units a).take k).countP fun k => b.testBit k)) (fun _ i => n - (intOf i).toNat)
 case atStart => exact ⟨0, 0, rfl, rfl, by omega, by omega, Hq (by simp)⟩
 case round =>
  obtain ⟨k, q, rfl, rfl, hk, hqk, hq⟩ := hrel;by_cases hlt : k < n
  ·obtain ⟨x, hx⟩ := get_lt (l := MM.units a) (k := k) (by rw [Q.out.1]; exact hlt);rcases HA.out with h0 | ⟨g, rfl, hg, hc⟩
   ·omega
   have c0 := hc k x hx;have hx64 : x < 64 := MM.units_lt (List.mem_of_getElem? hx);have hHx := hH.out x hx64 w1;have t0 : decide (k < n) = true := decide_eq_true hlt
   cases hbt : b.testBit x
   ·rw [hbt] at hHx;have HHx := Hq hHx;have HN : Hid (q = ((MM.units a).take (k + 1)).countP fun k => b.testBit k) := Hq (by rw [take_next hx, List.countP_append, ← hq.out]; simp [hbt]);clear hHx hx hc hbt;go_wp2_with (go_at_call 46; refine HHx.out.mono ?_; rintro e w' ⟨rfl, rfl⟩)
    go_round
    case rel => exact ⟨k + 1, q, rfl, by go_num, by omega, by omega, HN⟩
    case measure => simp [intOf]; omega
   ·rw [hbt] at hHx;have HHx := Hq hHx;have HN : Hid (q + 1 = ((MM.units a).take (k + 1)).countP fun k => b.testBit k) := Hq (by rw [take_next hx, List.countP_append, ← hq.out]; simp [hbt]);clear hHx hx hc hbt;go_wp2_with (go_at_call 46; refine HHx.out.mono ?_; rintro e w' ⟨rfl, rfl⟩)
    go_round
    case rel => exact ⟨k + 1, q + 1, by go_num, by go_num, by omega, by omega, HN⟩
    case measure => simp [intOf]; omega
  ·obtain rfl : k = n := by omega
   have t0 : decide (k < k) = false := (by simp);have hR : Hid (q = shared a b) := Hq (by have := hq.out; rw [← Q.out.1, List.take_length] at this; exact this);clear hlt hq;go_wp2
   go_ret
   exact ⟨by rw [← hR.out]; rfl, HB.out⟩
end
set_option maxRecDepth 100000
set_option linter.unusedVariables false
section
open Go.RowKit
open PR
theorem or_plus : ∀ {a b : Nat}, a &&& b = 0 → a + b = a ||| b := fun {a b} h => by
 induction a using Nat.strongRecOn generalizing b with
 | _ a ih =>
  by_cases h0 : a = 0
  ·subst h0; simp
  have hd := Nat.and_div_two (a := a) (b := b);have ho := Nat.or_div_two (a := a) (b := b);have h1 := @Nat.or_mod_two_eq_one a b;have h2 := @Nat.and_mod_two_eq_one a b;rw [h] at hd h2;have := ih (a / 2) (by omega) (b := b / 2) (by omega);omega
theorem find_hit {l : List Fe} {n d : Int} {k : Nat} (h : hitL l n d = some k) : findL l n d = k := by unfold findL; unfold hitL at h; rw [h]
theorem find_miss {l : List Fe} {n d : Int} (h : hitL l n d = none) : findL l n d = -1 := by unfold findL; unfold hitL at h; rw [h]
def MoreRes (l ss : List Fe) (w' : World) (e : Ending) : Prop := ∃ A' c', Hid (Fes w' w'.heap.size A' (turnL moreC l ss).2 ∧ (turnL moreC l ss).2.length = l.length ∧ View (turnL moreC l ss).2 ∨ (turnL moreC l ss).1 ≠ 0) ∧
   e = .returned (.tuple #[if (turnL moreC l ss).1 = 0 then .slice A' l.length c' else .slice none 0 0, .int .i64 (turnL moreC l ss).1])
set_option maxHeartbeats 8000000 in
theorem refmore05_any (A : Option Addr) (c : Nat) (l : List Fe) (SA : Option Addr) (sc : Nat) (ss : List Fe) (w : World) (h : Fes w w.heap.size A l) (hv : View l) (hn : l.length ≤ 1000) (hs : Fes w w.heap.size SA ss) (hso : ∀ s ∈ ss, FeOk s) (hsn : ss.length ≤ 100000) :
  Calls Tryz.prog 20 #[.slice A l.length c, .slice SA ss.length sc] w fun e w' => Below w.heap.size w w' ∧ MoreRes l ss w' e := by
 obtain ⟨N, hN⟩ := nx (l.length);obtain ⟨n, hnl⟩ : ∃ n, n = ss.length := ⟨_, rfl⟩
 obtain ⟨i0, hi0, hz0, hz1, hz2⟩ := info_parts info_freeP;have H := Hq (Ai hs (Ai hso (Ai hnl (Ai hN (Ai h hv)))));rw [← hN] at hn;rw [← hnl] at hsn;rw [← hN, ← hnl];clear h hs hv hso hnl hN;go_enter Tryz.func20, Tryz.ntmps20;go_wp2_with (at_builtin; refine wpList_append_els (C := feC) (k := 4) _ rfl _ _ 22 rfl w.heap.size 63 i0 _ 32 Tryz.underlying22 hi0 hz0 hz1 hz2 rfl (by decide) (.slice (some ⟨w.heap.size, 0, none⟩) 0 0) 0 [] rfl (World.ownsRow_lit w #[] 0 (Nat.le_refl _) (by unfold maxLen; omega) rfl) w.heap.size A c N l rfl (fes_els (H.out.2.2.2.2.1.keep ((Below.refl w.heap.size w).alloc (Nat.le_refl _) (.cells #[] 63)) (Nat.le_refl _))) H.out.2.2.2.1 feC_len1 feC_one1 (by unfold maxLen; omega) (by omega) (by simp) ?_; intro A5 c5 w5 own5 g5 k5; rw [Nat.zero_add] at own5 k5 ⊢; rw [List.nil_append] at own5);have hb1 : Below w.heap.size w w5 := ((Below.refl w.heap.size w).alloc (Nat.le_refl _) _).grown g5 (by simp) (fun k e => by have := e; simp [Value.ownBlock] at this; omega);obtain ⟨gg, e5, hgB, hrow⟩ : ∃ gg, A5 = some ⟨gg, 0, none⟩ ∧ w.heap.size ≤ gg ∧ OwnF w5 gg l := by
  rcases own5.2 with ⟨e, h0⟩ | ⟨g, cap, cur, e, hgb, hg, h5, h6, h7, h8⟩
  ·injection e with e1 _ _;subst e1;rcases k5 with k5 | k5 <;> exact absurd k5 (by simp [Value.ownBlock])
  ·injection e with e1 _ _;exact ⟨g, e1, hgb, cur, hg, by rw [← H.out.2.2.2.1]; exact h8⟩
 subst e5;have HB1 := Hq hb1;have HR := Hq hrow;have hs1 : w.heap.size ≤ w5.heap.size := hb1.size;have hgl : gg < w5.heap.size := hrow.lt;have HV0 := Hq H.out.2.2.2.2.2;clear own5 g5 k5 hb1 hrow;go_wp2;go_loopw [7] (fun i wr => ∃ k : Nat, i = .int .i64 k ∧ k ≤ n ∧ Hid (Below w.heap.size w wr ∧ ∃ lk, turnL moreC l (ss.take k) = (0, lk) ∧ OwnF wr gg lk ∧ (∀ f ∈ lk, FeOk f ∧ 0 ≤ f.c ∧ f.c ≤ 1048576) ∧ spotsL lk = spotsL l)) (fun i _ => n - (intOf i).toNat)
 case atStart => exact ⟨0, rfl, by omega, Hq ⟨HB1.out, l, by rw [List.take_zero, turnL], HR.out, HV0.out.ok, rfl⟩⟩
 case round =>
  clear HB1 HR HV0 hs1 hgl;obtain ⟨k, rfl, hk, hin⟩ := hrel;obtain ⟨hB, lk, hT, hO, hok, hsp⟩ := hin.out;have hlk : lk.length = N := by have := congrArg List.length hsp; unfold spotsL at this; rw [List.length_map, List.length_map] at this; rw [this]; exact H.out.2.2.2.1.symm
  have hBs := hB.size;by_cases hlt : k < n
  ·have hgw := hO.lt;obtain ⟨s, hx⟩ := get_lt (l := ss) (k := k) (by rw [← H.out.2.2.1]; exact hlt);obtain ⟨bs, os, rfl, hbs, hcs⟩ := H.out.1.at_ hx;obtain ⟨s0, s1, s2, s3⟩ := (hcs k s hx).keep hbs hB;have hsk := H.out.2.1 s (List.mem_of_getElem? hx);obtain ⟨S, hS⟩ := nx (wr.heap.size);obtain ⟨W, hW⟩ := nx (wr.alloc (.cells #[.int .i64 s.n, .int .i64 s.d, .int .u64 (s.m : Nat), .int .i64 s.c] 64));have bS : Hid (W.heap[S]? = some (.cells #[.int .i64 s.n, .int .i64 s.d, .int .u64 (s.m : Nat), .int .i64 s.c] 64 (0, 0))) := Hq (by rw [hW, hS]; exact heap_alloc_new wr _);have hgS : gg ≠ S := (by omega);have hOW : OwnF W gg lk := hO.of_block (by rw [hW]; exact Below.heap_alloc _ _ _ hgw);have hBW : Hid (Below w.heap.size w W) := Hq (by rw [hW]; exact hB.alloc hBs _);have hWz : W.heap.size = S + 1 := by rw [hW, hS]; simp
   have HWW := Hq (Ai hW hS);have t1 : decide (k < n) = true := decide_eq_true hlt;have hnx := turnL_next hT hx;by_cases hneg : s.c < 0
   ·have t2 : decide (s.c < 0) = true := decide_eq_true hneg;have hst : stepL moreC lk s = (1, lk) := by unfold stepL; rw [if_pos hneg]
    have hfin := Hq (turnL_stop hT hx (by rw [hst]; simp));rw [hst] at hfin;clear hst hneg hT hO hok hsp hx hcs hsk hOW hW hS hnx hB hin;go_wp2;rw [← HWW.out.1]
    go_ret2
    exact ⟨hBW.out, none, 0, Hq (.inr (by rw [hfin.out]; simp)), by rw [hfin.out]; rfl⟩
   have t2 : decide (s.c < 0) = false := decide_eq_false hneg;have HFD := Hq (fun V (hV : OwnF V gg lk) => by
    have h9 := find_any (some ⟨gg, 0, none⟩) c5 V.heap.size lk s.n s.d V hV.fes (Nat.le_refl _) (by omega);rw [hlk] at h9; exact h9)
   have HO := Hq hOW
   cases hh : hitL lk s.n s.d with
   | none =>
    have hst : stepL moreC lk s = (3, lk) := by unfold stepL; rw [if_neg hneg, hh]
    have hfin := Hq (turnL_stop hT hx (by rw [hst]; simp));rw [hst] at hfin;rw [find_miss hh] at HFD;have t3 : decide ((-1 : Int) < 0) = true := (by decide);clear hst hneg hT hO hok hsp hx hcs hsk hOW hW hS hnx hB hin hh;go_wp2_with fail;rw [← HWW.out.1];refine (HFD.out W HO.out).mono ?_;rintro e wa ⟨rfl, hba⟩;have HBa := Hq (below_step hBW.out hba);clear hba;go_wp2
    go_ret2
    exact ⟨HBa.out, none, 0, Hq (.inr (by rw [hfin.out]; simp)), by rw [hfin.out]; rfl⟩
   | some kf =>
    obtain ⟨f, hf, hf1, hf2⟩ := hitL_some hh;obtain ⟨hfk, hfc0, hfc1⟩ := hok f (List.mem_of_getElem? hf);have hst : stepL moreC lk s = ((moreC f s).1, if (moreC f s).1 = 0 then lk.set kf (moreC f s).2 else lk) := by unfold stepL; rw [if_neg hneg, hh]; simp only [hf]
    have hkN : kf < N := by rw [← hlk]; exact (List.getElem?_eq_some_iff.1 hf).1
    rw [find_hit hh] at HFD;obtain ⟨sh, hsh⟩ := nx (shared s.m f.m);have hshp := shared_pos (b := f.m) hsk.m;have HMK := Hq (fun V => refmasks_any s.m f.m hsk.m hfk.m V);have hfi := bounds_i64 hsk.c;rw [← hsh] at hshp HMK;have hc64 : sh ≤ 64 := by rw [hsh]; unfold shared; exact Nat.le_trans List.countP_le_length (by have := MM.cnt_le s.m; exact this)
    have t3 : decide ((kf : Int) < 0) = false := decide_eq_false (by omega);have j2 : (kf : Int) < (N : Int) := (by omega);have HST := Hq (Ai hT (Ai hx (Ai hst (Ai hf (Ai hok (Ai hsp (Ai hfk (Ai hsk (Ai hnx hlk)))))))));have lS : S < W.heap.size := (by omega);have lg : gg < W.heap.size := (by omega);have HBl := Hq hB;have hs00 : 0 ≤ s.c := (by omega);clear hst hneg hT hO hok hsp hx hcs hsk hOW hW hS hnx hB hin hh hf hf1 hf2 hfk hsh;go_wp2_with fail;rw [← HWW.out.1, ← HWW.out.2];refine (HFD.out W HO.out).mono ?_;rintro e wa ⟨rfl, hba⟩;have hOa : OwnF wa gg lk := HO.out.of_block (hba.block gg lg);have bSa := (hba.block S lS).trans bS.out;have lSa : S < wa.heap.size := blk_lt bSa;have lga : gg < wa.heap.size := hOa.lt;have e2 : wa.cell? ⟨S, 2, none⟩ = some (.int .u64 (s.m : Nat)) := cell_blk (i := 2) bSa rfl;have g2 : wa.cell? ⟨gg, kf * 4 + 2, none⟩ = some (.int .u64 (f.m : Nat)) := hOa.cell HST.out.2.2.2.1 (r := 2) (by omega) rfl;have HA := Hq (Ai hOa (Ai bSa (below_step hBW.out hba)));clear s0 s1 s2 s3 hba hOa bSa HFD HO bS hBW t2;by_cases hz : s.m &&& f.m ≠ 0
    ·have hs0 : 0 < sh := hshp.2 hz;have t4 : decide ((sh : Int) > 0) = true := decide_eq_true (by omega);have t4' : decide (0 < (sh : Int)) = true := decide_eq_true (by omega);have t4n : decide (0 < sh) = true := decide_eq_true hs0;have hmc : moreC f s = (4, f) := by unfold moreC; rw [if_pos hz]
     have hfin := Hq (turnL_stop HST.out.1 HST.out.2.1 (by rw [HST.out.2.2.1, hmc]; simp));rw [HST.out.2.2.1, hmc] at hfin;clear hmc hz hs0 hshp;go_wp2_with fail;refine held_begin (fun w' : World => w'.cell? ⟨S, 2, none⟩ = some (.int .u64 (s.m : Nat)) ∧ w'.cell? ⟨gg, kf * 4 + 2, none⟩ = some (.int .u64 (f.m : Nat))) (by kernel_rfl) ?_;have hBm0 : Below wa.heap.size wa wa.drew := (Below.refl _ _).drew;have hSm0 := Ai e2 g2;refine tkA 0 32 hSm0 ?_;refine tkA 1 33 hSm0 ?_;refine tkA 2 34 hSm0 ?_;refine tkA 3 35 hSm0 ?_;refine tkA 4 36 hSm0 ?_;refine tkA 5 37 hSm0 ?_;refine tkA 6 38 hSm0 ?_;refine held_one 7 rfl (by kernel_rfl) (by rfl) (fun K hK => ?_);go_simp
     go_at_call 31
     refine (HMK.out wa.drew).mono ?_;rintro e wm1 ⟨rfl, hbm1⟩;have hBm1 : Below wa.heap.size wa wm1 := below_step hBm0 hbm1;have hSm1 := Ai ((hBm1.cell (p := ⟨S, 2, none⟩) (lSa)).trans e2) ((hBm1.cell (p := ⟨gg, kf * 4 + 2, none⟩) (lga)).trans g2);refine hK.out _ _ hSm1 ?_;clear hK K;refine tkA 8 40 hSm1 ?_;refine wpAnyH_done (by kernel_rfl) ?_ _;have HBm := Hq (HA.out.2.2.trans (hBm1.mono HA.out.2.2.size));clear hBm0 hBm1 hSm0 hSm1 hbm1 e2 g2 HA;go_wp2
     go_ret2
     exact ⟨HBm.out, none, 0, Hq (.inr (by rw [hfin.out]; simp)), by rw [hfin.out]; rfl⟩
    ·have hs0 : ¬ 0 < sh := fun h => hz (hshp.1 h)
     have t4 : decide ((sh : Int) > 0) = false := decide_eq_false (by omega);have t4' : decide (0 < (sh : Int)) = false := decide_eq_false (by omega);have t4n : decide (0 < sh) = false := decide_eq_false hs0;have hz0 : s.m &&& f.m = 0 := Classical.not_not.1 hz;clear hs0 hshp;go_wp2_with fail;refine held_begin (fun w' : World => w'.cell? ⟨S, 2, none⟩ = some (.int .u64 (s.m : Nat)) ∧ w'.cell? ⟨gg, kf * 4 + 2, none⟩ = some (.int .u64 (f.m : Nat))) (by kernel_rfl) ?_;have hBm0 : Below wa.heap.size wa wa.drew := (Below.refl _ _).drew;have hSm0 := Ai e2 g2;refine tkA 0 32 hSm0 ?_;refine tkA 1 33 hSm0 ?_;refine tkA 2 34 hSm0 ?_;refine tkA 3 35 hSm0 ?_;refine tkA 4 36 hSm0 ?_;refine tkA 5 37 hSm0 ?_;refine tkA 6 38 hSm0 ?_;refine held_one 7 rfl (by kernel_rfl) (by rfl) (fun K hK => ?_);go_simp
     go_at_call 31
     refine (HMK.out wa.drew).mono ?_;rintro e wm1 ⟨rfl, hbm1⟩;have hBm1 : Below wa.heap.size wa wm1 := below_step hBm0 hbm1;have hSm1 := Ai ((hBm1.cell (p := ⟨S, 2, none⟩) (lSa)).trans e2) ((hBm1.cell (p := ⟨gg, kf * 4 + 2, none⟩) (lga)).trans g2);refine hK.out _ _ hSm1 ?_;clear hK K;refine tkA 8 40 hSm1 ?_;refine wpAnyH_done (by kernel_rfl) ?_ _;have hOc : OwnF wm1 gg lk := HA.out.1.of_block (hBm1.block gg lga);have bSc := (hBm1.block S lSa).trans HA.out.2.1;have hBC := HA.out.2.2.trans (hBm1.mono HA.out.2.2.size);have f3 : wm1.cell? ⟨S, 3, none⟩ = some (.int .i64 s.c) := cell_blk (i := 3) bSc rfl;have g3 : wm1.cell? ⟨gg, kf * 4 + 3, none⟩ = some (.int .i64 f.c) := hOc.cell HST.out.2.2.2.1 (r := 3) (by omega) rfl;have HC := Hq (Ai hOc (Ai bSc hBC));have lSc : S < wm1.heap.size := blk_lt bSc;have lgc : gg < wm1.heap.size := hOc.lt;clear hOc bSc hBC hBm0 hBm1 hSm0 hSm1 hbm1 e2 g2 HA lSa lga;by_cases hov : 1048576 - f.c < s.c
     ·have t5 : decide (s.c > 1048576 - f.c) = true := decide_eq_true hov;have t6 : decide (1048576 - f.c < s.c) = true := decide_eq_true hov;have hmc : moreC f s = (14, f) := by unfold moreC; rw [if_neg hz, if_pos hov]
      have hfin := Hq (turnL_stop HST.out.1 HST.out.2.1 (by rw [HST.out.2.2.1, hmc]; simp));rw [HST.out.2.2.1, hmc] at hfin;clear hmc hz hz0 hov;go_wp2;go_quiet (fail);go_wp2
      go_ret2
      exact ⟨below_drewN HC.out.2.2 _, none, 0, Hq (.inr (by rw [hfin.out]; simp)), by rw [hfin.out]; rfl⟩
     ·have t5 : decide (s.c > 1048576 - f.c) = false := decide_eq_false hov;have t6 : decide (1048576 - f.c < s.c) = false := decide_eq_false hov;have hmc : moreC f s = (0, ⟨f.n, f.d, f.m ||| s.m, f.c + s.c⟩) := by unfold moreC; rw [if_neg hz, if_neg hov]
      obtain ⟨x3, x4, x5, x6, x7⟩ := moreC_keep HST.out.2.2.2.2.2.2.1 hfc0 hfc1 HST.out.2.2.2.2.2.2.2.1 hs00 (by rw [hmc]);rw [hmc] at x3 x4 x5 x6 x7;have hadd : f.m + s.m = f.m ||| s.m := or_plus (by rw [Nat.and_comm]; exact hz0);have hwm : IntKind.u64.wrap ((f.m : Int) + (s.m : Int)) = (f.m : Int) + (s.m : Int) := IntWalk.u64_in _ (by have := x5.m; simp only at this; omega);have hadd2 : ((f.m : Int) + (s.m : Int)) = ((f.m ||| s.m : Nat) : Int) := by rw [← hadd]; simp
      have HN := Hq (show turnL moreC l (ss.take (k + 1)) = (0, lk.set kf ⟨f.n, f.d, f.m ||| s.m, f.c + s.c⟩) ∧ (∀ y ∈ lk.set kf ⟨f.n, f.d, f.m ||| s.m, f.c + s.c⟩, FeOk y ∧ 0 ≤ y.c ∧ y.c ≤ 1048576) ∧ spotsL (lk.set kf ⟨f.n, f.d, f.m ||| s.m, f.c + s.c⟩) = spotsL l from by
       obtain ⟨hT, hx, hst, hf, hok, hsp, hfk, hsk, hnx, hlk⟩ := HST.out;refine ⟨by rw [hnx, hst, hmc]; rfl, fun y hy => ?_, by rw [spotsL_set (g := ⟨f.n, f.d, f.m ||| s.m, f.c + s.c⟩) hf rfl rfl, hsp]⟩;rcases List.mem_or_eq_of_mem_set hy with hy | hy
       ·exact hok y hy
       ·rw [hy]; exact ⟨x5, x6, x7⟩)
      have HAdd := Hq hadd2;have hcs9 : s.c ≤ 1048576 := (by omega);clear hmc hz hz0 hov x3 x4 x5 x6 x7 hadd hadd2;go_wp2;go_quiet (fail);obtain ⟨V, hV⟩ := nx (wm1.drewN nq);rw [← hV];have hOV : OwnF V gg lk := by rw [hV]; exact HC.out.1.of_block rfl
      have bSV : V.heap[S]? = some (.cells #[.int .i64 s.n, .int .i64 s.d, .int .u64 (s.m : Nat), .int .i64 s.c] 64 (0, 0)) := by rw [hV]; exact HC.out.2.1
      have hBV : Below w.heap.size w V := by rw [hV]; exact below_drewN HC.out.2.2 _
      have e2 : V.cell? ⟨S, 2, none⟩ = some (.int .u64 (s.m : Nat)) := cell_blk (i := 2) bSV rfl;have g2 : V.cell? ⟨gg, kf * 4 + 2, none⟩ = some (.int .u64 (f.m : Nat)) := hOV.cell HST.out.2.2.2.1 (r := 2) (by omega) rfl;have z2 : V.frozen? ⟨gg, kf * 4 + 2, none⟩ = false := hOV.frozen;have HV := Hq (Ai hOV (Ai bSV hBV));have lSV : S < V.heap.size := blk_lt bSV;have lgV : gg < V.heap.size := hOV.lt;clear hV hOV bSV hBV f3 g3 t5 t6 HC lSc lgc;go_wp2
      go_still_tail 12, (by kernel_rfl)
      change wpList _ _ _ _ _ V.drew
      go_wp2;obtain ⟨Y, hY⟩ := nx ((V.setCell ⟨gg, kf * 4 + 2, none⟩ (.int .u64 ((f.m : Int) + (s.m : Int)))).drew);rw [← hY];have blkY : ∃ cur, Y.heap[gg]? = some (.cells cur 63 (0, 0)) ∧ cur[kf * 4 + 3]? = some (.int .i64 f.c) := by
       obtain ⟨cur, h1, h2⟩ := HV.out.1;refine ⟨_, by rw [hY]; exact blk_put (i := kf * 4 + 2) _ h1, ?_⟩;rw [Array.getElem?_setIfInBounds_ne (by omega)];have hl8 := (List.getElem?_eq_some_iff.1 HST.out.2.2.2.1).1;have e8 := congrArg (fun x => x[kf * 4 + 3]?) h2;rw [List.getElem?_take, if_pos (by omega), fe_flat HST.out.2.2.2.1 (by omega : 3 < 4)] at e8;simpa [feC] using e8
      obtain ⟨curY, bY, bY3⟩ := blkY;have g3 : Y.cell? ⟨gg, kf * 4 + 3, none⟩ = some (.int .i64 f.c) := cell_blk bY bY3;have z3 : Y.frozen? ⟨gg, kf * 4 + 3, none⟩ = false := frozen_blk bY;have bSY : Y.heap[S]? = some (.cells #[.int .i64 s.n, .int .i64 s.d, .int .u64 (s.m : Nat), .int .i64 s.c] 64 (0, 0)) := by rw [hY]; exact (Below.heap_setCell _ _ _ _ (by show S ≠ gg; omega)).trans HV.out.2.1
      have f3 : Y.cell? ⟨S, 3, none⟩ = some (.int .i64 s.c) := cell_blk (i := 3) bSY rfl;have HY := Hq hY;have lSY : S < Y.heap.size := blk_lt bSY;have lgY : gg < Y.heap.size := blk_lt bY;clear hY bY bY3 bSY e2 g2 z2
      go_still_tail 12, (by kernel_rfl)
      change wpList _ _ _ _ _ Y.drew
      go_wp2
      go_roundw
      case rel =>
       refine ⟨k + 1, by go_num, by omega, Hq ⟨?_, _, HN.out.1, ?_, HN.out.2.1, HN.out.2.2⟩⟩
       ·rw [HY.out]; exact ((HV.out.2.2.setCell (p := ⟨gg, kf * 4 + 2, none⟩) hgB _).drew.drew).setCell (p := ⟨gg, kf * 4 + 3, none⟩) hgB _
       ·have h9 := HV.out.1.put (f.m ||| s.m) (f.c + s.c) HST.out.2.2.2.1;refine h9.of_block ?_;rw [HY.out, HAdd.out];rfl
      case measure => simp [intOf]; omega
  ·obtain rfl : k = n := by omega
   have t1 : decide (k < k) = false := (by simp);have hTT : turnL moreC l ss = (0, lk) := by have := hT; rw [List.take_of_length_le (by rw [← H.out.2.2.1]; omega)] at this; exact this
   have HR := Hq (Ai hTT (Ai hO (Ai hok (Ai hsp (Ai hB hlk)))));clear hTT hT hO hok hsp hB hlk hlt hin;go_wp2
   go_ret2
   obtain ⟨hTT, hO, hok, hsp, hBw, hlk⟩ := HR.out;refine ⟨hBw, some ⟨gg, 0, none⟩, c5, Hq (.inl ?_), by rw [hTT, ← H.out.2.2.2.1]; rfl⟩;rw [hTT];exact ⟨hO.fes, hlk.trans H.out.2.2.2.1, ⟨hok, by rw [hsp]; exact H.out.2.2.2.2.2.one⟩⟩
end
end Go.Proofs.YtkkkhonjcbhelaaGreatDoor
