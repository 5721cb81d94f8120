import Derived.Test.YtkkkhonjcbhelaaGreatDoorProS
import Derived.Test.YtkkkhonjcbhelaaGreatDoorFilM
import Derived.Lib.AppendZeros
import Derived.Test.YtkkkhonjcbhelaaGreatDoorProSort
set_option maxRecDepth 100000
set_option linter.unusedVariables false
namespace Go.Proofs.YtkkkhonjcbhelaaGreatDoor
section
open Go.RowKit
theorem nilE_less (ss : List Fe) : turnL lessC [] ss = (nilE ss, []) := by
 cases ss with
 | nil => rfl
 | cons s ss =>
  unfold nilE;rw [turnL];unfold stepL;by_cases h : s.c < 0
  ·simp only [if_pos h];rw [if_neg (by decide)]
  ·simp only [if_neg h, hitL, List.findIdx?_nil];rw [if_neg (by decide)]
set_option maxRecDepth 100000 in
theorem less_nil (A : Option Addr) (cap : Nat) (SA : Option Addr) (scap : Nat) (ss : List Fe) (w : World) (hs : Fes w w.heap.size SA ss) (hso : ∀ s ∈ ss, FeOk s) :
  Calls Tryz.prog 90 #[.slice A 0 cap, .slice SA ss.length scap] w fun e w' => Below w.heap.size w w' ∧ ∃ A' c' E, E = nilE ss ∧ ((E = 0 ∧ e = .returned (.tuple #[.slice A' 0 c', .int .i64 0])) ∨ (E ≠ 0 ∧ e = .returned (.tuple #[.slice none 0 0, .int .i64 E]))) := by
 have hT := Hq (turn_nil A cap SA scap ss (.func (.func 104) #[] #[]) w hs hso);obtain ⟨q, hlq⟩ : ∃ n, ss.length = n := ⟨_, rfl⟩
 rw [hlq] at hT ⊢;clear hs hso hlq;go_enter Tryz.func90, Tryz.ntmps90;go_wp2_with fail;refine hT.out.mono ?_;rintro e w2 ⟨hb2, A1, c1, E, hEE, ⟨rfl, rfl⟩ | ⟨hE, rfl⟩⟩
 ·have HB := Hq hb2;have HEE := Hq hEE;clear hb2 hEE;go_wp2
  go_ret2
  exact ⟨HB.out, A1, c1, 0, HEE.out, .inl ⟨rfl, rfl⟩⟩
 ·have HB := Hq hb2;have HEE := Hq hEE;clear hb2 hEE;go_wp2
  go_ret2
  exact ⟨HB.out, A1, c1, E, HEE.out, .inr ⟨hE, rfl⟩⟩
theorem pless_none (A : Option Addr) (c : Nat) (SA : Option Addr) (sc : Nat) (ss : List Fe) (w : World) (hv : View []) (hs : Fes w w.heap.size SA ss) (hso : ∀ s ∈ ss, FeOk s) :
  Calls Tryz.prog 90 #[.slice A 0 c, .slice SA ss.length sc] w fun e w' => Below w.heap.size w w' ∧ ∃ A' c', Hid (Fes w' w'.heap.size A' (turnL lessC [] ss).2 ∧ (turnL lessC [] ss).2.length = 0 ∧ View (turnL lessC [] ss).2 ∨ (turnL lessC [] ss).1 ≠ 0) ∧
   e = .returned (.tuple #[if (turnL lessC [] ss).1 = 0 then .slice A' 0 c' else .slice none 0 0, .int .i64 (turnL lessC [] ss).1]) := by
 refine (less_nil A c SA sc ss w hs hso).mono ?_;rintro e w' ⟨hb, A', c', E, hE, ⟨h0, he⟩ | ⟨h0, he⟩⟩
 ·refine ⟨hb, A', c', Hq (.inl ?_), ?_⟩
  ·rw [nilE_less]; exact ⟨.inl rfl, rfl, hv⟩
  ·rw [nilE_less, ← hE, if_pos h0, he, h0]
 ·refine ⟨hb, A', c', Hq (.inr ?_), ?_⟩
  ·rw [nilE_less, ← hE]; exact h0
  ·rw [nilE_less, ← hE, if_neg h0, he]
theorem pless_any (A : Option Addr) (c : Nat) (l : List Fe) (SA : Option Addr) (sc : Nat) (ss : List Fe) (w : World) (h : Fes w w.heap.size A l) (hv : View l) (hn : l.length ≤ 100000) (hs : Fes w w.heap.size SA ss) (hso : ∀ s ∈ ss, FeOk s) (hsn : ss.length ≤ 100000) :
  Calls Tryz.prog 90 #[.slice A l.length c, .slice SA ss.length sc] w fun e w' => Below w.heap.size w w' ∧ ∃ A' c', Hid (Fes w' w'.heap.size A' (turnL lessC l ss).2 ∧ (turnL lessC l ss).2.length = l.length ∧ View (turnL lessC l ss).2 ∨ (turnL lessC l ss).1 ≠ 0) ∧
   e = .returned (.tuple #[if (turnL lessC l ss).1 = 0 then .slice A' l.length c' else .slice none 0 0, .int .i64 (turnL lessC l ss).1]) := by
 rcases h with h | ⟨b, off, rfl, hb, hc⟩
 ·subst h; exact pless_none A c SA sc ss w hv hs hso
 ·by_cases hl0 : 0 < l.length
  ·refine (less_any b off c SA sc l ss w hc hb hl0 hn hv hs hso hsn).mono ?_;rintro e w' ⟨hb9, h1, h2⟩;by_cases hE : (turnL lessC l ss).1 = 0
   ·obtain ⟨g, cap', he, hf⟩ := h1 hE;exact ⟨hb9, _, cap', Hq (.inl hf.out), by rw [if_pos hE, hE]; exact he⟩
   ·exact ⟨hb9, none, 0, Hq (.inr hE), by rw [if_neg hE]; exact h2 hE⟩
  ·obtain rfl : l = [] := List.length_eq_zero_iff.1 (by omega);exact pless_none _ c SA sc ss w hv hs hso
end
set_option maxRecDepth 100000
set_option linter.unusedVariables false
section
open Go.RowKit
open PR
set_option maxHeartbeats 4000000 in
theorem without_any (G0 C0 : Int) (A : Option Addr) (c : Nat) (l : List Fe) (w : World) (h : Fes w w.heap.size A l) (hn : l.length ≤ 1000) (hs : Low l)
  (g0 : -1099511627776 ≤ G0 ∧ G0 ≤ 1099511627776) (c0 : -1099511627776 ≤ C0 ∧ C0 ≤ 1099511627776) :
  Calls Tryz.prog 91 #[.agg #[.int .i64 G0, .int .i64 C0], .slice A l.length c] w fun e w' => e = .returned (.agg #[.int .i64 (G0 - gs l), .int .i64 (C0 - cs l)]) ∧ Below w.heap.size w w' := by
 obtain ⟨n, hnl⟩ : ∃ n, l.length = n := ⟨_, rfl⟩
 rw [hnl] at hn ⊢;obtain ⟨R, hR⟩ := nx (w.heap.size + 1);obtain ⟨w2, hw2⟩ := nx ((w.alloc (.cells #[.int .i64 G0, .int .i64 C0] 42)).alloc (.cells #[.int .i64 0, .int .i64 0] 42));have hB2 : Below w.heap.size w w2 := by rw [hw2]; exact ((Below.refl w.heap.size w).alloc (Nat.le_refl _) _).alloc (by simp) _
 have rU : w2.heap[w.heap.size]? = some (.cells #[.int .i64 G0, .int .i64 C0] 42 (0, 0)) := by
  rw [hw2]; exact (Below.heap_alloc _ _ _ (by simp)).trans (heap_alloc_new w _)
 have rR : w2.heap[R]? = some (.cells #[.int .i64 0, .int .i64 0] 42 (0, 0)) := by
  rw [hw2, hR]; have := heap_alloc_new (w.alloc (.cells #[.int .i64 G0, .int .i64 C0] 42)) (.cells #[.int .i64 0, .int .i64 0] 42); simpa using this
 have hUR : w.heap.size < R := by omega
 have HB2 := Hq hB2;have Q := Hq (Ai h (Ai hs hnl));have HW2 := Hq hw2;have HR := Hq hR;have RR := Hq rR;have RU := Hq rU;clear rR rU hB2 h hs hnl hw2 hR;go_enter Tryz.func91, Tryz.ntmps91;go_wp2;rw [← HR.out, ← HW2.out];go_loopw [9] (fun i wr => ∃ (j : Nat) (G2 C2 : Int), i = .int .i64 j ∧ j ≤ n ∧ Hid (Below w.heap.size w wr) ∧ Hid (G2 = G0 - gs (l.take j)) ∧ Hid (C2 = C0 - cs (l.take j)) ∧ Hid (wr.heap[R]? = some (.cells #[.int .i64 0, .int .i64 0] 42 (0, 0))) ∧ Hid (wr.heap[w.heap.size]? = some (.cells #[.int .i64 G2, .int .i64 C2] 42 (0, 0)))) (fun i _ => n - (intOf i).toNat)
 case atStart => exact ⟨0, G0, C0, rfl, by omega, HB2, Hq (by simp [gs]), Hq (by simp [cs]), RR, RU⟩
 case round =>
  clear RR RU HB2 HW2;obtain ⟨j, G2, C2, rfl, hj, hBw, hG2, hC2, hR2, hT2⟩ := hrel;have hBws := hBw.out.size;by_cases hlj : j < n
  ·obtain ⟨f, hf⟩ := get_lt (l := l) (k := j) (by rw [Q.out.2.2]; exact hlj);obtain ⟨sb, so, hA, hsb, hsc⟩ := Q.out.1.at_ hf;obtain ⟨f0, f1, f2, f3⟩ := (hsc j f hf).keep hsb hBw.out;have t2 : decide (j < n) = true := by simpa using hlj
   have hfl := Q.out.2.1 f (List.mem_of_getElem? hf);have g1 := gs_le (l.take j);have g2 := cs_le (l := l.take j) fun s hsm => (Q.out.2.1 s (List.mem_of_mem_take hsm)).2
   rw [List.length_take] at g1 g2;have bG2 : -1200000000000 ≤ G2 ∧ G2 ≤ 1099511627776 := by rw [hG2.out]; omega
   have bC2 : -2200000000000 ≤ C2 ∧ C2 ≤ 1099511627776 := by rw [hC2.out]; omega
   obtain ⟨W, hW⟩ := nx (wr.alloc (.cells #[.int .i64 f.n, .int .i64 f.d, .int .u64 (f.m : Nat), .int .i64 f.c] 64));have gU : w.heap.size < wr.heap.size := blk_lt hT2.out;have gR2 : R < wr.heap.size := blk_lt hR2.out;have bT : W.heap[w.heap.size]? = some (.cells #[.int .i64 G2, .int .i64 C2] 42 (0, 0)) := by rw [hW]; exact (Below.heap_alloc _ _ _ gU).trans hT2.out
   have bR : W.heap[R]? = some (.cells #[.int .i64 0, .int .i64 0] 42 (0, 0)) := by rw [hW]; exact (Below.heap_alloc _ _ _ gR2).trans hR2.out
   have bF : W.heap[wr.heap.size]? = some (.cells #[.int .i64 f.n, .int .i64 f.d, .int .u64 (f.m : Nat), .int .i64 f.c] 64 (0, 0)) := by rw [hW]; exact heap_alloc_new wr _
   have hBW : Below w.heap.size w W := by rw [hW]; exact hBw.out.alloc hBws _
   have x0 : W.cell? ⟨w.heap.size, 0, none⟩ = some (.int .i64 G2) := cell_blk (i := 0) bT rfl;have e2 : W.cell? ⟨wr.heap.size, 2, none⟩ = some (.int .u64 (f.m : Nat)) := cell_blk (i := 2) bF rfl;have y0 : W.drew.cell? ⟨w.heap.size, 0, none⟩ = some (.int .i64 G2) := cell_blk (i := 0) bT rfl;have y1 : W.drew.cell? ⟨w.heap.size, 1, none⟩ = some (.int .i64 C2) := cell_blk (i := 1) bT rfl;have y3 : W.drew.cell? ⟨wr.heap.size, 2 + 1, none⟩ = some (.int .i64 f.c) := cell_blk (i := 3) bF rfl;have z0 : W.drew.frozen? ⟨w.heap.size, 0, none⟩ = false := frozen_blk (w := W) bT;have z1 : W.drew.frozen? ⟨w.heap.size, 1, none⟩ = false := frozen_blk (w := W) bT;have YR : Hid (W.drew.heap[R]? = some (.cells #[.int .i64 0, .int .i64 0] 42 (0, 0))) := Hq bR;have YT : Hid (W.drew.heap[w.heap.size]? = some (.cells #[.int .i64 G2, .int .i64 C2] 42 (0, 0))) := Hq bT;have hBD : Hid (Below w.heap.size w W.drew) := Hq hBW.drew;have CN := Hq (count_any f.m hfl.1.m);have hcnt := MM.cnt_le f.m;have N1 := Hq (gs_next hf);have N2 := Hq (cs_next hf);have HW := Hq hW;have fc0 := hfl.2.1;have fc1 := hfl.2.2;have hUs : w.heap.size < wr.heap.size := gU;rw [hA];clear hf hW bT bR bF hfl hsc g1 g2 hBW gR2 hR2 hT2 hBw hA;go_wp2_with fail;rw [← HW.out]
   go_still_tail 7, (by kernel_rfl)
   still_call ((CN.out _).mono fun _ _ h => ⟨h.1, h.2.symm⟩)
   repeat still_step
   refine wpStill_nil ?_
   change wpList _ _ _ _ _ W.drew
   clear x0 e2 HW f0 f1 f2 f3;generalize W.drew = W' at y0 y1 y3 z0 z1 YR YT hBD ⊢;go_wp2
   go_roundw
   case rel =>
    refine ⟨j + 1, G2 - MM.cnt f.m, C2 - f.c, by go_num, by omega, Hq ((hBD.out.setCell (by first | (simp; done) | (simp; omega)) _).setCell (by first | (simp; done) | (simp; omega)) _), Hq (by rw [N1.out, hG2.out]; omega), Hq (by rw [N2.out, hC2.out]; omega), Hq ?_, Hq ?_⟩
    ·exact ((Below.heap_setCell _ _ _ _ (by first | (simp; done) | (simp; omega))).trans (Below.heap_setCell _ _ _ _ (by first | (simp; done) | (simp; omega)))).trans YR.out
    ·exact blk_put (i := 1) (.int .i64 (C2 - f.c)) (blk_put (i := 0) (.int .i64 (G2 - (MM.cnt f.m : Int))) YT.out)
   case measure => simp [intOf]; omega
  ·obtain rfl : j = n := by omega
   have x0 : wr.cell? ⟨w.heap.size, 0, none⟩ = some (.int .i64 G2) := cell_blk (i := 0) hT2.out rfl;have x1 : wr.cell? ⟨w.heap.size, 1, none⟩ = some (.int .i64 C2) := cell_blk (i := 1) hT2.out rfl;obtain ⟨y0, y1⟩ := cells2 hR2.out;have z0 : wr.frozen? ⟨R, 0, none⟩ = false := frozen_blk hR2.out;have z1 : wr.frozen? ⟨R, 1, none⟩ = false := frozen_blk hR2.out;have t2 : decide (j < j) = false := (by simp);have gR2 : R < wr.heap.size := blk_lt hR2.out;clear hlj;go_wp2;refine bodyPost_ret (v := .agg #[.int .i64 G2, .int .i64 C2]) (by simp [results, Tryz.results91, go_sem, y0, y1]) rfl ?_;have e : l.take j = l := by rw [← Q.out.2.2]; exact List.take_length
   refine ⟨?_, (hBw.out.setCell (by first | (simp; done) | (simp; omega)) _).setCell (by first | (simp; done) | (simp; omega)) _⟩;rw [hG2.out, hC2.out, e]
end
set_option maxRecDepth 100000
set_option linter.unusedVariables false
section
open Go.RowKit
set_option maxHeartbeats 2000000 in
theorem grow_h (n : Nat) (h0 : 0 < n) (hn : n ≤ 100000) (w : World) :
  Calls Tryz.prog 105 #[.slice none 0 0, .int .i64 (n : Nat)] w fun e w' => ∃ c, e = .returned (.slice (some ⟨w.heap.size, 0, none⟩) 0 c) ∧
   w'.ownsRow w.heap.size 53 5 (.slice (some ⟨w.heap.size, 0, none⟩) 0 c) 0 [] ∧ Below w.heap.size w w' := by
 obtain ⟨i0, hi, hz0, hz1, hz2⟩ := info_parts info_ho;have hr := fun ty => Lib.run_append_nil_zeros (P := Tryz.prog) w 24 3 ty 53 i0 _ .i64 .i64 Tryz.underlying24 Tryz.underlying3 hi hz0 n h0 (by rw [hz1]; decide) (by omega) (by rw [hz2]; omega)
 have hc : grownCap w n 0 53 ≤ maxLen := grownCap_le_maxLen w n 0 _ (by unfold maxLen; omega);have hge : n ≤ grownCap w n 0 53 := grownCap_ge w _ _ _;obtain ⟨cap, hcap⟩ := nx (grownCap w n 0 53);rw [← hcap] at hr hc hge;obtain ⟨cur, hcur⟩ := nx (Builtin.zeroCells (Value.agg #[.int .i64 0, .int .i64 0, .int .i64 0, .bool false, .slice none 0 0]).cells n ++ Builtin.zeroCells (Value.agg #[.int .i64 0, .int .i64 0, .int .i64 0, .bool false, .slice none 0 0]).cells (cap - n));have hcs : cur.size = cap * 5 := by
  rw [hcur, Array.size_append, size_zeroCells, size_zeroCells];show n * 5 + (cap - n) * 5 = cap * 5;omega
 rw [← hcur] at hr;have hO := Hq (World.ownsRow_made (w := w.drew) (base := w.heap.size) (e := 53) (size := 5) cur cap (Nat.le_refl _) hc hcs);have hB := Hq ((Below.refl w.heap.size w).drew.alloc (Nat.le_refl _) (.cells cur 53));have h1 : decide ((n : Int) < 0) = false := decide_eq_false (by omega);have h2 : decide (0 < n) = true := decide_eq_true h0;have h3 : decide (0 < (n : Int)) = true := decide_eq_true (by omega);clear hcur hcs hcap;go_enter Tryz.func105, Tryz.ntmps105;go_wp2_with (at_builtin; refine Lib.wpList_append_run _ rfl _ _ _ _ rfl _ _ rfl rfl _ _ (hr _) ?_)
 go_ret
 exact ⟨cap, rfl, hO.out, hB.out⟩
theorem own_hos {w : World} {B n c : Nat} {A : Option Addr} {l : List Ho} (h : w.ownsRow B 53 5 (.slice A n c) n (l.flatMap hoC)) (hn : l.length = n) : Hos w w.heap.size A l := (els_own hoC_len h hn).1
set_option maxHeartbeats 4000000 in
theorem concat_h (P : Nat) (A2 : Option Addr) (c2 : Nat) (l2 : List Ho) (A3 : Option Addr) (c3 : Nat) (l3 : List Ho) (w : World) (hP : w.heap[P]? = some (.cells #[.slice A2 l2.length c2, .slice A3 l3.length c3] 24 (0, 0)))
  (h2 : Hos w w.heap.size A2 l2) (h3 : Hos w w.heap.size A3 l3) (hn2 : l2.length ≤ 10000) (hn3 : l3.length ≤ 10000) (h0 : 0 < l3.length) :
  Calls Tryz.prog 92 #[.slice (some ⟨P, 0, none⟩) 2 2] w fun e w' => ∃ r c, e = .returned (.slice (some ⟨r, 0, none⟩) (l2.length + l3.length) c) ∧ Hid (Hos w' w'.heap.size (some ⟨r, 0, none⟩) (l2 ++ l3) ∧ w.heap.size ≤ r) ∧ Below w.heap.size w w' := by
 obtain ⟨i0, hi, hz0, hz1, hz2⟩ := info_parts info_ho;obtain ⟨n, hn⟩ := nx (l2.length);obtain ⟨m, hm⟩ := nx (l3.length);rw [← hn, ← hm] at hP;rw [← hn] at hn2;rw [← hm] at hn3 h0;have lP := blk_lt hP;obtain ⟨p0, p1⟩ := cells2 hP;have HG := Hq (fun W => grow_h (n + m) (by omega) (by omega) W);have HE := Hq (Ai hn (Ai hm (Ai h2 (Ai h3 hP))));have k0 : decide (n + m < 0) = false := decide_eq_false (by omega);have k1 : decide ((n : Int) < 0) = false := decide_eq_false (by omega);rw [← hn, ← hm];clear hn hm h2 h3 hP;go_enter Tryz.func92, Tryz.ntmps92;go_wp2;refine wp_loop_rounds 3 ?_;rw [rounds_succ];go_wp2;rw [rounds_succ];go_wp2;rw [rounds_succ];go_wp2_with fail;refine (HG.out _).mono ?_;rintro e w1 ⟨c, rfl, hO, hB⟩;have q0 : w1.cell? ⟨P, 0, none⟩ = some (.slice A2 n c2) := (hB.cell (p := ⟨P, 0, none⟩) lP).trans p0;have q1 : w1.cell? ⟨P, 1, none⟩ = some (.slice A3 m c3) := (hB.cell (p := ⟨P, 1, none⟩) lP).trans p1;have hs1 := hB.size;have HO := Hq hO;have HB := Hq hB;clear hO hB HG p0 p1 k0 k1;go_wp2;refine wp_loop_rounds 3 ?_;rw [rounds_succ];go_wp2_with (at_builtin; refine wpList_append_els (C := hoC) (k := 5) _ rfl _ _ 24 rfl w.heap.size 53 i0 _ 56 Tryz.underlying24 hi hz0 hz1 hz2 rfl (by decide) (.slice (some ⟨w.heap.size, 0, none⟩) 0 c) 0 [] rfl HO.out w.heap.size A2 c2 n l2 rfl (Els.keep HE.out.2.2.1 HB.out (Nat.le_refl _)) HE.out.1 hoC_len hoC_one (by unfold maxLen; omega) (by omega) hs1 ?_; intro A5 c5 w5 own5 g5 k5; rw [Nat.zero_add] at own5 k5 ⊢; rw [List.nil_append] at own5);have hb5 : Below w.heap.size w w5 := HB.out.grown g5 hs1 (fun i e => by have := e; simp [Value.ownBlock] at this; omega);have q1 : w5.cell? ⟨P, 1, none⟩ = some (.slice A3 m c3) := by
  have h9 := (hb5.block P lP).trans HE.out.2.2.2.2;exact cell_blk (i := 1) h9 rfl
 have hs5 := hb5.size;have HO5 := Hq own5;have HB5 := Hq hb5;clear own5 g5 k5 hb5 HO HB q0 hs1;rw [rounds_succ];go_wp2_with (at_builtin; refine wpList_append_els (C := hoC) (k := 5) _ rfl _ _ 24 rfl w.heap.size 53 i0 _ 56 Tryz.underlying24 hi hz0 hz1 hz2 rfl (by decide) (.slice A5 n c5) n (l2.flatMap hoC) rfl HO5.out w.heap.size A3 c3 m l3 rfl (Els.keep HE.out.2.2.2.1 HB5.out (Nat.le_refl _)) HE.out.2.1 hoC_len hoC_one (by unfold maxLen; omega) (by omega) hs5 ?_; intro A6 c6 w6 own6 g6 k6; rw [← List.flatMap_append] at own6);have hb6 : Below w.heap.size w w6 := HB5.out.grown g6 hs5 (fun i e => (HO5.out.lt i e).1);have HO6 := Hq own6;have HB6 := Hq hb6;clear own6 g6 k6 hb6 HO5 HB5;rw [rounds_succ];go_wp2
 go_ret
 have hl6 : (l2 ++ l3).length = n + m := by rw [List.length_append, ← HE.out.1, ← HE.out.2.1]
 rcases HO6.out.2 with ⟨e, h9⟩ | ⟨r, cap, cur, e, hr, _⟩
 ·omega
 ·injection e with e1 _ _;subst e1;exact ⟨r, c6, rfl, Hq ⟨own_hos HO6.out hl6, hr⟩, HB6.out⟩
end
end Go.Proofs.YtkkkhonjcbhelaaGreatDoor
