import Derived.Test.YtkkkhonjcbhelaaGreatDoorElQ
import Derived.Test.YtkkkhonjcbhelaaGreatDoorProFew
import Derived.Test.YtkkkhonjcbhelaaGreatDoorProU
set_option linter.unusedVariables false
set_option maxRecDepth 100000
namespace Go.Proofs.YtkkkhonjcbhelaaGreatDoor
open Go.RowKit
open PR
theorem few14_true {lv : List Fe} {g c : Int} {l : List Ho} (h : fewH lv g c l = true) (hf : ∀ f ∈ lv, FeOk f) : View lv ∧ lv.length ≤ 70 ∧ (-1048576 ≤ g ∧ g ≤ 1048576 ∧ -1048576 ≤ c ∧ c ≤ 1048576) ∧ Many l ∧ (sl l).length ≤ 20000 ∧ l.length ≤ 20 ∧ ∀ x ∈ l, x.sl.length ≤ 20 := by
 unfold fewH at h;simp only [Bool.and_eq_true, decide_eq_true_eq, List.all_eq_true] at h;obtain ⟨h1, h2, h3, h4, h5⟩ := h;have h6 := sl_len (l := l) fun x hx => by have := h5 x hx; omega
 exact ⟨view_of_right hf h2, h1, h4, ⟨by omega, fun x hx => by have := h5 x hx; omega⟩, by omega, h3, h5⟩
set_option maxHeartbeats 16000000 in
theorem few14_any (L : Lk) (w : World) (h : LkIn w w.heap.size L) (hW : LkW L) :
  Calls Tryz.prog 15 #[lkV L] w fun e w' => ∃ b, e = .returned (.bool b) ∧ (b = true → LkF L) ∧ Below w.heap.size w w' := by
 obtain ⟨n1, hn1⟩ := nx (L.lv.length);obtain ⟨n2, hn2⟩ := nx (L.lf.length);obtain ⟨n3, hn3⟩ := nx (L.le.length);obtain ⟨n4, hn4⟩ := nx (L.lw.length);obtain ⟨n5, hn5⟩ := nx (L.lr.length);have hF0 := Hq (fun W (hk : Below w.heap.size w W) => show Calls Tryz.prog 23 #[.slice L.A1 n1 L.c1, .agg #[.int .i64 0, .int .i64 0], .slice L.A3 n3 L.c3] W (fun e w' => e = .returned (.bool (fewH L.lv 0 0 L.le)) ∧ Below W.heap.size W w') from by
  rw [hn1, hn3];exact few12_any L.A1 L.c1 L.lv 0 0 L.A3 L.c3 L.le W (h.v.keep hk hk.size) hW.l1 (h.e.keep hk hk.size).at_ (fun x hx => Nat.le_trans (hW.e x hx).l (hW.e x hx).m))
 have hFu := Hq (fun (U : Lu) W => show Calls Tryz.prog 23 #[.slice none 0 0, .agg #[.int .i64 U.g, .int .i64 U.c], .slice none 0 0] W (fun e w' => e = .returned (.bool (fewH [] U.g U.c [])) ∧ Below W.heap.size W w') from few12_any none 0 [] U.g U.c none 0 [] W (.inl rfl) (Nat.le_refl _) (.inl rfl) (fun x hx => by cases hx));have hMo := Hq (fun (A5 : Option Addr) (c5 : Nat) W (hk : Below w.heap.size w W) (hf : fewH L.lv 0 0 L.le = true) (h1 : Fes W W.heap.size A5 (sl L.le)) => show Calls Tryz.prog 20 #[.slice L.A1 n1 L.c1, .slice A5 (sl L.le).length c5] W (fun e w' => ∃ V, e = .returned (.tuple #[V, .int .i64 (turnL moreC L.lv (sl L.le)).1]) ∧ Below W.heap.size W w') from by
  obtain ⟨f1, f2, f3, f4, f5, f6, f7⟩ := few14_true hf hW.v;have h9 := refmore05_any L.A1 L.c1 L.lv A5 c5 (sl L.le) W (h.v.keep hk hk.size) f1 (by omega) h1 (fun s hsm => by
   unfold sl at hsm;obtain ⟨x, hx, hs⟩ := List.mem_flatMap.1 hsm;exact (hW.e x hx).ok s hs) (by omega)
  rw [← hn1] at h9;refine h9.mono ?_;rintro e w' ⟨hb, A', c', _, rfl⟩;exact ⟨_, rfl, hb⟩)
 have HK := Hq (Ai h.f (Ai h.e (Ai hn2 (Ai hn3 hW.v))));obtain ⟨i0, hi, hz0, hz1, hz2⟩ := info_parts info_slot4;unfold lkV lkA;rw [← hn1, ← hn2, ← hn3, ← hn4, ← hn5];clear hn1 hn2 hn3 hn4 hn5 h hW;by_cases h2 : 20 < n2
 ·have t1 : decide ((20 : Int) < (n2 : Int)) = true := decide_eq_true (by omega);clear h2;obtain ⟨B0, hB0⟩ := nx (w.heap.size);rw [← hB0];have HB0 := Hq hB0;clear hB0;have HBel := Hq (Below.refl w.heap.size w);have hlow : w.heap.size ≤ w.heap.size := Nat.le_refl _;go_enter Tryz.func15, Tryz.ntmps15;go_wp2;obtain ⟨V1, hV1⟩ := nx (w.alloc (.cells #[.int .i64 L.now, .int .i64 L.hd, .int .i64 L.pr, .int .i64 L.to, .slice L.A1 n1 L.c1, .slice L.A2 n2 L.c2, .slice L.A3 n3 L.c3, .slice L.A4 n4 L.c4, .slice L.A5 n5 L.c5] 28));rw [← hV1];have hzV1 := sz1 hV1;replace HBel := be1 hV1 HBel hlow;have B_l := Hq (new10 hV1);obtain ⟨N_l, hN_l⟩ := nx (w.heap.size);(try rw [← hN_l]);rw [← hN_l] at B_l;have l_l : N_l < V1.heap.size := by omega
  have g_l : w.heap.size ≤ N_l := by omega
  replace hlow : w.heap.size ≤ V1.heap.size := by omega
  clear hV1 hzV1 hN_l
  go_ret
  exact ⟨false, rfl, (fun e => by cases e), by rw [HB0.out]; exact HBel.out⟩
 have t1 : decide ((20 : Int) < (n2 : Int)) = false := decide_eq_false (by omega);by_cases h4 : 150 < n4
 ·have t2 : decide ((150 : Int) < (n4 : Int)) = true := decide_eq_true (by omega);clear h2 h4;obtain ⟨B0, hB0⟩ := nx (w.heap.size);rw [← hB0];have HB0 := Hq hB0;clear hB0;have HBel := Hq (Below.refl w.heap.size w);have hlow : w.heap.size ≤ w.heap.size := Nat.le_refl _;go_enter Tryz.func15, Tryz.ntmps15;go_wp2;obtain ⟨V1, hV1⟩ := nx (w.alloc (.cells #[.int .i64 L.now, .int .i64 L.hd, .int .i64 L.pr, .int .i64 L.to, .slice L.A1 n1 L.c1, .slice L.A2 n2 L.c2, .slice L.A3 n3 L.c3, .slice L.A4 n4 L.c4, .slice L.A5 n5 L.c5] 28));rw [← hV1];have hzV1 := sz1 hV1;replace HBel := be1 hV1 HBel hlow;have B_l := Hq (new10 hV1);obtain ⟨N_l, hN_l⟩ := nx (w.heap.size);(try rw [← hN_l]);rw [← hN_l] at B_l;have l_l : N_l < V1.heap.size := by omega
  have g_l : w.heap.size ≤ N_l := by omega
  replace hlow : w.heap.size ≤ V1.heap.size := by omega
  clear hV1 hzV1 hN_l
  go_ret
  exact ⟨false, rfl, (fun e => by cases e), by rw [HB0.out]; exact HBel.out⟩
 have t2 : decide ((150 : Int) < (n4 : Int)) = false := decide_eq_false (by omega);by_cases h5 : 150 < n5
 ·have t3 : decide ((150 : Int) < (n5 : Int)) = true := decide_eq_true (by omega);clear h2 h4 h5;obtain ⟨B0, hB0⟩ := nx (w.heap.size);rw [← hB0];have HB0 := Hq hB0;clear hB0;have HBel := Hq (Below.refl w.heap.size w);have hlow : w.heap.size ≤ w.heap.size := Nat.le_refl _;go_enter Tryz.func15, Tryz.ntmps15;go_wp2;obtain ⟨V1, hV1⟩ := nx (w.alloc (.cells #[.int .i64 L.now, .int .i64 L.hd, .int .i64 L.pr, .int .i64 L.to, .slice L.A1 n1 L.c1, .slice L.A2 n2 L.c2, .slice L.A3 n3 L.c3, .slice L.A4 n4 L.c4, .slice L.A5 n5 L.c5] 28));rw [← hV1];have hzV1 := sz1 hV1;replace HBel := be1 hV1 HBel hlow;have B_l := Hq (new10 hV1);obtain ⟨N_l, hN_l⟩ := nx (w.heap.size);(try rw [← hN_l]);rw [← hN_l] at B_l;have l_l : N_l < V1.heap.size := by omega
  have g_l : w.heap.size ≤ N_l := by omega
  replace hlow : w.heap.size ≤ V1.heap.size := by omega
  clear hV1 hzV1 hN_l
  go_ret
  exact ⟨false, rfl, (fun e => by cases e), by rw [HB0.out]; exact HBel.out⟩
 have t3 : decide ((150 : Int) < (n5 : Int)) = false := decide_eq_false (by omega);clear h4 h5;obtain ⟨B0, hB0⟩ := nx (w.heap.size);rw [← hB0];have HB0 := Hq hB0;clear hB0;have HBel := Hq (Below.refl w.heap.size w);have hlow : w.heap.size ≤ w.heap.size := Nat.le_refl _;go_enter Tryz.func15, Tryz.ntmps15;go_wp2_with fail;obtain ⟨V1, hV1⟩ := nx (w.alloc (.cells #[.int .i64 L.now, .int .i64 L.hd, .int .i64 L.pr, .int .i64 L.to, .slice L.A1 n1 L.c1, .slice L.A2 n2 L.c2, .slice L.A3 n3 L.c3, .slice L.A4 n4 L.c4, .slice L.A5 n5 L.c5] 28));rw [← hV1];have hzV1 := sz1 hV1;replace HBel := be1 hV1 HBel hlow;have B_l := Hq (new10 hV1);obtain ⟨N_l, hN_l⟩ := nx (w.heap.size);(try rw [← hN_l]);rw [← hN_l] at B_l;have l_l : N_l < V1.heap.size := by omega
 have g_l : w.heap.size ≤ N_l := by omega
 replace hlow : w.heap.size ≤ V1.heap.size := by omega
 clear hV1 hzV1 hN_l;refine (hF0.out V1 HBel.out).mono ?_;rintro e U2 ⟨rfl, hb9⟩;have hs9 := hb9.size;replace HBel := bt9 HBel hb9 hlow;replace B_l := bb9 hb9 B_l l_l;replace l_l : N_l < U2.heap.size := by omega
 replace hlow : w.heap.size ≤ U2.heap.size := by omega
 clear hb9 hs9
 cases hf : fewH L.lv 0 0 L.le
 ·go_wp2
  go_ret
  exact ⟨false, rfl, (fun e => by cases e), by rw [HB0.out]; exact HBel.out⟩
 ·have HFW := Hq hf;clear hf;go_wp2;go_loopw [3] (fun vi wr => ∃ (k : Nat), vi = .int .i64 k ∧ k ≤ n2 ∧ N_l < wr.heap.size ∧ Hid (Below w.heap.size w wr) ∧ Hid (wr.heap[N_l]? = some (.cells #[.int .i64 L.now, .int .i64 L.hd, .int .i64 L.pr, .int .i64 L.to, .slice L.A1 n1 L.c1, .slice L.A2 n2 L.c2, .slice L.A3 n3 L.c3, .slice L.A4 n4 L.c4, .slice L.A5 n5 L.c5] 28 (0, 0))) ∧ Hid (∀ u ∈ L.lf.take k, fewH [] u.g u.c [] = true)) (fun vi _ => n2 - (intOf vi).toNat)
  case atStart => exact ⟨0, rfl, by omega, l_l, HBel, B_l, Hq (by simp)⟩
  case round =>
   clear HBel B_l l_l hlow;obtain ⟨k, rfl, hk, l_l, HBel, B_l, hU⟩ := hrel;have hlow := HBel.out.size;by_cases hlt : k < n2
   ·have u1 : decide (k < n2) = true := decide_eq_true hlt;obtain ⟨U, hx⟩ := get_lt (l := L.lf) (k := k) (by rw [← HK.out.2.2.1]; exact hlt);obtain ⟨b, off, hA, hb, hall⟩ := HK.out.1.at_ hx;have HX := Hq ((hall k U hx).keep hb HBel.out);have l5 : wr.cell? ⟨N_l, 5, none⟩ = some (.slice (some ⟨b, off, none⟩) n2 L.c2) := by rw [← hA]; exact cell_blk (i := 5) B_l.out rfl
    have hC := Hq (hFu.out U wr);obtain ⟨q, hq⟩ := nx (fewH [] U.g U.c []);rw [← hq] at hC;have HU := Hq (Ai hU.out (Ai hx hq));clear hall hx hb hA hU hq;go_wp2_with (refine wpList_load_lu rfl _ rfl b (off + k * 2) U rfl HX.out ?_);refine hC.out.mono ?_;rintro e w3 ⟨rfl, hb9⟩;have hs9 := hb9.size;replace HBel := bt9 HBel hb9 hlow;replace B_l := bb9 hb9 B_l l_l;replace l_l : N_l < w3.heap.size := (by omega);clear hb9 hs9 l5 hC HX
    cases q
    ·go_wp2
     go_ret
     exact ⟨false, rfl, (fun e => by cases e), by rw [HB0.out]; exact HBel.out⟩
    ·have HN : Hid (∀ u ∈ L.lf.take (k + 1), fewH [] u.g u.c [] = true) := Hq (by
      rw [take_next HU.out.2.1];intro u hu;rcases List.mem_append.1 hu with hu | hu
      ·exact HU.out.1 u hu
      ·rw [List.mem_singleton.1 hu]; exact HU.out.2.2.symm)
     go_wp2
     go_roundw
     case rel => exact ⟨k + 1, by go_num, by omega, l_l, HBel, B_l, HN⟩
     case measure => simp [intOf]; omega
   ·obtain rfl : n2 = k := by omega
    have u1 : decide (n2 < n2) = false := decide_eq_false hlt;have hU2 : Hid (∀ u ∈ L.lf, fewH [] u.g u.c [] = true) := Hq (by have := hU.out; rw [HK.out.2.2.1, List.take_length] at this; exact this);have l5 : wr.cell? ⟨N_l, 5, none⟩ = some (.slice L.A2 n2 L.c2) := cell_blk (i := 5) B_l.out rfl;have hmm : Many L.le := (few14_true HFW.out HK.out.2.2.2.2).2.2.2.1;have hn31 : n3 ≤ 20 := by rw [HK.out.2.2.2.1]; exact (few14_true HFW.out HK.out.2.2.2.2).2.2.2.2.2.1
    have HMM := Hq hmm;obtain ⟨S1, hS1⟩ := nx (wr.heap.size);have hlS : N_l < S1 := (by omega);have hwS : w.heap.size ≤ S1 := (by omega);have HB1 := Hq (Ai (show Below S1 wr wr from by rw [hS1]; exact Below.refl _ _) (show wr.ownsRow S1 64 4 (.slice none 0 0) 0 ((sl (L.le.take 0)).flatMap feC) from World.ownsRow_nil _ _ _ _));have HS1 := Hq hS1;clear hU hmm hlt hS1 hk;obtain ⟨wo, hwo⟩ := nx (wr);subst hwo;go_wp2;go_loopw [4, 5] (fun v vi wz => ∃ (k u : Nat) (A : Option Addr) (cp : Nat), vi = .int .i64 k ∧ v = .slice A u cp ∧ k ≤ n3 ∧ u = (sl (L.le.take k)).length ∧ Hid (Below S1 wo wz ∧ wz.ownsRow S1 64 4 (.slice A u cp) u ((sl (L.le.take k)).flatMap feC))) (fun _ vi _ => n3 - (intOf vi).toNat)
    case atStart => exact ⟨0, 0, none, 0, rfl, rfl, by omega, rfl, HB1⟩
    case round =>
     clear HB1 l5 l_l;obtain ⟨k, u, A3, cp, rfl, rfl, hkn, hu, hB⟩ := hrel;have hBw := HBel.out.trans (hB.out.1.mono hwS);have hsz := hBw.size;have hszS : S1 ≤ wr.heap.size := by have := hB.out.1.size; rw [HS1.out]; exact this
     have B_l2 : Hid (wr.heap[N_l]? = some (.cells #[.int .i64 L.now, .int .i64 L.hd, .int .i64 L.pr, .int .i64 L.to, .slice L.A1 n1 L.c1, .slice L.A2 n2 L.c2, .slice L.A3 n3 L.c3, .slice L.A4 n4 L.c4, .slice L.A5 n5 L.c5] 28 (0, 0))) := Hq ((hB.out.1.block N_l hlS).trans B_l.out);by_cases hlt : k < n3
     ·have u1 : decide (k < n3) = true := decide_eq_true hlt;obtain ⟨x, hx⟩ := get_lt (l := L.le) (k := k) (by rw [← HK.out.2.2.2.1]; exact hlt);obtain ⟨b, off, hA, hb, hall⟩ := HK.out.2.1.at_.at_ hx;have l6 : wr.cell? ⟨N_l, 6, none⟩ = some (.slice (some ⟨b, off, none⟩) n3 L.c3) := by rw [← hA]; exact cell_blk (i := 6) B_l2.out rfl
      have h4 := ((hall k x hx).keep hb hBw) 4 _ rfl;obtain ⟨v, hv⟩ := nx (x.sl.length);have hv6 := HMM.out.s x (List.mem_of_getElem? hx);have hu6 := sl_many HMM.out k;rw [← hu] at hu6;rw [← hv] at h4 hv6;have hF := (HK.out.2.1.sl x (List.mem_of_getElem? hx)).keep hBw hsz;have HV := Hq (Ai hv (Ai hu hB.out));have hn1 : Hid (u + v = (sl (L.le.take (k + 1))).length) := Hq (by rw [sl_next hx, List.length_append, ← hu, ← hv]);have hn2 : Hid ((sl (L.le.take (k + 1))).flatMap feC = (sl (L.le.take k)).flatMap feC ++ x.sl.flatMap feC) := Hq (by rw [sl_next hx, List.flatMap_append]);have HO := Hq hB.out.2;have HE := Hq (fes_els hF);clear hv hu hB hall hx hF hBw hA hb;go_wp2_with (at_builtin; refine wpList_append_els (C := feC) (k := 4) _ rfl _ _ 37 rfl S1 64 i0 _ 32 Tryz.underlying37 hi hz0 hz1 hz2 rfl (by decide) (.slice A3 u cp) u ((sl (L.le.take k)).flatMap feC) rfl HO.out _ x.A x.c v x.sl rfl HE.out HV.out.1 feC_len1 feC_one1 (by unfold maxLen; omega) (by omega) (by first | omega | (simp; omega)) ?_; intro A5 c5 w5 own5 g5 k5);have HN : Hid (Below S1 wo w5 ∧ w5.ownsRow S1 64 4 (.slice A5 (u + v) c5) (u + v) ((sl (L.le.take (k + 1))).flatMap feC)) := Hq ⟨HV.out.2.2.1.grown g5 hszS (fun i e => (HV.out.2.2.2.lt i e).1), by rw [hn2.out]; exact own5⟩;clear own5 g5 k5 HO HE;go_wp2
      go_roundw
      case rel => exact ⟨k + 1, u + v, A5, c5, by go_num, rfl, by omega, hn1.out, HN⟩
      case measure => simp [intOf]; omega
     ·obtain rfl : n3 = k := by omega
      have u1 : decide (n3 < n3) = false := decide_eq_false hlt;have e9 : L.le.take n3 = L.le := by rw [HK.out.2.2.2.1]; exact List.take_length
      rw [e9] at hu hB;have hF5 : Fes wr wr.heap.size A3 (sl L.le) := fe_own (c := cp) (by rw [← hu]; exact hB.out.2);have hMw := hMo.out A3 cp wr hBw HFW.out hF5;rw [← hu] at hMw;have HMW := Hq hMw;have HBW := Hq hBw;have l4 : wr.cell? ⟨N_l, 4, none⟩ = some (.slice L.A1 n1 L.c1) := cell_blk (i := 4) B_l2.out rfl;have l6 : wr.cell? ⟨N_l, 6, none⟩ = some (.slice L.A3 n3 L.c3) := cell_blk (i := 6) B_l2.out rfl;clear hB hBw hF5 e9 hlt hu hMw hkn;go_wp2_with fail;refine HMW.out.mono ?_;rintro e w9 ⟨V9, rfl, hb9⟩;obtain ⟨E9, hE9⟩ := nx ((turnL moreC L.lv (sl L.le)).1);rw [← hE9];have HF9 := Hq (Ai hE9 (HBW.out.trans (hb9.mono hsz)));clear hE9 hb9 l4 l6;go_wp2
      go_ret
      refine ⟨_, rfl, fun e9 => ?_, by rw [HB0.out]; exact HF9.out.2⟩;obtain ⟨f1, f2, f3, f4, f5, f6, f7⟩ := few14_true HFW.out HK.out.2.2.2.2;refine ⟨f1, f2, f6, f7, fun U hU => ?_, by rw [← HF9.out.1]; simpa using e9, by have := HK.out.2.2.1; omega⟩;exact (few14_true (hU2.out U hU) (fun f hf => by cases hf)).2.2.1
end Go.Proofs.YtkkkhonjcbhelaaGreatDoor
