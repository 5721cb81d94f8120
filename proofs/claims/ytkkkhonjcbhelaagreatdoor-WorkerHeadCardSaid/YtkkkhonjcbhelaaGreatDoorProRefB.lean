import Derived.Test.YtkkkhonjcbhelaaGreatDoorProRefA
set_option linter.unusedVariables false
set_option maxRecDepth 100000
namespace Go.Proofs.YtkkkhonjcbhelaaGreatDoor
open Go.RowKit
open PR
theorem mo_next {l : List Ho} {k : Nat} {x : Ho} {t q : Int} (h : l[k]? = some x) : mine (over (l.take (k + 1)) t) q = mine (over (l.take k) t) q ++ if x.u ≤ t ∧ x.q = q then x.sl else [] := by
 rw [over_next h, mine_app]
 congr 1
 by_cases e : x.u ≤ t
 ·rw [if_pos e];by_cases e2 : x.q = q
  ·rw [if_pos ⟨e, e2⟩]; simp [mine, sl, e2]
  ·rw [if_neg (fun h => e2 h.2)]; simp [mine, sl, e2]
 ·rw [if_neg e, if_neg (fun h => e h.1)]; simp [mine, sl]
theorem mo_bounds {l : List Ho} (hm : Many l) (hs : Low (sl l)) (t q : Int) (k : Nat) : (gs (mine (over (l.take k) t) q) : Int) ≤ 64000000 ∧ 0 ≤ cs (mine (over (l.take k) t) q) ∧ cs (mine (over (l.take k) t) q) ≤ 1048576000000 := by
 have hM : Many (over (l.take k) t) := ⟨by
  have h1 := List.length_filter_le (fun h : Ho => decide (h.u ≤ t)) (l.take k);have h2 := hm.n;have h3 := List.length_take_le k l;unfold over; rw [List.length_take] at h1; omega, fun x hx => hm.s x (List.mem_of_mem_take (List.mem_filter.1 hx).1)⟩
 have hL : Low (sl (over (l.take k) t)) := fun s h => hs s (by
  have := over_sub (l.take k) t s h;unfold sl at *;obtain ⟨x, hx, hs⟩ := List.mem_flatMap.1 this;exact List.mem_flatMap.2 ⟨x, List.mem_of_mem_take hx, hs⟩)
 have := mine_bounds hM hL q (over (l.take k) t).length
 rwa [List.take_length] at this
theorem low_of' {lv : List Fe} {l : List Ho} (hv : View lv) (h : (turnL moreC lv (sl l)).1 = 0) (hok : ∀ x ∈ l, HoOk x) : Low (sl l) := fun s hs => by
 have h1 := turn_bounds (fun f hf => (hv.ok f hf).2.1) h s hs;unfold sl at hs;obtain ⟨x, hx, hs⟩ := List.mem_flatMap.1 hs;exact ⟨(hok x hx).ok s hs, h1⟩
set_option maxHeartbeats 8000000 in
theorem refat12_any (t g c : Int) (A1 : Option Addr) (p1 : Nat) (lv : List Fe) (A2 : Option Addr) (p2 : Nat) (l : List Ho) (X : Wa) (w : World) (hv : Fes w w.heap.size A1 lv) (hview : View lv) (hl : lv.length ≤ 1000)
  (hd : HosIn w w.heap.size A2 l) (hok : ∀ x ∈ l, HoOk x) (hm : Many l) (h5 : (sl l).length ≤ 100000) (he : (turnL moreC lv (sl l)).1 = 0) (hw : WaOk X) (g0 : -2147483648 ≤ g ∧ g ≤ 2147483648) (c0 : -2147483648 ≤ c ∧ c ≤ 2147483648) (hT : Tab w) :
  Calls Tryz.prog 21 #[.int .i64 t, .slice A1 lv.length p1, .agg #[.int .i64 g, .int .i64 c], .slice A2 l.length p2, waV X] w fun e w' => e = .returned (.bool (at_ lv g c l X t)) ∧ Below w.heap.size w w' := by
 have HT := Hq hT;obtain ⟨n, hn⟩ := nx (lv.length);obtain ⟨m, hm0⟩ : ∃ m, m = l.length := ⟨_, rfl⟩
 obtain ⟨lv2, hlv2⟩ := nx ((turnL moreC lv (sl (over l t))).2);obtain ⟨ss, hss⟩ := nx (sl (over l t));obtain ⟨u, hu⟩ := nx (ss.length);have hlow2 := low_of' hview he hok;have hto := turn_over he t;have hAll := Hq (fun W (hW : Below w.heap.size w W) => show Calls Tryz.prog 32 #[.slice A2 m p2, .int .i64 t] W (fun e w' => ∃ A' c', e = .returned (.slice A' u c') ∧ Fes w' w'.heap.size A' ss ∧ Below W.heap.size W w') from by
  have h9 := refall12_any A2 p2 l t W (hd.keep hW hW.size) hm;rw [← hm0, ← hss, ← hu] at h9;exact h9)
 have hMo := Hq (fun (A5 : Option Addr) (c5 : Nat) W (h1 : Fes W W.heap.size A5 ss) (hW : Below w.heap.size w W) => show Calls Tryz.prog 20 #[.slice A1 n p1, .slice A5 u c5] W (fun e w' => ∃ A' c', e = .returned (.tuple #[.slice A' n c', .int .i64 0]) ∧ Hid (Fes w' w'.heap.size A' lv2 ∧ lv2.length = n ∧ View lv2) ∧ Below W.heap.size W w') from by
  have h9 := refmore05_any A1 p1 lv A5 c5 ss W (hv.keep hW hW.size) hview hl h1 (fun s hsm => (hlow2 s (over_sub l t s (by rw [← hss]; exact hsm))).1) (by
   have hp := (sl_perm (over_rest l t)).length_eq;rw [sl_app, List.length_append] at hp;rw [hss]; omega)
  rw [← hn, ← hu] at h9;refine h9.mono ?_;rintro e w' ⟨hb, A', c', hf, rfl⟩;rw [hss, hto];refine ⟨A', c', by rw [hn]; rfl, Hq ?_, hb⟩;rcases hf.out with hf | hf
  ·rw [hss, ← hlv2, ← hn] at hf; exact hf
  ·rw [hss] at hf; exact absurd hto hf)
 have hFi := Hq (fun (A6 : Option Addr) (c6 : Nat) (G C : Int) W (h1 : Fes W W.heap.size A6 lv2) (h2 : View lv2) (h3 : lv2.length = n) (hW : Below w.heap.size w W) => show Calls Tryz.prog 9 #[.slice A6 n c6, .agg #[.int .i64 G, .int .i64 C], .agg #[.int .i64 X.q, .int .i64 X.n, .int .i64 X.S.g, .int .i64 X.S.c, .int .i64 X.S.mn, .int .i64 X.S.mx]] W (fun e w' => e = .returned (.bool (PR.fits lv2 G C X)) ∧ Below W.heap.size W w') from by
  have h9 := reffits12_any A6 c6 W.heap.size lv2 G C X W h1 (Nat.le_refl _) (by omega) h2 hw (hT.below hW hT.size);rw [h3] at h9;exact h9)
 obtain ⟨Rs, hRs⟩ := nx (at_ lv g c l X t);have hRf : Rs = PR.fits lv2 (g + gs (mine (over l t) X.q)) (c + cs (mine (over l t) X.q)) X := by rw [hRs, hlv2]; rfl
 have H := Hq (Ai hd (Ai hm0 (Ai hm (Ai hlow2 hRf))));rw [← hn, ← hm0, ← hRs];unfold waV waA;have hm1 : m ≤ 1000 := by have := hm.n; omega
 clear hv hview hl hd hok hm h5 he hw hT hn hm0 hlv2 hss hu hlow2 hto hRs hRf;obtain ⟨B0, hB0⟩ := nx (w.heap.size);rw [← hB0];have HB0 := Hq hB0;clear hB0;have HBel := Hq (Below.refl w.heap.size w);have hlow : w.heap.size ≤ w.heap.size := Nat.le_refl _;go_enter Tryz.func21, Tryz.ntmps21;go_wp2_with fail;obtain ⟨V1, hV1⟩ := nx ((w.alloc (.cells #[.int .i64 g, .int .i64 c] 42)).alloc (.cells #[.int .i64 X.q, .int .i64 X.n, .int .i64 X.S.g, .int .i64 X.S.c, .int .i64 X.S.mn, .int .i64 X.S.mx] 34));rw [← hV1];have hzV1 := sz2 hV1;replace HBel := be2 hV1 HBel hlow;have B_f := Hq (new20 hV1);have B_b := Hq (new21 hV1);obtain ⟨N_f, hN_f⟩ := nx (w.heap.size);obtain ⟨N_b, hN_b⟩ := nx (w.heap.size + 1);(try rw [← hN_b]);rw [← hN_b] at B_b;(try rw [← hN_f]);rw [← hN_f] at B_f;have l_f : N_f < V1.heap.size := by omega
 have l_b : N_b < V1.heap.size := by omega
 have g_f : w.heap.size ≤ N_f := by omega
 have g_b : w.heap.size ≤ N_b := by omega
 have d_f_b : N_f < N_b := by omega
 replace hlow : w.heap.size ≤ V1.heap.size := by omega
 clear hV1 hzV1 hN_f hN_b;refine (hAll.out V1 HBel.out).mono ?_;rintro e U2 ⟨A5, c5, rfl, hF5, hb9⟩;have hs9 := hb9.size;replace HBel := bt9 HBel hb9 hlow;replace B_f := bb9 hb9 B_f l_f;replace B_b := bb9 hb9 B_b l_b;replace l_f : N_f < U2.heap.size := by omega
 replace l_b : N_b < U2.heap.size := by omega
 replace hlow : w.heap.size ≤ U2.heap.size := by omega
 clear hb9 hs9;go_wp2_with fail;refine (hMo.out A5 c5 U2 hF5 HBel.out).mono ?_;rintro e U3 ⟨A6, c6, rfl, hF6, hb9⟩;have hs9 := hb9.size;have HF6 := Hq hF6.out;clear hF6 hF5;replace HBel := bt9 HBel hb9 hlow;replace B_f := bb9 hb9 B_f l_f;replace B_b := bb9 hb9 B_b l_b;replace l_f : N_f < U3.heap.size := by omega
 replace l_b : N_b < U3.heap.size := by omega
 replace hlow : w.heap.size ≤ U3.heap.size := by omega
 clear hb9 hs9;obtain ⟨rx, l_x, hxP, hxF⟩ := fes_off HF6.out.1 (fun i => i = N_f) (fun b hb o x => by subst hb; exact not_fe_two B_f.out x) N_b l_b (by omega);obtain ⟨O6, hO6⟩ : ∃ O, U3.heap[rx]? = some O := ⟨_, Array.getElem?_eq_getElem l_x⟩
 obtain ⟨Ox, hOx⟩ : ∃ f : Nat × Nat → Obj, f = fun _ => O6 := ⟨_, rfl⟩
 have hFx := Hq (fun (W : World) (h1 : W.heap[rx]? = some (Ox (0, 0))) (h2 : rx < W.heap.size) => hxF W (by rw [h1, hO6, hOx]) h2);have B_x : Hid (U3.heap[rx]? = some (Ox (0, 0))) := Hq (by rw [hO6, hOx]);have hx1 : rx ≠ N_f := hxP;have HL6 := Hq HF6.out.2;clear hxP hxF hO6 hOx HF6;have hfb : N_f < N_b := by omega
 go_wp2;go_loopw [13] (fun i wr => ∃ (k : Nat) (G C : Int), i = .int .i64 k ∧ k ≤ m ∧ rx < wr.heap.size ∧ N_b < wr.heap.size ∧ Hid (Below w.heap.size w wr) ∧ Hid (wr.heap[N_b]? = some (.cells #[.int .i64 X.q, .int .i64 X.n, .int .i64 X.S.g, .int .i64 X.S.c, .int .i64 X.S.mn, .int .i64 X.S.mx] 34 (0, 0))) ∧ Hid (wr.heap[N_f]? = some (.cells #[.int .i64 G, .int .i64 C] 42 (0, 0))) ∧ Hid (wr.heap[rx]? = some (Ox (0, 0))) ∧ Hid (G = g + gs (mine (over (l.take k) t) X.q) ∧ C = c + cs (mine (over (l.take k) t) X.q))) (fun i _ => m - (intOf i).toNat)
 case atStart => exact ⟨0, g, c, rfl, by omega, l_x, l_b, HBel, B_b, B_f, B_x, Hq ⟨by simp [over, mine, sl, gs], by simp [over, mine, sl, cs]⟩⟩
 case round =>
  clear HBel B_b B_f B_x l_x l_b l_f hlow;obtain ⟨k, G, C, rfl, hk, lrx, lNb, hBw, hBb, hBf, hBx, hGC⟩ := hrel;have hBs := hBw.out.size;obtain ⟨hd, hm0, hm, hlow2, hRf⟩ := H.out;have lNf : N_f < wr.heap.size := by omega
  by_cases hlt : k < m
  ·have u1 : decide (k < m) = true := decide_eq_true hlt;obtain ⟨x, hx⟩ := get_lt (l := l) (k := k) (by rw [← hm0]; exact hlt);obtain ⟨b, off, rfl, hb, hall⟩ := hd.at_.at_ hx;have hk5 := (hall k x hx).keep hb hBw.out;have h1 := hk5 1 _ rfl;have h2 := hk5 2 _ rfl;have b0 : wr.cell? ⟨N_b, 0, none⟩ = some (.int .i64 X.q) := cell_blk (i := 0) hBb.out rfl;have hnx := mo_next (t := t) (q := X.q) hx;by_cases hxt : x.u ≤ t
   ·have u2 : decide (x.u ≤ t) = true := decide_eq_true hxt;by_cases hxq : x.q = X.q
    ·have u3 : (x.q == X.q) = true := by simpa using hxq
     rw [if_pos ⟨hxt, hxq⟩] at hnx;obtain ⟨v, hv⟩ := nx (x.sl.length);have hF := hd.sl x (List.mem_of_getElem? hx);have hv6 := hm.s x (List.mem_of_getElem? hx);have hsx : Low x.sl := fun s hsm => hlow2 s (by unfold sl; exact List.mem_flatMap.2 ⟨x, List.mem_of_getElem? hx, hsm⟩)
     obtain ⟨G1, hG1⟩ : ∃ y : Int, y = (gs x.sl : Nat) := ⟨_, rfl⟩
     obtain ⟨C1, hC1⟩ := nx (cs x.sl);have hUn := Hq (fun W (hW : Below w.heap.size w W) => show Calls Tryz.prog 33 #[.slice x.A v x.c] W (fun e w' => e = .returned (.agg #[.int .i64 G1, .int .i64 C1]) ∧ Below W.heap.size W w') from by
      have h9 := refunits8_any x.A x.c x.sl W (hF.keep hW hW.size) hsx hv6;rw [← hv, ← hG1, ← hC1] at h9; exact h9)
     have g1 := gs_le x.sl;have g2 := cs_le (l := x.sl) fun s hsm => (hsx s hsm).2
     have bG1 : 0 ≤ G1 ∧ G1 ≤ 64000 := by rw [hG1]; omega
     have bC1 : 0 ≤ C1 ∧ C1 ≤ 1048576000 := by rw [hC1]; omega
     have hmo := mo_bounds hm hlow2 t X.q k;have bG : -2147483648 ≤ G ∧ G ≤ 2300000000 := by rw [hGC.out.1]; omega
     have bC : -2147483648 ≤ C ∧ C ≤ 1060000000000 := by rw [hGC.out.2]; omega
     have HN : Hid (G + G1 = g + gs (mine (over (l.take (k + 1)) t) X.q) ∧ C + C1 = c + cs (mine (over (l.take (k + 1)) t) X.q)) := Hq (by rw [hnx, gs_app, cs_app, hGC.out.1, hGC.out.2, hG1, hC1]; omega);have Hh4 := Hq (show CellsAt w b (off + k * 5) (hoC x) from hall k x hx);have Hv := Hq hv;clear hnx hv hF hv6 hsx hG1 hC1 g1 g2 hmo hx hk5 hd hm0 hm hlow2 hRf hxt hxq hall;go_wp2;go_quiet (fail);have hBq : Hid (Below w.heap.size w (wr.drewN nq)) := Hq (below_drewN hBw.out _);have h4 : (wr.drewN nq).cell? ⟨b, off + k * 5 + 4, none⟩ = some (.slice x.A v x.c) := by rw [Hv.out]; exact (Hh4.out.keep hb hBq.out) 4 _ rfl
     have hBbq : Hid ((wr.drewN nq).heap[N_b]? = some (.cells #[.int .i64 X.q, .int .i64 X.n, .int .i64 X.S.g, .int .i64 X.S.c, .int .i64 X.S.mn, .int .i64 X.S.mx] 34 (0, 0))) := Hq hBb.out;have hBfq : Hid ((wr.drewN nq).heap[N_f]? = some (.cells #[.int .i64 G, .int .i64 C] 42 (0, 0))) := Hq hBf.out;have hBxq : Hid ((wr.drewN nq).heap[rx]? = some (Ox (0, 0))) := Hq hBx.out;have zq : (wr.drewN nq).heap.size = wr.heap.size := rfl;clear h1 h2 b0 hBb hBf hBx hBw;generalize wr.drewN nq = wq at hBq h4 hBbq hBfq hBxq zq ⊢;go_wp2_with fail;refine (hUn.out wq hBq.out).mono ?_;rintro e w3 ⟨rfl, hb3⟩;have hs3 := hb3.size;obtain ⟨V, hV⟩ := nx (w3.alloc (.cells #[.int .i64 G1, .int .i64 C1] 42));have HV := Hq hV;have hb9 : Below w3.heap.size w3 V := by rw [hV]; exact (Below.refl _ _).alloc (Nat.le_refl _) _
     have hVs : V.heap.size = w3.heap.size + 1 := by rw [hV]; simp
     have bU : V.heap[w3.heap.size]? = some (.cells #[.int .i64 G1, .int .i64 C1] 42 (0, 0)) := by rw [hV]; exact heap_alloc_new w3 _
     have bF : V.heap[N_f]? = some (.cells #[.int .i64 G, .int .i64 C] 42 (0, 0)) := (hb9.block N_f (by omega)).trans ((hb3.block N_f (by omega)).trans hBfq.out);have hBV : Hid (Below w.heap.size w V) := Hq (by rw [hV]; exact (below_step hBq.out hb3).alloc (by omega) _);have bB : Hid (V.heap[N_b]? = some (.cells #[.int .i64 X.q, .int .i64 X.n, .int .i64 X.S.g, .int .i64 X.S.c, .int .i64 X.S.mn, .int .i64 X.S.mx] 34 (0, 0))) := Hq ((hb9.block N_b (by omega)).trans ((hb3.block N_b (by omega)).trans hBbq.out));have bX : Hid (V.heap[rx]? = some (Ox (0, 0))) := Hq ((hb9.block rx (by omega)).trans ((hb3.block rx (by omega)).trans hBxq.out));have y0 : w3.cell? ⟨N_f, 0, none⟩ = some (.int .i64 G) := cell_blk (i := 0) ((hb3.block N_f (by omega)).trans hBfq.out) rfl;have y1 : w3.cell? ⟨N_f, 1, none⟩ = some (.int .i64 C) := cell_blk (i := 1) ((hb3.block N_f (by omega)).trans hBfq.out) rfl;have z0 : w3.frozen? ⟨N_f, 0, none⟩ = false := frozen_blk ((hb3.block N_f (by omega)).trans hBfq.out);have z1 : w3.frozen? ⟨N_f, 1, none⟩ = false := frozen_blk ((hb3.block N_f (by omega)).trans hBfq.out);obtain ⟨x0, x1⟩ := cells2 bF;have zz0 : V.frozen? ⟨N_f, 0, none⟩ = false := frozen_blk bF;have zz1 : V.frozen? ⟨N_f, 1, none⟩ = false := frozen_blk bF;have HbF := Hq bF;have hUf : N_f < w3.heap.size := (by omega);have v0 : V.cell? ⟨w3.heap.size, 0, none⟩ = some (.int .i64 G1) := cell_blk (i := 0) bU rfl;have v1 : V.cell? ⟨w3.heap.size, 1, none⟩ = some (.int .i64 C1) := cell_blk (i := 1) bU rfl;clear hBfq hBbq hBxq hBq h4 hb3 hV hb9 bU bF;go_wp2_with (rw [← HV.out]);(try rw [← HV.out])
     go_roundw
     case rel =>
      refine ⟨k + 1, G + G1, C + C1, by go_num, by omega, by simp; omega, by simp; omega, Hq ((hBV.out.setCell (by show w.heap.size ≤ N_f; omega) _).setCell (by show w.heap.size ≤ N_f; omega) _), Hq ?_, Hq ?_, Hq ?_, HN⟩
      ·exact ((Sn N_b N_f).trans (Sn N_b N_f)).trans bB.out
      ·exact blk_put (i := 1) (.int .i64 (C + C1)) (blk_put (i := 0) (.int .i64 (G + G1)) HbF.out)
      ·exact ((Sn rx N_f).trans (Sn rx N_f)).trans bX.out
     case measure => simp [intOf]; omega
    ·have u3 : (x.q == X.q) = false := by simpa using hxq
     rw [if_neg (fun h => hxq h.2), List.append_nil] at hnx;have HN := Hq hnx;clear hnx hx hk5 hd hm0 hm hlow2 hRf hxt hxq hall;go_wp2;go_quiet (fail);go_wp2
     go_roundw
     case rel => exact ⟨k + 1, G, C, by go_num, by omega, lrx, lNb, Hq (below_drewN hBw.out _), Hq hBb.out, Hq hBf.out, Hq hBx.out, by rw [HN.out]; exact hGC⟩
     case measure => simp [intOf]; omega
   ·have u2 : decide (x.u ≤ t) = false := decide_eq_false hxt;rw [if_neg (fun h => hxt h.1), List.append_nil] at hnx;have HN := Hq hnx;clear hnx hx hk5 hd hm0 hm hlow2 hRf hxt hall;go_wp2;go_quiet (fail);go_wp2
    go_roundw
    case rel => exact ⟨k + 1, G, C, by go_num, by omega, lrx, lNb, Hq (below_drewN hBw.out _), Hq hBb.out, Hq hBf.out, Hq hBx.out, by rw [HN.out]; exact hGC⟩
    case measure => simp [intOf]; omega
  ·obtain rfl : k = m := by omega
   have u1 : decide (k < k) = false := (by simp);have e9 : l.take k = l := by rw [hm0]; exact List.take_length
   have hGC9 := hGC.out;rw [e9] at hGC9;have hFw := Hq (hFi.out A6 c6 G C wr (hFx.out wr hBx.out lrx) HL6.out.2 HL6.out.1 hBw.out);rw [hGC9.1, hGC9.2, ← hRf, ← hGC9.1, ← hGC9.2] at hFw;obtain ⟨f0, f1⟩ := cells2 hBf.out;obtain ⟨b0, b1, b2, b3, b4, b5⟩ := cells6 hBb.out;clear hd hm0 hm hlow2 hRf hlt e9 hGC9 hGC;go_wp2_with fail;refine hFw.out.mono ?_;rintro e w6 ⟨rfl, hb6⟩;have hB6 : Hid (Below w.heap.size w w6) := Hq (hBw.out.trans (hb6.mono hBs));clear hb6 hFw;go_wp2
   go_ret
   exact ⟨by first | rfl | simp, by rw [HB0.out]; exact hB6.out⟩
end Go.Proofs.YtkkkhonjcbhelaaGreatDoor
