import Derived.Test.YtkkkhonjcbhelaaGreatDoorFilP
set_option maxRecDepth 100000
set_option linter.unusedVariables false
namespace Go.Proofs.YtkkkhonjcbhelaaGreatDoor
open Go.RowKit
open PR
theorem pless_by (A : Option Addr) (c : Nat) (l : List Fe) (SA : Option Addr) (sc : Nat) (ss : List Fe) (E : Int) (lv2 : List Fe) (w : World) (hE : turnL lessC l ss = (E, lv2)) (h : Fes w w.heap.size A l) (hv : View l) (hn : l.length ≤ 100000) (hs : Fes w w.heap.size SA ss) (hso : ∀ s ∈ ss, FeOk s) (hsn : ss.length ≤ 100000) :
  Calls Tryz.prog 90 #[.slice A l.length c, .slice SA ss.length sc] w fun e w' => (E = 0 → ∃ A' c', Hid (Fes w' w'.heap.size A' lv2 ∧ lv2.length = l.length ∧ View lv2) ∧ e = .returned (.tuple #[.slice A' l.length c', .int .i64 0])) ∧ (E ≠ 0 → e = .returned (.tuple #[.slice none 0 0, .int .i64 E])) ∧ Below w.heap.size w w' := by
 refine (pless_any A c l SA sc ss w h hv hn hs hso hsn).mono ?_;rintro e w' ⟨hb, A', c', hf, he⟩;rw [hE] at hf he;refine ⟨fun h0 => ⟨A', c', Hq ?_, ?_⟩, fun h0 => ?_, hb⟩
 ·rcases hf.out with hf | hf
  ·exact hf
  ·exact absurd h0 hf
 ·simp only [h0, if_true] at he; exact he
 ·simp only [if_neg h0] at he; exact he
theorem not_fe_sight {w : World} {p o : Nat} {a d : Option Addr} {b c e f : Nat} {x y : Int} {ty : TypeId} (h : w.heap[p]? = some (.cells #[.slice a b c, .int .i64 x, .int .i64 y, .slice d e f] ty (0, 0))) (z : Fe) : ¬ FeAt w p o z := fun hf => by
 obtain ⟨h0, h1, h2, _⟩ := hf
 match o with
 | 0 => rw [show w.cell? ⟨p, 0, none⟩ = some (.slice a b c) from cell_blk (i := 0) h rfl] at h0; cases h0
 | 1 => rw [show w.cell? ⟨p, 1 + 2, none⟩ = some (.slice d e f) from cell_blk (i := 3) h rfl] at h2; cases h2
 | 2 => rw [show w.cell? ⟨p, 2 + 1, none⟩ = some (.slice d e f) from cell_blk (i := 3) h rfl] at h1; cases h1
 | 3 => rw [show w.cell? ⟨p, 3, none⟩ = some (.slice d e f) from cell_blk (i := 3) h rfl] at h0; cases h0
 | o + 4 => simp [World.cell?, h] at h0
theorem low_less {lv lv2 : List Fe} {H : Ho} (hv : View lv) (hv2 : View lv2) (h : turnL lessC lv H.sl = (0, lv2)) (hok : ∀ s ∈ H.sl, FeOk s) : Low H.sl := fun s hs => by
 have h1 := more_back H.sl (fun f hf => (hv.ok f hf).2.2) h;have h2 := turn_bounds (fun f hf => (hv2.ok f hf).2.1) (by rw [h1]) s hs;exact ⟨hok s hs, h2⟩
theorem one_hos {w : World} {p : Nat} {H : Ho} (hp : w.heap[p]? = some (.cells (hoA H) 53 (0, 0))) : Hos w w.heap.size (some ⟨p, 0, none⟩) [H] := by
 refine .inr ⟨p, 0, rfl, blk_lt hp, fun i x hx => ?_⟩
 match i, hx with
 | 0, hx =>
  simp at hx; subst hx;intro k u hk;rw [Nat.zero_mul, Nat.add_zero, Nat.zero_add];exact cell_blk hp (by simpa [hoC, hoA] using hk)
set_option maxHeartbeats 2000000 in
theorem changes_any (H : Ho) (Q : Int) (w : World) :
  Calls Tryz.prog 80 #[hoV H, .int .i64 Q] w fun e w' =>
   e = .returned (.func (.func 89) #[] #[.pointer (some ⟨w.heap.size, 0, none⟩), .pointer (some ⟨w.heap.size + 1, 0, none⟩)]) ∧ w'.heap[w.heap.size]? = some (.cells (hoA H) 53 (0, 0)) ∧ w'.heap[w.heap.size + 1]? = some (.cells #[.int .i64 Q] 3 (0, 0)) ∧ Below w.heap.size w w' := by
 unfold hoV hoA;obtain ⟨k, hk⟩ := nx (H.sl.length);rw [← hk];obtain ⟨W, hW⟩ := nx ((w.alloc (.cells #[.int .i64 H.id, .int .i64 H.q, .int .i64 H.u, .bool H.r, .slice H.A k H.c] 53)).alloc (.cells #[.int .i64 Q] 3));have h1 : W.heap[w.heap.size]? = some (.cells #[.int .i64 H.id, .int .i64 H.q, .int .i64 H.u, .bool H.r, .slice H.A k H.c] 53 (0, 0)) := by rw [hW]; exact (Below.heap_alloc _ _ _ (by simp)).trans (heap_alloc_new w _)
 have h2 : W.heap[w.heap.size + 1]? = some (.cells #[.int .i64 Q] 3 (0, 0)) := by
  have := heap_alloc_new (w.alloc (.cells #[.int .i64 H.id, .int .i64 H.q, .int .i64 H.u, .bool H.r, .slice H.A k H.c] 53)) (.cells #[.int .i64 Q] 3);rw [World.size_alloc] at this;rw [hW]; exact this
 have hB : Below w.heap.size w W := by rw [hW]; exact ((Below.refl w.heap.size w).alloc (Nat.le_refl _) _).alloc (by simp) _
 have HW := Hq hW;have HX := Hq (Ai h1 (Ai h2 hB));clear h1 h2 hB hW hk;go_enter Tryz.func80, Tryz.ntmps80;go_wp2;rw [← HW.out]
 go_ret
 exact ⟨rfl, HX.out⟩
def ChgRes (n m : Nat) (lv2 : List Fe) (l : List Ho) (H : Ho) (G C E : Int) (w' : World) (e : Ending) : Prop :=
 (E ≠ 0 ∧ e = .returned (.tuple #[.agg #[.slice none 0 0, .int .i64 0, .int .i64 0, .slice none 0 0], .int .i64 E])) ∨
  (E = 0 ∧ ∃ A' c' A3 c3, e = .returned (.tuple #[.agg #[.slice A' n c', .int .i64 G, .int .i64 C, .slice A3 (m + 1) c3], .int .i64 0]) ∧ Hid (Fes w' w'.heap.size A' lv2 ∧ lv2.length = n ∧ View lv2 ∧ HosIn w' w'.heap.size A3 (l ++ [H])))
set_option maxHeartbeats 8000000 in
theorem changes_cl (p q : Nat) (H : Ho) (Q : Int) (A1 : Option Addr) (p1 : Nat) (lv : List Fe) (g c : Int) (A2 : Option Addr) (p2 : Nat) (l : List Ho) (E : Int) (lv2 : List Fe) (w : World) (bp : w.heap[p]? = some (.cells (hoA H) 53 (0, 0))) (bq : w.heap[q]? = some (.cells #[.int .i64 Q] 3 (0, 0)))
  (hv : Fes w w.heap.size A1 lv) (hview : View lv) (hl : lv.length ≤ 1000) (hd : HosIn w w.heap.size A2 l) (hn2 : l.length ≤ 1000) (hF : Fes w w.heap.size H.A H.sl) (hok : HoOk H) (hs : H.sl.length ≤ 1000) (hE : turnL lessC lv H.sl = (E, lv2)) (g0 : -1099511627776 ≤ g ∧ g ≤ 1099511627776) (c0 : -1099511627776 ≤ c ∧ c ≤ 1099511627776) :
  Calls Tryz.prog 89 #[.agg #[.slice A1 lv.length p1, .int .i64 g, .int .i64 c, .slice A2 l.length p2], .pointer (some ⟨p, 0, none⟩), .pointer (some ⟨q, 0, none⟩)] w fun e w' => ChgRes lv.length l.length lv2 l H (g - hg H Q) (c - hc H Q) E w' e ∧ Below w.heap.size w w' := by
 obtain ⟨n, hn⟩ := nx (lv.length);obtain ⟨m, hm⟩ := nx (l.length);obtain ⟨k, hk⟩ := nx (H.sl.length);have hEo := Hq hE;obtain ⟨G, hGG⟩ : ∃ G, G = g - (hg H Q : Int) := ⟨_, rfl⟩
 obtain ⟨C, hCC⟩ : ∃ C, C = c - hc H Q := ⟨_, rfl⟩
 rw [← hGG, ← hCC];have HGG := Hq (Ai hGG hCC);clear hGG hCC;have hLe := Hq (fun W (hW : Below w.heap.size w W) => show Calls Tryz.prog 90 #[.slice A1 n p1, .slice H.A k H.c] W (fun e w' => (E = 0 → ∃ A' c', Hid (Fes w' w'.heap.size A' lv2 ∧ lv2.length = n ∧ View lv2) ∧ e = .returned (.tuple #[.slice A' n c', .int .i64 0])) ∧ (E ≠ 0 → e = .returned (.tuple #[.slice none 0 0, .int .i64 E])) ∧ Below W.heap.size W w') from by
  rw [hn, hk];exact pless_by A1 p1 lv H.A H.c H.sl E lv2 W hE (hv.keep hW hW.size) hview (by omega) (hF.keep hW hW.size) hok.ok (by omega))
 have HH := Hq (Ai hview (Ai hd (Ai hF (Ai hok (Ai hn (Ai hm hk))))));unfold hoA at bp;rw [← hk] at bp hs;rw [← hm] at hn2;rw [← hn, ← hm];have l_ho := blk_lt bp;have l_qo := blk_lt bq;have B_ho := Hq bp;have B_qo := Hq bq;clear hv hview hl hd hF hok hE hn hm hk bp bq;by_cases hE0 : E ≠ 0
 ·obtain ⟨B0, hB0⟩ := nx (w.heap.size);rw [← hB0];have HB0 := Hq hB0;clear hB0;have HBel := Hq (Below.refl w.heap.size w);have hlow : w.heap.size ≤ w.heap.size := Nat.le_refl _;go_enter Tryz.func89, Tryz.ntmps89;obtain ⟨ho0, ho1, ho2, ho3, ho4⟩ := cells5 B_ho.out;go_wp2_with fail;clear ho0 ho1 ho2 ho3 ho4;obtain ⟨V1, hV1⟩ := nx ((w.alloc (.cells #[.slice A1 n p1, .int .i64 g, .int .i64 c, .slice A2 m p2] 145)).alloc (.cells #[.slice none 0 0, .int .i64 0, .int .i64 0, .slice none 0 0] 145));rw [← hV1];have hzV1 := sz2 hV1;replace HBel := be2 hV1 HBel hlow;replace B_ho := bk2 hV1 B_ho l_ho;replace B_qo := bk2 hV1 B_qo l_qo;have B_s := Hq (new20 hV1);have B_r := Hq (new21 hV1);obtain ⟨N_s, hN_s⟩ := nx (w.heap.size);obtain ⟨N_r, hN_r⟩ := nx (w.heap.size + 1);(try rw [← hN_r]);rw [← hN_r] at B_r;(try rw [← hN_s]);rw [← hN_s] at B_s;have d_ho_s : p < N_s := by omega
  have d_qo_s : q < N_s := by omega
  have d_ho_r : p < N_r := by omega
  have d_qo_r : q < N_r := by omega
  replace l_ho : p < V1.heap.size := by omega
  replace l_qo : q < V1.heap.size := by omega
  have l_s : N_s < V1.heap.size := by omega
  have l_r : N_r < V1.heap.size := by omega
  have g_s : w.heap.size ≤ N_s := by omega
  have g_r : w.heap.size ≤ N_r := by omega
  have d_s_r : N_s < N_r := by omega
  replace hlow : w.heap.size ≤ V1.heap.size := by omega
  clear hV1 hzV1 hN_s hN_r;refine (hLe.out V1 HBel.out).mono ?_;rintro e U2 ⟨_, hbad, hb9⟩;have hs9 := hb9.size;obtain rfl := hbad hE0;clear hbad;replace HBel := bt9 HBel hb9 hlow;replace B_ho := bb9 hb9 B_ho l_ho;replace B_qo := bb9 hb9 B_qo l_qo;replace B_s := bb9 hb9 B_s l_s;replace B_r := bb9 hb9 B_r l_r;replace l_ho : p < U2.heap.size := by omega
  replace l_qo : q < U2.heap.size := by omega
  replace l_s : N_s < U2.heap.size := by omega
  replace l_r : N_r < U2.heap.size := by omega
  replace hlow : w.heap.size ≤ U2.heap.size := by omega
  clear hb9 hs9;have t1 : (E != 0) = true := by simp [hE0]
  obtain ⟨r0, r1, r2, r3⟩ := cells4 B_r.out;have rz0 : U2.frozen? ⟨N_r, 0, none⟩ = false := frozen_blk B_r.out;have rz1 : U2.frozen? ⟨N_r, 1, none⟩ = false := frozen_blk B_r.out;have rz2 : U2.frozen? ⟨N_r, 2, none⟩ = false := frozen_blk B_r.out;have rz3 : U2.frozen? ⟨N_r, 3, none⟩ = false := frozen_blk B_r.out;go_wp2;clear r0 r1 r2 r3 rz0 rz1 rz2 rz3;obtain ⟨S3, hS3⟩ := nx (((((U2).setCell ⟨N_r, 0, none⟩ (.slice none 0 0)).setCell ⟨N_r, 1, none⟩ (.int .i64 0)).setCell ⟨N_r, 2, none⟩ (.int .i64 0)).setCell ⟨N_r, 3, none⟩ (.slice none 0 0));rw [← hS3];have hzS3 : S3.heap.size = U2.heap.size := by rw [hS3]; simp
  replace HBel : Hid (Below w.heap.size w S3) := Hq (by rw [hS3]; exact ((((HBel.out.setCell (g_r) _).setCell (g_r) _).setCell (g_r) _).setCell (g_r) _));replace B_ho := Hq (blk_eq hS3 (((Sn p N_r).trans ((Sn p N_r).trans ((Sn p N_r).trans ((Sn p N_r).trans B_ho.out))))));replace B_qo := Hq (blk_eq hS3 (((Sn q N_r).trans ((Sn q N_r).trans ((Sn q N_r).trans ((Sn q N_r).trans B_qo.out))))));replace B_s := Hq (blk_eq hS3 (((Sn N_s N_r).trans ((Sn N_s N_r).trans ((Sn N_s N_r).trans ((Sn N_s N_r).trans B_s.out))))));replace B_r : Hid (S3.heap[N_r]? = some (.cells #[.slice none 0 0, .int .i64 0, .int .i64 0, .slice none 0 0] 145 (0, 0))) := Hq (by rw [hS3]; exact (blk_put (i := 3) _ (blk_put (i := 2) _ (blk_put (i := 1) _ (blk_put (i := 0) _ B_r.out)))));replace l_ho : p < S3.heap.size := by omega
  replace l_qo : q < S3.heap.size := by omega
  replace l_s : N_s < S3.heap.size := by omega
  replace l_r : N_r < S3.heap.size := by omega
  replace hlow : w.heap.size ≤ S3.heap.size := by omega
  clear hS3 hzS3;obtain ⟨r0, r1, r2, r3⟩ := cells4 B_r.out;refine bodyPost_ret (v := .tuple #[.agg #[.slice none 0 0, .int .i64 0, .int .i64 0, .slice none 0 0], .int .i64 E]) (by simp [results, Tryz.results89, go_sem, r0, r1, r2, r3]) rfl ?_;exact ⟨.inl ⟨hE0, rfl⟩, by rw [HB0.out]; exact HBel.out⟩
 have hE1 : E = 0 := Classical.not_not.1 hE0;subst hE1;obtain ⟨B0, hB0⟩ := nx (w.heap.size);rw [← hB0];have HB0 := Hq hB0;clear hB0;have HBel := Hq (Below.refl w.heap.size w);have hlow : w.heap.size ≤ w.heap.size := Nat.le_refl _;go_enter Tryz.func89, Tryz.ntmps89;obtain ⟨ho0, ho1, ho2, ho3, ho4⟩ := cells5 B_ho.out;go_wp2_with fail;clear ho0 ho1 ho2 ho3 ho4;obtain ⟨V1, hV1⟩ := nx ((w.alloc (.cells #[.slice A1 n p1, .int .i64 g, .int .i64 c, .slice A2 m p2] 145)).alloc (.cells #[.slice none 0 0, .int .i64 0, .int .i64 0, .slice none 0 0] 145));rw [← hV1];have hzV1 := sz2 hV1;replace HBel := be2 hV1 HBel hlow;replace B_ho := bk2 hV1 B_ho l_ho;replace B_qo := bk2 hV1 B_qo l_qo;have B_s := Hq (new20 hV1);have B_r := Hq (new21 hV1);obtain ⟨N_s, hN_s⟩ := nx (w.heap.size);obtain ⟨N_r, hN_r⟩ := nx (w.heap.size + 1);(try rw [← hN_r]);rw [← hN_r] at B_r;(try rw [← hN_s]);rw [← hN_s] at B_s;have d_ho_s : p < N_s := by omega
 have d_qo_s : q < N_s := by omega
 have d_ho_r : p < N_r := by omega
 have d_qo_r : q < N_r := by omega
 replace l_ho : p < V1.heap.size := by omega
 replace l_qo : q < V1.heap.size := by omega
 have l_s : N_s < V1.heap.size := by omega
 have l_r : N_r < V1.heap.size := by omega
 have g_s : w.heap.size ≤ N_s := by omega
 have g_r : w.heap.size ≤ N_r := by omega
 have d_s_r : N_s < N_r := by omega
 replace hlow : w.heap.size ≤ V1.heap.size := by omega
 clear hV1 hzV1 hN_s hN_r;refine (hLe.out V1 HBel.out).mono ?_;rintro e U2 ⟨hgood, _, hb9⟩;have hs9 := hb9.size;obtain ⟨A4, c4, hf4, rfl⟩ := hgood (by first | rfl | trivial);have HF4 := Hq (show Fes U2 U2.heap.size A4 lv2 ∧ lv2.length = n ∧ View lv2 ∧ View lv2 from ⟨hf4.out.1, hf4.out.2.1, hf4.out.2.2, hf4.out.2.2⟩);clear hgood hf4;replace HBel := bt9 HBel hb9 hlow;replace B_ho := bb9 hb9 B_ho l_ho;replace B_qo := bb9 hb9 B_qo l_qo;replace B_s := bb9 hb9 B_s l_s;replace B_r := bb9 hb9 B_r l_r;replace l_ho : p < U2.heap.size := by omega
 replace l_qo : q < U2.heap.size := by omega
 replace l_s : N_s < U2.heap.size := by omega
 replace l_r : N_r < U2.heap.size := by omega
 replace hlow : w.heap.size ≤ U2.heap.size := by omega
 clear hb9 hs9;obtain ⟨fb, l_fe, hfbr, hfF⟩ := fes_off HF4.out.1 (fun b => b = N_r) (fun b e o x => by subst e; exact not_fe_sight B_r.out x) N_s l_s (by show ¬ N_s = N_r; omega);obtain ⟨O, hO⟩ : ∃ O, U2.heap[fb]? = some O := ⟨_, Array.getElem?_eq_getElem l_fe⟩
 obtain ⟨Or, hOr⟩ : ∃ f : Nat × Nat → Obj, f = fun _ => O := ⟨_, rfl⟩
 have HfF := Hq (fun (W : World) (h1 : W.heap[fb]? = some (Or (0, 0))) (h2 : fb < W.heap.size) => hfF W (by rw [h1, hO, hOr]) h2);have B_fe : Hid (U2.heap[fb]? = some (Or (0, 0))) := Hq (by rw [hO, hOr]);have hfb9 : fb ≠ N_r := hfbr;clear hfF hO hOr hfbr;by_cases hq : H.q = Q
 ·have e1 : (H.q == Q) = true := by simp [hq]
  have hG := Hq (show hg H Q = gs H.sl from by unfold hg; rw [if_pos hq]);have hC := Hq (show hc H Q = cs H.sl from by unfold hc; rw [if_pos hq]);have hWi := Hq (fun W (hW : Below w.heap.size w W) => show Calls Tryz.prog 91 #[.agg #[.int .i64 g, .int .i64 c], .slice H.A k H.c] W (fun e w' => e = .returned (.agg #[.int .i64 G, .int .i64 C]) ∧ Below W.heap.size W w') from by
 rw [HGG.out.1, HGG.out.2, hG.out, hC.out, HH.out.2.2.2.2.2.2];exact without_any g c H.A H.c H.sl W (HH.out.2.2.1.keep hW hW.size) (by rw [← HH.out.2.2.2.2.2.2]; exact hs) (low_less HH.out.1 HF4.out.2.2.2 hEo.out HH.out.2.2.2.1.ok) g0 c0)
  clear hq;obtain ⟨s0, s1, s2, s3⟩ := cells4 B_s.out;obtain ⟨ho0, ho1, ho2, ho3, ho4⟩ := cells5 B_ho.out;have qo0 : U2.cell? ⟨q, 0, none⟩ = some (.int .i64 Q) := cell_blk (i := 0) B_qo.out rfl;go_wp2_with fail;clear s0 s1 s2 s3 ho0 ho1 ho2 ho3 ho4 qo0;obtain ⟨V3, hV3⟩ := nx (U2.alloc (.cells #[.int .i64 g, .int .i64 c] 42));rw [← hV3];have hzV3 := sz1 hV3;replace HBel := be1 hV3 HBel hlow;replace B_ho := bk1 hV3 B_ho l_ho;replace B_qo := bk1 hV3 B_qo l_qo;replace B_s := bk1 hV3 B_s l_s;replace B_r := bk1 hV3 B_r l_r;replace B_fe := bk1 hV3 B_fe l_fe;have B_u := Hq (new10 hV3);obtain ⟨N_u, hN_u⟩ := nx (U2.heap.size);(try rw [← hN_u]);rw [← hN_u] at B_u;have d_ho_u : p < N_u := by omega
  have d_qo_u : q < N_u := by omega
  have d_s_u : N_s < N_u := by omega
  have d_r_u : N_r < N_u := by omega
  have d_fe_u : fb < N_u := by omega
  replace l_ho : p < V3.heap.size := by omega
  replace l_qo : q < V3.heap.size := by omega
  replace l_s : N_s < V3.heap.size := by omega
  replace l_r : N_r < V3.heap.size := by omega
  replace l_fe : fb < V3.heap.size := by omega
  have l_u : N_u < V3.heap.size := by omega
  have g_u : w.heap.size ≤ N_u := by omega
  replace hlow : w.heap.size ≤ V3.heap.size := by omega
  clear hV3 hzV3 hN_u;refine (hWi.out V3 HBel.out).mono ?_;rintro e U4 ⟨rfl, hb9⟩;have hs9 := hb9.size;replace HBel := bt9 HBel hb9 hlow;replace B_ho := bb9 hb9 B_ho l_ho;replace B_qo := bb9 hb9 B_qo l_qo;replace B_s := bb9 hb9 B_s l_s;replace B_r := bb9 hb9 B_r l_r;replace B_fe := bb9 hb9 B_fe l_fe;replace B_u := bb9 hb9 B_u l_u;replace l_ho : p < U4.heap.size := by omega
  replace l_qo : q < U4.heap.size := by omega
  replace l_s : N_s < U4.heap.size := by omega
  replace l_r : N_r < U4.heap.size := by omega
  replace l_fe : fb < U4.heap.size := by omega
  replace l_u : N_u < U4.heap.size := by omega
  replace hlow : w.heap.size ≤ U4.heap.size := by omega
  clear hb9 hs9;obtain ⟨u0, u1⟩ := cells2 B_u.out;have uz0 : U4.frozen? ⟨N_u, 0, none⟩ = false := frozen_blk B_u.out;have uz1 : U4.frozen? ⟨N_u, 1, none⟩ = false := frozen_blk B_u.out;go_wp2_with fail;clear u0 u1 uz0 uz1;obtain ⟨S5, hS5⟩ := nx (((U4).setCell ⟨N_u, 0, none⟩ (.int .i64 G)).setCell ⟨N_u, 1, none⟩ (.int .i64 C));rw [← hS5];have hzS5 : S5.heap.size = U4.heap.size := by rw [hS5]; simp
  replace HBel : Hid (Below w.heap.size w S5) := Hq (by rw [hS5]; exact ((HBel.out.setCell (g_u) _).setCell (g_u) _));replace B_ho := Hq (blk_eq hS5 (((Sn p N_u).trans ((Sn p N_u).trans B_ho.out))));replace B_qo := Hq (blk_eq hS5 (((Sn q N_u).trans ((Sn q N_u).trans B_qo.out))));replace B_s := Hq (blk_eq hS5 (((Sn N_s N_u).trans ((Sn N_s N_u).trans B_s.out))));replace B_r := Hq (blk_eq hS5 (((Sn N_r N_u).trans ((Sn N_r N_u).trans B_r.out))));replace B_fe := Hq (blk_eq hS5 (((Sn fb N_u).trans ((Sn fb N_u).trans B_fe.out))));replace B_u : Hid (S5.heap[N_u]? = some (.cells #[.int .i64 G, .int .i64 C] 42 (0, 0))) := Hq (by rw [hS5]; exact (blk_put (i := 1) _ (blk_put (i := 0) _ B_u.out)));replace l_ho : p < S5.heap.size := by omega
  replace l_qo : q < S5.heap.size := by omega
  replace l_s : N_s < S5.heap.size := by omega
  replace l_r : N_r < S5.heap.size := by omega
  replace l_fe : fb < S5.heap.size := by omega
  replace l_u : N_u < S5.heap.size := by omega
  replace hlow : w.heap.size ≤ S5.heap.size := by omega
  clear hS5 hzS5;obtain ⟨s0, s1, s2, s3⟩ := cells4 B_s.out;obtain ⟨u0, u1⟩ := cells2 B_u.out;obtain ⟨ho0, ho1, ho2, ho3, ho4⟩ := cells5 B_ho.out;obtain ⟨P, hPz⟩ : ∃ P, P = S5.heap.size := ⟨_, rfl⟩
  have HPz := Hq hPz;clear hPz;have HCo := Hq (fun (p9 : Nat) V (hV : Below S5.heap.size S5 V) (h1 : V.heap[p9]? = some (.cells #[.slice A2 m p2, .slice (some ⟨S5.heap.size, 0, none⟩) 1 1] 24 (0, 0))) (h2 : V.heap[S5.heap.size]? = some (.cells #[.int .i64 H.id, .int .i64 H.q, .int .i64 H.u, .bool H.r, .slice H.A k H.c] 53 (0, 0))) => show Calls Tryz.prog 92 #[.slice (some ⟨p9, 0, none⟩) 2 2] V (fun e w' => ∃ r c, e = .returned (.slice (some ⟨r, 0, none⟩) (m + 1) c) ∧ Hid (Hos w' w'.heap.size (some ⟨r, 0, none⟩) (l ++ [H]) ∧ V.heap.size ≤ r) ∧ Below V.heap.size V w') from by
 have hBV := HBel.out.trans (hV.mono hlow);have h9 := concat_h p9 A2 p2 l (some ⟨S5.heap.size, 0, none⟩) 1 [H] V (by rw [← HH.out.2.2.2.2.2.1]; exact h1) (HH.out.2.1.at_.keep hBV hBV.size) (one_hos (by unfold hoA; rw [← HH.out.2.2.2.2.2.2]; exact h2)) (by rw [← HH.out.2.2.2.2.2.1]; omega) (by simp) (by simp);rw [← HH.out.2.2.2.2.2.1] at h9;exact h9)
  refine wp_until (fun w' : World => w'.cell? ⟨N_s, 0, none⟩ = some (.slice A1 n p1) ∧ w'.cell? ⟨N_s, 1, none⟩ = some (.int .i64 g) ∧ w'.cell? ⟨N_s, 2, none⟩ = some (.int .i64 c) ∧ w'.cell? ⟨N_s, 3, none⟩ = some (.slice A2 m p2) ∧ w'.cell? ⟨N_u, 0, none⟩ = some (.int .i64 G) ∧ w'.cell? ⟨N_u, 1, none⟩ = some (.int .i64 C) ∧ w'.cell? ⟨p, 0, none⟩ = some (.int .i64 H.id) ∧ w'.cell? ⟨p, 1, none⟩ = some (.int .i64 H.q) ∧ w'.cell? ⟨p, 2, none⟩ = some (.int .i64 H.u) ∧ w'.cell? ⟨p, 3, none⟩ = some (.bool H.r) ∧ w'.cell? ⟨p, 4, none⟩ = some (.slice H.A k H.c)) 9 (by kernel_rfl) ?_;have hBm0 : Below S5.heap.size S5 S5.drew := (Below.refl _ _).drew;have hSm0 := Ai s0 (Ai s1 (Ai s2 (Ai s3 (Ai u0 (Ai u1 (Ai ho0 (Ai ho1 (Ai ho2 (Ai ho3 ho4)))))))));refine tkB 0 31 hSm0 ?_;refine tkB 1 32 hSm0 ?_;refine tkB 2 33 hSm0 ?_;refine tkB 3 34 hSm0 ?_;refine tkB 4 35 hSm0 ?_;refine until_one 5 rfl (by kernel_rfl) rfl (fun K hK => ?_);go_simp;obtain ⟨wm1, hwm1⟩ := nx ((S5.alloc (.cells #[.int .i64 H.id, .int .i64 H.q, .int .i64 H.u, .bool H.r, .slice H.A k H.c] 53)).drew);have hBm1 : Below S5.heap.size S5 wm1 := by rw [hwm1]; exact hBm0.alloc hBm0.size _
  have hSm1 := Ai (ck hBm1 s0) (Ai (ck hBm1 s1) (Ai (ck hBm1 s2) (Ai (ck hBm1 s3) (Ai (ck hBm1 u0) (Ai (ck hBm1 u1) (Ai (ck hBm1 ho0) (Ai (ck hBm1 ho1) (Ai (ck hBm1 ho2) (Ai (ck hBm1 ho3) (ck hBm1 ho4))))))))));have Hh1 : Hid (wm1.heap[S5.heap.size]? = some (.cells #[.int .i64 H.id, .int .i64 H.q, .int .i64 H.u, .bool H.r, .slice H.A k H.c] 53 (0, 0))) := Hq (by rw [hwm1]; exact heap_alloc_new _ _);have hz1 : wm1.heap.size = S5.heap.size + 1 := by rw [hwm1]; simp
  refine hK.out _ _ (fun _ => show _ from by rw [← hwm1]; exact hSm1) ?_;clear hK K;try simp only [Act.put, pzA, pzB, pzC]
  rw [← hwm1];have Hwm1 := Hq hwm1;clear hwm1;refine until_one 6 rfl (by kernel_rfl) rfl (fun K hK => ?_);go_simp;obtain ⟨wm2, hwm2⟩ := nx (wm1.alloc (.cells #[.slice A2 m p2, .slice (some ⟨S5.heap.size, 0, none⟩) 1 1] 24));have hBm2 : Below S5.heap.size S5 wm2 := by rw [hwm2]; exact hBm1.alloc hBm1.size _
  have hSm2 := Ai (ck hBm2 s0) (Ai (ck hBm2 s1) (Ai (ck hBm2 s2) (Ai (ck hBm2 s3) (Ai (ck hBm2 u0) (Ai (ck hBm2 u1) (Ai (ck hBm2 ho0) (Ai (ck hBm2 ho1) (Ai (ck hBm2 ho2) (Ai (ck hBm2 ho3) (ck hBm2 ho4))))))))));have Hp2 : Hid (wm2.heap[S5.heap.size + 1]? = some (.cells #[.slice A2 m p2, .slice (some ⟨S5.heap.size, 0, none⟩) 1 1] 24 (0, 0))) := Hq (by rw [hwm2, ← hz1]; exact heap_alloc_new _ _);have Hh2 : Hid (wm2.heap[S5.heap.size]? = some (.cells #[.int .i64 H.id, .int .i64 H.q, .int .i64 H.u, .bool H.r, .slice H.A k H.c] 53 (0, 0))) := Hq (by rw [hwm2]; exact (Below.heap_alloc _ _ _ (by omega)).trans Hh1.out);refine hK.out _ _ (fun _ => show _ from by rw [← hwm2]; exact hSm2) ?_;clear hK K;try simp only [Act.put, pzA, pzB, pzC]
  rw [← hwm2];have Hwm2 := Hq hwm2;clear hwm2;refine until_one 7 rfl (by kernel_rfl) rfl (fun K hK => ?_);go_simp
  go_at_call 92
  refine (HCo.out (S5.heap.size + 1) wm2 hBm2 Hp2.out Hh2.out).mono ?_;rintro e wm3 ⟨r9, c9, rfl, HH9, hbm3⟩;have hBm3 : Below S5.heap.size S5 wm3 := below_step hBm2 hbm3;have hSm3 := Ai (ck hBm3 s0) (Ai (ck hBm3 s1) (Ai (ck hBm3 s2) (Ai (ck hBm3 s3) (Ai (ck hBm3 u0) (Ai (ck hBm3 u1) (Ai (ck hBm3 ho0) (Ai (ck hBm3 ho1) (Ai (ck hBm3 ho2) (Ai (ck hBm3 ho3) (ck hBm3 ho4))))))))));have hr9 : N_r < r9 := by have := HH9.out.2; have := hBm3.size; have := hBm2.size; omega
  refine hK.out _ _ (fun _ => hSm3) ?_;clear hK K;refine tkB 8 39 hSm3 ?_;refine until_one 9 rfl (by kernel_rfl) rfl (fun K hK => ?_);have hlr : N_r < wm3.heap.size := by have := hBm3.size; omega
  have BR : Hid (wm3.heap[N_r]? = some (.cells #[.slice none 0 0, .int .i64 0, .int .i64 0, .slice none 0 0] 145 (0, 0))) := Hq ((hBm3.block _ (by omega)).trans B_r.out);have z0 : wm3.frozen? ⟨N_r, 0, none⟩ = false := frozen_blk BR.out;have z1 : wm3.frozen? ⟨N_r, 1, none⟩ = false := frozen_blk BR.out;have z2 : wm3.frozen? ⟨N_r, 2, none⟩ = false := frozen_blk BR.out;have z3 : wm3.frozen? ⟨N_r, 3, none⟩ = false := frozen_blk BR.out;obtain ⟨yr0, yr1, yr2, yr3⟩ := cells4 BR.out;go_simp;refine hK.out _ _ (fun h => absurd h (by decide)) ?_;clear hK K;refine until_one 10 rfl (by kernel_rfl) rfl (fun K hK => ?_);go_simp;refine hK.out _ _ (fun h => absurd h (by decide)) ?_;clear hK K;refine until_done (by kernel_rfl) ?_;obtain ⟨Z, hZ⟩ := nx (((((wm3).setCell ⟨N_r, 0, none⟩ (.slice A4 n c4)).setCell ⟨N_r, 1, none⟩ (.int .i64 G)).setCell ⟨N_r, 2, none⟩ (.int .i64 C)).setCell ⟨N_r, 3, none⟩ (.slice (some ⟨r9, 0, none⟩) (m + 1) c9));rw [← hZ];have bZ : Z.heap[N_r]? = some (.cells #[.slice A4 n c4, .int .i64 G, .int .i64 C, .slice (some ⟨r9, 0, none⟩) (m + 1) c9] 145 (0, 0)) := by rw [hZ]; exact (blk_put (i := 3) _ (blk_put (i := 2) _ (blk_put (i := 1) _ (blk_put (i := 0) _ BR.out))))
  have HBZ : Hid (Below w.heap.size w Z) := Hq (by rw [hZ]; exact (((((HBel.out.trans (hBm3.mono hlow)).setCell (p := ⟨N_r, 0, none⟩) g_r _).setCell (p := ⟨N_r, 1, none⟩) g_r _).setCell (p := ⟨N_r, 2, none⟩) g_r _).setCell (p := ⟨N_r, 3, none⟩) g_r _));have hFZ : Hid (Fes Z Z.heap.size A4 lv2 ∧ HosIn Z Z.heap.size (some ⟨r9, 0, none⟩) (l ++ [H])) := Hq (by
 have eZ : ∀ i, i ≠ N_r → Z.heap[i]? = wm3.heap[i]? := fun i hi => by rw [hZ]; exact ((Below.heap_setCell _ _ _ _ hi).trans ((Below.heap_setCell _ _ _ _ hi).trans ((Below.heap_setCell _ _ _ _ hi).trans (Below.heap_setCell _ _ _ _ hi))))
 have zZ : Z.heap.size = wm3.heap.size := by rw [hZ]; simp
 have zB := hBm3.size;refine ⟨HfF.out Z ?_ (by omega), ?_, fun x hx => ?_⟩
 ·rw [eZ fb hfb9, hBm3.block fb l_fe]; exact B_fe.out
 ·rw [zZ]; exact HH9.out.1.off fun b off e hb => by
   injection e with e; injection e with e1 e2;exact eZ b (by omega)
 ·rcases List.mem_append.1 hx with hx | hx
  ·exact (HH.out.2.1.sl x hx).keep HBZ.out HBZ.out.size
  ·rw [List.mem_singleton.1 hx]; exact HH.out.2.2.1.keep HBZ.out HBZ.out.size)
  clear hZ;have y0 := cell_blk (i := 0) bZ rfl;have y1 := cell_blk (i := 1) bZ rfl;have y2 := cell_blk (i := 2) bZ rfl;have y3 := cell_blk (i := 3) bZ rfl;go_wp2;refine bodyPost_ret (v := .tuple #[.agg #[.slice A4 n c4, .int .i64 G, .int .i64 C, .slice (some ⟨r9, 0, none⟩) (m + 1) c9], .int .i64 0]) (by simp [results, Tryz.results89, go_sem, y0, y1, y2, y3]) rfl ?_;exact ⟨.inr ⟨rfl, A4, c4, some ⟨r9, 0, none⟩, c9, rfl, Hq ⟨hFZ.out.1, HF4.out.2.1, HF4.out.2.2.1, hFZ.out.2⟩⟩, by rw [HB0.out]; exact HBZ.out⟩
 ·have e1 : (H.q == Q) = false := by simp [hq]
  have hGg : G = g := by rw [HGG.out.1]; unfold hg; rw [if_neg hq]; simp
  have hCc : C = c := by rw [HGG.out.2]; unfold hc; rw [if_neg hq]; simp
  have HGc := Hq (Ai hGg hCc);clear hq hGg hCc;obtain ⟨s0, s1, s2, s3⟩ := cells4 B_s.out;obtain ⟨ho0, ho1, ho2, ho3, ho4⟩ := cells5 B_ho.out;have qo0 : U2.cell? ⟨q, 0, none⟩ = some (.int .i64 Q) := cell_blk (i := 0) B_qo.out rfl;go_wp2_with fail;clear s0 s1 s2 s3 ho0 ho1 ho2 ho3 ho4 qo0;obtain ⟨V3, hV3⟩ := nx (U2.alloc (.cells #[.int .i64 g, .int .i64 c] 42));rw [← hV3];have hzV3 := sz1 hV3;replace HBel := be1 hV3 HBel hlow;replace B_ho := bk1 hV3 B_ho l_ho;replace B_qo := bk1 hV3 B_qo l_qo;replace B_s := bk1 hV3 B_s l_s;replace B_r := bk1 hV3 B_r l_r;replace B_fe := bk1 hV3 B_fe l_fe;have B_u := Hq (new10 hV3);obtain ⟨N_u, hN_u⟩ := nx (U2.heap.size);(try rw [← hN_u]);rw [← hN_u] at B_u;have d_ho_u : p < N_u := by omega
  have d_qo_u : q < N_u := by omega
  have d_s_u : N_s < N_u := by omega
  have d_r_u : N_r < N_u := by omega
  have d_fe_u : fb < N_u := by omega
  replace l_ho : p < V3.heap.size := by omega
  replace l_qo : q < V3.heap.size := by omega
  replace l_s : N_s < V3.heap.size := by omega
  replace l_r : N_r < V3.heap.size := by omega
  replace l_fe : fb < V3.heap.size := by omega
  have l_u : N_u < V3.heap.size := by omega
  have g_u : w.heap.size ≤ N_u := by omega
  replace hlow : w.heap.size ≤ V3.heap.size := by omega
  clear hV3 hzV3 hN_u;obtain ⟨s0, s1, s2, s3⟩ := cells4 B_s.out;obtain ⟨u0, u1⟩ := cells2 B_u.out;obtain ⟨ho0, ho1, ho2, ho3, ho4⟩ := cells5 B_ho.out;obtain ⟨P, hPz⟩ : ∃ P, P = V3.heap.size := ⟨_, rfl⟩
  have HPz := Hq hPz;clear hPz;have HCo := Hq (fun (p9 : Nat) V (hV : Below V3.heap.size V3 V) (h1 : V.heap[p9]? = some (.cells #[.slice A2 m p2, .slice (some ⟨V3.heap.size, 0, none⟩) 1 1] 24 (0, 0))) (h2 : V.heap[V3.heap.size]? = some (.cells #[.int .i64 H.id, .int .i64 H.q, .int .i64 H.u, .bool H.r, .slice H.A k H.c] 53 (0, 0))) => show Calls Tryz.prog 92 #[.slice (some ⟨p9, 0, none⟩) 2 2] V (fun e w' => ∃ r c, e = .returned (.slice (some ⟨r, 0, none⟩) (m + 1) c) ∧ Hid (Hos w' w'.heap.size (some ⟨r, 0, none⟩) (l ++ [H]) ∧ V.heap.size ≤ r) ∧ Below V.heap.size V w') from by
 have hBV := HBel.out.trans (hV.mono hlow);have h9 := concat_h p9 A2 p2 l (some ⟨V3.heap.size, 0, none⟩) 1 [H] V (by rw [← HH.out.2.2.2.2.2.1]; exact h1) (HH.out.2.1.at_.keep hBV hBV.size) (one_hos (by unfold hoA; rw [← HH.out.2.2.2.2.2.2]; exact h2)) (by rw [← HH.out.2.2.2.2.2.1]; omega) (by simp) (by simp);rw [← HH.out.2.2.2.2.2.1] at h9;exact h9)
  refine wp_until (fun w' : World => w'.cell? ⟨N_s, 0, none⟩ = some (.slice A1 n p1) ∧ w'.cell? ⟨N_s, 1, none⟩ = some (.int .i64 g) ∧ w'.cell? ⟨N_s, 2, none⟩ = some (.int .i64 c) ∧ w'.cell? ⟨N_s, 3, none⟩ = some (.slice A2 m p2) ∧ w'.cell? ⟨N_u, 0, none⟩ = some (.int .i64 g) ∧ w'.cell? ⟨N_u, 1, none⟩ = some (.int .i64 c) ∧ w'.cell? ⟨p, 0, none⟩ = some (.int .i64 H.id) ∧ w'.cell? ⟨p, 1, none⟩ = some (.int .i64 H.q) ∧ w'.cell? ⟨p, 2, none⟩ = some (.int .i64 H.u) ∧ w'.cell? ⟨p, 3, none⟩ = some (.bool H.r) ∧ w'.cell? ⟨p, 4, none⟩ = some (.slice H.A k H.c)) 9 (by kernel_rfl) ?_;have hBm0 : Below V3.heap.size V3 V3.drew := (Below.refl _ _).drew;have hSm0 := Ai s0 (Ai s1 (Ai s2 (Ai s3 (Ai u0 (Ai u1 (Ai ho0 (Ai ho1 (Ai ho2 (Ai ho3 ho4)))))))));refine tkB 0 31 hSm0 ?_;refine tkB 1 32 hSm0 ?_;refine tkB 2 33 hSm0 ?_;refine tkB 3 34 hSm0 ?_;refine tkB 4 35 hSm0 ?_;refine until_one 5 rfl (by kernel_rfl) rfl (fun K hK => ?_);go_simp;obtain ⟨wm1, hwm1⟩ := nx ((V3.alloc (.cells #[.int .i64 H.id, .int .i64 H.q, .int .i64 H.u, .bool H.r, .slice H.A k H.c] 53)).drew);have hBm1 : Below V3.heap.size V3 wm1 := by rw [hwm1]; exact hBm0.alloc hBm0.size _
  have hSm1 := Ai (ck hBm1 s0) (Ai (ck hBm1 s1) (Ai (ck hBm1 s2) (Ai (ck hBm1 s3) (Ai (ck hBm1 u0) (Ai (ck hBm1 u1) (Ai (ck hBm1 ho0) (Ai (ck hBm1 ho1) (Ai (ck hBm1 ho2) (Ai (ck hBm1 ho3) (ck hBm1 ho4))))))))));have Hh1 : Hid (wm1.heap[V3.heap.size]? = some (.cells #[.int .i64 H.id, .int .i64 H.q, .int .i64 H.u, .bool H.r, .slice H.A k H.c] 53 (0, 0))) := Hq (by rw [hwm1]; exact heap_alloc_new _ _);have hz1 : wm1.heap.size = V3.heap.size + 1 := by rw [hwm1]; simp
  refine hK.out _ _ (fun _ => show _ from by rw [← hwm1]; exact hSm1) ?_;clear hK K;try simp only [Act.put, pzA, pzB, pzC]
  rw [← hwm1];have Hwm1 := Hq hwm1;clear hwm1;refine until_one 6 rfl (by kernel_rfl) rfl (fun K hK => ?_);go_simp;obtain ⟨wm2, hwm2⟩ := nx (wm1.alloc (.cells #[.slice A2 m p2, .slice (some ⟨V3.heap.size, 0, none⟩) 1 1] 24));have hBm2 : Below V3.heap.size V3 wm2 := by rw [hwm2]; exact hBm1.alloc hBm1.size _
  have hSm2 := Ai (ck hBm2 s0) (Ai (ck hBm2 s1) (Ai (ck hBm2 s2) (Ai (ck hBm2 s3) (Ai (ck hBm2 u0) (Ai (ck hBm2 u1) (Ai (ck hBm2 ho0) (Ai (ck hBm2 ho1) (Ai (ck hBm2 ho2) (Ai (ck hBm2 ho3) (ck hBm2 ho4))))))))));have Hp2 : Hid (wm2.heap[V3.heap.size + 1]? = some (.cells #[.slice A2 m p2, .slice (some ⟨V3.heap.size, 0, none⟩) 1 1] 24 (0, 0))) := Hq (by rw [hwm2, ← hz1]; exact heap_alloc_new _ _);have Hh2 : Hid (wm2.heap[V3.heap.size]? = some (.cells #[.int .i64 H.id, .int .i64 H.q, .int .i64 H.u, .bool H.r, .slice H.A k H.c] 53 (0, 0))) := Hq (by rw [hwm2]; exact (Below.heap_alloc _ _ _ (by omega)).trans Hh1.out);refine hK.out _ _ (fun _ => show _ from by rw [← hwm2]; exact hSm2) ?_;clear hK K;try simp only [Act.put, pzA, pzB, pzC]
  rw [← hwm2];have Hwm2 := Hq hwm2;clear hwm2;refine until_one 7 rfl (by kernel_rfl) rfl (fun K hK => ?_);go_simp
  go_at_call 92
  refine (HCo.out (V3.heap.size + 1) wm2 hBm2 Hp2.out Hh2.out).mono ?_;rintro e wm3 ⟨r9, c9, rfl, HH9, hbm3⟩;have hBm3 : Below V3.heap.size V3 wm3 := below_step hBm2 hbm3;have hSm3 := Ai (ck hBm3 s0) (Ai (ck hBm3 s1) (Ai (ck hBm3 s2) (Ai (ck hBm3 s3) (Ai (ck hBm3 u0) (Ai (ck hBm3 u1) (Ai (ck hBm3 ho0) (Ai (ck hBm3 ho1) (Ai (ck hBm3 ho2) (Ai (ck hBm3 ho3) (ck hBm3 ho4))))))))));have hr9 : N_r < r9 := by have := HH9.out.2; have := hBm3.size; have := hBm2.size; omega
  refine hK.out _ _ (fun _ => hSm3) ?_;clear hK K;refine tkB 8 39 hSm3 ?_;refine until_one 9 rfl (by kernel_rfl) rfl (fun K hK => ?_);have hlr : N_r < wm3.heap.size := by have := hBm3.size; omega
  have BR : Hid (wm3.heap[N_r]? = some (.cells #[.slice none 0 0, .int .i64 0, .int .i64 0, .slice none 0 0] 145 (0, 0))) := Hq ((hBm3.block _ (by omega)).trans B_r.out);have z0 : wm3.frozen? ⟨N_r, 0, none⟩ = false := frozen_blk BR.out;have z1 : wm3.frozen? ⟨N_r, 1, none⟩ = false := frozen_blk BR.out;have z2 : wm3.frozen? ⟨N_r, 2, none⟩ = false := frozen_blk BR.out;have z3 : wm3.frozen? ⟨N_r, 3, none⟩ = false := frozen_blk BR.out;obtain ⟨yr0, yr1, yr2, yr3⟩ := cells4 BR.out;go_simp;refine hK.out _ _ (fun h => absurd h (by decide)) ?_;clear hK K;refine until_one 10 rfl (by kernel_rfl) rfl (fun K hK => ?_);go_simp;refine hK.out _ _ (fun h => absurd h (by decide)) ?_;clear hK K;refine until_done (by kernel_rfl) ?_;obtain ⟨Z, hZ⟩ := nx (((((wm3).setCell ⟨N_r, 0, none⟩ (.slice A4 n c4)).setCell ⟨N_r, 1, none⟩ (.int .i64 g)).setCell ⟨N_r, 2, none⟩ (.int .i64 c)).setCell ⟨N_r, 3, none⟩ (.slice (some ⟨r9, 0, none⟩) (m + 1) c9));rw [← hZ];have bZ : Z.heap[N_r]? = some (.cells #[.slice A4 n c4, .int .i64 g, .int .i64 c, .slice (some ⟨r9, 0, none⟩) (m + 1) c9] 145 (0, 0)) := by rw [hZ]; exact (blk_put (i := 3) _ (blk_put (i := 2) _ (blk_put (i := 1) _ (blk_put (i := 0) _ BR.out))))
  have HBZ : Hid (Below w.heap.size w Z) := Hq (by rw [hZ]; exact (((((HBel.out.trans (hBm3.mono hlow)).setCell (p := ⟨N_r, 0, none⟩) g_r _).setCell (p := ⟨N_r, 1, none⟩) g_r _).setCell (p := ⟨N_r, 2, none⟩) g_r _).setCell (p := ⟨N_r, 3, none⟩) g_r _));have hFZ : Hid (Fes Z Z.heap.size A4 lv2 ∧ HosIn Z Z.heap.size (some ⟨r9, 0, none⟩) (l ++ [H])) := Hq (by
 have eZ : ∀ i, i ≠ N_r → Z.heap[i]? = wm3.heap[i]? := fun i hi => by rw [hZ]; exact ((Below.heap_setCell _ _ _ _ hi).trans ((Below.heap_setCell _ _ _ _ hi).trans ((Below.heap_setCell _ _ _ _ hi).trans (Below.heap_setCell _ _ _ _ hi))))
 have zZ : Z.heap.size = wm3.heap.size := by rw [hZ]; simp
 have zB := hBm3.size;refine ⟨HfF.out Z ?_ (by omega), ?_, fun x hx => ?_⟩
 ·rw [eZ fb hfb9, hBm3.block fb l_fe]; exact B_fe.out
 ·rw [zZ]; exact HH9.out.1.off fun b off e hb => by
   injection e with e; injection e with e1 e2;exact eZ b (by omega)
 ·rcases List.mem_append.1 hx with hx | hx
  ·exact (HH.out.2.1.sl x hx).keep HBZ.out HBZ.out.size
  ·rw [List.mem_singleton.1 hx]; exact HH.out.2.2.1.keep HBZ.out HBZ.out.size)
  clear hZ;have y0 := cell_blk (i := 0) bZ rfl;have y1 := cell_blk (i := 1) bZ rfl;have y2 := cell_blk (i := 2) bZ rfl;have y3 := cell_blk (i := 3) bZ rfl;go_wp2;refine bodyPost_ret (v := .tuple #[.agg #[.slice A4 n c4, .int .i64 g, .int .i64 c, .slice (some ⟨r9, 0, none⟩) (m + 1) c9], .int .i64 0]) (by simp [results, Tryz.results89, go_sem, y0, y1, y2, y3]) rfl ?_;rw [HGc.out.1, HGc.out.2];exact ⟨.inr ⟨rfl, A4, c4, some ⟨r9, 0, none⟩, c9, rfl, Hq ⟨hFZ.out.1, HF4.out.2.1, HF4.out.2.2.1, hFZ.out.2⟩⟩, by rw [HB0.out]; exact HBZ.out⟩
end Go.Proofs.YtkkkhonjcbhelaaGreatDoor
