import Derived.Test.YtkkkhonjcbhelaaGreatDoorHeldTwo
import Derived.Test.YtkkkhonjcbhelaaGreatDoorFilRefL
import Derived.Test.YtkkkhonjcbhelaaGreatDoorFilAft
import Derived.Test.YtkkkhonjcbhelaaGreatDoorProRefC
set_option maxRecDepth 100000
set_option linter.unusedVariables false
namespace Go.Proofs.YtkkkhonjcbhelaaGreatDoor
open Go.RowKit
open PR
theorem refless_by (A : Option Addr) (c : Nat) (l : List Fe) (SA : Option Addr) (sc : Nat) (ss : List Fe) (E : Int) (lv2 : List Fe) (w : World) (hE : turnL lessC l ss = (E, lv2)) (h : Fes w w.heap.size A l) (hv : View l) (hn : l.length ≤ 1000) (hs : Fes w w.heap.size SA ss) (hso : ∀ s ∈ ss, FeOk s) (hsn : ss.length ≤ 100000) :
  Calls Tryz.prog 34 #[.slice A l.length c, .slice SA ss.length sc] w fun e w' => (E = 0 → ∃ A' c', Hid (Fes w' w'.heap.size A' lv2 ∧ lv2.length = l.length ∧ View lv2) ∧ e = .returned (.tuple #[.slice A' l.length c', .int .i64 0])) ∧ (E ≠ 0 → e = .returned (.tuple #[.slice none 0 0, .int .i64 E])) ∧ Below w.heap.size w w' := by
 refine (refless05_any A c l SA sc ss w h hv hn hs hso hsn).mono ?_;rintro e w' ⟨hb, A', c', hf, he⟩;rw [hE] at hf he;refine ⟨fun h0 => ⟨A', c', Hq ?_, ?_⟩, fun h0 => ?_, hb⟩
 ·rcases hf.out with hf | hf
  ·exact hf
  ·exact absurd h0 hf
 ·simp only [h0, if_true] at he; exact he
 ·simp only [if_neg h0] at he; exact he
set_option maxHeartbeats 16000000 in
theorem refafter13_any (now : Int) (A1 : Option Addr) (p1 : Nat) (lv : List Fe) (g c : Int) (A2 : Option Addr) (p2 : Nat) (l : List Ho) (X : Wa) (H : Ho) (w : World) (hv : Fes w w.heap.size A1 lv) (hview : View lv) (hl : lv.length ≤ 100) (hd : HosIn w w.heap.size A2 l) (hok : ∀ x ∈ l, HoOk x) (hm0 : l.length ≤ 30) (hm1 : ∀ x ∈ l, x.sl.length ≤ 1000) (hw : WaOk X) (hF : Fes w w.heap.size H.A H.sl) (hHo : HoOk H) (hs : H.sl.length ≤ 1000)
  (g0 : -1000000000 ≤ g ∧ g ≤ 1000000000) (c0 : -1000000000 ≤ c ∧ c ≤ 1000000000) (hT : Tab w) :
  Calls Tryz.prog 22 #[.int .i64 now, .slice A1 lv.length p1, .agg #[.int .i64 g, .int .i64 c], .slice A2 l.length p2, waV X, hoV H] w fun e w' => ∃ T E, e = .returned (.tuple #[.int .i64 T, .int .i64 E]) ∧ Aft now lv g c l X H T E ∧ Below w.heap.size w w' := by
 have HT := Hq hT;obtain ⟨i0, hi, hz0, hz1, hz2⟩ := info_parts info_ho;obtain ⟨n, hn⟩ := nx (lv.length);obtain ⟨m, hm⟩ := nx (l.length);obtain ⟨k, hk⟩ := nx (H.sl.length);obtain ⟨E, lv2, hE⟩ : ∃ E lv2, turnL lessC lv H.sl = (E, lv2) := ⟨_, _, rfl⟩
 have hLe := Hq (fun W (hW : Below w.heap.size w W) => show Calls Tryz.prog 34 #[.slice A1 n p1, .slice H.A k H.c] W (fun e w' => (E = 0 → ∃ A' c', Hid (Fes w' w'.heap.size A' lv2 ∧ lv2.length = n ∧ View lv2) ∧ e = .returned (.tuple #[.slice A' n c', .int .i64 0])) ∧ (E ≠ 0 → e = .returned (.tuple #[.slice none 0 0, .int .i64 E])) ∧ Below W.heap.size W w') from by
  rw [hn, hk];exact refless_by A1 p1 lv H.A H.c H.sl E lv2 W hE (hv.keep hW hW.size) hview (by omega) (hF.keep hW hW.size) hHo.ok (by omega))
 obtain ⟨Gs, hGs⟩ := nx (gs H.sl);obtain ⟨Cs, hCs⟩ := nx (cs H.sl);have hUn := Hq (fun (h0 : E = 0) (h3 : View lv2) W (hW : Below w.heap.size w W) => show Calls Tryz.prog 33 #[.slice H.A k H.c] W (fun e w' => e = .returned (.agg #[.int .i64 (Gs : Nat), .int .i64 Cs]) ∧ Below W.heap.size W w') from by
  rw [hGs, hCs, hk];subst h0;exact refunits8_any H.A H.c H.sl W (hF.keep hW hW.size) (low_less hview h3 hE hHo.ok) hs)
 have hUb := Hq (fun (h0 : E = 0) (h3 : View lv2) => show (Gs : Int) ≤ 64000 ∧ 0 ≤ Cs ∧ Cs ≤ 1048576000 from by
  subst h0;have h2 := cs_le (l := H.sl) fun s hsm => (low_less hview h3 hE hHo.ok s hsm).2
  have h1 := gs_bound hs;rw [hGs, hCs]; omega)
 have hEa := Hq (fun (h0 : E = 0) (x y : Int) (hx : x = g - (hg H X.q : Int)) (hy : y = c - hc H X.q) (A : Option Addr) (c1 : Nat) (A3 : Option Addr) (c3 : Nat) W (hW : Below w.heap.size w W) (h1 : Fes W W.heap.size A lv2) (h2 : lv2.length = n) (h3 : View lv2) (h4 : Hos W W.heap.size A3 (l ++ [H])) => show Calls Tryz.prog 10 #[.int .i64 now, .slice A n c1, .agg #[.int .i64 x, .int .i64 y], .slice A3 (m + 1) c3, .agg #[.int .i64 X.q, .int .i64 X.n, .int .i64 X.S.g, .int .i64 X.S.c, .int .i64 X.S.mn, .int .i64 X.S.mx]] W (fun e w' => ∃ T E9, e = .returned (.tuple #[.int .i64 T, .int .i64 E9]) ∧ Earl now lv2 x y (l ++ [H]) X T E9 ∧ Below W.heap.size W w') from by
  subst h0;have hb := left_bounds (Q := X.q) hview h3 hE hHo.ok hs g0 c0;rw [← hx, ← hy] at hb;have hlen : (l ++ [H]).length = m + 1 := by rw [List.length_append, hm]; rfl
  have hsm : ∀ x ∈ l ++ [H], x.sl.length ≤ 1000 := fun x hx => by
   rcases List.mem_append.1 hx with hx | hx
   ·exact hm1 x hx
   ·rw [List.mem_singleton.1 hx]; exact hs
  have h9 := refearliest12_any now A c1 lv2 x y A3 c3 (l ++ [H]) X W h1 h3 (by omega) ⟨h4, fun x hx => by
   rcases List.mem_append.1 hx with hx | hx
   ·exact (hd.sl x hx).keep hW hW.size
   ·rw [List.mem_singleton.1 hx]; exact hF.keep hW hW.size⟩ (fun x hx => by
   rcases List.mem_append.1 hx with hx | hx
   ·exact hok x hx
   ·rw [List.mem_singleton.1 hx]; exact hHo) ⟨by omega, hsm⟩ (by have := sl_len hsm; omega) hw hb.1 hb.2 (hT.below hW hT.size)
  rw [h2, hlen] at h9;exact h9)
 have HBX := Hq (fun (V : World) (p : Nat) (h : V.heap[p]? = some (.cells #[.int .i64 H.id, .int .i64 H.q, .int .i64 H.u, .bool H.r, .slice H.A k H.c] 53 (0, 0))) => show Els hoC 5 V V.heap.size (some ⟨p, 0, none⟩) [H] from one_hos (by unfold hoA; rw [← hk]; exact h));have HE := Hq (Ai hE (Ai hGs hCs));have HL := Hq (Ai hd.at_ hm);have hm30 : m ≤ 30 := by omega
 unfold waV waA hoV hoA;rw [← hn, ← hm, ← hk];clear hn hm hk hE hGs hCs hv hview hl hd hok hm0 hm1 hw hF hHo hs hT;obtain ⟨B0, hB0⟩ := nx (w.heap.size);rw [← hB0];have HB0 := Hq hB0;clear hB0;have HBel := Hq (Below.refl w.heap.size w);have hlow : w.heap.size ≤ w.heap.size := Nat.le_refl _;go_enter Tryz.func22, Tryz.ntmps22;go_wp2_with fail;obtain ⟨V1, hV1⟩ := nx (((w.alloc (.cells #[.int .i64 g, .int .i64 c] 42)).alloc (.cells #[.int .i64 X.q, .int .i64 X.n, .int .i64 X.S.g, .int .i64 X.S.c, .int .i64 X.S.mn, .int .i64 X.S.mx] 34)).alloc (.cells #[.int .i64 H.id, .int .i64 H.q, .int .i64 H.u, .bool H.r, .slice H.A k H.c] 53));rw [← hV1];have hzV1 := sz3 hV1;replace HBel := be3 hV1 HBel hlow;have B_f := Hq (new30 hV1);have B_b := Hq (new31 hV1);have B_h := Hq (new32 hV1);obtain ⟨N_f, hN_f⟩ := nx (w.heap.size);obtain ⟨N_b, hN_b⟩ := nx (w.heap.size + 1);obtain ⟨N_h, hN_h⟩ := nx (w.heap.size + 1 + 1);(try rw [← hN_h]);rw [← hN_h] at B_h;(try rw [← hN_b]);rw [← hN_b] at B_b;(try rw [← hN_f]);rw [← hN_f] at B_f;have l_f : N_f < V1.heap.size := by omega
 have l_b : N_b < V1.heap.size := by omega
 have l_h : N_h < V1.heap.size := by omega
 have g_f : w.heap.size ≤ N_f := by omega
 have g_b : w.heap.size ≤ N_b := by omega
 have g_h : w.heap.size ≤ N_h := by omega
 have d_f_b : N_f < N_b := by omega
 have d_b_h : N_b < N_h := by omega
 replace hlow : w.heap.size ≤ V1.heap.size := by omega
 clear hV1 hzV1 hN_f hN_b hN_h;refine (hLe.out V1 HBel.out).mono ?_;rintro e U2 ⟨hgood, hbad, hb9⟩;have hs9 := hb9.size;replace HBel := bt9 HBel hb9 hlow;replace B_f := bb9 hb9 B_f l_f;replace B_b := bb9 hb9 B_b l_b;replace B_h := bb9 hb9 B_h l_h;replace l_f : N_f < U2.heap.size := by omega
 replace l_b : N_b < U2.heap.size := by omega
 replace l_h : N_h < U2.heap.size := by omega
 replace hlow : w.heap.size ≤ U2.heap.size := by omega
 clear hb9 hs9;by_cases hE0 : E ≠ 0
 ·obtain rfl := hbad hE0;have t1 : (E != 0) = true := by simp [hE0]
  clear hgood hbad;go_wp2
  go_ret2
  exact ⟨0, E, rfl, .inl ⟨by rw [HE.out.1]; exact hE0, rfl, by rw [HE.out.1]⟩, by rw [HB0.out]; exact HBel.out⟩
 have hE1 : E = 0 := Classical.not_not.1 hE0;obtain ⟨A4, c4, hf4, rfl⟩ := hgood hE1;have hub := hUb.out hE1 hf4.out.2.2;have t1 : (E != 0) = false := by simp [hE1]
 clear hgood hbad hE0;obtain ⟨h0, h1, h2, h3, h4⟩ := cells5 B_h.out;go_wp2_with fail;refine (hUn.out hE1 hf4.out.2.2 U2 HBel.out).mono ?_;rintro e U3 ⟨rfl, hb9⟩;clear h0 h1 h2 h3 h4;have hs9 := hb9.size;have hf5 := hf4.out.1.keep hb9 hb9.size;have HF5 := Hq (Ai hf5 hf4.out.2);clear hf5;replace HBel := bt9 HBel hb9 hlow;replace B_f := bb9 hb9 B_f l_f;replace B_b := bb9 hb9 B_b l_b;replace B_h := bb9 hb9 B_h l_h;replace l_f : N_f < U3.heap.size := by omega
 replace l_b : N_b < U3.heap.size := by omega
 replace l_h : N_h < U3.heap.size := by omega
 replace hlow : w.heap.size ≤ U3.heap.size := by omega
 clear hb9 hs9;obtain ⟨fb, l_fe, hfbf, hfF⟩ := fes_off HF5.out.1 (fun b => b = N_f) (fun b e o x => by subst e; exact not_fe_two B_f.out x) N_b l_b (by show ¬ N_b = N_f; omega);obtain ⟨O, hO⟩ : ∃ O, U3.heap[fb]? = some O := ⟨_, Array.getElem?_eq_getElem l_fe⟩
 obtain ⟨Or, hOr⟩ : ∃ f : Nat × Nat → Obj, f = fun _ => O := ⟨_, rfl⟩
 have HfF := Hq (fun (W : World) (h1 : W.heap[fb]? = some (Or (0, 0))) (h2 : fb < W.heap.size) => hfF W (by rw [h1, hO, hOr]) h2);have B_fe : Hid (U3.heap[fb]? = some (Or (0, 0))) := Hq (by rw [hO, hOr]);have hfb9 : fb ≠ N_f := hfbf;clear hfF hO hOr hfbf;by_cases hq : H.q = X.q
 ·have e1 : (H.q == X.q) = true := by simp [hq]
  have hxy := Hq (show g - (Gs : Int) = g - (hg H X.q : Int) ∧ c - Cs = c - hc H X.q from by unfold hg hc; rw [if_pos hq, if_pos hq, HE.out.2.1, HE.out.2.2]; exact ⟨rfl, rfl⟩);clear hq;obtain ⟨h0, h1, h2, h3, h4⟩ := cells5 B_h.out;obtain ⟨b0, b1, b2, b3, b4, b5⟩ := cells6 B_b.out;obtain ⟨f0, f1⟩ := cells2 B_f.out;have fz0 : U3.frozen? ⟨N_f, 0, none⟩ = false := frozen_blk B_f.out;have fz1 : U3.frozen? ⟨N_f, 1, none⟩ = false := frozen_blk B_f.out;go_wp2_with fail;clear h0 h1 h2 h3 h4 b0 b1 b2 b3 b4 b5 f0 f1 fz0 fz1;obtain ⟨S4, hS4⟩ := nx (((U3).setCell ⟨N_f, 0, none⟩ (.int .i64 (g - (Gs : Int)))).setCell ⟨N_f, 1, none⟩ (.int .i64 (c - Cs)));rw [← hS4];have hzS4 : S4.heap.size = U3.heap.size := by rw [hS4]; simp
  replace HBel : Hid (Below w.heap.size w S4) := Hq (by rw [hS4]; exact ((HBel.out.setCell (g_f) _).setCell (g_f) _));replace B_b := Hq (blk_eq hS4 (((Sn N_b N_f).trans ((Sn N_b N_f).trans B_b.out))));replace B_h := Hq (blk_eq hS4 (((Sn N_h N_f).trans ((Sn N_h N_f).trans B_h.out))));replace B_fe := Hq (blk_eq hS4 (((Sn fb N_f).trans ((Sn fb N_f).trans B_fe.out))));replace B_f : Hid (S4.heap[N_f]? = some (.cells #[.int .i64 (g - (Gs : Int)), .int .i64 (c - Cs)] 42 (0, 0))) := Hq (by rw [hS4]; exact (blk_put (i := 1) _ (blk_put (i := 0) _ B_f.out)));replace l_f : N_f < S4.heap.size := by omega
  replace l_b : N_b < S4.heap.size := by omega
  replace l_h : N_h < S4.heap.size := by omega
  replace l_fe : fb < S4.heap.size := by omega
  replace hlow : w.heap.size ≤ S4.heap.size := by omega
  clear hS4 hzS4;obtain ⟨V5, hV5⟩ := nx (S4.alloc (.cells #[.int .i64 (Gs : Nat), .int .i64 Cs] 42));rw [← hV5];have hzV5 := sz1 hV5;replace HBel := be1 hV5 HBel hlow;replace B_f := bk1 hV5 B_f l_f;replace B_b := bk1 hV5 B_b l_b;replace B_h := bk1 hV5 B_h l_h;replace B_fe := bk1 hV5 B_fe l_fe;have B_u := Hq (new10 hV5);obtain ⟨N_u, hN_u⟩ := nx (S4.heap.size);(try rw [← hN_u]);rw [← hN_u] at B_u;have d_f_u : N_f < N_u := by omega
  have d_b_u : N_b < N_u := by omega
  have d_h_u : N_h < N_u := by omega
  have d_fe_u : fb < N_u := by omega
  replace l_f : N_f < V5.heap.size := by omega
  replace l_b : N_b < V5.heap.size := by omega
  replace l_h : N_h < V5.heap.size := by omega
  replace l_fe : fb < V5.heap.size := by omega
  have l_u : N_u < V5.heap.size := by omega
  have g_u : w.heap.size ≤ N_u := by omega
  replace hlow : w.heap.size ≤ V5.heap.size := by omega
  clear hV5 hzV5 hN_u;obtain ⟨f0, f1⟩ := cells2 B_f.out;obtain ⟨b0, b1, b2, b3, b4, b5⟩ := cells6 B_b.out;obtain ⟨h0, h1, h2, h3, h4⟩ := cells5 B_h.out;have HF6 := Hq (HfF.out V5 B_fe.out l_fe);have HB6 := Hq HBel.out;have HL6 := Hq (HL.out.1.keep HBel.out HBel.out.size);refine held_begin (fun w' : World => w'.cell? ⟨N_f, 0, none⟩ = some (.int .i64 (g - (Gs : Int))) ∧ w'.cell? ⟨N_f, 1, none⟩ = some (.int .i64 (c - Cs)) ∧ w'.cell? ⟨N_b, 0, none⟩ = some (.int .i64 X.q) ∧ w'.cell? ⟨N_b, 1, none⟩ = some (.int .i64 X.n) ∧ w'.cell? ⟨N_b, 2, none⟩ = some (.int .i64 X.S.g) ∧ w'.cell? ⟨N_b, 3, none⟩ = some (.int .i64 X.S.c) ∧ w'.cell? ⟨N_b, 4, none⟩ = some (.int .i64 X.S.mn) ∧ w'.cell? ⟨N_b, 5, none⟩ = some (.int .i64 X.S.mx) ∧ w'.cell? ⟨N_h, 0, none⟩ = some (.int .i64 H.id) ∧ w'.cell? ⟨N_h, 1, none⟩ = some (.int .i64 H.q) ∧ w'.cell? ⟨N_h, 2, none⟩ = some (.int .i64 H.u) ∧ w'.cell? ⟨N_h, 3, none⟩ = some (.bool H.r) ∧ w'.cell? ⟨N_h, 4, none⟩ = some (.slice H.A k H.c)) (by kernel_rfl) ?_;have hBz0 : Below V5.heap.size V5 V5.drew := (Below.refl _ _).drew;have hSz0 : (fun w' : World => w'.cell? ⟨N_f, 0, none⟩ = some (.int .i64 (g - (Gs : Int))) ∧ w'.cell? ⟨N_f, 1, none⟩ = some (.int .i64 (c - Cs)) ∧ w'.cell? ⟨N_b, 0, none⟩ = some (.int .i64 X.q) ∧ w'.cell? ⟨N_b, 1, none⟩ = some (.int .i64 X.n) ∧ w'.cell? ⟨N_b, 2, none⟩ = some (.int .i64 X.S.g) ∧ w'.cell? ⟨N_b, 3, none⟩ = some (.int .i64 X.S.c) ∧ w'.cell? ⟨N_b, 4, none⟩ = some (.int .i64 X.S.mn) ∧ w'.cell? ⟨N_b, 5, none⟩ = some (.int .i64 X.S.mx) ∧ w'.cell? ⟨N_h, 0, none⟩ = some (.int .i64 H.id) ∧ w'.cell? ⟨N_h, 1, none⟩ = some (.int .i64 H.q) ∧ w'.cell? ⟨N_h, 2, none⟩ = some (.int .i64 H.u) ∧ w'.cell? ⟨N_h, 3, none⟩ = some (.bool H.r) ∧ w'.cell? ⟨N_h, 4, none⟩ = some (.slice H.A k H.c)) V5.drew := ⟨f0, f1, b0, b1, b2, b3, b4, b5, h0, h1, h2, h3, h4⟩
  generalize V5.drew = wz0 at hBz0 hSz0 ⊢;have szz0 := hBz0.size;refine tkA 0 46 hSz0 ?_;refine tkA 1 47 hSz0 ?_;refine tkA 2 48 hSz0 ?_;refine tkA 4 50 hSz0 ?_;refine tkA 6 52 hSz0 ?_;refine tkA 9 55 hSz0 ?_;refine held_two 3 7 rfl rfl (by kernel_rfl) (by rfl) (by rfl) (fun K hK => ?_) (fun K hK => ?_)
  ·go_simp;obtain ⟨wza, hwza⟩ := nx (wz0.alloc (.cells #[] 53));have hBwza : Below V5.heap.size V5 wza := by rw [hwza]; exact hBz0.alloc hBz0.size _
   have szwza := hBwza.size;have stwza : wz0.heap.size < wza.heap.size := by rw [hwza]; simp
   have bbwza : Below wz0.heap.size wz0 wza := by rw [hwza]; exact (Below.refl _ _).alloc (Nat.le_refl _) _
   have ownE : wza.ownsRow V5.heap.size 53 5 (.slice (some ⟨wz0.heap.size, 0, none⟩) 0 0) 0 [] := by rw [hwza]; exact World.ownsRow_lit wz0 #[] 0 (by have := hBz0.size; omega) (by unfold maxLen; omega) rfl
   have hSwza := Ai (ck hBwza f0) (Ai (ck hBwza f1) (Ai (ck hBwza b0) (Ai (ck hBwza b1) (Ai (ck hBwza b2) (Ai (ck hBwza b3) (Ai (ck hBwza b4) (Ai (ck hBwza b5) (Ai (ck hBwza h0) (Ai (ck hBwza h1) (Ai (ck hBwza h2) (Ai (ck hBwza h3) (ck hBwza h4))))))))))));rw [← hwza];refine hK.out _ _ hSwza ?_;clear hK K hwza;try simp only [Act.put, pzA, pzB, pzC]
   refine held_two 5 7 rfl rfl (by kernel_rfl) (by rfl) (by rfl) (fun K hK => ?_) (fun K hK => ?_)
   ·simp only [Go.wp_at_zero, Go.wp_at_succ];refine wp_append_els (C := hoC) (k := 5) _ _ _ 24 rfl V5.heap.size 53 i0 _ 56 Tryz.underlying24 hi hz0 hz1 hz2 rfl (by decide) (.slice (some ⟨wz0.heap.size, 0, none⟩) 0 0) 0 [] rfl ownE V5.heap.size A2 p2 m l rfl (Els.keep HL6.out (hBwza) (Nat.le_refl _)) HL.out.2 hoC_len hoC_one (by unfold maxLen; omega) (by omega) (by omega) ?_;intro A5 c5 wzb own5 gwzb kwzb;rw [Nat.zero_add] at own5 ⊢;rw [List.nil_append] at own5;have hob : ∀ j, (Value.slice (some ⟨wz0.heap.size, 0, none⟩) 0 0).ownBlock = some j → j = wz0.heap.size := fun j hj => by simpa [Value.ownBlock] using hj.symm
    have hBwzb : Below V5.heap.size V5 wzb := hBwza.grown gwzb (by omega) (fun j hj => by have := hob j hj; omega);have szwzb := hBwzb.size;have stwzb := gwzb.size;have hSwzb := Ai (ck hBwzb f0) (Ai (ck hBwzb f1) (Ai (ck hBwzb b0) (Ai (ck hBwzb b1) (Ai (ck hBwzb b2) (Ai (ck hBwzb b3) (Ai (ck hBwzb b4) (Ai (ck hBwzb b5) (Ai (ck hBwzb h0) (Ai (ck hBwzb h1) (Ai (ck hBwzb h2) (Ai (ck hBwzb h3) (ck hBwzb h4))))))))))));refine hK.out _ _ hSwzb ?_;clear hK K;try simp only [Act.put, pzA, pzB, pzC]
    have Own5 := Hq own5;clear own5 gwzb kwzb hob;refine held_one 7 rfl (by kernel_rfl) (by rfl) (fun K hK => ?_);go_simp;obtain ⟨wzc, hwzc⟩ := nx (wzb.alloc (.cells #[.int .i64 H.id, .int .i64 H.q, .int .i64 H.u, .bool H.r, .slice H.A k H.c] 53));have hBwzc : Below V5.heap.size V5 wzc := by rw [hwzc]; exact hBwzb.alloc hBwzb.size _
    have szwzc := hBwzc.size;have stwzc : wzb.heap.size < wzc.heap.size := by rw [hwzc]; simp
    have bbwzc : Below wzb.heap.size wzb wzc := by rw [hwzc]; exact (Below.refl _ _).alloc (Nat.le_refl _) _
    have elsB : Els hoC 5 wzc wzc.heap.size (some ⟨wzb.heap.size, 0, none⟩) [H] := HBX.out wzc wzb.heap.size (by rw [hwzc]; exact heap_alloc_new _ _);have hSwzc := Ai (ck hBwzc f0) (Ai (ck hBwzc f1) (Ai (ck hBwzc b0) (Ai (ck hBwzc b1) (Ai (ck hBwzc b2) (Ai (ck hBwzc b3) (Ai (ck hBwzc b4) (Ai (ck hBwzc b5) (Ai (ck hBwzc h0) (Ai (ck hBwzc h1) (Ai (ck hBwzc h2) (Ai (ck hBwzc h3) (ck hBwzc h4))))))))))));rw [← hwzc];refine hK.out _ _ hSwzc ?_;clear hK K hwzc;try simp only [Act.put, pzA, pzB, pzC]
    have own5 := own_keep Own5.out bbwzc;refine held_one 8 rfl (by kernel_rfl) (by rfl) (fun K hK => ?_);simp only [Go.wp_at_zero, Go.wp_at_succ];refine wp_append_els (C := hoC) (k := 5) _ _ _ 24 rfl V5.heap.size 53 i0 _ 56 Tryz.underlying24 hi hz0 hz1 hz2 rfl (by decide) (.slice A5 m c5) m _ rfl own5 _ (some ⟨wzb.heap.size, 0, none⟩) 1 1 [H] rfl elsB rfl hoC_len hoC_one (by unfold maxLen; omega) (by omega) (by omega) ?_;intro A7 c7 wz9 own7 g7 k7;have hob5 : ∀ j, (Value.slice A5 m c5).ownBlock = some j → V5.heap.size ≤ j := fun j hj => (own5.lt j hj).1
    have hBwz9 : Below V5.heap.size V5 wz9 := hBwzc.grown g7 (by omega) (fun j hj => by have := hob5 j hj; omega);have hSwz9 := Ai (ck hBwz9 f0) (Ai (ck hBwz9 f1) (Ai (ck hBwz9 b0) (Ai (ck hBwz9 b1) (Ai (ck hBwz9 b2) (Ai (ck hBwz9 b3) (Ai (ck hBwz9 b4) (Ai (ck hBwz9 b5) (Ai (ck hBwz9 h0) (Ai (ck hBwz9 h1) (Ai (ck hBwz9 h2) (Ai (ck hBwz9 h3) (ck hBwz9 h4))))))))))));refine hK.out _ _ hSwz9 ?_;clear hK K;try simp only [Act.put, pzA, pzB, pzC]
    have Own7 := Hq own7;clear own7 own5 g7 k7 hob5;try clear hob
    try clear elsB
    try clear ElsB
    try clear Own5
    try clear OwnE
    try clear ownE
    try clear gwza kwza
    try clear gwzb kwzb
    try clear gwzc kwzc
    have hlA : Hos wz9 wz9.heap.size A7 (l ++ [H]) := own_hos (by have := Own7.out; rw [← List.flatMap_append] at this; exact this) (by rw [List.length_append, ← HL.out.2]; rfl);have hBw := HB6.out.trans (hBwz9.mono hlow);have HEW := Hq (hEa.out hE1 (g - (Gs : Int)) (c - Cs) hxy.out.1 hxy.out.2 A4 c4 A7 c7 wz9 hBw (HF6.out.keep hBwz9 hBwz9.size) HF5.out.2.1 HF5.out.2.2 hlA);clear hlA hBw;refine held_one 10 rfl (by kernel_rfl) (by rfl) (fun K hK => ?_);go_simp
    go_at_call 10
    refine HEW.out.mono ?_;rintro e wy ⟨T, E9, rfl, hEr, hb10⟩;have HEr := Hq hEr;clear hEr;have hBy : Below V5.heap.size V5 wy := below_step hBwz9 hb10;have hSy := Ai (ck hBy f0) (Ai (ck hBy f1) (Ai (ck hBy b0) (Ai (ck hBy b1) (Ai (ck hBy b2) (Ai (ck hBy b3) (Ai (ck hBy b4) (Ai (ck hBy b5) (Ai (ck hBy h0) (Ai (ck hBy h1) (Ai (ck hBy h2) (Ai (ck hBy h3) (ck hBy h4))))))))))));refine hK.out _ _ hSy ?_;clear hK K;try simp only [Act.put, pzA, pzB, pzC]
    refine tkA 11 57 hSy ?_;refine tkA 12 58 hSy ?_;refine tkA 13 12 hSy ?_;refine tkA 14 13 hSy ?_;refine wpAnyH_done (by kernel_rfl) ?_ _;have HBz := Hq (HB6.out.trans (hBy.mono hlow));clear hBy hSy hb10 hBwz9 hSwz9;go_wp2
    go_ret2
    exact ⟨T, E9, rfl, .inr ⟨by rw [HE.out.1]; exact hE1, by rw [HE.out.1, ← hxy.out.1, ← hxy.out.2]; exact HEr.out⟩, by rw [HB0.out]; exact HBz.out⟩
  
   ·have OwnE := Hq ownE;clear ownE;go_simp;obtain ⟨wzb, hwzb⟩ := nx (wza.alloc (.cells #[.int .i64 H.id, .int .i64 H.q, .int .i64 H.u, .bool H.r, .slice H.A k H.c] 53));have hBwzb : Below V5.heap.size V5 wzb := by rw [hwzb]; exact hBwza.alloc hBwza.size _
    have szwzb := hBwzb.size;have stwzb : wza.heap.size < wzb.heap.size := by rw [hwzb]; simp
    have bbwzb : Below wza.heap.size wza wzb := by rw [hwzb]; exact (Below.refl _ _).alloc (Nat.le_refl _) _
    have elsB : Els hoC 5 wzb wzb.heap.size (some ⟨wza.heap.size, 0, none⟩) [H] := HBX.out wzb wza.heap.size (by rw [hwzb]; exact heap_alloc_new _ _);have hSwzb := Ai (ck hBwzb f0) (Ai (ck hBwzb f1) (Ai (ck hBwzb b0) (Ai (ck hBwzb b1) (Ai (ck hBwzb b2) (Ai (ck hBwzb b3) (Ai (ck hBwzb b4) (Ai (ck hBwzb b5) (Ai (ck hBwzb h0) (Ai (ck hBwzb h1) (Ai (ck hBwzb h2) (Ai (ck hBwzb h3) (ck hBwzb h4))))))))))));rw [← hwzb];refine hK.out _ _ hSwzb ?_;clear hK K hwzb;try simp only [Act.put, pzA, pzB, pzC]
    have ownE := own_keep OwnE.out bbwzb;refine held_one 5 rfl (by kernel_rfl) (by rfl) (fun K hK => ?_);simp only [Go.wp_at_zero, Go.wp_at_succ];refine wp_append_els (C := hoC) (k := 5) _ _ _ 24 rfl V5.heap.size 53 i0 _ 56 Tryz.underlying24 hi hz0 hz1 hz2 rfl (by decide) (.slice (some ⟨wz0.heap.size, 0, none⟩) 0 0) 0 [] rfl ownE V5.heap.size A2 p2 m l rfl (Els.keep HL6.out (hBwzb) (Nat.le_refl _)) HL.out.2 hoC_len hoC_one (by unfold maxLen; omega) (by omega) (by omega) ?_;intro A5 c5 wzc own5 gwzc kwzc;rw [Nat.zero_add] at own5 ⊢;rw [List.nil_append] at own5;have hob : ∀ j, (Value.slice (some ⟨wz0.heap.size, 0, none⟩) 0 0).ownBlock = some j → j = wz0.heap.size := fun j hj => by simpa [Value.ownBlock] using hj.symm
    have hBwzc : Below V5.heap.size V5 wzc := hBwzb.grown gwzc (by omega) (fun j hj => by have := hob j hj; omega);have szwzc := hBwzc.size;have stwzc := gwzc.size;have hSwzc := Ai (ck hBwzc f0) (Ai (ck hBwzc f1) (Ai (ck hBwzc b0) (Ai (ck hBwzc b1) (Ai (ck hBwzc b2) (Ai (ck hBwzc b3) (Ai (ck hBwzc b4) (Ai (ck hBwzc b5) (Ai (ck hBwzc h0) (Ai (ck hBwzc h1) (Ai (ck hBwzc h2) (Ai (ck hBwzc h3) (ck hBwzc h4))))))))))));have elsB : Els hoC 5 wzc wzc.heap.size (some ⟨wza.heap.size, 0, none⟩) [H] := (elsB.off (w' := wzc) fun b2 o2 e2 hb2 => gwzc.block b2 hb2 (fun e => by have := hob b2 e.symm; injection e2 with e2; injection e2 with e2; omega)).imp stwzc fun _ _ _ _ hd => hd
    refine hK.out _ _ hSwzc ?_;clear hK K;try simp only [Act.put, pzA, pzB, pzC]
    refine held_one 8 rfl (by kernel_rfl) (by rfl) (fun K hK => ?_);simp only [Go.wp_at_zero, Go.wp_at_succ];refine wp_append_els (C := hoC) (k := 5) _ _ _ 24 rfl V5.heap.size 53 i0 _ 56 Tryz.underlying24 hi hz0 hz1 hz2 rfl (by decide) (.slice A5 m c5) m _ rfl own5 _ (some ⟨wza.heap.size, 0, none⟩) 1 1 [H] rfl elsB rfl hoC_len hoC_one (by unfold maxLen; omega) (by omega) (by omega) ?_;intro A7 c7 wz9 own7 g7 k7;have hob5 : ∀ j, (Value.slice A5 m c5).ownBlock = some j → V5.heap.size ≤ j := fun j hj => (own5.lt j hj).1
    have hBwz9 : Below V5.heap.size V5 wz9 := hBwzc.grown g7 (by omega) (fun j hj => by have := hob5 j hj; omega);have hSwz9 := Ai (ck hBwz9 f0) (Ai (ck hBwz9 f1) (Ai (ck hBwz9 b0) (Ai (ck hBwz9 b1) (Ai (ck hBwz9 b2) (Ai (ck hBwz9 b3) (Ai (ck hBwz9 b4) (Ai (ck hBwz9 b5) (Ai (ck hBwz9 h0) (Ai (ck hBwz9 h1) (Ai (ck hBwz9 h2) (Ai (ck hBwz9 h3) (ck hBwz9 h4))))))))))));refine hK.out _ _ hSwz9 ?_;clear hK K;try simp only [Act.put, pzA, pzB, pzC]
    have Own7 := Hq own7;clear own7 own5 g7 k7 hob5;try clear hob
    try clear elsB
    try clear ElsB
    try clear Own5
    try clear OwnE
    try clear ownE
    try clear gwza kwza
    try clear gwzb kwzb
    try clear gwzc kwzc
    have hlA : Hos wz9 wz9.heap.size A7 (l ++ [H]) := own_hos (by have := Own7.out; rw [← List.flatMap_append] at this; exact this) (by rw [List.length_append, ← HL.out.2]; rfl);have hBw := HB6.out.trans (hBwz9.mono hlow);have HEW := Hq (hEa.out hE1 (g - (Gs : Int)) (c - Cs) hxy.out.1 hxy.out.2 A4 c4 A7 c7 wz9 hBw (HF6.out.keep hBwz9 hBwz9.size) HF5.out.2.1 HF5.out.2.2 hlA);clear hlA hBw;refine held_one 10 rfl (by kernel_rfl) (by rfl) (fun K hK => ?_);go_simp
    go_at_call 10
    refine HEW.out.mono ?_;rintro e wy ⟨T, E9, rfl, hEr, hb10⟩;have HEr := Hq hEr;clear hEr;have hBy : Below V5.heap.size V5 wy := below_step hBwz9 hb10;have hSy := Ai (ck hBy f0) (Ai (ck hBy f1) (Ai (ck hBy b0) (Ai (ck hBy b1) (Ai (ck hBy b2) (Ai (ck hBy b3) (Ai (ck hBy b4) (Ai (ck hBy b5) (Ai (ck hBy h0) (Ai (ck hBy h1) (Ai (ck hBy h2) (Ai (ck hBy h3) (ck hBy h4))))))))))));refine hK.out _ _ hSy ?_;clear hK K;try simp only [Act.put, pzA, pzB, pzC]
    refine tkA 11 57 hSy ?_;refine tkA 12 58 hSy ?_;refine tkA 13 12 hSy ?_;refine tkA 14 13 hSy ?_;refine wpAnyH_done (by kernel_rfl) ?_ _;have HBz := Hq (HB6.out.trans (hBy.mono hlow));clear hBy hSy hb10 hBwz9 hSwz9;go_wp2
    go_ret2
    exact ⟨T, E9, rfl, .inr ⟨by rw [HE.out.1]; exact hE1, by rw [HE.out.1, ← hxy.out.1, ← hxy.out.2]; exact HEr.out⟩, by rw [HB0.out]; exact HBz.out⟩
  
  
  ·go_simp;obtain ⟨wza, hwza⟩ := nx (wz0.alloc (.cells #[.int .i64 H.id, .int .i64 H.q, .int .i64 H.u, .bool H.r, .slice H.A k H.c] 53));have hBwza : Below V5.heap.size V5 wza := by rw [hwza]; exact hBz0.alloc hBz0.size _
   have szwza := hBwza.size;have stwza : wz0.heap.size < wza.heap.size := by rw [hwza]; simp
   have bbwza : Below wz0.heap.size wz0 wza := by rw [hwza]; exact (Below.refl _ _).alloc (Nat.le_refl _) _
   have elsB : Els hoC 5 wza wza.heap.size (some ⟨wz0.heap.size, 0, none⟩) [H] := HBX.out wza wz0.heap.size (by rw [hwza]; exact heap_alloc_new _ _);have hSwza := Ai (ck hBwza f0) (Ai (ck hBwza f1) (Ai (ck hBwza b0) (Ai (ck hBwza b1) (Ai (ck hBwza b2) (Ai (ck hBwza b3) (Ai (ck hBwza b4) (Ai (ck hBwza b5) (Ai (ck hBwza h0) (Ai (ck hBwza h1) (Ai (ck hBwza h2) (Ai (ck hBwza h3) (ck hBwza h4))))))))))));rw [← hwza];refine hK.out _ _ hSwza ?_;clear hK K hwza;try simp only [Act.put, pzA, pzB, pzC]
   have ElsB := Hq elsB;clear elsB;refine held_one 3 rfl (by kernel_rfl) (by rfl) (fun K hK => ?_);go_simp;obtain ⟨wzb, hwzb⟩ := nx (wza.alloc (.cells #[] 53));have hBwzb : Below V5.heap.size V5 wzb := by rw [hwzb]; exact hBwza.alloc hBwza.size _
   have szwzb := hBwzb.size;have stwzb : wza.heap.size < wzb.heap.size := by rw [hwzb]; simp
   have bbwzb : Below wza.heap.size wza wzb := by rw [hwzb]; exact (Below.refl _ _).alloc (Nat.le_refl _) _
   have ownE : wzb.ownsRow V5.heap.size 53 5 (.slice (some ⟨wza.heap.size, 0, none⟩) 0 0) 0 [] := by rw [hwzb]; exact World.ownsRow_lit wza #[] 0 (by have := hBwza.size; omega) (by unfold maxLen; omega) rfl
   have hSwzb := Ai (ck hBwzb f0) (Ai (ck hBwzb f1) (Ai (ck hBwzb b0) (Ai (ck hBwzb b1) (Ai (ck hBwzb b2) (Ai (ck hBwzb b3) (Ai (ck hBwzb b4) (Ai (ck hBwzb b5) (Ai (ck hBwzb h0) (Ai (ck hBwzb h1) (Ai (ck hBwzb h2) (Ai (ck hBwzb h3) (ck hBwzb h4))))))))))));rw [← hwzb];refine hK.out _ _ hSwzb ?_;clear hK K hwzb;try simp only [Act.put, pzA, pzB, pzC]
   have elsB : Els hoC 5 wzb wzb.heap.size (some ⟨wz0.heap.size, 0, none⟩) [H] := ElsB.out.keep bbwzb (by omega);refine held_one 5 rfl (by kernel_rfl) (by rfl) (fun K hK => ?_);simp only [Go.wp_at_zero, Go.wp_at_succ];refine wp_append_els (C := hoC) (k := 5) _ _ _ 24 rfl V5.heap.size 53 i0 _ 56 Tryz.underlying24 hi hz0 hz1 hz2 rfl (by decide) (.slice (some ⟨wza.heap.size, 0, none⟩) 0 0) 0 [] rfl ownE V5.heap.size A2 p2 m l rfl (Els.keep HL6.out (hBwzb) (Nat.le_refl _)) HL.out.2 hoC_len hoC_one (by unfold maxLen; omega) (by omega) (by omega) ?_;intro A5 c5 wzc own5 gwzc kwzc;rw [Nat.zero_add] at own5 ⊢;rw [List.nil_append] at own5;have hob : ∀ j, (Value.slice (some ⟨wza.heap.size, 0, none⟩) 0 0).ownBlock = some j → j = wza.heap.size := fun j hj => by simpa [Value.ownBlock] using hj.symm
   have hBwzc : Below V5.heap.size V5 wzc := hBwzb.grown gwzc (by omega) (fun j hj => by have := hob j hj; omega);have szwzc := hBwzc.size;have stwzc := gwzc.size;have hSwzc := Ai (ck hBwzc f0) (Ai (ck hBwzc f1) (Ai (ck hBwzc b0) (Ai (ck hBwzc b1) (Ai (ck hBwzc b2) (Ai (ck hBwzc b3) (Ai (ck hBwzc b4) (Ai (ck hBwzc b5) (Ai (ck hBwzc h0) (Ai (ck hBwzc h1) (Ai (ck hBwzc h2) (Ai (ck hBwzc h3) (ck hBwzc h4))))))))))));have elsB : Els hoC 5 wzc wzc.heap.size (some ⟨wz0.heap.size, 0, none⟩) [H] := (elsB.off (w' := wzc) fun b2 o2 e2 hb2 => gwzc.block b2 hb2 (fun e => by have := hob b2 e.symm; injection e2 with e2; injection e2 with e2; omega)).imp stwzc fun _ _ _ _ hd => hd
   refine hK.out _ _ hSwzc ?_;clear hK K;try simp only [Act.put, pzA, pzB, pzC]
   refine held_one 8 rfl (by kernel_rfl) (by rfl) (fun K hK => ?_);simp only [Go.wp_at_zero, Go.wp_at_succ];refine wp_append_els (C := hoC) (k := 5) _ _ _ 24 rfl V5.heap.size 53 i0 _ 56 Tryz.underlying24 hi hz0 hz1 hz2 rfl (by decide) (.slice A5 m c5) m _ rfl own5 _ (some ⟨wz0.heap.size, 0, none⟩) 1 1 [H] rfl elsB rfl hoC_len hoC_one (by unfold maxLen; omega) (by omega) (by omega) ?_;intro A7 c7 wz9 own7 g7 k7;have hob5 : ∀ j, (Value.slice A5 m c5).ownBlock = some j → V5.heap.size ≤ j := fun j hj => (own5.lt j hj).1
   have hBwz9 : Below V5.heap.size V5 wz9 := hBwzc.grown g7 (by omega) (fun j hj => by have := hob5 j hj; omega);have hSwz9 := Ai (ck hBwz9 f0) (Ai (ck hBwz9 f1) (Ai (ck hBwz9 b0) (Ai (ck hBwz9 b1) (Ai (ck hBwz9 b2) (Ai (ck hBwz9 b3) (Ai (ck hBwz9 b4) (Ai (ck hBwz9 b5) (Ai (ck hBwz9 h0) (Ai (ck hBwz9 h1) (Ai (ck hBwz9 h2) (Ai (ck hBwz9 h3) (ck hBwz9 h4))))))))))));refine hK.out _ _ hSwz9 ?_;clear hK K;try simp only [Act.put, pzA, pzB, pzC]
   have Own7 := Hq own7;clear own7 own5 g7 k7 hob5;try clear hob
   try clear elsB
   try clear ElsB
   try clear Own5
   try clear OwnE
   try clear ownE
   try clear gwza kwza
   try clear gwzb kwzb
   try clear gwzc kwzc
   have hlA : Hos wz9 wz9.heap.size A7 (l ++ [H]) := own_hos (by have := Own7.out; rw [← List.flatMap_append] at this; exact this) (by rw [List.length_append, ← HL.out.2]; rfl);have hBw := HB6.out.trans (hBwz9.mono hlow);have HEW := Hq (hEa.out hE1 (g - (Gs : Int)) (c - Cs) hxy.out.1 hxy.out.2 A4 c4 A7 c7 wz9 hBw (HF6.out.keep hBwz9 hBwz9.size) HF5.out.2.1 HF5.out.2.2 hlA);clear hlA hBw;refine held_one 10 rfl (by kernel_rfl) (by rfl) (fun K hK => ?_);go_simp
   go_at_call 10
   refine HEW.out.mono ?_;rintro e wy ⟨T, E9, rfl, hEr, hb10⟩;have HEr := Hq hEr;clear hEr;have hBy : Below V5.heap.size V5 wy := below_step hBwz9 hb10;have hSy := Ai (ck hBy f0) (Ai (ck hBy f1) (Ai (ck hBy b0) (Ai (ck hBy b1) (Ai (ck hBy b2) (Ai (ck hBy b3) (Ai (ck hBy b4) (Ai (ck hBy b5) (Ai (ck hBy h0) (Ai (ck hBy h1) (Ai (ck hBy h2) (Ai (ck hBy h3) (ck hBy h4))))))))))));refine hK.out _ _ hSy ?_;clear hK K;try simp only [Act.put, pzA, pzB, pzC]
   refine tkA 11 57 hSy ?_;refine tkA 12 58 hSy ?_;refine tkA 13 12 hSy ?_;refine tkA 14 13 hSy ?_;refine wpAnyH_done (by kernel_rfl) ?_ _;have HBz := Hq (HB6.out.trans (hBy.mono hlow));clear hBy hSy hb10 hBwz9 hSwz9;go_wp2
   go_ret2
   exact ⟨T, E9, rfl, .inr ⟨by rw [HE.out.1]; exact hE1, by rw [HE.out.1, ← hxy.out.1, ← hxy.out.2]; exact HEr.out⟩, by rw [HB0.out]; exact HBz.out⟩
 ·have e1 : (H.q == X.q) = false := by simp [hq]
  have hxy := Hq (show g = g - (hg H X.q : Int) ∧ c = c - hc H X.q from by unfold hg hc; rw [if_neg hq, if_neg hq]; simp);clear hq;obtain ⟨h0, h1, h2, h3, h4⟩ := cells5 B_h.out;obtain ⟨b0, b1, b2, b3, b4, b5⟩ := cells6 B_b.out;obtain ⟨f0, f1⟩ := cells2 B_f.out;have fz0 : U3.frozen? ⟨N_f, 0, none⟩ = false := frozen_blk B_f.out;have fz1 : U3.frozen? ⟨N_f, 1, none⟩ = false := frozen_blk B_f.out;go_wp2_with fail;clear h0 h1 h2 h3 h4 b0 b1 b2 b3 b4 b5 f0 f1 fz0 fz1;obtain ⟨V4, hV4⟩ := nx (U3.alloc (.cells #[.int .i64 (Gs : Nat), .int .i64 Cs] 42));rw [← hV4];have hzV4 := sz1 hV4;replace HBel := be1 hV4 HBel hlow;replace B_f := bk1 hV4 B_f l_f;replace B_b := bk1 hV4 B_b l_b;replace B_h := bk1 hV4 B_h l_h;replace B_fe := bk1 hV4 B_fe l_fe;have B_u := Hq (new10 hV4);obtain ⟨N_u, hN_u⟩ := nx (U3.heap.size);(try rw [← hN_u]);rw [← hN_u] at B_u;have d_f_u : N_f < N_u := by omega
  have d_b_u : N_b < N_u := by omega
  have d_h_u : N_h < N_u := by omega
  have d_fe_u : fb < N_u := by omega
  replace l_f : N_f < V4.heap.size := by omega
  replace l_b : N_b < V4.heap.size := by omega
  replace l_h : N_h < V4.heap.size := by omega
  replace l_fe : fb < V4.heap.size := by omega
  have l_u : N_u < V4.heap.size := by omega
  have g_u : w.heap.size ≤ N_u := by omega
  replace hlow : w.heap.size ≤ V4.heap.size := by omega
  clear hV4 hzV4 hN_u;obtain ⟨f0, f1⟩ := cells2 B_f.out;obtain ⟨b0, b1, b2, b3, b4, b5⟩ := cells6 B_b.out;obtain ⟨h0, h1, h2, h3, h4⟩ := cells5 B_h.out;have HF6 := Hq (HfF.out V4 B_fe.out l_fe);have HB6 := Hq HBel.out;have HL6 := Hq (HL.out.1.keep HBel.out HBel.out.size);refine held_begin (fun w' : World => w'.cell? ⟨N_f, 0, none⟩ = some (.int .i64 g) ∧ w'.cell? ⟨N_f, 1, none⟩ = some (.int .i64 c) ∧ w'.cell? ⟨N_b, 0, none⟩ = some (.int .i64 X.q) ∧ w'.cell? ⟨N_b, 1, none⟩ = some (.int .i64 X.n) ∧ w'.cell? ⟨N_b, 2, none⟩ = some (.int .i64 X.S.g) ∧ w'.cell? ⟨N_b, 3, none⟩ = some (.int .i64 X.S.c) ∧ w'.cell? ⟨N_b, 4, none⟩ = some (.int .i64 X.S.mn) ∧ w'.cell? ⟨N_b, 5, none⟩ = some (.int .i64 X.S.mx) ∧ w'.cell? ⟨N_h, 0, none⟩ = some (.int .i64 H.id) ∧ w'.cell? ⟨N_h, 1, none⟩ = some (.int .i64 H.q) ∧ w'.cell? ⟨N_h, 2, none⟩ = some (.int .i64 H.u) ∧ w'.cell? ⟨N_h, 3, none⟩ = some (.bool H.r) ∧ w'.cell? ⟨N_h, 4, none⟩ = some (.slice H.A k H.c)) (by kernel_rfl) ?_;have hBz0 : Below V4.heap.size V4 V4.drew := (Below.refl _ _).drew;have hSz0 : (fun w' : World => w'.cell? ⟨N_f, 0, none⟩ = some (.int .i64 g) ∧ w'.cell? ⟨N_f, 1, none⟩ = some (.int .i64 c) ∧ w'.cell? ⟨N_b, 0, none⟩ = some (.int .i64 X.q) ∧ w'.cell? ⟨N_b, 1, none⟩ = some (.int .i64 X.n) ∧ w'.cell? ⟨N_b, 2, none⟩ = some (.int .i64 X.S.g) ∧ w'.cell? ⟨N_b, 3, none⟩ = some (.int .i64 X.S.c) ∧ w'.cell? ⟨N_b, 4, none⟩ = some (.int .i64 X.S.mn) ∧ w'.cell? ⟨N_b, 5, none⟩ = some (.int .i64 X.S.mx) ∧ w'.cell? ⟨N_h, 0, none⟩ = some (.int .i64 H.id) ∧ w'.cell? ⟨N_h, 1, none⟩ = some (.int .i64 H.q) ∧ w'.cell? ⟨N_h, 2, none⟩ = some (.int .i64 H.u) ∧ w'.cell? ⟨N_h, 3, none⟩ = some (.bool H.r) ∧ w'.cell? ⟨N_h, 4, none⟩ = some (.slice H.A k H.c)) V4.drew := ⟨f0, f1, b0, b1, b2, b3, b4, b5, h0, h1, h2, h3, h4⟩
  generalize V4.drew = wz0 at hBz0 hSz0 ⊢;have szz0 := hBz0.size;refine tkA 0 46 hSz0 ?_;refine tkA 1 47 hSz0 ?_;refine tkA 2 48 hSz0 ?_;refine tkA 4 50 hSz0 ?_;refine tkA 6 52 hSz0 ?_;refine tkA 9 55 hSz0 ?_;refine held_two 3 7 rfl rfl (by kernel_rfl) (by rfl) (by rfl) (fun K hK => ?_) (fun K hK => ?_)
  ·go_simp;obtain ⟨wza, hwza⟩ := nx (wz0.alloc (.cells #[] 53));have hBwza : Below V4.heap.size V4 wza := by rw [hwza]; exact hBz0.alloc hBz0.size _
   have szwza := hBwza.size;have stwza : wz0.heap.size < wza.heap.size := by rw [hwza]; simp
   have bbwza : Below wz0.heap.size wz0 wza := by rw [hwza]; exact (Below.refl _ _).alloc (Nat.le_refl _) _
   have ownE : wza.ownsRow V4.heap.size 53 5 (.slice (some ⟨wz0.heap.size, 0, none⟩) 0 0) 0 [] := by rw [hwza]; exact World.ownsRow_lit wz0 #[] 0 (by have := hBz0.size; omega) (by unfold maxLen; omega) rfl
   have hSwza := Ai (ck hBwza f0) (Ai (ck hBwza f1) (Ai (ck hBwza b0) (Ai (ck hBwza b1) (Ai (ck hBwza b2) (Ai (ck hBwza b3) (Ai (ck hBwza b4) (Ai (ck hBwza b5) (Ai (ck hBwza h0) (Ai (ck hBwza h1) (Ai (ck hBwza h2) (Ai (ck hBwza h3) (ck hBwza h4))))))))))));rw [← hwza];refine hK.out _ _ hSwza ?_;clear hK K hwza;try simp only [Act.put, pzA, pzB, pzC]
   refine held_two 5 7 rfl rfl (by kernel_rfl) (by rfl) (by rfl) (fun K hK => ?_) (fun K hK => ?_)
   ·simp only [Go.wp_at_zero, Go.wp_at_succ];refine wp_append_els (C := hoC) (k := 5) _ _ _ 24 rfl V4.heap.size 53 i0 _ 56 Tryz.underlying24 hi hz0 hz1 hz2 rfl (by decide) (.slice (some ⟨wz0.heap.size, 0, none⟩) 0 0) 0 [] rfl ownE V4.heap.size A2 p2 m l rfl (Els.keep HL6.out (hBwza) (Nat.le_refl _)) HL.out.2 hoC_len hoC_one (by unfold maxLen; omega) (by omega) (by omega) ?_;intro A5 c5 wzb own5 gwzb kwzb;rw [Nat.zero_add] at own5 ⊢;rw [List.nil_append] at own5;have hob : ∀ j, (Value.slice (some ⟨wz0.heap.size, 0, none⟩) 0 0).ownBlock = some j → j = wz0.heap.size := fun j hj => by simpa [Value.ownBlock] using hj.symm
    have hBwzb : Below V4.heap.size V4 wzb := hBwza.grown gwzb (by omega) (fun j hj => by have := hob j hj; omega);have szwzb := hBwzb.size;have stwzb := gwzb.size;have hSwzb := Ai (ck hBwzb f0) (Ai (ck hBwzb f1) (Ai (ck hBwzb b0) (Ai (ck hBwzb b1) (Ai (ck hBwzb b2) (Ai (ck hBwzb b3) (Ai (ck hBwzb b4) (Ai (ck hBwzb b5) (Ai (ck hBwzb h0) (Ai (ck hBwzb h1) (Ai (ck hBwzb h2) (Ai (ck hBwzb h3) (ck hBwzb h4))))))))))));refine hK.out _ _ hSwzb ?_;clear hK K;try simp only [Act.put, pzA, pzB, pzC]
    have Own5 := Hq own5;clear own5 gwzb kwzb hob;refine held_one 7 rfl (by kernel_rfl) (by rfl) (fun K hK => ?_);go_simp;obtain ⟨wzc, hwzc⟩ := nx (wzb.alloc (.cells #[.int .i64 H.id, .int .i64 H.q, .int .i64 H.u, .bool H.r, .slice H.A k H.c] 53));have hBwzc : Below V4.heap.size V4 wzc := by rw [hwzc]; exact hBwzb.alloc hBwzb.size _
    have szwzc := hBwzc.size;have stwzc : wzb.heap.size < wzc.heap.size := by rw [hwzc]; simp
    have bbwzc : Below wzb.heap.size wzb wzc := by rw [hwzc]; exact (Below.refl _ _).alloc (Nat.le_refl _) _
    have elsB : Els hoC 5 wzc wzc.heap.size (some ⟨wzb.heap.size, 0, none⟩) [H] := HBX.out wzc wzb.heap.size (by rw [hwzc]; exact heap_alloc_new _ _);have hSwzc := Ai (ck hBwzc f0) (Ai (ck hBwzc f1) (Ai (ck hBwzc b0) (Ai (ck hBwzc b1) (Ai (ck hBwzc b2) (Ai (ck hBwzc b3) (Ai (ck hBwzc b4) (Ai (ck hBwzc b5) (Ai (ck hBwzc h0) (Ai (ck hBwzc h1) (Ai (ck hBwzc h2) (Ai (ck hBwzc h3) (ck hBwzc h4))))))))))));rw [← hwzc];refine hK.out _ _ hSwzc ?_;clear hK K hwzc;try simp only [Act.put, pzA, pzB, pzC]
    have own5 := own_keep Own5.out bbwzc;refine held_one 8 rfl (by kernel_rfl) (by rfl) (fun K hK => ?_);simp only [Go.wp_at_zero, Go.wp_at_succ];refine wp_append_els (C := hoC) (k := 5) _ _ _ 24 rfl V4.heap.size 53 i0 _ 56 Tryz.underlying24 hi hz0 hz1 hz2 rfl (by decide) (.slice A5 m c5) m _ rfl own5 _ (some ⟨wzb.heap.size, 0, none⟩) 1 1 [H] rfl elsB rfl hoC_len hoC_one (by unfold maxLen; omega) (by omega) (by omega) ?_;intro A7 c7 wz9 own7 g7 k7;have hob5 : ∀ j, (Value.slice A5 m c5).ownBlock = some j → V4.heap.size ≤ j := fun j hj => (own5.lt j hj).1
    have hBwz9 : Below V4.heap.size V4 wz9 := hBwzc.grown g7 (by omega) (fun j hj => by have := hob5 j hj; omega);have hSwz9 := Ai (ck hBwz9 f0) (Ai (ck hBwz9 f1) (Ai (ck hBwz9 b0) (Ai (ck hBwz9 b1) (Ai (ck hBwz9 b2) (Ai (ck hBwz9 b3) (Ai (ck hBwz9 b4) (Ai (ck hBwz9 b5) (Ai (ck hBwz9 h0) (Ai (ck hBwz9 h1) (Ai (ck hBwz9 h2) (Ai (ck hBwz9 h3) (ck hBwz9 h4))))))))))));refine hK.out _ _ hSwz9 ?_;clear hK K;try simp only [Act.put, pzA, pzB, pzC]
    have Own7 := Hq own7;clear own7 own5 g7 k7 hob5;try clear hob
    try clear elsB
    try clear ElsB
    try clear Own5
    try clear OwnE
    try clear ownE
    try clear gwza kwza
    try clear gwzb kwzb
    try clear gwzc kwzc
    have hlA : Hos wz9 wz9.heap.size A7 (l ++ [H]) := own_hos (by have := Own7.out; rw [← List.flatMap_append] at this; exact this) (by rw [List.length_append, ← HL.out.2]; rfl);have hBw := HB6.out.trans (hBwz9.mono hlow);have HEW := Hq (hEa.out hE1 (g) (c) hxy.out.1 hxy.out.2 A4 c4 A7 c7 wz9 hBw (HF6.out.keep hBwz9 hBwz9.size) HF5.out.2.1 HF5.out.2.2 hlA);clear hlA hBw;refine held_one 10 rfl (by kernel_rfl) (by rfl) (fun K hK => ?_);go_simp
    go_at_call 10
    refine HEW.out.mono ?_;rintro e wy ⟨T, E9, rfl, hEr, hb10⟩;have HEr := Hq hEr;clear hEr;have hBy : Below V4.heap.size V4 wy := below_step hBwz9 hb10;have hSy := Ai (ck hBy f0) (Ai (ck hBy f1) (Ai (ck hBy b0) (Ai (ck hBy b1) (Ai (ck hBy b2) (Ai (ck hBy b3) (Ai (ck hBy b4) (Ai (ck hBy b5) (Ai (ck hBy h0) (Ai (ck hBy h1) (Ai (ck hBy h2) (Ai (ck hBy h3) (ck hBy h4))))))))))));refine hK.out _ _ hSy ?_;clear hK K;try simp only [Act.put, pzA, pzB, pzC]
    refine tkA 11 57 hSy ?_;refine tkA 12 58 hSy ?_;refine tkA 13 12 hSy ?_;refine tkA 14 13 hSy ?_;refine wpAnyH_done (by kernel_rfl) ?_ _;have HBz := Hq (HB6.out.trans (hBy.mono hlow));clear hBy hSy hb10 hBwz9 hSwz9;go_wp2
    go_ret2
    exact ⟨T, E9, rfl, .inr ⟨by rw [HE.out.1]; exact hE1, by rw [HE.out.1, ← hxy.out.1, ← hxy.out.2]; exact HEr.out⟩, by rw [HB0.out]; exact HBz.out⟩
  
   ·have OwnE := Hq ownE;clear ownE;go_simp;obtain ⟨wzb, hwzb⟩ := nx (wza.alloc (.cells #[.int .i64 H.id, .int .i64 H.q, .int .i64 H.u, .bool H.r, .slice H.A k H.c] 53));have hBwzb : Below V4.heap.size V4 wzb := by rw [hwzb]; exact hBwza.alloc hBwza.size _
    have szwzb := hBwzb.size;have stwzb : wza.heap.size < wzb.heap.size := by rw [hwzb]; simp
    have bbwzb : Below wza.heap.size wza wzb := by rw [hwzb]; exact (Below.refl _ _).alloc (Nat.le_refl _) _
    have elsB : Els hoC 5 wzb wzb.heap.size (some ⟨wza.heap.size, 0, none⟩) [H] := HBX.out wzb wza.heap.size (by rw [hwzb]; exact heap_alloc_new _ _);have hSwzb := Ai (ck hBwzb f0) (Ai (ck hBwzb f1) (Ai (ck hBwzb b0) (Ai (ck hBwzb b1) (Ai (ck hBwzb b2) (Ai (ck hBwzb b3) (Ai (ck hBwzb b4) (Ai (ck hBwzb b5) (Ai (ck hBwzb h0) (Ai (ck hBwzb h1) (Ai (ck hBwzb h2) (Ai (ck hBwzb h3) (ck hBwzb h4))))))))))));rw [← hwzb];refine hK.out _ _ hSwzb ?_;clear hK K hwzb;try simp only [Act.put, pzA, pzB, pzC]
    have ownE := own_keep OwnE.out bbwzb;refine held_one 5 rfl (by kernel_rfl) (by rfl) (fun K hK => ?_);simp only [Go.wp_at_zero, Go.wp_at_succ];refine wp_append_els (C := hoC) (k := 5) _ _ _ 24 rfl V4.heap.size 53 i0 _ 56 Tryz.underlying24 hi hz0 hz1 hz2 rfl (by decide) (.slice (some ⟨wz0.heap.size, 0, none⟩) 0 0) 0 [] rfl ownE V4.heap.size A2 p2 m l rfl (Els.keep HL6.out (hBwzb) (Nat.le_refl _)) HL.out.2 hoC_len hoC_one (by unfold maxLen; omega) (by omega) (by omega) ?_;intro A5 c5 wzc own5 gwzc kwzc;rw [Nat.zero_add] at own5 ⊢;rw [List.nil_append] at own5;have hob : ∀ j, (Value.slice (some ⟨wz0.heap.size, 0, none⟩) 0 0).ownBlock = some j → j = wz0.heap.size := fun j hj => by simpa [Value.ownBlock] using hj.symm
    have hBwzc : Below V4.heap.size V4 wzc := hBwzb.grown gwzc (by omega) (fun j hj => by have := hob j hj; omega);have szwzc := hBwzc.size;have stwzc := gwzc.size;have hSwzc := Ai (ck hBwzc f0) (Ai (ck hBwzc f1) (Ai (ck hBwzc b0) (Ai (ck hBwzc b1) (Ai (ck hBwzc b2) (Ai (ck hBwzc b3) (Ai (ck hBwzc b4) (Ai (ck hBwzc b5) (Ai (ck hBwzc h0) (Ai (ck hBwzc h1) (Ai (ck hBwzc h2) (Ai (ck hBwzc h3) (ck hBwzc h4))))))))))));have elsB : Els hoC 5 wzc wzc.heap.size (some ⟨wza.heap.size, 0, none⟩) [H] := (elsB.off (w' := wzc) fun b2 o2 e2 hb2 => gwzc.block b2 hb2 (fun e => by have := hob b2 e.symm; injection e2 with e2; injection e2 with e2; omega)).imp stwzc fun _ _ _ _ hd => hd
    refine hK.out _ _ hSwzc ?_;clear hK K;try simp only [Act.put, pzA, pzB, pzC]
    refine held_one 8 rfl (by kernel_rfl) (by rfl) (fun K hK => ?_);simp only [Go.wp_at_zero, Go.wp_at_succ];refine wp_append_els (C := hoC) (k := 5) _ _ _ 24 rfl V4.heap.size 53 i0 _ 56 Tryz.underlying24 hi hz0 hz1 hz2 rfl (by decide) (.slice A5 m c5) m _ rfl own5 _ (some ⟨wza.heap.size, 0, none⟩) 1 1 [H] rfl elsB rfl hoC_len hoC_one (by unfold maxLen; omega) (by omega) (by omega) ?_;intro A7 c7 wz9 own7 g7 k7;have hob5 : ∀ j, (Value.slice A5 m c5).ownBlock = some j → V4.heap.size ≤ j := fun j hj => (own5.lt j hj).1
    have hBwz9 : Below V4.heap.size V4 wz9 := hBwzc.grown g7 (by omega) (fun j hj => by have := hob5 j hj; omega);have hSwz9 := Ai (ck hBwz9 f0) (Ai (ck hBwz9 f1) (Ai (ck hBwz9 b0) (Ai (ck hBwz9 b1) (Ai (ck hBwz9 b2) (Ai (ck hBwz9 b3) (Ai (ck hBwz9 b4) (Ai (ck hBwz9 b5) (Ai (ck hBwz9 h0) (Ai (ck hBwz9 h1) (Ai (ck hBwz9 h2) (Ai (ck hBwz9 h3) (ck hBwz9 h4))))))))))));refine hK.out _ _ hSwz9 ?_;clear hK K;try simp only [Act.put, pzA, pzB, pzC]
    have Own7 := Hq own7;clear own7 own5 g7 k7 hob5;try clear hob
    try clear elsB
    try clear ElsB
    try clear Own5
    try clear OwnE
    try clear ownE
    try clear gwza kwza
    try clear gwzb kwzb
    try clear gwzc kwzc
    have hlA : Hos wz9 wz9.heap.size A7 (l ++ [H]) := own_hos (by have := Own7.out; rw [← List.flatMap_append] at this; exact this) (by rw [List.length_append, ← HL.out.2]; rfl);have hBw := HB6.out.trans (hBwz9.mono hlow);have HEW := Hq (hEa.out hE1 (g) (c) hxy.out.1 hxy.out.2 A4 c4 A7 c7 wz9 hBw (HF6.out.keep hBwz9 hBwz9.size) HF5.out.2.1 HF5.out.2.2 hlA);clear hlA hBw;refine held_one 10 rfl (by kernel_rfl) (by rfl) (fun K hK => ?_);go_simp
    go_at_call 10
    refine HEW.out.mono ?_;rintro e wy ⟨T, E9, rfl, hEr, hb10⟩;have HEr := Hq hEr;clear hEr;have hBy : Below V4.heap.size V4 wy := below_step hBwz9 hb10;have hSy := Ai (ck hBy f0) (Ai (ck hBy f1) (Ai (ck hBy b0) (Ai (ck hBy b1) (Ai (ck hBy b2) (Ai (ck hBy b3) (Ai (ck hBy b4) (Ai (ck hBy b5) (Ai (ck hBy h0) (Ai (ck hBy h1) (Ai (ck hBy h2) (Ai (ck hBy h3) (ck hBy h4))))))))))));refine hK.out _ _ hSy ?_;clear hK K;try simp only [Act.put, pzA, pzB, pzC]
    refine tkA 11 57 hSy ?_;refine tkA 12 58 hSy ?_;refine tkA 13 12 hSy ?_;refine tkA 14 13 hSy ?_;refine wpAnyH_done (by kernel_rfl) ?_ _;have HBz := Hq (HB6.out.trans (hBy.mono hlow));clear hBy hSy hb10 hBwz9 hSwz9;go_wp2
    go_ret2
    exact ⟨T, E9, rfl, .inr ⟨by rw [HE.out.1]; exact hE1, by rw [HE.out.1, ← hxy.out.1, ← hxy.out.2]; exact HEr.out⟩, by rw [HB0.out]; exact HBz.out⟩
  
  
  ·go_simp;obtain ⟨wza, hwza⟩ := nx (wz0.alloc (.cells #[.int .i64 H.id, .int .i64 H.q, .int .i64 H.u, .bool H.r, .slice H.A k H.c] 53));have hBwza : Below V4.heap.size V4 wza := by rw [hwza]; exact hBz0.alloc hBz0.size _
   have szwza := hBwza.size;have stwza : wz0.heap.size < wza.heap.size := by rw [hwza]; simp
   have bbwza : Below wz0.heap.size wz0 wza := by rw [hwza]; exact (Below.refl _ _).alloc (Nat.le_refl _) _
   have elsB : Els hoC 5 wza wza.heap.size (some ⟨wz0.heap.size, 0, none⟩) [H] := HBX.out wza wz0.heap.size (by rw [hwza]; exact heap_alloc_new _ _);have hSwza := Ai (ck hBwza f0) (Ai (ck hBwza f1) (Ai (ck hBwza b0) (Ai (ck hBwza b1) (Ai (ck hBwza b2) (Ai (ck hBwza b3) (Ai (ck hBwza b4) (Ai (ck hBwza b5) (Ai (ck hBwza h0) (Ai (ck hBwza h1) (Ai (ck hBwza h2) (Ai (ck hBwza h3) (ck hBwza h4))))))))))));rw [← hwza];refine hK.out _ _ hSwza ?_;clear hK K hwza;try simp only [Act.put, pzA, pzB, pzC]
   have ElsB := Hq elsB;clear elsB;refine held_one 3 rfl (by kernel_rfl) (by rfl) (fun K hK => ?_);go_simp;obtain ⟨wzb, hwzb⟩ := nx (wza.alloc (.cells #[] 53));have hBwzb : Below V4.heap.size V4 wzb := by rw [hwzb]; exact hBwza.alloc hBwza.size _
   have szwzb := hBwzb.size;have stwzb : wza.heap.size < wzb.heap.size := by rw [hwzb]; simp
   have bbwzb : Below wza.heap.size wza wzb := by rw [hwzb]; exact (Below.refl _ _).alloc (Nat.le_refl _) _
   have ownE : wzb.ownsRow V4.heap.size 53 5 (.slice (some ⟨wza.heap.size, 0, none⟩) 0 0) 0 [] := by rw [hwzb]; exact World.ownsRow_lit wza #[] 0 (by have := hBwza.size; omega) (by unfold maxLen; omega) rfl
   have hSwzb := Ai (ck hBwzb f0) (Ai (ck hBwzb f1) (Ai (ck hBwzb b0) (Ai (ck hBwzb b1) (Ai (ck hBwzb b2) (Ai (ck hBwzb b3) (Ai (ck hBwzb b4) (Ai (ck hBwzb b5) (Ai (ck hBwzb h0) (Ai (ck hBwzb h1) (Ai (ck hBwzb h2) (Ai (ck hBwzb h3) (ck hBwzb h4))))))))))));rw [← hwzb];refine hK.out _ _ hSwzb ?_;clear hK K hwzb;try simp only [Act.put, pzA, pzB, pzC]
   have elsB : Els hoC 5 wzb wzb.heap.size (some ⟨wz0.heap.size, 0, none⟩) [H] := ElsB.out.keep bbwzb (by omega);refine held_one 5 rfl (by kernel_rfl) (by rfl) (fun K hK => ?_);simp only [Go.wp_at_zero, Go.wp_at_succ];refine wp_append_els (C := hoC) (k := 5) _ _ _ 24 rfl V4.heap.size 53 i0 _ 56 Tryz.underlying24 hi hz0 hz1 hz2 rfl (by decide) (.slice (some ⟨wza.heap.size, 0, none⟩) 0 0) 0 [] rfl ownE V4.heap.size A2 p2 m l rfl (Els.keep HL6.out (hBwzb) (Nat.le_refl _)) HL.out.2 hoC_len hoC_one (by unfold maxLen; omega) (by omega) (by omega) ?_;intro A5 c5 wzc own5 gwzc kwzc;rw [Nat.zero_add] at own5 ⊢;rw [List.nil_append] at own5;have hob : ∀ j, (Value.slice (some ⟨wza.heap.size, 0, none⟩) 0 0).ownBlock = some j → j = wza.heap.size := fun j hj => by simpa [Value.ownBlock] using hj.symm
   have hBwzc : Below V4.heap.size V4 wzc := hBwzb.grown gwzc (by omega) (fun j hj => by have := hob j hj; omega);have szwzc := hBwzc.size;have stwzc := gwzc.size;have hSwzc := Ai (ck hBwzc f0) (Ai (ck hBwzc f1) (Ai (ck hBwzc b0) (Ai (ck hBwzc b1) (Ai (ck hBwzc b2) (Ai (ck hBwzc b3) (Ai (ck hBwzc b4) (Ai (ck hBwzc b5) (Ai (ck hBwzc h0) (Ai (ck hBwzc h1) (Ai (ck hBwzc h2) (Ai (ck hBwzc h3) (ck hBwzc h4))))))))))));have elsB : Els hoC 5 wzc wzc.heap.size (some ⟨wz0.heap.size, 0, none⟩) [H] := (elsB.off (w' := wzc) fun b2 o2 e2 hb2 => gwzc.block b2 hb2 (fun e => by have := hob b2 e.symm; injection e2 with e2; injection e2 with e2; omega)).imp stwzc fun _ _ _ _ hd => hd
   refine hK.out _ _ hSwzc ?_;clear hK K;try simp only [Act.put, pzA, pzB, pzC]
   refine held_one 8 rfl (by kernel_rfl) (by rfl) (fun K hK => ?_);simp only [Go.wp_at_zero, Go.wp_at_succ];refine wp_append_els (C := hoC) (k := 5) _ _ _ 24 rfl V4.heap.size 53 i0 _ 56 Tryz.underlying24 hi hz0 hz1 hz2 rfl (by decide) (.slice A5 m c5) m _ rfl own5 _ (some ⟨wz0.heap.size, 0, none⟩) 1 1 [H] rfl elsB rfl hoC_len hoC_one (by unfold maxLen; omega) (by omega) (by omega) ?_;intro A7 c7 wz9 own7 g7 k7;have hob5 : ∀ j, (Value.slice A5 m c5).ownBlock = some j → V4.heap.size ≤ j := fun j hj => (own5.lt j hj).1
   have hBwz9 : Below V4.heap.size V4 wz9 := hBwzc.grown g7 (by omega) (fun j hj => by have := hob5 j hj; omega);have hSwz9 := Ai (ck hBwz9 f0) (Ai (ck hBwz9 f1) (Ai (ck hBwz9 b0) (Ai (ck hBwz9 b1) (Ai (ck hBwz9 b2) (Ai (ck hBwz9 b3) (Ai (ck hBwz9 b4) (Ai (ck hBwz9 b5) (Ai (ck hBwz9 h0) (Ai (ck hBwz9 h1) (Ai (ck hBwz9 h2) (Ai (ck hBwz9 h3) (ck hBwz9 h4))))))))))));refine hK.out _ _ hSwz9 ?_;clear hK K;try simp only [Act.put, pzA, pzB, pzC]
   have Own7 := Hq own7;clear own7 own5 g7 k7 hob5;try clear hob
   try clear elsB
   try clear ElsB
   try clear Own5
   try clear OwnE
   try clear ownE
   try clear gwza kwza
   try clear gwzb kwzb
   try clear gwzc kwzc
   have hlA : Hos wz9 wz9.heap.size A7 (l ++ [H]) := own_hos (by have := Own7.out; rw [← List.flatMap_append] at this; exact this) (by rw [List.length_append, ← HL.out.2]; rfl);have hBw := HB6.out.trans (hBwz9.mono hlow);have HEW := Hq (hEa.out hE1 (g) (c) hxy.out.1 hxy.out.2 A4 c4 A7 c7 wz9 hBw (HF6.out.keep hBwz9 hBwz9.size) HF5.out.2.1 HF5.out.2.2 hlA);clear hlA hBw;refine held_one 10 rfl (by kernel_rfl) (by rfl) (fun K hK => ?_);go_simp
   go_at_call 10
   refine HEW.out.mono ?_;rintro e wy ⟨T, E9, rfl, hEr, hb10⟩;have HEr := Hq hEr;clear hEr;have hBy : Below V4.heap.size V4 wy := below_step hBwz9 hb10;have hSy := Ai (ck hBy f0) (Ai (ck hBy f1) (Ai (ck hBy b0) (Ai (ck hBy b1) (Ai (ck hBy b2) (Ai (ck hBy b3) (Ai (ck hBy b4) (Ai (ck hBy b5) (Ai (ck hBy h0) (Ai (ck hBy h1) (Ai (ck hBy h2) (Ai (ck hBy h3) (ck hBy h4))))))))))));refine hK.out _ _ hSy ?_;clear hK K;try simp only [Act.put, pzA, pzB, pzC]
   refine tkA 11 57 hSy ?_;refine tkA 12 58 hSy ?_;refine tkA 13 12 hSy ?_;refine tkA 14 13 hSy ?_;refine wpAnyH_done (by kernel_rfl) ?_ _;have HBz := Hq (HB6.out.trans (hBy.mono hlow));clear hBy hSy hb10 hBwz9 hSwz9;go_wp2
   go_ret2
   exact ⟨T, E9, rfl, .inr ⟨by rw [HE.out.1]; exact hE1, by rw [HE.out.1, ← hxy.out.1, ← hxy.out.2]; exact HEr.out⟩, by rw [HB0.out]; exact HBz.out⟩
set_option maxHeartbeats 8000000 in
theorem refsafe13_any (now : Int) (A1 : Option Addr) (p1 : Nat) (lv : List Fe) (g c : Int) (A2 : Option Addr) (p2 : Nat) (l : List Ho) (X : Wa) (pr : Int) (H : Ho) (w : World) (hv : Fes w w.heap.size A1 lv) (hview : View lv) (hl : lv.length ≤ 100) (hd : HosIn w w.heap.size A2 l) (hok : ∀ x ∈ l, HoOk x) (hm0 : l.length ≤ 30) (hm1 : ∀ x ∈ l, x.sl.length ≤ 1000) (hw : WaOk X) (hF : Fes w w.heap.size H.A H.sl) (hHo : HoOk H) (hs : H.sl.length ≤ 1000)
  (g0 : -1000000000 ≤ g ∧ g ≤ 1000000000) (c0 : -1000000000 ≤ c ∧ c ≤ 1000000000) (hT : Tab w) :
  Calls Tryz.prog 12 #[.int .i64 now, .slice A1 lv.length p1, .agg #[.int .i64 g, .int .i64 c], .slice A2 l.length p2, waV X, .int .i64 pr, hoV H] w fun e w' => ∃ T E, e = .returned (.tuple #[.bool (safeB now pr T E), .int .i64 E]) ∧ Aft now lv g c l X H T E ∧ Below w.heap.size w w' := by
 obtain ⟨n, hn⟩ := nx (lv.length);obtain ⟨m, hm⟩ := nx (l.length);obtain ⟨k, hk⟩ := nx (H.sl.length);have hA := Hq (fun W (hW : Below w.heap.size w W) => show Calls Tryz.prog 22 #[.int .i64 now, .slice A1 n p1, .agg #[.int .i64 g, .int .i64 c], .slice A2 m p2, .agg #[.int .i64 X.q, .int .i64 X.n, .int .i64 X.S.g, .int .i64 X.S.c, .int .i64 X.S.mn, .int .i64 X.S.mx], .agg #[.int .i64 H.id, .int .i64 H.q, .int .i64 H.u, .bool H.r, .slice H.A k H.c]] W (fun e w' => ∃ T E, e = .returned (.tuple #[.int .i64 T, .int .i64 E]) ∧ Aft now lv g c l X H T E ∧ Below W.heap.size W w') from by
  have h9 := refafter13_any now A1 p1 lv g c A2 p2 l X H W (hv.keep hW hW.size) hview hl (hd.keep hW hW.size) hok hm0 hm1 hw (hF.keep hW hW.size) hHo hs g0 c0 (hT.below hW hT.size);unfold hoV hoA at h9;rw [← hn, ← hm, ← hk] at h9;exact h9)
 unfold waV waA hoV hoA;rw [← hn, ← hm, ← hk];clear hn hm hk hv hview hl hd hok hm0 hm1 hw hF hHo hs g0 c0 hT;obtain ⟨B0, hB0⟩ := nx (w.heap.size);rw [← hB0];have HB0 := Hq hB0;clear hB0;have HBel := Hq (Below.refl w.heap.size w);have hlow : w.heap.size ≤ w.heap.size := Nat.le_refl _;go_enter Tryz.func12, Tryz.ntmps12;go_wp2_with fail;obtain ⟨V1, hV1⟩ := nx (((w.alloc (.cells #[.int .i64 g, .int .i64 c] 42)).alloc (.cells #[.int .i64 X.q, .int .i64 X.n, .int .i64 X.S.g, .int .i64 X.S.c, .int .i64 X.S.mn, .int .i64 X.S.mx] 34)).alloc (.cells #[.int .i64 H.id, .int .i64 H.q, .int .i64 H.u, .bool H.r, .slice H.A k H.c] 53));rw [← hV1];have hzV1 := sz3 hV1;replace HBel := be3 hV1 HBel hlow;have B_f := Hq (new30 hV1);have B_b := Hq (new31 hV1);have B_h := Hq (new32 hV1);obtain ⟨N_f, hN_f⟩ := nx (w.heap.size);obtain ⟨N_b, hN_b⟩ := nx (w.heap.size + 1);obtain ⟨N_h, hN_h⟩ := nx (w.heap.size + 1 + 1);(try rw [← hN_h]);rw [← hN_h] at B_h;(try rw [← hN_b]);rw [← hN_b] at B_b;(try rw [← hN_f]);rw [← hN_f] at B_f;have l_f : N_f < V1.heap.size := by omega
 have l_b : N_b < V1.heap.size := by omega
 have l_h : N_h < V1.heap.size := by omega
 have g_f : w.heap.size ≤ N_f := by omega
 have g_b : w.heap.size ≤ N_b := by omega
 have g_h : w.heap.size ≤ N_h := by omega
 have d_f_b : N_f < N_b := by omega
 have d_b_h : N_b < N_h := by omega
 replace hlow : w.heap.size ≤ V1.heap.size := by omega
 clear hV1 hzV1 hN_f hN_b hN_h;refine (hA.out V1 HBel.out).mono ?_;rintro e U2 ⟨T, E, rfl, hAf, hb9⟩;have hs9 := hb9.size;have HAf := Hq hAf;clear hAf;replace HBel := bt9 HBel hb9 hlow;replace B_f := bb9 hb9 B_f l_f;replace B_b := bb9 hb9 B_b l_b;replace B_h := bb9 hb9 B_h l_h;replace l_f : N_f < U2.heap.size := by omega
 replace l_b : N_b < U2.heap.size := by omega
 replace l_h : N_h < U2.heap.size := by omega
 replace hlow : w.heap.size ≤ U2.heap.size := by omega
 clear hb9 hs9;by_cases hE0 : E = 0
 ·subst hE0;by_cases h1 : T ≤ pr
  ·have hs := Hq (show safeB now pr T 0 = true from by unfold safeB; simp [h1]);have t1 : decide (T ≤ pr) = true := decide_eq_true h1;go_wp2
   go_ret2
   exact ⟨T, 0, by rw [hs.out]; first | rfl | (simp; done), HAf.out, by rw [HB0.out]; exact HBel.out⟩
  ·have t1 : decide (T ≤ pr) = false := decide_eq_false h1;by_cases h2 : T ≤ now
   ·have hs := Hq (show safeB now pr T 0 = true from by unfold safeB; simp [h2]);have t2 : decide (T ≤ now) = true := decide_eq_true h2;go_wp2
    go_ret2
    exact ⟨T, 0, by rw [hs.out]; first | rfl | (simp; done), HAf.out, by rw [HB0.out]; exact HBel.out⟩
   ·have hs := Hq (show safeB now pr T 0 = false from by unfold safeB; simp [h1, h2]);have t2 : decide (T ≤ now) = false := decide_eq_false h2;go_wp2
    go_ret2
    exact ⟨T, 0, by rw [hs.out]; first | rfl | (simp; done), HAf.out, by rw [HB0.out]; exact HBel.out⟩
 ·have hs := Hq (show safeB now pr T E = false from by unfold safeB; simp [hE0]);have t1 : (E == 0) = false := by simp [hE0]
  go_wp2
  go_ret2
  exact ⟨T, E, by rw [hs.out]; first | rfl | (simp; done), HAf.out, by rw [HB0.out]; exact HBel.out⟩
end Go.Proofs.YtkkkhonjcbhelaaGreatDoor
