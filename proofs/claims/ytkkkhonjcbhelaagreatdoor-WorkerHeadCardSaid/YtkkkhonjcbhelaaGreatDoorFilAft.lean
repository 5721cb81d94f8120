import Derived.Test.YtkkkhonjcbhelaaGreatDoorFilCl
import Derived.Test.YtkkkhonjcbhelaaGreatDoorProEarl
set_option maxRecDepth 100000
set_option linter.unusedVariables false
namespace Go.Proofs.YtkkkhonjcbhelaaGreatDoor
open Go.RowKit
open PR
theorem gs_bound {l : List Fe} (h : l.length ≤ 1000) : (gs l : Int) ≤ 64000 := by have := gs_le l; omega
theorem left_bounds {lv lv2 : List Fe} {H : Ho} {g c Q : Int} (hv : View lv) (hv2 : View lv2) (h : turnL lessC lv H.sl = (0, lv2)) (hok : ∀ s ∈ H.sl, FeOk s) (hs : H.sl.length ≤ 1000) (g0 : -1000000000 ≤ g ∧ g ≤ 1000000000) (c0 : -1000000000 ≤ c ∧ c ≤ 1000000000) :
  (-2147483648 ≤ g - (hg H Q : Int) ∧ g - (hg H Q : Int) ≤ 2147483648) ∧ (-2147483648 ≤ c - hc H Q ∧ c - hc H Q ≤ 2147483648) := by
 have h1 := gs_bound hs;have h2 := cs_le (l := H.sl) fun s hsm => (low_less hv hv2 h hok s hsm).2
 unfold hg hc
 split <;> omega
set_option maxHeartbeats 8000000 in
theorem pafter_any (now : Int) (A1 : Option Addr) (p1 : Nat) (lv : List Fe) (g c : Int) (A2 : Option Addr) (p2 : Nat) (l : List Ho) (X : Wa) (H : Ho) (w : World) (hv : Fes w w.heap.size A1 lv) (hview : View lv) (hl : lv.length ≤ 100) (hd : HosIn w w.heap.size A2 l) (hok : ∀ x ∈ l, HoOk x) (hm0 : l.length ≤ 30) (hm1 : ∀ x ∈ l, x.sl.length ≤ 1000) (hw : WaOk X) (hF : Fes w w.heap.size H.A H.sl) (hHo : HoOk H) (hs : H.sl.length ≤ 1000)
  (g0 : -1000000000 ≤ g ∧ g ≤ 1000000000) (c0 : -1000000000 ≤ c ∧ c ≤ 1000000000) (hT : Tab w) :
  Calls Tryz.prog 73 #[.int .i64 now, .slice A1 lv.length p1, .agg #[.int .i64 g, .int .i64 c], .slice A2 l.length p2, waV X, hoV H] w fun e w' => ∃ T E, e = .returned (.tuple #[.int .i64 T, .int .i64 E]) ∧ Aft now lv g c l X H T E ∧ Below w.heap.size w w' := by
 have HT := Hq hT;obtain ⟨n, hn⟩ := nx (lv.length);obtain ⟨m, hm⟩ := nx (l.length);obtain ⟨k, hk⟩ := nx (H.sl.length);obtain ⟨E, lv2, hE⟩ : ∃ E lv2, turnL lessC lv H.sl = (E, lv2) := ⟨_, _, rfl⟩
 obtain ⟨G, hGG⟩ : ∃ G, G = g - (hg H X.q : Int) := ⟨_, rfl⟩
 obtain ⟨C, hCC⟩ : ∃ C, C = c - hc H X.q := ⟨_, rfl⟩
 have hCh := Hq (fun W => show Calls Tryz.prog 80 #[.agg #[.int .i64 H.id, .int .i64 H.q, .int .i64 H.u, .bool H.r, .slice H.A k H.c], .int .i64 X.q] W (fun e w' => e = .returned (.func (.func 89) #[] #[.pointer (some ⟨W.heap.size, 0, none⟩), .pointer (some ⟨W.heap.size + 1, 0, none⟩)]) ∧ w'.heap[W.heap.size]? = some (.cells #[.int .i64 H.id, .int .i64 H.q, .int .i64 H.u, .bool H.r, .slice H.A k H.c] 53 (0, 0)) ∧ w'.heap[W.heap.size + 1]? = some (.cells #[.int .i64 X.q] 3 (0, 0)) ∧ Below W.heap.size W w') from by
  rw [hk]; exact changes_any H X.q W)
 have hCl := Hq (fun (p q : Nat) W (hW : Below w.heap.size w W) (bp : W.heap[p]? = some (.cells #[.int .i64 H.id, .int .i64 H.q, .int .i64 H.u, .bool H.r, .slice H.A k H.c] 53 (0, 0))) (bq : W.heap[q]? = some (.cells #[.int .i64 X.q] 3 (0, 0))) => show Calls Tryz.prog 89 #[.agg #[.slice A1 n p1, .int .i64 g, .int .i64 c, .slice A2 m p2], .pointer (some ⟨p, 0, none⟩), .pointer (some ⟨q, 0, none⟩)] W (fun e w' => ChgRes n m lv2 l H G C E w' e ∧ Below W.heap.size W w') from by
  rw [hn, hm, hGG, hCC];exact changes_cl p q H X.q A1 p1 lv g c A2 p2 l E lv2 W (by unfold hoA; rw [← hk]; exact bp) bq (hv.keep hW hW.size) hview (by omega) (hd.keep hW hW.size) (by omega) (hF.keep hW hW.size) hHo hs hE (by omega) (by omega))
 have hEa := Hq (fun (h0 : E = 0) (A : Option Addr) (c1 : Nat) (A3 : Option Addr) (c3 : Nat) W (hW : Below w.heap.size w W) (h1 : Fes W W.heap.size A lv2) (h2 : lv2.length = n) (h3 : View lv2) (h4 : HosIn W W.heap.size A3 (l ++ [H])) => show Calls Tryz.prog 81 #[.int .i64 now, .slice A n c1, .agg #[.int .i64 G, .int .i64 C], .slice A3 (m + 1) c3, .agg #[.int .i64 X.q, .int .i64 X.n, .int .i64 X.S.g, .int .i64 X.S.c, .int .i64 X.S.mn, .int .i64 X.S.mx]] W (fun e w' => ∃ T E9, e = .returned (.tuple #[.int .i64 T, .int .i64 E9]) ∧ Earl now lv2 G C (l ++ [H]) X T E9 ∧ Below W.heap.size W w') from by
  subst h0;have hb := left_bounds (Q := X.q) hview h3 hE hHo.ok hs g0 c0;rw [← hGG, ← hCC] at hb;have hlen : (l ++ [H]).length = m + 1 := by rw [List.length_append, hm]; rfl
  have hsm : ∀ x ∈ l ++ [H], x.sl.length ≤ 1000 := fun x hx => by
   rcases List.mem_append.1 hx with hx | hx
   ·exact hm1 x hx
   ·rw [List.mem_singleton.1 hx]; exact hs
  have h9 := pearliest_any now A c1 lv2 G C A3 c3 (l ++ [H]) X W h1 h3 (by omega) h4 (fun x hx => by
   rcases List.mem_append.1 hx with hx | hx
   ·exact hok x hx
   ·rw [List.mem_singleton.1 hx]; exact hHo) ⟨by omega, hsm⟩ (by have := sl_len hsm; omega) hw hb.1 hb.2 (hT.below hW hT.size)
  rw [h2, hlen] at h9;exact h9)
 have HE := Hq (Ai hE (Ai hGG hCC));unfold waV waA hoV hoA;rw [← hn, ← hm, ← hk];clear hn hm hk hE hGG hCC hv hview hl hd hok hm0 hm1 hw hF hHo hs g0 c0 hT;obtain ⟨B0, hB0⟩ := nx (w.heap.size);rw [← hB0];have HB0 := Hq hB0;clear hB0;have HBel := Hq (Below.refl w.heap.size w);have hlow : w.heap.size ≤ w.heap.size := Nat.le_refl _;go_enter Tryz.func73, Tryz.ntmps73;go_wp2_with fail;obtain ⟨V1, hV1⟩ := nx (((w.alloc (.cells #[.int .i64 g, .int .i64 c] 42)).alloc (.cells #[.int .i64 X.q, .int .i64 X.n, .int .i64 X.S.g, .int .i64 X.S.c, .int .i64 X.S.mn, .int .i64 X.S.mx] 34)).alloc (.cells #[.int .i64 H.id, .int .i64 H.q, .int .i64 H.u, .bool H.r, .slice H.A k H.c] 53));rw [← hV1];have hzV1 := sz3 hV1;replace HBel := be3 hV1 HBel hlow;have B_f := Hq (new30 hV1);have B_b := Hq (new31 hV1);have B_h := Hq (new32 hV1);obtain ⟨N_f, hN_f⟩ := nx (w.heap.size);obtain ⟨N_b, hN_b⟩ := nx (w.heap.size + 1);obtain ⟨N_h, hN_h⟩ := nx (w.heap.size + 1 + 1);(try rw [← hN_h]);rw [← hN_h] at B_h;(try rw [← hN_b]);rw [← hN_b] at B_b;(try rw [← hN_f]);rw [← hN_f] at B_f;have l_f : N_f < V1.heap.size := by omega
 have l_b : N_b < V1.heap.size := by omega
 have l_h : N_h < V1.heap.size := by omega
 have g_f : w.heap.size ≤ N_f := by omega
 have g_b : w.heap.size ≤ N_b := by omega
 have g_h : w.heap.size ≤ N_h := by omega
 have d_f_b : N_f < N_b := by omega
 have d_b_h : N_b < N_h := by omega
 replace hlow : w.heap.size ≤ V1.heap.size := by omega
 clear hV1 hzV1 hN_f hN_b hN_h;refine (hCh.out V1).mono ?_;rintro e U2 ⟨rfl, hp9, hq9, hb9⟩;have hs9 := hb9.size;have HP9 := Hq hp9;have HQ9 := Hq hq9;clear hp9 hq9;obtain ⟨P, hP⟩ := nx (V1.heap.size);rw [← hP] at HP9 HQ9;(try rw [← hP]);clear hP;replace HBel := bt9 HBel hb9 hlow;replace B_f := bb9 hb9 B_f l_f;replace B_b := bb9 hb9 B_b l_b;replace B_h := bb9 hb9 B_h l_h;replace l_f : N_f < U2.heap.size := by omega
 replace l_b : N_b < U2.heap.size := by omega
 replace l_h : N_h < U2.heap.size := by omega
 replace hlow : w.heap.size ≤ U2.heap.size := by omega
 clear hb9 hs9;obtain ⟨f0, f1⟩ := cells2 B_f.out;obtain ⟨b0, b1, b2, b3, b4, b5⟩ := cells6 B_b.out;go_wp2_with fail;refine (hCl.out P (P + 1) U2 HBel.out HP9.out HQ9.out).mono ?_;rintro e U3 ⟨hres, hb9⟩;clear f0 f1 b0 b1 b2 b3 b4 b5;have hs9 := hb9.size;replace HBel := bt9 HBel hb9 hlow;replace B_f := bb9 hb9 B_f l_f;replace B_b := bb9 hb9 B_b l_b;replace B_h := bb9 hb9 B_h l_h;replace l_f : N_f < U3.heap.size := by omega
 replace l_b : N_b < U3.heap.size := by omega
 replace l_h : N_h < U3.heap.size := by omega
 replace hlow : w.heap.size ≤ U3.heap.size := by omega
 clear hb9 hs9;clear HP9 HQ9;rcases hres with ⟨hE0, rfl⟩ | ⟨hE0, A4, c4, A5, c5, rfl, hf4⟩
 ·have t1 : (E != 0) = true := by simp [hE0]
  obtain ⟨b0, b1, b2, b3, b4, b5⟩ := cells6 B_b.out;go_wp2;clear b0 b1 b2 b3 b4 b5
  go_ret2
  exact ⟨0, E, rfl, .inl ⟨by rw [HE.out.1]; exact hE0, rfl, by rw [HE.out.1]⟩, by rw [HB0.out]; exact HBel.out.alloc hlow _⟩
 ·obtain ⟨f0, f1⟩ := cells2 B_f.out;obtain ⟨b0, b1, b2, b3, b4, b5⟩ := cells6 B_b.out;go_wp2_with fail;clear f0 f1 b0 b1 b2 b3 b4 b5;obtain ⟨V4, hV4⟩ := nx (U3.alloc (.cells #[.slice A4 n c4, .int .i64 G, .int .i64 C, .slice A5 (m + 1) c5] 145));rw [← hV4];have hzV4 := sz1 hV4;replace HBel := be1 hV4 HBel hlow;replace B_f := bk1 hV4 B_f l_f;replace B_b := bk1 hV4 B_b l_b;replace B_h := bk1 hV4 B_h l_h;have B_s := Hq (new10 hV4);obtain ⟨N_s, hN_s⟩ := nx (U3.heap.size);(try rw [← hN_s]);rw [← hN_s] at B_s;have d_f_s : N_f < N_s := by omega
  have d_b_s : N_b < N_s := by omega
  have d_h_s : N_h < N_s := by omega
  replace l_f : N_f < V4.heap.size := by omega
  replace l_b : N_b < V4.heap.size := by omega
  replace l_h : N_h < V4.heap.size := by omega
  have l_s : N_s < V4.heap.size := by omega
  have g_s : w.heap.size ≤ N_s := by omega
  replace hlow : w.heap.size ≤ V4.heap.size := by omega
  have HB4 : Below U3.heap.size U3 V4 := by rw [hV4]; exact (Below.refl _ _).alloc (Nat.le_refl _) _
  clear hV4 hzV4 hN_s;refine (hEa.out hE0 A4 c4 A5 c5 V4 HBel.out (hf4.out.1.keep HB4 HB4.size) hf4.out.2.1 hf4.out.2.2.1 (hf4.out.2.2.2.keep HB4 HB4.size)).mono ?_;rintro e U5 ⟨T, E9, rfl, hEr, hb9⟩;have hs9 := hb9.size;have HEr := Hq hEr;clear hEr;replace HBel := bt9 HBel hb9 hlow;replace B_f := bb9 hb9 B_f l_f;replace B_b := bb9 hb9 B_b l_b;replace B_h := bb9 hb9 B_h l_h;replace B_s := bb9 hb9 B_s l_s;replace l_f : N_f < U5.heap.size := by omega
  replace l_b : N_b < U5.heap.size := by omega
  replace l_h : N_h < U5.heap.size := by omega
  replace l_s : N_s < U5.heap.size := by omega
  replace hlow : w.heap.size ≤ U5.heap.size := by omega
  clear hb9 hs9;go_wp2
  go_ret2
  exact ⟨T, E9, rfl, .inr ⟨by rw [HE.out.1]; exact hE0, by rw [HE.out.1, ← HE.out.2.1, ← HE.out.2.2]; exact HEr.out⟩, by rw [HB0.out]; exact HBel.out⟩
set_option maxHeartbeats 8000000 in
theorem psafe_any (now : Int) (A1 : Option Addr) (p1 : Nat) (lv : List Fe) (g c : Int) (A2 : Option Addr) (p2 : Nat) (l : List Ho) (X : Wa) (pr : Int) (H : Ho) (w : World) (hv : Fes w w.heap.size A1 lv) (hview : View lv) (hl : lv.length ≤ 100) (hd : HosIn w w.heap.size A2 l) (hok : ∀ x ∈ l, HoOk x) (hm0 : l.length ≤ 30) (hm1 : ∀ x ∈ l, x.sl.length ≤ 1000) (hw : WaOk X) (hF : Fes w w.heap.size H.A H.sl) (hHo : HoOk H) (hs : H.sl.length ≤ 1000)
  (g0 : -1000000000 ≤ g ∧ g ≤ 1000000000) (c0 : -1000000000 ≤ c ∧ c ≤ 1000000000) (hT : Tab w) :
  Calls Tryz.prog 64 #[.int .i64 now, .slice A1 lv.length p1, .agg #[.int .i64 g, .int .i64 c], .slice A2 l.length p2, waV X, .int .i64 pr, hoV H] w fun e w' => ∃ T E, e = .returned (.tuple #[.bool (safeB now pr T E), .int .i64 E]) ∧ Aft now lv g c l X H T E ∧ Below w.heap.size w w' := by
 obtain ⟨n, hn⟩ := nx (lv.length);obtain ⟨m, hm⟩ := nx (l.length);obtain ⟨k, hk⟩ := nx (H.sl.length);have hA := Hq (fun W (hW : Below w.heap.size w W) => show Calls Tryz.prog 73 #[.int .i64 now, .slice A1 n p1, .agg #[.int .i64 g, .int .i64 c], .slice A2 m p2, .agg #[.int .i64 X.q, .int .i64 X.n, .int .i64 X.S.g, .int .i64 X.S.c, .int .i64 X.S.mn, .int .i64 X.S.mx], .agg #[.int .i64 H.id, .int .i64 H.q, .int .i64 H.u, .bool H.r, .slice H.A k H.c]] W (fun e w' => ∃ T E, e = .returned (.tuple #[.int .i64 T, .int .i64 E]) ∧ Aft now lv g c l X H T E ∧ Below W.heap.size W w') from by
  have h9 := pafter_any now A1 p1 lv g c A2 p2 l X H W (hv.keep hW hW.size) hview hl (hd.keep hW hW.size) hok hm0 hm1 hw (hF.keep hW hW.size) hHo hs g0 c0 (hT.below hW hT.size);unfold hoV hoA at h9;rw [← hn, ← hm, ← hk] at h9;exact h9)
 unfold waV waA hoV hoA;rw [← hn, ← hm, ← hk];clear hn hm hk hv hview hl hd hok hm0 hm1 hw hF hHo hs g0 c0 hT;obtain ⟨B0, hB0⟩ := nx (w.heap.size);rw [← hB0];have HB0 := Hq hB0;clear hB0;have HBel := Hq (Below.refl w.heap.size w);have hlow : w.heap.size ≤ w.heap.size := Nat.le_refl _;go_enter Tryz.func64, Tryz.ntmps64;go_wp2_with fail;obtain ⟨V1, hV1⟩ := nx (((w.alloc (.cells #[.int .i64 g, .int .i64 c] 42)).alloc (.cells #[.int .i64 X.q, .int .i64 X.n, .int .i64 X.S.g, .int .i64 X.S.c, .int .i64 X.S.mn, .int .i64 X.S.mx] 34)).alloc (.cells #[.int .i64 H.id, .int .i64 H.q, .int .i64 H.u, .bool H.r, .slice H.A k H.c] 53));rw [← hV1];have hzV1 := sz3 hV1;replace HBel := be3 hV1 HBel hlow;have B_f := Hq (new30 hV1);have B_b := Hq (new31 hV1);have B_h := Hq (new32 hV1);obtain ⟨N_f, hN_f⟩ := nx (w.heap.size);obtain ⟨N_b, hN_b⟩ := nx (w.heap.size + 1);obtain ⟨N_h, hN_h⟩ := nx (w.heap.size + 1 + 1);(try rw [← hN_h]);rw [← hN_h] at B_h;(try rw [← hN_b]);rw [← hN_b] at B_b;(try rw [← hN_f]);rw [← hN_f] at B_f;have l_f : N_f < V1.heap.size := by omega
 have l_b : N_b < V1.heap.size := by omega
 have l_h : N_h < V1.heap.size := by omega
 have g_f : w.heap.size ≤ N_f := by omega
 have g_b : w.heap.size ≤ N_b := by omega
 have g_h : w.heap.size ≤ N_h := by omega
 have d_f_b : N_f < N_b := by omega
 have d_b_h : N_b < N_h := by omega
 replace hlow : w.heap.size ≤ V1.heap.size := by omega
 clear hV1 hzV1 hN_f hN_b hN_h;refine (hA.out V1 HBel.out).mono ?_;rintro e U2 ⟨T, E, rfl, hAf, hb9⟩;have hs9 := hb9.size;have HAf := Hq hAf;clear hAf;replace HBel := bt9 HBel hb9 hlow;replace B_f := bb9 hb9 B_f l_f;replace B_b := bb9 hb9 B_b l_b;replace B_h := bb9 hb9 B_h l_h;replace l_f : N_f < U2.heap.size := by omega
 replace l_b : N_b < U2.heap.size := by omega
 replace l_h : N_h < U2.heap.size := by omega
 replace hlow : w.heap.size ≤ U2.heap.size := by omega
 clear hb9 hs9;by_cases hE0 : E = 0
 ·subst hE0;by_cases hpn : pr < now
  ·have t0 : decide (pr < now) = true := decide_eq_true hpn;have t2 : ¬ now ≤ pr := (by omega);by_cases h1 : T ≤ now
   ·have hs := Hq (show safeB now pr T 0 = true from by unfold safeB; simp [h1]);have t1 : decide (T ≤ now) = true := decide_eq_true h1;go_wp2
    go_ret2
    exact ⟨T, 0, by rw [hs.out]; first | rfl | (simp; done), HAf.out, by rw [HB0.out]; exact HBel.out⟩
   ·have hs := Hq (show safeB now pr T 0 = false from by unfold safeB; simp [h1]; omega);have t1 : decide (T ≤ now) = false := decide_eq_false h1;go_wp2
    go_ret2
    exact ⟨T, 0, by rw [hs.out]; first | rfl | (simp; done), HAf.out, by rw [HB0.out]; exact HBel.out⟩
  ·have t0 : decide (pr < now) = false := decide_eq_false hpn;have t2 : now ≤ pr := (by omega);by_cases h1 : T ≤ pr
   ·have hs := Hq (show safeB now pr T 0 = true from by unfold safeB; simp [h1]);have t1 : decide (T ≤ pr) = true := decide_eq_true h1;go_wp2
    go_ret2
    exact ⟨T, 0, by rw [hs.out]; first | rfl | (simp; done), HAf.out, by rw [HB0.out]; exact HBel.out⟩
   ·have hs := Hq (show safeB now pr T 0 = false from by unfold safeB; simp [h1]; omega);have t1 : decide (T ≤ pr) = false := decide_eq_false h1;go_wp2
    go_ret2
    exact ⟨T, 0, by rw [hs.out]; first | rfl | (simp; done), HAf.out, by rw [HB0.out]; exact HBel.out⟩
 ·have hs := Hq (show safeB now pr T E = false from by unfold safeB; simp [hE0]);have t1 : (E == 0) = false := by simp [hE0]
  go_wp2
  go_ret2
  exact ⟨T, E, by rw [hs.out]; first | rfl | (simp; done), HAf.out, by rw [HB0.out]; exact HBel.out⟩
end Go.Proofs.YtkkkhonjcbhelaaGreatDoor
