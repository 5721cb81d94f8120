import Derived.Test.YtkkkhonjcbhelaaGreatDoorProSort
import Derived.Test.YtkkkhonjcbhelaaGreatDoorProFits
import Derived.Test.YtkkkhonjcbhelaaGreatDoorProS
set_option linter.unusedVariables false
set_option maxRecDepth 100000
namespace Go.Proofs.YtkkkhonjcbhelaaGreatDoor
open Go.RowKit
open PR
theorem StepsP_side {lv : List Fe} {g c : Int} {X : Wa} {D : List Ho} {TL : List Int} {k : Nat} {R : List Ho} {lk : List Fe} {gk ck : Int} (h : StepsP lv g c X D TL k R lk gk ck) (hm : Many D) (hs : Low (sl D)) (hr : D.Pairwise fun a b => a.u ≤ b.u) (h5 : (sl D).length ≤ 100000)
  (g0 : -2147483648 ≤ g ∧ g ≤ 2147483648) (c0 : -2147483648 ≤ c ∧ c ≤ 2147483648) : Many R ∧ Low (sl R) ∧ (R.Pairwise fun a b => a.u ≤ b.u) ∧ (sl R).length ≤ 100000 ∧ (-1099511627776 ≤ gk ∧ gk ≤ 1099511627776) ∧ (-1099511627776 ≤ ck ∧ ck ≤ 1099511627776) := by
 obtain ⟨P, e1, e2, e3, e4, e5⟩ := h.ex;have hb := mine_bounds hm hs X.q P.length;have hP : D.take P.length = P := by rw [e1]; exact List.take_left
 rw [hP] at hb;subst e1;refine ⟨⟨?_, fun x hx => hm.s x (List.mem_append_right _ hx)⟩, fun s hsm => hs s (by rw [sl_app]; exact List.mem_append_right _ hsm), (List.pairwise_append.1 hr).2.1, ?_, ?_, ?_⟩
 ·have := hm.n; rw [List.length_append] at this; omega
 ·rw [sl_app, List.length_append] at h5; omega
 ·omega
 ·omega
theorem many_perm {a b : List Ho} (p : a.Perm b) (h : Many b) : Many a := ⟨by rw [p.length_eq]; exact h.n, fun x hx => h.s x (p.mem_iff.1 hx)⟩
theorem low_perm {a b : List Ho} (p : a.Perm b) (h : Low (sl b)) : Low (sl a) := fun s hs => h s ((sl_perm p).mem_iff.1 hs)
theorem low_of {lv : List Fe} {l : List Ho} (hv : View lv) (h : (turnL moreC lv (sl l)).1 = 0) (hok : ∀ x ∈ l, HoOk x) : Low (sl l) := fun s hs => by
 have h1 := turn_bounds (fun f hf => (hv.ok f hf).2.1) h s hs;unfold sl at hs;obtain ⟨x, hx, hs⟩ := List.mem_flatMap.1 hs;exact ⟨(hok x hx).ok s hs, h1⟩
set_option maxHeartbeats 8000000 in
theorem pearliest_any (now : Int) (A1 : Option Addr) (p1 : Nat) (lv : List Fe) (g c : Int) (A2 : Option Addr) (p2 : Nat) (l : List Ho) (X : Wa) (w : World) (hv : Fes w w.heap.size A1 lv) (hview : View lv) (hl : lv.length ≤ 1000)
  (hd : HosIn w w.heap.size A2 l) (hok : ∀ x ∈ l, HoOk x) (hm : Many l) (h5 : (sl l).length ≤ 100000) (hw : WaOk X) (g0 : -2147483648 ≤ g ∧ g ≤ 2147483648) (c0 : -2147483648 ≤ c ∧ c ≤ 2147483648) (hT : Tab w) :
  Calls Tryz.prog 81 #[.int .i64 now, .slice A1 lv.length p1, .agg #[.int .i64 g, .int .i64 c], .slice A2 l.length p2, waV X] w fun e w' => ∃ T E, e = .returned (.tuple #[.int .i64 T, .int .i64 E]) ∧ Earl now lv g c l X T E ∧ Below w.heap.size w w' := by
 have HT := Hq hT;obtain ⟨n, hn⟩ := nx (lv.length);obtain ⟨m, hm0⟩ : ∃ m, m = l.length := ⟨_, rfl⟩
 have hN := Hq (fun W => need_any X W hw);unfold waV waA at *;by_cases hbad : ¬ (X.ok = true ∧ 0 ≤ now ∧ now ≤ 1073741824)
 ·have HE := Hq (show Earl now lv g c l X 0 1 from .inl ⟨hbad, rfl, rfl⟩);obtain ⟨G, hG⟩ := nx (X.g);obtain ⟨C, hC⟩ := nx (X.c);rw [← hG, ← hC] at hN;rw [← hn, ← hm0]
  cases hok1 : X.ok
  ·simp only [hok1, Bool.false_eq_true, if_false] at hN;clear hbad hv hview hl hd hok hm h5 hw g0 c0 hT hn hm0 hG hC hok1;obtain ⟨B0, hB0⟩ := nx (w.heap.size);rw [← hB0];have HB0 := Hq hB0;clear hB0;have HBel := Hq (Below.refl w.heap.size w);have hlow : w.heap.size ≤ w.heap.size := Nat.le_refl _;go_enter Tryz.func81, Tryz.ntmps81;go_wp2_with fail;obtain ⟨V1, hV1⟩ := nx ((w.alloc (.cells #[.int .i64 g, .int .i64 c] 42)).alloc (.cells #[.int .i64 X.q, .int .i64 X.n, .int .i64 X.S.g, .int .i64 X.S.c, .int .i64 X.S.mn, .int .i64 X.S.mx] 34));rw [← hV1];have hzV1 := sz2 hV1;replace HBel := be2 hV1 HBel hlow;have B_f := Hq (new20 hV1);have B_b := Hq (new21 hV1);obtain ⟨N_f, hN_f⟩ := nx (w.heap.size);obtain ⟨N_b, hN_b⟩ := nx (w.heap.size + 1);(try rw [← hN_b]);rw [← hN_b] at B_b;(try rw [← hN_f]);rw [← hN_f] at B_f;have l_f : N_f < V1.heap.size := (by omega);have l_b : N_b < V1.heap.size := (by omega);have g_f : w.heap.size ≤ N_f := (by omega);have g_b : w.heap.size ≤ N_b := (by omega);have d_f_b : N_f < N_b := (by omega);replace hlow : w.heap.size ≤ V1.heap.size := (by omega);clear hV1 hzV1 hN_f hN_b;refine (hN.out V1).mono ?_;rintro e U2 ⟨rfl, hb9⟩;have hs9 := hb9.size;replace HBel := bt9 HBel hb9 hlow;replace B_f := bb9 hb9 B_f l_f;replace B_b := bb9 hb9 B_b l_b;replace l_f : N_f < U2.heap.size := (by omega);replace l_b : N_b < U2.heap.size := (by omega);replace hlow : w.heap.size ≤ U2.heap.size := (by omega);clear hb9 hs9;go_wp2;obtain ⟨V3, hV3⟩ := nx (U2.alloc (.cells #[.int .i64 G, .int .i64 C] 42));rw [← hV3];have hzV3 := sz1 hV3;replace HBel := be1 hV3 HBel hlow;replace B_f := bk1 hV3 B_f l_f;replace B_b := bk1 hV3 B_b l_b;have B_u := Hq (new10 hV3);obtain ⟨N_u, hN_u⟩ := nx (U2.heap.size);(try rw [← hN_u]);rw [← hN_u] at B_u;have d_f_u : N_f < N_u := (by omega);have d_b_u : N_b < N_u := (by omega);replace l_f : N_f < V3.heap.size := (by omega);replace l_b : N_b < V3.heap.size := (by omega);have l_u : N_u < V3.heap.size := (by omega);have g_u : w.heap.size ≤ N_u := (by omega);replace hlow : w.heap.size ≤ V3.heap.size := (by omega);clear hV3 hzV3 hN_u
   go_ret2
   exact ⟨0, 1, rfl, HE.out, by rw [HB0.out]; exact HBel.out⟩
  ·simp only [hok1, if_true] at hN;by_cases hn0 : now < 0
   ·have t1 : decide (now < 0) = true := decide_eq_true hn0;clear hbad hv hview hl hd hok hm h5 hw g0 c0 hT hn hm0 hG hC hok1 hn0;obtain ⟨B0, hB0⟩ := nx (w.heap.size);rw [← hB0];have HB0 := Hq hB0;clear hB0;have HBel := Hq (Below.refl w.heap.size w);have hlow : w.heap.size ≤ w.heap.size := Nat.le_refl _;go_enter Tryz.func81, Tryz.ntmps81;go_wp2_with fail;obtain ⟨V1, hV1⟩ := nx ((w.alloc (.cells #[.int .i64 g, .int .i64 c] 42)).alloc (.cells #[.int .i64 X.q, .int .i64 X.n, .int .i64 X.S.g, .int .i64 X.S.c, .int .i64 X.S.mn, .int .i64 X.S.mx] 34));rw [← hV1];have hzV1 := sz2 hV1;replace HBel := be2 hV1 HBel hlow;have B_f := Hq (new20 hV1);have B_b := Hq (new21 hV1);obtain ⟨N_f, hN_f⟩ := nx (w.heap.size);obtain ⟨N_b, hN_b⟩ := nx (w.heap.size + 1);(try rw [← hN_b]);rw [← hN_b] at B_b;(try rw [← hN_f]);rw [← hN_f] at B_f;have l_f : N_f < V1.heap.size := (by omega);have l_b : N_b < V1.heap.size := (by omega);have g_f : w.heap.size ≤ N_f := (by omega);have g_b : w.heap.size ≤ N_b := (by omega);have d_f_b : N_f < N_b := (by omega);replace hlow : w.heap.size ≤ V1.heap.size := (by omega);clear hV1 hzV1 hN_f hN_b;refine (hN.out V1).mono ?_;rintro e U2 ⟨rfl, hb9⟩;have hs9 := hb9.size;replace HBel := bt9 HBel hb9 hlow;replace B_f := bb9 hb9 B_f l_f;replace B_b := bb9 hb9 B_b l_b;replace l_f : N_f < U2.heap.size := (by omega);replace l_b : N_b < U2.heap.size := (by omega);replace hlow : w.heap.size ≤ U2.heap.size := (by omega);clear hb9 hs9;go_wp2;obtain ⟨V3, hV3⟩ := nx (U2.alloc (.cells #[.int .i64 G, .int .i64 C] 42));rw [← hV3];have hzV3 := sz1 hV3;replace HBel := be1 hV3 HBel hlow;replace B_f := bk1 hV3 B_f l_f;replace B_b := bk1 hV3 B_b l_b;have B_u := Hq (new10 hV3);obtain ⟨N_u, hN_u⟩ := nx (U2.heap.size);(try rw [← hN_u]);rw [← hN_u] at B_u;have d_f_u : N_f < N_u := (by omega);have d_b_u : N_b < N_u := (by omega);replace l_f : N_f < V3.heap.size := (by omega);replace l_b : N_b < V3.heap.size := (by omega);have l_u : N_u < V3.heap.size := (by omega);have g_u : w.heap.size ≤ N_u := (by omega);replace hlow : w.heap.size ≤ V3.heap.size := (by omega);clear hV3 hzV3 hN_u
    go_ret2
    exact ⟨0, 1, rfl, HE.out, by rw [HB0.out]; exact HBel.out⟩
   ·have t1 : decide (now < 0) = false := decide_eq_false hn0;have t2 : decide (1073741824 < now) = true := decide_eq_true (by
     by_cases h9 : 1073741824 < now
     ·exact h9
     ·exact absurd ⟨hok1, by omega, by omega⟩ hbad)
    clear hbad hv hview hl hd hok hm h5 hw g0 c0 hT hn hm0 hG hC hok1 hn0;obtain ⟨B0, hB0⟩ := nx (w.heap.size);rw [← hB0];have HB0 := Hq hB0;clear hB0;have HBel := Hq (Below.refl w.heap.size w);have hlow : w.heap.size ≤ w.heap.size := Nat.le_refl _;go_enter Tryz.func81, Tryz.ntmps81;go_wp2_with fail;obtain ⟨V1, hV1⟩ := nx ((w.alloc (.cells #[.int .i64 g, .int .i64 c] 42)).alloc (.cells #[.int .i64 X.q, .int .i64 X.n, .int .i64 X.S.g, .int .i64 X.S.c, .int .i64 X.S.mn, .int .i64 X.S.mx] 34));rw [← hV1];have hzV1 := sz2 hV1;replace HBel := be2 hV1 HBel hlow;have B_f := Hq (new20 hV1);have B_b := Hq (new21 hV1);obtain ⟨N_f, hN_f⟩ := nx (w.heap.size);obtain ⟨N_b, hN_b⟩ := nx (w.heap.size + 1);(try rw [← hN_b]);rw [← hN_b] at B_b;(try rw [← hN_f]);rw [← hN_f] at B_f;have l_f : N_f < V1.heap.size := (by omega);have l_b : N_b < V1.heap.size := (by omega);have g_f : w.heap.size ≤ N_f := (by omega);have g_b : w.heap.size ≤ N_b := (by omega);have d_f_b : N_f < N_b := (by omega);replace hlow : w.heap.size ≤ V1.heap.size := (by omega);clear hV1 hzV1 hN_f hN_b;refine (hN.out V1).mono ?_;rintro e U2 ⟨rfl, hb9⟩;have hs9 := hb9.size;replace HBel := bt9 HBel hb9 hlow;replace B_f := bb9 hb9 B_f l_f;replace B_b := bb9 hb9 B_b l_b;replace l_f : N_f < U2.heap.size := (by omega);replace l_b : N_b < U2.heap.size := (by omega);replace hlow : w.heap.size ≤ U2.heap.size := (by omega);clear hb9 hs9;go_wp2;obtain ⟨V3, hV3⟩ := nx (U2.alloc (.cells #[.int .i64 G, .int .i64 C] 42));rw [← hV3];have hzV3 := sz1 hV3;replace HBel := be1 hV3 HBel hlow;replace B_f := bk1 hV3 B_f l_f;replace B_b := bk1 hV3 B_b l_b;have B_u := Hq (new10 hV3);obtain ⟨N_u, hN_u⟩ := nx (U2.heap.size);(try rw [← hN_u]);rw [← hN_u] at B_u;have d_f_u : N_f < N_u := (by omega);have d_b_u : N_b < N_u := (by omega);replace l_f : N_f < V3.heap.size := (by omega);replace l_b : N_b < V3.heap.size := (by omega);have l_u : N_u < V3.heap.size := (by omega);have g_u : w.heap.size ≤ N_u := (by omega);replace hlow : w.heap.size ≤ V3.heap.size := (by omega);clear hV3 hzV3 hN_u
    go_ret2
    exact ⟨0, 1, rfl, HE.out, by rw [HB0.out]; exact HBel.out⟩
 have hgood : X.ok = true ∧ 0 ≤ now ∧ now ≤ 1073741824 := Classical.not_not.1 hbad;have t1 : decide (now < 0) = false := decide_eq_false (by omega);have t2 : decide (1073741824 < now) = false := decide_eq_false (by omega);simp only [hgood.1, if_true] at hN;obtain ⟨G, hG⟩ := nx (X.g);obtain ⟨C, hC⟩ := nx (X.c);rw [← hG, ← hC] at hN;obtain ⟨ss, hss⟩ := nx (sl l);obtain ⟨u, hu⟩ := nx (ss.length);obtain ⟨E2, hE2⟩ := nx ((turnL moreC lv (sl l)).1);have hSl := Hq (fun W (hW : Below w.heap.size w W) => show Calls Tryz.prog 95 #[.slice A2 m p2] W (fun e w' => ∃ A' c', e = .returned (.slice A' u c') ∧ Fes w' w'.heap.size A' ss ∧ Below W.heap.size W w') from by
  have h9 := slotsOf_any A2 p2 l W (hd.keep hW hW.size) hm;rw [← hm0, ← hss, ← hu] at h9;exact h9)
 have hMo := Hq (fun (A5 : Option Addr) (c5 : Nat) W (h1 : Fes W W.heap.size A5 ss) (hW : Below w.heap.size w W) => show Calls Tryz.prog 94 #[.slice A1 n p1, .slice A5 u c5] W (fun e w' => ∃ V, e = .returned (.tuple #[V, .int .i64 E2]) ∧ Below W.heap.size W w') from by
  have h9 := pmore_any A1 p1 lv A5 c5 ss W (hv.keep hW hW.size) hview (by omega) h1 (fun s hsm => by
   rw [hss] at hsm;unfold sl at hsm;obtain ⟨x, hx, hs⟩ := List.mem_flatMap.1 hsm;exact (hok x hx).ok s hs) (by rw [hss]; exact h5)
  rw [← hn, ← hu] at h9;refine h9.mono ?_;rintro e w' ⟨hb, A', c', _, rfl⟩;exact ⟨_, by rw [hE2, hss], hb⟩)
 rw [← hn, ← hm0];by_cases hE0 : E2 ≠ 0
 ·have HE := Hq (show Earl now lv g c l X 0 E2 from .inr ⟨hgood, .inl ⟨by rw [← hE2]; exact hE0, rfl, hE2⟩⟩);have t3 : (E2 != 0) = true := by simpa using hE0
  clear hbad hgood hv hview hl hd hok hm h5 hw g0 c0 hT hn hm0 hG hC hss hu hE2 hE0;obtain ⟨B0, hB0⟩ := nx (w.heap.size);rw [← hB0];have HB0 := Hq hB0;clear hB0;have HBel := Hq (Below.refl w.heap.size w);have hlow : w.heap.size ≤ w.heap.size := Nat.le_refl _;go_enter Tryz.func81, Tryz.ntmps81;go_wp2_with fail;obtain ⟨V1, hV1⟩ := nx ((w.alloc (.cells #[.int .i64 g, .int .i64 c] 42)).alloc (.cells #[.int .i64 X.q, .int .i64 X.n, .int .i64 X.S.g, .int .i64 X.S.c, .int .i64 X.S.mn, .int .i64 X.S.mx] 34));rw [← hV1];have hzV1 := sz2 hV1;replace HBel := be2 hV1 HBel hlow;have B_f := Hq (new20 hV1);have B_b := Hq (new21 hV1);obtain ⟨N_f, hN_f⟩ := nx (w.heap.size);obtain ⟨N_b, hN_b⟩ := nx (w.heap.size + 1);(try rw [← hN_b]);rw [← hN_b] at B_b;(try rw [← hN_f]);rw [← hN_f] at B_f;have l_f : N_f < V1.heap.size := by omega
  have l_b : N_b < V1.heap.size := by omega
  have g_f : w.heap.size ≤ N_f := by omega
  have g_b : w.heap.size ≤ N_b := by omega
  have d_f_b : N_f < N_b := by omega
  replace hlow : w.heap.size ≤ V1.heap.size := by omega
  clear hV1 hzV1 hN_f hN_b;refine (hN.out V1).mono ?_;rintro e U2 ⟨rfl, hb9⟩;have hs9 := hb9.size;replace HBel := bt9 HBel hb9 hlow;replace B_f := bb9 hb9 B_f l_f;replace B_b := bb9 hb9 B_b l_b;replace l_f : N_f < U2.heap.size := by omega
  replace l_b : N_b < U2.heap.size := by omega
  replace hlow : w.heap.size ≤ U2.heap.size := by omega
  clear hb9 hs9;go_wp2_with fail;obtain ⟨V3, hV3⟩ := nx (U2.alloc (.cells #[.int .i64 G, .int .i64 C] 42));rw [← hV3];have hzV3 := sz1 hV3;replace HBel := be1 hV3 HBel hlow;replace B_f := bk1 hV3 B_f l_f;replace B_b := bk1 hV3 B_b l_b;have B_u := Hq (new10 hV3);obtain ⟨N_u, hN_u⟩ := nx (U2.heap.size);(try rw [← hN_u]);rw [← hN_u] at B_u;have d_f_u : N_f < N_u := by omega
  have d_b_u : N_b < N_u := by omega
  replace l_f : N_f < V3.heap.size := by omega
  replace l_b : N_b < V3.heap.size := by omega
  have l_u : N_u < V3.heap.size := by omega
  have g_u : w.heap.size ≤ N_u := by omega
  replace hlow : w.heap.size ≤ V3.heap.size := by omega
  clear hV3 hzV3 hN_u;refine (hSl.out V3 HBel.out).mono ?_;rintro e U4 ⟨A5, c5, rfl, hF5, hb9⟩;have hs9 := hb9.size;replace HBel := bt9 HBel hb9 hlow;replace B_f := bb9 hb9 B_f l_f;replace B_b := bb9 hb9 B_b l_b;replace B_u := bb9 hb9 B_u l_u;replace l_f : N_f < U4.heap.size := by omega
  replace l_b : N_b < U4.heap.size := by omega
  replace l_u : N_u < U4.heap.size := by omega
  replace hlow : w.heap.size ≤ U4.heap.size := by omega
  clear hb9 hs9;go_wp2_with fail;refine (hMo.out A5 c5 U4 hF5 HBel.out).mono ?_;rintro e U5 ⟨V9, rfl, hb9⟩;have hs9 := hb9.size;replace HBel := bt9 HBel hb9 hlow;replace B_f := bb9 hb9 B_f l_f;replace B_b := bb9 hb9 B_b l_b;replace B_u := bb9 hb9 B_u l_u;replace l_f : N_f < U5.heap.size := by omega
  replace l_b : N_b < U5.heap.size := by omega
  replace l_u : N_u < U5.heap.size := by omega
  replace hlow : w.heap.size ≤ U5.heap.size := by omega
  clear hb9 hs9;clear hF5;go_wp2
  go_ret2
  exact ⟨0, E2, rfl, HE.out, by rw [HB0.out]; exact HBel.out⟩
 obtain rfl : E2 = 0 := Classical.not_not.1 hE0;have hlow2 := low_of hview hE2.symm hok;have hBy := Hq (fun W (hW : Below w.heap.size w W) => show Calls Tryz.prog 96 #[.slice A2 m p2] W (fun e w' => ∃ A' c' D, e = .returned (.slice A' m c') ∧ Hos w' w'.heap.size A' D ∧ D.Perm l ∧ (D.Pairwise fun a b => a.u ≤ b.u) ∧ Below W.heap.size W w' ∧ m ≤ c') from by
  have h9 := byEnd_any A2 p2 l W (hd.keep hW hW.size).at_ hm.n hok;rw [← hm0] at h9;exact h9)
 have hFi := Hq (fun (A6 : Option Addr) (c6 : Nat) (lk : List Fe) (gk ck : Int) W (h1 : Fes W W.heap.size A6 lk) (h2 : View lk) (h3 : lk.length = n) (hW : Below w.heap.size w W) => show Calls Tryz.prog 99 #[.slice A6 n c6, .agg #[.int .i64 gk, .int .i64 ck], .agg #[.int .i64 X.q, .int .i64 X.n, .int .i64 X.S.g, .int .i64 X.S.c, .int .i64 X.S.mn, .int .i64 X.S.mx]] W (fun e w' => e = .returned (.bool (PR.fits lk gk ck X)) ∧ Below W.heap.size W w') from by
  have h9 := pfits_any A6 c6 W.heap.size lk gk ck X W h1 (Nat.le_refl _) (by omega) (fun f hf => (h2.ok f hf).1) hw (hT.below hW hT.size);rw [h3] at h9;exact h9)
 have HG := Hq (Ai hgood (Ai hE2 (Ai hlow2 (Ai hm (Ai h5 (Ai hl (Ai hview (Ai hv (Ai hd (Ai hn hm0))))))))));have hn1 : n ≤ 1000 := by omega
 clear hbad hgood hv hview hl hd hok hm h5 hw hT hn hm0 hG hC hss hu hE2 hE0 hlow2;obtain ⟨B0, hB0⟩ := nx (w.heap.size);rw [← hB0];have HB0 := Hq hB0;clear hB0;have HBel := Hq (Below.refl w.heap.size w);have hlow : w.heap.size ≤ w.heap.size := Nat.le_refl _;go_enter Tryz.func81, Tryz.ntmps81;go_wp2_with fail;obtain ⟨V1, hV1⟩ := nx ((w.alloc (.cells #[.int .i64 g, .int .i64 c] 42)).alloc (.cells #[.int .i64 X.q, .int .i64 X.n, .int .i64 X.S.g, .int .i64 X.S.c, .int .i64 X.S.mn, .int .i64 X.S.mx] 34));rw [← hV1];have hzV1 := sz2 hV1;replace HBel := be2 hV1 HBel hlow;have B_f := Hq (new20 hV1);have B_b := Hq (new21 hV1);obtain ⟨N_f, hN_f⟩ := nx (w.heap.size);obtain ⟨N_b, hN_b⟩ := nx (w.heap.size + 1);(try rw [← hN_b]);rw [← hN_b] at B_b;(try rw [← hN_f]);rw [← hN_f] at B_f;have l_f : N_f < V1.heap.size := by omega
 have l_b : N_b < V1.heap.size := by omega
 have g_f : w.heap.size ≤ N_f := by omega
 have g_b : w.heap.size ≤ N_b := by omega
 have d_f_b : N_f < N_b := by omega
 replace hlow : w.heap.size ≤ V1.heap.size := by omega
 clear hV1 hzV1 hN_f hN_b;refine (hN.out V1).mono ?_;rintro e U2 ⟨rfl, hb9⟩;have hs9 := hb9.size;replace HBel := bt9 HBel hb9 hlow;replace B_f := bb9 hb9 B_f l_f;replace B_b := bb9 hb9 B_b l_b;replace l_f : N_f < U2.heap.size := by omega
 replace l_b : N_b < U2.heap.size := by omega
 replace hlow : w.heap.size ≤ U2.heap.size := by omega
 clear hb9 hs9;go_wp2_with fail;obtain ⟨V3, hV3⟩ := nx (U2.alloc (.cells #[.int .i64 G, .int .i64 C] 42));rw [← hV3];have hzV3 := sz1 hV3;replace HBel := be1 hV3 HBel hlow;replace B_f := bk1 hV3 B_f l_f;replace B_b := bk1 hV3 B_b l_b;have B_u := Hq (new10 hV3);obtain ⟨N_u, hN_u⟩ := nx (U2.heap.size);(try rw [← hN_u]);rw [← hN_u] at B_u;have d_f_u : N_f < N_u := by omega
 have d_b_u : N_b < N_u := by omega
 replace l_f : N_f < V3.heap.size := by omega
 replace l_b : N_b < V3.heap.size := by omega
 have l_u : N_u < V3.heap.size := by omega
 have g_u : w.heap.size ≤ N_u := by omega
 replace hlow : w.heap.size ≤ V3.heap.size := by omega
 clear hV3 hzV3 hN_u;refine (hSl.out V3 HBel.out).mono ?_;rintro e U4 ⟨A5, c5, rfl, hF5, hb9⟩;have hs9 := hb9.size;replace HBel := bt9 HBel hb9 hlow;replace B_f := bb9 hb9 B_f l_f;replace B_b := bb9 hb9 B_b l_b;replace B_u := bb9 hb9 B_u l_u;replace l_f : N_f < U4.heap.size := by omega
 replace l_b : N_b < U4.heap.size := by omega
 replace l_u : N_u < U4.heap.size := by omega
 replace hlow : w.heap.size ≤ U4.heap.size := by omega
 clear hb9 hs9;go_wp2_with fail;refine (hMo.out A5 c5 U4 hF5 HBel.out).mono ?_;rintro e U5 ⟨V9, rfl, hb9⟩;have hs9 := hb9.size;replace HBel := bt9 HBel hb9 hlow;replace B_f := bb9 hb9 B_f l_f;replace B_b := bb9 hb9 B_b l_b;replace B_u := bb9 hb9 B_u l_u;replace l_f : N_f < U5.heap.size := by omega
 replace l_b : N_b < U5.heap.size := by omega
 replace l_u : N_u < U5.heap.size := by omega
 replace hlow : w.heap.size ≤ U5.heap.size := by omega
 clear hb9 hs9;clear hF5;go_wp2_with fail;refine (hBy.out U5 HBel.out).mono ?_;rintro e U6 ⟨A7, c7, D, rfl, hD7, hPm, hSo, hb9, hc7⟩;have hs9 := hb9.size;replace HBel := bt9 HBel hb9 hlow;replace B_f := bb9 hb9 B_f l_f;replace B_b := bb9 hb9 B_b l_b;replace B_u := bb9 hb9 B_u l_u;replace l_f : N_f < U6.heap.size := by omega
 replace l_b : N_b < U6.heap.size := by omega
 replace l_u : N_u < U6.heap.size := by omega
 replace hlow : w.heap.size ≤ U6.heap.size := by omega
 clear hb9 hs9;obtain ⟨f0, f1⟩ := cells2 B_f.out;obtain ⟨b0, b1, b2, b3, b4, b5⟩ := cells6 B_b.out;have hDl : D.length = m := by rw [hPm.length_eq]; exact HG.out.2.2.2.2.2.2.2.2.2.2.symm
 have hDin : HosIn U6 U6.heap.size A7 D := ⟨hD7, fun x hx => (HG.out.2.2.2.2.2.2.2.2.1.sl x (hPm.mem_iff.1 hx)).keep HBel.out HBel.out.size⟩
 have hIn := Hq (show Calls Tryz.prog 97 #[.slice A1 n p1, .agg #[.int .i64 g, .int .i64 c], .slice A7 m c7, .int .i64 X.q] U6 (fun e w' => e = .returned (.func (.func 110) #[] #[.pointer (some ⟨U6.heap.size + 2, 0, none⟩), .pointer (some ⟨U6.heap.size, 0, none⟩), .pointer (some ⟨U6.heap.size + 1, 0, none⟩), .pointer (some ⟨U6.heap.size + 3, 0, none⟩)]) ∧ StepAt w' U6.heap.size U6.heap.size lv g c D X.q ∧ Below U6.heap.size U6 w' ∧ U6.heap.size + 4 ≤ w'.heap.size) from by
  have h9 := insteps_any A1 p1 lv g c A7 c7 D X.q U6 (HG.out.2.2.2.2.2.2.2.1.keep HBel.out HBel.out.size) HG.out.2.2.2.2.2.2.1 hDin (by rw [hDl]; exact hc7);rw [← HG.out.2.2.2.2.2.2.2.2.2.1, hDl] at h9;exact h9)
 have HD7 := Hq (Ai hDin (Ai hPm (Ai hSo hDl)));clear hD7 hPm hSo hDin hDl hc7;obtain ⟨S, hS⟩ := nx (U6.heap.size);rw [← hS] at hIn;have hSb : N_b < S := by omega
 have hS0 : w.heap.size ≤ S := by omega
 go_wp2_with fail;refine (hIn.out).mono ?_;rintro e U7 ⟨rfl, hSt, hb9, hs4⟩;clear f0 f1 b0 b1 b2 b3 b4 b5;have hs9 := hb9.size;rw [hS] at hb9;have hTk := Hq (ticks_any now A7 c7 D U7 (HD7.out.1.keep hb9 hb9.size).at_ (by rw [HD7.out.2.1.length_eq]; exact HG.out.2.2.2.1.n));rw [HD7.out.2.2.2] at hTk;have hSt1 := Hq hSt;replace HBel := bt9 HBel hb9 hlow;replace B_f := bb9 hb9 B_f l_f;replace B_b := bb9 hb9 B_b l_b;replace B_u := bb9 hb9 B_u l_u;replace l_f : N_f < U7.heap.size := by omega
 replace l_b : N_b < U7.heap.size := by omega
 replace l_u : N_u < U7.heap.size := by omega
 replace hlow : w.heap.size ≤ U7.heap.size := by omega
 clear hb9 hs9;clear hIn hSt hS;obtain ⟨p, hp⟩ := nx ((ticksL now D).length);rw [← hp] at hTk;go_wp2_with fail;refine (hTk.out).mono ?_;rintro e U8 ⟨Gk, cpk, rfl, hRow, hb9, hG0, hG1⟩;have hs9 := hb9.size;have hSt2 := Hq (hSt1.out.below hb9);replace HBel := bt9 HBel hb9 hlow;replace B_f := bb9 hb9 B_f l_f;replace B_b := bb9 hb9 B_b l_b;replace B_u := bb9 hb9 B_u l_u;replace l_f : N_f < U8.heap.size := by omega
 replace l_b : N_b < U8.heap.size := by omega
 replace l_u : N_u < U8.heap.size := by omega
 replace hlow : w.heap.size ≤ U8.heap.size := by omega
 clear hb9 hs9;have hGS : S + 4 ≤ Gk := by omega
 have HRow := Hq hRow;have HPt := Hq hp;have hpb : p ≤ 2000 := by have h8 := ticks_len D (L := [now]); have h9 := HD7.out.2.1.length_eq; have h7 := HG.out.2.2.2.1.n; rw [hp]; unfold ticksL; simp only [List.length_cons, List.length_nil] at h8; omega
 clear hTk hSt1 hRow hp hG0 hs4 hBy hSl hMo hN l_u l_f B_f B_u;go_wp2;go_loopw [59] (fun i wr => ∃ (k : Nat) (R : List Ho) (lk : List Fe) (gk ck : Int), i = .int .i64 k ∧ k ≤ p ∧ Gk < wr.heap.size ∧ S < wr.heap.size ∧ Hid (Below w.heap.size w wr) ∧ Hid (wr.heap[N_b]? = some (.cells #[.int .i64 X.q, .int .i64 X.n, .int .i64 X.S.g, .int .i64 X.S.c, .int .i64 X.S.mn, .int .i64 X.S.mx] 34 (0, 0))) ∧ Hid (StepAt wr S S lk gk ck R X.q ∧ lk.length = n) ∧ Hid (StepsP lv g c X D (ticksL now D) k R lk gk ck) ∧ Hid (∀ (i : Nat) (x : Int), (ticksL now D)[i]? = some x → wr.cell? ⟨Gk, i, none⟩ = some (.int .i64 x))) (fun i _ => p - (intOf i).toNat)
 case atStart => exact ⟨0, D, lv, g, c, rfl, by omega, hG1, by omega, HBel, B_b, Hq ⟨hSt2.out, HG.out.2.2.2.2.2.2.2.2.2.1.symm⟩, Hq (StepsP.start lv g c X D _), HRow⟩
 case round =>
  clear HBel B_b hSt2 HRow hG1 hlow l_b;obtain ⟨k, R, lk, gk, ck, rfl, hk, hGw, hSw, hBw, hBb, hSt, hSp, hRw⟩ := hrel;have hBs := hBw.out.size;obtain ⟨hgood, hE2, hlow2, hm, h5, hl, hview, hv, hd, hn, hm0⟩ := HG.out;have hmD := many_perm HD7.out.2.1 hm;have hlD := low_perm HD7.out.2.1 hlow2;have h0D : (turnL moreC lv (sl D)).1 = 0 := by rw [turn_perm (sl_perm HD7.out.2.1).symm hE2.symm]; exact hE2.symm
  have h5D : (sl D).length ≤ 100000 := by rw [(sl_perm HD7.out.2.1).length_eq]; exact h5
  by_cases hlt : k < p
  ·have t3 : decide (k < p) = true := decide_eq_true hlt;obtain ⟨T, hTk⟩ := get_lt (l := ticksL now D) (k := k) (by rw [← HPt.out]; exact hlt);have cT := hRw.out k T hTk;have hri := ticks_all (now := now) HD7.out.2.2.1;obtain ⟨s1, s2, s3, s4, s5, s6⟩ := StepsP_side hSp.out hmD hlD HD7.out.2.2.1 h5D g0 c0;obtain ⟨x1, x2, x3⟩ := hSp.out.next h0D HD7.out.2.2.1 hri.rise hTk;have hCl := Hq (steps_cl S S lk gk ck R X.q T wr hSt.out.1 (by have := hSt.out.2; omega) s1 s2 s3 s4 x1 s5 s6);rw [hSt.out.2] at hCl;obtain ⟨lk2, hlk2⟩ := nx ((turnL moreC lk (sl (over R T))).2);obtain ⟨gk2, hgk2⟩ := nx (gk + gs (mine (over R T) X.q));obtain ⟨ck2, hck2⟩ := nx (ck + cs (mine (over R T) X.q));obtain ⟨R2, hR2⟩ := nx (R.drop (over R T).length);rw [← hlk2, ← hgk2, ← hck2, ← hR2] at hCl x3;rw [← hlk2, ← hgk2, ← hck2] at x2;have hHit := fun h => hSp.out.hit hri hTk h
   have HX := Hq (Ai x2 (Ai x3 (Ai hHit hgood)));have HPm := Hq (Ai (fun t => at_perm (g := g) (c := c) (X := X) HD7.out.2.1 hE2.symm t) (Ai (fun x => cand_perm (now := now) HD7.out.2.1 x) hE2.symm));clear s1 s2 s3 s4 s5 s6 x1 x2 x3 hri hHit hlk2 hgk2 hck2 hR2 hTk hgood hE2 hlow2 hm h5 hl hview hv hd hn hm0 hmD hlD h0D h5D;go_wp2_with fail;refine hCl.out.mono ?_;rintro e w5 ⟨A6, c6, rfl, hF6, hl6, hSt6, hFt6⟩;have hs5 := hFt6.size;have hB5 : Hid (Below w.heap.size w w5) := Hq (hBw.out.trans (hFt6.below hBs (fun i hi => by have hi : S ≤ i ∧ i ≤ S + 2 := hi; omega)));have hBb5 := (hFt6.block N_b (by omega) (fun hi => by have hi : S ≤ N_b ∧ N_b ≤ S + 2 := hi; omega)).trans hBb.out;have hRw5 : Hid (∀ (i : Nat) (x : Int), (ticksL now D)[i]? = some x → w5.cell? ⟨Gk, i, none⟩ = some (.int .i64 x)) := Hq (fun i x hx => (hFt6.cell (p := ⟨Gk, i, none⟩) hGw (fun hi => by have hi : S ≤ Gk ∧ Gk ≤ S + 2 := hi; omega)).trans (hRw.out i x hx));obtain ⟨V, hV⟩ := nx (w5.alloc (.cells #[.int .i64 gk2, .int .i64 ck2] 42));have HV := Hq hV;have hb9 : Below w5.heap.size w5 V := by rw [hV]; exact (Below.refl _ _).alloc (Nat.le_refl _) _
   have hVs : V.heap.size = w5.heap.size + 1 := by rw [hV]; simp
   have hBV : Hid (Below w.heap.size w V) := Hq (by rw [hV]; exact hB5.out.alloc hB5.out.size _);have hBbV : Hid (V.heap[N_b]? = some (.cells #[.int .i64 X.q, .int .i64 X.n, .int .i64 X.S.g, .int .i64 X.S.c, .int .i64 X.S.mn, .int .i64 X.S.mx] 34 (0, 0))) := Hq ((hb9.block N_b (by omega)).trans hBb5);have hStV : Hid (StepAt V S S lk2 gk2 ck2 R2 X.q ∧ lk2.length = n) := Hq ⟨hSt6.below hb9, by have := hl6; omega⟩;have hRwV : Hid (∀ (i : Nat) (x : Int), (ticksL now D)[i]? = some x → V.cell? ⟨Gk, i, none⟩ = some (.int .i64 x)) := Hq (fun i x hx => (hb9.cell (p := ⟨Gk, i, none⟩) (by show Gk < _; omega)).trans (hRw5.out i x hx));have hFiV := Hq (hFi.out A6 c6 lk2 gk2 ck2 V (hF6.keep hb9 hb9.size) hSt6.view (by have := hl6; omega) hBV.out);rw [HX.out.1] at hFiV;obtain ⟨b0, b1, b2, b3, b4, b5⟩ := cells6 hBb5;have lb5 : N_b < w5.heap.size := (by omega);clear hCl hF6 hl6 hSt6 hFt6 hBb5 hRw5 hB5 hV hb9 hRw hSt hSp hBb hBw cT;go_wp2_with fail;rw [← HV.out];clear b0 b1 b2 b3 b4 b5 HV
   cases hat : at_ lv g c D X T
   ·rw [hat] at hFiV;have HN := Hq (HX.out.2.1 hat);clear hat;refine hFiV.out.mono ?_;rintro e w6 ⟨rfl, hb6⟩;have hs6 := hb6.size;have hB6 : Hid (Below w.heap.size w w6) := Hq (hBV.out.trans (hb6.mono hBV.out.size));have hBb6 : Hid (w6.heap[N_b]? = some (.cells #[.int .i64 X.q, .int .i64 X.n, .int .i64 X.S.g, .int .i64 X.S.c, .int .i64 X.S.mn, .int .i64 X.S.mx] 34 (0, 0))) := Hq ((hb6.block N_b (by omega)).trans hBbV.out);have hSt6 : Hid (StepAt w6 S S lk2 gk2 ck2 R2 X.q ∧ lk2.length = n) := Hq ⟨hStV.out.1.below hb6, hStV.out.2⟩;have hRw6 : Hid (∀ (i : Nat) (x : Int), (ticksL now D)[i]? = some x → w6.cell? ⟨Gk, i, none⟩ = some (.int .i64 x)) := Hq (fun i x hx => (hb6.cell (p := ⟨Gk, i, none⟩) (by show Gk < _; omega)).trans (hRwV.out i x hx));clear hb6 hBV hBbV hStV hRwV hFiV;go_wp2
    go_roundw
    case rel => exact ⟨k + 1, R2, lk2, gk2, ck2, by go_num, by omega, by omega, by omega, hB6, hBb6, hSt6, HN, hRw6⟩
    case measure => simp [intOf]; omega
   ·rw [hat] at hFiV;have HN := Hq (show Earl now lv g c l X T 0 from .inr ⟨HX.out.2.2.2, .inr ⟨HPm.out.2.2, rfl, (HX.out.2.2.1 hat).ext (fun x => (HPm.out.2.1 x).symm) (fun x => (HPm.out.1 x).symm)⟩⟩);clear hat;refine hFiV.out.mono ?_;rintro e w6 ⟨rfl, hb6⟩;have hB6 : Hid (Below w.heap.size w w6) := Hq (hBV.out.trans (hb6.mono hBV.out.size));clear hb6 hBV hBbV hStV hRwV hFiV;go_wp2
    go_ret2
    exact ⟨T, 0, rfl, HN.out, by rw [HB0.out]; exact hB6.out⟩
  ·obtain rfl : k = p := by omega
   have t3 : decide (k < k) = false := (by simp);have hri := ticks_all (now := now) HD7.out.2.2.1;have hsp := hSp.out;rw [HPt.out] at hsp;have HN := Hq (show Earl now lv g c l X 1073741825 0 from .inr ⟨hgood, .inr ⟨hE2.symm, rfl, (hsp.none_ hri).ext (fun x => (cand_perm HD7.out.2.1 x).symm) (fun x => (at_perm HD7.out.2.1 hE2.symm x).symm)⟩⟩);clear hri hsp hgood hE2 hlow2 hm h5 hl hview hv hd hn hm0 hmD hlD h0D h5D hlt;go_wp2
   go_ret2
   exact ⟨1073741825, 0, rfl, HN.out, by rw [HB0.out]; exact hBw.out⟩
end Go.Proofs.YtkkkhonjcbhelaaGreatDoor
