import Derived.Test.YtkkkhonjcbhelaaGreatDoorProRefB
set_option linter.unusedVariables false
set_option maxRecDepth 100000
namespace Go.Proofs.YtkkkhonjcbhelaaGreatDoor
open Go.RowKit
open PR
def BestAt (now : Int) (l : List Ho) (p : Int → Bool) (k : Nat) (b : Int) : Prop :=
 ((b = 1073741825 ∨ ((∃ h ∈ l.take k, h.u = b) ∧ now < b ∧ b < 1073741825 ∧ p b = true)) ∧ ∀ h ∈ l.take k, now < h.u → h.u < 1073741825 → p h.u = true → b ≤ h.u)
theorem BestAt.start (now : Int) (l : List Ho) (p : Int → Bool) : BestAt now l p 0 1073741825 := ⟨.inl rfl, by simp⟩
theorem BestAt.take {now : Int} {l : List Ho} {p : Int → Bool} {k : Nat} {b : Int} {x : Ho} (h : BestAt now l p k b) (hx : l[k]? = some x) (h1 : now < x.u) (h2 : x.u < b) (hp : p x.u = true) (hb : b ≤ 1073741825) : BestAt now l p (k + 1) x.u := by
 refine ⟨.inr ⟨⟨x, by rw [take_next hx]; simp, rfl⟩, h1, by omega, hp⟩, fun y hy a1 a2 a3 => ?_⟩;rw [take_next hx] at hy;rcases List.mem_append.1 hy with hy | hy
 ·have := h.2 y hy a1 a2 a3; omega
 ·simp at hy; subst hy; exact Int.le_refl _
theorem BestAt.skip {now : Int} {l : List Ho} {p : Int → Bool} {k : Nat} {b : Int} {x : Ho} (h : BestAt now l p k b) (hx : l[k]? = some x) (hn : ¬ (now < x.u ∧ x.u < b ∧ p x.u = true)) : BestAt now l p (k + 1) b := by
 obtain ⟨h1, h2⟩ := h;refine ⟨?_, fun y hy a1 a2 a3 => ?_⟩
 ·rcases h1 with h1 | ⟨⟨y, hy, e⟩, h1⟩
  ·exact .inl h1
  ·exact .inr ⟨⟨y, by rw [take_next hx]; exact List.mem_append_left _ hy, e⟩, h1⟩
 ·rw [take_next hx] at hy;rcases List.mem_append.1 hy with hy | hy
  ·exact h2 y hy a1 a2 a3
  ·simp at hy; subst hy;by_cases h9 : y.u < b
   ·exact absurd ⟨a1, h9, a3⟩ hn
   ·omega
theorem BestAt.le {now : Int} {l : List Ho} {p : Int → Bool} {k : Nat} {b : Int} (h : BestAt now l p k b) : b ≤ 1073741825 := by
 rcases h.1 with e | ⟨_, _, e, _⟩ <;> omega
theorem BestAt.least {now : Int} {l : List Ho} {p : Int → Bool} {b : Int} (h : BestAt now l p l.length b) (h0 : p now = false) (hn : now ≤ 1073741824) : Least now l p b := by
 obtain ⟨h1, h2⟩ := h;rw [List.take_length] at h1 h2;have hmin : ∀ x, Cand now l x → p x = true → b ≤ x := fun x hx hp => by
  rcases hx with e | ⟨⟨y, hy, e⟩, a1, a2⟩
  ·rw [e, h0] at hp; cases hp
  ·subst e; exact h2 y hy a1 a2 hp
 rcases h1 with e | ⟨hm, a1, a2, a3⟩
 ·refine .inl ⟨e, fun x hx => ?_⟩
  cases hp : p x
  ·rfl
  ·have := hmin x hx hp;rcases hx with e' | ⟨_, _, e'⟩ <;> omega
 ·exact .inr ⟨.inr ⟨hm, a1, a2⟩, a3, hmin⟩
set_option maxHeartbeats 8000000 in
theorem refearliest12_any (now : Int) (A1 : Option Addr) (p1 : Nat) (lv : List Fe) (g c : Int) (A2 : Option Addr) (p2 : Nat) (l : List Ho) (X : Wa) (w : World) (hv : Fes w w.heap.size A1 lv) (hview : View lv) (hl : lv.length ≤ 1000)
  (hd : HosIn w w.heap.size A2 l) (hok : ∀ x ∈ l, HoOk x) (hm : Many l) (h5 : (sl l).length ≤ 100000) (hw : WaOk X) (g0 : -2147483648 ≤ g ∧ g ≤ 2147483648) (c0 : -2147483648 ≤ c ∧ c ≤ 2147483648) (hT : Tab w) :
  Calls Tryz.prog 10 #[.int .i64 now, .slice A1 lv.length p1, .agg #[.int .i64 g, .int .i64 c], .slice A2 l.length p2, waV X] w fun e w' => ∃ T E, e = .returned (.tuple #[.int .i64 T, .int .i64 E]) ∧ Earl now lv g c l X T E ∧ Below w.heap.size w w' := by
 have HT := Hq hT;obtain ⟨n, hn⟩ := nx (lv.length);obtain ⟨m, hm0⟩ : ∃ m, m = l.length := ⟨_, rfl⟩
 have hN := Hq (fun W => refright12_any X W hw);unfold waV waA at *;rw [← hn, ← hm0];by_cases hbad : ¬ (X.ok = true ∧ 0 ≤ now ∧ now ≤ 1073741824)
 ·have HE := Hq (show Earl now lv g c l X 0 1 from .inl ⟨hbad, rfl, rfl⟩);by_cases hn0 : now < 0
  ·have t1 : decide (now < 0) = true := decide_eq_true hn0;clear hbad hv hview hl hd hok hm h5 hw g0 c0 hT hn hm0 hn0 hN;obtain ⟨B0, hB0⟩ := nx (w.heap.size);rw [← hB0];have HB0 := Hq hB0;clear hB0;have HBel := Hq (Below.refl w.heap.size w);have hlow : w.heap.size ≤ w.heap.size := Nat.le_refl _;go_enter Tryz.func10, Tryz.ntmps10;go_wp2;obtain ⟨V1, hV1⟩ := nx ((w.alloc (.cells #[.int .i64 g, .int .i64 c] 42)).alloc (.cells #[.int .i64 X.q, .int .i64 X.n, .int .i64 X.S.g, .int .i64 X.S.c, .int .i64 X.S.mn, .int .i64 X.S.mx] 34));rw [← hV1];have hzV1 := sz2 hV1;replace HBel := be2 hV1 HBel hlow;have B_f := Hq (new20 hV1);have B_b := Hq (new21 hV1);obtain ⟨N_f, hN_f⟩ := nx (w.heap.size);obtain ⟨N_b, hN_b⟩ := nx (w.heap.size + 1);(try rw [← hN_b]);rw [← hN_b] at B_b;(try rw [← hN_f]);rw [← hN_f] at B_f;have l_f : N_f < V1.heap.size := (by omega);have l_b : N_b < V1.heap.size := (by omega);have g_f : w.heap.size ≤ N_f := (by omega);have g_b : w.heap.size ≤ N_b := (by omega);have d_f_b : N_f < N_b := (by omega);replace hlow : w.heap.size ≤ V1.heap.size := (by omega);clear hV1 hzV1 hN_f hN_b
   go_ret2
   exact ⟨0, 1, rfl, HE.out, by rw [HB0.out]; exact HBel.out⟩
  have t1 : decide (now < 0) = false := decide_eq_false hn0;by_cases hn2 : now ≤ 1073741824
  ·have t2 : decide (1073741824 < now) = false := decide_eq_false (by omega);have hxo : X.ok = false := by
    cases hx : X.ok
    ·rfl
    ·exact absurd ⟨hx, by omega, hn2⟩ hbad
   rw [hxo] at hN;clear hbad hv hview hl hd hok hm h5 hw g0 c0 hT hn hm0 hn0 hn2 hxo;obtain ⟨B0, hB0⟩ := nx (w.heap.size);rw [← hB0];have HB0 := Hq hB0;clear hB0;have HBel := Hq (Below.refl w.heap.size w);have hlow : w.heap.size ≤ w.heap.size := Nat.le_refl _;go_enter Tryz.func10, Tryz.ntmps10;go_wp2_with fail;obtain ⟨V1, hV1⟩ := nx ((w.alloc (.cells #[.int .i64 g, .int .i64 c] 42)).alloc (.cells #[.int .i64 X.q, .int .i64 X.n, .int .i64 X.S.g, .int .i64 X.S.c, .int .i64 X.S.mn, .int .i64 X.S.mx] 34));rw [← hV1];have hzV1 := sz2 hV1;replace HBel := be2 hV1 HBel hlow;have B_f := Hq (new20 hV1);have B_b := Hq (new21 hV1);obtain ⟨N_f, hN_f⟩ := nx (w.heap.size);obtain ⟨N_b, hN_b⟩ := nx (w.heap.size + 1);(try rw [← hN_b]);rw [← hN_b] at B_b;(try rw [← hN_f]);rw [← hN_f] at B_f;have l_f : N_f < V1.heap.size := (by omega);have l_b : N_b < V1.heap.size := (by omega);have g_f : w.heap.size ≤ N_f := (by omega);have g_b : w.heap.size ≤ N_b := (by omega);have d_f_b : N_f < N_b := (by omega);replace hlow : w.heap.size ≤ V1.heap.size := (by omega);clear hV1 hzV1 hN_f hN_b;refine (hN.out V1).mono ?_;rintro e U2 ⟨rfl, hb9⟩;have hs9 := hb9.size;replace HBel := bt9 HBel hb9 hlow;replace B_f := bb9 hb9 B_f l_f;replace B_b := bb9 hb9 B_b l_b;replace l_f : N_f < U2.heap.size := (by omega);replace l_b : N_b < U2.heap.size := (by omega);replace hlow : w.heap.size ≤ U2.heap.size := (by omega);clear hb9 hs9;go_wp2
   go_ret2
   exact ⟨0, 1, rfl, HE.out, by rw [HB0.out]; exact HBel.out⟩
  ·have t2 : decide (1073741824 < now) = true := decide_eq_true (by omega);clear hbad hv hview hl hd hok hm h5 hw g0 c0 hT hn hm0 hn0 hn2 hN;obtain ⟨B0, hB0⟩ := nx (w.heap.size);rw [← hB0];have HB0 := Hq hB0;clear hB0;have HBel := Hq (Below.refl w.heap.size w);have hlow : w.heap.size ≤ w.heap.size := Nat.le_refl _;go_enter Tryz.func10, Tryz.ntmps10;go_wp2;obtain ⟨V1, hV1⟩ := nx ((w.alloc (.cells #[.int .i64 g, .int .i64 c] 42)).alloc (.cells #[.int .i64 X.q, .int .i64 X.n, .int .i64 X.S.g, .int .i64 X.S.c, .int .i64 X.S.mn, .int .i64 X.S.mx] 34));rw [← hV1];have hzV1 := sz2 hV1;replace HBel := be2 hV1 HBel hlow;have B_f := Hq (new20 hV1);have B_b := Hq (new21 hV1);obtain ⟨N_f, hN_f⟩ := nx (w.heap.size);obtain ⟨N_b, hN_b⟩ := nx (w.heap.size + 1);(try rw [← hN_b]);rw [← hN_b] at B_b;(try rw [← hN_f]);rw [← hN_f] at B_f;have l_f : N_f < V1.heap.size := (by omega);have l_b : N_b < V1.heap.size := (by omega);have g_f : w.heap.size ≤ N_f := (by omega);have g_b : w.heap.size ≤ N_b := (by omega);have d_f_b : N_f < N_b := (by omega);replace hlow : w.heap.size ≤ V1.heap.size := (by omega);clear hV1 hzV1 hN_f hN_b
   go_ret2
   exact ⟨0, 1, rfl, HE.out, by rw [HB0.out]; exact HBel.out⟩
 have hgood : X.ok = true ∧ 0 ≤ now ∧ now ≤ 1073741824 := Classical.not_not.1 hbad;have t1 : decide (now < 0) = false := decide_eq_false (by omega);have t2 : decide (1073741824 < now) = false := decide_eq_false (by omega);rw [hgood.1] at hN;obtain ⟨ss, hss⟩ := nx (sl l);obtain ⟨E2, hE2⟩ := nx ((turnL moreC lv (sl l)).1);have hMo := Hq (fun (A5 : Option Addr) (c5 : Nat) W (h1 : Fes W W.heap.size A5 ss) (hW : Below w.heap.size w W) => show Calls Tryz.prog 20 #[.slice A1 n p1, .slice A5 ss.length c5] W (fun e w' => ∃ V, e = .returned (.tuple #[V, .int .i64 E2]) ∧ Below W.heap.size W w') from by
  have h9 := refmore05_any A1 p1 lv A5 c5 ss W (hv.keep hW hW.size) hview hl h1 (fun s hsm => by
   rw [hss] at hsm;unfold sl at hsm;obtain ⟨x, hx, hs⟩ := List.mem_flatMap.1 hsm;exact (hok x hx).ok s hs) (by rw [hss]; exact h5)
  rw [← hn] at h9;refine h9.mono ?_;rintro e w' ⟨hb, A', c', _, rfl⟩;exact ⟨_, by rw [hE2, hss], hb⟩)
 have hAt := Hq (fun (he : E2 = 0) (t : Int) W (hW : Below w.heap.size w W) => show Calls Tryz.prog 21 #[.int .i64 t, .slice A1 n p1, .agg #[.int .i64 g, .int .i64 c], .slice A2 m p2, .agg #[.int .i64 X.q, .int .i64 X.n, .int .i64 X.S.g, .int .i64 X.S.c, .int .i64 X.S.mn, .int .i64 X.S.mx]] W (fun e w' => e = .returned (.bool (at_ lv g c l X t)) ∧ Below W.heap.size W w') from by
  have h9 := refat12_any t g c A1 p1 lv A2 p2 l X W (hv.keep hW hW.size) hview hl (hd.keep hW hW.size) hok hm h5 (by rw [← hE2]; exact he) hw g0 c0 (hT.below hW hT.size);rw [← hn, ← hm0] at h9;exact h9)
 obtain ⟨i0, hi, hz0, hz1, hz2⟩ := info_parts info_slot4;have H := Hq (Ai hd (Ai hm0 (Ai hm (Ai hgood (Ai hE2 hss)))));have hm1 : m ≤ 1000 := by have := hm.n; omega
 clear hbad hgood hv hview hl hd hok hm h5 hw hT hn hm0 hss hE2;obtain ⟨B0, hB0⟩ := nx (w.heap.size);rw [← hB0];have HB0 := Hq hB0;clear hB0;have HBel := Hq (Below.refl w.heap.size w);have hlow : w.heap.size ≤ w.heap.size := Nat.le_refl _;go_enter Tryz.func10, Tryz.ntmps10;go_wp2_with fail;obtain ⟨V1, hV1⟩ := nx ((w.alloc (.cells #[.int .i64 g, .int .i64 c] 42)).alloc (.cells #[.int .i64 X.q, .int .i64 X.n, .int .i64 X.S.g, .int .i64 X.S.c, .int .i64 X.S.mn, .int .i64 X.S.mx] 34));rw [← hV1];have hzV1 := sz2 hV1;replace HBel := be2 hV1 HBel hlow;have B_f := Hq (new20 hV1);have B_b := Hq (new21 hV1);obtain ⟨N_f, hN_f⟩ := nx (w.heap.size);obtain ⟨N_b, hN_b⟩ := nx (w.heap.size + 1);(try rw [← hN_b]);rw [← hN_b] at B_b;(try rw [← hN_f]);rw [← hN_f] at B_f;have l_f : N_f < V1.heap.size := by omega
 have l_b : N_b < V1.heap.size := by omega
 have g_f : w.heap.size ≤ N_f := by omega
 have g_b : w.heap.size ≤ N_b := by omega
 have d_f_b : N_f < N_b := by omega
 replace hlow : w.heap.size ≤ V1.heap.size := by omega
 clear hV1 hzV1 hN_f hN_b;refine (hN.out V1).mono ?_;rintro e U2 ⟨rfl, hb9⟩;have hs9 := hb9.size;replace HBel := bt9 HBel hb9 hlow;replace B_f := bb9 hb9 B_f l_f;replace B_b := bb9 hb9 B_b l_b;replace l_f : N_f < U2.heap.size := by omega
 replace l_b : N_b < U2.heap.size := by omega
 replace hlow : w.heap.size ≤ U2.heap.size := by omega
 clear hb9 hs9;obtain ⟨S1, hS1⟩ := nx (U2.heap.size);have hbS : N_b < S1 := by omega
 have hfS : N_f < S1 := by omega
 have hwS : w.heap.size ≤ S1 := by omega
 have HB1 := Hq (Ai (show Below S1 U2 U2 from by rw [hS1]; exact Below.refl _ _) (show U2.ownsRow S1 64 4 (.slice none 0 0) 0 ((sl (l.take 0)).flatMap feC) from World.ownsRow_nil _ _ _ _));have HS1 := Hq hS1;go_wp2;go_loopw [12, 13] (fun v vi wr => ∃ (k u : Nat) (A : Option Addr) (cp : Nat), vi = .int .i64 k ∧ v = .slice A u cp ∧ k ≤ m ∧ u = (sl (l.take k)).length ∧ Hid (Below S1 U2 wr ∧ wr.ownsRow S1 64 4 (.slice A u cp) u ((sl (l.take k)).flatMap feC))) (fun _ vi _ => m - (intOf vi).toNat)
 case atStart => exact ⟨0, 0, none, 0, rfl, rfl, by omega, rfl, HB1⟩
 case round =>
  clear HB1;obtain ⟨k, u, A3, cp, rfl, rfl, hkn, hu, hB⟩ := hrel;have hBw := HBel.out.trans (hB.out.1.mono hwS);have hsz := hBw.size;have hszS : S1 ≤ wr.heap.size := by have := hB.out.1.size; rw [HS1.out]; exact this
  by_cases hlt : k < m
  ·have u1 : decide (k < m) = true := decide_eq_true hlt;obtain ⟨x, hx⟩ := get_lt (l := l) (k := k) (by rw [← H.out.2.1]; exact hlt);obtain ⟨b, off, rfl, hb, hall⟩ := H.out.1.at_.at_ hx;have h4 := ((hall k x hx).keep hb hBw) 4 _ rfl;obtain ⟨v, hv⟩ := nx (x.sl.length);have hv6 := H.out.2.2.1.s x (List.mem_of_getElem? hx);have hu6 := sl_many H.out.2.2.1 k;rw [← hu] at hu6;rw [← hv] at h4 hv6;have hF := (H.out.1.sl x (List.mem_of_getElem? hx)).keep hBw hsz;have HV := Hq (Ai hv (Ai hu hB.out));have hn1 : Hid (u + v = (sl (l.take (k + 1))).length) := Hq (by rw [sl_next hx, List.length_append, ← hu, ← hv]);have hn2 : Hid ((sl (l.take (k + 1))).flatMap feC = (sl (l.take k)).flatMap feC ++ x.sl.flatMap feC) := Hq (by rw [sl_next hx, List.flatMap_append]);have HO := Hq hB.out.2;have HE := Hq (fes_els hF);clear hv hu hB hall hx hF hBw;go_wp2_with (at_builtin; refine wpList_append_els (C := feC) (k := 4) _ rfl _ _ 37 rfl S1 64 i0 _ 32 Tryz.underlying37 hi hz0 hz1 hz2 rfl (by decide) (.slice A3 u cp) u ((sl (l.take k)).flatMap feC) rfl HO.out _ x.A x.c v x.sl rfl HE.out HV.out.1 feC_len1 feC_one1 (by unfold maxLen; omega) (by omega) (by first | omega | (simp; omega)) ?_; intro A5 c5 w5 own5 g5 k5);have HN : Hid (Below S1 U2 w5 ∧ w5.ownsRow S1 64 4 (.slice A5 (u + v) c5) (u + v) ((sl (l.take (k + 1))).flatMap feC)) := Hq ⟨HV.out.2.2.1.grown g5 hszS (fun i e => (HV.out.2.2.2.lt i e).1), by rw [hn2.out]; exact own5⟩;clear own5 g5 k5 HO HE;go_wp2
   go_roundw
   case rel => exact ⟨k + 1, u + v, A5, c5, by go_num, rfl, by omega, hn1.out, HN⟩
   case measure => simp [intOf]; omega
  ·obtain rfl : m = k := by omega
   have u1 : decide (m < m) = false := decide_eq_false hlt;have e9 : l.take m = l := by rw [H.out.2.1]; exact List.take_length
   rw [e9, ← H.out.2.2.2.2.2] at hu hB;have hF5 : Fes wr wr.heap.size A3 ss := fe_own (c := cp) (by rw [← hu]; exact hB.out.2);replace B_b : Hid (wr.heap[N_b]? = some (.cells #[.int .i64 X.q, .int .i64 X.n, .int .i64 X.S.g, .int .i64 X.S.c, .int .i64 X.S.mn, .int .i64 X.S.mx] 34 (0, 0))) := Hq ((hB.out.1.block N_b hbS).trans B_b.out);replace B_f : Hid (wr.heap[N_f]? = some (.cells #[.int .i64 g, .int .i64 c] 42 (0, 0))) := Hq ((hB.out.1.block N_f hfS).trans B_f.out);replace HBel := Hq hBw;replace l_b : N_b < wr.heap.size := (by omega);replace l_f : N_f < wr.heap.size := (by omega);replace hlow : w.heap.size ≤ wr.heap.size := hsz;have hMw := Hq (hMo.out A3 cp wr hF5 HBel.out);rw [← hu] at hMw;clear hB hBw hF5 e9 hlt hu;go_wp2_with fail;refine (hMw.out).mono ?_;rintro e U3 ⟨V9, rfl, hb9⟩;have hs9 := hb9.size;replace HBel := bt9 HBel hb9 hlow;replace B_f := bb9 hb9 B_f l_f;replace B_b := bb9 hb9 B_b l_b;replace l_f : N_f < U3.heap.size := (by omega);replace l_b : N_b < U3.heap.size := (by omega);replace hlow : w.heap.size ≤ U3.heap.size := (by omega);clear hb9 hs9;by_cases hE0 : E2 ≠ 0
   ·have HE := Hq (show Earl now lv g c l X 0 E2 from .inr ⟨H.out.2.2.2.1, .inl ⟨by rw [← H.out.2.2.2.2.1]; exact hE0, rfl, H.out.2.2.2.2.1⟩⟩);have t3 : (E2 != 0) = true := by simpa using hE0
    clear hE0;go_wp2
    go_ret2
    exact ⟨0, E2, rfl, HE.out, by rw [HB0.out]; exact HBel.out⟩
   obtain rfl : E2 = 0 := Classical.not_not.1 hE0;have hA := Hq (hAt.out rfl);clear hE0 hAt hMw hMo;obtain ⟨f0, f1⟩ := cells2 B_f.out;obtain ⟨b0, b1, b2, b3, b4, b5⟩ := cells6 B_b.out;go_wp2_with fail;refine (hA.out now U3 HBel.out).mono ?_;rintro e U4 ⟨rfl, hb9⟩;clear f0 f1 b0 b1 b2 b3 b4 b5;have hs9 := hb9.size;replace HBel := bt9 HBel hb9 hlow;replace B_f := bb9 hb9 B_f l_f;replace B_b := bb9 hb9 B_b l_b;replace l_f : N_f < U4.heap.size := (by omega);replace l_b : N_b < U4.heap.size := (by omega);replace hlow : w.heap.size ≤ U4.heap.size := (by omega);clear hb9 hs9
   cases hat : at_ lv g c l X now
   ·have HAT := Hq hat;clear hat;go_wp2;go_loopw [16, 17] (fun vb vi wr => ∃ (k : Nat) (bst : Int), vb = .int .i64 bst ∧ vi = .int .i64 k ∧ k ≤ m ∧ N_b < wr.heap.size ∧ N_f < wr.heap.size ∧ Hid (Below w.heap.size w wr) ∧ Hid (wr.heap[N_b]? = some (.cells #[.int .i64 X.q, .int .i64 X.n, .int .i64 X.S.g, .int .i64 X.S.c, .int .i64 X.S.mn, .int .i64 X.S.mx] 34 (0, 0))) ∧ Hid (wr.heap[N_f]? = some (.cells #[.int .i64 g, .int .i64 c] 42 (0, 0))) ∧ Hid (BestAt now l (at_ lv g c l X) k bst)) (fun _ vi _ => m - (intOf vi).toNat)
    case atStart => exact ⟨0, 1073741825, rfl, rfl, by omega, l_b, l_f, HBel, B_b, B_f, Hq (BestAt.start _ _ _)⟩
    case round =>
     clear HBel B_b B_f l_b l_f hlow;obtain ⟨k, bst, rfl, rfl, hk, l_b, l_f, HBel, B_b, B_f, hBst⟩ := hrel;have hlow := HBel.out.size;have hbl := hBst.out.le;obtain ⟨f0, f1⟩ := cells2 B_f.out;obtain ⟨b0, b1, b2, b3, b4, b5⟩ := cells6 B_b.out;by_cases hlt : k < m
     ·have u1 : decide (k < m) = true := decide_eq_true hlt;obtain ⟨x, hx⟩ := get_lt (l := l) (k := k) (by rw [← H.out.2.1]; exact hlt);obtain ⟨b, off, rfl, hb, hall⟩ := H.out.1.at_.at_ hx;have h2 := ((hall k x hx).keep hb HBel.out) 2 _ rfl;have hTake := fun a1 a2 a3 => hBst.out.take hx a1 a2 a3 hbl
      have hSkip := fun a => hBst.out.skip hx a
      obtain ⟨y, hy⟩ := nx (x.u);rw [← hy] at h2 hTake hSkip;have HTS := Hq (Ai hTake hSkip);clear hall hx hy hTake hSkip;by_cases y1 : now < y
      ·have v1 : decide (now < y) = true := decide_eq_true y1;by_cases y2 : y < bst
       ·have v2 : decide (y < bst) = true := decide_eq_true y2;have hAy := Hq (hA.out y wr HBel.out)
        cases hat : at_ lv g c l X y
        ·rw [hat] at hAy;have HN := Hq (HTS.out.2 (fun h => by rw [hat] at h; exact absurd h.2.2 (by simp)));clear y1 y2 hat;go_wp2_with fail;refine hAy.out.mono ?_;rintro e w3 ⟨rfl, hb3⟩;have hs3 := hb3.size;have B3 : Hid (w3.heap[N_b]? = some (.cells #[.int .i64 X.q, .int .i64 X.n, .int .i64 X.S.g, .int .i64 X.S.c, .int .i64 X.S.mn, .int .i64 X.S.mx] 34 (0, 0))) := Hq ((hb3.block N_b l_b).trans B_b.out);have F3 : Hid (w3.heap[N_f]? = some (.cells #[.int .i64 g, .int .i64 c] 42 (0, 0))) := Hq ((hb3.block N_f l_f).trans B_f.out);have H3' : Hid (Below w.heap.size w w3) := Hq (below_step HBel.out hb3);clear hb3 hAy f0 f1 b0 b1 b2 b3 b4 b5 h2;go_wp2
         go_roundw
         case rel => exact ⟨k + 1, bst, rfl, by go_num, by omega, by omega, by omega, H3', B3, F3, HN⟩
         case measure => simp [intOf]; omega
        ·rw [hat] at hAy;have HN := Hq (HTS.out.1 y1 y2 hat);clear y1 y2 hat;go_wp2_with fail;refine hAy.out.mono ?_;rintro e w3 ⟨rfl, hb3⟩;have hs3 := hb3.size;have B3 : Hid (w3.heap[N_b]? = some (.cells #[.int .i64 X.q, .int .i64 X.n, .int .i64 X.S.g, .int .i64 X.S.c, .int .i64 X.S.mn, .int .i64 X.S.mx] 34 (0, 0))) := Hq ((hb3.block N_b l_b).trans B_b.out);have F3 : Hid (w3.heap[N_f]? = some (.cells #[.int .i64 g, .int .i64 c] 42 (0, 0))) := Hq ((hb3.block N_f l_f).trans B_f.out);have H3' : Hid (Below w.heap.size w w3) := Hq (below_step HBel.out hb3);clear hb3 hAy f0 f1 b0 b1 b2 b3 b4 b5 h2;go_wp2
         go_roundw
         case rel => exact ⟨k + 1, y, rfl, by go_num, by omega, by omega, by omega, H3', B3, F3, HN⟩
         case measure => simp [intOf]; omega
       ·have v2 : decide (y < bst) = false := decide_eq_false y2;have HN := Hq (HTS.out.2 (fun h => y2 h.2.1));clear y1 y2;go_wp2
        go_roundw
        case rel => exact ⟨k + 1, bst, rfl, by go_num, by omega, l_b, l_f, HBel, B_b, B_f, HN⟩
        case measure => simp [intOf]; omega
      ·have v1 : decide (now < y) = false := decide_eq_false y1;have HN := Hq (HTS.out.2 (fun h => y1 h.1));clear y1;go_wp2
       go_roundw
       case rel => exact ⟨k + 1, bst, rfl, by go_num, by omega, l_b, l_f, HBel, B_b, B_f, HN⟩
       case measure => simp [intOf]; omega
     ·obtain rfl : k = m := by omega
      have u1 : decide (k < k) = false := (by simp);have HE := Hq (show Earl now lv g c l X bst 0 from .inr ⟨H.out.2.2.2.1, .inr ⟨H.out.2.2.2.2.1.symm, rfl, BestAt.least (by rw [← H.out.2.1]; exact hBst.out) HAT.out H.out.2.2.2.1.2.2⟩⟩);clear hlt;go_wp2
      go_ret2
      exact ⟨bst, 0, rfl, HE.out, by rw [HB0.out]; exact HBel.out⟩
   ·have HE := Hq (show Earl now lv g c l X now 0 from .inr ⟨H.out.2.2.2.1, .inr ⟨H.out.2.2.2.2.1.symm, rfl, .inr ⟨.inl rfl, hat, fun x hx _ => by rcases hx with e | ⟨_, e, _⟩ <;> omega⟩⟩⟩);clear hat;go_wp2
    go_ret2
    exact ⟨now, 0, rfl, HE.out, by rw [HB0.out]; exact HBel.out⟩
end Go.Proofs.YtkkkhonjcbhelaaGreatDoor
