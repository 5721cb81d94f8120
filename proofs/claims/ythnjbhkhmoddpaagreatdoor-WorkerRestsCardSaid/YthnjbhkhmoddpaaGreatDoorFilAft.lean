/- After and Safe of package fill. -/
import Derived.Test.YthnjbhkhmoddpaaGreatDoorFilCl
import Derived.Test.YthnjbhkhmoddpaaGreatDoorProEarl
set_option maxRecDepth 100000
set_option linter.unusedVariables false
namespace Go.Proofs.YthnjbhkhmoddpaaGreatDoor
open Go.RowKit
open PR
theorem gs_bound {l : List Fe} (h : l.length ≤ 1000) : (gs l : Int) ≤ 64000 := by have := gs_le l; omega
theorem left_bounds {lv lv2 : List Fe} {H : Ho} {g c Q : Int} (hv : View lv) (hv2 : View lv2) (h : turnL lessC lv H.sl = (0, lv2)) (hok : ∀ s ∈ H.sl, FeOk s) (hs : H.sl.length ≤ 1000) (g0 : -1000000000 ≤ g ∧ g ≤ 1000000000) (c0 : -1000000000 ≤ c ∧ c ≤ 1000000000) :
  (-2147483648 ≤ g - (hg H Q : Int) ∧ g - (hg H Q : Int) ≤ 2147483648) ∧ (-2147483648 ≤ c - hc H Q ∧ c - hc H Q ≤ 2147483648) := by
 have h1 := gs_bound hs
 have h2 := cs_le (l := H.sl) fun s hsm => (low_less hv hv2 h hok s hsm).2
 unfold hg hc
 split <;> omega
set_option maxHeartbeats 8000000 in
theorem pafter_any (now : Int) (A1 : Option Addr) (p1 : Nat) (lv : List Fe) (g c : Int) (A2 : Option Addr) (p2 : Nat) (l : List Ho) (X : Wa) (H : Ho) (w : World) (hv : Fes w w.heap.size A1 lv) (hview : View lv) (hl : lv.length ≤ 100) (hd : HosIn w w.heap.size A2 l) (hok : ∀ x ∈ l, HoOk x) (hm0 : l.length ≤ 30) (hm1 : ∀ x ∈ l, x.sl.length ≤ 1000) (hw : WaOk X) (hF : Fes w w.heap.size H.A H.sl) (hHo : HoOk H) (hs : H.sl.length ≤ 1000)
  (g0 : -1000000000 ≤ g ∧ g ≤ 1000000000) (c0 : -1000000000 ≤ c ∧ c ≤ 1000000000) (hT : Tab w) :
  Calls Tryz.prog 74 #[.int .i64 now, .slice A1 lv.length p1, .agg #[.int .i64 g, .int .i64 c], .slice A2 l.length p2, waV X, hoV H] w fun e w' => ∃ T E, e = .returned (.tuple #[.int .i64 T, .int .i64 E]) ∧ Aft now lv g c l X H T E ∧ Below w.heap.size w w' := by
 have HT := Lib.hid hT
 obtain ⟨n, hn⟩ : ∃ n, n = lv.length := ⟨_, rfl⟩
 obtain ⟨m, hm⟩ : ∃ m, m = l.length := ⟨_, rfl⟩
 obtain ⟨k, hk⟩ : ∃ k, k = H.sl.length := ⟨_, rfl⟩
 obtain ⟨E, lv2, hE⟩ : ∃ E lv2, turnL lessC lv H.sl = (E, lv2) := ⟨_, _, rfl⟩
 obtain ⟨G, hGG⟩ : ∃ G, G = g - (hg H X.q : Int) := ⟨_, rfl⟩
 obtain ⟨C, hCC⟩ : ∃ C, C = c - hc H X.q := ⟨_, rfl⟩
 have hCh := Lib.hid (fun W => show Calls Tryz.prog 81 #[.agg #[.int .i64 H.id, .int .i64 H.q, .int .i64 H.u, .bool H.r, .slice H.A k H.c], .int .i64 X.q] W (fun e w' => e = .returned (.func (.func 90) #[] #[.pointer (some ⟨W.heap.size, 0, none⟩), .pointer (some ⟨W.heap.size + 1, 0, none⟩)]) ∧ w'.heap[W.heap.size]? = some (.cells #[.int .i64 H.id, .int .i64 H.q, .int .i64 H.u, .bool H.r, .slice H.A k H.c] 53 (0, 0)) ∧ w'.heap[W.heap.size + 1]? = some (.cells #[.int .i64 X.q] 3 (0, 0)) ∧ Below W.heap.size W w') from by
  rw [hk]; exact changes_any H X.q W)
 have hCl := Lib.hid (fun (p q : Nat) W (hW : Below w.heap.size w W) (bp : W.heap[p]? = some (.cells #[.int .i64 H.id, .int .i64 H.q, .int .i64 H.u, .bool H.r, .slice H.A k H.c] 53 (0, 0))) (bq : W.heap[q]? = some (.cells #[.int .i64 X.q] 3 (0, 0))) => show Calls Tryz.prog 90 #[.agg #[.slice A1 n p1, .int .i64 g, .int .i64 c, .slice A2 m p2], .pointer (some ⟨p, 0, none⟩), .pointer (some ⟨q, 0, none⟩)] W (fun e w' => ChgRes n m lv2 l H G C E w' e ∧ Below W.heap.size W w') from by
  rw [hn, hm, hGG, hCC]
  exact changes_cl p q H X.q A1 p1 lv g c A2 p2 l E lv2 W (by unfold hoA; rw [← hk]; exact bp) bq (hv.keep hW hW.size) hview (by omega) (hd.keep hW hW.size) (by omega) (hF.keep hW hW.size) hHo hs hE (by omega) (by omega))
 have hEa := Lib.hid (fun (h0 : E = 0) (A : Option Addr) (c1 : Nat) (A3 : Option Addr) (c3 : Nat) W (hW : Below w.heap.size w W) (h1 : Fes W W.heap.size A lv2) (h2 : lv2.length = n) (h3 : View lv2) (h4 : HosIn W W.heap.size A3 (l ++ [H])) => show Calls Tryz.prog 82 #[.int .i64 now, .slice A n c1, .agg #[.int .i64 G, .int .i64 C], .slice A3 (m + 1) c3, .agg #[.int .i64 X.q, .int .i64 X.n, .int .i64 X.S.g, .int .i64 X.S.c, .int .i64 X.S.mn, .int .i64 X.S.mx]] W (fun e w' => ∃ T E9, e = .returned (.tuple #[.int .i64 T, .int .i64 E9]) ∧ Earl now lv2 G C (l ++ [H]) X T E9 ∧ Below W.heap.size W w') from by
  subst h0
  have hb := left_bounds (Q := X.q) hview h3 hE hHo.ok hs g0 c0
  rw [← hGG, ← hCC] at hb
  have hlen : (l ++ [H]).length = m + 1 := by rw [List.length_append, hm]; rfl
  have hsm : ∀ x ∈ l ++ [H], x.sl.length ≤ 1000 := fun x hx => by
   rcases List.mem_append.1 hx with hx | hx
   ·exact hm1 x hx
   ·rw [List.mem_singleton.1 hx]; exact hs
  have h9 := pearliest_any now A c1 lv2 G C A3 c3 (l ++ [H]) X W h1 h3 (by omega) h4 (fun x hx => by
   rcases List.mem_append.1 hx with hx | hx
   ·exact hok x hx
   ·rw [List.mem_singleton.1 hx]; exact hHo) ⟨by omega, hsm⟩ (by have := sl_len hsm; omega) hw hb.1 hb.2 (hT.below hW hT.size)
  rw [h2, hlen] at h9
  exact h9)
 have HE := Lib.hid (And.intro hE (And.intro hGG hCC))
 unfold waV waA hoV hoA
 rw [← hn, ← hm, ← hk]
 clear hn hm hk hE hGG hCC hv hview hl hd hok hm0 hm1 hw hF hHo hs g0 c0 hT
 obtain ⟨B0, hB0⟩ : ∃ B, B = w.heap.size := ⟨_, rfl⟩
 rw [← hB0]
 have HB0 := Lib.hid hB0
 clear hB0
 have HBel := Lib.hid (Below.refl w.heap.size w)
 have hlow : w.heap.size ≤ w.heap.size := Nat.le_refl _
 go_enter Tryz.func74, Tryz.ntmps74
 go_wp2_with fail
 obtain ⟨V1, hV1⟩ : ∃ W, W = ((w.alloc (.cells #[.int .i64 g, .int .i64 c] 42)).alloc (.cells #[.int .i64 X.q, .int .i64 X.n, .int .i64 X.S.g, .int .i64 X.S.c, .int .i64 X.S.mn, .int .i64 X.S.mx] 34)).alloc (.cells #[.int .i64 H.id, .int .i64 H.q, .int .i64 H.u, .bool H.r, .slice H.A k H.c] 53) := ⟨_, rfl⟩
 rw [← hV1]
 have hzV1 : V1.heap.size = w.heap.size + 1 + 1 + 1 := by rw [hV1]; simp
 replace HBel := Lib.hid (below_eq hV1 ((((HBel.out.alloc (hlow) _).alloc (by simp <;> omega) _).alloc (by simp <;> omega) _)))
 have B_f := Lib.hid (new30 hV1)
 have B_b := Lib.hid (new31 hV1)
 have B_h := Lib.hid (new32 hV1)
 obtain ⟨N_f, hN_f⟩ : ∃ N, N = w.heap.size := ⟨_, rfl⟩
 obtain ⟨N_b, hN_b⟩ : ∃ N, N = w.heap.size + 1 := ⟨_, rfl⟩
 obtain ⟨N_h, hN_h⟩ : ∃ N, N = w.heap.size + 1 + 1 := ⟨_, rfl⟩
 (try rw [← hN_h])
 rw [← hN_h] at B_h
 (try rw [← hN_b])
 rw [← hN_b] at B_b
 (try rw [← hN_f])
 rw [← hN_f] at B_f
 have l_f : N_f < V1.heap.size := by omega
 have l_b : N_b < V1.heap.size := by omega
 have l_h : N_h < V1.heap.size := by omega
 have g_f : w.heap.size ≤ N_f := by omega
 have g_b : w.heap.size ≤ N_b := by omega
 have g_h : w.heap.size ≤ N_h := by omega
 have d_f_b : N_f < N_b := by omega
 have d_b_h : N_b < N_h := by omega
 replace hlow : w.heap.size ≤ V1.heap.size := by omega
 clear hV1 hzV1 hN_f hN_b hN_h
 refine (hCh.out V1).mono ?_
 rintro e U2 ⟨rfl, hp9, hq9, hb9⟩
 have hs9 := hb9.size
 have HP9 := Lib.hid hp9
 have HQ9 := Lib.hid hq9
 clear hp9 hq9
 obtain ⟨P, hP⟩ : ∃ P, P = V1.heap.size := ⟨_, rfl⟩
 rw [← hP] at HP9 HQ9
 (try rw [← hP])
 clear hP
 replace HBel := Lib.hid (HBel.out.trans (hb9.mono hlow))
 replace B_f := Lib.hid ((hb9.block _ l_f).trans B_f.out)
 replace B_b := Lib.hid ((hb9.block _ l_b).trans B_b.out)
 replace B_h := Lib.hid ((hb9.block _ l_h).trans B_h.out)
 replace l_f : N_f < U2.heap.size := by omega
 replace l_b : N_b < U2.heap.size := by omega
 replace l_h : N_h < U2.heap.size := by omega
 replace hlow : w.heap.size ≤ U2.heap.size := by omega
 clear hb9 hs9
 obtain ⟨f0, f1⟩ := cells2 B_f.out
 obtain ⟨b0, b1, b2, b3, b4, b5⟩ := cells6 B_b.out
 go_wp2_with fail
 refine (hCl.out P (P + 1) U2 HBel.out HP9.out HQ9.out).mono ?_
 rintro e U3 ⟨hres, hb9⟩
 clear f0 f1 b0 b1 b2 b3 b4 b5
 have hs9 := hb9.size
 replace HBel := Lib.hid (HBel.out.trans (hb9.mono hlow))
 replace B_f := Lib.hid ((hb9.block _ l_f).trans B_f.out)
 replace B_b := Lib.hid ((hb9.block _ l_b).trans B_b.out)
 replace B_h := Lib.hid ((hb9.block _ l_h).trans B_h.out)
 replace l_f : N_f < U3.heap.size := by omega
 replace l_b : N_b < U3.heap.size := by omega
 replace l_h : N_h < U3.heap.size := by omega
 replace hlow : w.heap.size ≤ U3.heap.size := by omega
 clear hb9 hs9
 clear HP9 HQ9
 rcases hres with ⟨hE0, rfl⟩ | ⟨hE0, A4, c4, A5, c5, rfl, hf4⟩
 ·have t1 : (E != 0) = true := by simp [hE0]
  obtain ⟨b0, b1, b2, b3, b4, b5⟩ := cells6 B_b.out
  go_wp2
  clear b0 b1 b2 b3 b4 b5
  go_ret2
  exact ⟨0, E, rfl, .inl ⟨by rw [HE.out.1]; exact hE0, rfl, by rw [HE.out.1]⟩, by rw [HB0.out]; exact HBel.out.alloc hlow _⟩
 ·obtain ⟨f0, f1⟩ := cells2 B_f.out
  obtain ⟨b0, b1, b2, b3, b4, b5⟩ := cells6 B_b.out
  go_wp2_with fail
  clear f0 f1 b0 b1 b2 b3 b4 b5
  obtain ⟨V4, hV4⟩ : ∃ W, W = U3.alloc (.cells #[.slice A4 n c4, .int .i64 G, .int .i64 C, .slice A5 (m + 1) c5] 145) := ⟨_, rfl⟩
  rw [← hV4]
  have hzV4 : V4.heap.size = U3.heap.size + 1 := by rw [hV4]; simp
  replace HBel := Lib.hid (below_eq hV4 ((HBel.out.alloc (hlow) _)))
  replace B_f := Lib.hid (blk_eq hV4 (((Below.heap_alloc _ _ _ (by first | omega | (simp <;> omega))).trans B_f.out)))
  replace B_b := Lib.hid (blk_eq hV4 (((Below.heap_alloc _ _ _ (by first | omega | (simp <;> omega))).trans B_b.out)))
  replace B_h := Lib.hid (blk_eq hV4 (((Below.heap_alloc _ _ _ (by first | omega | (simp <;> omega))).trans B_h.out)))
  have B_s := Lib.hid (new10 hV4)
  obtain ⟨N_s, hN_s⟩ : ∃ N, N = U3.heap.size := ⟨_, rfl⟩
  (try rw [← hN_s])
  rw [← hN_s] at B_s
  have d_f_s : N_f < N_s := by omega
  have d_b_s : N_b < N_s := by omega
  have d_h_s : N_h < N_s := by omega
  replace l_f : N_f < V4.heap.size := by omega
  replace l_b : N_b < V4.heap.size := by omega
  replace l_h : N_h < V4.heap.size := by omega
  have l_s : N_s < V4.heap.size := by omega
  have g_s : w.heap.size ≤ N_s := by omega
  replace hlow : w.heap.size ≤ V4.heap.size := by omega
  have HB4 : Below U3.heap.size U3 V4 := by rw [hV4]; exact (Below.refl _ _).alloc (Nat.le_refl _) _
  clear hV4 hzV4 hN_s
  refine (hEa.out hE0 A4 c4 A5 c5 V4 HBel.out (hf4.out.1.keep HB4 HB4.size) hf4.out.2.1 hf4.out.2.2.1 (hf4.out.2.2.2.keep HB4 HB4.size)).mono ?_
  rintro e U5 ⟨T, E9, rfl, hEr, hb9⟩
  have hs9 := hb9.size
  have HEr := Lib.hid hEr
  clear hEr
  replace HBel := Lib.hid (HBel.out.trans (hb9.mono hlow))
  replace B_f := Lib.hid ((hb9.block _ l_f).trans B_f.out)
  replace B_b := Lib.hid ((hb9.block _ l_b).trans B_b.out)
  replace B_h := Lib.hid ((hb9.block _ l_h).trans B_h.out)
  replace B_s := Lib.hid ((hb9.block _ l_s).trans B_s.out)
  replace l_f : N_f < U5.heap.size := by omega
  replace l_b : N_b < U5.heap.size := by omega
  replace l_h : N_h < U5.heap.size := by omega
  replace l_s : N_s < U5.heap.size := by omega
  replace hlow : w.heap.size ≤ U5.heap.size := by omega
  clear hb9 hs9
  go_wp2
  go_ret2
  exact ⟨T, E9, rfl, .inr ⟨by rw [HE.out.1]; exact hE0, by rw [HE.out.1, ← HE.out.2.1, ← HE.out.2.2]; exact HEr.out⟩, by rw [HB0.out]; exact HBel.out⟩
set_option maxHeartbeats 8000000 in
theorem psafe_any (now : Int) (A1 : Option Addr) (p1 : Nat) (lv : List Fe) (g c : Int) (A2 : Option Addr) (p2 : Nat) (l : List Ho) (X : Wa) (pr : Int) (H : Ho) (w : World) (hv : Fes w w.heap.size A1 lv) (hview : View lv) (hl : lv.length ≤ 100) (hd : HosIn w w.heap.size A2 l) (hok : ∀ x ∈ l, HoOk x) (hm0 : l.length ≤ 30) (hm1 : ∀ x ∈ l, x.sl.length ≤ 1000) (hw : WaOk X) (hF : Fes w w.heap.size H.A H.sl) (hHo : HoOk H) (hs : H.sl.length ≤ 1000)
  (g0 : -1000000000 ≤ g ∧ g ≤ 1000000000) (c0 : -1000000000 ≤ c ∧ c ≤ 1000000000) (hT : Tab w) :
  Calls Tryz.prog 65 #[.int .i64 now, .slice A1 lv.length p1, .agg #[.int .i64 g, .int .i64 c], .slice A2 l.length p2, waV X, .int .i64 pr, hoV H] w fun e w' => ∃ T E, e = .returned (.tuple #[.bool (safeB now pr T E), .int .i64 E]) ∧ Aft now lv g c l X H T E ∧ Below w.heap.size w w' := by
 obtain ⟨n, hn⟩ : ∃ n, n = lv.length := ⟨_, rfl⟩
 obtain ⟨m, hm⟩ : ∃ m, m = l.length := ⟨_, rfl⟩
 obtain ⟨k, hk⟩ : ∃ k, k = H.sl.length := ⟨_, rfl⟩
 have hA := Lib.hid (fun W (hW : Below w.heap.size w W) => show Calls Tryz.prog 74 #[.int .i64 now, .slice A1 n p1, .agg #[.int .i64 g, .int .i64 c], .slice A2 m p2, .agg #[.int .i64 X.q, .int .i64 X.n, .int .i64 X.S.g, .int .i64 X.S.c, .int .i64 X.S.mn, .int .i64 X.S.mx], .agg #[.int .i64 H.id, .int .i64 H.q, .int .i64 H.u, .bool H.r, .slice H.A k H.c]] W (fun e w' => ∃ T E, e = .returned (.tuple #[.int .i64 T, .int .i64 E]) ∧ Aft now lv g c l X H T E ∧ Below W.heap.size W w') from by
  have h9 := pafter_any now A1 p1 lv g c A2 p2 l X H W (hv.keep hW hW.size) hview hl (hd.keep hW hW.size) hok hm0 hm1 hw (hF.keep hW hW.size) hHo hs g0 c0 (hT.below hW hT.size)
  unfold hoV hoA at h9
  rw [← hn, ← hm, ← hk] at h9
  exact h9)
 unfold waV waA hoV hoA
 rw [← hn, ← hm, ← hk]
 clear hn hm hk hv hview hl hd hok hm0 hm1 hw hF hHo hs g0 c0 hT
 obtain ⟨B0, hB0⟩ : ∃ B, B = w.heap.size := ⟨_, rfl⟩
 rw [← hB0]
 have HB0 := Lib.hid hB0
 clear hB0
 have HBel := Lib.hid (Below.refl w.heap.size w)
 have hlow : w.heap.size ≤ w.heap.size := Nat.le_refl _
 go_enter Tryz.func65, Tryz.ntmps65
 go_wp2_with fail
 obtain ⟨V1, hV1⟩ : ∃ W, W = ((w.alloc (.cells #[.int .i64 g, .int .i64 c] 42)).alloc (.cells #[.int .i64 X.q, .int .i64 X.n, .int .i64 X.S.g, .int .i64 X.S.c, .int .i64 X.S.mn, .int .i64 X.S.mx] 34)).alloc (.cells #[.int .i64 H.id, .int .i64 H.q, .int .i64 H.u, .bool H.r, .slice H.A k H.c] 53) := ⟨_, rfl⟩
 rw [← hV1]
 have hzV1 : V1.heap.size = w.heap.size + 1 + 1 + 1 := by rw [hV1]; simp
 replace HBel := Lib.hid (below_eq hV1 ((((HBel.out.alloc (hlow) _).alloc (by simp <;> omega) _).alloc (by simp <;> omega) _)))
 have B_f := Lib.hid (new30 hV1)
 have B_b := Lib.hid (new31 hV1)
 have B_h := Lib.hid (new32 hV1)
 obtain ⟨N_f, hN_f⟩ : ∃ N, N = w.heap.size := ⟨_, rfl⟩
 obtain ⟨N_b, hN_b⟩ : ∃ N, N = w.heap.size + 1 := ⟨_, rfl⟩
 obtain ⟨N_h, hN_h⟩ : ∃ N, N = w.heap.size + 1 + 1 := ⟨_, rfl⟩
 (try rw [← hN_h])
 rw [← hN_h] at B_h
 (try rw [← hN_b])
 rw [← hN_b] at B_b
 (try rw [← hN_f])
 rw [← hN_f] at B_f
 have l_f : N_f < V1.heap.size := by omega
 have l_b : N_b < V1.heap.size := by omega
 have l_h : N_h < V1.heap.size := by omega
 have g_f : w.heap.size ≤ N_f := by omega
 have g_b : w.heap.size ≤ N_b := by omega
 have g_h : w.heap.size ≤ N_h := by omega
 have d_f_b : N_f < N_b := by omega
 have d_b_h : N_b < N_h := by omega
 replace hlow : w.heap.size ≤ V1.heap.size := by omega
 clear hV1 hzV1 hN_f hN_b hN_h
 refine (hA.out V1 HBel.out).mono ?_
 rintro e U2 ⟨T, E, rfl, hAf, hb9⟩
 have hs9 := hb9.size
 have HAf := Lib.hid hAf
 clear hAf
 replace HBel := Lib.hid (HBel.out.trans (hb9.mono hlow))
 replace B_f := Lib.hid ((hb9.block _ l_f).trans B_f.out)
 replace B_b := Lib.hid ((hb9.block _ l_b).trans B_b.out)
 replace B_h := Lib.hid ((hb9.block _ l_h).trans B_h.out)
 replace l_f : N_f < U2.heap.size := by omega
 replace l_b : N_b < U2.heap.size := by omega
 replace l_h : N_h < U2.heap.size := by omega
 replace hlow : w.heap.size ≤ U2.heap.size := by omega
 clear hb9 hs9
 by_cases hE0 : E = 0
 ·subst hE0
  by_cases hpn : pr < now
  ·have t0 : decide (pr < now) = true := decide_eq_true hpn
   have t2 : ¬ now ≤ pr := by omega
   by_cases h1 : T ≤ now
   ·have hs := Lib.hid (show safeB now pr T 0 = true from by unfold safeB; simp [h1])
    have t1 : decide (T ≤ now) = true := decide_eq_true h1
    go_wp2
    go_ret2
    exact ⟨T, 0, by rw [hs.out]; first | rfl | (simp; done), HAf.out, by rw [HB0.out]; exact HBel.out⟩
   ·have hs := Lib.hid (show safeB now pr T 0 = false from by unfold safeB; simp [h1]; omega)
    have t1 : decide (T ≤ now) = false := decide_eq_false h1
    go_wp2
    go_ret2
    exact ⟨T, 0, by rw [hs.out]; first | rfl | (simp; done), HAf.out, by rw [HB0.out]; exact HBel.out⟩
  ·have t0 : decide (pr < now) = false := decide_eq_false hpn
   have t2 : now ≤ pr := by omega
   by_cases h1 : T ≤ pr
   ·have hs := Lib.hid (show safeB now pr T 0 = true from by unfold safeB; simp [h1])
    have t1 : decide (T ≤ pr) = true := decide_eq_true h1
    go_wp2
    go_ret2
    exact ⟨T, 0, by rw [hs.out]; first | rfl | (simp; done), HAf.out, by rw [HB0.out]; exact HBel.out⟩
   ·have hs := Lib.hid (show safeB now pr T 0 = false from by unfold safeB; simp [h1]; omega)
    have t1 : decide (T ≤ pr) = false := decide_eq_false h1
    go_wp2
    go_ret2
    exact ⟨T, 0, by rw [hs.out]; first | rfl | (simp; done), HAf.out, by rw [HB0.out]; exact HBel.out⟩
 ·have hs := Lib.hid (show safeB now pr T E = false from by unfold safeB; simp [hE0])
  have t1 : (E == 0) = false := by simp [hE0]
  go_wp2
  go_ret2
  exact ⟨T, E, by rw [hs.out]; first | rfl | (simp; done), HAf.out, by rw [HB0.out]; exact HBel.out⟩
end Go.Proofs.YthnjbhkhmoddpaaGreatDoor
