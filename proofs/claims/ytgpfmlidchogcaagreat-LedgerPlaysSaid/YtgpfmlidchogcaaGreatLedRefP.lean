/- The document's ledger: Grow. -/
import Derived.Test.YtgpfmlidchogcaaGreatLedRefO
set_option maxRecDepth 100000
set_option linter.unusedVariables false
namespace Go.Proofs.YtgpfmlidchogcaaGreat
open Go.RowKit

theorem clsat4 {w : World} {b : Nat} {v0 v1 v2 v3 : Value} (h0 : w.cell? ⟨b, 0, none⟩ = some v0) (h1 : w.cell? ⟨b, 1, none⟩ = some v1) (h2 : w.cell? ⟨b, 2, none⟩ = some v2) (h3 : w.cell? ⟨b, 3, none⟩ = some v3) : CellsAt w b 0 [v0, v1, v2, v3] := fun i v hv => by
 rw [Nat.zero_add]
 match i, hv with
 | 0, hv => cases hv; exact h0
 | 1, hv => cases hv; exact h1
 | 2, hv => cases hv; exact h2
 | 3, hv => cases hv; exact h3
 | n + 4, hv => simp at hv
theorem run_load_sv {oi : Oper} {ρ : Operand → Value} {W : World} {y : Operand} {g o : Nat} {vs : List Value} (ho : oi.op = .load 41 y) (hy : ρ y = .pointer (some ⟨g, o, none⟩)) (hl4 : vs.length = 4) (h : CellsAt W g o vs) :
  (execOp ρ oi).run Tryz.prog W = .ok (.value (.agg vs.toArray)) W := by
 have hl : (loadCells ⟨g, o, none⟩ 4).run Tryz.prog W = .ok vs.toArray W := by
  rw [← hl4]
  exact run_loadCells_list (P := Tryz.prog) W ⟨g, o, none⟩ vs fun j v hv => by rw [Addr.add_lit]; exact h j v hv
 have ha : (isAgg 41).run Tryz.prog W = .ok true W := by
  unfold isAgg
  rw [Sem.run_bind, run_underlying Tryz.underlying41 W]
  simp
 unfold execOp
 simp only [ho, hy, Instr.loadAt, Instr.sureAddr, Sem.run_bind, Sem.run_pure, Result.andThen_ok, loadVar, ha, if_true, Tryz.sizeOf41, hl]
theorem els_box1 {V : World} {p : Nat} {s : PM.Sl} (h : V.heap[p]? = some (.cells #[.int .i64 s.n, .int .i64 s.d, .int .u64 (s.m : Nat), .int .i64 s.c] 41 (0, 0))) : Els slC 4 V V.heap.size (some ⟨p, 0, none⟩) [s] := els_blk (C := slC) (l := [s]) (fun _ => rfl) h fun j v hj => by
 have hj : ([.int .i64 s.n, .int .i64 s.d, .int .u64 (s.m : Nat), .int .i64 s.c] : List Value)[j]? = some v := hj
 simpa using hj
section
variable {w : World} {r : Nat} {D : Nat → Prop} {fs : List Fr} {st : LS}
set_option maxHeartbeats 16000000 in
theorem rgrow_l (id : Int) (s : PM.Sl) (h : RL w r D fs st) (hO : SlOk s) (hv : st.ver ≤ 90000) :
  Calls Tryz.prog 33 #[.pointer (some ⟨r, 0, none⟩), .int .i64 id, slV s] w fun e w' => e = .returned (.int .i64 (LM.grow fs st id s).1) ∧ RNext w w' r D fs (LM.grow fs st id s).2 := by
 obtain ⟨sn, sd, sm, sc⟩ := s
 unfold slV
 simp only
 obtain ⟨E, hE, hED, hElt⟩ := h.tight
 obtain ⟨S, hSS⟩ : ∃ S, S = w.heap.size := ⟨_, rfl⟩
 obtain ⟨W0, hW0⟩ : ∃ W0, W0 = w.alloc (.cells #[.int .i64 sn, .int .i64 sd, .int .u64 (sm : Nat), .int .i64 sc] 41) := ⟨_, rfl⟩
 have hB0 : Below w.heap.size w W0 := by rw [hW0]; exact (Below.refl w.heap.size w).alloc (Nat.le_refl _) _
 have hbk0 : W0.heap[S]? = some (.cells #[.int .i64 sn, .int .i64 sd, .int .u64 (sm : Nat), .int .i64 sc] 41 (0, 0)) := by rw [hW0, hSS]; exact heap_alloc_new w _
 have hz0 : W0.heap.size = S + 1 := by rw [hW0, hSS]; simp
 have h0 := hE.keep hB0
 obtain ⟨q, al, tk, db, ra, a, b, A, c, L, h1, hD⟩ := h0
 have hL : L.length ≤ 90000 := by have := h1.ok.few; rw [← h1.hs, List.length_map] at this; omega
 have hFi := rfind_l id h1 (by omega)
 have hc := LM.find_cases id st.hs
 obtain ⟨_, _, d2, _⟩ := h1.own
 have HW0 := Lib.hid hW0
 have HB0 := Lib.hid hB0
 have HE := Lib.hid (And.intro hE (And.intro hED (And.intro hElt (And.intro hSS hv))))
 have HSame := Lib.hid (show RNext w W0 r D fs st from ((RNext.same (hE.keep hB0)).ahead hB0).mono hED)
 unfold LM.grow
 rcases hc with ⟨e1, e2⟩ | ⟨k, g, e1, e2, e3, e4⟩
 ·rw [e1] at hFi
  rw [e2]
  simp only
  have HFi := Lib.hid hFi
  clear hFi e1 e2 h1 hD hL d2 hv hbk0 hW0 hB0 h hE hED hElt hSS hz0
  go_enter Tryz.func33, Tryz.ntmps33
  go_wp2_with (go_at_call 74; rw [← HW0.out]; refine HFi.out.mono ?_; rintro e w' ⟨rfl, rfl⟩)
  go_ret
  exact ⟨rfl, HSame.out⟩
 rw [e1] at hFi
 rw [e4]
 simp only
 obtain ⟨x, G, hx, hxg, rfl, hG, hxc, hfz, hGr, hkL⟩ := h1.hold e2
 have hxm := List.mem_of_getElem? hx
 obtain ⟨N, hN⟩ : ∃ N, N = L.length := ⟨_, rfl⟩
 rw [← hN] at d2 hkL
 have f1 := hxc 1 _ rfl
 have f3 := hxc 3 _ rfl
 have f4 := hxc 4 _ rfl
 unfold hsV at f4
 rw [hxg] at f1 f3 f4
 obtain ⟨xq, hxq⟩ : ∃ v, v = g.q := ⟨_, rfl⟩
 obtain ⟨xr, hxr⟩ : ∃ v, v = g.run := ⟨_, rfl⟩
 obtain ⟨n, hn⟩ : ∃ v, v = g.sl.length := ⟨_, rfl⟩
 obtain ⟨yA, hyA⟩ : ∃ v, v = x.A := ⟨_, rfl⟩
 obtain ⟨yc, hyc⟩ : ∃ v, v = x.c := ⟨_, rfl⟩
 rw [← hxq] at f1
 rw [← hxr] at f3 ⊢
 rw [← hn, ← hyA, ← hyc] at f4
 rw [← hn]
 have HFi := Lib.hid hFi
 have t0 : decide ((k : Int) < 0) = false := decide_eq_false (by omega)
 have j1 : (k : Int) < (N : Int) := by omega
 have j0 : ¬ (k : Int) < 0 := by omega
 have H := Lib.hid (And.intro h1 (And.intro hD (And.intro hx (And.intro hxg (And.intro hxm (And.intro e2 (And.intro e3 hfz)))))))
 have HV := Lib.hid (And.intro hxq (And.intro hxr (And.intro hn (And.intro hyA (And.intro hyc hN)))))
 have hgo := h1.ok.ok g (List.mem_of_getElem? e2)
 have hn16 : n ≤ 16 := by rw [hn]; exact hgo.n2
 have HO := Lib.hid hO
 have HBK := Lib.hid hbk0
 clear hFi e1 e2 e3 e4 h1 hD hv hbk0 hW0 hB0 h hE hED hElt hx hxg hxc hfz hxm hN hxq hxr hn hyA hyc hgo hO
 cases xr
 ·rw [if_pos rfl]
  clear f1 f4
  go_enter Tryz.func33, Tryz.ntmps33
  go_wp2_with (go_at_call 74; rw [← HW0.out]; refine HFi.out.mono ?_; rintro e w' ⟨rfl, rfl⟩)
  go_ret
  exact ⟨rfl, HSame.out⟩
 rw [if_neg (by simp)]
 by_cases h16 : 16 ≤ n
 ·rw [if_pos h16]
  have u1 : decide (n ≥ 16) = true := decide_eq_true h16
  have u2 : decide (16 ≤ n) = true := decide_eq_true h16
  have u3 : decide ((n : Int) ≥ 16) = true := decide_eq_true (by omega)
  have u4 : decide ((16 : Int) ≤ (n : Int)) = true := decide_eq_true (by omega)
  clear f1 h16
  go_enter Tryz.func33, Tryz.ntmps33
  go_wp2_with (go_at_call 74; rw [← HW0.out]; refine HFi.out.mono ?_; rintro e w' ⟨rfl, rfl⟩)
  go_ret
  exact ⟨rfl, HSame.out⟩
 rw [if_neg h16]
 have u1 : decide (n ≥ 16) = false := decide_eq_false h16
 have u2 : decide (16 ≤ n) = false := decide_eq_false h16
 have u3 : decide ((n : Int) ≥ 16) = false := decide_eq_false (by omega)
 have u4 : decide ((16 : Int) ≤ (n : Int)) = false := decide_eq_false (by omega)
 obtain ⟨b0, b1, b2, b3⟩ : W0.cell? ⟨S, 0, none⟩ = some (.int .i64 sn) ∧ W0.cell? ⟨S, 1, none⟩ = some (.int .i64 sd) ∧ W0.cell? ⟨S, 2, none⟩ = some (.int .u64 (sm : Nat)) ∧ W0.cell? ⟨S, 3, none⟩ = some (.int .i64 sc) := ⟨cell_blk (i := 0) HBK.out rfl, cell_blk (i := 1) HBK.out rfl, cell_blk (i := 2) HBK.out rfl, cell_blk (i := 3) HBK.out rfl⟩
 obtain ⟨T, hT⟩ : ∃ T, T = LM.take fs st xq [⟨sn, sd, sm, sc⟩] := ⟨_, rfl⟩
 have hTq : LM.take fs st g.q [⟨sn, sd, sm, sc⟩] = T := by rw [hT, HV.out.1]
 rw [hTq]
 have lr : r < W0.heap.size := H.out.1.lts.1
 have lG : G < W0.heap.size := hG
 have lS : S < W0.heap.size := by omega
 have hgl := List.mem_of_getElem? H.out.2.2.2.2.2.1
 have HTk := Lib.hid (show ∀ W1 : World, Below W0.heap.size W0 W1 → W1.heap[W0.heap.size]? = some (.cells #[.int .i64 sn, .int .i64 sd, .int .u64 (sm : Nat), .int .i64 sc] 41 (0, 0)) →
   Calls Tryz.prog 75 #[.pointer (some ⟨r, 0, none⟩), .int .i64 xq, .slice (some ⟨W0.heap.size, 0, none⟩) 1 1] W1 (fun e w' => e = .returned (.int .i64 T.1) ∧ RLNext W1 w' r q al tk db ra a b (some ⟨G, 0, none⟩) c L fs T.2) from fun W1 hB hb => by
  have h9 := rtake_l xq (some ⟨W0.heap.size, 0, none⟩) 1 [⟨sn, sd, sm, sc⟩] (H.out.1.keep hB) (els_slots (els_box1 (s := ⟨sn, sd, sm, sc⟩) hb)) (fun s hs => by rw [List.mem_singleton] at hs; rw [hs]; exact HO.out) (by simp) (fun _ g' o e hb8 => by
   injection e with e; injection e with e
   subst e
   have := H.out.1.lts
   simp only [List.mem_cons, List.not_mem_nil, or_false] at hb8
   omega) (by rw [HV.out.1]; exact H.out.1.ok.q g hgl)
  rw [← hT] at h9
  exact h9)
 have hGF : ¬ (G = r ∨ G = q ∨ G = tk ∨ G = db ∨ G = b) := fun e => H.out.1.rown G 0 rfl (by rcases e with rfl | rfl | rfl | rfl | rfl <;> simp)
 have hSF : ¬ (S = r ∨ S = q ∨ S = tk ∨ S = db ∨ S = b) := fun e => by
  have h9 : ∀ i, i ∈ [r, q, al, tk, db, ra, a, b] → i < S := fun i hi => by rw [HE.out.2.2.2.1]; exact HE.out.2.2.1 i (H.out.2.1 i (.inl hi))
  have := h9 S (by rcases e with rfl | rfl | rfl | rfl | rfl <;> simp)
  omega
 have HK3 := Lib.hid (show ∀ W1 w3 : World, Below W0.heap.size W0 W1 → RLNext W1 w3 r q al tk db ra a b (some ⟨G, 0, none⟩) c L fs T.2 → (fun w' : World => w'.cell? ⟨r, 2, none⟩ = some (.slice (some ⟨G, 0, none⟩) N c) ∧ w'.cell? ⟨G, k * 5 + 1, none⟩ = some (.int .i64 xq) ∧ w'.cell? ⟨S, 0, none⟩ = some (.int .i64 sn) ∧ w'.cell? ⟨S, 1, none⟩ = some (.int .i64 sd) ∧ w'.cell? ⟨S, 2, none⟩ = some (.int .u64 (sm : Nat)) ∧ w'.cell? ⟨S, 3, none⟩ = some (.int .i64 sc)) W1 → (fun w' : World => w'.cell? ⟨r, 2, none⟩ = some (.slice (some ⟨G, 0, none⟩) N c) ∧ w'.cell? ⟨G, k * 5 + 1, none⟩ = some (.int .i64 xq) ∧ w'.cell? ⟨S, 0, none⟩ = some (.int .i64 sn) ∧ w'.cell? ⟨S, 1, none⟩ = some (.int .i64 sd) ∧ w'.cell? ⟨S, 2, none⟩ = some (.int .u64 (sm : Nat)) ∧ w'.cell? ⟨S, 3, none⟩ = some (.int .i64 sc)) w3 from fun W1 w3 hB hn hs => by
  obtain ⟨q2, tk2, db2, h2, hf, _⟩ := hn
  have := hB.size
  exact ⟨by have h9 := h2.own.2.2.1; rw [← HV.out.2.2.2.2.2] at h9; exact h9, (hf.cell (p := ⟨G, k * 5 + 1, none⟩) (show G < W1.heap.size by omega) hGF).trans hs.2.1, (hf.cell (p := ⟨S, 0, none⟩) (show S < W1.heap.size by omega) hSF).trans hs.2.2.1, (hf.cell (p := ⟨S, 1, none⟩) (show S < W1.heap.size by omega) hSF).trans hs.2.2.2.1, (hf.cell (p := ⟨S, 2, none⟩) (show S < W1.heap.size by omega) hSF).trans hs.2.2.2.2.1, (hf.cell (p := ⟨S, 3, none⟩) (show S < W1.heap.size by omega) hSF).trans hs.2.2.2.2.2⟩)
 have HT := Lib.hid hT
 have HGS := Lib.hid (And.intro hGF hSF)
 have HSS := Lib.hid hSS
 have hn15 : n < 16 := by omega
 clear hT hTq hgl hGF hSF h16
 obtain ⟨Te, hTe⟩ : ∃ Te, Te = T.1 := ⟨_, rfl⟩
 rw [← hTe] at HTk ⊢
 have HTe := Lib.hid hTe
 have HZ0 := Lib.hid hz0
 clear hTe hSS hz0
 by_cases hTz : Te ≠ 0
 ·rw [if_pos hTz]
  have t9 : (Te != 0) = true := by simp [hTz]
  have HTz := Lib.hid hTz
  clear hTz
  go_enter Tryz.func33, Tryz.ntmps33
  go_wp2_with (go_at_call 74; rw [← HW0.out, ← HSS.out]; refine HFi.out.mono ?_; rintro e w' ⟨rfl, rfl⟩)
  refine held_begin (fun w' : World => w'.cell? ⟨r, 2, none⟩ = some (.slice (some ⟨G, 0, none⟩) N c) ∧ w'.cell? ⟨G, k * 5 + 1, none⟩ = some (.int .i64 xq) ∧ w'.cell? ⟨S, 0, none⟩ = some (.int .i64 sn) ∧ w'.cell? ⟨S, 1, none⟩ = some (.int .i64 sd) ∧ w'.cell? ⟨S, 2, none⟩ = some (.int .u64 (sm : Nat)) ∧ w'.cell? ⟨S, 3, none⟩ = some (.int .i64 sc)) (by kernel_rfl) ?_
  have hS0 : (fun w' : World => w'.cell? ⟨r, 2, none⟩ = some (.slice (some ⟨G, 0, none⟩) N c) ∧ w'.cell? ⟨G, k * 5 + 1, none⟩ = some (.int .i64 xq) ∧ w'.cell? ⟨S, 0, none⟩ = some (.int .i64 sn) ∧ w'.cell? ⟨S, 1, none⟩ = some (.int .i64 sd) ∧ w'.cell? ⟨S, 2, none⟩ = some (.int .u64 (sm : Nat)) ∧ w'.cell? ⟨S, 3, none⟩ = some (.int .i64 sc)) W0.drew := ⟨d2, f1, b0, b1, b2, b3⟩
  refine held_takeK (v := ?_) 0 33 rfl rfl ⟨by rfl, ?_⟩ hS0 ?_
  rotate_left
  ·intro w' hw'; obtain ⟨x0, x1, x2, x3, x4, x5⟩ := hw'; go_simp; (try with_reducible rfl)
  simp only [Act.put, pzA, pzB, pzC]
  refine held_takeK (v := ?_) 1 34 rfl rfl ⟨by rfl, ?_⟩ hS0 ?_
  rotate_left
  ·intro w' hw'; obtain ⟨x0, x1, x2, x3, x4, x5⟩ := hw'; go_simp; (try with_reducible rfl)
  simp only [Act.put, pzA, pzB, pzC]
  refine held_takeK (v := ?_) 2 35 rfl rfl ⟨by rfl, ?_⟩ hS0 ?_
  rotate_left
  ·intro w' hw'; obtain ⟨x0, x1, x2, x3, x4, x5⟩ := hw'; go_simp; (try with_reducible rfl)
  simp only [Act.put, pzA, pzB, pzC]
  refine held_takeK (v := ?_) 3 36 rfl rfl ⟨by rfl, ?_⟩ hS0 ?_
  rotate_left
  ·intro w' hw'; obtain ⟨x0, x1, x2, x3, x4, x5⟩ := hw'; go_simp; (try with_reducible rfl)
  simp only [Act.put, pzA, pzB, pzC]
  refine held_takeK (v := ?_) 4 37 rfl rfl ⟨by rfl, ?_⟩ hS0 ?_
  rotate_left
  ·intro w' hw'; obtain ⟨x0, x1, x2, x3, x4, x5⟩ := hw'; go_simp; (try with_reducible rfl)
  simp only [Act.put, pzA, pzB, pzC]
  refine held_takeK (v := ?_) 5 38 rfl rfl ⟨by rfl, ?_⟩ hS0 ?_
  rotate_left
  ·intro w' hw'; obtain ⟨x0, x1, x2, x3, x4, x5⟩ := hw'; go_simp; (try with_reducible rfl)
  simp only [Act.put, pzA, pzB, pzC]
  refine held_takeK (v := ?_) 6 39 rfl rfl ⟨by rfl, ?_⟩ hS0 ?_
  rotate_left
  ·intro w' hw'; obtain ⟨x0, x1, x2, x3, x4, x5⟩ := hw'; go_simp; (try with_reducible rfl)
  simp only [Act.put, pzA, pzB, pzC]
  refine held_takeK (v := ?_) 7 40 rfl rfl ⟨by rfl, ?_⟩ hS0 ?_
  rotate_left
  ·intro w' hw'; obtain ⟨x0, x1, x2, x3, x4, x5⟩ := hw'; go_simp; (try with_reducible rfl)
  simp only [Act.put, pzA, pzB, pzC]
  refine held_takeK (v := ?_) 8 41 rfl rfl ⟨by rfl, ?_⟩ hS0 ?_
  rotate_left
  ·intro w' hw'; obtain ⟨x0, x1, x2, x3, x4, x5⟩ := hw'; go_simp; (try with_reducible rfl)
  simp only [Act.put, pzA, pzB, pzC]
  refine held_takeK (v := ?_) 9 42 rfl rfl ⟨by rfl, ?_⟩ hS0 ?_
  rotate_left
  ·intro w' hw'; obtain ⟨x0, x1, x2, x3, x4, x5⟩ := hw'; refine Eq.trans (run_load_sv (by rfl) (by rfl) rfl (clsat4 x2 x3 x4 x5)) ?_; (with_reducible rfl)
  simp only [Act.put, pzA, pzB, pzC]
  refine held_one 10 rfl (by kernel_rfl) (by rfl) (fun K hK => ?_)
  go_simp
  obtain ⟨W1, hW1⟩ : ∃ W, W = (W0.alloc (.cells #[.int .i64 sn, .int .i64 sd, .int .u64 (sm : Nat), .int .i64 sc] 41)).drew := ⟨_, rfl⟩
  (try rw [← hW1])
  have hB1 : Below W0.heap.size W0 W1 := by rw [hW1]; exact ((Below.refl W0.heap.size W0).alloc (Nat.le_refl _) _).drew
  have hb1 : W1.heap[W0.heap.size]? = some (.cells #[.int .i64 sn, .int .i64 sd, .int .u64 (sm : Nat), .int .i64 sc] 41 (0, 0)) := by rw [hW1]; exact heap_alloc_new W0 _
  have hS1 : (fun w' : World => w'.cell? ⟨r, 2, none⟩ = some (.slice (some ⟨G, 0, none⟩) N c) ∧ w'.cell? ⟨G, k * 5 + 1, none⟩ = some (.int .i64 xq) ∧ w'.cell? ⟨S, 0, none⟩ = some (.int .i64 sn) ∧ w'.cell? ⟨S, 1, none⟩ = some (.int .i64 sd) ∧ w'.cell? ⟨S, 2, none⟩ = some (.int .u64 (sm : Nat)) ∧ w'.cell? ⟨S, 3, none⟩ = some (.int .i64 sc)) W1 := ⟨(hB1.cell (p := ⟨r, 2, none⟩) lr).trans d2, (hB1.cell (p := ⟨G, k * 5 + 1, none⟩) lG).trans f1, (hB1.cell (p := ⟨S, 0, none⟩) lS).trans b0, (hB1.cell (p := ⟨S, 1, none⟩) lS).trans b1, (hB1.cell (p := ⟨S, 2, none⟩) lS).trans b2, (hB1.cell (p := ⟨S, 3, none⟩) lS).trans b3⟩
  refine hK.out _ _ hS1 ?_
  clear hK K
  try simp only [Act.put, pzA, pzB, pzC]
  refine held_one 11 rfl (by kernel_rfl) (by rfl) (fun K hK => ?_)
  go_simp
  go_at_call 75
  (try rw [← hW1])
  refine (HTk.out W1 hB1 hb1).mono ?_
  rintro e w3 ⟨rfl, hn3⟩
  have hS3 : (fun w' : World => w'.cell? ⟨r, 2, none⟩ = some (.slice (some ⟨G, 0, none⟩) N c) ∧ w'.cell? ⟨G, k * 5 + 1, none⟩ = some (.int .i64 xq) ∧ w'.cell? ⟨S, 0, none⟩ = some (.int .i64 sn) ∧ w'.cell? ⟨S, 1, none⟩ = some (.int .i64 sd) ∧ w'.cell? ⟨S, 2, none⟩ = some (.int .u64 (sm : Nat)) ∧ w'.cell? ⟨S, 3, none⟩ = some (.int .i64 sc)) w3 := HK3.out W1 w3 hB1 hn3 hS1
  have HN3 := Lib.hid hn3
  have HB1 := Lib.hid hB1
  clear hn3
  refine hK.out _ _ hS3 ?_
  clear hK K
  try simp only [Act.put, pzA, pzB, pzC]
  refine held_takeK (v := ?_) 12 8 rfl rfl ⟨by rfl, ?_⟩ hS3 ?_
  rotate_left
  ·intro w' hw'; obtain ⟨x0, x1, x2, x3, x4, x5⟩ := hw'; go_simp; (try with_reducible rfl)
  simp only [Act.put, pzA, pzB, pzC]
  refine wpAnyH_done (by kernel_rfl) ?_ _
  clear hW1 hb1 hB1 hS1 hS0
  go_wp2
  go_ret
  refine ⟨rfl, ?_⟩
  have h9 := RLNext.rnext H.out.2.1 HN3.out
  have h8 : T.2 = st := by rw [HT.out]; exact LM.take_err (by rw [← HT.out, ← HTe.out]; exact HTz.out)
  rw [h8] at h9
  exact ((h9.ahead HB1.out).ahead HB0.out).mono HE.out.2.1
 rw [if_neg hTz]
 obtain rfl : Te = 0 := Classical.not_not.1 hTz
 clear hTz
 have t9 : ((0 : Int) != 0) = false := rfl
 obtain ⟨j9, gi, gz0, gz1, gz2⟩ := info_parts info_slot
 go_enter Tryz.func33, Tryz.ntmps33
 go_wp2_with (go_at_call 74; rw [← HW0.out, ← HSS.out]; refine HFi.out.mono ?_; rintro e w' ⟨rfl, rfl⟩)
 refine held_begin (fun w' : World => w'.cell? ⟨r, 2, none⟩ = some (.slice (some ⟨G, 0, none⟩) N c) ∧ w'.cell? ⟨G, k * 5 + 1, none⟩ = some (.int .i64 xq) ∧ w'.cell? ⟨S, 0, none⟩ = some (.int .i64 sn) ∧ w'.cell? ⟨S, 1, none⟩ = some (.int .i64 sd) ∧ w'.cell? ⟨S, 2, none⟩ = some (.int .u64 (sm : Nat)) ∧ w'.cell? ⟨S, 3, none⟩ = some (.int .i64 sc)) (by kernel_rfl) ?_
 have hS0 : (fun w' : World => w'.cell? ⟨r, 2, none⟩ = some (.slice (some ⟨G, 0, none⟩) N c) ∧ w'.cell? ⟨G, k * 5 + 1, none⟩ = some (.int .i64 xq) ∧ w'.cell? ⟨S, 0, none⟩ = some (.int .i64 sn) ∧ w'.cell? ⟨S, 1, none⟩ = some (.int .i64 sd) ∧ w'.cell? ⟨S, 2, none⟩ = some (.int .u64 (sm : Nat)) ∧ w'.cell? ⟨S, 3, none⟩ = some (.int .i64 sc)) W0.drew := ⟨d2, f1, b0, b1, b2, b3⟩
 refine held_takeK (v := ?_) 0 33 rfl rfl ⟨by rfl, ?_⟩ hS0 ?_
 rotate_left
 ·intro w' hw'; obtain ⟨x0, x1, x2, x3, x4, x5⟩ := hw'; go_simp; (try with_reducible rfl)
 simp only [Act.put, pzA, pzB, pzC]
 refine held_takeK (v := ?_) 1 34 rfl rfl ⟨by rfl, ?_⟩ hS0 ?_
 rotate_left
 ·intro w' hw'; obtain ⟨x0, x1, x2, x3, x4, x5⟩ := hw'; go_simp; (try with_reducible rfl)
 simp only [Act.put, pzA, pzB, pzC]
 refine held_takeK (v := ?_) 2 35 rfl rfl ⟨by rfl, ?_⟩ hS0 ?_
 rotate_left
 ·intro w' hw'; obtain ⟨x0, x1, x2, x3, x4, x5⟩ := hw'; go_simp; (try with_reducible rfl)
 simp only [Act.put, pzA, pzB, pzC]
 refine held_takeK (v := ?_) 3 36 rfl rfl ⟨by rfl, ?_⟩ hS0 ?_
 rotate_left
 ·intro w' hw'; obtain ⟨x0, x1, x2, x3, x4, x5⟩ := hw'; go_simp; (try with_reducible rfl)
 simp only [Act.put, pzA, pzB, pzC]
 refine held_takeK (v := ?_) 4 37 rfl rfl ⟨by rfl, ?_⟩ hS0 ?_
 rotate_left
 ·intro w' hw'; obtain ⟨x0, x1, x2, x3, x4, x5⟩ := hw'; go_simp; (try with_reducible rfl)
 simp only [Act.put, pzA, pzB, pzC]
 refine held_takeK (v := ?_) 5 38 rfl rfl ⟨by rfl, ?_⟩ hS0 ?_
 rotate_left
 ·intro w' hw'; obtain ⟨x0, x1, x2, x3, x4, x5⟩ := hw'; go_simp; (try with_reducible rfl)
 simp only [Act.put, pzA, pzB, pzC]
 refine held_takeK (v := ?_) 6 39 rfl rfl ⟨by rfl, ?_⟩ hS0 ?_
 rotate_left
 ·intro w' hw'; obtain ⟨x0, x1, x2, x3, x4, x5⟩ := hw'; go_simp; (try with_reducible rfl)
 simp only [Act.put, pzA, pzB, pzC]
 refine held_takeK (v := ?_) 7 40 rfl rfl ⟨by rfl, ?_⟩ hS0 ?_
 rotate_left
 ·intro w' hw'; obtain ⟨x0, x1, x2, x3, x4, x5⟩ := hw'; go_simp; (try with_reducible rfl)
 simp only [Act.put, pzA, pzB, pzC]
 refine held_takeK (v := ?_) 8 41 rfl rfl ⟨by rfl, ?_⟩ hS0 ?_
 rotate_left
 ·intro w' hw'; obtain ⟨x0, x1, x2, x3, x4, x5⟩ := hw'; go_simp; (try with_reducible rfl)
 simp only [Act.put, pzA, pzB, pzC]
 refine held_takeK (v := ?_) 9 42 rfl rfl ⟨by rfl, ?_⟩ hS0 ?_
 rotate_left
 ·intro w' hw'; obtain ⟨x0, x1, x2, x3, x4, x5⟩ := hw'; refine Eq.trans (run_load_sv (by rfl) (by rfl) rfl (clsat4 x2 x3 x4 x5)) ?_; (with_reducible rfl)
 simp only [Act.put, pzA, pzB, pzC]
 refine held_one 10 rfl (by kernel_rfl) (by rfl) (fun K hK => ?_)
 go_simp
 obtain ⟨W1, hW1⟩ : ∃ W, W = (W0.alloc (.cells #[.int .i64 sn, .int .i64 sd, .int .u64 (sm : Nat), .int .i64 sc] 41)).drew := ⟨_, rfl⟩
 (try rw [← hW1])
 have hB1 : Below W0.heap.size W0 W1 := by rw [hW1]; exact ((Below.refl W0.heap.size W0).alloc (Nat.le_refl _) _).drew
 have hb1 : W1.heap[W0.heap.size]? = some (.cells #[.int .i64 sn, .int .i64 sd, .int .u64 (sm : Nat), .int .i64 sc] 41 (0, 0)) := by rw [hW1]; exact heap_alloc_new W0 _
 have hS1 : (fun w' : World => w'.cell? ⟨r, 2, none⟩ = some (.slice (some ⟨G, 0, none⟩) N c) ∧ w'.cell? ⟨G, k * 5 + 1, none⟩ = some (.int .i64 xq) ∧ w'.cell? ⟨S, 0, none⟩ = some (.int .i64 sn) ∧ w'.cell? ⟨S, 1, none⟩ = some (.int .i64 sd) ∧ w'.cell? ⟨S, 2, none⟩ = some (.int .u64 (sm : Nat)) ∧ w'.cell? ⟨S, 3, none⟩ = some (.int .i64 sc)) W1 := ⟨(hB1.cell (p := ⟨r, 2, none⟩) lr).trans d2, (hB1.cell (p := ⟨G, k * 5 + 1, none⟩) lG).trans f1, (hB1.cell (p := ⟨S, 0, none⟩) lS).trans b0, (hB1.cell (p := ⟨S, 1, none⟩) lS).trans b1, (hB1.cell (p := ⟨S, 2, none⟩) lS).trans b2, (hB1.cell (p := ⟨S, 3, none⟩) lS).trans b3⟩
 refine hK.out _ _ hS1 ?_
 clear hK K
 try simp only [Act.put, pzA, pzB, pzC]
 refine held_one 11 rfl (by kernel_rfl) (by rfl) (fun K hK => ?_)
 go_simp
 go_at_call 75
 (try rw [← hW1])
 refine (HTk.out W1 hB1 hb1).mono ?_
 rintro e w3 ⟨rfl, hn3⟩
 have hS3 : (fun w' : World => w'.cell? ⟨r, 2, none⟩ = some (.slice (some ⟨G, 0, none⟩) N c) ∧ w'.cell? ⟨G, k * 5 + 1, none⟩ = some (.int .i64 xq) ∧ w'.cell? ⟨S, 0, none⟩ = some (.int .i64 sn) ∧ w'.cell? ⟨S, 1, none⟩ = some (.int .i64 sd) ∧ w'.cell? ⟨S, 2, none⟩ = some (.int .u64 (sm : Nat)) ∧ w'.cell? ⟨S, 3, none⟩ = some (.int .i64 sc)) w3 := HK3.out W1 w3 hB1 hn3 hS1
 have HN3 := Lib.hid hn3
 have HB1 := Lib.hid hB1
 clear hn3
 refine hK.out _ _ hS3 ?_
 clear hK K
 try simp only [Act.put, pzA, pzB, pzC]
 refine held_takeK (v := ?_) 12 8 rfl rfl ⟨by rfl, ?_⟩ hS3 ?_
 rotate_left
 ·intro w' hw'; obtain ⟨x0, x1, x2, x3, x4, x5⟩ := hw'; go_simp; (try with_reducible rfl)
 simp only [Act.put, pzA, pzB, pzC]
 refine wpAnyH_done (by kernel_rfl) ?_ _
 clear hW1 hb1 hB1 hS1 hS0
 obtain ⟨q2, tk2, db2, h2, hf3, y1, y2, y3⟩ := HN3.out
 have hkeep := LM.take_keeps fs st xq [⟨sn, sd, sm, sc⟩]
 rw [← HT.out] at hkeep
 have hs1 := HB1.out.size
 have hs3 := hf3.size
 have f4' : w3.cell? ⟨G, k * 5 + 4, none⟩ = some (.slice yA n yc) := (hf3.cell (p := ⟨G, k * 5 + 4, none⟩) (show G < W1.heap.size by omega) HGS.out.1).trans ((HB1.out.cell (p := ⟨G, k * 5 + 4, none⟩) lG).trans f4)
 clear d2 b0 b1 b2 b3 f1 f3 f4
 have f4 := f4'
 clear f4'
 obtain ⟨d2, _, b0, b1, b2, b3⟩ := hS3
 have l_r : r < w3.heap.size := by omega
 have l_G : G < w3.heap.size := by omega
 have l_S : S < w3.heap.size := by omega
 have hsx := h2.sl x H.out.2.2.2.2.1
 have hxg := H.out.2.2.2.1
 have HSE := Lib.hid (show Els slC 4 w3 w3.heap.size yA g.sl by rw [← hxg, HV.out.2.2.2.1]; exact slots_els hsx)
 have HG := Lib.hid (show n = g.sl.length from HV.out.2.2.1)
 have HBX := Lib.hid (fun (V : World) (p : Nat) (h : V.heap[p]? = some (.cells #[.int .i64 sn, .int .i64 sd, .int .u64 (sm : Nat), .int .i64 sc] 41 (0, 0))) => els_box1 (s := ⟨sn, sd, sm, sc⟩) h)
 have hk2 : T.2.hs[k]? = some g := by rw [hkeep.1]; exact H.out.2.2.2.2.2.1
 have HZ := Lib.hid (show ∀ W, Below w3.heap.size w3 W → W.frozen? ⟨G, k * 5 + 4, none⟩ = false from fun W hb => by
  obtain ⟨_, G', _, _, hA', _, _, hfz', _⟩ := (h2.keep hb).hold hk2
  injection hA' with hA'; injection hA' with hA'
  rw [hA']; exact hfz' _)
 have HV3 := Lib.hid (show T.2.ver ≤ 90000 by rw [hkeep.2.1]; exact HE.out.2.2.2.2)
 have hD8 : ∀ i, i ∈ [r, q, al, tk, db, ra, a, b] → D i := fun i hi => HE.out.2.1 i (H.out.2.1 i (.inl hi))
 have hDG : D G := HE.out.2.1 G (H.out.2.1 G (.inr (.inl ⟨0, rfl⟩)))
 have hs0 := HB0.out.size
 have HFin := Lib.hid (show ∀ (wz : World) (A7 : Option Addr) (c7 : Nat), Below w3.heap.size w3 wz → wz.ownsRow w3.heap.size 41 4 (.slice A7 (n + 1) c7) (n + 1) ((g.sl ++ [(⟨sn, sd, sm, sc⟩ : PM.Sl)]).flatMap slC) →
   RLAt (wz.setCell ⟨G, k * 5 + 4, none⟩ (.slice A7 (n + 1) c7)) r q2 al tk2 db2 ra a b (some ⟨G, 0, none⟩) c (L.set k ⟨{ x.h with sl := x.h.sl ++ [(⟨sn, sd, sm, sc⟩ : PM.Sl)] }, A7, c7⟩) fs { T.2 with hs := LM.upd id (fun h => { h with sl := h.sl ++ [(⟨sn, sd, sm, sc⟩ : PM.Sl)] }) st.hs } ∧
   ∀ w12, RLAt w12 r q2 al tk2 db2 ra a b (some ⟨G, 0, none⟩) c (L.set k ⟨{ x.h with sl := x.h.sl ++ [(⟨sn, sd, sm, sc⟩ : PM.Sl)] }, A7, c7⟩) fs (LM.doneS 0 { T.2 with hs := LM.upd id (fun h => { h with sl := h.sl ++ [(⟨sn, sd, sm, sc⟩ : PM.Sl)] }) st.hs }) → Foot (· = r) (wz.setCell ⟨G, k * 5 + 4, none⟩ (.slice A7 (n + 1) c7)) w12 →
    RNext w w12 r D fs (LM.up { T.2 with hs := LM.upd id (fun h => { h with sl := h.sl ++ [(⟨sn, sd, sm, sc⟩ : PM.Sl)] }) st.hs }) from fun wz A7 c7 hbz hown => by
  have hx := H.out.2.2.1
  have hgm := List.mem_of_getElem? H.out.2.2.2.2.2.1
  have hlen : (x.h.sl ++ [(⟨sn, sd, sm, sc⟩ : PM.Sl)]).length = n + 1 := by rw [List.length_append, hxg, ← HG.out]; rfl
  have hA7 : ∀ g o, A7 = some ⟨g, o, none⟩ → w3.heap.size ≤ g := fun g o e => by
   subst e
   exact (hown.lt g rfl).1
  have hsz := hbz.size
  obtain ⟨W', hW'⟩ : ∃ W', W' = wz.setCell ⟨G, k * 5 + 4, none⟩ (.slice A7 (n + 1) c7) := ⟨_, rfl⟩
  rw [← hW']
  have hfW : Foot (fun i => ∃ o, (some ⟨G, 0, none⟩ : Option Addr) = some ⟨i, o, none⟩) w3 W' := by rw [hW']; exact (Foot.of_below hbz).setCell (p := ⟨G, k * 5 + 4, none⟩) (.inl ⟨0, rfl⟩) _
  have hsW : Slots W' W'.heap.size A7 (x.h.sl ++ [(⟨sn, sd, sm, sc⟩ : PM.Sl)]) := by
   have h9 : Slots wz wz.heap.size A7 (x.h.sl ++ [(⟨sn, sd, sm, sc⟩ : PM.Sl)]) := own_slots (c := c7) (by rw [hlen, hxg]; exact hown)
   refine h9.off2 (by rw [hW']; simp) fun g' o e hg => ?_
   rw [hW']
   exact Below.heap_setCell _ _ _ _ (show g' ≠ G by have := hA7 g' o e; omega)
  have hsi := LM.take_all (fs := fs) (st := st) (q := xq) (sl := [⟨sn, sd, sm, sc⟩]) (by rw [← HT.out, ← HTe.out]) (by obtain ⟨ca, ct, cd, hp⟩ := H.out.1.pool; exact hp.ok) (by obtain ⟨ca, ct, cd, hp⟩ := H.out.1.pool; exact hp.inv) (fun s hs => by rw [List.mem_singleton] at hs; rw [hs]; exact HO.out)
  have hup : LM.upd id (fun h => { h with sl := h.sl ++ [(⟨sn, sd, sm, sc⟩ : PM.Sl)] }) st.hs = st.hs.set k { g with sl := g.sl ++ [(⟨sn, sd, sm, sc⟩ : PM.Sl)] } := by
   rw [← H.out.2.2.2.2.2.2.1]; exact LM.upd_set _ H.out.1.ok.asc H.out.2.2.2.2.2.1
  have h8 := H.out.1.ok.ok g hgm
  have hok : LOk { T.2 with hs := LM.upd id (fun h => { h with sl := h.sl ++ [(⟨sn, sd, sm, sc⟩ : PM.Sl)] }) st.hs } := by
   have h9 := h2.ok.upd (g := g) (g' := { g with sl := g.sl ++ [(⟨sn, sd, sm, sc⟩ : PM.Sl)] }) (by rw [hkeep.1]; exact hgm) rfl ⟨h8.id, h8.q, h8.un, by simp, by simp only [List.length_append, List.length_singleton]; rw [← HG.out]; omega, fun s hs => by
    rcases List.mem_append.1 hs with hs | hs
    ·exact h8.sl s hs
    ·exact hsi s hs⟩ (h2.ok.q g (by rw [hkeep.1]; exact hgm))
   have e9 : LM.upd g.id (fun _ => { g with sl := g.sl ++ [(⟨sn, sd, sm, sc⟩ : PM.Sl)] }) st.hs = LM.upd id (fun h => { h with sl := h.sl ++ [(⟨sn, sd, sm, sc⟩ : PM.Sl)] }) st.hs := by
    rw [hup, LM.upd_set _ H.out.1.ok.asc H.out.2.2.2.2.2.1]
   rw [hkeep.1, e9] at h9
   exact h9
  have h7 := h2.wrote (w' := W') (k := k) (x := x) (x' := ⟨{ x.h with sl := x.h.sl ++ [(⟨sn, sd, sm, sc⟩ : PM.Sl)] }, A7, c7⟩) (hs' := LM.upd id (fun h => { h with sl := h.sl ++ [(⟨sn, sd, sm, sc⟩ : PM.Sl)] }) st.hs) hx hfW (by
    have r1 := own_set (j := k * 5 + 4) (.slice A7 (n + 1) c7) (h2.keep hbz).row
    have x1 := flat_set1 (C := hsC) hsC_len (L := L) (i := k) (r := 4) (x := x) (x' := ⟨{ x.h with sl := x.h.sl ++ [(⟨sn, sd, sm, sc⟩ : PM.Sl)] }, A7, c7⟩) (v := .slice A7 (n + 1) c7) hx (by omega) (by rw [← hlen]; rfl)
    rw [x1, hW']; exact r1) (by rw [hup, ← hkeep.1, ← h2.hs, List.map_set, ← hxg]) hok (.inr ⟨hsW, hA7⟩) (by rw [hlen]; exact own_cap hown)
  refine ⟨h7, fun w12 h12 hf12 => ?_⟩
  have h13 := h12
  unfold LM.doneS at h13
  rw [if_pos rfl] at h13
  have hfE : Foot D w w12 := ((((Foot.of_below (F := D) HB0.out).trans (Foot.of_below (F := D) HB1.out) fun i hi => .inl hi).trans (hf3.mono fun i hi => hD8 i (by rcases hi with rfl | rfl | rfl | rfl | rfl <;> simp)) fun i hi => .inl hi).trans hfW fun i ⟨o, e⟩ => .inl (by injection e with e; injection e with e; subst e; exact hDG)).trans hf12 fun i hi => .inl (by rw [hi]; exact hD8 r (by simp))
  refine RNext.of h13 hfE fun i hi => ?_
  rcases hi with hi | ⟨o, e⟩ | ⟨y, hy, o, e⟩
  ·simp only [List.mem_cons, List.not_mem_nil, or_false] at hi
   rcases hi with rfl | rfl | rfl | rfl | rfl | rfl | rfl | rfl
   ·exact .inl (hD8 _ (by simp))
   ·rcases y1 with rfl | y1
    ·exact .inl (hD8 _ (by simp))
    ·exact .inr (by omega)
   ·exact .inl (hD8 _ (by simp))
   ·rcases y2 with rfl | y2
    ·exact .inl (hD8 _ (by simp))
    ·exact .inr (by omega)
   ·rcases y3 with rfl | y3
    ·exact .inl (hD8 _ (by simp))
    ·exact .inr (by omega)
   ·exact .inl (hD8 _ (by simp))
   ·exact .inl (hD8 _ (by simp))
   ·exact .inl (hD8 _ (by simp))
  ·injection e with e; injection e with e
   subst e
   exact .inl hDG
  ·rcases List.mem_or_eq_of_mem_set hy with hy | rfl
   ·exact .inl (HE.out.2.1 i (H.out.2.1 i (.inr (.inr ⟨y, hy, o, e⟩))))
   ·have := hA7 i o e
    exact .inr (by omega))
 clear h2 hf3 y1 y2 y3 hkeep hs1 hs3 hsx hxg hk2 hD8 hDG hs0 HTk HK3
 go_wp2_with fail
 refine wp_until (fun w' : World => w'.cell? ⟨r, 2, none⟩ = some (.slice (some ⟨G, 0, none⟩) N c) ∧ w'.cell? ⟨G, k * 5 + 4, none⟩ = some (.slice yA n yc) ∧ w'.cell? ⟨S, 0, none⟩ = some (.int .i64 sn) ∧ w'.cell? ⟨S, 1, none⟩ = some (.int .i64 sd) ∧ w'.cell? ⟨S, 2, none⟩ = some (.int .u64 (sm : Nat)) ∧ w'.cell? ⟨S, 3, none⟩ = some (.int .i64 sc)) 20 (by kernel_rfl) ?_
 have hBz0 : Below w3.heap.size w3 w3.drew := (Below.refl _ _).drew
 have hSz0 : (fun w' : World => w'.cell? ⟨r, 2, none⟩ = some (.slice (some ⟨G, 0, none⟩) N c) ∧ w'.cell? ⟨G, k * 5 + 4, none⟩ = some (.slice yA n yc) ∧ w'.cell? ⟨S, 0, none⟩ = some (.int .i64 sn) ∧ w'.cell? ⟨S, 1, none⟩ = some (.int .i64 sd) ∧ w'.cell? ⟨S, 2, none⟩ = some (.int .u64 (sm : Nat)) ∧ w'.cell? ⟨S, 3, none⟩ = some (.int .i64 sc)) w3.drew := ⟨d2, f4, b0, b1, b2, b3⟩
 generalize w3.drew = wz0 at hBz0 hSz0 ⊢
 have szz0 := hBz0.size
 refine until_take (v := ?_) 0 48 rfl rfl (by kernel_rfl) (by kernel_rfl) (by kernel_rfl) (by kernel_rfl) (fun _ _ _ h => h) ⟨by rfl, ?_⟩ hSz0 ?_
 rotate_left
 ·intro w' hw'; obtain ⟨x0, x1, x2, x3, x4, x5⟩ := hw'; go_simp; (try with_reducible rfl)
 simp only [Act.put, pzA, pzB, pzC]
 refine until_take (v := ?_) 1 49 rfl rfl (by kernel_rfl) (by kernel_rfl) (by kernel_rfl) (by kernel_rfl) (fun _ _ _ h => h) ⟨by rfl, ?_⟩ hSz0 ?_
 rotate_left
 ·intro w' hw'; obtain ⟨x0, x1, x2, x3, x4, x5⟩ := hw'; go_simp; (try with_reducible rfl)
 simp only [Act.put, pzA, pzB, pzC]
 refine until_take (v := ?_) 2 50 rfl rfl (by kernel_rfl) (by kernel_rfl) (by kernel_rfl) (by kernel_rfl) (fun _ _ _ h => h) ⟨by rfl, ?_⟩ hSz0 ?_
 rotate_left
 ·intro w' hw'; obtain ⟨x0, x1, x2, x3, x4, x5⟩ := hw'; go_simp; (try with_reducible rfl)
 simp only [Act.put, pzA, pzB, pzC]
 refine until_take (v := ?_) 3 51 rfl rfl (by kernel_rfl) (by kernel_rfl) (by kernel_rfl) (by kernel_rfl) (fun _ _ _ h => h) ⟨by rfl, ?_⟩ hSz0 ?_
 rotate_left
 ·intro w' hw'; obtain ⟨x0, x1, x2, x3, x4, x5⟩ := hw'; go_simp; (try with_reducible rfl)
 simp only [Act.put, pzA, pzB, pzC]
 refine until_take (v := ?_) 4 52 rfl rfl (by kernel_rfl) (by kernel_rfl) (by kernel_rfl) (by kernel_rfl) (fun _ _ _ h => h) ⟨by rfl, ?_⟩ hSz0 ?_
 rotate_left
 ·intro w' hw'; obtain ⟨x0, x1, x2, x3, x4, x5⟩ := hw'; go_simp; (try with_reducible rfl)
 simp only [Act.put, pzA, pzB, pzC]
 refine until_take (v := ?_) 6 54 rfl rfl (by kernel_rfl) (by kernel_rfl) (by kernel_rfl) (by kernel_rfl) (fun _ _ _ h => h) ⟨by rfl, ?_⟩ hSz0 ?_
 rotate_left
 ·intro w' hw'; obtain ⟨x0, x1, x2, x3, x4, x5⟩ := hw'; go_simp; (try with_reducible rfl)
 simp only [Act.put, pzA, pzB, pzC]
 refine until_take (v := ?_) 7 55 rfl rfl (by kernel_rfl) (by kernel_rfl) (by kernel_rfl) (by kernel_rfl) (fun _ _ _ h => h) ⟨by rfl, ?_⟩ hSz0 ?_
 rotate_left
 ·intro w' hw'; obtain ⟨x0, x1, x2, x3, x4, x5⟩ := hw'; go_simp; (try with_reducible rfl)
 simp only [Act.put, pzA, pzB, pzC]
 refine until_take (v := ?_) 8 56 rfl rfl (by kernel_rfl) (by kernel_rfl) (by kernel_rfl) (by kernel_rfl) (fun _ _ _ h => h) ⟨by rfl, ?_⟩ hSz0 ?_
 rotate_left
 ·intro w' hw'; obtain ⟨x0, x1, x2, x3, x4, x5⟩ := hw'; go_simp; (try with_reducible rfl)
 simp only [Act.put, pzA, pzB, pzC]
 refine until_take (v := ?_) 9 57 rfl rfl (by kernel_rfl) (by kernel_rfl) (by kernel_rfl) (by kernel_rfl) (fun _ _ _ h => h) ⟨by rfl, ?_⟩ hSz0 ?_
 rotate_left
 ·intro w' hw'; obtain ⟨x0, x1, x2, x3, x4, x5⟩ := hw'; go_simp; (try with_reducible rfl)
 simp only [Act.put, pzA, pzB, pzC]
 refine until_take (v := ?_) 10 58 rfl rfl (by kernel_rfl) (by kernel_rfl) (by kernel_rfl) (by kernel_rfl) (fun _ _ _ h => h) ⟨by rfl, ?_⟩ hSz0 ?_
 rotate_left
 ·intro w' hw'; obtain ⟨x0, x1, x2, x3, x4, x5⟩ := hw'; go_simp; (try with_reducible rfl)
 simp only [Act.put, pzA, pzB, pzC]
 refine until_take (v := ?_) 11 59 rfl rfl (by kernel_rfl) (by kernel_rfl) (by kernel_rfl) (by kernel_rfl) (fun _ _ _ h => h) ⟨by rfl, ?_⟩ hSz0 ?_
 rotate_left
 ·intro w' hw'; obtain ⟨x0, x1, x2, x3, x4, x5⟩ := hw'; go_simp; (try with_reducible rfl)
 simp only [Act.put, pzA, pzB, pzC]
 refine until_take (v := ?_) 12 60 rfl rfl (by kernel_rfl) (by kernel_rfl) (by kernel_rfl) (by kernel_rfl) (fun _ _ _ h => h) ⟨by rfl, ?_⟩ hSz0 ?_
 rotate_left
 ·intro w' hw'; obtain ⟨x0, x1, x2, x3, x4, x5⟩ := hw'; go_simp; (try with_reducible rfl)
 simp only [Act.put, pzA, pzB, pzC]
 refine until_take (v := ?_) 13 61 rfl rfl (by kernel_rfl) (by kernel_rfl) (by kernel_rfl) (by kernel_rfl) (fun _ _ _ h => h) ⟨by rfl, ?_⟩ hSz0 ?_
 rotate_left
 ·intro w' hw'; obtain ⟨x0, x1, x2, x3, x4, x5⟩ := hw'; go_simp; (try with_reducible rfl)
 simp only [Act.put, pzA, pzB, pzC]
 refine until_take (v := ?_) 15 63 rfl rfl (by kernel_rfl) (by kernel_rfl) (by kernel_rfl) (by kernel_rfl) (fun _ _ _ h => h) ⟨by rfl, ?_⟩ hSz0 ?_
 rotate_left
 ·intro w' hw'; obtain ⟨x0, x1, x2, x3, x4, x5⟩ := hw'; refine Eq.trans (run_load_sv (by rfl) (by rfl) rfl (clsat4 x2 x3 x4 x5)) ?_; (with_reducible rfl)
 simp only [Act.put, pzA, pzB, pzC]
 refine until_two 5 16 rfl rfl (by kernel_rfl) rfl rfl (fun K hK => ?_) (fun K hK => ?_)
 ·go_simp
  obtain ⟨wza, hwza⟩ : ∃ wld9, wld9 = wz0.alloc (.cells #[] 41) := ⟨_, rfl⟩
  have hBwza : Below w3.heap.size w3 wza := by rw [hwza]; exact hBz0.alloc hBz0.size _
  have szwza := hBwza.size
  have stwza : wz0.heap.size < wza.heap.size := by rw [hwza]; simp
  have bbwza : Below wz0.heap.size wz0 wza := by rw [hwza]; exact (Below.refl _ _).alloc (Nat.le_refl _) _
  have ownE : wza.ownsRow w3.heap.size 41 4 (.slice (some ⟨wz0.heap.size, 0, none⟩) 0 0) 0 [] := by rw [hwza]; exact World.ownsRow_lit wz0 #[] 0 (by have := hBz0.size; omega) (by unfold maxLen; omega) rfl
  have hSwza : (fun w' : World => w'.cell? ⟨r, 2, none⟩ = some (.slice (some ⟨G, 0, none⟩) N c) ∧ w'.cell? ⟨G, k * 5 + 4, none⟩ = some (.slice yA n yc) ∧ w'.cell? ⟨S, 0, none⟩ = some (.int .i64 sn) ∧ w'.cell? ⟨S, 1, none⟩ = some (.int .i64 sd) ∧ w'.cell? ⟨S, 2, none⟩ = some (.int .u64 (sm : Nat)) ∧ w'.cell? ⟨S, 3, none⟩ = some (.int .i64 sc)) wza := ⟨(hBwza.cell (p := ⟨r, 2, none⟩) (l_r)).trans d2, (hBwza.cell (p := ⟨G, k * 5 + 4, none⟩) (l_G)).trans f4, (hBwza.cell (p := ⟨S, 0, none⟩) (l_S)).trans b0, (hBwza.cell (p := ⟨S, 1, none⟩) (l_S)).trans b1, (hBwza.cell (p := ⟨S, 2, none⟩) (l_S)).trans b2, (hBwza.cell (p := ⟨S, 3, none⟩) (l_S)).trans b3⟩
  rw [← hwza]
  refine hK.out _ _ (fun _ => hSwza) ?_
  clear hK K hwza
  try simp only [Act.put, pzA, pzB, pzC]
  refine until_two 14 16 rfl rfl (by kernel_rfl) rfl rfl (fun K hK => ?_) (fun K hK => ?_)
  ·simp only [Go.wp_at_zero, Go.wp_at_succ]
   refine wp_append_els (C := slC) (k := 4) _ _ _ 42 rfl w3.heap.size 41 j9 _ 32 Tryz.underlying42 gi gz0 gz1 gz2 rfl (by decide) (.slice (some ⟨wz0.heap.size, 0, none⟩) 0 0) 0 [] rfl ownE w3.heap.size yA yc n g.sl rfl (Els.keep HSE.out (hBwza) (Nat.le_refl _)) HG.out slC_len1 slC_one (by unfold maxLen; omega) (by omega) (by omega) ?_
   intro A5 c5 wzb own5 gwzb kwzb
   rw [Nat.zero_add] at own5 ⊢
   rw [List.nil_append] at own5
   have hob : ∀ j, (Value.slice (some ⟨wz0.heap.size, 0, none⟩) 0 0).ownBlock = some j → j = wz0.heap.size := fun j hj => by simpa [Value.ownBlock] using hj.symm
   have hBwzb : Below w3.heap.size w3 wzb := hBwza.grown gwzb (by omega) (fun j hj => by have := hob j hj; omega)
   have szwzb := hBwzb.size
   have stwzb := gwzb.size
   have hSwzb : (fun w' : World => w'.cell? ⟨r, 2, none⟩ = some (.slice (some ⟨G, 0, none⟩) N c) ∧ w'.cell? ⟨G, k * 5 + 4, none⟩ = some (.slice yA n yc) ∧ w'.cell? ⟨S, 0, none⟩ = some (.int .i64 sn) ∧ w'.cell? ⟨S, 1, none⟩ = some (.int .i64 sd) ∧ w'.cell? ⟨S, 2, none⟩ = some (.int .u64 (sm : Nat)) ∧ w'.cell? ⟨S, 3, none⟩ = some (.int .i64 sc)) wzb := ⟨(hBwzb.cell (p := ⟨r, 2, none⟩) (l_r)).trans d2, (hBwzb.cell (p := ⟨G, k * 5 + 4, none⟩) (l_G)).trans f4, (hBwzb.cell (p := ⟨S, 0, none⟩) (l_S)).trans b0, (hBwzb.cell (p := ⟨S, 1, none⟩) (l_S)).trans b1, (hBwzb.cell (p := ⟨S, 2, none⟩) (l_S)).trans b2, (hBwzb.cell (p := ⟨S, 3, none⟩) (l_S)).trans b3⟩
   refine hK.out _ _ (fun _ => hSwzb) ?_
   clear hK K
   try simp only [Act.put, pzA, pzB, pzC]
   have Own5 := Lib.hid own5
   clear own5 gwzb kwzb hob
   refine until_one 16 rfl (by kernel_rfl) rfl (fun K hK => ?_)
   go_simp
   obtain ⟨wzc, hwzc⟩ : ∃ wld9, wld9 = wzb.alloc (.cells #[.int .i64 sn, .int .i64 sd, .int .u64 (sm : Nat), .int .i64 sc] 41) := ⟨_, rfl⟩
   have hBwzc : Below w3.heap.size w3 wzc := by rw [hwzc]; exact hBwzb.alloc hBwzb.size _
   have szwzc := hBwzc.size
   have stwzc : wzb.heap.size < wzc.heap.size := by rw [hwzc]; simp
   have bbwzc : Below wzb.heap.size wzb wzc := by rw [hwzc]; exact (Below.refl _ _).alloc (Nat.le_refl _) _
   have elsB : Els slC 4 wzc wzc.heap.size (some ⟨wzb.heap.size, 0, none⟩) [(⟨sn, sd, sm, sc⟩ : PM.Sl)] := HBX.out wzc wzb.heap.size (by rw [hwzc]; exact heap_alloc_new _ _)
   have hSwzc : (fun w' : World => w'.cell? ⟨r, 2, none⟩ = some (.slice (some ⟨G, 0, none⟩) N c) ∧ w'.cell? ⟨G, k * 5 + 4, none⟩ = some (.slice yA n yc) ∧ w'.cell? ⟨S, 0, none⟩ = some (.int .i64 sn) ∧ w'.cell? ⟨S, 1, none⟩ = some (.int .i64 sd) ∧ w'.cell? ⟨S, 2, none⟩ = some (.int .u64 (sm : Nat)) ∧ w'.cell? ⟨S, 3, none⟩ = some (.int .i64 sc)) wzc := ⟨(hBwzc.cell (p := ⟨r, 2, none⟩) (l_r)).trans d2, (hBwzc.cell (p := ⟨G, k * 5 + 4, none⟩) (l_G)).trans f4, (hBwzc.cell (p := ⟨S, 0, none⟩) (l_S)).trans b0, (hBwzc.cell (p := ⟨S, 1, none⟩) (l_S)).trans b1, (hBwzc.cell (p := ⟨S, 2, none⟩) (l_S)).trans b2, (hBwzc.cell (p := ⟨S, 3, none⟩) (l_S)).trans b3⟩
   rw [← hwzc]
   refine hK.out _ _ (fun _ => hSwzc) ?_
   clear hK K hwzc
   try simp only [Act.put, pzA, pzB, pzC]
   have own5 := own_keep Own5.out bbwzc
   refine until_one 17 rfl (by kernel_rfl) rfl (fun K hK => ?_)
   simp only [Go.wp_at_zero, Go.wp_at_succ]
   refine wp_append_els (C := slC) (k := 4) _ _ _ 42 rfl w3.heap.size 41 j9 _ 32 Tryz.underlying42 gi gz0 gz1 gz2 rfl (by decide) (.slice A5 n c5) n _ rfl own5 _ (some ⟨wzb.heap.size, 0, none⟩) 1 1 [(⟨sn, sd, sm, sc⟩ : PM.Sl)] rfl elsB rfl slC_len1 slC_one (by unfold maxLen; omega) (by omega) (by omega) ?_
   intro A7 c7 wz9 own7 g7 k7
   have hob5 : ∀ j, (Value.slice A5 n c5).ownBlock = some j → w3.heap.size ≤ j := fun j hj => (own5.lt j hj).1
   have hBwz9 : Below w3.heap.size w3 wz9 := hBwzc.grown g7 (by omega) (fun j hj => by have := hob5 j hj; omega)
   have hSwz9 : (fun w' : World => w'.cell? ⟨r, 2, none⟩ = some (.slice (some ⟨G, 0, none⟩) N c) ∧ w'.cell? ⟨G, k * 5 + 4, none⟩ = some (.slice yA n yc) ∧ w'.cell? ⟨S, 0, none⟩ = some (.int .i64 sn) ∧ w'.cell? ⟨S, 1, none⟩ = some (.int .i64 sd) ∧ w'.cell? ⟨S, 2, none⟩ = some (.int .u64 (sm : Nat)) ∧ w'.cell? ⟨S, 3, none⟩ = some (.int .i64 sc)) wz9 := ⟨(hBwz9.cell (p := ⟨r, 2, none⟩) (l_r)).trans d2, (hBwz9.cell (p := ⟨G, k * 5 + 4, none⟩) (l_G)).trans f4, (hBwz9.cell (p := ⟨S, 0, none⟩) (l_S)).trans b0, (hBwz9.cell (p := ⟨S, 1, none⟩) (l_S)).trans b1, (hBwz9.cell (p := ⟨S, 2, none⟩) (l_S)).trans b2, (hBwz9.cell (p := ⟨S, 3, none⟩) (l_S)).trans b3⟩
   refine hK.out _ _ (fun _ => hSwz9) ?_
   clear hK K
   try simp only [Act.put, pzA, pzB, pzC]
   have Own7 := Lib.hid own7
   clear own7 own5 g7 k7 hob5
   try clear hob
   try clear elsB
   try clear ElsB
   try clear Own5
   try clear OwnE
   try clear ownE
   try clear gwza kwza
   try clear gwzb kwzb
   try clear gwzc kwzc
   have z4 : wz9.frozen? ⟨G, k * 5 + 4, none⟩ = false := HZ.out wz9 hBwz9
   have HFX := Lib.hid (HFin.out wz9 A7 c7 hBwz9 (by rw [List.flatMap_append]; exact Own7.out))
   have hSL := hSwz9
   clear Own7 hBwz9 hSwz9
   refine until_one 18 rfl (by kernel_rfl) rfl (fun K hK => ?_)
   go_simp
   refine hK.out _ _ (fun _ => hSL) ?_
   clear hK K
   try simp only [Act.put, pzA, pzB, pzC]
   refine until_one 19 rfl (by kernel_rfl) rfl (fun K hK => ?_)
   go_simp
   refine hK.out _ _ (fun _ => hSL) ?_
   clear hK K
   try simp only [Act.put, pzA, pzB, pzC]
   refine until_one 20 rfl (by kernel_rfl) rfl (fun K hK => ?_)
   go_simp
   refine hK.out _ _ (fun h => absurd h (by decide)) ?_
   clear hK K hSL
   refine until_done (by kernel_rfl) ?_
   go_wp2_with fail
   refine (rdone_l 0 HFX.out.1 (by have := HV3.out; show T.2.ver ≤ 1000000; omega)).mono ?_
   rintro e w12 ⟨rfl, h12, hf12⟩
   have HEnd := Lib.hid (HFX.out.2 w12 h12 hf12)
   clear h12 hf12
   go_wp2
   go_ret
   exact ⟨by first | rfl | trivial, HEnd.out⟩

  ·have OwnE := Lib.hid ownE
   clear ownE
   go_simp
   obtain ⟨wzb, hwzb⟩ : ∃ wld9, wld9 = wza.alloc (.cells #[.int .i64 sn, .int .i64 sd, .int .u64 (sm : Nat), .int .i64 sc] 41) := ⟨_, rfl⟩
   have hBwzb : Below w3.heap.size w3 wzb := by rw [hwzb]; exact hBwza.alloc hBwza.size _
   have szwzb := hBwzb.size
   have stwzb : wza.heap.size < wzb.heap.size := by rw [hwzb]; simp
   have bbwzb : Below wza.heap.size wza wzb := by rw [hwzb]; exact (Below.refl _ _).alloc (Nat.le_refl _) _
   have elsB : Els slC 4 wzb wzb.heap.size (some ⟨wza.heap.size, 0, none⟩) [(⟨sn, sd, sm, sc⟩ : PM.Sl)] := HBX.out wzb wza.heap.size (by rw [hwzb]; exact heap_alloc_new _ _)
   have hSwzb : (fun w' : World => w'.cell? ⟨r, 2, none⟩ = some (.slice (some ⟨G, 0, none⟩) N c) ∧ w'.cell? ⟨G, k * 5 + 4, none⟩ = some (.slice yA n yc) ∧ w'.cell? ⟨S, 0, none⟩ = some (.int .i64 sn) ∧ w'.cell? ⟨S, 1, none⟩ = some (.int .i64 sd) ∧ w'.cell? ⟨S, 2, none⟩ = some (.int .u64 (sm : Nat)) ∧ w'.cell? ⟨S, 3, none⟩ = some (.int .i64 sc)) wzb := ⟨(hBwzb.cell (p := ⟨r, 2, none⟩) (l_r)).trans d2, (hBwzb.cell (p := ⟨G, k * 5 + 4, none⟩) (l_G)).trans f4, (hBwzb.cell (p := ⟨S, 0, none⟩) (l_S)).trans b0, (hBwzb.cell (p := ⟨S, 1, none⟩) (l_S)).trans b1, (hBwzb.cell (p := ⟨S, 2, none⟩) (l_S)).trans b2, (hBwzb.cell (p := ⟨S, 3, none⟩) (l_S)).trans b3⟩
   rw [← hwzb]
   refine hK.out _ _ (fun _ => hSwzb) ?_
   clear hK K hwzb
   try simp only [Act.put, pzA, pzB, pzC]
   have ownE := own_keep OwnE.out bbwzb
   refine until_one 14 rfl (by kernel_rfl) rfl (fun K hK => ?_)
   simp only [Go.wp_at_zero, Go.wp_at_succ]
   refine wp_append_els (C := slC) (k := 4) _ _ _ 42 rfl w3.heap.size 41 j9 _ 32 Tryz.underlying42 gi gz0 gz1 gz2 rfl (by decide) (.slice (some ⟨wz0.heap.size, 0, none⟩) 0 0) 0 [] rfl ownE w3.heap.size yA yc n g.sl rfl (Els.keep HSE.out (hBwzb) (Nat.le_refl _)) HG.out slC_len1 slC_one (by unfold maxLen; omega) (by omega) (by omega) ?_
   intro A5 c5 wzc own5 gwzc kwzc
   rw [Nat.zero_add] at own5 ⊢
   rw [List.nil_append] at own5
   have hob : ∀ j, (Value.slice (some ⟨wz0.heap.size, 0, none⟩) 0 0).ownBlock = some j → j = wz0.heap.size := fun j hj => by simpa [Value.ownBlock] using hj.symm
   have hBwzc : Below w3.heap.size w3 wzc := hBwzb.grown gwzc (by omega) (fun j hj => by have := hob j hj; omega)
   have szwzc := hBwzc.size
   have stwzc := gwzc.size
   have hSwzc : (fun w' : World => w'.cell? ⟨r, 2, none⟩ = some (.slice (some ⟨G, 0, none⟩) N c) ∧ w'.cell? ⟨G, k * 5 + 4, none⟩ = some (.slice yA n yc) ∧ w'.cell? ⟨S, 0, none⟩ = some (.int .i64 sn) ∧ w'.cell? ⟨S, 1, none⟩ = some (.int .i64 sd) ∧ w'.cell? ⟨S, 2, none⟩ = some (.int .u64 (sm : Nat)) ∧ w'.cell? ⟨S, 3, none⟩ = some (.int .i64 sc)) wzc := ⟨(hBwzc.cell (p := ⟨r, 2, none⟩) (l_r)).trans d2, (hBwzc.cell (p := ⟨G, k * 5 + 4, none⟩) (l_G)).trans f4, (hBwzc.cell (p := ⟨S, 0, none⟩) (l_S)).trans b0, (hBwzc.cell (p := ⟨S, 1, none⟩) (l_S)).trans b1, (hBwzc.cell (p := ⟨S, 2, none⟩) (l_S)).trans b2, (hBwzc.cell (p := ⟨S, 3, none⟩) (l_S)).trans b3⟩
   have elsB : Els slC 4 wzc wzc.heap.size (some ⟨wza.heap.size, 0, none⟩) [(⟨sn, sd, sm, sc⟩ : PM.Sl)] := (elsB.off (w' := wzc) fun b2 o2 e2 hb2 => gwzc.block b2 hb2 (fun e => by have := hob b2 e.symm; injection e2 with e2; injection e2 with e2; omega)).imp stwzc fun _ _ _ _ hd => hd
   refine hK.out _ _ (fun _ => hSwzc) ?_
   clear hK K
   try simp only [Act.put, pzA, pzB, pzC]
   refine until_one 17 rfl (by kernel_rfl) rfl (fun K hK => ?_)
   simp only [Go.wp_at_zero, Go.wp_at_succ]
   refine wp_append_els (C := slC) (k := 4) _ _ _ 42 rfl w3.heap.size 41 j9 _ 32 Tryz.underlying42 gi gz0 gz1 gz2 rfl (by decide) (.slice A5 n c5) n _ rfl own5 _ (some ⟨wza.heap.size, 0, none⟩) 1 1 [(⟨sn, sd, sm, sc⟩ : PM.Sl)] rfl elsB rfl slC_len1 slC_one (by unfold maxLen; omega) (by omega) (by omega) ?_
   intro A7 c7 wz9 own7 g7 k7
   have hob5 : ∀ j, (Value.slice A5 n c5).ownBlock = some j → w3.heap.size ≤ j := fun j hj => (own5.lt j hj).1
   have hBwz9 : Below w3.heap.size w3 wz9 := hBwzc.grown g7 (by omega) (fun j hj => by have := hob5 j hj; omega)
   have hSwz9 : (fun w' : World => w'.cell? ⟨r, 2, none⟩ = some (.slice (some ⟨G, 0, none⟩) N c) ∧ w'.cell? ⟨G, k * 5 + 4, none⟩ = some (.slice yA n yc) ∧ w'.cell? ⟨S, 0, none⟩ = some (.int .i64 sn) ∧ w'.cell? ⟨S, 1, none⟩ = some (.int .i64 sd) ∧ w'.cell? ⟨S, 2, none⟩ = some (.int .u64 (sm : Nat)) ∧ w'.cell? ⟨S, 3, none⟩ = some (.int .i64 sc)) wz9 := ⟨(hBwz9.cell (p := ⟨r, 2, none⟩) (l_r)).trans d2, (hBwz9.cell (p := ⟨G, k * 5 + 4, none⟩) (l_G)).trans f4, (hBwz9.cell (p := ⟨S, 0, none⟩) (l_S)).trans b0, (hBwz9.cell (p := ⟨S, 1, none⟩) (l_S)).trans b1, (hBwz9.cell (p := ⟨S, 2, none⟩) (l_S)).trans b2, (hBwz9.cell (p := ⟨S, 3, none⟩) (l_S)).trans b3⟩
   refine hK.out _ _ (fun _ => hSwz9) ?_
   clear hK K
   try simp only [Act.put, pzA, pzB, pzC]
   have Own7 := Lib.hid own7
   clear own7 own5 g7 k7 hob5
   try clear hob
   try clear elsB
   try clear ElsB
   try clear Own5
   try clear OwnE
   try clear ownE
   try clear gwza kwza
   try clear gwzb kwzb
   try clear gwzc kwzc
   have z4 : wz9.frozen? ⟨G, k * 5 + 4, none⟩ = false := HZ.out wz9 hBwz9
   have HFX := Lib.hid (HFin.out wz9 A7 c7 hBwz9 (by rw [List.flatMap_append]; exact Own7.out))
   have hSL := hSwz9
   clear Own7 hBwz9 hSwz9
   refine until_one 18 rfl (by kernel_rfl) rfl (fun K hK => ?_)
   go_simp
   refine hK.out _ _ (fun _ => hSL) ?_
   clear hK K
   try simp only [Act.put, pzA, pzB, pzC]
   refine until_one 19 rfl (by kernel_rfl) rfl (fun K hK => ?_)
   go_simp
   refine hK.out _ _ (fun _ => hSL) ?_
   clear hK K
   try simp only [Act.put, pzA, pzB, pzC]
   refine until_one 20 rfl (by kernel_rfl) rfl (fun K hK => ?_)
   go_simp
   refine hK.out _ _ (fun h => absurd h (by decide)) ?_
   clear hK K hSL
   refine until_done (by kernel_rfl) ?_
   go_wp2_with fail
   refine (rdone_l 0 HFX.out.1 (by have := HV3.out; show T.2.ver ≤ 1000000; omega)).mono ?_
   rintro e w12 ⟨rfl, h12, hf12⟩
   have HEnd := Lib.hid (HFX.out.2 w12 h12 hf12)
   clear h12 hf12
   go_wp2
   go_ret
   exact ⟨by first | rfl | trivial, HEnd.out⟩


 ·go_simp
  obtain ⟨wza, hwza⟩ : ∃ wld9, wld9 = wz0.alloc (.cells #[.int .i64 sn, .int .i64 sd, .int .u64 (sm : Nat), .int .i64 sc] 41) := ⟨_, rfl⟩
  have hBwza : Below w3.heap.size w3 wza := by rw [hwza]; exact hBz0.alloc hBz0.size _
  have szwza := hBwza.size
  have stwza : wz0.heap.size < wza.heap.size := by rw [hwza]; simp
  have bbwza : Below wz0.heap.size wz0 wza := by rw [hwza]; exact (Below.refl _ _).alloc (Nat.le_refl _) _
  have elsB : Els slC 4 wza wza.heap.size (some ⟨wz0.heap.size, 0, none⟩) [(⟨sn, sd, sm, sc⟩ : PM.Sl)] := HBX.out wza wz0.heap.size (by rw [hwza]; exact heap_alloc_new _ _)
  have hSwza : (fun w' : World => w'.cell? ⟨r, 2, none⟩ = some (.slice (some ⟨G, 0, none⟩) N c) ∧ w'.cell? ⟨G, k * 5 + 4, none⟩ = some (.slice yA n yc) ∧ w'.cell? ⟨S, 0, none⟩ = some (.int .i64 sn) ∧ w'.cell? ⟨S, 1, none⟩ = some (.int .i64 sd) ∧ w'.cell? ⟨S, 2, none⟩ = some (.int .u64 (sm : Nat)) ∧ w'.cell? ⟨S, 3, none⟩ = some (.int .i64 sc)) wza := ⟨(hBwza.cell (p := ⟨r, 2, none⟩) (l_r)).trans d2, (hBwza.cell (p := ⟨G, k * 5 + 4, none⟩) (l_G)).trans f4, (hBwza.cell (p := ⟨S, 0, none⟩) (l_S)).trans b0, (hBwza.cell (p := ⟨S, 1, none⟩) (l_S)).trans b1, (hBwza.cell (p := ⟨S, 2, none⟩) (l_S)).trans b2, (hBwza.cell (p := ⟨S, 3, none⟩) (l_S)).trans b3⟩
  rw [← hwza]
  refine hK.out _ _ (fun _ => hSwza) ?_
  clear hK K hwza
  try simp only [Act.put, pzA, pzB, pzC]
  have ElsB := Lib.hid elsB
  clear elsB
  refine until_one 5 rfl (by kernel_rfl) rfl (fun K hK => ?_)
  go_simp
  obtain ⟨wzb, hwzb⟩ : ∃ wld9, wld9 = wza.alloc (.cells #[] 41) := ⟨_, rfl⟩
  have hBwzb : Below w3.heap.size w3 wzb := by rw [hwzb]; exact hBwza.alloc hBwza.size _
  have szwzb := hBwzb.size
  have stwzb : wza.heap.size < wzb.heap.size := by rw [hwzb]; simp
  have bbwzb : Below wza.heap.size wza wzb := by rw [hwzb]; exact (Below.refl _ _).alloc (Nat.le_refl _) _
  have ownE : wzb.ownsRow w3.heap.size 41 4 (.slice (some ⟨wza.heap.size, 0, none⟩) 0 0) 0 [] := by rw [hwzb]; exact World.ownsRow_lit wza #[] 0 (by have := hBwza.size; omega) (by unfold maxLen; omega) rfl
  have hSwzb : (fun w' : World => w'.cell? ⟨r, 2, none⟩ = some (.slice (some ⟨G, 0, none⟩) N c) ∧ w'.cell? ⟨G, k * 5 + 4, none⟩ = some (.slice yA n yc) ∧ w'.cell? ⟨S, 0, none⟩ = some (.int .i64 sn) ∧ w'.cell? ⟨S, 1, none⟩ = some (.int .i64 sd) ∧ w'.cell? ⟨S, 2, none⟩ = some (.int .u64 (sm : Nat)) ∧ w'.cell? ⟨S, 3, none⟩ = some (.int .i64 sc)) wzb := ⟨(hBwzb.cell (p := ⟨r, 2, none⟩) (l_r)).trans d2, (hBwzb.cell (p := ⟨G, k * 5 + 4, none⟩) (l_G)).trans f4, (hBwzb.cell (p := ⟨S, 0, none⟩) (l_S)).trans b0, (hBwzb.cell (p := ⟨S, 1, none⟩) (l_S)).trans b1, (hBwzb.cell (p := ⟨S, 2, none⟩) (l_S)).trans b2, (hBwzb.cell (p := ⟨S, 3, none⟩) (l_S)).trans b3⟩
  rw [← hwzb]
  refine hK.out _ _ (fun _ => hSwzb) ?_
  clear hK K hwzb
  try simp only [Act.put, pzA, pzB, pzC]
  have elsB : Els slC 4 wzb wzb.heap.size (some ⟨wz0.heap.size, 0, none⟩) [(⟨sn, sd, sm, sc⟩ : PM.Sl)] := ElsB.out.keep bbwzb (by omega)
  refine until_one 14 rfl (by kernel_rfl) rfl (fun K hK => ?_)
  simp only [Go.wp_at_zero, Go.wp_at_succ]
  refine wp_append_els (C := slC) (k := 4) _ _ _ 42 rfl w3.heap.size 41 j9 _ 32 Tryz.underlying42 gi gz0 gz1 gz2 rfl (by decide) (.slice (some ⟨wza.heap.size, 0, none⟩) 0 0) 0 [] rfl ownE w3.heap.size yA yc n g.sl rfl (Els.keep HSE.out (hBwzb) (Nat.le_refl _)) HG.out slC_len1 slC_one (by unfold maxLen; omega) (by omega) (by omega) ?_
  intro A5 c5 wzc own5 gwzc kwzc
  rw [Nat.zero_add] at own5 ⊢
  rw [List.nil_append] at own5
  have hob : ∀ j, (Value.slice (some ⟨wza.heap.size, 0, none⟩) 0 0).ownBlock = some j → j = wza.heap.size := fun j hj => by simpa [Value.ownBlock] using hj.symm
  have hBwzc : Below w3.heap.size w3 wzc := hBwzb.grown gwzc (by omega) (fun j hj => by have := hob j hj; omega)
  have szwzc := hBwzc.size
  have stwzc := gwzc.size
  have hSwzc : (fun w' : World => w'.cell? ⟨r, 2, none⟩ = some (.slice (some ⟨G, 0, none⟩) N c) ∧ w'.cell? ⟨G, k * 5 + 4, none⟩ = some (.slice yA n yc) ∧ w'.cell? ⟨S, 0, none⟩ = some (.int .i64 sn) ∧ w'.cell? ⟨S, 1, none⟩ = some (.int .i64 sd) ∧ w'.cell? ⟨S, 2, none⟩ = some (.int .u64 (sm : Nat)) ∧ w'.cell? ⟨S, 3, none⟩ = some (.int .i64 sc)) wzc := ⟨(hBwzc.cell (p := ⟨r, 2, none⟩) (l_r)).trans d2, (hBwzc.cell (p := ⟨G, k * 5 + 4, none⟩) (l_G)).trans f4, (hBwzc.cell (p := ⟨S, 0, none⟩) (l_S)).trans b0, (hBwzc.cell (p := ⟨S, 1, none⟩) (l_S)).trans b1, (hBwzc.cell (p := ⟨S, 2, none⟩) (l_S)).trans b2, (hBwzc.cell (p := ⟨S, 3, none⟩) (l_S)).trans b3⟩
  have elsB : Els slC 4 wzc wzc.heap.size (some ⟨wz0.heap.size, 0, none⟩) [(⟨sn, sd, sm, sc⟩ : PM.Sl)] := (elsB.off (w' := wzc) fun b2 o2 e2 hb2 => gwzc.block b2 hb2 (fun e => by have := hob b2 e.symm; injection e2 with e2; injection e2 with e2; omega)).imp stwzc fun _ _ _ _ hd => hd
  refine hK.out _ _ (fun _ => hSwzc) ?_
  clear hK K
  try simp only [Act.put, pzA, pzB, pzC]
  refine until_one 17 rfl (by kernel_rfl) rfl (fun K hK => ?_)
  simp only [Go.wp_at_zero, Go.wp_at_succ]
  refine wp_append_els (C := slC) (k := 4) _ _ _ 42 rfl w3.heap.size 41 j9 _ 32 Tryz.underlying42 gi gz0 gz1 gz2 rfl (by decide) (.slice A5 n c5) n _ rfl own5 _ (some ⟨wz0.heap.size, 0, none⟩) 1 1 [(⟨sn, sd, sm, sc⟩ : PM.Sl)] rfl elsB rfl slC_len1 slC_one (by unfold maxLen; omega) (by omega) (by omega) ?_
  intro A7 c7 wz9 own7 g7 k7
  have hob5 : ∀ j, (Value.slice A5 n c5).ownBlock = some j → w3.heap.size ≤ j := fun j hj => (own5.lt j hj).1
  have hBwz9 : Below w3.heap.size w3 wz9 := hBwzc.grown g7 (by omega) (fun j hj => by have := hob5 j hj; omega)
  have hSwz9 : (fun w' : World => w'.cell? ⟨r, 2, none⟩ = some (.slice (some ⟨G, 0, none⟩) N c) ∧ w'.cell? ⟨G, k * 5 + 4, none⟩ = some (.slice yA n yc) ∧ w'.cell? ⟨S, 0, none⟩ = some (.int .i64 sn) ∧ w'.cell? ⟨S, 1, none⟩ = some (.int .i64 sd) ∧ w'.cell? ⟨S, 2, none⟩ = some (.int .u64 (sm : Nat)) ∧ w'.cell? ⟨S, 3, none⟩ = some (.int .i64 sc)) wz9 := ⟨(hBwz9.cell (p := ⟨r, 2, none⟩) (l_r)).trans d2, (hBwz9.cell (p := ⟨G, k * 5 + 4, none⟩) (l_G)).trans f4, (hBwz9.cell (p := ⟨S, 0, none⟩) (l_S)).trans b0, (hBwz9.cell (p := ⟨S, 1, none⟩) (l_S)).trans b1, (hBwz9.cell (p := ⟨S, 2, none⟩) (l_S)).trans b2, (hBwz9.cell (p := ⟨S, 3, none⟩) (l_S)).trans b3⟩
  refine hK.out _ _ (fun _ => hSwz9) ?_
  clear hK K
  try simp only [Act.put, pzA, pzB, pzC]
  have Own7 := Lib.hid own7
  clear own7 own5 g7 k7 hob5
  try clear hob
  try clear elsB
  try clear ElsB
  try clear Own5
  try clear OwnE
  try clear ownE
  try clear gwza kwza
  try clear gwzb kwzb
  try clear gwzc kwzc
  have z4 : wz9.frozen? ⟨G, k * 5 + 4, none⟩ = false := HZ.out wz9 hBwz9
  have HFX := Lib.hid (HFin.out wz9 A7 c7 hBwz9 (by rw [List.flatMap_append]; exact Own7.out))
  have hSL := hSwz9
  clear Own7 hBwz9 hSwz9
  refine until_one 18 rfl (by kernel_rfl) rfl (fun K hK => ?_)
  go_simp
  refine hK.out _ _ (fun _ => hSL) ?_
  clear hK K
  try simp only [Act.put, pzA, pzB, pzC]
  refine until_one 19 rfl (by kernel_rfl) rfl (fun K hK => ?_)
  go_simp
  refine hK.out _ _ (fun _ => hSL) ?_
  clear hK K
  try simp only [Act.put, pzA, pzB, pzC]
  refine until_one 20 rfl (by kernel_rfl) rfl (fun K hK => ?_)
  go_simp
  refine hK.out _ _ (fun h => absurd h (by decide)) ?_
  clear hK K hSL
  refine until_done (by kernel_rfl) ?_
  go_wp2_with fail
  refine (rdone_l 0 HFX.out.1 (by have := HV3.out; show T.2.ver ≤ 1000000; omega)).mono ?_
  rintro e w12 ⟨rfl, h12, hf12⟩
  have HEnd := Lib.hid (HFX.out.2 w12 h12 hf12)
  clear h12 hf12
  go_wp2
  go_ret
  exact ⟨by first | rfl | trivial, HEnd.out⟩
end
end Go.Proofs.YtgpfmlidchogcaaGreat
