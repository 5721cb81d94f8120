/- Where nobody waits, and none runs, a worker rests; where the head alone waits, and does not fit, it is never taken: the law WorkerRests answers true, at every input. The library's table of lowest units is as the program's text lays it (tied). -/
import Derived.RegionTactic
import Derived.BigRegion
import Derived.Test.YthnjbhkhmoddpaaGreatDoorWkS
import Derived.Test.YthnjbhkhmoddpaaGreatDoorWkRHead
import Derived.Test.YthnjbhkhmoddpaaGreatDoorProRefA
import Derived.Test.YthnjbhkhmoddpaaGreatDoorKitP
import Derived.SevenTiedAt
import Derived.Test.YthnjbhkhmoddpaaGreatDoorTie
import Derived.Test.YthnjbhkhmoddpaaGreatDoorCards
set_option linter.unusedVariables false
namespace Go.Proofs.YthnjbhkhmoddpaaGreatDoor.workerRests
open Go Go.ChangeShapes Go.WideShapes Go.ChangeAt Go.RowKit
open PR
def noneL (L : Lk) : Lk := ⟨L.now, L.hd, L.pr, L.to, L.A1, L.c1, L.lv, L.A2, L.c2, L.lf, L.A3, L.c3, L.le, none, 0, [], none, 0, []⟩
def aloneL (L : Lk) (A : Option Addr) (c : Nat) (x : Wt) : Lk := ⟨L.now, L.hd, L.pr, L.to, L.A1, L.c1, L.lv, L.A2, L.c2, L.lf, L.A3, L.c3, L.le, A, c, [x], none, 0, []⟩
theorem few_like {L L' : Lk} (h : LkF L) (e1 : L'.lv = L.lv) (e2 : L'.le = L.le) (e3 : L'.lf = L.lf) : LkF L' :=
 ⟨by rw [e1]; exact h.v, by rw [e1]; exact h.n, by rw [e2]; exact h.e1, by rw [e2]; exact h.e2, by rw [e3]; exact h.f, by rw [e1, e2]; exact h.m, by rw [e3]; exact h.fl⟩
theorem none_ok {L : Lk} (h : LkW L) : LkW (noneL L) where
 now := h.now
 hd := h.hd
 pr := h.pr
 to := h.to
 v := h.v
 l1 := h.l1
 m1 := h.m1
 f := h.f
 l2 := h.l2
 m2 := h.m2
 e := h.e
 l3 := h.l3
 m3 := h.m3
 t := fun x hx => by cases hx
 l4 := Nat.le_refl _
 m4 := Nat.zero_le _
 r := fun x hx => by cases hx
 l5 := Nat.le_refl _
 m5 := Nat.zero_le _
theorem alone_ok {L : Lk} {A : Option Addr} {c : Nat} {x : Wt} (h : LkW L) (hx : WtW x) (h1 : 1 ≤ c) (h2 : c ≤ maxLen) : LkW (aloneL L A c x) where
 now := h.now
 hd := h.hd
 pr := h.pr
 to := h.to
 v := h.v
 l1 := h.l1
 m1 := h.m1
 f := h.f
 l2 := h.l2
 m2 := h.m2
 e := h.e
 l3 := h.l3
 m3 := h.m3
 t := fun y hy => by
  have e : y = x := by simpa [aloneL] using hy
  rw [e]; exact hx
 l4 := h1
 m4 := h2
 r := fun x hx => by cases hx
 l5 := Nat.le_refl _
 m5 := Nat.zero_le _
theorem none_few {L : Lk} (h : WkF L) : WkF (noneL L) := ⟨few_like h.f rfl rfl rfl, h.n0, h.n1, h.t0, h.t1, fun x hx => by cases hx⟩
theorem alone_few {L : Lk} {A : Option Addr} {c : Nat} {x : Wt} (h : WkF L) (hx : x ∈ L.lw) : WkF (aloneL L A c x) := ⟨few_like h.f rfl rfl rfl, h.n0, h.n1, h.t0, h.t1, fun y hy => by
 have e : y = x := by simpa [aloneL] using hy
 rw [e]; exact h.r x hx⟩
theorem none_rest {L : Lk} {d id : Int} {s : List Fe} (h : ChoiceR (noneL L) d id s) : d = 0 ∧ id = 0 ∧ s = [] := by
 rcases h with ⟨_, _, _, x, n, hx, _⟩ | ⟨_, ⟨_, k, x, n, n', hx, _⟩ | ⟨_, ⟨_, r, H, f, hr, _⟩ | h⟩⟩
 ·cases hx
 ·cases hx
 ·cases hr
 ·exact h
theorem alone_rest {L : Lk} {A : Option Addr} {c : Nat} {x : Wt} {d id : Int} {s : List Fe} {X : Wa} {U : Lu} (hn : L.lv.length ≤ 70) (h0 : L.hd ≠ 0) (hx : x.id = L.hd) (hX : headL L = some X) (hf : L.lw.find? (fun x => x.id == L.hd) = some x) (hU : leftL L X.q = some U) (hfit : fits L.lv U.g U.c X = false) (h : ChoiceR (aloneL L A c x) d id s) : d = 0 := by
 have hX2 : headL (aloneL L A c x) = some X := by
  rw [← hX]
  unfold headL
  have e : (aloneL L A c x).hd = L.hd := rfl
  rw [e, if_neg h0, if_neg h0, hf]
  have e2 : (aloneL L A c x).lw.find? (fun y => y.id == L.hd) = some x := by simp [aloneL, hx]
  rw [e2]
 have h1 := (h.head (L := aloneL L A c x) hn hX2 hU).2 hfit
 rcases h with ⟨e, _⟩ | ⟨_, ⟨_, k, y, n, n', hy, _, hb, _⟩ | ⟨_, ⟨_, r, H, f, hr, _⟩ | ⟨e, _⟩⟩⟩
 ·exact absurd e h1
 ·exfalso
  have hm : y ∈ (aloneL L A c x).lw := List.mem_of_getElem? hy
  have e : y = x := by simpa [aloneL] using hm
  subst e
  have e3 : hdB (aloneL L A c y) y.id = true := hdB_true.2 ⟨h0, hx⟩
  rw [e3] at hb; cases hb
 ·cases hr
 ·exact e
theorem info_wtW : (Tryz.prog.info? 57).map (fun i => (i.zero, i.size, i.bytes)) = some (some (.agg #[.int .i64 0, .int .i64 0, .int .i64 0, .int .i64 0, .int .i64 0, .int .i64 0, .int .i64 0, .int .i64 0, .int .i64 0, .int .i64 0]), 10, 80) := by kernel_rfl
theorem own_cap {w : World} {B n c k : Nat} {e : TypeId} {A : Option Addr} {xs : List Value} (h : w.ownsRow B e k (.slice A n c) n xs) : n ≤ c ∧ c ≤ maxLen := by
 rcases h.2 with ⟨e1, _⟩ | ⟨g, cap, cur, e1, hB, hg, h5, h6, _⟩
 ·injection e1 with _ e2 e3
  omega
 ·injection e1 with _ _ e3
  omega
theorem put_eq {K : Act → World → Prop} {a : Act} {d : Option Nat} {v v' : Value} {W : World} (h : K (a.put d v') W) (e : v = v') : K (a.put d v) W := e ▸ h
theorem wtC_one (x : Wt) : ∀ v ∈ wtC x, v.oneCell' = true := by simp [wtC, Value.oneCell']
theorem run_load_wx {oi : Oper} {ρ : Operand → Value} {W : World} {y : Operand} {g o : Nat} {a1 a2 a3 a4 a5 a6 : Int} (ho : oi.op = .load 34 y) (hy : ρ y = .pointer (some ⟨g, o, none⟩)) (h : CellsAt W g o [.int .i64 a1, .int .i64 a2, .int .i64 a3, .int .i64 a4, .int .i64 a5, .int .i64 a6]) :
  (execOp ρ oi).run Tryz.prog W = .ok (.value (.agg #[.int .i64 a1, .int .i64 a2, .int .i64 a3, .int .i64 a4, .int .i64 a5, .int .i64 a6])) W := by
 have hl : (loadCells ⟨g, o, none⟩ 6).run Tryz.prog W = .ok #[.int .i64 a1, .int .i64 a2, .int .i64 a3, .int .i64 a4, .int .i64 a5, .int .i64 a6] W := run_loadCells_list (P := Tryz.prog) W ⟨g, o, none⟩ [.int .i64 a1, .int .i64 a2, .int .i64 a3, .int .i64 a4, .int .i64 a5, .int .i64 a6] fun j v hv => by rw [Addr.add_lit]; exact h j v hv
 have ha : (isAgg 34).run Tryz.prog W = .ok true W := by
  unfold isAgg
  rw [Sem.run_bind, run_underlying Tryz.underlying34 W]
  simp
 unfold execOp
 simp only [ho, hy, Instr.loadAt, Instr.sureAddr, Sem.run_bind, Sem.run_pure, Result.andThen_ok, loadVar, ha, if_true, Tryz.sizeOf34, hl]
set_option maxRecDepth 100000 in
set_option maxHeartbeats 16000000 in
theorem walk (L : Lk) (w : World) (v0 : LkIn w w.heap.size L) (q0 : LkW L) (hT : Tab w) :
  Calls Tryz.prog 4 #[lkV L] w fun e w' => e = .returned (.bool true) ∧ Below w.heap.size w w' := by
 obtain ⟨n1, hn1⟩ : ∃ n, n = L.lv.length := ⟨_, rfl⟩
 obtain ⟨n2, hn2⟩ : ∃ n, n = L.lf.length := ⟨_, rfl⟩
 obtain ⟨n3, hn3⟩ : ∃ n, n = L.le.length := ⟨_, rfl⟩
 obtain ⟨n4, hn4⟩ : ∃ n, n = L.lw.length := ⟨_, rfl⟩
 obtain ⟨n5, hn5⟩ : ∃ n, n = L.lr.length := ⟨_, rfl⟩
 have HT := Lib.hid hT
 have hAw := Lib.hid (fun W (hT : Tab W) => awake15 W hT)
 have hFw := Lib.hid (fun W (hk : Below w.heap.size w W) => show Calls Tryz.prog 6 #[.agg #[.int .i64 L.now, .int .i64 L.hd, .int .i64 L.pr, .int .i64 L.to, .slice L.A1 n1 L.c1, .slice L.A2 n2 L.c2, .slice L.A3 n3 L.c3, .slice L.A4 n4 L.c4, .slice L.A5 n5 L.c5]] W (fun e w' => ∃ b, e = .returned (.bool b) ∧ (b = true → WkF L) ∧ Below W.heap.size W w') from by
  have h9 := few15_any L W (v0.keep hk hk.size) q0
  unfold lkV lkA at h9
  rw [← hn1, ← hn2, ← hn3, ← hn4, ← hn5] at h9
  exact h9)
 have hCh := Lib.hid (fun (hF : WkF L) W (hk : Below w.heap.size w W) => show Calls Tryz.prog 9 #[.agg #[.int .i64 L.now, .int .i64 L.hd, .int .i64 L.pr, .int .i64 L.to, .slice L.A1 n1 L.c1, .slice L.A2 n2 L.c2, .slice L.A3 n3 L.c3, .slice L.A4 n4 L.c4, .slice L.A5 n5 L.c5]] W (fun e w' => ChooseJ L w' e ∧ Below W.heap.size W w') from by
  have h9 := choose_any L W (v0.keep hk hk.size) q0 hF (hT.below hk hT.size)
  unfold lkV lkA at h9
  rw [← hn1, ← hn2, ← hn3, ← hn4, ← hn5] at h9
  exact h9)
 have hRh := Lib.hid (fun W (hk : Below w.heap.size w W) => show Calls Tryz.prog 7 #[.agg #[.int .i64 L.now, .int .i64 L.hd, .int .i64 L.pr, .int .i64 L.to, .slice L.A1 n1 L.c1, .slice L.A2 n2 L.c2, .slice L.A3 n3 L.c3, .slice L.A4 n4 L.c4, .slice L.A5 n5 L.c5]] W (fun e w' => HeadR (headL L) e ∧ Below W.heap.size W w') from by
  have h9 := rhead14_any L W (v0.keep hk hk.size) q0
  unfold lkV lkA at h9
  rw [← hn1, ← hn2, ← hn3, ← hn4, ← hn5] at h9
  exact h9)
 have hFt := Lib.hid (fun (hF : WkF L) (X : Wa) (hX : headL L = some X) (U : Lu) W (hk : Below w.heap.size w W) => show Calls Tryz.prog 10 #[.slice L.A1 n1 L.c1, .agg #[.int .i64 U.g, .int .i64 U.c], .agg #[.int .i64 X.q, .int .i64 X.n, .int .i64 X.S.g, .int .i64 X.S.c, .int .i64 X.S.mn, .int .i64 X.S.mx]] W (fun e w' => e = .returned (.bool (fits L.lv U.g U.c X)) ∧ Below W.heap.size W w') from by
  have h9 := reffits12_any L.A1 L.c1 W.heap.size L.lv U.g U.c X W (v0.v.keep hk hk.size) (Nat.le_refl _) (by have := hF.f.n; omega) hF.f.v (head_ok q0 hX) (hT.below hk hT.size)
  unfold waV waA at h9
  rw [← hn1] at h9
  exact h9)
 have hCn := Lib.hid (fun (hF : WkF L) W (hk : Below w.heap.size w W) => show Calls Tryz.prog 9 #[.agg #[.int .i64 L.now, .int .i64 L.hd, .int .i64 L.pr, .int .i64 L.to, .slice L.A1 n1 L.c1, .slice L.A2 n2 L.c2, .slice L.A3 n3 L.c3, .slice none 0 0, .slice none 0 0]] W (fun e w' => ChooseJ (noneL L) w' e ∧ Below W.heap.size W w') from by
  have h8 := v0.keep hk hk.size
  have h9 := choose_any (noneL L) W ⟨h8.v, h8.f, h8.e, .inl rfl, .inl rfl⟩ (none_ok q0) (none_few hF) (hT.below hk hT.size)
  unfold lkV lkA noneL at h9
  rw [← hn1, ← hn2, ← hn3] at h9
  exact h9)
 have hCa := Lib.hid (fun (hF : WkF L) (A9 : Option Addr) (c9 : Nat) (x : Wt) (hx : x ∈ L.lw) (h1 : 1 ≤ c9) (h2 : c9 ≤ maxLen) W (hk : Below w.heap.size w W) (he : Els wtC 10 W W.heap.size A9 [x]) => show Calls Tryz.prog 9 #[.agg #[.int .i64 L.now, .int .i64 L.hd, .int .i64 L.pr, .int .i64 L.to, .slice L.A1 n1 L.c1, .slice L.A2 n2 L.c2, .slice L.A3 n3 L.c3, .slice A9 1 c9, .slice none 0 0]] W (fun e w' => ChooseJ (aloneL L A9 c9 x) w' e ∧ Below W.heap.size W w') from by
  have h8 := v0.keep hk hk.size
  have h9 := choose_any (aloneL L A9 c9 x) W ⟨h8.v, h8.f, h8.e, he, .inl rfl⟩ (alone_ok q0 (q0.t x hx) h1 h2) (alone_few hF hx) (hT.below hk hT.size)
  unfold lkV lkA aloneL at h9
  rw [← hn1, ← hn2, ← hn3] at h9
  exact h9)
 have HV := Lib.hid (And.intro hn2 (And.intro q0 v0.f))
 have HT4 := Lib.hid (And.intro v0.t hn4)
 have hl4 : n4 ≤ 9223372036854775807 := by rw [hn4]; exact Nat.le_trans q0.l4 q0.m4
 obtain ⟨i0, hi, hz0, hz1, hz2⟩ := info_parts info_wtW
 have HI := Lib.hid (And.intro hi (And.intro hz0 (And.intro hz1 hz2)))
 clear hi hz0 hz1 hz2
 unfold lkV lkA
 rw [← hn1, ← hn2, ← hn3, ← hn4, ← hn5]
 clear hn1 hn2 hn3 hn4 hn5 v0 q0 hT
 obtain ⟨B0, hB0⟩ : ∃ B, B = w.heap.size := ⟨_, rfl⟩
 rw [← hB0]
 have HB0 := Lib.hid hB0
 clear hB0
 have HBel := Lib.hid (Below.refl w.heap.size w)
 have hlow : w.heap.size ≤ w.heap.size := Nat.le_refl _
 go_enter Tryz.func4, Tryz.ntmps4
 go_wp2_with fail
 obtain ⟨V1, hV1⟩ : ∃ W, W = w.alloc (.cells #[.int .i64 L.now, .int .i64 L.hd, .int .i64 L.pr, .int .i64 L.to, .slice L.A1 n1 L.c1, .slice L.A2 n2 L.c2, .slice L.A3 n3 L.c3, .slice L.A4 n4 L.c4, .slice L.A5 n5 L.c5] 28) := ⟨_, rfl⟩
 rw [← hV1]
 have hzV1 : V1.heap.size = w.heap.size + 1 := by rw [hV1]; simp
 replace HBel := Lib.hid (below_eq hV1 ((HBel.out.alloc (hlow) _)))
 have B_l := Lib.hid (new10 hV1)
 obtain ⟨N_l, hN_l⟩ : ∃ N, N = w.heap.size := ⟨_, rfl⟩
 (try rw [← hN_l])
 rw [← hN_l] at B_l
 have l_l : N_l < V1.heap.size := by omega
 have g_l : w.heap.size ≤ N_l := by omega
 replace hlow : w.heap.size ≤ V1.heap.size := by omega
 clear hV1 hzV1 hN_l
 refine (hAw.out V1 (HT.out.below HBel.out HT.out.size)).mono ?_
 rintro e U2 ⟨rfl, hb9⟩
 have hs9 := hb9.size
 replace HBel := Lib.hid (HBel.out.trans (hb9.mono hlow))
 replace B_l := Lib.hid ((hb9.block _ l_l).trans B_l.out)
 replace l_l : N_l < U2.heap.size := by omega
 replace hlow : w.heap.size ≤ U2.heap.size := by omega
 clear hb9 hs9
 obtain ⟨l0, l1, l2, l3, l4, l5, l6, l7, l8⟩ := cells9 B_l.out
 go_wp2_with fail
 refine (hFw.out U2 HBel.out).mono ?_
 rintro e U3 ⟨b, rfl, hf, hb9⟩
 clear l0 l1 l2 l3 l4 l5 l6 l7 l8
 have hs9 := hb9.size
 replace HBel := Lib.hid (HBel.out.trans (hb9.mono hlow))
 replace B_l := Lib.hid ((hb9.block _ l_l).trans B_l.out)
 replace l_l : N_l < U3.heap.size := by omega
 replace hlow : w.heap.size ≤ U3.heap.size := by omega
 clear hb9 hs9
 cases b
 ·clear hf
  go_wp2
  go_ret
  exact ⟨by first | rfl | (simp; done), by rw [HB0.out]; exact HBel.out⟩
 ·have HF := Lib.hid (hf rfl)
  clear hf
  obtain ⟨l0, l1, l2, l3, l4, l5, l6, l7, l8⟩ := cells9 B_l.out
  have l_l_0 : N_l < U3.heap.size + 1 := by omega
  go_wp2_with fail
  clear l0 l1 l2 l3 l4 l5 l6 l7 l8 l_l_0
  obtain ⟨V4, hV4⟩ : ∃ W, W = U3.alloc (.cells #[.int .i64 L.now, .int .i64 L.hd, .int .i64 L.pr, .int .i64 L.to, .slice L.A1 n1 L.c1, .slice L.A2 n2 L.c2, .slice L.A3 n3 L.c3, .slice none 0 0, .slice none 0 0] 28) := ⟨_, rfl⟩
  rw [← hV4]
  have hzV4 : V4.heap.size = U3.heap.size + 1 := by rw [hV4]; simp
  replace HBel := Lib.hid (below_eq hV4 ((HBel.out.alloc (hlow) _)))
  replace B_l := Lib.hid (blk_eq hV4 (((Below.heap_alloc _ _ _ (by first | omega | (simp <;> omega))).trans B_l.out)))
  have B_n := Lib.hid (new10 hV4)
  obtain ⟨N_n, hN_n⟩ : ∃ N, N = U3.heap.size := ⟨_, rfl⟩
  (try rw [← hN_n])
  rw [← hN_n] at B_n
  have d_l_n : N_l < N_n := by omega
  replace l_l : N_l < V4.heap.size := by omega
  have l_n : N_n < V4.heap.size := by omega
  have g_n : w.heap.size ≤ N_n := by omega
  replace hlow : w.heap.size ≤ V4.heap.size := by omega
  clear hV4 hzV4 hN_n
  refine (hCn.out HF.out V4 HBel.out).mono ?_
  rintro e U5 ⟨⟨d, id, sl, A, kc, c, rfl, hc, hk, hkc, hcm, hfe⟩, hb9⟩
  have hs9 := hb9.size
  obtain ⟨rfl, rfl, rfl⟩ := none_rest hc
  obtain rfl := hk
  clear hc hkc hcm hfe
  replace HBel := Lib.hid (HBel.out.trans (hb9.mono hlow))
  replace B_l := Lib.hid ((hb9.block _ l_l).trans B_l.out)
  replace B_n := Lib.hid ((hb9.block _ l_n).trans B_n.out)
  replace l_l : N_l < U5.heap.size := by omega
  replace l_n : N_n < U5.heap.size := by omega
  replace hlow : w.heap.size ≤ U5.heap.size := by omega
  clear hb9 hs9
  obtain ⟨l0, l1, l2, l3, l4, l5, l6, l7, l8⟩ := cells9 B_l.out
  have l_l_0 : N_l < U5.heap.size + 1 := by omega
  go_wp2_with fail
  clear l0 l1 l2 l3 l4 l5 l6 l7 l8 l_l_0
  obtain ⟨V6, hV6⟩ : ∃ W, W = U5.alloc (.cells #[.int .i64 0, .int .i64 0, .slice A 0 c] 39) := ⟨_, rfl⟩
  rw [← hV6]
  have hzV6 : V6.heap.size = U5.heap.size + 1 := by rw [hV6]; simp
  replace HBel := Lib.hid (below_eq hV6 ((HBel.out.alloc (hlow) _)))
  replace B_l := Lib.hid (blk_eq hV6 (((Below.heap_alloc _ _ _ (by first | omega | (simp <;> omega))).trans B_l.out)))
  replace B_n := Lib.hid (blk_eq hV6 (((Below.heap_alloc _ _ _ (by first | omega | (simp <;> omega))).trans B_n.out)))
  have B_c := Lib.hid (new10 hV6)
  obtain ⟨N_c, hN_c⟩ : ∃ N, N = U5.heap.size := ⟨_, rfl⟩
  (try rw [← hN_c])
  rw [← hN_c] at B_c
  have d_l_c : N_l < N_c := by omega
  have d_n_c : N_n < N_c := by omega
  replace l_l : N_l < V6.heap.size := by omega
  replace l_n : N_n < V6.heap.size := by omega
  have l_c : N_c < V6.heap.size := by omega
  have g_c : w.heap.size ≤ N_c := by omega
  replace hlow : w.heap.size ≤ V6.heap.size := by omega
  clear hV6 hzV6 hN_c
  refine (hRh.out V6 HBel.out).mono ?_
  rintro e U7 ⟨hh, hb9⟩
  have hs9 := hb9.size
  replace HBel := Lib.hid (HBel.out.trans (hb9.mono hlow))
  replace B_l := Lib.hid ((hb9.block _ l_l).trans B_l.out)
  replace B_n := Lib.hid ((hb9.block _ l_n).trans B_n.out)
  replace B_c := Lib.hid ((hb9.block _ l_c).trans B_c.out)
  replace l_l : N_l < U7.heap.size := by omega
  replace l_n : N_n < U7.heap.size := by omega
  replace l_c : N_c < U7.heap.size := by omega
  replace hlow : w.heap.size ≤ U7.heap.size := by omega
  clear hb9 hs9
  rcases hh with ⟨hX, rfl⟩ | ⟨X, hX, rfl⟩
  ·go_wp2_with fail
   obtain ⟨V8, hV8⟩ : ∃ W, W = U7.alloc (.cells #[.int .i64 0, .int .i64 0, .int .i64 0, .int .i64 0, .int .i64 0, .int .i64 0] 34) := ⟨_, rfl⟩
   rw [← hV8]
   have hzV8 : V8.heap.size = U7.heap.size + 1 := by rw [hV8]; simp
   replace HBel := Lib.hid (below_eq hV8 ((HBel.out.alloc (hlow) _)))
   replace B_l := Lib.hid (blk_eq hV8 (((Below.heap_alloc _ _ _ (by first | omega | (simp <;> omega))).trans B_l.out)))
   replace B_n := Lib.hid (blk_eq hV8 (((Below.heap_alloc _ _ _ (by first | omega | (simp <;> omega))).trans B_n.out)))
   replace B_c := Lib.hid (blk_eq hV8 (((Below.heap_alloc _ _ _ (by first | omega | (simp <;> omega))).trans B_c.out)))
   have B_h := Lib.hid (new10 hV8)
   obtain ⟨N_h, hN_h⟩ : ∃ N, N = U7.heap.size := ⟨_, rfl⟩
   (try rw [← hN_h])
   rw [← hN_h] at B_h
   have d_l_h : N_l < N_h := by omega
   have d_n_h : N_n < N_h := by omega
   have d_c_h : N_c < N_h := by omega
   replace l_l : N_l < V8.heap.size := by omega
   replace l_n : N_n < V8.heap.size := by omega
   replace l_c : N_c < V8.heap.size := by omega
   have l_h : N_h < V8.heap.size := by omega
   have g_h : w.heap.size ≤ N_h := by omega
   replace hlow : w.heap.size ≤ V8.heap.size := by omega
   clear hV8 hzV8 hN_h
   refine held_begin (fun w' : World => True) (by kernel_rfl) ?_
   have hBh0 : Below V8.heap.size V8 V8.drew := (Below.refl _ _).drew
   have hSh0 : (fun w' : World => True) V8.drew := trivial
   refine tkH ?_ 0 38 rfl rfl ⟨by rfl, ?_⟩ hSh0 ?_;rotate_left
   ·rintro w' _;go_simp;(try with_reducible rfl)
   simp only [Act.put, pzA, pzB, pzC]
   refine tkH ?_ 1 39 rfl rfl ⟨by rfl, ?_⟩ hSh0 ?_;rotate_left
   ·rintro w' _;go_simp;(try with_reducible rfl)
   simp only [Act.put, pzA, pzB, pzC]
   refine tkH ?_ 2 40 rfl rfl ⟨by rfl, ?_⟩ hSh0 ?_;rotate_left
   ·rintro w' _;go_simp;(try with_reducible rfl)
   simp only [Act.put, pzA, pzB, pzC]
   refine held_skipK 3 41 rfl rfl (by rfl) hSh0 ?_
   simp only [Act.put, pzA, pzB, pzC]
   refine held_skipK 4 42 rfl rfl (by rfl) hSh0 ?_
   simp only [Act.put, pzA, pzB, pzC]
   refine held_skipK 5 43 rfl rfl (by rfl) hSh0 ?_
   simp only [Act.put, pzA, pzB, pzC]
   refine tkH ?_ 6 44 rfl rfl ⟨by rfl, ?_⟩ hSh0 ?_;rotate_left
   ·rintro w' _;go_simp;(try with_reducible rfl)
   simp only [Act.put, pzA, pzB, pzC]
   refine tkH ?_ 7 45 rfl rfl ⟨by rfl, ?_⟩ hSh0 ?_;rotate_left
   ·rintro w' _;go_simp;(try with_reducible rfl)
   simp only [Act.put, pzA, pzB, pzC]
   refine held_skipK 8 46 rfl rfl (by rfl) hSh0 ?_
   simp only [Act.put, pzA, pzB, pzC]
   refine held_skipK 9 47 rfl rfl (by rfl) hSh0 ?_
   simp only [Act.put, pzA, pzB, pzC]
   refine held_skipK 10 48 rfl rfl (by rfl) hSh0 ?_
   simp only [Act.put, pzA, pzB, pzC]
   refine held_skipK 11 49 rfl rfl (by rfl) hSh0 ?_
   simp only [Act.put, pzA, pzB, pzC]
   refine held_skipK 12 50 rfl rfl (by rfl) hSh0 ?_
   simp only [Act.put, pzA, pzB, pzC]
   refine held_skipK 13 51 rfl rfl (by rfl) hSh0 ?_
   simp only [Act.put, pzA, pzB, pzC]
   refine tkH ?_ 14 52 rfl rfl ⟨by rfl, ?_⟩ hSh0 ?_;rotate_left
   ·rintro w' _;go_simp;(try with_reducible rfl)
   simp only [Act.put, pzA, pzB, pzC]
   refine tkH ?_ 15 53 rfl rfl ⟨by rfl, ?_⟩ hSh0 ?_;rotate_left
   ·rintro w' _;go_simp;(try with_reducible rfl)
   simp only [Act.put, pzA, pzB, pzC]
   refine held_skipK 16 54 rfl rfl (by rfl) hSh0 ?_
   simp only [Act.put, pzA, pzB, pzC]
   refine held_skipK 17 55 rfl rfl (by rfl) hSh0 ?_
   simp only [Act.put, pzA, pzB, pzC]
   refine held_skipK 18 56 rfl rfl (by rfl) hSh0 ?_
   simp only [Act.put, pzA, pzB, pzC]
   refine held_skipK 19 57 rfl rfl (by rfl) hSh0 ?_
   simp only [Act.put, pzA, pzB, pzC]
   refine held_skipK 20 58 rfl rfl (by rfl) hSh0 ?_
   simp only [Act.put, pzA, pzB, pzC]
   refine held_skipK 21 59 rfl rfl (by rfl) hSh0 ?_
   simp only [Act.put, pzA, pzB, pzC]
   refine held_skipK 22 60 rfl rfl (by rfl) hSh0 ?_
   simp only [Act.put, pzA, pzB, pzC]
   refine held_skipK 23 61 rfl rfl (by rfl) hSh0 ?_
   simp only [Act.put, pzA, pzB, pzC]
   refine held_skipK 24 62 rfl rfl (by rfl) hSh0 ?_
   simp only [Act.put, pzA, pzB, pzC]
   refine held_skipK 25 63 rfl rfl (by rfl) hSh0 ?_
   simp only [Act.put, pzA, pzB, pzC]
   refine tkH ?_ 26 64 rfl rfl ⟨by rfl, ?_⟩ hSh0 ?_;rotate_left
   ·rintro w' _;go_simp;(try with_reducible rfl)
   simp only [Act.put, pzA, pzB, pzC]
   refine wpAnyH_done (by kernel_rfl) ?_ _
   obtain ⟨D9, hD9⟩ : ∃ D, D = V8.drew := ⟨_, rfl⟩
   have hb9 : Below V8.heap.size V8 D9 := by rw [hD9]; exact hBh0
   rw [← hD9]
   clear hD9
   have hs9 := hb9.size
   replace HBel := Lib.hid (HBel.out.trans (hb9.mono hlow))
   replace B_l := Lib.hid ((hb9.block _ l_l).trans B_l.out)
   replace B_n := Lib.hid ((hb9.block _ l_n).trans B_n.out)
   replace B_c := Lib.hid ((hb9.block _ l_c).trans B_c.out)
   replace B_h := Lib.hid ((hb9.block _ l_h).trans B_h.out)
   replace l_l : N_l < D9.heap.size := by omega
   replace l_n : N_n < D9.heap.size := by omega
   replace l_c : N_c < D9.heap.size := by omega
   replace l_h : N_h < D9.heap.size := by omega
   replace hlow : w.heap.size ≤ D9.heap.size := by omega
   clear hb9 hs9 hSh0 hBh0 
   go_wp2
   go_ret
   exact ⟨by first | rfl | (simp; done), by rw [HB0.out]; exact HBel.out⟩
  ·have HX := Lib.hid hX
   clear hX
   cases hq : leftL L X.q with
   | none =>
    rcases left_no hq with hlt | hlt
    ·have t8 : decide (X.q < 0) = true := decide_eq_true hlt
     clear hq hlt
     go_wp2_with fail
     obtain ⟨V8, hV8⟩ : ∃ W, W = U7.alloc (.cells #[.int .i64 X.q, .int .i64 X.n, .int .i64 X.S.g, .int .i64 X.S.c, .int .i64 X.S.mn, .int .i64 X.S.mx] 34) := ⟨_, rfl⟩
     rw [← hV8]
     have hzV8 : V8.heap.size = U7.heap.size + 1 := by rw [hV8]; simp
     replace HBel := Lib.hid (below_eq hV8 ((HBel.out.alloc (hlow) _)))
     replace B_l := Lib.hid (blk_eq hV8 (((Below.heap_alloc _ _ _ (by first | omega | (simp <;> omega))).trans B_l.out)))
     replace B_n := Lib.hid (blk_eq hV8 (((Below.heap_alloc _ _ _ (by first | omega | (simp <;> omega))).trans B_n.out)))
     replace B_c := Lib.hid (blk_eq hV8 (((Below.heap_alloc _ _ _ (by first | omega | (simp <;> omega))).trans B_c.out)))
     have B_h := Lib.hid (new10 hV8)
     obtain ⟨N_h, hN_h⟩ : ∃ N, N = U7.heap.size := ⟨_, rfl⟩
     (try rw [← hN_h])
     rw [← hN_h] at B_h
     have d_l_h : N_l < N_h := by omega
     have d_n_h : N_n < N_h := by omega
     have d_c_h : N_c < N_h := by omega
     replace l_l : N_l < V8.heap.size := by omega
     replace l_n : N_n < V8.heap.size := by omega
     replace l_c : N_c < V8.heap.size := by omega
     have l_h : N_h < V8.heap.size := by omega
     have g_h : w.heap.size ≤ N_h := by omega
     replace hlow : w.heap.size ≤ V8.heap.size := by omega
     clear hV8 hzV8 hN_h
     obtain ⟨h0, h1, h2, h3, h4, h5⟩ := cells6 B_h.out
     refine held_begin (fun w' : World => w'.cell? ⟨N_h, 0, none⟩ = some (.int .i64 X.q)) (by kernel_rfl) ?_
     have hBh0 : Below V8.heap.size V8 V8.drew := (Below.refl _ _).drew
     have hSh0 : (fun w' : World => w'.cell? ⟨N_h, 0, none⟩ = some (.int .i64 X.q)) V8.drew := h0
     refine tkH ?_ 0 38 rfl rfl ⟨by rfl, ?_⟩ hSh0 ?_;rotate_left
     ·rintro w' x0;go_simp;(try with_reducible rfl)
     simp only [Act.put, pzA, pzB, pzC]
     refine tkH ?_ 1 39 rfl rfl ⟨by rfl, ?_⟩ hSh0 ?_;rotate_left
     ·rintro w' x0;go_simp;(try with_reducible rfl)
     simp only [Act.put, pzA, pzB, pzC]
     refine tkH ?_ 2 40 rfl rfl ⟨by rfl, ?_⟩ hSh0 ?_;rotate_left
     ·rintro w' x0;go_simp;(try with_reducible rfl)
     simp only [Act.put, pzA, pzB, pzC]
     refine tkH ?_ 3 41 rfl rfl ⟨by rfl, ?_⟩ hSh0 ?_;rotate_left
     ·rintro w' x0;go_simp;(try with_reducible rfl)
     simp only [Act.put, pzA, pzB, pzC]
     refine tkH ?_ 4 42 rfl rfl ⟨by rfl, ?_⟩ hSh0 ?_;rotate_left
     ·rintro w' x0;go_simp;(try with_reducible rfl)
     simp only [Act.put, pzA, pzB, pzC]
     refine tkH ?_ 5 43 rfl rfl ⟨by rfl, ?_⟩ hSh0 ?_;rotate_left
     ·rintro w' x0;go_simp;(try with_reducible rfl)
     simp only [Act.put, pzA, pzB, pzC]
     refine tkH ?_ 6 44 rfl rfl ⟨by rfl, ?_⟩ hSh0 ?_;rotate_left
     ·rintro w' x0;go_simp;(try with_reducible rfl)
     simp only [Act.put, pzA, pzB, pzC]
     refine tkH ?_ 7 45 rfl rfl ⟨by rfl, ?_⟩ hSh0 ?_;rotate_left
     ·rintro w' x0;go_simp;(try with_reducible rfl)
     simp only [Act.put, pzA, pzB, pzC]
     refine held_skipK 8 46 rfl rfl (by rfl) hSh0 ?_
     simp only [Act.put, pzA, pzB, pzC]
     refine held_skipK 9 47 rfl rfl (by rfl) hSh0 ?_
     simp only [Act.put, pzA, pzB, pzC]
     refine held_skipK 10 48 rfl rfl (by rfl) hSh0 ?_
     simp only [Act.put, pzA, pzB, pzC]
     refine held_skipK 11 49 rfl rfl (by rfl) hSh0 ?_
     simp only [Act.put, pzA, pzB, pzC]
     refine held_skipK 12 50 rfl rfl (by rfl) hSh0 ?_
     simp only [Act.put, pzA, pzB, pzC]
     refine held_skipK 13 51 rfl rfl (by rfl) hSh0 ?_
     simp only [Act.put, pzA, pzB, pzC]
     refine tkH ?_ 14 52 rfl rfl ⟨by rfl, ?_⟩ hSh0 ?_;rotate_left
     ·rintro w' x0;go_simp;(try with_reducible rfl)
     simp only [Act.put, pzA, pzB, pzC]
     refine tkH ?_ 15 53 rfl rfl ⟨by rfl, ?_⟩ hSh0 ?_;rotate_left
     ·rintro w' x0;go_simp;(try with_reducible rfl)
     simp only [Act.put, pzA, pzB, pzC]
     refine held_skipK 16 54 rfl rfl (by rfl) hSh0 ?_
     simp only [Act.put, pzA, pzB, pzC]
     refine held_skipK 17 55 rfl rfl (by rfl) hSh0 ?_
     simp only [Act.put, pzA, pzB, pzC]
     refine held_skipK 18 56 rfl rfl (by rfl) hSh0 ?_
     simp only [Act.put, pzA, pzB, pzC]
     refine held_skipK 19 57 rfl rfl (by rfl) hSh0 ?_
     simp only [Act.put, pzA, pzB, pzC]
     refine held_skipK 20 58 rfl rfl (by rfl) hSh0 ?_
     simp only [Act.put, pzA, pzB, pzC]
     refine held_skipK 21 59 rfl rfl (by rfl) hSh0 ?_
     simp only [Act.put, pzA, pzB, pzC]
     refine held_skipK 22 60 rfl rfl (by rfl) hSh0 ?_
     simp only [Act.put, pzA, pzB, pzC]
     refine held_skipK 23 61 rfl rfl (by rfl) hSh0 ?_
     simp only [Act.put, pzA, pzB, pzC]
     refine held_skipK 24 62 rfl rfl (by rfl) hSh0 ?_
     simp only [Act.put, pzA, pzB, pzC]
     refine held_skipK 25 63 rfl rfl (by rfl) hSh0 ?_
     simp only [Act.put, pzA, pzB, pzC]
     refine tkH ?_ 26 64 rfl rfl ⟨by rfl, ?_⟩ hSh0 ?_;rotate_left
     ·rintro w' x0;go_simp;(try with_reducible rfl)
     simp only [Act.put, pzA, pzB, pzC]
     refine wpAnyH_done (by kernel_rfl) ?_ _
     obtain ⟨D9, hD9⟩ : ∃ D, D = V8.drew := ⟨_, rfl⟩
     have hb9 : Below V8.heap.size V8 D9 := by rw [hD9]; exact hBh0
     rw [← hD9]
     clear hD9
     have hs9 := hb9.size
     replace HBel := Lib.hid (HBel.out.trans (hb9.mono hlow))
     replace B_l := Lib.hid ((hb9.block _ l_l).trans B_l.out)
     replace B_n := Lib.hid ((hb9.block _ l_n).trans B_n.out)
     replace B_c := Lib.hid ((hb9.block _ l_c).trans B_c.out)
     replace B_h := Lib.hid ((hb9.block _ l_h).trans B_h.out)
     replace l_l : N_l < D9.heap.size := by omega
     replace l_n : N_n < D9.heap.size := by omega
     replace l_c : N_c < D9.heap.size := by omega
     replace l_h : N_h < D9.heap.size := by omega
     replace hlow : w.heap.size ≤ D9.heap.size := by omega
     clear hb9 hs9 hSh0 hBh0 h0 h1 h2 h3 h4 h5
     go_wp2
     go_ret
     exact ⟨by first | rfl | (simp; done), by rw [HB0.out]; exact HBel.out⟩
    ·have t9 : decide ((n2 : Int) ≤ X.q) = true := decide_eq_true (by rw [HV.out.1]; exact hlt)
     have t8 : decide (X.q < 0) = false := decide_eq_false (by omega)
     clear hq hlt
     go_wp2_with fail
     obtain ⟨V8, hV8⟩ : ∃ W, W = U7.alloc (.cells #[.int .i64 X.q, .int .i64 X.n, .int .i64 X.S.g, .int .i64 X.S.c, .int .i64 X.S.mn, .int .i64 X.S.mx] 34) := ⟨_, rfl⟩
     rw [← hV8]
     have hzV8 : V8.heap.size = U7.heap.size + 1 := by rw [hV8]; simp
     replace HBel := Lib.hid (below_eq hV8 ((HBel.out.alloc (hlow) _)))
     replace B_l := Lib.hid (blk_eq hV8 (((Below.heap_alloc _ _ _ (by first | omega | (simp <;> omega))).trans B_l.out)))
     replace B_n := Lib.hid (blk_eq hV8 (((Below.heap_alloc _ _ _ (by first | omega | (simp <;> omega))).trans B_n.out)))
     replace B_c := Lib.hid (blk_eq hV8 (((Below.heap_alloc _ _ _ (by first | omega | (simp <;> omega))).trans B_c.out)))
     have B_h := Lib.hid (new10 hV8)
     obtain ⟨N_h, hN_h⟩ : ∃ N, N = U7.heap.size := ⟨_, rfl⟩
     (try rw [← hN_h])
     rw [← hN_h] at B_h
     have d_l_h : N_l < N_h := by omega
     have d_n_h : N_n < N_h := by omega
     have d_c_h : N_c < N_h := by omega
     replace l_l : N_l < V8.heap.size := by omega
     replace l_n : N_n < V8.heap.size := by omega
     replace l_c : N_c < V8.heap.size := by omega
     have l_h : N_h < V8.heap.size := by omega
     have g_h : w.heap.size ≤ N_h := by omega
     replace hlow : w.heap.size ≤ V8.heap.size := by omega
     clear hV8 hzV8 hN_h
     obtain ⟨h0, h1, h2, h3, h4, h5⟩ := cells6 B_h.out
     obtain ⟨l0, l1, l2, l3, l4, l5, l6, l7, l8⟩ := cells9 B_l.out
     refine held_begin (fun w' : World => w'.cell? ⟨N_h, 0, none⟩ = some (.int .i64 X.q) ∧ w'.cell? ⟨N_l, 5, none⟩ = some (.slice L.A2 n2 L.c2)) (by kernel_rfl) ?_
     have hBh0 : Below V8.heap.size V8 V8.drew := (Below.refl _ _).drew
     have hSh0 := And.intro h0 l5
     refine tkH ?_ 0 38 rfl rfl ⟨by rfl, ?_⟩ hSh0 ?_;rotate_left
     ·rintro w' ⟨x0, x1⟩;go_simp;(try with_reducible rfl)
     simp only [Act.put, pzA, pzB, pzC]
     refine tkH ?_ 1 39 rfl rfl ⟨by rfl, ?_⟩ hSh0 ?_;rotate_left
     ·rintro w' ⟨x0, x1⟩;go_simp;(try with_reducible rfl)
     simp only [Act.put, pzA, pzB, pzC]
     refine tkH ?_ 2 40 rfl rfl ⟨by rfl, ?_⟩ hSh0 ?_;rotate_left
     ·rintro w' ⟨x0, x1⟩;go_simp;(try with_reducible rfl)
     simp only [Act.put, pzA, pzB, pzC]
     refine tkH ?_ 3 41 rfl rfl ⟨by rfl, ?_⟩ hSh0 ?_;rotate_left
     ·rintro w' ⟨x0, x1⟩;go_simp;(try with_reducible rfl)
     simp only [Act.put, pzA, pzB, pzC]
     refine tkH ?_ 4 42 rfl rfl ⟨by rfl, ?_⟩ hSh0 ?_;rotate_left
     ·rintro w' ⟨x0, x1⟩;go_simp;(try with_reducible rfl)
     simp only [Act.put, pzA, pzB, pzC]
     refine tkH ?_ 5 43 rfl rfl ⟨by rfl, ?_⟩ hSh0 ?_;rotate_left
     ·rintro w' ⟨x0, x1⟩;go_simp;(try with_reducible rfl)
     simp only [Act.put, pzA, pzB, pzC]
     refine tkH ?_ 6 44 rfl rfl ⟨by rfl, ?_⟩ hSh0 ?_;rotate_left
     ·rintro w' ⟨x0, x1⟩;go_simp;(try with_reducible rfl)
     simp only [Act.put, pzA, pzB, pzC]
     refine tkH ?_ 7 45 rfl rfl ⟨by rfl, ?_⟩ hSh0 ?_;rotate_left
     ·rintro w' ⟨x0, x1⟩;go_simp;(try with_reducible rfl)
     simp only [Act.put, pzA, pzB, pzC]
     refine tkH ?_ 8 46 rfl rfl ⟨by rfl, ?_⟩ hSh0 ?_;rotate_left
     ·rintro w' ⟨x0, x1⟩;go_simp;(try with_reducible rfl)
     simp only [Act.put, pzA, pzB, pzC]
     refine tkH ?_ 9 47 rfl rfl ⟨by rfl, ?_⟩ hSh0 ?_;rotate_left
     ·rintro w' ⟨x0, x1⟩;go_simp;(try with_reducible rfl)
     simp only [Act.put, pzA, pzB, pzC]
     refine tkH ?_ 10 48 rfl rfl ⟨by rfl, ?_⟩ hSh0 ?_;rotate_left
     ·rintro w' ⟨x0, x1⟩;go_simp;(try with_reducible rfl)
     simp only [Act.put, pzA, pzB, pzC]
     refine tkH ?_ 11 49 rfl rfl ⟨by rfl, ?_⟩ hSh0 ?_;rotate_left
     ·rintro w' ⟨x0, x1⟩;go_simp;(try with_reducible rfl)
     simp only [Act.put, pzA, pzB, pzC]
     refine tkH ?_ 12 50 rfl rfl ⟨by rfl, ?_⟩ hSh0 ?_;rotate_left
     ·rintro w' ⟨x0, x1⟩;go_simp;(try with_reducible rfl)
     simp only [Act.put, pzA, pzB, pzC]
     refine tkH ?_ 13 51 rfl rfl ⟨by rfl, ?_⟩ hSh0 ?_;rotate_left
     ·rintro w' ⟨x0, x1⟩;go_simp;(try with_reducible rfl)
     simp only [Act.put, pzA, pzB, pzC]
     refine tkH ?_ 14 52 rfl rfl ⟨by rfl, ?_⟩ hSh0 ?_;rotate_left
     ·rintro w' ⟨x0, x1⟩;go_simp;(try with_reducible rfl)
     simp only [Act.put, pzA, pzB, pzC]
     refine tkH ?_ 15 53 rfl rfl ⟨by rfl, ?_⟩ hSh0 ?_;rotate_left
     ·rintro w' ⟨x0, x1⟩;go_simp;(try with_reducible rfl)
     simp only [Act.put, pzA, pzB, pzC]
     refine held_skipK 16 54 rfl rfl (by rfl) hSh0 ?_
     simp only [Act.put, pzA, pzB, pzC]
     refine held_skipK 17 55 rfl rfl (by rfl) hSh0 ?_
     simp only [Act.put, pzA, pzB, pzC]
     refine held_skipK 18 56 rfl rfl (by rfl) hSh0 ?_
     simp only [Act.put, pzA, pzB, pzC]
     refine held_skipK 19 57 rfl rfl (by rfl) hSh0 ?_
     simp only [Act.put, pzA, pzB, pzC]
     refine held_skipK 20 58 rfl rfl (by rfl) hSh0 ?_
     simp only [Act.put, pzA, pzB, pzC]
     refine held_skipK 21 59 rfl rfl (by rfl) hSh0 ?_
     simp only [Act.put, pzA, pzB, pzC]
     refine held_skipK 22 60 rfl rfl (by rfl) hSh0 ?_
     simp only [Act.put, pzA, pzB, pzC]
     refine held_skipK 23 61 rfl rfl (by rfl) hSh0 ?_
     simp only [Act.put, pzA, pzB, pzC]
     refine held_skipK 24 62 rfl rfl (by rfl) hSh0 ?_
     simp only [Act.put, pzA, pzB, pzC]
     refine held_skipK 25 63 rfl rfl (by rfl) hSh0 ?_
     simp only [Act.put, pzA, pzB, pzC]
     refine tkH ?_ 26 64 rfl rfl ⟨by rfl, ?_⟩ hSh0 ?_;rotate_left
     ·rintro w' ⟨x0, x1⟩;go_simp;(try with_reducible rfl)
     simp only [Act.put, pzA, pzB, pzC]
     refine wpAnyH_done (by kernel_rfl) ?_ _
     obtain ⟨D9, hD9⟩ : ∃ D, D = V8.drew := ⟨_, rfl⟩
     have hb9 : Below V8.heap.size V8 D9 := by rw [hD9]; exact hBh0
     rw [← hD9]
     clear hD9
     have hs9 := hb9.size
     replace HBel := Lib.hid (HBel.out.trans (hb9.mono hlow))
     replace B_l := Lib.hid ((hb9.block _ l_l).trans B_l.out)
     replace B_n := Lib.hid ((hb9.block _ l_n).trans B_n.out)
     replace B_c := Lib.hid ((hb9.block _ l_c).trans B_c.out)
     replace B_h := Lib.hid ((hb9.block _ l_h).trans B_h.out)
     replace l_l : N_l < D9.heap.size := by omega
     replace l_n : N_n < D9.heap.size := by omega
     replace l_c : N_c < D9.heap.size := by omega
     replace l_h : N_h < D9.heap.size := by omega
     replace hlow : w.heap.size ≤ D9.heap.size := by omega
     clear hb9 hs9 hSh0 hBh0 h0 h1 h2 h3 h4 h5 l0 l1 l2 l3 l4 l5 l6 l7 l8
     go_wp2
     go_ret
     exact ⟨by first | rfl | (simp; done), by rw [HB0.out]; exact HBel.out⟩
   | some U =>
    obtain ⟨hUm, hq0, hqn⟩ := left_in hq
    obtain ⟨q, hqq⟩ : ∃ q : Nat, X.q = q := ⟨X.q.toNat, by omega⟩
    have hUq : L.lf[q]? = some U := by
     have h9 := hq
     unfold leftL at h9
     rw [if_pos hq0, hqq] at h9
     simpa using h9
    have hqn2 : q < n2 := by have := HV.out.1; omega
    have hFX := hFt.out HF.out X HX.out U
    rw [hqq] at hFX
    have HFX := Lib.hid hFX
    have HQ := Lib.hid (And.intro hq hqq)
    obtain ⟨b2, off2, hA, hb2, hall⟩ := HV.out.2.2.at_ hUq
    have HCA := Lib.hid (And.intro (hall q U hUq) hb2)
    have HA2 := Lib.hid hA
    have t8 : decide (q < 0) = false := decide_eq_false (by omega)
    have t9 : decide ((q : Int) < 0) = false := decide_eq_false (by omega)
    have t10 : decide (n2 ≤ q) = false := decide_eq_false (by omega)
    have t10b : decide ((n2 : Int) ≤ (q : Int)) = false := decide_eq_false (by omega)
    have t11 : decide (q < n2) = true := decide_eq_true hqn2
    rw [hqq]
    clear hFX hUm hq0 hqn hqq hUq hA hb2 hall hq
    go_wp2_with fail
    obtain ⟨V8, hV8⟩ : ∃ W, W = U7.alloc (.cells #[.int .i64 (q : Nat), .int .i64 X.n, .int .i64 X.S.g, .int .i64 X.S.c, .int .i64 X.S.mn, .int .i64 X.S.mx] 34) := ⟨_, rfl⟩
    rw [← hV8]
    have hzV8 : V8.heap.size = U7.heap.size + 1 := by rw [hV8]; simp
    replace HBel := Lib.hid (below_eq hV8 ((HBel.out.alloc (hlow) _)))
    replace B_l := Lib.hid (blk_eq hV8 (((Below.heap_alloc _ _ _ (by first | omega | (simp <;> omega))).trans B_l.out)))
    replace B_n := Lib.hid (blk_eq hV8 (((Below.heap_alloc _ _ _ (by first | omega | (simp <;> omega))).trans B_n.out)))
    replace B_c := Lib.hid (blk_eq hV8 (((Below.heap_alloc _ _ _ (by first | omega | (simp <;> omega))).trans B_c.out)))
    have B_h := Lib.hid (new10 hV8)
    obtain ⟨N_h, hN_h⟩ : ∃ N, N = U7.heap.size := ⟨_, rfl⟩
    (try rw [← hN_h])
    rw [← hN_h] at B_h
    have d_l_h : N_l < N_h := by omega
    have d_n_h : N_n < N_h := by omega
    have d_c_h : N_c < N_h := by omega
    replace l_l : N_l < V8.heap.size := by omega
    replace l_n : N_n < V8.heap.size := by omega
    replace l_c : N_c < V8.heap.size := by omega
    have l_h : N_h < V8.heap.size := by omega
    have g_h : w.heap.size ≤ N_h := by omega
    replace hlow : w.heap.size ≤ V8.heap.size := by omega
    clear hV8 hzV8 hN_h
    have hb2W : b2 < V8.heap.size := by have := HCA.out.2; omega
    have l5 : V8.cell? ⟨N_l, 5, none⟩ = some (.slice (some ⟨b2, off2, none⟩) n2 L.c2) := by rw [← HA2.out]; exact cell_blk (i := 5) B_l.out rfl
    have l4 : V8.cell? ⟨N_l, 4, none⟩ = some (.slice L.A1 n1 L.c1) := cell_blk (i := 4) B_l.out rfl
    have h0 : V8.cell? ⟨N_h, 0, none⟩ = some (.int .i64 (q : Nat)) := cell_blk (i := 0) B_h.out rfl
    have hU2 : CellsAt V8 b2 (off2 + q * 2) (luC U) := HCA.out.1.keep HCA.out.2 HBel.out
    have hX2 : CellsAt V8 N_h 0 [.int .i64 (q : Nat), .int .i64 X.n, .int .i64 X.S.g, .int .i64 X.S.c, .int .i64 X.S.mn, .int .i64 X.S.mx] := fun r v hr => by
     rw [Nat.zero_add]
     exact cell_blk B_h.out (by simpa using hr)
    obtain ⟨fb, hfb⟩ : ∃ b, b = fits L.lv U.g U.c X := ⟨_, rfl⟩
    rw [← hfb] at HFX
    have HFB := Lib.hid hfb
    clear hfb
    refine held_begin (fun w' : World => w'.cell? ⟨N_l, 4, none⟩ = some (.slice L.A1 n1 L.c1) ∧ w'.cell? ⟨N_l, 5, none⟩ = some (.slice (some ⟨b2, off2, none⟩) n2 L.c2) ∧ w'.cell? ⟨N_h, 0, none⟩ = some (.int .i64 (q : Nat)) ∧ CellsAt w' b2 (off2 + q * 2) (luC U) ∧ CellsAt w' N_h 0 [.int .i64 (q : Nat), .int .i64 X.n, .int .i64 X.S.g, .int .i64 X.S.c, .int .i64 X.S.mn, .int .i64 X.S.mx]) (by kernel_rfl) ?_
    have hBh0 : Below V8.heap.size V8 V8.drew := (Below.refl _ _).drew
    have hSh0 := And.intro l4 (And.intro l5 (And.intro h0 (And.intro hU2 hX2)))
    refine tkH ?_ 0 38 rfl rfl ⟨by rfl, ?_⟩ hSh0 ?_;rotate_left
    ·rintro w' ⟨x0, x1, x2, x3, x4⟩;go_simp;(try with_reducible rfl)
    simp only [Act.put, pzA, pzB, pzC]
    refine tkH ?_ 1 39 rfl rfl ⟨by rfl, ?_⟩ hSh0 ?_;rotate_left
    ·rintro w' ⟨x0, x1, x2, x3, x4⟩;go_simp;(try with_reducible rfl)
    simp only [Act.put, pzA, pzB, pzC]
    refine tkH ?_ 2 40 rfl rfl ⟨by rfl, ?_⟩ hSh0 ?_;rotate_left
    ·rintro w' ⟨x0, x1, x2, x3, x4⟩;go_simp;(try with_reducible rfl)
    simp only [Act.put, pzA, pzB, pzC]
    refine tkH ?_ 3 41 rfl rfl ⟨by rfl, ?_⟩ hSh0 ?_;rotate_left
    ·rintro w' ⟨x0, x1, x2, x3, x4⟩;go_simp;(try with_reducible rfl)
    simp only [Act.put, pzA, pzB, pzC]
    refine tkH ?_ 4 42 rfl rfl ⟨by rfl, ?_⟩ hSh0 ?_;rotate_left
    ·rintro w' ⟨x0, x1, x2, x3, x4⟩;go_simp;(try with_reducible rfl)
    simp only [Act.put, pzA, pzB, pzC]
    refine tkH ?_ 5 43 rfl rfl ⟨by rfl, ?_⟩ hSh0 ?_;rotate_left
    ·rintro w' ⟨x0, x1, x2, x3, x4⟩;go_simp;(try with_reducible rfl)
    simp only [Act.put, pzA, pzB, pzC]
    refine tkH ?_ 6 44 rfl rfl ⟨by rfl, ?_⟩ hSh0 ?_;rotate_left
    ·rintro w' ⟨x0, x1, x2, x3, x4⟩;go_simp;(try with_reducible rfl)
    simp only [Act.put, pzA, pzB, pzC]
    refine tkH ?_ 7 45 rfl rfl ⟨by rfl, ?_⟩ hSh0 ?_;rotate_left
    ·rintro w' ⟨x0, x1, x2, x3, x4⟩;go_simp;(try with_reducible rfl)
    simp only [Act.put, pzA, pzB, pzC]
    refine tkH ?_ 8 46 rfl rfl ⟨by rfl, ?_⟩ hSh0 ?_;rotate_left
    ·rintro w' ⟨x0, x1, x2, x3, x4⟩;go_simp;(try with_reducible rfl)
    simp only [Act.put, pzA, pzB, pzC]
    refine tkH ?_ 9 47 rfl rfl ⟨by rfl, ?_⟩ hSh0 ?_;rotate_left
    ·rintro w' ⟨x0, x1, x2, x3, x4⟩;go_simp;(try with_reducible rfl)
    simp only [Act.put, pzA, pzB, pzC]
    refine tkH ?_ 10 48 rfl rfl ⟨by rfl, ?_⟩ hSh0 ?_;rotate_left
    ·rintro w' ⟨x0, x1, x2, x3, x4⟩;go_simp;(try with_reducible rfl)
    simp only [Act.put, pzA, pzB, pzC]
    refine tkH ?_ 11 49 rfl rfl ⟨by rfl, ?_⟩ hSh0 ?_;rotate_left
    ·rintro w' ⟨x0, x1, x2, x3, x4⟩;go_simp;(try with_reducible rfl)
    simp only [Act.put, pzA, pzB, pzC]
    refine tkH ?_ 12 50 rfl rfl ⟨by rfl, ?_⟩ hSh0 ?_;rotate_left
    ·rintro w' ⟨x0, x1, x2, x3, x4⟩;go_simp;(try with_reducible rfl)
    simp only [Act.put, pzA, pzB, pzC]
    refine tkH ?_ 13 51 rfl rfl ⟨by rfl, ?_⟩ hSh0 ?_;rotate_left
    ·rintro w' ⟨x0, x1, x2, x3, x4⟩;go_simp;(try with_reducible rfl)
    simp only [Act.put, pzA, pzB, pzC]
    refine tkH ?_ 14 52 rfl rfl ⟨by rfl, ?_⟩ hSh0 ?_;rotate_left
    ·rintro w' ⟨x0, x1, x2, x3, x4⟩;go_simp;(try with_reducible rfl)
    simp only [Act.put, pzA, pzB, pzC]
    refine tkH ?_ 15 53 rfl rfl ⟨by rfl, ?_⟩ hSh0 ?_;rotate_left
    ·rintro w' ⟨x0, x1, x2, x3, x4⟩;go_simp;(try with_reducible rfl)
    simp only [Act.put, pzA, pzB, pzC]
    refine tkH ?_ 16 54 rfl rfl ⟨by rfl, ?_⟩ hSh0 ?_;rotate_left
    ·rintro w' ⟨x0, x1, x2, x3, x4⟩;go_simp;(try with_reducible rfl)
    simp only [Act.put, pzA, pzB, pzC]
    refine tkH ?_ 17 55 rfl rfl ⟨by rfl, ?_⟩ hSh0 ?_;rotate_left
    ·rintro w' ⟨x0, x1, x2, x3, x4⟩;go_simp;(try with_reducible rfl)
    simp only [Act.put, pzA, pzB, pzC]
    refine tkH ?_ 18 56 rfl rfl ⟨by rfl, ?_⟩ hSh0 ?_;rotate_left
    ·rintro w' ⟨x0, x1, x2, x3, x4⟩;go_simp;(try with_reducible rfl)
    simp only [Act.put, pzA, pzB, pzC]
    refine tkH ?_ 19 57 rfl rfl ⟨by rfl, ?_⟩ hSh0 ?_;rotate_left
    ·rintro w' ⟨x0, x1, x2, x3, x4⟩;go_simp;(try with_reducible rfl)
    simp only [Act.put, pzA, pzB, pzC]
    refine tkH ?_ 20 58 rfl rfl ⟨by rfl, ?_⟩ hSh0 ?_;rotate_left
    ·rintro w' ⟨x0, x1, x2, x3, x4⟩;go_simp;(try with_reducible rfl)
    simp only [Act.put, pzA, pzB, pzC]
    refine tkH ?_ 21 59 rfl rfl ⟨by rfl, ?_⟩ hSh0 ?_;rotate_left
    ·rintro w' ⟨x0, x1, x2, x3, x4⟩;go_simp;(try with_reducible rfl)
    simp only [Act.put, pzA, pzB, pzC]
    refine tkH ?_ 22 60 rfl rfl ⟨by rfl, ?_⟩ hSh0 ?_;rotate_left
    ·rintro w' ⟨x0, x1, x2, x3, x4⟩;go_simp;(try with_reducible rfl)
    simp only [Act.put, pzA, pzB, pzC]
    refine tkH ?_ 23 61 rfl rfl ⟨by rfl, ?_⟩ hSh0 ?_;rotate_left
    ·rintro w' ⟨x0, x1, x2, x3, x4⟩;refine Eq.trans (run_load_lu (by rfl) (by rfl) x3) ?_;(with_reducible rfl)
    simp only [Act.put, pzA, pzB, pzC]
    refine tkH ?_ 24 62 rfl rfl ⟨by rfl, ?_⟩ hSh0 ?_;rotate_left
    ·rintro w' ⟨x0, x1, x2, x3, x4⟩;refine Eq.trans (run_load_wx (by rfl) (by rfl) x4) ?_;(with_reducible rfl)
    simp only [Act.put, pzA, pzB, pzC]
    refine held_one 25 rfl (by kernel_rfl) (by rfl) (fun K hK => ?_)
    go_simp
    go_at_call 10
    refine (HFX.out V8.drew (HBel.out.trans (hBh0.mono hlow))).mono ?_
    rintro e wh1 ⟨rfl, hbh1⟩
    have hBh1 : Below V8.heap.size V8 wh1 := below_step hBh0 hbh1
    have hSh1 := And.intro ((hBh1.cell (p := ⟨N_l, 4, none⟩) (show N_l < V8.heap.size by omega)).trans l4) (And.intro ((hBh1.cell (p := ⟨N_l, 5, none⟩) (show N_l < V8.heap.size by omega)).trans l5) (And.intro ((hBh1.cell (p := ⟨N_h, 0, none⟩) (show N_h < V8.heap.size by omega)).trans h0) (And.intro (hU2.keep hb2W hBh1) (hX2.keep (show N_h < V8.heap.size by omega) hBh1))))
    refine hK.out _ _ hSh1 ?_
    clear hK K
    refine tkH ?_ 26 64 rfl rfl ⟨by rfl, ?_⟩ hSh1 ?_;rotate_left
    ·rintro w' ⟨x0, x1, x2, x3, x4⟩;go_simp;(try with_reducible rfl)
    simp only [Act.put, pzA, pzB, pzC]
    refine wpAnyH_done (by kernel_rfl) ?_ _
    have hb9 := hBh1
    have hs9 := hb9.size
    replace HBel := Lib.hid (HBel.out.trans (hb9.mono hlow))
    replace B_l := Lib.hid ((hb9.block _ l_l).trans B_l.out)
    replace B_n := Lib.hid ((hb9.block _ l_n).trans B_n.out)
    replace B_c := Lib.hid ((hb9.block _ l_c).trans B_c.out)
    replace B_h := Lib.hid ((hb9.block _ l_h).trans B_h.out)
    replace l_l : N_l < wh1.heap.size := by omega
    replace l_n : N_n < wh1.heap.size := by omega
    replace l_c : N_c < wh1.heap.size := by omega
    replace l_h : N_h < wh1.heap.size := by omega
    replace hlow : w.heap.size ≤ wh1.heap.size := by omega
    clear hb9 hs9 hSh0 hBh0 hSh1 hBh1 l4 l5 h0 hU2 hX2 hb2W t8 t9 t10 t10b t11
    cases fb
    ·obtain ⟨hd0, x9, hf9, hi9, hX9⟩ := headL_some HX.out
     have HD0 := Lib.hid (And.intro hd0 hf9)
     clear hd0 hf9 hi9 hX9
     have HI0 : Hid ((L.lw.take 0).find? (fun x => x.id == L.hd) = none) := Lib.hid rfl
     obtain ⟨l0, l1, l2, l3, l4, l5, l6, l7, l8⟩ := cells9 B_l.out
     have l_l_0 : N_l < wh1.heap.size + 1 := by omega
     go_wp2_with fail
     clear l0 l1 l2 l3 l4 l5 l6 l7 l8 l_l_0
     obtain ⟨V10, hV10⟩ : ∃ W, W = wh1.alloc (.cells #[.int .i64 L.now, .int .i64 L.hd, .int .i64 L.pr, .int .i64 L.to, .slice L.A1 n1 L.c1, .slice L.A2 n2 L.c2, .slice L.A3 n3 L.c3, .slice none 0 0, .slice none 0 0] 28) := ⟨_, rfl⟩
     rw [← hV10]
     have hzV10 : V10.heap.size = wh1.heap.size + 1 := by rw [hV10]; simp
     replace HBel := Lib.hid (below_eq hV10 ((HBel.out.alloc (hlow) _)))
     replace B_l := Lib.hid (blk_eq hV10 (((Below.heap_alloc _ _ _ (by first | omega | (simp <;> omega))).trans B_l.out)))
     replace B_n := Lib.hid (blk_eq hV10 (((Below.heap_alloc _ _ _ (by first | omega | (simp <;> omega))).trans B_n.out)))
     replace B_c := Lib.hid (blk_eq hV10 (((Below.heap_alloc _ _ _ (by first | omega | (simp <;> omega))).trans B_c.out)))
     replace B_h := Lib.hid (blk_eq hV10 (((Below.heap_alloc _ _ _ (by first | omega | (simp <;> omega))).trans B_h.out)))
     have B_a := Lib.hid (new10 hV10)
     obtain ⟨N_a, hN_a⟩ : ∃ N, N = wh1.heap.size := ⟨_, rfl⟩
     (try rw [← hN_a])
     rw [← hN_a] at B_a
     have d_l_a : N_l < N_a := by omega
     have d_n_a : N_n < N_a := by omega
     have d_c_a : N_c < N_a := by omega
     have d_h_a : N_h < N_a := by omega
     replace l_l : N_l < V10.heap.size := by omega
     replace l_n : N_n < V10.heap.size := by omega
     replace l_c : N_c < V10.heap.size := by omega
     replace l_h : N_h < V10.heap.size := by omega
     have l_a : N_a < V10.heap.size := by omega
     have g_a : w.heap.size ≤ N_a := by omega
     replace hlow : w.heap.size ≤ V10.heap.size := by omega
     clear hV10 hzV10 hN_a
     go_loopw [8] (fun vi wr => ∃ k : Nat, vi = .int .i64 k ∧ k ≤ n4 ∧ N_l < wr.heap.size ∧ N_a < wr.heap.size ∧ Hid (Below w.heap.size w wr) ∧ Hid (wr.heap[N_l]? = some (.cells #[.int .i64 L.now, .int .i64 L.hd, .int .i64 L.pr, .int .i64 L.to, .slice L.A1 n1 L.c1, .slice L.A2 n2 L.c2, .slice L.A3 n3 L.c3, .slice L.A4 n4 L.c4, .slice L.A5 n5 L.c5] 28 (0, 0))) ∧ Hid (wr.heap[N_a]? = some (.cells #[.int .i64 L.now, .int .i64 L.hd, .int .i64 L.pr, .int .i64 L.to, .slice L.A1 n1 L.c1, .slice L.A2 n2 L.c2, .slice L.A3 n3 L.c3, .slice none 0 0, .slice none 0 0] 28 (0, 0))) ∧ Hid ((L.lw.take k).find? (fun x => x.id == L.hd) = none)) (fun vi _ => n4 - (intOf vi).toNat)
     case atStart => exact ⟨0, rfl, by omega, l_l, l_a, HBel, B_l, B_a, HI0⟩
     case round =>
      clear HBel B_l B_a l_l l_a hlow HI0
      obtain ⟨k, rfl, hk, l_l, l_a, HBel, B_l, B_a, hI⟩ := hrel
      have hlow := HBel.out.size
      by_cases hlt : k < n4
      ·have u1 : decide (k < n4) = true := decide_eq_true hlt
       obtain ⟨x, hx⟩ := get_lt (l := L.lw) (k := k) (by rw [← HT4.out.2]; exact hlt)
       obtain ⟨b, off, hA, hb, hall⟩ := HT4.out.1.at_ hx
       have hbW : b < wr.heap.size := by omega
       have hcx := (hall k x hx).keep hb HBel.out
       have HX1 := Lib.hid hcx
       have q0 : wr.cell? ⟨b, off + k * 10, none⟩ = some (.int .i64 x.id) := hcx 0 _ rfl
       have l7 : wr.cell? ⟨N_l, 7, none⟩ = some (.slice (some ⟨b, off, none⟩) n4 L.c4) := by rw [← hA]; exact cell_blk (i := 7) B_l.out rfl
       have l1 : wr.cell? ⟨N_l, 1, none⟩ = some (.int .i64 L.hd) := cell_blk (i := 1) B_l.out rfl
       have t2 : decide (k < n4) = true := decide_eq_true hlt
       have HQ1 := Lib.hid (And.intro hx hI.out)
       have HA0 := Lib.hid hA
       clear hall hx hb hA hI hcx
       go_wp2_with fail
       by_cases e : x.id = L.hd
       ·have t3 : (x.id == L.hd) = true := by simpa using e
        have HE := Lib.hid e
        clear e
        refine held_begin (fun w' : World => w'.cell? ⟨N_l, 7, none⟩ = some (.slice (some ⟨b, off, none⟩) n4 L.c4) ∧ w'.cell? ⟨b, off + k * 10, none⟩ = some (.int .i64 x.id) ∧ w'.cell? ⟨N_l, 1, none⟩ = some (.int .i64 L.hd)) (by kernel_rfl) ?_
        have hBh0 : Below wr.heap.size wr wr.drew := (Below.refl _ _).drew
        have hSh0 := And.intro l7 (And.intro q0 l1)
        refine tkH ?_ 0 75 rfl rfl ⟨by rfl, ?_⟩ hSh0 ?_;rotate_left
        ·rintro w' ⟨x0, x1, x2⟩;go_simp;(try with_reducible rfl)
        simp only [Act.put, pzA, pzB, pzC]
        refine tkH ?_ 1 76 rfl rfl ⟨by rfl, ?_⟩ hSh0 ?_;rotate_left
        ·rintro w' ⟨x0, x1, x2⟩;go_simp;(try with_reducible rfl)
        simp only [Act.put, pzA, pzB, pzC]
        refine tkH ?_ 2 77 rfl rfl ⟨by rfl, ?_⟩ hSh0 ?_;rotate_left
        ·rintro w' ⟨x0, x1, x2⟩;go_simp;(try with_reducible rfl)
        simp only [Act.put, pzA, pzB, pzC]
        refine tkH ?_ 3 78 rfl rfl ⟨by rfl, ?_⟩ hSh0 ?_;rotate_left
        ·rintro w' ⟨x0, x1, x2⟩;go_simp;(try with_reducible rfl)
        simp only [Act.put, pzA, pzB, pzC]
        refine tkH ?_ 4 79 rfl rfl ⟨by rfl, ?_⟩ hSh0 ?_;rotate_left
        ·rintro w' ⟨x0, x1, x2⟩;go_simp;(try with_reducible rfl)
        simp only [Act.put, pzA, pzB, pzC]
        refine tkH ?_ 5 80 rfl rfl ⟨by rfl, ?_⟩ hSh0 ?_;rotate_left
        ·rintro w' ⟨x0, x1, x2⟩;go_simp;(try with_reducible rfl)
        simp only [Act.put, pzA, pzB, pzC]
        refine tkH ?_ 6 81 rfl rfl ⟨by rfl, ?_⟩ hSh0 ?_;rotate_left
        ·rintro w' ⟨x0, x1, x2⟩;go_simp;(try with_reducible rfl)
        simp only [Act.put, pzA, pzB, pzC]
        refine tkH ?_ 7 82 rfl rfl ⟨by rfl, ?_⟩ hSh0 ?_;rotate_left
        ·rintro w' ⟨x0, x1, x2⟩;go_simp;(try with_reducible rfl)
        simp only [Act.put, pzA, pzB, pzC]
        refine tkH ?_ 8 83 rfl rfl ⟨by rfl, ?_⟩ hSh0 ?_;rotate_left
        ·rintro w' ⟨x0, x1, x2⟩;go_simp;(try with_reducible rfl)
        simp only [Act.put, pzA, pzB, pzC]
        refine tkH ?_ 9 84 rfl rfl ⟨by rfl, ?_⟩ hSh0 ?_;rotate_left
        ·rintro w' ⟨x0, x1, x2⟩;go_simp;(try with_reducible rfl)
        simp only [Act.put, pzA, pzB, pzC]
        refine wpAnyH_done (by kernel_rfl) ?_ _
        obtain ⟨D1, hD9⟩ : ∃ D, D = wr.drew := ⟨_, rfl⟩
        have hb9 : Below wr.heap.size wr D1 := by rw [hD9]; exact hBh0
        rw [← hD9]
        clear hD9
        have HB9 := Lib.hid hb9
        have hs9 := hb9.size
        replace HBel := Lib.hid (HBel.out.trans (hb9.mono hlow))
        replace B_l := Lib.hid ((hb9.block _ l_l).trans B_l.out)
        replace B_a := Lib.hid ((hb9.block _ l_a).trans B_a.out)
        replace l_l : N_l < D1.heap.size := by omega
        replace l_a : N_a < D1.heap.size := by omega
        replace hlow : w.heap.size ≤ D1.heap.size := by omega
        clear hb9 hs9 hSh0 hBh0 q0 l7 l1
        have hX1 := HX1.out.keep hbW HB9.out
        have hbW2 : b < D1.heap.size := by have := HB9.out.size; omega
        have l7 : D1.cell? ⟨N_l, 7, none⟩ = some (.slice (some ⟨b, off, none⟩) n4 L.c4) := by rw [← HA0.out]; exact cell_blk (i := 7) B_l.out rfl
        have a7 : D1.cell? ⟨N_a, 7, none⟩ = some (.slice none 0 0) := cell_blk (i := 7) B_a.out rfl
        go_wp2_with fail
        refine wp_until (fun w' : World => w'.cell? ⟨N_a, 7, none⟩ = some (.slice none 0 0) ∧ w'.cell? ⟨N_l, 7, none⟩ = some (.slice (some ⟨b, off, none⟩) n4 L.c4) ∧ WtAt w' b (off + k * 10) x) 10 (by kernel_rfl) ?_
        have hB5 : Below D1.heap.size D1 D1.drew := (Below.refl _ _).drew
        have hS5 := And.intro ((hB5.cell (p := ⟨N_a, 7, none⟩) (show N_a < D1.heap.size by omega)).trans a7) (And.intro ((hB5.cell (p := ⟨N_l, 7, none⟩) (show N_l < D1.heap.size by omega)).trans l7) (hX1.keep hbW2 hB5))
        generalize D1.drew = w5 at hB5 hS5 ⊢
        refine tkU ?_ 0 85 rfl rfl ⟨by rfl, ?_⟩ hS5 ?_;rotate_left
        ·rintro w' ⟨x0, x1, x2⟩;go_simp;(try with_reducible rfl)
        simp only [Act.put, pzA, pzB, pzC]
        refine tkU ?_ 1 86 rfl rfl ⟨by rfl, ?_⟩ hS5 ?_;rotate_left
        ·rintro w' ⟨x0, x1, x2⟩;go_simp;(try with_reducible rfl)
        simp only [Act.put, pzA, pzB, pzC]
        refine tkU ?_ 2 87 rfl rfl ⟨by rfl, ?_⟩ hS5 ?_;rotate_left
        ·rintro w' ⟨x0, x1, x2⟩;go_simp;(try with_reducible rfl)
        simp only [Act.put, pzA, pzB, pzC]
        refine tkU ?_ 3 88 rfl rfl ⟨by rfl, ?_⟩ hS5 ?_;rotate_left
        ·rintro w' ⟨x0, x1, x2⟩;go_simp;(try with_reducible rfl)
        simp only [Act.put, pzA, pzB, pzC]
        refine tkU ?_ 4 89 rfl rfl ⟨by rfl, ?_⟩ hS5 ?_;rotate_left
        ·rintro w' ⟨x0, x1, x2⟩;go_simp;(try with_reducible rfl)
        simp only [Act.put, pzA, pzB, pzC]
        refine tkU ?_ 5 90 rfl rfl ⟨by rfl, ?_⟩ hS5 ?_;rotate_left
        ·rintro w' ⟨x0, x1, x2⟩;go_simp;(try with_reducible rfl)
        simp only [Act.put, pzA, pzB, pzC]
        refine tkU ?_ 6 91 rfl rfl ⟨by rfl, ?_⟩ hS5 ?_;rotate_left
        ·rintro w' ⟨x0, x1, x2⟩;refine Eq.trans (run_load_wt (by rfl) (by rfl) x2) ?_;(with_reducible rfl)
        simp only [Act.put, pzA, pzB, pzC]
        simp only [wtA]
        refine until_one 7 rfl (by kernel_rfl) rfl (fun K hK => ?_)
        go_simp
        obtain ⟨w6, hw6⟩ : ∃ wld, wld = w5.alloc (.cells #[.int .i64 x.id, .int .i64 x.q, .int .i64 x.p, .int .i64 x.r, .int .i64 x.g, .int .i64 x.c, .int .i64 x.mn, .int .i64 x.mx, .int .i64 x.s, .int .i64 x.n] 57) := ⟨_, rfl⟩
        have hB6 : Below D1.heap.size D1 w6 := by rw [hw6]; exact hB5.alloc hB5.size _
        have elsB : Els wtC 10 w6 w6.heap.size (some ⟨w5.heap.size, 0, none⟩) [x] := els_blk wtC_len (t := 57) (cur := #[.int .i64 x.id, .int .i64 x.q, .int .i64 x.p, .int .i64 x.r, .int .i64 x.g, .int .i64 x.c, .int .i64 x.mn, .int .i64 x.mx, .int .i64 x.s, .int .i64 x.n]) (by rw [hw6]; exact heap_alloc_new _ _) (fun j v h => by simpa [wtC] using h)
        have hS6 := And.intro ((hB6.cell (p := ⟨N_a, 7, none⟩) (show N_a < D1.heap.size by omega)).trans a7) (And.intro ((hB6.cell (p := ⟨N_l, 7, none⟩) (show N_l < D1.heap.size by omega)).trans l7) (hX1.keep hbW2 hB6))
        rw [← hw6]
        refine hK.out _ _ (fun _ => hS6) ?_
        clear hK K hw6
        try simp only [Act.put, pzA, pzB, pzC]
        refine until_one 8 rfl (by kernel_rfl) rfl (fun K hK => ?_)
        simp only [Go.wp_at_zero, Go.wp_at_succ]
        refine wp_append_els (C := wtC) (k := 10) _ _ _ 25 rfl D1.heap.size 57 i0 _ 80 Tryz.underlying25 HI.out.1 HI.out.2.1 HI.out.2.2.1 HI.out.2.2.2 rfl (by decide) (.slice none 0 0) 0 [] rfl (World.ownsRow_nil _ _ _ _) w6.heap.size (some ⟨w5.heap.size, 0, none⟩) 1 1 [x] rfl elsB rfl wtC_len wtC_one (by unfold maxLen; omega) (by omega) hB6.size ?_
        intro A9 c9 w7 own7 g7 k7
        rw [Nat.zero_add] at own7 ⊢
        rw [List.nil_append] at own7
        have hB7 : Below D1.heap.size D1 w7 := hB6.grown g7 hB6.size (fun j hj => by simp [Value.ownBlock] at hj)
        have hS7 := And.intro ((hB7.cell (p := ⟨N_a, 7, none⟩) (show N_a < D1.heap.size by omega)).trans a7) (And.intro ((hB7.cell (p := ⟨N_l, 7, none⟩) (show N_l < D1.heap.size by omega)).trans l7) (hX1.keep hbW2 hB7))
        refine hK.out _ _ (fun _ => hS7) ?_
        clear hK K
        try simp only [Act.put, pzA, pzB, pzC]
        refine until_one 9 rfl (by kernel_rfl) rfl (fun K hK => ?_)
        go_simp
        refine hK.out _ _ (fun _ => hS7) ?_
        clear hK K
        try simp only [Act.put, pzA, pzB, pzC]
        have ba7 := (hB7.block N_a (show N_a < D1.heap.size by omega)).trans B_a.out
        have z7 : w7.cell? ⟨N_a, 7, none⟩ = some (.slice none 0 0) := cell_blk (i := 7) ba7 rfl
        have zz7 : w7.frozen? ⟨N_a, 7, none⟩ = false := frozen_blk ba7
        refine until_one 10 rfl (by kernel_rfl) rfl (fun K hK => ?_)
        go_simp
        refine hK.out _ _ (fun h => absurd h (by decide)) ?_
        clear hK K
        refine until_done (by kernel_rfl) ?_
        obtain ⟨wf, hwf⟩ : ∃ wld, wld = w7.setCell ⟨N_a, 7, none⟩ (.slice A9 1 c9) := ⟨_, rfl⟩
        rw [← hwf]
        have ga : w.heap.size ≤ N_a := g_a
        have hBf : Below w.heap.size w wf := by rw [hwf]; exact (HBel.out.trans (hB7.mono hlow)).setCell ga _
        have hzf : wf.heap.size = w7.heap.size := by rw [hwf]; simp
        have hz7 := hB7.size
        obtain ⟨els7, hbk7⟩ := els_own (l := [x]) wtC_len own7 rfl
        have elsf : Els wtC 10 wf wf.heap.size A9 [x] := by
         rcases els7 with h9 | ⟨b9, o9, e9, hb9, hc9⟩
         ·exact .inl h9
         ·obtain ⟨hg9, _⟩ := hbk7 b9 o9 e9
          exact .inr ⟨b9, o9, e9, by rw [hzf]; exact hb9, fun i y hy => (hc9 i y hy).of (by rw [hwf]; exact Below.heap_setCell _ _ _ _ (show b9 ≠ N_a by omega))⟩
        have bl9 : Hid (wf.heap[N_l]? = some (.cells #[.int .i64 L.now, .int .i64 L.hd, .int .i64 L.pr, .int .i64 L.to, .slice L.A1 n1 L.c1, .slice L.A2 n2 L.c2, .slice L.A3 n3 L.c3, .slice L.A4 n4 L.c4, .slice L.A5 n5 L.c5] 28 (0, 0))) := Lib.hid (by rw [hwf]; exact (Below.heap_setCell _ _ _ _ (show N_l ≠ N_a by omega)).trans ((hB7.block N_l (show N_l < D1.heap.size by omega)).trans B_l.out))
        have ba9 : Hid (wf.heap[N_a]? = some (.cells #[.int .i64 L.now, .int .i64 L.hd, .int .i64 L.pr, .int .i64 L.to, .slice L.A1 n1 L.c1, .slice L.A2 n2 L.c2, .slice L.A3 n3 L.c3, .slice A9 1 c9, .slice none 0 0] 28 (0, 0))) := Lib.hid (by rw [hwf]; exact blk_put (i := 7) _ ba7)
        have hcap := own_cap own7
        replace HBel := Lib.hid hBf
        have HEL := Lib.hid (And.intro elsf hcap)
        have hlow9 := hBf.size
        clear B_l B_a l_l l_a hlow hS5 hS6 hS7 hB5 hB6 hB7 elsB own7 g7 k7 z7 zz7 ba7 hwf hzf hz7 els7 hbk7 elsf hBf hcap l7 a7 hX1 hbW hbW2 HB9
        have B_a := ba9
        have l_a := blk_lt ba9.out
        have hlow := hlow9
        clear ba9 bl9 hlow9
        obtain ⟨a0, a1, a2, a3, a4, a5, a6, a7, a8⟩ := cells9 B_a.out
        go_wp2_with fail
        refine (hCa.out HF.out A9 c9 x (List.mem_of_getElem? HQ1.out.1) HEL.out.2.1 HEL.out.2.2 wf HBel.out HEL.out.1).mono ?_
        rintro e U51 ⟨⟨d, id, sl, A5, kc, c5, rfl, hc, hk, hkc, hcm, hfe⟩, hb9⟩
        clear a0 a1 a2 a3 a4 a5 a6 a7 a8
        have hs9 := hb9.size
        replace HBel := Lib.hid (HBel.out.trans (hb9.mono hlow))
        replace B_a := Lib.hid ((hb9.block _ l_a).trans B_a.out)
        replace l_a : N_a < U51.heap.size := by omega
        replace hlow : w.heap.size ≤ U51.heap.size := by omega
        clear hb9 hs9
        obtain rfl := alone_rest HF.out.f.n HD0.out.1 HE.out HX.out (find_at HQ1.out.2 HQ1.out.1 (by simp [HE.out])) HQ.out.1 HFB.out.symm hc
        clear hc hk hkc hcm hfe
        go_wp2
        refine put_eq (v' := Value.int .i64 0) ?_ rfl
        go_wp2
        go_ret
        exact ⟨by first | rfl | (simp; done), by rw [HB0.out]; exact HBel.out⟩
       ·have t3 : (x.id == L.hd) = false := by simpa using e
        have HN : Hid ((L.lw.take (k + 1)).find? (fun x => x.id == L.hd) = none) := Lib.hid (find_on HQ1.out.2 HQ1.out.1 t3)
        clear e
        refine held_begin (fun w' : World => w'.cell? ⟨N_l, 7, none⟩ = some (.slice (some ⟨b, off, none⟩) n4 L.c4) ∧ w'.cell? ⟨b, off + k * 10, none⟩ = some (.int .i64 x.id) ∧ w'.cell? ⟨N_l, 1, none⟩ = some (.int .i64 L.hd)) (by kernel_rfl) ?_
        have hBh0 : Below wr.heap.size wr wr.drew := (Below.refl _ _).drew
        have hSh0 := And.intro l7 (And.intro q0 l1)
        refine tkH ?_ 0 75 rfl rfl ⟨by rfl, ?_⟩ hSh0 ?_;rotate_left
        ·rintro w' ⟨x0, x1, x2⟩;go_simp;(try with_reducible rfl)
        simp only [Act.put, pzA, pzB, pzC]
        refine tkH ?_ 1 76 rfl rfl ⟨by rfl, ?_⟩ hSh0 ?_;rotate_left
        ·rintro w' ⟨x0, x1, x2⟩;go_simp;(try with_reducible rfl)
        simp only [Act.put, pzA, pzB, pzC]
        refine tkH ?_ 2 77 rfl rfl ⟨by rfl, ?_⟩ hSh0 ?_;rotate_left
        ·rintro w' ⟨x0, x1, x2⟩;go_simp;(try with_reducible rfl)
        simp only [Act.put, pzA, pzB, pzC]
        refine tkH ?_ 3 78 rfl rfl ⟨by rfl, ?_⟩ hSh0 ?_;rotate_left
        ·rintro w' ⟨x0, x1, x2⟩;go_simp;(try with_reducible rfl)
        simp only [Act.put, pzA, pzB, pzC]
        refine tkH ?_ 4 79 rfl rfl ⟨by rfl, ?_⟩ hSh0 ?_;rotate_left
        ·rintro w' ⟨x0, x1, x2⟩;go_simp;(try with_reducible rfl)
        simp only [Act.put, pzA, pzB, pzC]
        refine tkH ?_ 5 80 rfl rfl ⟨by rfl, ?_⟩ hSh0 ?_;rotate_left
        ·rintro w' ⟨x0, x1, x2⟩;go_simp;(try with_reducible rfl)
        simp only [Act.put, pzA, pzB, pzC]
        refine tkH ?_ 6 81 rfl rfl ⟨by rfl, ?_⟩ hSh0 ?_;rotate_left
        ·rintro w' ⟨x0, x1, x2⟩;go_simp;(try with_reducible rfl)
        simp only [Act.put, pzA, pzB, pzC]
        refine tkH ?_ 7 82 rfl rfl ⟨by rfl, ?_⟩ hSh0 ?_;rotate_left
        ·rintro w' ⟨x0, x1, x2⟩;go_simp;(try with_reducible rfl)
        simp only [Act.put, pzA, pzB, pzC]
        refine tkH ?_ 8 83 rfl rfl ⟨by rfl, ?_⟩ hSh0 ?_;rotate_left
        ·rintro w' ⟨x0, x1, x2⟩;go_simp;(try with_reducible rfl)
        simp only [Act.put, pzA, pzB, pzC]
        refine tkH ?_ 9 84 rfl rfl ⟨by rfl, ?_⟩ hSh0 ?_;rotate_left
        ·rintro w' ⟨x0, x1, x2⟩;go_simp;(try with_reducible rfl)
        simp only [Act.put, pzA, pzB, pzC]
        refine wpAnyH_done (by kernel_rfl) ?_ _
        obtain ⟨D1, hD9⟩ : ∃ D, D = wr.drew := ⟨_, rfl⟩
        have hb9 : Below wr.heap.size wr D1 := by rw [hD9]; exact hBh0
        rw [← hD9]
        clear hD9
        have hs9 := hb9.size
        replace HBel := Lib.hid (HBel.out.trans (hb9.mono hlow))
        replace B_l := Lib.hid ((hb9.block _ l_l).trans B_l.out)
        replace B_a := Lib.hid ((hb9.block _ l_a).trans B_a.out)
        replace l_l : N_l < D1.heap.size := by omega
        replace l_a : N_a < D1.heap.size := by omega
        replace hlow : w.heap.size ≤ D1.heap.size := by omega
        clear hb9 hs9 hSh0 hBh0 q0 l7 l1
        go_wp2
        go_roundw
        case rel => exact ⟨k + 1, by go_num, by omega, l_l, l_a, HBel, B_l, B_a, HN⟩
        case measure => simp [intOf]; omega
      ·exfalso
       have h9 := hI.out
       have e9 : n4 = k := by omega
       rw [← e9, HT4.out.2, List.take_length] at h9
       have h8 := HD0.out.2
       have e8 : (fun x : Wt => hdB L x.id) = fun x => x.id == L.hd := by funext y; simp [hdB, HD0.out.1]
       rw [e8, h9] at h8
       cases h8
    ·go_wp2
     go_ret
     exact ⟨by first | rfl | (simp; done), by rw [HB0.out]; exact HBel.out⟩

set_option maxRecDepth 100000 in
set_option maxHeartbeats 1000000 in
theorem lifted (os : Os) (started : os.Started) (H : Type) (enc : TypeId × Value → H) :
  ReturnsInHanded {} Tryz.checked os 4 .any (fun w args => (Rows.workerRestsSpec.pre enc Tryz.prog Tryz.f4 [] false w args ∧ laidMetH Tryz.prog laid1 w) ∧ sizedMet enc Tryz.prog Tryz.f4 (OpenSpec.ofChange Rows.workerRestsSpec) false w args)
   (Rows.workerRestsSpec.post enc Tryz.prog Tryz.f4 false true false false) := by
 refine returnsInHanded_of_change_and (C := Tryz.checked) (X := fun w _ => laidMetH Tryz.prog laid1 w) (fun _ _ _ hh h => h.of_heap hh) own started (by kernel_rfl) Tryz.func4
  (ChangeSpec.witness_shaped (enc := enc) (C := Tryz.checked) (os := os) (X := fun w _ => laidMetH Tryz.prog laid1 w) false (World.doorLaid Tryz.prog 400 os) #[.agg #[.int .i64 0, .int .i64 0, .int .i64 0, .int .i64 0, .slice none 0 0, .slice none 0 0, .slice none 0 0, .slice none 0 0, .slice none 0 0]] 8 rfl (World.shaped_of_RefB (by kernel_rfl) (by kernel_rfl)) (by kernel_rfl) (by kernel_rfl) (by kernel_rfl) (door_met os _)) ?_
 intro W base args ds gs before hval0 hW _ _ hL _
 have hval : ∀ (j : Nat) t v, Tryz.f4.params[j]? = some t → args[j]? = some v → Value.okWide Tryz.prog W .any base t v := hval0
 have hW' := hW
 obtain ⟨p, q, hA0, hV, rfl, hfz, hnd⟩ := hW
 have hA : DataW.TrodAll enc Tryz.prog W 0 (fun _ => true) true Tryz.f4.params.toList args.toList ds p := hA0
 rw [Tryz.params4] at hA hval
 obtain ⟨v0, vs0, d0, ds0, p0, q0, hargs, rfl, rfl, h0, r0⟩ := trodAll_cons hA
 obtain ⟨rfl, rfl, rfl⟩ := trodAll_nil r0
 obtain rfl : args = #[v0] := by cases args; simp_all
 obtain ⟨rfl, rfl⟩ := trodVars_none hV
 have k0 := h0
 have lt0 : ∀ x ∈ p0, x.block < W.heap.size := by obtain ⟨m, hm⟩ := k0; exact DataW.trod_lt m _ _ _ hm
 obtain ⟨x0, rfl, v0, q0⟩ := lk_of (hval 0 28 v0 rfl rfl) h0
 have hT := of_laid hL
 clear hL
 clear hA0 hval0
 refine (walk x0 W v0 q0 hT).mono fun e W' ⟨he, bel⟩ => ?_
 subst he
 exact ⟨_, rfl, _, _, _, [], _, [], hW', trodAll_mk1 (shut_bool Tryz.underlying4 _), (trodAll_cons_mk (Below.trod laidOut (by kernel_rfl) (of_decide_eq_true (by kernel_rfl)) k0 bel lt0) trodAll_mk0), rfl, bel.frame _, fun h => by cases h⟩

theorem row_holds : Rows.WorkerRestsSaid :=
 OpenClaim.holds_of_wide 4 Tryz.f4 rfl rfl rfl rfl rfl rfl rfl ⟨rfl, rfl, rfl, rfl, rfl⟩ rfl rfl rfl rfl rfl (by kernel_rfl) Tryz.func4 (by kernel_rfl)
  (of_decide_eq_true (by kernel_rfl)) (by unfold Func.isWrapper; first | (rw [if_pos (by decide +kernel)]; kernel_rfl) | (rw [if_neg (by decide +kernel)]; exact ⟨rfl, rfl⟩))
  (fun os started H enc _ => lifted os started H enc)

theorem card_holds : Rows.WorkerRestsCardSaid :=
 Claim7.holds_tied_plain_at .later [] [.data] true (true, Rows.workerRestsCard.stood.harness.2) false
  row_holds (fun _ h => by cases h) (by kernel_rfl) (fun _ h => by cases h) workerRests_row_tie rfl ⟨rfl, rfl⟩ (by kernel_rfl) rfl
  (fun f fn hf hfn => by
   obtain rfl : f = 4 := Option.some.inj ((show Tryz.prog.funcNamed Rows.workerRestsRow.func = some 4 by kernel_rfl).symm.trans hf) |>.symm
   obtain rfl : fn = Tryz.f4 := (Option.some.inj (Tryz.func4.symm.trans hfn)).symm
   exact ⟨by kernel_rfl, fun j t ht => by
    rw [Tryz.params4] at ht
    have hm : t ∈ [28] := by simpa using Array.mem_of_getElem? ht
    have hall : ([28].all fun u => !Tryz.prog.wantsStandIn u) = true := by kernel_rfl
    exact (show Tryz.prog.wantsStandIn t = false by simpa using List.all_eq_true.1 hall t hm)⟩)
  (by kernel_rfl)
end Go.Proofs.YthnjbhkhmoddpaaGreatDoor.workerRests
