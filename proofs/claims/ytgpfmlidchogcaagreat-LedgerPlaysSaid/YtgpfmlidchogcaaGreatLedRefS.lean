/- The document's ledger: Shrink. -/
import Derived.Test.YtgpfmlidchogcaaGreatLedRefP
set_option maxRecDepth 100000
set_option linter.unusedVariables false
namespace Go.Proofs.YtgpfmlidchogcaaGreat
open Go.RowKit

def atSl (A : Option Addr) (k c : Nat) : Option Addr := if c = k then A else A.map (·.add (k * 4))
theorem run_sl_to {oi : Oper} {ρ : Operand → Value} {W : World} {p q : Operand} {A : Option Addr} {n c k : Nat} (ho : oi.op = .slice 42 p none (some q) none) (hp : ρ p = .slice A n c) (hq : ρ q = .int .i64 (k : Nat)) (hk : k ≤ c) :
  (execOp ρ oi).run Tryz.prog W = .ok (.value (.slice (atSl A 0 c) k c)) W := by
 have ht : Tryz.prog.underlying 42 = some (.slice (Tryz.prog.elem 42)) := by kernel_rfl
 have he : Tryz.prog.elem 42 = 41 := by kernel_rfl
 unfold execOp
 simp only [ho, hp, hq, Option.map_none, Option.map_some, Sem.run_bind, run_sliceAt_slice W _ _ _ _ _ ht, run_slice_h W _ A n c ht .i64 (k : Nat) (by omega) (by omega), he, Tryz.sizeOf41, Result.andThen_ok, Sem.run_pure, sliced, Int.toNat_natCast, atSl, Nat.sub_zero, Nat.zero_mul]
theorem els_sl_to {w : World} {B : Nat} {A : Option Addr} {L : List PM.Sl} (h : Els slC 4 w B A L) (k c : Nat) (hc : L.length ≤ c) : Els slC 4 w B (atSl A 0 c) (L.take k) := by
 unfold atSl
 rcases h with rfl | ⟨b, off, rfl, hb, hcc⟩
 ·exact .inl (by simp)
 ·refine .inr ⟨b, off, by split <;> simp [Addr.add_lit], hb, fun i x hx => hcc i x ?_⟩
  rw [List.getElem?_take] at hx
  split at hx
  ·exact hx
  ·cases hx
theorem wpList_load_sv {ops : Array Oper} {rest : List Oper} {o : Oper} {a : Act} {w : World} {Q : Exit → Act → World → Prop} (hgd : o.guard = none) (y : Operand) (ho : o.op = .load 41 y)
  (g off : Nat) (vs : List Value) (hl : vs.length = 4) (hy : a.eval y = .pointer (some ⟨g, off, none⟩)) (hx : CellsAt w g off vs) (h : wpList Tryz.prog ops Q rest (a.put o.dst (.agg vs.toArray)) w) : wpList Tryz.prog ops Q (o :: rest) a w := by
 refine wpList_plain hgd fun K hK => ?_
 unfold Oper.wp
 rw [run_load_sv ho hy hl hx]
 exact hK _ _ h
section
variable {w : World} {r : Nat} {D : Nat → Prop} {fs : List Fr} {st : LS}
set_option maxHeartbeats 16000000 in
theorem rshrink_l (id : Int) (h : RL w r D fs st) (hv : st.ver ≤ 90000) :
  Calls Tryz.prog 35 #[.pointer (some ⟨r, 0, none⟩), .int .i64 id] w fun e w' => e = .returned (.tuple #[slV (LM.shrink fs st id).1.1, .int .i64 (LM.shrink fs st id).1.2]) ∧ RNext w w' r D fs (LM.shrink fs st id).2 := by
 obtain ⟨E, hE, hED, hElt⟩ := h.tight
 obtain ⟨S, hSS⟩ : ∃ S, S = w.heap.size := ⟨_, rfl⟩
 obtain ⟨W0, hW0⟩ : ∃ W0, W0 = w.alloc (.cells #[.int .i64 0, .int .i64 0, .int .u64 0, .int .i64 0] 41) := ⟨_, rfl⟩
 have hB0 : Below w.heap.size w W0 := by rw [hW0]; exact (Below.refl w.heap.size w).alloc (Nat.le_refl _) _
 have hbk0 : W0.heap[S]? = some (.cells #[.int .i64 0, .int .i64 0, .int .u64 0, .int .i64 0] 41 (0, 0)) := by rw [hW0, hSS]; exact heap_alloc_new w _
 have hz0 : W0.heap.size = S + 1 := by rw [hW0, hSS]; simp
 have h0 := hE.keep hB0
 obtain ⟨q, al, tk, db, ra, a, b, A, c, L, h1, hD⟩ := h0
 have hL : L.length ≤ 90000 := by have := h1.ok.few; rw [← h1.hs, List.length_map] at this; omega
 have hFi := rfind_l id h1 (by omega)
 have hc := LM.find_cases id st.hs
 obtain ⟨_, _, d2, _⟩ := h1.own
 have HW0 := Lib.hid hW0
 have HB0 := Lib.hid hB0
 have HE := Lib.hid (And.intro hE (And.intro hED (And.intro hElt (And.intro hSS hv))))
 have HBK := Lib.hid hbk0
 obtain ⟨x0, x1, x2, x3, xz0, xz1, xz2, xz3, lx⟩ := blk4 hbk0
 rw [hSS] at x0 x1 x2 x3 xz0 xz1 xz2 xz3 lx
 unfold LM.shrink
 rcases hc with ⟨e1, e2⟩ | ⟨k, g, e1, e2, e3, e4⟩
 ·rw [e1] at hFi
  rw [e2]
  simp only
  have HFi := Lib.hid hFi
  have HSS := Lib.hid hSS
  clear hFi e1 e2 h1 hD hL d2 hv hbk0 hW0 hB0 h hE hED hElt hSS hz0
  go_enter Tryz.func35, Tryz.ntmps35
  go_wp2_with (go_at_call 74; rw [← HW0.out]; refine HFi.out.mono ?_; rintro e w' ⟨rfl, rfl⟩)
  have hbk9 := set4_blk HBK.out (.int .i64 0) (.int .i64 0) (.int .u64 0) (.int .i64 0)
  rw [HE.out.2.2.2.1] at hbk9
  change bodyPost _ _ _ _ _ (set4 W0 w.heap.size (.int .i64 0) (.int .i64 0) (.int .u64 0) (.int .i64 0))
  have hF9 : Foot (fun i => i = S) w (set4 W0 w.heap.size (.int .i64 0) (.int .i64 0) (.int .u64 0) (.int .i64 0)) := (Foot.of_below HB0.out).trans (set4_foot W0 w.heap.size _ _ _ _) fun i hi => .inl (by rw [hi, HE.out.2.2.2.1])
  obtain ⟨W9, hW9⟩ : ∃ W9, W9 = set4 W0 w.heap.size (.int .i64 0) (.int .i64 0) (.int .u64 0) (.int .i64 0) := ⟨_, rfl⟩
  rw [← hW9] at hbk9 hF9 ⊢
  obtain ⟨q0, q1, q2, q3, _⟩ := blk4 hbk9
  have hB9 : Below w.heap.size w W9 := hF9.below (Nat.le_refl _) fun i hi => by rw [hi, HE.out.2.2.2.1]; exact Nat.le_refl _
  clear hW9
  try clear x0 x1 x2 x3 xz0 xz1 xz2 xz3
  refine bodyPost_ret (v := .tuple #[.agg #[.int .i64 0, .int .i64 0, .int .u64 0, .int .i64 0], .int .i64 3]) (by simp [results, Tryz.results35, go_sem, q0, q1, q2, q3]) rfl ?_
  exact ⟨by first | rfl | trivial, ((RNext.same (HE.out.1.keep hB9)).ahead hB9).mono HE.out.2.1⟩
 rw [e1] at hFi
 rw [e4]
 simp only
 obtain ⟨x, G, hx, hxg, rfl, hG, hxc, hfz, hGr, hkL⟩ := h1.hold e2
 have hxm := List.mem_of_getElem? hx
 obtain ⟨N, hN⟩ : ∃ N, N = L.length := ⟨_, rfl⟩
 rw [← hN] at d2 hkL
 have f1 := hxc 1 _ rfl
 have f3 := hxc 3 _ rfl
 have f4 := hxc 4 _ rfl
 unfold hsV at f4
 rw [hxg] at f1 f3 f4
 obtain ⟨xq, hxq⟩ : ∃ v, v = g.q := ⟨_, rfl⟩
 obtain ⟨xr, hxr⟩ : ∃ v, v = g.run := ⟨_, rfl⟩
 obtain ⟨n, hn⟩ : ∃ v, v = g.sl.length := ⟨_, rfl⟩
 obtain ⟨yA, hyA⟩ : ∃ v, v = x.A := ⟨_, rfl⟩
 obtain ⟨yc, hyc⟩ : ∃ v, v = x.c := ⟨_, rfl⟩
 have hgo := h1.ok.ok g (List.mem_of_getElem? e2)
 have hn16 : 1 ≤ n ∧ n ≤ 16 := by rw [hn]; exact ⟨hgo.n1, hgo.n2⟩
 obtain ⟨i, hi⟩ : ∃ i, n = i + 1 := ⟨n - 1, by omega⟩
 have hsi : ∃ s, g.sl[i]? = some s := by
  have : i < g.sl.length := by omega
  exact ⟨g.sl[i], List.getElem?_eq_getElem this⟩
 obtain ⟨⟨sn, sd, sm, sc⟩, hs⟩ := hsi
 have hlast : g.sl.getLast? = some ⟨sn, sd, sm, sc⟩ := by rw [List.getLast?_eq_getElem?, ← hn, hi]; exact hs
 rw [hlast]
 simp only
 rw [← hxq] at f1
 rw [← hxr] at f3 ⊢
 rw [← hn, ← hyA, ← hyc] at f4
 rw [← hn]
 have HFi := Lib.hid hFi
 have t0 : decide ((k : Int) < 0) = false := decide_eq_false (by omega)
 have j1 : (k : Int) < (N : Int) := by omega
 have j0 : ¬ (k : Int) < 0 := by omega
 have H := Lib.hid (And.intro h1 (And.intro hD (And.intro hx (And.intro hxg (And.intro hxm (And.intro e2 (And.intro e3 hfz)))))))
 have HV := Lib.hid (And.intro hxq (And.intro hxr (And.intro hn (And.intro hyA (And.intro hyc (And.intro hN (And.intro hs hlast)))))))
 have wi : IntKind.i64.wrap (((i + 1 : Nat) : Int) - 1) = (i : Int) := by rw [show ((i + 1 : Nat) : Int) - 1 = (i : Int) by omega]; exact IntWalk.i64_in _ (by omega)
 have hgsl := hgo.sl
 have HSl := Lib.hid hgsl
 clear hFi e1 e2 e3 e4 h1 hD hv hbk0 hW0 hB0 h hE hED hElt hx hxg hxc hfz hxm hN hxq hxr hn hyA hyc hgo hs hlast hgsl
 subst hi
 cases xr
 ·rw [if_pos rfl]
  have HSS := Lib.hid hSS
  clear f1 hSS hz0
  go_enter Tryz.func35, Tryz.ntmps35
  go_wp2_with (go_at_call 74; rw [← HW0.out]; refine HFi.out.mono ?_; rintro e w' ⟨rfl, rfl⟩)
  have hbk9 := set4_blk HBK.out (.int .i64 0) (.int .i64 0) (.int .u64 0) (.int .i64 0)
  rw [HE.out.2.2.2.1] at hbk9
  change bodyPost _ _ _ _ _ (set4 W0 w.heap.size (.int .i64 0) (.int .i64 0) (.int .u64 0) (.int .i64 0))
  have hF9 : Foot (fun i => i = S) w (set4 W0 w.heap.size (.int .i64 0) (.int .i64 0) (.int .u64 0) (.int .i64 0)) := (Foot.of_below HB0.out).trans (set4_foot W0 w.heap.size _ _ _ _) fun i hi => .inl (by rw [hi, HE.out.2.2.2.1])
  obtain ⟨W9, hW9⟩ : ∃ W9, W9 = set4 W0 w.heap.size (.int .i64 0) (.int .i64 0) (.int .u64 0) (.int .i64 0) := ⟨_, rfl⟩
  rw [← hW9] at hbk9 hF9 ⊢
  obtain ⟨q0, q1, q2, q3, _⟩ := blk4 hbk9
  have hB9 : Below w.heap.size w W9 := hF9.below (Nat.le_refl _) fun i hi => by rw [hi, HE.out.2.2.2.1]; exact Nat.le_refl _
  clear hW9
  try clear x0 x1 x2 x3 xz0 xz1 xz2 xz3
  refine bodyPost_ret (v := .tuple #[.agg #[.int .i64 0, .int .i64 0, .int .u64 0, .int .i64 0], .int .i64 8]) (by simp [results, Tryz.results35, go_sem, q0, q1, q2, q3]) rfl ?_
  exact ⟨by first | rfl | trivial, ((RNext.same (HE.out.1.keep hB9)).ahead hB9).mono HE.out.2.1⟩
 rw [if_neg (by simp)]
 by_cases h1n : i + 1 ≤ 1
 ·rw [if_pos h1n]
  obtain rfl : i = 0 := by omega
  have HSS := Lib.hid hSS
  clear f1 h1n hSS hz0
  go_enter Tryz.func35, Tryz.ntmps35
  go_wp2_with (go_at_call 74; rw [← HW0.out]; refine HFi.out.mono ?_; rintro e w' ⟨rfl, rfl⟩)
  have hbk9 := set4_blk HBK.out (.int .i64 0) (.int .i64 0) (.int .u64 0) (.int .i64 0)
  rw [HE.out.2.2.2.1] at hbk9
  change bodyPost _ _ _ _ _ (set4 W0 w.heap.size (.int .i64 0) (.int .i64 0) (.int .u64 0) (.int .i64 0))
  have hF9 : Foot (fun i => i = S) w (set4 W0 w.heap.size (.int .i64 0) (.int .i64 0) (.int .u64 0) (.int .i64 0)) := (Foot.of_below HB0.out).trans (set4_foot W0 w.heap.size _ _ _ _) fun i hi => .inl (by rw [hi, HE.out.2.2.2.1])
  obtain ⟨W9, hW9⟩ : ∃ W9, W9 = set4 W0 w.heap.size (.int .i64 0) (.int .i64 0) (.int .u64 0) (.int .i64 0) := ⟨_, rfl⟩
  rw [← hW9] at hbk9 hF9 ⊢
  obtain ⟨q0, q1, q2, q3, _⟩ := blk4 hbk9
  have hB9 : Below w.heap.size w W9 := hF9.below (Nat.le_refl _) fun i hi => by rw [hi, HE.out.2.2.2.1]; exact Nat.le_refl _
  clear hW9
  try clear x0 x1 x2 x3 xz0 xz1 xz2 xz3
  refine bodyPost_ret (v := .tuple #[.agg #[.int .i64 0, .int .i64 0, .int .u64 0, .int .i64 0], .int .i64 8]) (by simp [results, Tryz.results35, go_sem, q0, q1, q2, q3]) rfl ?_
  exact ⟨by first | rfl | trivial, ((RNext.same (HE.out.1.keep hB9)).ahead hB9).mono HE.out.2.1⟩
 rw [if_neg h1n]
 have hi1 : 1 ≤ i := by omega
 have hcap := H.out.1.cap x H.out.2.2.2.2.1
 have hxg := H.out.2.2.2.1
 rw [hxg, ← HV.out.2.2.1, ← HV.out.2.2.2.2.1] at hcap
 have hsx0 := H.out.1.sl x H.out.2.2.2.2.1
 rw [hxg, ← HV.out.2.2.2.1] at hsx0
 obtain ⟨b1, off1, eY, hb1, hcell⟩ := (slots_els hsx0).at_ HV.out.2.2.2.2.2.2.1
 have hcs : CellsAt W0 b1 (off1 + i * 4) [.int .i64 sn, .int .i64 sd, .int .u64 (sm : Nat), .int .i64 sc] := hcell i _ HV.out.2.2.2.2.2.2.1
 have HCs := Lib.hid hcs
 subst eY
 have j3 : (i : Int) < ((i + 1 : Nat) : Int) := by omega
 have j4 : (i : Int) < (i : Int) + 1 := by omega
 have u1 : decide (i = 0) = false := decide_eq_false (by omega)
 have u2 : ((i : Int) == 0) = false := beq_eq_false_iff_ne.2 (by omega)
 obtain ⟨W1, hW1⟩ : ∃ W1, W1 = W0.alloc (.cells #[.int .i64 sn, .int .i64 sd, .int .u64 (sm : Nat), .int .i64 sc] 41) := ⟨_, rfl⟩
 have hB1 : Below W0.heap.size W0 W1 := by rw [hW1]; exact (Below.refl W0.heap.size W0).alloc (Nat.le_refl _) _
 obtain ⟨bx, hbx⟩ : ∃ bx, bx = W0.heap.size := ⟨_, rfl⟩
 have hbb1 : W1.heap[bx]? = some (.cells #[.int .i64 sn, .int .i64 sd, .int .u64 (sm : Nat), .int .i64 sc] 41 (0, 0)) := by rw [hW1, hbx]; exact heap_alloc_new W0 _
 have hz1 : W1.heap.size = bx + 1 := by rw [hW1, hbx]; simp
 have lr : r < W1.heap.size := by have := H.out.1.lts.1; omega
 have lG : G < W1.heap.size := by omega
 have lbx : bx < W1.heap.size := by omega
 have hgm := List.mem_of_getElem? H.out.2.2.2.2.2.1
 have h8s : ∀ i, i ∈ [r, q, al, tk, db, ra, a, b] → i < S := fun i hi => by rw [HE.out.2.2.2.1]; exact HE.out.2.2.1 i (H.out.2.1 i (.inl hi))
 have hGS : G < S := by rw [HE.out.2.2.2.1]; exact HE.out.2.2.1 G (H.out.2.1 G (.inr (.inl ⟨0, rfl⟩)))
 have hslin : SlIn ⟨sn, sd, sm, sc⟩ := HSl.out _ (List.mem_of_getElem? HV.out.2.2.2.2.2.2.1)
 have HGv := Lib.hid (show ∀ W2 : World, Below W1.heap.size W1 W2 → W2.heap[W1.heap.size]? = some (.cells #[.int .i64 sn, .int .i64 sd, .int .u64 (sm : Nat), .int .i64 sc] 41 (0, 0)) →
   Calls Tryz.prog 77 #[.pointer (some ⟨r, 0, none⟩), .int .i64 xq, .slice (some ⟨W1.heap.size, 0, none⟩) 1 1] W2 (fun e w' => e = .returned (.tuple #[]) ∧ RLNext W2 w' r q al tk db ra a b (some ⟨G, 0, none⟩) c L fs (LM.give fs st xq [(⟨sn, sd, sm, sc⟩ : PM.Sl)])) from fun W2 hB hb =>
  rgive_l xq (some ⟨W1.heap.size, 0, none⟩) 1 [⟨sn, sd, sm, sc⟩] ((H.out.1.keep hB1).keep hB) (els_slots (els_box1 (s := ⟨sn, sd, sm, sc⟩) hb)) (fun s hs => by rw [List.mem_singleton] at hs; rw [hs]; exact hslin) (by simp) (fun _ g' o e hb8 => by
   injection e with e; injection e with e
   subst e
   have := h8s _ hb8
   omega))
 have hGF : ¬ (G = r ∨ G = q ∨ G = tk ∨ G = db ∨ G = b) := fun e => H.out.1.rown G 0 rfl (by rcases e with rfl | rfl | rfl | rfl | rfl <;> simp)
 have hXF : ∀ j, S ≤ j → ¬ (j = r ∨ j = q ∨ j = tk ∨ j = db ∨ j = b) := fun j hj e => by
  have := h8s j (by rcases e with rfl | rfl | rfl | rfl | rfl <;> simp)
  omega
 have hbF := hXF bx (by omega)
 have HK3 := Lib.hid (show ∀ W2 w3 : World, Below W1.heap.size W1 W2 → RLNext W2 w3 r q al tk db ra a b (some ⟨G, 0, none⟩) c L fs (LM.give fs st xq [(⟨sn, sd, sm, sc⟩ : PM.Sl)]) → (fun w' : World => w'.cell? ⟨r, 2, none⟩ = some (.slice (some ⟨G, 0, none⟩) N c) ∧ w'.cell? ⟨G, k * 5 + 1, none⟩ = some (.int .i64 xq) ∧ w'.cell? ⟨bx, 0, none⟩ = some (.int .i64 sn) ∧ w'.cell? ⟨bx, 1, none⟩ = some (.int .i64 sd) ∧ w'.cell? ⟨bx, 2, none⟩ = some (.int .u64 (sm : Nat)) ∧ w'.cell? ⟨bx, 3, none⟩ = some (.int .i64 sc)) W2 → (fun w' : World => w'.cell? ⟨r, 2, none⟩ = some (.slice (some ⟨G, 0, none⟩) N c) ∧ w'.cell? ⟨G, k * 5 + 1, none⟩ = some (.int .i64 xq) ∧ w'.cell? ⟨bx, 0, none⟩ = some (.int .i64 sn) ∧ w'.cell? ⟨bx, 1, none⟩ = some (.int .i64 sd) ∧ w'.cell? ⟨bx, 2, none⟩ = some (.int .u64 (sm : Nat)) ∧ w'.cell? ⟨bx, 3, none⟩ = some (.int .i64 sc)) w3 from fun W2 w3 hB hn hs => by
  obtain ⟨q2, tk2, db2, h2, hf, _⟩ := hn
  have := hB.size
  exact ⟨by have h9 := h2.own.2.2.1; rw [← HV.out.2.2.2.2.2.1] at h9; exact h9, (hf.cell (p := ⟨G, k * 5 + 1, none⟩) (show G < W2.heap.size by omega) hGF).trans hs.2.1, (hf.cell (p := ⟨bx, 0, none⟩) (show bx < W2.heap.size by omega) hbF).trans hs.2.2.1, (hf.cell (p := ⟨bx, 1, none⟩) (show bx < W2.heap.size by omega) hbF).trans hs.2.2.2.1, (hf.cell (p := ⟨bx, 2, none⟩) (show bx < W2.heap.size by omega) hbF).trans hs.2.2.2.2.1, (hf.cell (p := ⟨bx, 3, none⟩) (show bx < W2.heap.size by omega) hbF).trans hs.2.2.2.2.2⟩)
 have HGF := Lib.hid (And.intro hGF hXF)
 have HW1 := Lib.hid hW1
 have HB1 := Lib.hid hB1
 have HBX := Lib.hid hbx
 have HBZ := Lib.hid hz1
 have HBB := Lib.hid hbb1
 have HSS := Lib.hid (And.intro hSS (And.intro hz0 (And.intro hz1 (And.intro h8s (And.intro hGS (And.intro hcap (And.intro hxg (And.intro hgm hi1))))))))
 clear hcs hcell hsx0 hW1 hB1 hbb1 hgm h8s hGF hXF hbF hSS hz0 hz1 hcap hxg h1n hslin hb1 hi1 hbx lx hGS
 go_enter Tryz.func35, Tryz.ntmps35
 go_wp2_with (first | (go_at_call 74; rw [← HW0.out]; refine HFi.out.mono ?_; rintro e w' ⟨rfl, rfl⟩) | (refine wpList_load_sv rfl _ rfl b1 (off1 + i * 4) _ rfl rfl HCs.out ?_))
 rw [← HW1.out, ← HBX.out]
 have HF4 := Lib.hid f4
 clear x0 x1 x2 x3 xz0 xz1 xz2 xz3 f3 f4
 replace d2 := (HB1.out.cell (p := ⟨r, 2, none⟩) H.out.1.lts.1).trans d2
 replace f1 := (HB1.out.cell (p := ⟨G, k * 5 + 1, none⟩) hG).trans f1
 obtain ⟨b0, b1', b2, b3⟩ : W1.cell? ⟨bx, 0, none⟩ = some (.int .i64 sn) ∧ W1.cell? ⟨bx, 1, none⟩ = some (.int .i64 sd) ∧ W1.cell? ⟨bx, 2, none⟩ = some (.int .u64 (sm : Nat)) ∧ W1.cell? ⟨bx, 3, none⟩ = some (.int .i64 sc) := ⟨cell_blk (i := 0) HBB.out rfl, cell_blk (i := 1) HBB.out rfl, cell_blk (i := 2) HBB.out rfl, cell_blk (i := 3) HBB.out rfl⟩
 refine held_begin (fun w' : World => w'.cell? ⟨r, 2, none⟩ = some (.slice (some ⟨G, 0, none⟩) N c) ∧ w'.cell? ⟨G, k * 5 + 1, none⟩ = some (.int .i64 xq) ∧ w'.cell? ⟨bx, 0, none⟩ = some (.int .i64 sn) ∧ w'.cell? ⟨bx, 1, none⟩ = some (.int .i64 sd) ∧ w'.cell? ⟨bx, 2, none⟩ = some (.int .u64 (sm : Nat)) ∧ w'.cell? ⟨bx, 3, none⟩ = some (.int .i64 sc)) (by kernel_rfl) ?_
 have hS0 : (fun w' : World => w'.cell? ⟨r, 2, none⟩ = some (.slice (some ⟨G, 0, none⟩) N c) ∧ w'.cell? ⟨G, k * 5 + 1, none⟩ = some (.int .i64 xq) ∧ w'.cell? ⟨bx, 0, none⟩ = some (.int .i64 sn) ∧ w'.cell? ⟨bx, 1, none⟩ = some (.int .i64 sd) ∧ w'.cell? ⟨bx, 2, none⟩ = some (.int .u64 (sm : Nat)) ∧ w'.cell? ⟨bx, 3, none⟩ = some (.int .i64 sc)) W1.drew := ⟨d2, f1, b0, b1', b2, b3⟩
 refine held_takeK (v := ?_) 0 50 rfl rfl ⟨by rfl, ?_⟩ hS0 ?_
 rotate_left
 ·intro w' hw'; obtain ⟨x0, x1, x2, x3, x4, x5⟩ := hw'; go_simp; (try with_reducible rfl)
 simp only [Act.put, pzA, pzB, pzC]
 refine held_takeK (v := ?_) 1 51 rfl rfl ⟨by rfl, ?_⟩ hS0 ?_
 rotate_left
 ·intro w' hw'; obtain ⟨x0, x1, x2, x3, x4, x5⟩ := hw'; go_simp; (try with_reducible rfl)
 simp only [Act.put, pzA, pzB, pzC]
 refine held_takeK (v := ?_) 2 52 rfl rfl ⟨by rfl, ?_⟩ hS0 ?_
 rotate_left
 ·intro w' hw'; obtain ⟨x0, x1, x2, x3, x4, x5⟩ := hw'; go_simp; (try with_reducible rfl)
 simp only [Act.put, pzA, pzB, pzC]
 refine held_takeK (v := ?_) 3 53 rfl rfl ⟨by rfl, ?_⟩ hS0 ?_
 rotate_left
 ·intro w' hw'; obtain ⟨x0, x1, x2, x3, x4, x5⟩ := hw'; go_simp; (try with_reducible rfl)
 simp only [Act.put, pzA, pzB, pzC]
 refine held_takeK (v := ?_) 4 54 rfl rfl ⟨by rfl, ?_⟩ hS0 ?_
 rotate_left
 ·intro w' hw'; obtain ⟨x0, x1, x2, x3, x4, x5⟩ := hw'; go_simp; (try with_reducible rfl)
 simp only [Act.put, pzA, pzB, pzC]
 refine held_takeK (v := ?_) 5 55 rfl rfl ⟨by rfl, ?_⟩ hS0 ?_
 rotate_left
 ·intro w' hw'; obtain ⟨x0, x1, x2, x3, x4, x5⟩ := hw'; go_simp; (try with_reducible rfl)
 simp only [Act.put, pzA, pzB, pzC]
 refine held_takeK (v := ?_) 6 56 rfl rfl ⟨by rfl, ?_⟩ hS0 ?_
 rotate_left
 ·intro w' hw'; obtain ⟨x0, x1, x2, x3, x4, x5⟩ := hw'; go_simp; (try with_reducible rfl)
 simp only [Act.put, pzA, pzB, pzC]
 refine held_takeK (v := ?_) 7 57 rfl rfl ⟨by rfl, ?_⟩ hS0 ?_
 rotate_left
 ·intro w' hw'; obtain ⟨x0, x1, x2, x3, x4, x5⟩ := hw'; go_simp; (try with_reducible rfl)
 simp only [Act.put, pzA, pzB, pzC]
 refine held_takeK (v := ?_) 8 58 rfl rfl ⟨by rfl, ?_⟩ hS0 ?_
 rotate_left
 ·intro w' hw'; obtain ⟨x0, x1, x2, x3, x4, x5⟩ := hw'; go_simp; (try with_reducible rfl)
 simp only [Act.put, pzA, pzB, pzC]
 refine held_takeK (v := ?_) 9 59 rfl rfl ⟨by rfl, ?_⟩ hS0 ?_
 rotate_left
 ·intro w' hw'; obtain ⟨x0, x1, x2, x3, x4, x5⟩ := hw'; refine Eq.trans (run_load_sv (by rfl) (by rfl) rfl (clsat4 x2 x3 x4 x5)) ?_; (with_reducible rfl)
 simp only [Act.put, pzA, pzB, pzC]
 refine held_one 10 rfl (by kernel_rfl) (by rfl) (fun K hK => ?_)
 go_simp
 obtain ⟨W2, hW2⟩ : ∃ W, W = (W1.alloc (.cells #[.int .i64 sn, .int .i64 sd, .int .u64 (sm : Nat), .int .i64 sc] 41)).drew := ⟨_, rfl⟩
 (try rw [← hW2])
 have hB2 : Below W1.heap.size W1 W2 := by rw [hW2]; exact ((Below.refl W1.heap.size W1).alloc (Nat.le_refl _) _).drew
 have hb2 : W2.heap[W1.heap.size]? = some (.cells #[.int .i64 sn, .int .i64 sd, .int .u64 (sm : Nat), .int .i64 sc] 41 (0, 0)) := by rw [hW2]; exact heap_alloc_new W1 _
 have hS1 : (fun w' : World => w'.cell? ⟨r, 2, none⟩ = some (.slice (some ⟨G, 0, none⟩) N c) ∧ w'.cell? ⟨G, k * 5 + 1, none⟩ = some (.int .i64 xq) ∧ w'.cell? ⟨bx, 0, none⟩ = some (.int .i64 sn) ∧ w'.cell? ⟨bx, 1, none⟩ = some (.int .i64 sd) ∧ w'.cell? ⟨bx, 2, none⟩ = some (.int .u64 (sm : Nat)) ∧ w'.cell? ⟨bx, 3, none⟩ = some (.int .i64 sc)) W2 := ⟨(hB2.cell (p := ⟨r, 2, none⟩) lr).trans d2, (hB2.cell (p := ⟨G, k * 5 + 1, none⟩) lG).trans f1, (hB2.cell (p := ⟨bx, 0, none⟩) lbx).trans b0, (hB2.cell (p := ⟨bx, 1, none⟩) lbx).trans b1', (hB2.cell (p := ⟨bx, 2, none⟩) lbx).trans b2, (hB2.cell (p := ⟨bx, 3, none⟩) lbx).trans b3⟩
 refine hK.out _ _ hS1 ?_
 clear hK K
 try simp only [Act.put, pzA, pzB, pzC]
 refine held_one 11 rfl (by kernel_rfl) (by rfl) (fun K hK => ?_)
 go_simp
 go_at_call 77
 (try rw [← hW2])
 refine (HGv.out W2 hB2 hb2).mono ?_
 rintro e w3 ⟨rfl, hn3⟩
 have hS3 : (fun w' : World => w'.cell? ⟨r, 2, none⟩ = some (.slice (some ⟨G, 0, none⟩) N c) ∧ w'.cell? ⟨G, k * 5 + 1, none⟩ = some (.int .i64 xq) ∧ w'.cell? ⟨bx, 0, none⟩ = some (.int .i64 sn) ∧ w'.cell? ⟨bx, 1, none⟩ = some (.int .i64 sd) ∧ w'.cell? ⟨bx, 2, none⟩ = some (.int .u64 (sm : Nat)) ∧ w'.cell? ⟨bx, 3, none⟩ = some (.int .i64 sc)) w3 := HK3.out W2 w3 hB2 hn3 hS1
 have HN3 := Lib.hid hn3
 have HBW2 := Lib.hid (show bx + 1 < w3.heap.size from by have h7 := blk_lt hb2; obtain ⟨_, _, _, _, hf, _⟩ := hn3; have := hf.size; have := HBZ.out; omega)
 have HB2 := Lib.hid hB2
 clear hn3
 refine hK.out _ _ hS3 ?_
 clear hK K
 try simp only [Act.put, pzA, pzB, pzC]
 refine wpAnyH_done (by kernel_rfl) ?_ _
 clear hW2 hb2 hB2 hS1 hS0
 obtain ⟨q2, tk2, db2, h2, hf3, y1, y2, y3⟩ := HN3.out
 obtain ⟨hSS, hz0, hz1, h8s, hGS, hcap, hxg, hgm, hi1⟩ := HSS.out
 have hs2 := HB2.out.size
 have hs3 := hf3.size
 have f4a : W0.cell? ⟨G, k * 5 + 4, none⟩ = some (.slice (some ⟨b1, off1, none⟩) (i + 1) yc) := HF4.out
 have f4 : w3.cell? ⟨G, k * 5 + 4, none⟩ = some (.slice (some ⟨b1, off1, none⟩) (i + 1) yc) := (hf3.cell (p := ⟨G, k * 5 + 4, none⟩) (show G < W2.heap.size by omega) HGF.out.1).trans ((HB2.out.cell (p := ⟨G, k * 5 + 4, none⟩) lG).trans ((HB1.out.cell (p := ⟨G, k * 5 + 4, none⟩) hG).trans f4a))
 clear d2 b0 b1' b2 b3 f1 f4a
 obtain ⟨d2, _, b0, b1', b2, b3⟩ := hS3
 have l_r : r < w3.heap.size := by omega
 have l_G : G < w3.heap.size := by omega
 have hsx := h2.sl x H.out.2.2.2.2.1
 have HSE := Lib.hid (show Els slC 4 w3 w3.heap.size (atSl (some ⟨b1, off1, none⟩) 0 yc) (g.sl.take i) from els_sl_to (by rw [← hxg, HV.out.2.2.2.1]; exact slots_els hsx) i yc (by rw [← HV.out.2.2.1]; exact hcap))
 have HG := Lib.hid (show i = (g.sl.take i).length by rw [List.length_take, ← HV.out.2.2.1]; omega)
 have hk2 : (LM.give fs st xq [(⟨sn, sd, sm, sc⟩ : PM.Sl)]).hs[k]? = some g := H.out.2.2.2.2.2.1
 have HZ := Lib.hid (show ∀ W, Below w3.heap.size w3 W → W.frozen? ⟨G, k * 5 + 4, none⟩ = false from fun W hb => by
  obtain ⟨_, G', _, _, hA', _, _, hfz', _⟩ := (h2.keep hb).hold hk2
  injection hA' with hA'; injection hA' with hA'
  rw [hA']; exact hfz' _)
 have hD8 : ∀ i, i ∈ [r, q, al, tk, db, ra, a, b] → D i := fun i hi => HE.out.2.1 i (H.out.2.1 i (.inl hi))
 have hDG : D G := HE.out.2.1 G (H.out.2.1 G (.inr (.inl ⟨0, rfl⟩)))
 have hs0 := HB0.out.size
 have hs1 := HB1.out.size
 have hdl : g.sl.dropLast = g.sl.take i := by rw [List.dropLast_eq_take, ← HV.out.2.2.1]; rfl
 have HFin := Lib.hid (show ∀ (wz : World) (A7 : Option Addr) (c7 : Nat), Below w3.heap.size w3 wz → wz.ownsRow w3.heap.size 41 4 (.slice A7 i c7) i ((g.sl.take i).flatMap slC) →
   RLAt (wz.setCell ⟨G, k * 5 + 4, none⟩ (.slice A7 i c7)) r q2 al tk2 db2 ra a b (some ⟨G, 0, none⟩) c (L.set k (⟨{ x.h with sl := x.h.sl.dropLast }, A7, c7⟩ : Hs)) fs { LM.give fs st xq [(⟨sn, sd, sm, sc⟩ : PM.Sl)] with hs := LM.upd id (fun h => { h with sl := h.sl.dropLast }) st.hs } ∧
   ∀ w12, RLAt w12 r q2 al tk2 db2 ra a b (some ⟨G, 0, none⟩) c (L.set k (⟨{ x.h with sl := x.h.sl.dropLast }, A7, c7⟩ : Hs)) fs (LM.doneS 0 { LM.give fs st xq [(⟨sn, sd, sm, sc⟩ : PM.Sl)] with hs := LM.upd id (fun h => { h with sl := h.sl.dropLast }) st.hs }) → Foot (· = r) (wz.setCell ⟨G, k * 5 + 4, none⟩ (.slice A7 i c7)) w12 → ∀ wf, Foot (· = S) w12 wf →
    RNext w wf r D fs (LM.up { LM.give fs st xq [(⟨sn, sd, sm, sc⟩ : PM.Sl)] with hs := LM.upd id (fun h => { h with sl := h.sl.dropLast }) st.hs }) from fun wz A7 c7 hbz hown => by
  have hx := H.out.2.2.1
  have hlen : x.h.sl.dropLast.length = i := by rw [hxg, hdl]; exact HG.out.symm
  have hA7 : ∀ g o, A7 = some ⟨g, o, none⟩ → w3.heap.size ≤ g := fun g o e => by
   subst e
   exact (hown.lt g rfl).1
  have hsz := hbz.size
  obtain ⟨W', hW'⟩ : ∃ W', W' = wz.setCell ⟨G, k * 5 + 4, none⟩ (.slice A7 i c7) := ⟨_, rfl⟩
  rw [← hW']
  have hfW : Foot (fun i => ∃ o, (some ⟨G, 0, none⟩ : Option Addr) = some ⟨i, o, none⟩) w3 W' := by rw [hW']; exact (Foot.of_below hbz).setCell (p := ⟨G, k * 5 + 4, none⟩) (.inl ⟨0, rfl⟩) _
  have hsW : Slots W' W'.heap.size A7 x.h.sl.dropLast := by
   have h9 : Slots wz wz.heap.size A7 x.h.sl.dropLast := own_slots (c := c7) (by rw [hlen, hxg, hdl]; exact hown)
   refine h9.off2 (by rw [hW']; simp) fun g' o e hg => ?_
   rw [hW']
   exact Below.heap_setCell _ _ _ _ (show g' ≠ G by have := hA7 g' o e; omega)
  have hup : LM.upd id (fun h => { h with sl := h.sl.dropLast }) st.hs = st.hs.set k { g with sl := g.sl.dropLast } := by
   rw [← H.out.2.2.2.2.2.2.1]; exact LM.upd_set _ H.out.1.ok.asc H.out.2.2.2.2.2.1
  have h8 := H.out.1.ok.ok g hgm
  have hdn : g.sl.dropLast.length = i := by rw [← hxg]; exact hlen
  have hok : LOk { LM.give fs st xq [(⟨sn, sd, sm, sc⟩ : PM.Sl)] with hs := LM.upd id (fun h => { h with sl := h.sl.dropLast }) st.hs } := by
   have h9 := h2.ok.upd (g := g) (g' := { g with sl := g.sl.dropLast }) hgm rfl ⟨h8.id, h8.q, h8.un, by show 1 ≤ g.sl.dropLast.length; omega, by show g.sl.dropLast.length ≤ 16; omega, fun s hs => h8.sl s (by have hs : s ∈ g.sl.dropLast := hs; rw [hdl] at hs; exact List.mem_of_mem_take hs)⟩ (h2.ok.q g hgm)
   have e9 : LM.upd g.id (fun _ => { g with sl := g.sl.dropLast }) st.hs = LM.upd id (fun h => { h with sl := h.sl.dropLast }) st.hs := by
    rw [hup, LM.upd_set _ H.out.1.ok.asc H.out.2.2.2.2.2.1]
   have h9 : LOk { LM.give fs st xq [(⟨sn, sd, sm, sc⟩ : PM.Sl)] with hs := LM.upd g.id (fun _ => { g with sl := g.sl.dropLast }) st.hs } := h9
   rw [e9] at h9
   exact h9
  have h7 := h2.wrote (w' := W') (k := k) (x := x) (x' := (⟨{ x.h with sl := x.h.sl.dropLast }, A7, c7⟩ : Hs)) (hs' := LM.upd id (fun h => { h with sl := h.sl.dropLast }) st.hs) hx hfW (by
    have r1 := own_set (j := k * 5 + 4) (.slice A7 i c7) (h2.keep hbz).row
    have x1 := flat_set1 (C := hsC) hsC_len (L := L) (i := k) (r := 4) (x := x) (x' := (⟨{ x.h with sl := x.h.sl.dropLast }, A7, c7⟩ : Hs)) (v := .slice A7 i c7) hx (by omega) (by rw [← hlen]; rfl)
    rw [x1, hW']; exact r1) (by rw [hup, ← H.out.1.hs, List.map_set, ← hxg]) hok (.inr ⟨hsW, hA7⟩) (by show x.h.sl.dropLast.length ≤ c7; rw [hlen]; exact own_cap hown)
  refine ⟨h7, fun w12 h12 hf12 wf hff => ?_⟩
  have h13 := h12
  unfold LM.doneS at h13
  rw [if_pos rfl] at h13
  have hNS : ¬ RB r q2 al tk2 db2 ra a b (some ⟨G, 0, none⟩) (L.set k (⟨{ x.h with sl := x.h.sl.dropLast }, A7, c7⟩ : Hs)) S := by
   rintro (hi | ⟨o, e⟩ | ⟨y, hy, o, e⟩)
   ·simp only [List.mem_cons, List.not_mem_nil, or_false] at hi
    have m1 := h8s r (by simp)
    have m2 := h8s q (by simp)
    have m3 := h8s al (by simp)
    have m4 := h8s tk (by simp)
    have m5 := h8s db (by simp)
    have m6 := h8s ra (by simp)
    have m7 := h8s a (by simp)
    have m8 := h8s b (by simp)
    omega
   ·injection e with e; injection e with e
    omega
   ·rcases List.mem_or_eq_of_mem_set hy with hy | rfl
    ·have := HE.out.2.2.1 S (H.out.2.1 S (.inr (.inr ⟨y, hy, o, e⟩))); omega
    ·have := hA7 S o e
     omega
  have h14 := h13.stay hff.size fun i hi hr => hff.block i hi fun e => by have e : i = S := e; rw [e] at hr; exact hNS hr
  have hfE : Foot D w wf := (((((Foot.of_below (F := D) HB0.out).trans (Foot.of_below (F := D) HB1.out) fun i hi => .inl hi).trans (Foot.of_below (F := D) HB2.out) fun i hi => .inl hi).trans (hf3.mono fun i hi => hD8 i (by rcases hi with rfl | rfl | rfl | rfl | rfl <;> simp)) fun i hi => .inl hi).trans hfW fun i ⟨o, e⟩ => .inl (by injection e with e; injection e with e; subst e; exact hDG)).trans hf12 (fun i hi => .inl (by rw [hi]; exact hD8 r (by simp))) |>.trans hff fun i hi => .inr (by rw [hi]; omega)
  refine RNext.of h14 hfE fun i hi => ?_
  rcases hi with hi | ⟨o, e⟩ | ⟨y, hy, o, e⟩
  ·simp only [List.mem_cons, List.not_mem_nil, or_false] at hi
   rcases hi with rfl | rfl | rfl | rfl | rfl | rfl | rfl | rfl
   ·exact .inl (hD8 _ (by simp))
   ·rcases y1 with rfl | y1
    ·exact .inl (hD8 _ (by simp))
    ·exact .inr (by omega)
   ·exact .inl (hD8 _ (by simp))
   ·rcases y2 with rfl | y2
    ·exact .inl (hD8 _ (by simp))
    ·exact .inr (by omega)
   ·rcases y3 with rfl | y3
    ·exact .inl (hD8 _ (by simp))
    ·exact .inr (by omega)
   ·exact .inl (hD8 _ (by simp))
   ·exact .inl (hD8 _ (by simp))
   ·exact .inl (hD8 _ (by simp))
  ·injection e with e; injection e with e
   subst e
   exact .inl hDG
  ·rcases List.mem_or_eq_of_mem_set hy with hy | rfl
   ·exact .inl (HE.out.2.1 i (H.out.2.1 i (.inr (.inr ⟨y, hy, o, e⟩))))
   ·have := hA7 i o e
    exact .inr (by omega))
 obtain ⟨j9, gi, gz0, gz1, gz2⟩ := info_parts info_slot
 have hic : i ≤ yc := by omega
 have hbxS : bx = S + 1 := by rw [HBX.out, hz0]
 have HV3 := Lib.hid (show st.ver ≤ 90000 from HE.out.2.2.2.2)
 have HX8 := Lib.hid (show ∀ w8 : World, Foot (· = G) w3 w8 → (fun w' : World => w'.cell? ⟨bx, 0, none⟩ = some (.int .i64 sn) ∧ w'.cell? ⟨bx, 1, none⟩ = some (.int .i64 sd) ∧ w'.cell? ⟨bx, 2, none⟩ = some (.int .u64 (sm : Nat)) ∧ w'.cell? ⟨bx, 3, none⟩ = some (.int .i64 sc)) w8 ∧ w8.heap[S]? = some (.cells #[.int .i64 0, .int .i64 0, .int .u64 0, .int .i64 0] 41 (0, 0)) ∧ bx + 1 < w8.heap.size ∧ r ≠ bx ∧ r ≠ S ∧ bx ≠ S from fun w8 hf8 => by
  have e8 := hf8.size
  have hrS := h8s r (by simp)
  have l3 : bx + 1 < w3.heap.size := by have h6 := HBW2.out; omega
  have hGb : ¬ bx = G := by omega
  have hGS2 : ¬ S = G := by omega
  refine ⟨⟨(hf8.cell (p := ⟨bx, 0, none⟩) (show bx < w3.heap.size by omega) hGb).trans b0, (hf8.cell (p := ⟨bx, 1, none⟩) (show bx < w3.heap.size by omega) hGb).trans b1', (hf8.cell (p := ⟨bx, 2, none⟩) (show bx < w3.heap.size by omega) hGb).trans b2, (hf8.cell (p := ⟨bx, 3, none⟩) (show bx < w3.heap.size by omega) hGb).trans b3⟩, ?_, by omega, by omega, by omega, by omega⟩
  exact (hf8.block S (by omega) hGS2).trans ((hf3.block S (by omega) (HGF.out.2 S (Nat.le_refl _))).trans ((HB2.out.block S (by omega)).trans ((HB1.out.block S (by omega)).trans HBK.out))))
 have hL9 : bx ≠ S := by omega
 clear hbxS h2 hf3 y1 y2 y3 hSS hz0 hz1 h8s hGS hcap hxg hgm hi1 hs2 hs3 hsx hk2 hD8 hDG hs0 hs1 hdl HGv HK3 b0 b1' b2 b3
 go_wp2_with fail
 refine wp_until (fun w' : World => w'.cell? ⟨r, 2, none⟩ = some (.slice (some ⟨G, 0, none⟩) N c) ∧ w'.cell? ⟨G, k * 5 + 4, none⟩ = some (.slice (some ⟨b1, off1, none⟩) (i + 1) yc)) 19 (by kernel_rfl) ?_
 have hS0 : (fun w' : World => w'.cell? ⟨r, 2, none⟩ = some (.slice (some ⟨G, 0, none⟩) N c) ∧ w'.cell? ⟨G, k * 5 + 4, none⟩ = some (.slice (some ⟨b1, off1, none⟩) (i + 1) yc)) w3.drew := ⟨d2, f4⟩
 refine until_take (v := ?_) 0 62 rfl rfl (by kernel_rfl) (by kernel_rfl) (by kernel_rfl) (by kernel_rfl) (fun _ _ _ h => h) ⟨by rfl, ?_⟩ hS0 ?_
 rotate_left
 ·intro w' hw'; obtain ⟨x0, x1⟩ := hw'; go_simp; (try with_reducible rfl)
 simp only [Act.put, pzA, pzB, pzC]
 refine until_take (v := ?_) 1 63 rfl rfl (by kernel_rfl) (by kernel_rfl) (by kernel_rfl) (by kernel_rfl) (fun _ _ _ h => h) ⟨by rfl, ?_⟩ hS0 ?_
 rotate_left
 ·intro w' hw'; obtain ⟨x0, x1⟩ := hw'; go_simp; (try with_reducible rfl)
 simp only [Act.put, pzA, pzB, pzC]
 refine until_take (v := ?_) 2 64 rfl rfl (by kernel_rfl) (by kernel_rfl) (by kernel_rfl) (by kernel_rfl) (fun _ _ _ h => h) ⟨by rfl, ?_⟩ hS0 ?_
 rotate_left
 ·intro w' hw'; obtain ⟨x0, x1⟩ := hw'; go_simp; (try with_reducible rfl)
 simp only [Act.put, pzA, pzB, pzC]
 refine until_take (v := ?_) 3 65 rfl rfl (by kernel_rfl) (by kernel_rfl) (by kernel_rfl) (by kernel_rfl) (fun _ _ _ h => h) ⟨by rfl, ?_⟩ hS0 ?_
 rotate_left
 ·intro w' hw'; obtain ⟨x0, x1⟩ := hw'; go_simp; (try with_reducible rfl)
 simp only [Act.put, pzA, pzB, pzC]
 refine until_take (v := ?_) 4 66 rfl rfl (by kernel_rfl) (by kernel_rfl) (by kernel_rfl) (by kernel_rfl) (fun _ _ _ h => h) ⟨by rfl, ?_⟩ hS0 ?_
 rotate_left
 ·intro w' hw'; obtain ⟨x0, x1⟩ := hw'; go_simp; (try with_reducible rfl)
 simp only [Act.put, pzA, pzB, pzC]
 refine until_take (v := ?_) 6 68 rfl rfl (by kernel_rfl) (by kernel_rfl) (by kernel_rfl) (by kernel_rfl) (fun _ _ _ h => h) ⟨by rfl, ?_⟩ hS0 ?_
 rotate_left
 ·intro w' hw'; obtain ⟨x0, x1⟩ := hw'; go_simp; (try with_reducible rfl)
 simp only [Act.put, pzA, pzB, pzC]
 refine until_take (v := ?_) 7 69 rfl rfl (by kernel_rfl) (by kernel_rfl) (by kernel_rfl) (by kernel_rfl) (fun _ _ _ h => h) ⟨by rfl, ?_⟩ hS0 ?_
 rotate_left
 ·intro w' hw'; obtain ⟨x0, x1⟩ := hw'; go_simp; (try with_reducible rfl)
 simp only [Act.put, pzA, pzB, pzC]
 refine until_take (v := ?_) 8 70 rfl rfl (by kernel_rfl) (by kernel_rfl) (by kernel_rfl) (by kernel_rfl) (fun _ _ _ h => h) ⟨by rfl, ?_⟩ hS0 ?_
 rotate_left
 ·intro w' hw'; obtain ⟨x0, x1⟩ := hw'; go_simp; (try with_reducible rfl)
 simp only [Act.put, pzA, pzB, pzC]
 refine until_take (v := ?_) 9 71 rfl rfl (by kernel_rfl) (by kernel_rfl) (by kernel_rfl) (by kernel_rfl) (fun _ _ _ h => h) ⟨by rfl, ?_⟩ hS0 ?_
 rotate_left
 ·intro w' hw'; obtain ⟨x0, x1⟩ := hw'; go_simp; (try with_reducible rfl)
 simp only [Act.put, pzA, pzB, pzC]
 refine until_take (v := ?_) 10 72 rfl rfl (by kernel_rfl) (by kernel_rfl) (by kernel_rfl) (by kernel_rfl) (fun _ _ _ h => h) ⟨by rfl, ?_⟩ hS0 ?_
 rotate_left
 ·intro w' hw'; obtain ⟨x0, x1⟩ := hw'; go_simp; (try with_reducible rfl)
 simp only [Act.put, pzA, pzB, pzC]
 refine until_take (v := ?_) 11 73 rfl rfl (by kernel_rfl) (by kernel_rfl) (by kernel_rfl) (by kernel_rfl) (fun _ _ _ h => h) ⟨by rfl, ?_⟩ hS0 ?_
 rotate_left
 ·intro w' hw'; obtain ⟨x0, x1⟩ := hw'; go_simp; (try with_reducible rfl)
 simp only [Act.put, pzA, pzB, pzC]
 refine until_take (v := ?_) 12 74 rfl rfl (by kernel_rfl) (by kernel_rfl) (by kernel_rfl) (by kernel_rfl) (fun _ _ _ h => h) ⟨by rfl, ?_⟩ hS0 ?_
 rotate_left
 ·intro w' hw'; obtain ⟨x0, x1⟩ := hw'; go_simp; (try with_reducible rfl)
 simp only [Act.put, pzA, pzB, pzC]
 refine until_take (v := ?_) 13 75 rfl rfl (by kernel_rfl) (by kernel_rfl) (by kernel_rfl) (by kernel_rfl) (fun _ _ _ h => h) ⟨by rfl, ?_⟩ hS0 ?_
 rotate_left
 ·intro w' hw'; obtain ⟨x0, x1⟩ := hw'; go_simp; (try with_reducible rfl)
 simp only [Act.put, pzA, pzB, pzC]
 refine until_take (v := ?_) 14 76 rfl rfl (by kernel_rfl) (by kernel_rfl) (by kernel_rfl) (by kernel_rfl) (fun _ _ _ h => h) ⟨by rfl, ?_⟩ hS0 ?_
 rotate_left
 ·intro w' hw'; obtain ⟨x0, x1⟩ := hw'; go_simp; (try with_reducible rfl)
 simp only [Act.put, pzA, pzB, pzC]
 refine until_take (v := ?_) 15 77 rfl rfl (by kernel_rfl) (by kernel_rfl) (by kernel_rfl) (by kernel_rfl) (fun _ _ _ h => h) ⟨by rfl, ?_⟩ hS0 ?_
 rotate_left
 ·intro w' hw'; obtain ⟨x0, x1⟩ := hw'; refine Eq.trans (run_sl_to (k := i) (by rfl) (by rfl) (by rfl) hic) ?_; (with_reducible rfl)
 simp only [Act.put, pzA, pzB, pzC]
 refine until_one 5 rfl (by kernel_rfl) rfl (fun K hK => ?_)
 go_simp
 obtain ⟨W4, hW4⟩ : ∃ W, W = (w3.alloc (.cells #[] 41)).drew := ⟨_, rfl⟩
 (try rw [← hW4])
 have hst4 : Below w3.heap.size w3 W4 := by rw [hW4]; exact ((Below.refl w3.heap.size w3).alloc (Nat.le_refl _) _).drew
 have hS4 : (fun w' : World => w'.cell? ⟨r, 2, none⟩ = some (.slice (some ⟨G, 0, none⟩) N c) ∧ w'.cell? ⟨G, k * 5 + 4, none⟩ = some (.slice (some ⟨b1, off1, none⟩) (i + 1) yc)) W4 := ⟨(hst4.cell (p := ⟨r, 2, none⟩) l_r).trans d2, (hst4.cell (p := ⟨G, k * 5 + 4, none⟩) l_G).trans f4⟩
 refine hK.out _ _ (fun _ => hS4) ?_
 clear hK K
 try simp only [Act.put, pzA, pzB, pzC]
 refine until_one 16 rfl (by kernel_rfl) rfl (fun K hK => ?_)
 simp only [Go.wp_at_zero, Go.wp_at_succ]
 have own0 : W4.ownsRow w3.heap.size 41 4 (.slice (some ⟨w3.heap.size, 0, none⟩) 0 0) 0 [] := by rw [hW4]; exact World.ownsRow_lit w3 #[] 0 (Nat.le_refl _) (by unfold maxLen; omega) rfl
 refine wp_append_els (C := slC) (k := 4) _ _ _ 42 rfl w3.heap.size 41 j9 _ 32 Tryz.underlying42 gi gz0 gz1 gz2 rfl (by decide) (.slice (some ⟨w3.heap.size, 0, none⟩) 0 0) 0 [] (by first | rfl | (simp; done)) own0 _ (atSl (some ⟨b1, off1, none⟩) 0 yc) yc i (g.sl.take i) rfl (HSE.out.keep hst4 hst4.size) HG.out slC_len1 slC_one (by unfold maxLen; omega) (by omega) hst4.size ?_
 intro A7 c7 w7 own7 g7 k7
 rw [Nat.zero_add] at own7 k7 ⊢
 rw [List.nil_append] at own7
 have hB7 : Below w3.heap.size w3 w7 := hst4.grown g7 hst4.size (fun i e => by have e : some w3.heap.size = some i := e; injection e with e; omega)
 have hS7 : (fun w' : World => w'.cell? ⟨r, 2, none⟩ = some (.slice (some ⟨G, 0, none⟩) N c) ∧ w'.cell? ⟨G, k * 5 + 4, none⟩ = some (.slice (some ⟨b1, off1, none⟩) (i + 1) yc)) w7 := ⟨(hB7.cell (p := ⟨r, 2, none⟩) l_r).trans d2, (hB7.cell (p := ⟨G, k * 5 + 4, none⟩) l_G).trans f4⟩
 have z4 : w7.frozen? ⟨G, k * 5 + 4, none⟩ = false := HZ.out w7 hB7
 have HFX := Lib.hid (HFin.out w7 A7 c7 hB7 own7)
 have HB7 := Lib.hid hB7
 refine hK.out _ _ (fun _ => hS7) ?_
 clear hK K own7 g7 k7 own0 hst4 hW4 hS4 hB7
 try simp only [Act.put, pzA, pzB, pzC]
 refine until_one 17 rfl (by kernel_rfl) rfl (fun K hK => ?_)
 go_simp
 refine hK.out _ _ (fun _ => hS7) ?_
 clear hK K
 try simp only [Act.put, pzA, pzB, pzC]
 refine until_one 18 rfl (by kernel_rfl) rfl (fun K hK => ?_)
 go_simp
 refine hK.out _ _ (fun _ => hS7) ?_
 clear hK K
 try simp only [Act.put, pzA, pzB, pzC]
 refine until_one 19 rfl (by kernel_rfl) rfl (fun K hK => ?_)
 go_simp
 refine hK.out _ _ (fun h => absurd h (by decide)) ?_
 clear hK K hS7
 refine until_done (by kernel_rfl) ?_
 obtain ⟨w8, hw8⟩ : ∃ W, W = w7.setCell ⟨G, k * 5 + 4, none⟩ (.slice A7 i c7) := ⟨_, rfl⟩
 rw [← hw8] at HFX ⊢
 have hF8 : Foot (· = G) w3 w8 := by rw [hw8]; exact (Foot.of_below HB7.out).setCell (F := (· = G)) (p := ⟨G, k * 5 + 4, none⟩) (.inl rfl) _
 obtain ⟨s8, hB8', hl8, hr1, hr2, hL9'⟩ := HX8.out w8 hF8
 have HS8 := Lib.hid s8
 have HB8 := Lib.hid hB8'
 have HL8 := Lib.hid (show ¬ S = r ∧ S < w8.heap.size from ⟨fun e => hr2 e.symm, by have := blk_lt hB8'; omega⟩)
 have HL9 := Lib.hid hL9
 have HDn := Lib.hid (rdone_l (w := w8.drew) 0 (HFX.out.1.keep (Below.refl _ _).drew) (by have := HV3.out; show st.ver ≤ 1000000; omega))
 have HS9 := Lib.hid (show ∀ w9 : World, Foot (· = r) w8.drew w9 → (fun w' : World => w'.cell? ⟨bx, 0, none⟩ = some (.int .i64 sn) ∧ w'.cell? ⟨bx, 1, none⟩ = some (.int .i64 sd) ∧ w'.cell? ⟨bx, 2, none⟩ = some (.int .u64 (sm : Nat)) ∧ w'.cell? ⟨bx, 3, none⟩ = some (.int .i64 sc)) w9 from fun w9 hf9 => by
  have hrb : ¬ bx = r := fun e => hr1 e.symm
  have l8 : bx < w8.drew.heap.size := by show bx < w8.heap.size; omega
  exact ⟨(hf9.cell (p := ⟨bx, 0, none⟩) l8 hrb).trans s8.1, (hf9.cell (p := ⟨bx, 1, none⟩) l8 hrb).trans s8.2.1, (hf9.cell (p := ⟨bx, 2, none⟩) l8 hrb).trans s8.2.2.1, (hf9.cell (p := ⟨bx, 3, none⟩) l8 hrb).trans s8.2.2.2⟩)
 clear s8 hB8' hF8 hw8 hL9 hL9' d2 f4 z4
 go_wp2_with fail
 rw [← HE.out.2.2.2.1]
 refine held_begin (fun w' : World => w'.cell? ⟨bx, 0, none⟩ = some (.int .i64 sn) ∧ w'.cell? ⟨bx, 1, none⟩ = some (.int .i64 sd) ∧ w'.cell? ⟨bx, 2, none⟩ = some (.int .u64 (sm : Nat)) ∧ w'.cell? ⟨bx, 3, none⟩ = some (.int .i64 sc)) (by kernel_rfl) ?_
 have hS0 : (fun w' : World => w'.cell? ⟨bx, 0, none⟩ = some (.int .i64 sn) ∧ w'.cell? ⟨bx, 1, none⟩ = some (.int .i64 sd) ∧ w'.cell? ⟨bx, 2, none⟩ = some (.int .u64 (sm : Nat)) ∧ w'.cell? ⟨bx, 3, none⟩ = some (.int .i64 sc)) w8.drew := HS8.out
 refine held_takeK (v := .agg #[.int .i64 sn, .int .i64 sd, .int .u64 (sm : Nat), .int .i64 sc]) 0 81 rfl rfl ⟨by rfl, ?_⟩ hS0 ?_
 ·intro w' hw'; obtain ⟨x0, x1, x2, x3⟩ := hw'; exact run_load_sv (by rfl) (by rfl) rfl (clsat4 x0 x1 x2 x3)
 simp only [Act.put, pzA, pzB, pzC]
 refine held_takeK (v := ?_) 1 82 rfl rfl ⟨by rfl, ?_⟩ hS0 ?_
 rotate_left
 ·intro w' hw'; obtain ⟨x0, x1, x2, x3⟩ := hw'; go_simp; (try with_reducible rfl)
 simp only [Act.put, pzA, pzB, pzC]
 refine held_one 2 rfl (by kernel_rfl) (by rfl) (fun K hK => ?_)
 go_simp
 go_at_call 76
 refine (HDn.out).mono ?_
 rintro e w9 ⟨rfl, h9, hf9⟩
 have hS9 : (fun w' : World => w'.cell? ⟨bx, 0, none⟩ = some (.int .i64 sn) ∧ w'.cell? ⟨bx, 1, none⟩ = some (.int .i64 sd) ∧ w'.cell? ⟨bx, 2, none⟩ = some (.int .u64 (sm : Nat)) ∧ w'.cell? ⟨bx, 3, none⟩ = some (.int .i64 sc)) w9 := HS9.out w9 hf9
 have hb9 : w9.heap[S]? = some (.cells #[.int .i64 0, .int .i64 0, .int .u64 0, .int .i64 0] 41 (0, 0)) := (hf9.block S HL8.out.2 HL8.out.1).trans HB8.out
 have H9 := Lib.hid h9
 have HF9 := Lib.hid hf9
 clear h9 hf9
 refine hK.out _ _ hS9 ?_
 clear hK K
 try simp only [Act.put, pzA, pzB, pzC]
 refine held_one 3 rfl (by kernel_rfl) (by rfl) (fun K hK => ?_)
 simp only [Go.wp_at_zero, Go.wp_at_succ]
 refine wp_store_row 41 _ _ rfl S #[.int .i64 sn, .int .i64 sd, .int .u64 (sm : Nat), .int .i64 sc] rfl rfl 41 #[.int .i64 0, .int .i64 0, .int .u64 0, .int .i64 0] hb9 (by kernel_rfl) rfl (by simp [Value.oneCell']) ?_
 obtain ⟨w10, hw10⟩ : ∃ W, W = w9.setRow S #[.int .i64 sn, .int .i64 sd, .int .u64 (sm : Nat), .int .i64 sc] := ⟨_, rfl⟩
 rw [← hw10]
 have hS10 : (fun w' : World => w'.cell? ⟨bx, 0, none⟩ = some (.int .i64 sn) ∧ w'.cell? ⟨bx, 1, none⟩ = some (.int .i64 sd) ∧ w'.cell? ⟨bx, 2, none⟩ = some (.int .u64 (sm : Nat)) ∧ w'.cell? ⟨bx, 3, none⟩ = some (.int .i64 sc)) w10 := by rw [hw10]; exact ⟨(cell_setRow_other _ _ _ _ HL9.out).trans hS9.1, (cell_setRow_other _ _ _ _ HL9.out).trans hS9.2.1, (cell_setRow_other _ _ _ _ HL9.out).trans hS9.2.2.1, (cell_setRow_other _ _ _ _ HL9.out).trans hS9.2.2.2⟩
 have hb10 : w10.heap[S]? = some (.cells #[.int .i64 sn, .int .i64 sd, .int .u64 (sm : Nat), .int .i64 sc] 41 (0, 0)) := by rw [hw10]; exact setRow_heap _ _ _ _ _ _ hb9
 have HW10 := Lib.hid hw10
 have HB10 := Lib.hid hb10
 refine hK.out _ _ hS10 ?_
 clear hK K hw10 hb9 hb10 hS9
 (try simp only [Act.put])
 try simp only [Act.put, pzA, pzB, pzC]
 refine held_takeK (v := ?_) 4 5 rfl rfl ⟨by rfl, ?_⟩ hS10 ?_
 rotate_left
 ·intro w' hw'; obtain ⟨x0, x1, x2, x3⟩ := hw'; go_simp; (try with_reducible rfl)
 simp only [Act.put, pzA, pzB, pzC]
 refine wpAnyH_done (by kernel_rfl) ?_ _
 go_wp2
 obtain ⟨q0, q1, q2', q3, _⟩ := blk4 HB10.out
 refine bodyPost_ret (v := .tuple #[.agg #[.int .i64 sn, .int .i64 sd, .int .u64 (sm : Nat), .int .i64 sc], .int .i64 0]) (by simp [results, Tryz.results35, go_sem, q0, q1, q2', q3]) rfl ?_
 have hF10 : Foot (· = S) w9 w10 := by
  rw [HW10.out]
  exact foot_rowR (F := fun i => i = S) (Foot.refl _ w9) (.inl rfl) _
 have hR := HFX.out.2 w9 H9.out ((Foot.refl _ w8).drew.trans HF9.out fun i hi => .inl hi) w10 hF10
 rw [HV.out.1] at hR
 exact ⟨by first | rfl | trivial, hR⟩
end
end Go.Proofs.YtgpfmlidchogcaaGreat
