/- Who has the room for the members has places for them, each with just what a member needs; taken off and put back they leave the view as it was: the law PackWhole answers true, at every input. The library's table of lowest units is as the program's text lays it (tied). -/
import Derived.Test.YtjbjjdcmkbigdaaDoorPackCount
import Derived.Test.YtjbjjdcmkbigdaaDoorPackLeftM
import Derived.Test.YtjbjjdcmkbigdaaDoorShapeRef
import Derived.SevenTiedAt
import Derived.Test.YtjbjjdcmkbigdaaDoorTie
import Derived.Test.YtjbjjdcmkbigdaaDoorCards
set_option linter.unusedVariables false
namespace Go.Proofs.YtjbjjdcmkbigdaaDoor.packWhole
open Go Go.ChangeShapes Go.WideShapes Go.ChangeAt Go.RowKit
theorem stepL_more {l : List Fe} {s : Fe} {l' : List Fe} (h : stepL moreC l s = (0, l')) : ¬ s.c < 0 ∧ ∃ k f, hitL l s.n s.d = some k ∧ l[k]? = some f ∧ s.m &&& f.m = 0 ∧ ¬ (1048576 - f.c < s.c) ∧ l' = l.set k ⟨f.n, f.d, f.m ||| s.m, f.c + s.c⟩ := by
  unfold stepL at h
  by_cases h0 : s.c < 0
  · rw [if_pos h0] at h; exact absurd (congrArg Prod.fst h) (by simp)
  rw [if_neg h0] at h
  refine ⟨h0, ?_⟩
  cases hh : hitL l s.n s.d with
  | none => rw [hh] at h; exact absurd (congrArg Prod.fst h) (by simp)
  | some k =>
    rw [hh] at h
    obtain ⟨f, hf, _⟩ := hitL_some hh
    simp only [hf] at h
    unfold moreC at h
    by_cases hc : s.m &&& f.m ≠ 0
    · rw [if_pos hc] at h; exact absurd (congrArg Prod.fst h) (by simp)
    rw [if_neg hc] at h
    by_cases hc2 : 1048576 - f.c < s.c
    · rw [if_pos hc2] at h; exact absurd (congrArg Prod.fst h) (by simp)
    rw [if_neg hc2] at h
    refine ⟨k, f, rfl, hf, by omega, hc2, ?_⟩
    simpa using h.symm
theorem more_stepL {l : List Fe} {s f : Fe} {k : Nat} (h0 : ¬ s.c < 0) (hh : hitL l s.n s.d = some k) (hf : l[k]? = some f) (hm : s.m &&& f.m = 0) (hc : ¬ (1048576 - f.c < s.c)) :
    stepL moreC l s = (0, l.set k ⟨f.n, f.d, f.m ||| s.m, f.c + s.c⟩) := by
  unfold stepL
  rw [if_neg h0, hh]
  simp only [hf]
  unfold moreC
  rw [if_neg (by simpa using hm), if_neg hc]
  rfl
theorem stepL_less {l : List Fe} {s : Fe} {l' : List Fe} (h : stepL lessC l s = (0, l')) : ¬ s.c < 0 ∧ ∃ k f, hitL l s.n s.d = some k ∧ l[k]? = some f ∧ MM.sub s.m f.m = 0 ∧ ¬ (f.c < s.c) ∧ l' = l.set k ⟨f.n, f.d, MM.sub f.m s.m, f.c - s.c⟩ := by
  unfold stepL at h
  by_cases h0 : s.c < 0
  · rw [if_pos h0] at h; exact absurd (congrArg Prod.fst h) (by simp)
  rw [if_neg h0] at h
  refine ⟨h0, ?_⟩
  cases hh : hitL l s.n s.d with
  | none => rw [hh] at h; exact absurd (congrArg Prod.fst h) (by simp)
  | some k =>
    rw [hh] at h
    obtain ⟨f, hf, _⟩ := hitL_some hh
    simp only [hf] at h
    unfold lessC at h
    by_cases hc : MM.sub s.m f.m ≠ 0 ∨ f.c < s.c
    · rw [if_pos hc] at h; exact absurd (congrArg Prod.fst h) (by simp)
    rw [if_neg hc] at h
    refine ⟨k, f, rfl, hf, by omega, by omega, ?_⟩
    simpa using h.symm
theorem and_zero {a b : Nat} : a &&& b = 0 ↔ ∀ i, a.testBit i = true → b.testBit i = true → False := by
  constructor
  · intro h i ha hb
    have := congrArg (fun x => x.testBit i) h
    simp [ha, hb] at this
  · intro h
    refine Nat.eq_of_testBit_eq fun i => ?_
    rw [Nat.testBit_and, Nat.zero_testBit]
    cases ha : a.testBit i <;> cases hb : b.testBit i <;> simp
    exact (h i ha hb)
/-- Two that are put, in either order. -/
theorem more_swap {l a b : List Fe} {s t : Fe} (h1 : stepL moreC l t = (0, a)) (h2 : stepL moreC a s = (0, b)) : ∃ a', stepL moreC l s = (0, a') ∧ stepL moreC a' t = (0, b) := by
  obtain ⟨t0, k, f, hk, hf, hm, hc, rfl⟩ := stepL_more h1
  have hsp : ∀ m c, spotsL (l.set k ⟨f.n, f.d, m, c⟩) = spotsL l := fun m c => spotsL_set hf rfl rfl
  obtain ⟨s0, j, g, hj, hg, gm, gc, rfl⟩ := stepL_more h2
  rw [hitL_spots (hsp _ _)] at hj
  have hkl := (List.getElem?_eq_some_iff.1 hf).1
  by_cases hkj : k = j
  · subst hkj
    rw [List.getElem?_set_self hkl] at hg
    obtain rfl := Option.some.inj hg
    simp only at gm gc ⊢
    have e1 : s.m &&& f.m = 0 := and_zero.2 fun i x y => and_zero.1 gm i x (by simp [y])
    refine ⟨_, more_stepL s0 hj hf e1 (by omega), ?_⟩
    rw [more_stepL (f := ⟨f.n, f.d, f.m ||| s.m, f.c + s.c⟩) t0 (by rw [hitL_spots (hsp _ _)]; exact hk) (List.getElem?_set_self hkl) (by
      refine and_zero.2 fun i x y => ?_
      simp only [Nat.testBit_or, Bool.or_eq_true] at y
      rcases y with y | y
      · exact and_zero.1 hm i x y
      · exact and_zero.1 gm i y (by simp [x])) (by simp only; omega)]
    rw [List.set_set, List.set_set]
    simp only
    rw [Nat.or_assoc, Nat.or_assoc, Nat.or_comm s.m t.m, show f.c + s.c + t.c = f.c + t.c + s.c by omega]
  · rw [List.getElem?_set_ne hkj] at hg
    refine ⟨_, more_stepL s0 hj hg gm gc, ?_⟩
    rw [more_stepL t0 (by rw [hitL_spots (spotsL_set (g := ⟨g.n, g.d, g.m ||| s.m, g.c + s.c⟩) hg rfl rfl)]; exact hk) (by rw [List.getElem?_set_ne (Ne.symm hkj)]; exact hf) hm hc, List.set_comm _ _ hkj]
theorem turnL_cons {ch : Fe → Fe → Int × Fe} {l l' : List Fe} {s : Fe} {ss : List Fe} (h : turnL ch l (s :: ss) = (0, l')) : ∃ a, stepL ch l s = (0, a) ∧ turnL ch a ss = (0, l') := by
  rw [turnL] at h
  by_cases h0 : (stepL ch l s).1 = 0
  · rw [if_pos h0] at h
    exact ⟨_, Prod.ext h0 rfl, h⟩
  · rw [if_neg h0] at h
    exact absurd (congrArg Prod.fst h) h0
theorem cons_turnL {ch : Fe → Fe → Int × Fe} {l l' a : List Fe} {s : Fe} {ss : List Fe} (h1 : stepL ch l s = (0, a)) (h2 : turnL ch a ss = (0, l')) : turnL ch l (s :: ss) = (0, l') := by
  rw [turnL, h1, if_pos rfl]
  exact h2
theorem more_past {s : Fe} : ∀ (ss : List Fe) {l a b : List Fe}, turnL moreC l ss = (0, a) → stepL moreC a s = (0, b) → turnL moreC l (s :: ss) = (0, b)
  | [], l, a, b, h1, h2 => by
    rw [turnL] at h1
    obtain rfl : l = a := congrArg Prod.snd h1
    exact cons_turnL h2 (by rw [turnL])
  | t :: ss, l, a, b, h1, h2 => by
    obtain ⟨x, hx, hx2⟩ := turnL_cons h1
    obtain ⟨y, hy, hy2⟩ := turnL_cons (more_past ss hx2 h2)
    obtain ⟨z, hz, hz2⟩ := more_swap hx hy
    exact cons_turnL hz (cons_turnL hz2 hy2)
/-- One that was taken off, put back. -/
theorem more_less {l l' : List Fe} {s : Fe} (hcs : ∀ f ∈ l, f.c ≤ 1048576) (h : stepL lessC l s = (0, l')) : stepL moreC l' s = (0, l) ∧ ∀ f ∈ l', f.c ≤ 1048576 := by
  obtain ⟨s0, k, f, hk, hf, hm, hc, rfl⟩ := stepL_less h
  have hkl := (List.getElem?_eq_some_iff.1 hf).1
  have hin : ∀ i, s.m.testBit i = true → f.m.testBit i = true := fun i hi => by
    have := congrArg (fun x => x.testBit i) hm
    simp only [MM.testBit_sub, Nat.zero_testBit, hi, Bool.true_and, Bool.not_eq_false'] at this
    exact this
  have hfc := hcs f (List.mem_of_getElem? hf)
  refine ⟨?_, fun g hg => ?_⟩
  · rw [more_stepL (f := ⟨f.n, f.d, MM.sub f.m s.m, f.c - s.c⟩) s0 (by rw [hitL_spots (spotsL_set (g := ⟨f.n, f.d, MM.sub f.m s.m, f.c - s.c⟩) hf rfl rfl)]; exact hk) (List.getElem?_set_self hkl) (by
      refine and_zero.2 fun i x y => ?_
      simp only [MM.testBit_sub, x] at y
      simp at y) (by simp only; omega), List.set_set]
    have e1 : MM.sub f.m s.m ||| s.m = f.m := Nat.eq_of_testBit_eq fun i => by
      rw [Nat.testBit_or, MM.testBit_sub]
      cases h1 : s.m.testBit i
      · simp
      · simp [hin i h1]
    simp only
    rw [e1, show f.c - s.c + s.c = f.c by omega]
    congr 1
    obtain ⟨_, rfl⟩ := List.getElem?_eq_some_iff.1 hf
    exact List.set_getElem_self hkl
  · rcases List.mem_or_eq_of_mem_set hg with hg | rfl
    · exact hcs g hg
    · simp only; omega
/-- All that was taken off, put back: the view. -/
theorem more_back : ∀ (ss : List Fe) {l l' : List Fe}, (∀ f ∈ l, f.c ≤ 1048576) → turnL lessC l ss = (0, l') → turnL moreC l' ss = (0, l)
  | [], l, l', _, h => by
    rw [turnL] at h ⊢
    obtain rfl : l = l' := congrArg Prod.snd h
    rfl
  | s :: ss, l, l', hcs, h => by
    obtain ⟨a, ha, ha2⟩ := turnL_cons h
    obtain ⟨h1, h2⟩ := more_less hcs ha
    exact more_past ss (more_back ss h2 ha2) h1
theorem run_field0 (W : World) (x y : Value) : (Instr.field 43 (.agg #[x, y]) 0).run Tryd.prog W = .ok x W := by
  kernel_rfl
set_option maxRecDepth 100000 in
set_option maxHeartbeats 16000000 in
theorem walk (a0 : Option Addr) (c0 : Nat) (l0 : List Fe) (g1 c1 mn1 mx1 : Int) (a2 : Int) (w : World) (v0 : Fes w w.heap.size a0 l0) (q0 : ∀ s ∈ l0, FeOk s) (lc0 : l0.length ≤ c0) (mc0 : c0 ≤ maxLen) (w1 : Shp.Wf ⟨g1, c1, mn1, mx1⟩) (w2 : (Lit.int .i64 a2).wf = true) (hT : Tab w) :
    Calls Tryd.prog 4 #[.slice a0 l0.length c0, .agg #[.int .i64 g1, .int .i64 c1, .int .i64 mn1, .int .i64 mx1], .int .i64 a2] w fun e w' => e = .returned (.bool true) ∧ Below w.heap.size w w' := by
  obtain ⟨S, hS⟩ : ∃ S : Shp, S = ⟨g1, c1, mn1, mx1⟩ := ⟨_, rfl⟩
  have e1 : g1 = S.g := by rw [hS]
  have e2 : c1 = S.c := by rw [hS]
  have e3 : mn1 = S.mn := by rw [hS]
  have e4 : mx1 = S.mx := by rw [hS]
  rw [← hS] at w1
  rw [e1, e2, e3, e4]
  clear hS e1 e2 e3 e4
  have HT := Lib.hid hT
  have hAw := Lib.hid (fun W (hT : Tab W) => awake_p W hT)
  have hFw := Lib.hid (fun W (hW : Below w.heap.size w W) => fewp_any a0 c0 W.heap.size l0 W (fes_up v0 (Nat.le_refl _) hW) (Nat.le_refl _) lc0)
  cases hv : viewL l0
  · rw [hv] at hFw
    obtain ⟨n0, hn0⟩ : ∃ n, l0.length = n := ⟨_, rfl⟩
    rw [hn0] at hFw ⊢
    clear hn0 hv v0 q0 lc0 w1 hT w2
    have HBel := Lib.hid (Below.refl w.heap.size w)
    have hlow : w.heap.size ≤ w.heap.size := Nat.le_refl _
    go_enter Tryd.func4, Tryd.ntmps4
    go_wp2_with fail
    obtain ⟨V1, hV1⟩ : ∃ W, W = w.alloc (.cells #[.int .i64 S.g, .int .i64 S.c, .int .i64 S.mn, .int .i64 S.mx] 24) := ⟨_, rfl⟩
    rw [← hV1]
    have hzV1 : V1.heap.size = w.heap.size + 1 := by rw [hV1]; simp
    replace HBel : Hid (Below w.heap.size w V1) := Lib.hid (by rw [hV1]; exact (HBel.out.alloc (hlow) _))
    have B_s : Hid (V1.heap[w.heap.size]? = some (.cells #[.int .i64 S.g, .int .i64 S.c, .int .i64 S.mn, .int .i64 S.mx] 24 (0, 0))) := Lib.hid (by
      have h9 := heap_alloc_new (w) (.cells #[.int .i64 S.g, .int .i64 S.c, .int .i64 S.mn, .int .i64 S.mx] 24)
      rw [hV1]; exact h9)
    obtain ⟨N_s, hN_s⟩ : ∃ N, N = w.heap.size := ⟨_, rfl⟩
    (try rw [← hN_s])
    rw [← hN_s] at B_s
    have l_s : N_s < V1.heap.size := by omega
    have g_s : w.heap.size ≤ N_s := by omega
    replace hlow : w.heap.size ≤ V1.heap.size := by omega
    clear hV1 hzV1 hN_s
    refine (hAw.out V1 (HT.out.below HBel.out HT.out.size)).mono ?_
    rintro e U2 ⟨rfl, hb9⟩
    have hs9 := hb9.size
    replace HBel := Lib.hid (HBel.out.trans (hb9.mono hlow))
    replace B_s : Hid (U2.heap[N_s]? = some (.cells #[.int .i64 S.g, .int .i64 S.c, .int .i64 S.mn, .int .i64 S.mx] 24 (0, 0))) := Lib.hid ((hb9.block _ l_s).trans B_s.out)
    replace l_s : N_s < U2.heap.size := by omega
    replace hlow : w.heap.size ≤ U2.heap.size := by omega
    clear hb9 hs9
    go_wp2_with fail
    refine (hFw.out U2 HBel.out).mono ?_
    rintro e U3 ⟨rfl, hb9⟩
    have hs9 := hb9.size
    replace HBel := Lib.hid (HBel.out.trans (hb9.mono hlow))
    replace B_s : Hid (U3.heap[N_s]? = some (.cells #[.int .i64 S.g, .int .i64 S.c, .int .i64 S.mn, .int .i64 S.mx] 24 (0, 0))) := Lib.hid ((hb9.block _ l_s).trans B_s.out)
    replace l_s : N_s < U3.heap.size := by omega
    replace hlow : w.heap.size ≤ U3.heap.size := by omega
    clear hb9 hs9
    go_wp2
    go_ret
    exact ⟨rfl, HBel.out⟩
  have hvv := hv
  unfold viewL at hvv
  rw [Bool.and_eq_true] at hvv
  have hlen : l0.length ≤ 70 := of_decide_eq_true hvv.1
  have hview := view_of_right q0 hvv.2
  obtain ⟨n0, hn0⟩ : ∃ n, l0.length = n := ⟨_, rfl⟩
  have H := Lib.hid (And.intro v0 (And.intro q0 (And.intro w1 (And.intro hT hn0))))
  rw [hv] at hFw
  rw [hn0] at hFw hlen lc0 ⊢
  obtain ⟨b1, b2⟩ := bounds_i64 w2
  have hRt := Lib.hid (fun W => show Calls Tryd.prog 17 #[.agg #[.int .i64 S.g, .int .i64 S.c, .int .i64 S.mn, .int .i64 S.mx]] W (fun e w' => e = .returned (.bool S.ok) ∧ Below W.heap.size W w') from refright_any S.g S.c S.mn S.mx W w1)
  cases hok : S.ok
  · rw [hok] at hRt
    clear hn0 hv hvv hview v0 q0 w1 hT w2 lc0 hok b1 b2
    have HBel := Lib.hid (Below.refl w.heap.size w)
    have hlow : w.heap.size ≤ w.heap.size := Nat.le_refl _
    go_enter Tryd.func4, Tryd.ntmps4
    go_wp2_with fail
    obtain ⟨V1, hV1⟩ : ∃ W, W = w.alloc (.cells #[.int .i64 S.g, .int .i64 S.c, .int .i64 S.mn, .int .i64 S.mx] 24) := ⟨_, rfl⟩
    rw [← hV1]
    have hzV1 : V1.heap.size = w.heap.size + 1 := by rw [hV1]; simp
    replace HBel : Hid (Below w.heap.size w V1) := Lib.hid (by rw [hV1]; exact (HBel.out.alloc (hlow) _))
    have B_s : Hid (V1.heap[w.heap.size]? = some (.cells #[.int .i64 S.g, .int .i64 S.c, .int .i64 S.mn, .int .i64 S.mx] 24 (0, 0))) := Lib.hid (by
      have h9 := heap_alloc_new (w) (.cells #[.int .i64 S.g, .int .i64 S.c, .int .i64 S.mn, .int .i64 S.mx] 24)
      rw [hV1]; exact h9)
    obtain ⟨N_s, hN_s⟩ : ∃ N, N = w.heap.size := ⟨_, rfl⟩
    (try rw [← hN_s])
    rw [← hN_s] at B_s
    have l_s : N_s < V1.heap.size := by omega
    have g_s : w.heap.size ≤ N_s := by omega
    replace hlow : w.heap.size ≤ V1.heap.size := by omega
    clear hV1 hzV1 hN_s
    refine (hAw.out V1 (HT.out.below HBel.out HT.out.size)).mono ?_
    rintro e U2 ⟨rfl, hb9⟩
    have hs9 := hb9.size
    replace HBel := Lib.hid (HBel.out.trans (hb9.mono hlow))
    replace B_s : Hid (U2.heap[N_s]? = some (.cells #[.int .i64 S.g, .int .i64 S.c, .int .i64 S.mn, .int .i64 S.mx] 24 (0, 0))) := Lib.hid ((hb9.block _ l_s).trans B_s.out)
    replace l_s : N_s < U2.heap.size := by omega
    replace hlow : w.heap.size ≤ U2.heap.size := by omega
    clear hb9 hs9
    go_wp2_with fail
    refine (hFw.out U2 HBel.out).mono ?_
    rintro e U3 ⟨rfl, hb9⟩
    have hs9 := hb9.size
    replace HBel := Lib.hid (HBel.out.trans (hb9.mono hlow))
    replace B_s : Hid (U3.heap[N_s]? = some (.cells #[.int .i64 S.g, .int .i64 S.c, .int .i64 S.mn, .int .i64 S.mx] 24 (0, 0))) := Lib.hid ((hb9.block _ l_s).trans B_s.out)
    replace l_s : N_s < U3.heap.size := by omega
    replace hlow : w.heap.size ≤ U3.heap.size := by omega
    clear hb9 hs9
    have s0 : U3.cell? ⟨N_s, 0, none⟩ = some (.int .i64 S.g) := cell_blk (i := 0) B_s.out rfl
    have s1 : U3.cell? ⟨N_s, 1, none⟩ = some (.int .i64 S.c) := cell_blk (i := 1) B_s.out rfl
    have s2 : U3.cell? ⟨N_s, 2, none⟩ = some (.int .i64 S.mn) := cell_blk (i := 2) B_s.out rfl
    have s3 : U3.cell? ⟨N_s, 3, none⟩ = some (.int .i64 S.mx) := cell_blk (i := 3) B_s.out rfl
    go_wp2_with fail
    refine (hRt.out U3).mono ?_
    rintro e U4 ⟨rfl, hb9⟩
    clear s0 s1 s2 s3
    have hs9 := hb9.size
    replace HBel := Lib.hid (HBel.out.trans (hb9.mono hlow))
    replace B_s : Hid (U4.heap[N_s]? = some (.cells #[.int .i64 S.g, .int .i64 S.c, .int .i64 S.mn, .int .i64 S.mx] 24 (0, 0))) := Lib.hid ((hb9.block _ l_s).trans B_s.out)
    replace l_s : N_s < U4.heap.size := by omega
    replace hlow : w.heap.size ≤ U4.heap.size := by omega
    clear hb9 hs9
    go_wp2
    go_ret
    exact ⟨rfl, HBel.out⟩
  rw [hok] at hRt
  by_cases hlo : a2 < 1
  · have t0 : decide (a2 < 1) = true := decide_eq_true hlo
    clear hn0 hv hvv hview v0 q0 w1 hT w2 lc0 hok b1 b2 hlo
    have HBel := Lib.hid (Below.refl w.heap.size w)
    have hlow : w.heap.size ≤ w.heap.size := Nat.le_refl _
    go_enter Tryd.func4, Tryd.ntmps4
    go_wp2_with fail
    obtain ⟨V1, hV1⟩ : ∃ W, W = w.alloc (.cells #[.int .i64 S.g, .int .i64 S.c, .int .i64 S.mn, .int .i64 S.mx] 24) := ⟨_, rfl⟩
    rw [← hV1]
    have hzV1 : V1.heap.size = w.heap.size + 1 := by rw [hV1]; simp
    replace HBel : Hid (Below w.heap.size w V1) := Lib.hid (by rw [hV1]; exact (HBel.out.alloc (hlow) _))
    have B_s : Hid (V1.heap[w.heap.size]? = some (.cells #[.int .i64 S.g, .int .i64 S.c, .int .i64 S.mn, .int .i64 S.mx] 24 (0, 0))) := Lib.hid (by
      have h9 := heap_alloc_new (w) (.cells #[.int .i64 S.g, .int .i64 S.c, .int .i64 S.mn, .int .i64 S.mx] 24)
      rw [hV1]; exact h9)
    obtain ⟨N_s, hN_s⟩ : ∃ N, N = w.heap.size := ⟨_, rfl⟩
    (try rw [← hN_s])
    rw [← hN_s] at B_s
    have l_s : N_s < V1.heap.size := by omega
    have g_s : w.heap.size ≤ N_s := by omega
    replace hlow : w.heap.size ≤ V1.heap.size := by omega
    clear hV1 hzV1 hN_s
    refine (hAw.out V1 (HT.out.below HBel.out HT.out.size)).mono ?_
    rintro e U2 ⟨rfl, hb9⟩
    have hs9 := hb9.size
    replace HBel := Lib.hid (HBel.out.trans (hb9.mono hlow))
    replace B_s : Hid (U2.heap[N_s]? = some (.cells #[.int .i64 S.g, .int .i64 S.c, .int .i64 S.mn, .int .i64 S.mx] 24 (0, 0))) := Lib.hid ((hb9.block _ l_s).trans B_s.out)
    replace l_s : N_s < U2.heap.size := by omega
    replace hlow : w.heap.size ≤ U2.heap.size := by omega
    clear hb9 hs9
    go_wp2_with fail
    refine (hFw.out U2 HBel.out).mono ?_
    rintro e U3 ⟨rfl, hb9⟩
    have hs9 := hb9.size
    replace HBel := Lib.hid (HBel.out.trans (hb9.mono hlow))
    replace B_s : Hid (U3.heap[N_s]? = some (.cells #[.int .i64 S.g, .int .i64 S.c, .int .i64 S.mn, .int .i64 S.mx] 24 (0, 0))) := Lib.hid ((hb9.block _ l_s).trans B_s.out)
    replace l_s : N_s < U3.heap.size := by omega
    replace hlow : w.heap.size ≤ U3.heap.size := by omega
    clear hb9 hs9
    have s0 : U3.cell? ⟨N_s, 0, none⟩ = some (.int .i64 S.g) := cell_blk (i := 0) B_s.out rfl
    have s1 : U3.cell? ⟨N_s, 1, none⟩ = some (.int .i64 S.c) := cell_blk (i := 1) B_s.out rfl
    have s2 : U3.cell? ⟨N_s, 2, none⟩ = some (.int .i64 S.mn) := cell_blk (i := 2) B_s.out rfl
    have s3 : U3.cell? ⟨N_s, 3, none⟩ = some (.int .i64 S.mx) := cell_blk (i := 3) B_s.out rfl
    go_wp2_with fail
    refine (hRt.out U3).mono ?_
    rintro e U4 ⟨rfl, hb9⟩
    clear s0 s1 s2 s3
    have hs9 := hb9.size
    replace HBel := Lib.hid (HBel.out.trans (hb9.mono hlow))
    replace B_s : Hid (U4.heap[N_s]? = some (.cells #[.int .i64 S.g, .int .i64 S.c, .int .i64 S.mn, .int .i64 S.mx] 24 (0, 0))) := Lib.hid ((hb9.block _ l_s).trans B_s.out)
    replace l_s : N_s < U4.heap.size := by omega
    replace hlow : w.heap.size ≤ U4.heap.size := by omega
    clear hb9 hs9
    go_wp2
    go_ret
    exact ⟨rfl, HBel.out⟩
  have t0 : decide (a2 < 1) = false := decide_eq_false hlo
  by_cases hhi : 16 < a2
  · have t1 : decide (16 < a2) = true := decide_eq_true hhi
    clear hn0 hv hvv hview v0 q0 w1 hT w2 lc0 hok b1 b2 hlo hhi
    have HBel := Lib.hid (Below.refl w.heap.size w)
    have hlow : w.heap.size ≤ w.heap.size := Nat.le_refl _
    go_enter Tryd.func4, Tryd.ntmps4
    go_wp2_with fail
    obtain ⟨V1, hV1⟩ : ∃ W, W = w.alloc (.cells #[.int .i64 S.g, .int .i64 S.c, .int .i64 S.mn, .int .i64 S.mx] 24) := ⟨_, rfl⟩
    rw [← hV1]
    have hzV1 : V1.heap.size = w.heap.size + 1 := by rw [hV1]; simp
    replace HBel : Hid (Below w.heap.size w V1) := Lib.hid (by rw [hV1]; exact (HBel.out.alloc (hlow) _))
    have B_s : Hid (V1.heap[w.heap.size]? = some (.cells #[.int .i64 S.g, .int .i64 S.c, .int .i64 S.mn, .int .i64 S.mx] 24 (0, 0))) := Lib.hid (by
      have h9 := heap_alloc_new (w) (.cells #[.int .i64 S.g, .int .i64 S.c, .int .i64 S.mn, .int .i64 S.mx] 24)
      rw [hV1]; exact h9)
    obtain ⟨N_s, hN_s⟩ : ∃ N, N = w.heap.size := ⟨_, rfl⟩
    (try rw [← hN_s])
    rw [← hN_s] at B_s
    have l_s : N_s < V1.heap.size := by omega
    have g_s : w.heap.size ≤ N_s := by omega
    replace hlow : w.heap.size ≤ V1.heap.size := by omega
    clear hV1 hzV1 hN_s
    refine (hAw.out V1 (HT.out.below HBel.out HT.out.size)).mono ?_
    rintro e U2 ⟨rfl, hb9⟩
    have hs9 := hb9.size
    replace HBel := Lib.hid (HBel.out.trans (hb9.mono hlow))
    replace B_s : Hid (U2.heap[N_s]? = some (.cells #[.int .i64 S.g, .int .i64 S.c, .int .i64 S.mn, .int .i64 S.mx] 24 (0, 0))) := Lib.hid ((hb9.block _ l_s).trans B_s.out)
    replace l_s : N_s < U2.heap.size := by omega
    replace hlow : w.heap.size ≤ U2.heap.size := by omega
    clear hb9 hs9
    go_wp2_with fail
    refine (hFw.out U2 HBel.out).mono ?_
    rintro e U3 ⟨rfl, hb9⟩
    have hs9 := hb9.size
    replace HBel := Lib.hid (HBel.out.trans (hb9.mono hlow))
    replace B_s : Hid (U3.heap[N_s]? = some (.cells #[.int .i64 S.g, .int .i64 S.c, .int .i64 S.mn, .int .i64 S.mx] 24 (0, 0))) := Lib.hid ((hb9.block _ l_s).trans B_s.out)
    replace l_s : N_s < U3.heap.size := by omega
    replace hlow : w.heap.size ≤ U3.heap.size := by omega
    clear hb9 hs9
    have s0 : U3.cell? ⟨N_s, 0, none⟩ = some (.int .i64 S.g) := cell_blk (i := 0) B_s.out rfl
    have s1 : U3.cell? ⟨N_s, 1, none⟩ = some (.int .i64 S.c) := cell_blk (i := 1) B_s.out rfl
    have s2 : U3.cell? ⟨N_s, 2, none⟩ = some (.int .i64 S.mn) := cell_blk (i := 2) B_s.out rfl
    have s3 : U3.cell? ⟨N_s, 3, none⟩ = some (.int .i64 S.mx) := cell_blk (i := 3) B_s.out rfl
    go_wp2_with fail
    refine (hRt.out U3).mono ?_
    rintro e U4 ⟨rfl, hb9⟩
    clear s0 s1 s2 s3
    have hs9 := hb9.size
    replace HBel := Lib.hid (HBel.out.trans (hb9.mono hlow))
    replace B_s : Hid (U4.heap[N_s]? = some (.cells #[.int .i64 S.g, .int .i64 S.c, .int .i64 S.mn, .int .i64 S.mx] 24 (0, 0))) := Lib.hid ((hb9.block _ l_s).trans B_s.out)
    replace l_s : N_s < U4.heap.size := by omega
    replace hlow : w.heap.size ≤ U4.heap.size := by omega
    clear hb9 hs9
    go_wp2
    go_ret
    exact ⟨rfl, HBel.out⟩
  have t1 : decide (16 < a2) = false := decide_eq_false hhi
  obtain ⟨p, rfl⟩ : ∃ p : Nat, a2 = p := ⟨a2.toNat, by omega⟩
  have hp16 : p ≤ 16 := by omega
  have hp1 : 1 ≤ p := by omega
  have hr16 := roomF_le S l0
  rw [hn0] at hr16
  obtain ⟨r, hr⟩ : ∃ r, r = roomF S l0 := ⟨_, rfl⟩
  rw [← hr] at hr16
  have cR := Lib.hid (fun W (hW : Below w.heap.size w W) => show Calls Tryd.prog 14 #[.slice a0 n0 c0, .agg #[.int .i64 S.g, .int .i64 S.c, .int .i64 S.mn, .int .i64 S.mx]] W (fun e w' => e = .returned (.int .i64 (r : Nat)) ∧ Below W.heap.size W w') from (by
    have h9 := room_any a0 c0 W.heap.size l0 S W (fes_up H.out.1 (Nat.le_refl _) hW) (Nat.le_refl _) (by omega) H.out.2.2.1 H.out.2.1 (H.out.2.2.2.1.below hW H.out.2.2.2.1.size)
    rw [hn0, ← hr] at h9; exact h9))
  by_cases hfull : roomF S l0 < p
  · have hP := Lib.hid (fun W (hW : Below w.heap.size w W) => show Calls Tryd.prog 12 #[.slice a0 n0 c0, .agg #[.int .i64 S.g, .int .i64 S.c, .int .i64 S.mn, .int .i64 S.mx], .int .i64 (p : Nat)] W (fun e w' => e = .returned (.tuple #[.slice none 0 0, .int .i64 7]) ∧ Below W.heap.size W w') from (by
      have h9 := place_full a0 c0 W.heap.size l0 S p W (fes_up H.out.1 (Nat.le_refl _) hW) (Nat.le_refl _) (by omega) H.out.2.2.1 H.out.2.1 (H.out.2.2.2.1.below hW H.out.2.2.2.1.size) hok (by omega) (by omega) (by omega)
      rw [hn0] at h9; exact h9))
    have t2 : decide (r < p) = true := decide_eq_true (by omega)
    clear hn0 hv hvv hview v0 q0 w1 hT w2 lc0 hok b1 b2 hlo hhi hfull hr
    have HBel := Lib.hid (Below.refl w.heap.size w)
    have hlow : w.heap.size ≤ w.heap.size := Nat.le_refl _
    go_enter Tryd.func4, Tryd.ntmps4
    go_wp2_with fail
    obtain ⟨V1, hV1⟩ : ∃ W, W = w.alloc (.cells #[.int .i64 S.g, .int .i64 S.c, .int .i64 S.mn, .int .i64 S.mx] 24) := ⟨_, rfl⟩
    rw [← hV1]
    have hzV1 : V1.heap.size = w.heap.size + 1 := by rw [hV1]; simp
    replace HBel : Hid (Below w.heap.size w V1) := Lib.hid (by rw [hV1]; exact (HBel.out.alloc (hlow) _))
    have B_s : Hid (V1.heap[w.heap.size]? = some (.cells #[.int .i64 S.g, .int .i64 S.c, .int .i64 S.mn, .int .i64 S.mx] 24 (0, 0))) := Lib.hid (by
      have h9 := heap_alloc_new (w) (.cells #[.int .i64 S.g, .int .i64 S.c, .int .i64 S.mn, .int .i64 S.mx] 24)
      rw [hV1]; exact h9)
    obtain ⟨N_s, hN_s⟩ : ∃ N, N = w.heap.size := ⟨_, rfl⟩
    (try rw [← hN_s])
    rw [← hN_s] at B_s
    have l_s : N_s < V1.heap.size := by omega
    have g_s : w.heap.size ≤ N_s := by omega
    replace hlow : w.heap.size ≤ V1.heap.size := by omega
    clear hV1 hzV1 hN_s
    refine (hAw.out V1 (HT.out.below HBel.out HT.out.size)).mono ?_
    rintro e U2 ⟨rfl, hb9⟩
    have hs9 := hb9.size
    replace HBel := Lib.hid (HBel.out.trans (hb9.mono hlow))
    replace B_s : Hid (U2.heap[N_s]? = some (.cells #[.int .i64 S.g, .int .i64 S.c, .int .i64 S.mn, .int .i64 S.mx] 24 (0, 0))) := Lib.hid ((hb9.block _ l_s).trans B_s.out)
    replace l_s : N_s < U2.heap.size := by omega
    replace hlow : w.heap.size ≤ U2.heap.size := by omega
    clear hb9 hs9
    go_wp2_with fail
    refine (hFw.out U2 HBel.out).mono ?_
    rintro e U3 ⟨rfl, hb9⟩
    have hs9 := hb9.size
    replace HBel := Lib.hid (HBel.out.trans (hb9.mono hlow))
    replace B_s : Hid (U3.heap[N_s]? = some (.cells #[.int .i64 S.g, .int .i64 S.c, .int .i64 S.mn, .int .i64 S.mx] 24 (0, 0))) := Lib.hid ((hb9.block _ l_s).trans B_s.out)
    replace l_s : N_s < U3.heap.size := by omega
    replace hlow : w.heap.size ≤ U3.heap.size := by omega
    clear hb9 hs9
    have s0 : U3.cell? ⟨N_s, 0, none⟩ = some (.int .i64 S.g) := cell_blk (i := 0) B_s.out rfl
    have s1 : U3.cell? ⟨N_s, 1, none⟩ = some (.int .i64 S.c) := cell_blk (i := 1) B_s.out rfl
    have s2 : U3.cell? ⟨N_s, 2, none⟩ = some (.int .i64 S.mn) := cell_blk (i := 2) B_s.out rfl
    have s3 : U3.cell? ⟨N_s, 3, none⟩ = some (.int .i64 S.mx) := cell_blk (i := 3) B_s.out rfl
    go_wp2_with fail
    refine (hRt.out U3).mono ?_
    rintro e U4 ⟨rfl, hb9⟩
    clear s0 s1 s2 s3
    have hs9 := hb9.size
    replace HBel := Lib.hid (HBel.out.trans (hb9.mono hlow))
    replace B_s : Hid (U4.heap[N_s]? = some (.cells #[.int .i64 S.g, .int .i64 S.c, .int .i64 S.mn, .int .i64 S.mx] 24 (0, 0))) := Lib.hid ((hb9.block _ l_s).trans B_s.out)
    replace l_s : N_s < U4.heap.size := by omega
    replace hlow : w.heap.size ≤ U4.heap.size := by omega
    clear hb9 hs9
    have s0 : U4.cell? ⟨N_s, 0, none⟩ = some (.int .i64 S.g) := cell_blk (i := 0) B_s.out rfl
    have s1 : U4.cell? ⟨N_s, 1, none⟩ = some (.int .i64 S.c) := cell_blk (i := 1) B_s.out rfl
    have s2 : U4.cell? ⟨N_s, 2, none⟩ = some (.int .i64 S.mn) := cell_blk (i := 2) B_s.out rfl
    have s3 : U4.cell? ⟨N_s, 3, none⟩ = some (.int .i64 S.mx) := cell_blk (i := 3) B_s.out rfl
    go_wp2_with fail
    refine (cR.out U4 HBel.out).mono ?_
    rintro e U5 ⟨rfl, hb9⟩
    clear s0 s1 s2 s3
    have hs9 := hb9.size
    replace HBel := Lib.hid (HBel.out.trans (hb9.mono hlow))
    replace B_s : Hid (U5.heap[N_s]? = some (.cells #[.int .i64 S.g, .int .i64 S.c, .int .i64 S.mn, .int .i64 S.mx] 24 (0, 0))) := Lib.hid ((hb9.block _ l_s).trans B_s.out)
    replace l_s : N_s < U5.heap.size := by omega
    replace hlow : w.heap.size ≤ U5.heap.size := by omega
    clear hb9 hs9
    have s0 : U5.cell? ⟨N_s, 0, none⟩ = some (.int .i64 S.g) := cell_blk (i := 0) B_s.out rfl
    have s1 : U5.cell? ⟨N_s, 1, none⟩ = some (.int .i64 S.c) := cell_blk (i := 1) B_s.out rfl
    have s2 : U5.cell? ⟨N_s, 2, none⟩ = some (.int .i64 S.mn) := cell_blk (i := 2) B_s.out rfl
    have s3 : U5.cell? ⟨N_s, 3, none⟩ = some (.int .i64 S.mx) := cell_blk (i := 3) B_s.out rfl
    go_wp2_with fail
    refine (hP.out U5 HBel.out).mono ?_
    rintro e U6 ⟨rfl, hb9⟩
    clear s0 s1 s2 s3
    have hs9 := hb9.size
    replace HBel := Lib.hid (HBel.out.trans (hb9.mono hlow))
    replace B_s : Hid (U6.heap[N_s]? = some (.cells #[.int .i64 S.g, .int .i64 S.c, .int .i64 S.mn, .int .i64 S.mx] 24 (0, 0))) := Lib.hid ((hb9.block _ l_s).trans B_s.out)
    replace l_s : N_s < U6.heap.size := by omega
    replace hlow : w.heap.size ≤ U6.heap.size := by omega
    clear hb9 hs9
    go_wp2
    go_ret
    exact ⟨rfl, HBel.out⟩
  have hP := Lib.hid (fun W (hW : Below w.heap.size w W) => show Calls Tryd.prog 12 #[.slice a0 n0 c0, .agg #[.int .i64 S.g, .int .i64 S.c, .int .i64 S.mn, .int .i64 S.mx], .int .i64 (p : Nat)] W (fun e w' => ∃ b off cap', e = .returned (.tuple #[.slice (some ⟨b, off, none⟩) (p) cap', .int .i64 0]) ∧ p ≤ cap' ∧ Below W.heap.size W w' ∧ Hid (Fes w' w'.heap.size (some ⟨b, off, none⟩) (placeF S l0 (p)))) from (by
    have h9 := place_row a0 c0 W.heap.size l0 S (p) W (fes_up H.out.1 (Nat.le_refl _) hW) (Nat.le_refl _) (by omega) H.out.2.2.1 H.out.2.1 (H.out.2.2.2.1.below hW H.out.2.2.2.1.size) hok (by omega) (by omega) (by omega)
    rw [hn0] at h9; exact h9))
  have t2 : decide (r < p) = false := decide_eq_false (by omega)
  have t3 : ((p : Int) != (p : Int)) = false := by simp
  have hpl : (placeF S l0 p).length = p := placeF_len (by omega)
  obtain ⟨l1, hl1, hsp1, hle1, _⟩ := less_placeF (S := S) (l := l0) (p := p) hview.one
  have hl1n : l1.length = n0 := by have := congrArg List.length hsp1; unfold spotsL at this; rw [List.length_map, List.length_map] at this; rw [this, hn0]
  have hback := more_back (placeF S l0 p) (fun f hf => (hview.ok f hf).2.2) hl1
  obtain ⟨b, off, rfl, hb, hc⟩ : ∃ b off, a0 = some ⟨b, off, none⟩ ∧ b < w.heap.size ∧ ∀ (i : Nat) (x : Fe), l0[i]? = some x → FeAt w b (off + i * 4) x := by
    rcases v0 with h | h
    · rw [h] at hfull; exact absurd (show roomF S [] < p by show 0 < p; omega) hfull
    · exact h
  have hl0 : 0 < n0 := by
    rcases Nat.eq_zero_or_pos n0 with h | h
    · have : l0 = [] := List.length_eq_zero_iff.1 (by omega)
      rw [this] at hfull; exact absurd (show roomF S [] < p by show 0 < p; omega) hfull
    · exact h
  have hpo : ∀ s ∈ placeF S l0 p, FeOk s ∧ MM.cnt s.m = S.g.toNat ∧ s.c = S.c := placeL_ok w1 q0 _ _
  have hLs := Lib.hid (fun (x1 o1 k1 : Nat) W (h : Fes W W.heap.size (some ⟨x1, o1, none⟩) (placeF S l0 p)) (hW : Below w.heap.size w W) => show Calls Tryd.prog 19 #[.slice (some ⟨b, off, none⟩) n0 c0, .slice (some ⟨x1, o1, none⟩) p k1] W (fun e w' => ∃ g cap', e = .returned (.tuple #[.slice (some ⟨g, 0, none⟩) n0 cap', .int .i64 0]) ∧ Below W.heap.size W w' ∧ Hid (Fes w' w'.heap.size (some ⟨g, 0, none⟩) l1 ∧ View l1)) from (by
    have h9 := less_any b off c0 (some ⟨x1, o1, none⟩) k1 l0 (placeF S l0 p) W (fun i x hx => (hc i x hx).keep (B := w.heap.size) hb hW) (by have := hW.size; omega) (by omega) (by omega) hview h (fun s hs => (hpo s hs).1) (by omega)
    rw [hn0, hpl] at h9
    refine h9.mono ?_
    rintro e w' ⟨hb9, h1, _⟩
    rw [hl1] at h1
    obtain ⟨g, cap', he, hf⟩ := h1 rfl
    exact ⟨g, cap', he, hb9, Lib.hid ⟨hf.out.1, hf.out.2.2⟩⟩))
  have hMo := Lib.hid (fun (x1 o1 k1 g2 k2 : Nat) W (h : Fes W W.heap.size (some ⟨x1, o1, none⟩) (placeF S l0 p)) (hf : Fes W W.heap.size (some ⟨g2, 0, none⟩) l1) (hv1 : View l1) => show Calls Tryd.prog 20 #[.slice (some ⟨g2, 0, none⟩) n0 k2, .slice (some ⟨x1, o1, none⟩) p k1] W (fun e w' => ∃ g cap', e = .returned (.tuple #[.slice (some ⟨g, 0, none⟩) n0 cap', .int .i64 0]) ∧ Below W.heap.size W w' ∧ Hid (Fes w' w'.heap.size (some ⟨g, 0, none⟩) l0)) from (by
    obtain ⟨b', off', e', hb', hc'⟩ : ∃ b off, (some ⟨g2, 0, none⟩ : Option Addr) = some ⟨b, off, none⟩ ∧ b < W.heap.size ∧ ∀ (i : Nat) (x : Fe), l1[i]? = some x → FeAt W b (off + i * 4) x := by
      rcases hf with h | h
      · rw [h] at hl1n; simp at hl1n; omega
      · exact h
    rw [e']
    have h9 := more_any b' off' k2 (some ⟨x1, o1, none⟩) k1 l1 (placeF S l0 p) W hc' hb' (by omega) (by omega) hv1 h (fun s hs => (hpo s hs).1) (by omega)
    rw [hl1n, hpl] at h9
    refine h9.mono ?_
    rintro e w' ⟨hb9, h1, _⟩
    rw [hback] at h1
    obtain ⟨g, cap', he, hf⟩ := h1 rfl
    exact ⟨g, cap', he, hb9, Lib.hid hf.out.1⟩))
  have hSf := Lib.hid (fun (g3 k3 : Nat) W (h : Fes W W.heap.size (some ⟨g3, 0, none⟩) l0) (hW : Below w.heap.size w W) => show Calls Tryd.prog 21 #[.slice (some ⟨g3, 0, none⟩) n0 k3, .slice (some ⟨b, off, none⟩) n0 c0] W (fun e w' => e = .returned (.bool true) ∧ Below W.heap.size W w') from (by
    have h9 := same_frees (some ⟨g3, 0, none⟩) (some ⟨b, off, none⟩) k3 c0 W.heap.size l0 W h (fes_up H.out.1 (Nat.le_refl _) hW) (by omega)
    rw [hn0] at h9; exact h9))
  obtain ⟨r1, hr1⟩ : ∃ r, r = roomF S l1 := ⟨_, rfl⟩
  rw [← hr1] at hle1
  rw [← hr] at hle1
  have cR1 := Lib.hid (fun (g cap' : Nat) W (h : Fes W W.heap.size (some ⟨g, 0, none⟩) l1) (hv1 : View l1) (hW : Below w.heap.size w W) => show Calls Tryd.prog 14 #[.slice (some ⟨g, 0, none⟩) n0 cap', .agg #[.int .i64 S.g, .int .i64 S.c, .int .i64 S.mn, .int .i64 S.mx]] W (fun e w' => e = .returned (.int .i64 (r1 : Nat)) ∧ Below W.heap.size W w') from (by
    have h9 := room_any (some ⟨g, 0, none⟩) cap' W.heap.size l1 S W h (Nat.le_refl _) (by omega) H.out.2.2.1 (fun f hf => (hv1.ok f hf).1) (H.out.2.2.2.1.below hW H.out.2.2.2.1.size)
    rw [hl1n, ← hr1] at h9; exact h9))
  have hg0 : 0 ≤ S.g := by obtain ⟨g, c, e1, _⟩ := Shp.nat hok; rw [e1]; omega
  have hCt := Lib.hid (fun (bb m : Nat) W (hm : m < 18446744073709551616) (hg : MM.cnt m = S.g.toNat) (hblk : W.heap[bb]? = some (.cells #[.int .i64 0, .int .i64 0, .int .u64 (m : Nat), .int .i64 0] 45 (0, 0))) => show Calls Tryd.prog 18 #[.slice (some ⟨bb, 0, none⟩) 1 1] W (fun e w' => e = .returned (.agg #[.int .i64 S.g, .int .i64 0]) ∧ Below W.heap.size W w') from (by
    have h9 := refcount_some bb 0 1 1 W.heap.size [⟨0, 0, m, 0⟩] W rfl (blk_lt hblk) (Nat.le_refl _) (fun i x hx => by
      cases i with
      | zero =>
        simp at hx; subst hx
        exact ⟨cell_blk (i := 0) hblk rfl, cell_blk (i := 1) hblk rfl, cell_blk (i := 2) hblk rfl, cell_blk (i := 3) hblk rfl⟩
      | succ i => simp at hx) (by omega) (fun f hf => by simp at hf; subst hf; exact ⟨hm, by simp⟩)
    refine h9.mono ?_
    rintro e w' ⟨he, hb⟩
    refine ⟨?_, hb⟩
    rw [he]
    have : ((MM.cnt m : Nat) : Int) = S.g := by rw [hg]; omega
    simp [gsum, csum, this]))
  have hrb : r ≤ 2000 := by omega
  have hPO := Lib.hid hpo
  have HPL := Lib.hid hpl
  clear hn0 hv hvv hview v0 q0 w1 hT w2 hr lc0 b1 b2 hlo hhi hfull hok hl1 hsp1 hl1n hpl hr1 hc hback hpo hg0
  have HBel := Lib.hid (Below.refl w.heap.size w)
  have hlow : w.heap.size ≤ w.heap.size := Nat.le_refl _
  go_enter Tryd.func4, Tryd.ntmps4
  go_wp2_with fail
  obtain ⟨V1, hV1⟩ : ∃ W, W = w.alloc (.cells #[.int .i64 S.g, .int .i64 S.c, .int .i64 S.mn, .int .i64 S.mx] 24) := ⟨_, rfl⟩
  rw [← hV1]
  have hzV1 : V1.heap.size = w.heap.size + 1 := by rw [hV1]; simp
  replace HBel : Hid (Below w.heap.size w V1) := Lib.hid (by rw [hV1]; exact (HBel.out.alloc (hlow) _))
  have B_s : Hid (V1.heap[w.heap.size]? = some (.cells #[.int .i64 S.g, .int .i64 S.c, .int .i64 S.mn, .int .i64 S.mx] 24 (0, 0))) := Lib.hid (by
    have h9 := heap_alloc_new (w) (.cells #[.int .i64 S.g, .int .i64 S.c, .int .i64 S.mn, .int .i64 S.mx] 24)
    rw [hV1]; exact h9)
  obtain ⟨N_s, hN_s⟩ : ∃ N, N = w.heap.size := ⟨_, rfl⟩
  (try rw [← hN_s])
  rw [← hN_s] at B_s
  have l_s : N_s < V1.heap.size := by omega
  have g_s : w.heap.size ≤ N_s := by omega
  replace hlow : w.heap.size ≤ V1.heap.size := by omega
  clear hV1 hzV1 hN_s
  refine (hAw.out V1 (HT.out.below HBel.out HT.out.size)).mono ?_
  rintro e U2 ⟨rfl, hb9⟩
  have hs9 := hb9.size
  replace HBel := Lib.hid (HBel.out.trans (hb9.mono hlow))
  replace B_s : Hid (U2.heap[N_s]? = some (.cells #[.int .i64 S.g, .int .i64 S.c, .int .i64 S.mn, .int .i64 S.mx] 24 (0, 0))) := Lib.hid ((hb9.block _ l_s).trans B_s.out)
  replace l_s : N_s < U2.heap.size := by omega
  replace hlow : w.heap.size ≤ U2.heap.size := by omega
  clear hb9 hs9
  go_wp2_with fail
  refine (hFw.out U2 HBel.out).mono ?_
  rintro e U3 ⟨rfl, hb9⟩
  have hs9 := hb9.size
  replace HBel := Lib.hid (HBel.out.trans (hb9.mono hlow))
  replace B_s : Hid (U3.heap[N_s]? = some (.cells #[.int .i64 S.g, .int .i64 S.c, .int .i64 S.mn, .int .i64 S.mx] 24 (0, 0))) := Lib.hid ((hb9.block _ l_s).trans B_s.out)
  replace l_s : N_s < U3.heap.size := by omega
  replace hlow : w.heap.size ≤ U3.heap.size := by omega
  clear hb9 hs9
  have s0 : U3.cell? ⟨N_s, 0, none⟩ = some (.int .i64 S.g) := cell_blk (i := 0) B_s.out rfl
  have s1 : U3.cell? ⟨N_s, 1, none⟩ = some (.int .i64 S.c) := cell_blk (i := 1) B_s.out rfl
  have s2 : U3.cell? ⟨N_s, 2, none⟩ = some (.int .i64 S.mn) := cell_blk (i := 2) B_s.out rfl
  have s3 : U3.cell? ⟨N_s, 3, none⟩ = some (.int .i64 S.mx) := cell_blk (i := 3) B_s.out rfl
  go_wp2_with fail
  refine (hRt.out U3).mono ?_
  rintro e U4 ⟨rfl, hb9⟩
  clear s0 s1 s2 s3
  have hs9 := hb9.size
  replace HBel := Lib.hid (HBel.out.trans (hb9.mono hlow))
  replace B_s : Hid (U4.heap[N_s]? = some (.cells #[.int .i64 S.g, .int .i64 S.c, .int .i64 S.mn, .int .i64 S.mx] 24 (0, 0))) := Lib.hid ((hb9.block _ l_s).trans B_s.out)
  replace l_s : N_s < U4.heap.size := by omega
  replace hlow : w.heap.size ≤ U4.heap.size := by omega
  clear hb9 hs9
  have s0 : U4.cell? ⟨N_s, 0, none⟩ = some (.int .i64 S.g) := cell_blk (i := 0) B_s.out rfl
  have s1 : U4.cell? ⟨N_s, 1, none⟩ = some (.int .i64 S.c) := cell_blk (i := 1) B_s.out rfl
  have s2 : U4.cell? ⟨N_s, 2, none⟩ = some (.int .i64 S.mn) := cell_blk (i := 2) B_s.out rfl
  have s3 : U4.cell? ⟨N_s, 3, none⟩ = some (.int .i64 S.mx) := cell_blk (i := 3) B_s.out rfl
  go_wp2_with fail
  refine (cR.out U4 HBel.out).mono ?_
  rintro e U5 ⟨rfl, hb9⟩
  clear s0 s1 s2 s3
  have hs9 := hb9.size
  replace HBel := Lib.hid (HBel.out.trans (hb9.mono hlow))
  replace B_s : Hid (U5.heap[N_s]? = some (.cells #[.int .i64 S.g, .int .i64 S.c, .int .i64 S.mn, .int .i64 S.mx] 24 (0, 0))) := Lib.hid ((hb9.block _ l_s).trans B_s.out)
  replace l_s : N_s < U5.heap.size := by omega
  replace hlow : w.heap.size ≤ U5.heap.size := by omega
  clear hb9 hs9
  have s0 : U5.cell? ⟨N_s, 0, none⟩ = some (.int .i64 S.g) := cell_blk (i := 0) B_s.out rfl
  have s1 : U5.cell? ⟨N_s, 1, none⟩ = some (.int .i64 S.c) := cell_blk (i := 1) B_s.out rfl
  have s2 : U5.cell? ⟨N_s, 2, none⟩ = some (.int .i64 S.mn) := cell_blk (i := 2) B_s.out rfl
  have s3 : U5.cell? ⟨N_s, 3, none⟩ = some (.int .i64 S.mx) := cell_blk (i := 3) B_s.out rfl
  go_wp2_with fail
  refine (hP.out U5 HBel.out).mono ?_
  rintro e U6 ⟨x1, o1, k1, rfl, hk1, hb9, hz1⟩
  clear s0 s1 s2 s3
  have hs9 := hb9.size
  replace HBel := Lib.hid (HBel.out.trans (hb9.mono hlow))
  replace B_s : Hid (U6.heap[N_s]? = some (.cells #[.int .i64 S.g, .int .i64 S.c, .int .i64 S.mn, .int .i64 S.mx] 24 (0, 0))) := Lib.hid ((hb9.block _ l_s).trans B_s.out)
  replace l_s : N_s < U6.heap.size := by omega
  replace hlow : w.heap.size ≤ U6.heap.size := by omega
  clear hb9 hs9
  go_wp2_with fail
  go_loopw [10] (fun i wr => ∃ k : Nat, i = .int .i64 k ∧ k ≤ p ∧ Hid (Below U6.heap.size U6 wr)) (fun i _ => p - (intOf i).toNat)
  case atStart => exact ⟨0, rfl, Nat.zero_le _, Lib.hid (Below.refl _ _)⟩
  case round =>
    obtain ⟨k, rfl, hk, hB⟩ := hrel
    have hBs := hB.out.size
    have B_s2 : Hid (wr.heap[N_s]? = some (.cells #[.int .i64 S.g, .int .i64 S.c, .int .i64 S.mn, .int .i64 S.mx] 24 (0, 0))) := Lib.hid ((hB.out.block _ l_s).trans B_s.out)
    have l_s2 : N_s < wr.heap.size := by omega
    by_cases hlt : k < p
    · obtain ⟨s, hx⟩ := get_lt (l := placeF S l0 p) (k := k) (by rw [HPL.out]; exact hlt)
      obtain ⟨x2, o2, he, hb, hc⟩ := hz1.out.at_ hx
      have hex : x1 = x2 ∧ o1 = o2 := by simpa using he
      obtain ⟨rfl, rfl⟩ := hex
      obtain ⟨_, _, f2, f3⟩ := (hc k s hx).keep (B := U6.heap.size) hb hB.out
      obtain ⟨so, sg, sc⟩ := hPO.out s (List.mem_of_getElem? hx)
      rw [sc] at f3
      have hm := so.m
      obtain ⟨m, hme⟩ : ∃ m, m = s.m := ⟨_, rfl⟩
      rw [← hme] at f2 sg hm
      have t4 : decide (k < p) = true := decide_eq_true hlt
      have j0 : (0 : Int) ≤ (k : Int) := by omega
      have j1 : (k : Int) < (p : Int) := by omega
      have s0 : wr.cell? ⟨N_s, 0, none⟩ = some (.int .i64 S.g) := cell_blk (i := 0) B_s2.out rfl
      have s1 : wr.cell? ⟨N_s, 1, none⟩ = some (.int .i64 S.c) := cell_blk (i := 1) B_s2.out rfl
      have tg : (S.g != S.g) = false := by simp
      have tc : (S.c != S.c) = false := by simp
      have hbx : x1 < wr.heap.size := by omega
      have hfl : ∀ W : World, (Instr.field 43 (.agg #[.int .i64 S.g, .int .i64 0]) 0).run Tryd.prog W = .ok (.int .i64 S.g) W := fun W => run_field0 W _ _
      have hM := Lib.hid (And.intro hm sg)
      clear hx he hc so sc hme hm sg hb
      go_wp2_with fail
      refine held_begin (fun w' : World => w'.cell? ⟨x1, o1 + k * 4 + 2, none⟩ = some (.int .u64 (m : Nat)) ∧ w'.cell? ⟨x1, o1 + k * 4 + 3, none⟩ = some (.int .i64 S.c) ∧ w'.cell? ⟨N_s, 0, none⟩ = some (.int .i64 S.g) ∧ w'.cell? ⟨N_s, 1, none⟩ = some (.int .i64 S.c)) (by kernel_rfl) ?_
      have hBh0 : Below wr.heap.size wr wr.drew := (Below.refl _ _).drew
      have hSh0 : (fun w' : World => w'.cell? ⟨x1, o1 + k * 4 + 2, none⟩ = some (.int .u64 (m : Nat)) ∧ w'.cell? ⟨x1, o1 + k * 4 + 3, none⟩ = some (.int .i64 S.c) ∧ w'.cell? ⟨N_s, 0, none⟩ = some (.int .i64 S.g) ∧ w'.cell? ⟨N_s, 1, none⟩ = some (.int .i64 S.c)) wr.drew := ⟨f2, f3, s0, s1⟩
      generalize wr.drew = Dw at hBh0 hSh0 ⊢
      refine held_take (v := ?_) 0 68 rfl rfl (by kernel_rfl) (by kernel_rfl) (by kernel_rfl) (fun _ _ _ h => h) ⟨by rfl, ?_⟩ hSh0 ?_
      rotate_left
      · intro w' hw'; obtain ⟨x0, x1, x2, x3⟩ := hw'; go_simp; (try with_reducible rfl)
      simp only [Act.put, List.setIfInBounds_toArray, List.set_cons_zero, List.set_cons_succ]
      refine held_take (v := ?_) 1 69 rfl rfl (by kernel_rfl) (by kernel_rfl) (by kernel_rfl) (fun _ _ _ h => h) ⟨by rfl, ?_⟩ hSh0 ?_
      rotate_left
      · intro w' hw'; obtain ⟨x0, x1, x2, x3⟩ := hw'; go_simp; (try with_reducible rfl)
      simp only [Act.put, List.setIfInBounds_toArray, List.set_cons_zero, List.set_cons_succ]
      refine held_take (v := ?_) 2 70 rfl rfl (by kernel_rfl) (by kernel_rfl) (by kernel_rfl) (fun _ _ _ h => h) ⟨by rfl, ?_⟩ hSh0 ?_
      rotate_left
      · intro w' hw'; obtain ⟨x0, x1, x2, x3⟩ := hw'; go_simp; (try with_reducible rfl)
      simp only [Act.put, List.setIfInBounds_toArray, List.set_cons_zero, List.set_cons_succ]
      refine held_take (v := ?_) 3 71 rfl rfl (by kernel_rfl) (by kernel_rfl) (by kernel_rfl) (fun _ _ _ h => h) ⟨by rfl, ?_⟩ hSh0 ?_
      rotate_left
      · intro w' hw'; obtain ⟨x0, x1, x2, x3⟩ := hw'; go_simp; (try with_reducible rfl)
      simp only [Act.put, List.setIfInBounds_toArray, List.set_cons_zero, List.set_cons_succ]
      refine held_take (v := ?_) 4 72 rfl rfl (by kernel_rfl) (by kernel_rfl) (by kernel_rfl) (fun _ _ _ h => h) ⟨by rfl, ?_⟩ hSh0 ?_
      rotate_left
      · intro w' hw'; obtain ⟨x0, x1, x2, x3⟩ := hw'; go_simp; (try with_reducible rfl)
      simp only [Act.put, List.setIfInBounds_toArray, List.set_cons_zero, List.set_cons_succ]
      refine held_take (v := ?_) 5 73 rfl rfl (by kernel_rfl) (by kernel_rfl) (by kernel_rfl) (fun _ _ _ h => h) ⟨by rfl, ?_⟩ hSh0 ?_
      rotate_left
      · intro w' hw'; obtain ⟨x0, x1, x2, x3⟩ := hw'; go_simp; (try with_reducible rfl)
      simp only [Act.put, List.setIfInBounds_toArray, List.set_cons_zero, List.set_cons_succ]
      refine held_take (v := ?_) 6 74 rfl rfl (by kernel_rfl) (by kernel_rfl) (by kernel_rfl) (fun _ _ _ h => h) ⟨by rfl, ?_⟩ hSh0 ?_
      rotate_left
      · intro w' hw'; obtain ⟨x0, x1, x2, x3⟩ := hw'; go_simp; (try with_reducible rfl)
      simp only [Act.put, List.setIfInBounds_toArray, List.set_cons_zero, List.set_cons_succ]
      refine held_take (v := ?_) 7 75 rfl rfl (by kernel_rfl) (by kernel_rfl) (by kernel_rfl) (fun _ _ _ h => h) ⟨by rfl, ?_⟩ hSh0 ?_
      rotate_left
      · intro w' hw'; obtain ⟨x0, x1, x2, x3⟩ := hw'; go_simp; (try with_reducible rfl)
      simp only [Act.put, List.setIfInBounds_toArray, List.set_cons_zero, List.set_cons_succ]
      refine held_take (v := ?_) 8 76 rfl rfl (by kernel_rfl) (by kernel_rfl) (by kernel_rfl) (fun _ _ _ h => h) ⟨by rfl, ?_⟩ hSh0 ?_
      rotate_left
      · intro w' hw'; obtain ⟨x0, x1, x2, x3⟩ := hw'; go_simp; (try with_reducible rfl)
      simp only [Act.put, List.setIfInBounds_toArray, List.set_cons_zero, List.set_cons_succ]
      refine held_take (v := ?_) 9 77 rfl rfl (by kernel_rfl) (by kernel_rfl) (by kernel_rfl) (fun _ _ _ h => h) ⟨by rfl, ?_⟩ hSh0 ?_
      rotate_left
      · intro w' hw'; obtain ⟨x0, x1, x2, x3⟩ := hw'; go_simp; (try with_reducible rfl)
      simp only [Act.put, List.setIfInBounds_toArray, List.set_cons_zero, List.set_cons_succ]
      refine held_take (v := ?_) 10 78 rfl rfl (by kernel_rfl) (by kernel_rfl) (by kernel_rfl) (fun _ _ _ h => h) ⟨by rfl, ?_⟩ hSh0 ?_
      rotate_left
      · intro w' hw'; obtain ⟨x0, x1, x2, x3⟩ := hw'; go_simp; (try with_reducible rfl)
      simp only [Act.put, List.setIfInBounds_toArray, List.set_cons_zero, List.set_cons_succ]
      refine held_take (v := ?_) 11 79 rfl rfl (by kernel_rfl) (by kernel_rfl) (by kernel_rfl) (fun _ _ _ h => h) ⟨by rfl, ?_⟩ hSh0 ?_
      rotate_left
      · intro w' hw'; obtain ⟨x0, x1, x2, x3⟩ := hw'; go_simp; (try with_reducible rfl)
      simp only [Act.put, List.setIfInBounds_toArray, List.set_cons_zero, List.set_cons_succ]
      refine held_take (v := ?_) 12 80 rfl rfl (by kernel_rfl) (by kernel_rfl) (by kernel_rfl) (fun _ _ _ h => h) ⟨by rfl, ?_⟩ hSh0 ?_
      rotate_left
      · intro w' hw'; obtain ⟨x0, x1, x2, x3⟩ := hw'; go_simp; (try with_reducible rfl)
      simp only [Act.put, List.setIfInBounds_toArray, List.set_cons_zero, List.set_cons_succ]
      refine held_take (v := ?_) 13 81 rfl rfl (by kernel_rfl) (by kernel_rfl) (by kernel_rfl) (fun _ _ _ h => h) ⟨by rfl, ?_⟩ hSh0 ?_
      rotate_left
      · intro w' hw'; obtain ⟨x0, x1, x2, x3⟩ := hw'; go_simp; (try with_reducible rfl)
      simp only [Act.put, List.setIfInBounds_toArray, List.set_cons_zero, List.set_cons_succ]
      refine held_take (v := ?_) 14 82 rfl rfl (by kernel_rfl) (by kernel_rfl) (by kernel_rfl) (fun _ _ _ h => h) ⟨by rfl, ?_⟩ hSh0 ?_
      rotate_left
      · intro w' hw'; obtain ⟨x0, x1, x2, x3⟩ := hw'; go_simp; (try with_reducible rfl)
      simp only [Act.put, List.setIfInBounds_toArray, List.set_cons_zero, List.set_cons_succ]
      refine held_take (v := ?_) 18 86 rfl rfl (by kernel_rfl) (by kernel_rfl) (by kernel_rfl) (fun _ _ _ h => h) ⟨by rfl, ?_⟩ hSh0 ?_
      rotate_left
      · intro w' hw'; obtain ⟨x0, x1, x2, x3⟩ := hw'; go_simp; (try with_reducible rfl)
      simp only [Act.put, List.setIfInBounds_toArray, List.set_cons_zero, List.set_cons_succ]
      refine held_take (v := ?_) 19 87 rfl rfl (by kernel_rfl) (by kernel_rfl) (by kernel_rfl) (fun _ _ _ h => h) ⟨by rfl, ?_⟩ hSh0 ?_
      rotate_left
      · intro w' hw'; obtain ⟨x0, x1, x2, x3⟩ := hw'; go_simp; (try with_reducible rfl)
      simp only [Act.put, List.setIfInBounds_toArray, List.set_cons_zero, List.set_cons_succ]
      refine held_one 15 rfl (by kernel_rfl) (by rfl) (fun K hK => ?_)
      go_simp
      obtain ⟨wh1, hwh1⟩ : ∃ wld, wld = Dw.alloc (.cells #[.int .i64 0, .int .i64 0, .int .u64 (m : Nat), .int .i64 0] 45) := ⟨_, rfl⟩
      have hBh1 : Below wr.heap.size wr wh1 := by rw [hwh1]; exact hBh0.alloc hBh0.size _
      have hSh1 : (fun w' : World => w'.cell? ⟨x1, o1 + k * 4 + 2, none⟩ = some (.int .u64 (m : Nat)) ∧ w'.cell? ⟨x1, o1 + k * 4 + 3, none⟩ = some (.int .i64 S.c) ∧ w'.cell? ⟨N_s, 0, none⟩ = some (.int .i64 S.g) ∧ w'.cell? ⟨N_s, 1, none⟩ = some (.int .i64 S.c)) wh1 := ⟨(hBh1.cell (p := ⟨x1, o1 + k * 4 + 2, none⟩) (show x1 < wr.heap.size by omega)).trans f2, (hBh1.cell (p := ⟨x1, o1 + k * 4 + 3, none⟩) (show x1 < wr.heap.size by omega)).trans f3, (hBh1.cell (p := ⟨N_s, 0, none⟩) (show N_s < wr.heap.size by omega)).trans s0, (hBh1.cell (p := ⟨N_s, 1, none⟩) (show N_s < wr.heap.size by omega)).trans s1⟩
      have hblk : wh1.heap[Dw.heap.size]? = some (.cells #[.int .i64 0, .int .i64 0, .int .u64 (m : Nat), .int .i64 0] 45 (0, 0)) := by rw [hwh1]; exact heap_alloc_new _ _
      refine hK.out _ _ (show _ from by rw [← hwh1]; exact hSh1) ?_
      clear hK K
      try simp only [Act.put, List.setIfInBounds_toArray, List.set_cons_zero, List.set_cons_succ]
      rw [← hwh1]
      have Hwh1 := Lib.hid hwh1
      clear hwh1
      refine held_one 16 rfl (by kernel_rfl) (by rfl) (fun K hK => ?_)
      go_simp
      go_at_call 18
      refine (hCt.out _ m _ hM.out.1 hM.out.2 hblk).mono ?_
      rintro e wh2 ⟨rfl, hbh2⟩
      have hBh2 : Below wr.heap.size wr wh2 := below_step hBh1 hbh2
      have hSh2 : (fun w' : World => w'.cell? ⟨x1, o1 + k * 4 + 2, none⟩ = some (.int .u64 (m : Nat)) ∧ w'.cell? ⟨x1, o1 + k * 4 + 3, none⟩ = some (.int .i64 S.c) ∧ w'.cell? ⟨N_s, 0, none⟩ = some (.int .i64 S.g) ∧ w'.cell? ⟨N_s, 1, none⟩ = some (.int .i64 S.c)) wh2 := ⟨(hBh2.cell (p := ⟨x1, o1 + k * 4 + 2, none⟩) (show x1 < wr.heap.size by omega)).trans f2, (hBh2.cell (p := ⟨x1, o1 + k * 4 + 3, none⟩) (show x1 < wr.heap.size by omega)).trans f3, (hBh2.cell (p := ⟨N_s, 0, none⟩) (show N_s < wr.heap.size by omega)).trans s0, (hBh2.cell (p := ⟨N_s, 1, none⟩) (show N_s < wr.heap.size by omega)).trans s1⟩
      refine hK.out _ _ hSh2 ?_
      clear hK K
      refine held_take (v := ?_) 17 85 rfl rfl (by kernel_rfl) (by kernel_rfl) (by kernel_rfl) (fun _ _ _ h => h) ⟨by rfl, ?_⟩ hSh2 ?_
      rotate_left
      · intro w' hw'; obtain ⟨x0, x1, x2, x3⟩ := hw'; go_simp; (try with_reducible rfl)
      simp only [Act.put, List.setIfInBounds_toArray, List.set_cons_zero, List.set_cons_succ]
      refine held_take (v := ?_) 20 88 rfl rfl (by kernel_rfl) (by kernel_rfl) (by kernel_rfl) (fun _ _ _ h => h) ⟨by rfl, ?_⟩ hSh2 ?_
      rotate_left
      · intro w' hw'; obtain ⟨x0, x1, x2, x3⟩ := hw'; go_simp; (try with_reducible rfl)
      simp only [Act.put, List.setIfInBounds_toArray, List.set_cons_zero, List.set_cons_succ]
      refine held_take (v := ?_) 21 89 rfl rfl (by kernel_rfl) (by kernel_rfl) (by kernel_rfl) (fun _ _ _ h => h) ⟨by rfl, ?_⟩ hSh2 ?_
      rotate_left
      · intro w' hw'; obtain ⟨x0, x1, x2, x3⟩ := hw'; go_simp; (try with_reducible rfl)
      simp only [Act.put, List.setIfInBounds_toArray, List.set_cons_zero, List.set_cons_succ]
      refine wpAnyH_done (by kernel_rfl) ?_ _
      go_wp2
      go_roundw
      case rel => exact ⟨k + 1, by go_num, by omega, Lib.hid (hB.out.trans (hBh2.mono hBs))⟩
      case measure => simp [intOf]; omega
    · obtain rfl : k = p := by omega
      have t4 : decide (k < k) = false := by simp
      have hz2 : Hid (Fes wr wr.heap.size (some ⟨x1, o1, none⟩) (placeF S l0 k)) := Lib.hid (Fes.keep hz1.out hB.out hBs)
      replace HBel := Lib.hid (HBel.out.trans (hB.out.mono hlow))
      replace hlow : w.heap.size ≤ wr.heap.size := by omega
      clear B_s l_s
      have B_s := B_s2
      have l_s := l_s2
      clear hB hBs B_s2 l_s2 hz1 hlt hk
      go_wp2_with fail
      refine (hLs.out x1 o1 k1 wr hz2.out HBel.out).mono ?_
      rintro e U41 ⟨g2, k2, rfl, hb9, hz3⟩
      have hs9 := hb9.size
      replace hz2 : Hid (Fes U41 U41.heap.size (some ⟨x1, o1, none⟩) (placeF S l0 k)) := Lib.hid (Fes.keep hz2.out hb9 hs9)
      replace HBel := Lib.hid (HBel.out.trans (hb9.mono hlow))
      replace B_s : Hid (U41.heap[N_s]? = some (.cells #[.int .i64 S.g, .int .i64 S.c, .int .i64 S.mn, .int .i64 S.mx] 24 (0, 0))) := Lib.hid ((hb9.block _ l_s).trans B_s.out)
      replace l_s : N_s < U41.heap.size := by omega
      replace hlow : w.heap.size ≤ U41.heap.size := by omega
      clear hb9 hs9
      go_wp2_with fail
      refine (hMo.out x1 o1 k1 g2 k2 U41 hz2.out hz3.out.1 hz3.out.2).mono ?_
      rintro e U42 ⟨g3, k3, rfl, hb9, hz4⟩
      have hs9 := hb9.size
      replace hz3 : Hid (Fes U42 U42.heap.size (some ⟨g2, 0, none⟩) l1 ∧ View l1) := Lib.hid ⟨Fes.keep hz3.out.1 hb9 hs9, hz3.out.2⟩
      replace HBel := Lib.hid (HBel.out.trans (hb9.mono hlow))
      replace B_s : Hid (U42.heap[N_s]? = some (.cells #[.int .i64 S.g, .int .i64 S.c, .int .i64 S.mn, .int .i64 S.mx] 24 (0, 0))) := Lib.hid ((hb9.block _ l_s).trans B_s.out)
      replace l_s : N_s < U42.heap.size := by omega
      replace hlow : w.heap.size ≤ U42.heap.size := by omega
      clear hb9 hs9
      go_wp2_with fail
      refine (hSf.out g3 k3 U42 hz4.out HBel.out).mono ?_
      rintro e U43 ⟨rfl, hb9⟩
      have hs9 := hb9.size
      replace hz3 : Hid (Fes U43 U43.heap.size (some ⟨g2, 0, none⟩) l1 ∧ View l1) := Lib.hid ⟨Fes.keep hz3.out.1 hb9 hs9, hz3.out.2⟩
      replace HBel := Lib.hid (HBel.out.trans (hb9.mono hlow))
      replace B_s : Hid (U43.heap[N_s]? = some (.cells #[.int .i64 S.g, .int .i64 S.c, .int .i64 S.mn, .int .i64 S.mx] 24 (0, 0))) := Lib.hid ((hb9.block _ l_s).trans B_s.out)
      replace l_s : N_s < U43.heap.size := by omega
      replace hlow : w.heap.size ≤ U43.heap.size := by omega
      clear hb9 hs9
      have s0 : U43.cell? ⟨N_s, 0, none⟩ = some (.int .i64 S.g) := cell_blk (i := 0) B_s.out rfl
      have s1 : U43.cell? ⟨N_s, 1, none⟩ = some (.int .i64 S.c) := cell_blk (i := 1) B_s.out rfl
      have s2 : U43.cell? ⟨N_s, 2, none⟩ = some (.int .i64 S.mn) := cell_blk (i := 2) B_s.out rfl
      have s3 : U43.cell? ⟨N_s, 3, none⟩ = some (.int .i64 S.mx) := cell_blk (i := 3) B_s.out rfl
      go_wp2_with fail
      refine (cR1.out g2 k2 U43 hz3.out.1 hz3.out.2 HBel.out).mono ?_
      rintro e U44 ⟨rfl, hb9⟩
      clear s0 s1 s2 s3
      have hs9 := hb9.size
      replace HBel := Lib.hid (HBel.out.trans (hb9.mono hlow))
      replace B_s : Hid (U44.heap[N_s]? = some (.cells #[.int .i64 S.g, .int .i64 S.c, .int .i64 S.mn, .int .i64 S.mx] 24 (0, 0))) := Lib.hid ((hb9.block _ l_s).trans B_s.out)
      replace l_s : N_s < U44.heap.size := by omega
      replace hlow : w.heap.size ≤ U44.heap.size := by omega
      clear hb9 hs9
      have t5 : decide (r1 ≤ r) = true := decide_eq_true hle1
      by_cases h0 : r1 = 0
      · subst h0
        go_wp2
        go_ret
        exact ⟨rfl, HBel.out⟩
      · have t6 : ((r1 : Int) == 0) = false := by simp; omega
        go_wp2
        go_ret
        exact ⟨rfl, HBel.out⟩

set_option maxRecDepth 100000 in
set_option maxHeartbeats 1000000 in
theorem lifted (os : Os) (started : os.Started) (H : Type) (enc : TypeId × Value → H) :
    ReturnsInHanded {} Tryd.checked os 4 .any (fun w args => (Rows.packWholeSpec.pre enc Tryd.prog Tryd.f4 [] false w args ∧ laidMetH Tryd.prog laid1 w) ∧ sizedMet enc Tryd.prog Tryd.f4 (OpenSpec.ofChange Rows.packWholeSpec) false w args)
      (Rows.packWholeSpec.post enc Tryd.prog Tryd.f4 false true false false) := by
  refine returnsInHanded_of_change_and (C := Tryd.checked) (X := fun w _ => laidMetH Tryd.prog laid1 w) (fun _ _ _ hh h => h.of_heap hh) own started (by kernel_rfl) Tryd.func4
    (ChangeSpec.witness_shaped (enc := enc) (C := Tryd.checked) (os := os) (X := fun w _ => laidMetH Tryd.prog laid1 w) false (World.doorLaid Tryd.prog 400 os) #[.slice none 0 0, .agg #[.int .i64 0, .int .i64 0, .int .i64 0, .int .i64 0], .int .i64 0] 8 rfl (World.shaped_of_RefB (by kernel_rfl) (by kernel_rfl)) (by kernel_rfl) (by kernel_rfl) (by kernel_rfl) (door_met os _)) ?_
  intro W base args ds gs before hval0 hW _ _ hL _
  have hval : ∀ (j : Nat) t v, Tryd.f4.params[j]? = some t → args[j]? = some v → Value.okWide Tryd.prog W .any base t v := hval0
  have hW' := hW
  obtain ⟨p, q, hA0, hV, rfl, hfz, hnd⟩ := hW
  have hA : DataW.TrodAll enc Tryd.prog W 0 (fun _ => true) true Tryd.f4.params.toList args.toList ds p := hA0
  rw [Tryd.params4] at hA hval
  obtain ⟨v0, vs0, d0, ds0, p0, q0, hargs, rfl, rfl, h0, r0⟩ := trodAll_cons hA
  obtain ⟨v1, vs1, d1, ds1, p1, q1, rfl, rfl, rfl, h1, r1⟩ := trodAll_cons r0
  obtain ⟨v2, vs2, d2, ds2, p2, q2, rfl, rfl, rfl, h2, r2⟩ := trodAll_cons r1
  obtain ⟨rfl, rfl, rfl⟩ := trodAll_nil r2
  obtain rfl : args = #[v0, v1, v2] := by cases args; simp_all
  obtain ⟨rfl, rfl⟩ := trodVars_none hV
  have k0 := h0
  have lt0 : ∀ x ∈ p0, x.block < W.heap.size := by obtain ⟨m, hm⟩ := k0; exact DataW.trod_lt m _ _ _ hm
  obtain ⟨a0, c0, l0, rfl, lc0, mc0, v0, q0⟩ := view_of (hval 0 22 v0 rfl rfl) h0
  have k1 := h1
  have lt1 : ∀ x ∈ p1, x.block < W.heap.size := by obtain ⟨m, hm⟩ := k1; exact DataW.trod_lt m _ _ _ hm
  obtain ⟨g1, c1, mn1, mx1, rfl, w1⟩ := shape_of (hval 1 24 v1 rfl rfl) h1
  have k2 := h2
  have lt2 : ∀ x ∈ p2, x.block < W.heap.size := by obtain ⟨m, hm⟩ := k2; exact DataW.trod_lt m _ _ _ hm
  obtain ⟨a2, rfl, _, _, w2⟩ := open_int Tryd.underlying3 (hval 2 3 v2 rfl rfl) h2
  have hT := of_laid hL
  clear hL
  clear hA0 hval0
  refine (walk a0 c0 l0 g1 c1 mn1 mx1 a2 W v0 q0 lc0 mc0 w1 w2 hT).mono fun e W' ⟨he, bel⟩ => ?_
  subst he
  exact ⟨_, rfl, _, _, _, [], _, [], hW', trodAll_mk1 (shut_bool Tryd.underlying4 _), (trodAll_cons_mk (Below.trod laidOut (by kernel_rfl) (of_decide_eq_true (by kernel_rfl)) k0 bel lt0) (trodAll_cons_mk (Below.trod laidOut (by kernel_rfl) (of_decide_eq_true (by kernel_rfl)) k1 bel lt1) (trodAll_cons_mk (Below.trod laidOut (by kernel_rfl) (of_decide_eq_true (by kernel_rfl)) k2 bel lt2) trodAll_mk0))), rfl, bel.frame _, fun h => by cases h⟩

/-- THE ROW. -/
theorem row_holds : Rows.PackWholeSaid :=
  OpenClaim.holds_of_wide 4 Tryd.f4 rfl rfl rfl rfl rfl rfl rfl ⟨rfl, rfl, rfl, rfl, rfl⟩ rfl rfl rfl rfl rfl (by kernel_rfl) Tryd.func4 (by kernel_rfl)
    (of_decide_eq_true (by kernel_rfl)) (by unfold Func.isWrapper; first | (rw [if_pos (by decide +kernel)]; kernel_rfl) | (rw [if_neg (by decide +kernel)]; exact ⟨rfl, rfl⟩))
    (fun os started H enc _ => lifted os started H enc)

/-- THE STATEMENT. -/
theorem card_holds : Rows.PackWholeCardSaid :=
  Claim7.holds_tied_plain_at .later [] [.data] true (true, Rows.packWholeCard.stood.harness.2) false
    row_holds (fun _ h => by cases h) (by kernel_rfl) (fun _ h => by cases h) packWhole_row_tie rfl ⟨rfl, rfl⟩ (by kernel_rfl) rfl
    (fun f fn hf hfn => by
      obtain rfl : f = 4 := Option.some.inj ((show Tryd.prog.funcNamed Rows.packWholeRow.func = some 4 by kernel_rfl).symm.trans hf) |>.symm
      obtain rfl : fn = Tryd.f4 := (Option.some.inj (Tryd.func4.symm.trans hfn)).symm
      exact ⟨by kernel_rfl, fun j t ht => by
        rw [Tryd.params4] at ht
        have hm : t ∈ [22, 24, 3] := by simpa using Array.mem_of_getElem? ht
        have hall : ([22, 24, 3].all fun u => !Tryd.prog.wantsStandIn u) = true := by kernel_rfl
        exact (show Tryd.prog.wantsStandIn t = false by simpa using List.all_eq_true.1 hall t hm)⟩)
    (by kernel_rfl)
end Go.Proofs.YtjbjjdcmkbigdaaDoor.packWhole
