/- No placing has fewer spots: one less, the best ones, have no room for all: the law PackFew answers true, at every input. The library's table of lowest units is as the program's text lays it (tied). -/
import Derived.Carry
import Derived.Test.YtjbjjdcmkbigdaaDoorPackCount
import Derived.Test.YtjbjjdcmkbigdaaDoorPackFewM
import Derived.Test.YtjbjjdcmkbigdaaDoorShapeRef3
import Derived.SevenTiedAt
import Derived.Test.YtjbjjdcmkbigdaaDoorTie
import Derived.Test.YtjbjjdcmkbigdaaDoorCards
set_option linter.unusedVariables false
namespace Go.Proofs.YtjbjjdcmkbigdaaDoor.packFew
open Go Go.ChangeShapes Go.WideShapes Go.ChangeAt Go.RowKit
open PK
open Go.ChangeMaps (setBlock heap_setBlock_same heap_setBlock_other)
/-- How many fit, as the document tells it. -/
theorem reffit_any (S : Shp) (f : Fe) (w : World) (hw : S.Wf) (hok : S.ok = true) (hf : FeOk f) (h0 : 0 ≤ f.c) (hT : Tab w) : Calls Tryd.prog 22 #[shV S, feV f] w fun e w' => e = .returned (.int .i64 (fitF S f : Nat)) ∧ Below w.heap.size w w' := by
  obtain ⟨g, c, mn, mx⟩ := S
  obtain ⟨n, d, m, q⟩ := f
  obtain ⟨g', c', rfl, rfl, _⟩ := Shp.nat hok
  obtain ⟨k, rfl⟩ : ∃ k : Nat, q = k := ⟨q.toNat, by simp only at h0; omega⟩
  obtain ⟨_, b2⟩ := bounds_i64 hf.c
  have h9 := reffits_ok g' c' mn mx n d m k w hw hok hf.m hT (by simp only at b2; omega)
  have e : fitF ⟨(g' : Int), (c' : Int), mn, mx⟩ ⟨n, d, m, (k : Int)⟩ = fitN g' c' (MM.cnt m) k := by
    unfold fitF
    rw [if_pos hok]
    unfold fitZ
    rw [if_neg (by simp only; omega)]
    rfl
  rw [e]
  exact h9
theorem view_cpu {l : List Fe} (h : rightL l = true) : ∀ f ∈ l, 0 ≤ f.c := fun f hf => by
  unfold rightL at h
  rw [List.all_eq_true] at h
  obtain ⟨k, hx⟩ := List.mem_iff_getElem?.1 hf
  have := h k (by simpa using (List.getElem?_eq_some_iff.1 hx).1)
  unfold okAt at this
  rw [hx] at this
  simp only [Bool.and_eq_true] at this
  have h1 := this.1
  unfold cpuOk at h1
  simp at h1
  exact h1.1
theorem mk17 (W : World) : (Instr.makeSlice 50 (.int .i64 17) (.int .i64 17)).run Tryd.prog W = .ok (.slice (some ⟨W.heap.size, 0, none⟩) 17 17) (W.alloc (.cells (nums (List.replicate 17 0)) 3)) := by
  kernel_rfl
/-- How often each number of 0 to 16 comes up. -/
def cnts (L : List Nat) : List Nat := (List.range 17).map (fun v => L.count v)
theorem cnts_at (L : List Nat) {v : Nat} (h : v ≤ 16) : (cnts L)[v]? = some (L.count v) := by
  unfold cnts; rw [List.getElem?_map, List.getElem?_range (by omega)]; rfl
theorem cnts_next (L : List Nat) {v : Nat} (h : v ≤ 16) : (cnts L).set v (L.count v + 1) = cnts (L ++ [v]) := by
  refine List.ext_getElem? fun i => ?_
  rw [List.getElem?_set]
  have hl : (cnts L).length = 17 := by unfold cnts; simp
  by_cases hi : v = i
  · subst hi
    rw [if_pos rfl, if_pos (by omega), cnts_at _ h, List.count_append]
    simp
  · rw [if_neg hi]
    unfold cnts
    rw [List.getElem?_map, List.getElem?_map]
    cases hr : (List.range 17)[i]? with
    | none => rfl
    | some x =>
      have hx : x = i := by
        obtain ⟨h1, h2⟩ := List.getElem?_eq_some_iff.1 hr
        rw [← h2]; simp
      subst hx
      simp only [Option.map_some, List.count_append]
      have : List.count x [v] = 0 := by rw [List.count_eq_zero]; simp; omega
      rw [this, Nat.add_zero]
theorem len_keys {w : World} {m : Nat} {ks : List (Int × Int)} (h : KeyAt w m ks) : (Builtin.len_ #[49] 3 #[.map (some m)]).run Tryd.prog w = .ok (.int .i64 (ks.length : Nat)) w := by
  obtain ⟨es, clock, hblk, hes, _⟩ := h
  have hl : es.size = ks.length := by have := congrArg List.length hes; simpa using this
  simp [Builtin.len_, run_underlying Tryd.underlying49, MapKept.run_getObj_map hblk, hl, goInt, Result.andThen]
theorem take_sum_le : ∀ (D : List Nat) {i j : Nat}, i ≤ j → (D.take i).sum ≤ (D.take j).sum
  | [], i, j, _ => by simp
  | x :: D, 0, j, _ => by simp
  | x :: D, i + 1, 0, h => by omega
  | x :: D, i + 1, j + 1, h => by
    rw [List.take_succ_cons, List.take_succ_cons, List.sum_cons, List.sum_cons]
    have := take_sum_le D (i := i) (j := j) (by omega)
    omega
theorem grown_set {w : World} {b : Nat} {es es' : Array MapEntry} {clock clock' : Nat} (hb : w.heap[b]? = some (.map es clock)) : w.grownBy (setBlock w b (.map es' clock')) (some b) :=
  ⟨rfl, rfl, rfl, by simp [setBlock], fun i _ hi => heap_setBlock_other hb _ (fun e => hi (by rw [e]))⟩
set_option maxRecDepth 100000 in
set_option maxHeartbeats 16000000 in
theorem walk (a0 : Option Addr) (c0 : Nat) (l0 : List Fe) (g1 c1 mn1 mx1 : Int) (a2 : Int) (w : World) (v0 : Fes w w.heap.size a0 l0) (q0 : ∀ s ∈ l0, FeOk s) (lc0 : l0.length ≤ c0) (mc0 : c0 ≤ maxLen) (w1 : Shp.Wf ⟨g1, c1, mn1, mx1⟩) (w2 : (Lit.int .i64 a2).wf = true) (hT : Tab w) :
    Calls Tryd.prog 5 #[.slice a0 l0.length c0, .agg #[.int .i64 g1, .int .i64 c1, .int .i64 mn1, .int .i64 mx1], .int .i64 a2] w fun e w' => e = .returned (.bool true) ∧ Below w.heap.size w w' := by
  obtain ⟨S, hS⟩ : ∃ S : Shp, S = ⟨g1, c1, mn1, mx1⟩ := ⟨_, rfl⟩
  have e1 : g1 = S.g := by rw [hS]
  have e2 : c1 = S.c := by rw [hS]
  have e3 : mn1 = S.mn := by rw [hS]
  have e4 : mx1 = S.mx := by rw [hS]
  rw [← hS] at w1
  rw [e1, e2, e3, e4]
  clear hS e1 e2 e3 e4
  have HT := Lib.hid hT
  have hAw := Lib.hid (fun W (hT : Tab W) => awake_p W hT)
  have hFw := Lib.hid (fun W (hW : Below w.heap.size w W) => fewp_any a0 c0 W.heap.size l0 W (fes_up v0 (Nat.le_refl _) hW) (Nat.le_refl _) lc0)
  cases hv : viewL l0
  · rw [hv] at hFw
    obtain ⟨n0, hn0⟩ : ∃ n, l0.length = n := ⟨_, rfl⟩
    rw [hn0] at hFw ⊢
    clear hn0 hv v0 q0 lc0 w1 hT w2
    have HBel := Lib.hid (Below.refl w.heap.size w)
    have hlow : w.heap.size ≤ w.heap.size := Nat.le_refl _
    go_enter Tryd.func5, Tryd.ntmps5
    go_wp2_with fail
    obtain ⟨V1, hV1⟩ : ∃ W, W = w.alloc (.cells #[.int .i64 S.g, .int .i64 S.c, .int .i64 S.mn, .int .i64 S.mx] 24) := ⟨_, rfl⟩
    rw [← hV1]
    have hzV1 : V1.heap.size = w.heap.size + 1 := by rw [hV1]; simp
    replace HBel : Hid (Below w.heap.size w V1) := Lib.hid (by rw [hV1]; exact (HBel.out.alloc (hlow) _))
    have B_s : Hid (V1.heap[w.heap.size]? = some (.cells #[.int .i64 S.g, .int .i64 S.c, .int .i64 S.mn, .int .i64 S.mx] 24 (0, 0))) := Lib.hid (by
      have h9 := heap_alloc_new (w) (.cells #[.int .i64 S.g, .int .i64 S.c, .int .i64 S.mn, .int .i64 S.mx] 24)
      rw [hV1]; exact h9)
    obtain ⟨N_s, hN_s⟩ : ∃ N, N = w.heap.size := ⟨_, rfl⟩
    (try rw [← hN_s])
    rw [← hN_s] at B_s
    have l_s : N_s < V1.heap.size := by omega
    have g_s : w.heap.size ≤ N_s := by omega
    replace hlow : w.heap.size ≤ V1.heap.size := by omega
    clear hV1 hzV1 hN_s
    refine (hAw.out V1 (HT.out.below HBel.out HT.out.size)).mono ?_
    rintro e U2 ⟨rfl, hb9⟩
    have hs9 := hb9.size
    replace HBel := Lib.hid (HBel.out.trans (hb9.mono hlow))
    replace B_s : Hid (U2.heap[N_s]? = some (.cells #[.int .i64 S.g, .int .i64 S.c, .int .i64 S.mn, .int .i64 S.mx] 24 (0, 0))) := Lib.hid ((hb9.block _ l_s).trans B_s.out)
    replace l_s : N_s < U2.heap.size := by omega
    replace hlow : w.heap.size ≤ U2.heap.size := by omega
    clear hb9 hs9
    go_wp2_with fail
    refine (hFw.out U2 HBel.out).mono ?_
    rintro e U3 ⟨rfl, hb9⟩
    have hs9 := hb9.size
    replace HBel := Lib.hid (HBel.out.trans (hb9.mono hlow))
    replace B_s : Hid (U3.heap[N_s]? = some (.cells #[.int .i64 S.g, .int .i64 S.c, .int .i64 S.mn, .int .i64 S.mx] 24 (0, 0))) := Lib.hid ((hb9.block _ l_s).trans B_s.out)
    replace l_s : N_s < U3.heap.size := by omega
    replace hlow : w.heap.size ≤ U3.heap.size := by omega
    clear hb9 hs9
    go_wp2
    go_ret
    exact ⟨rfl, HBel.out⟩
  have hvv := hv
  unfold viewL at hvv
  rw [Bool.and_eq_true] at hvv
  have hlen : l0.length ≤ 70 := of_decide_eq_true hvv.1
  have hview := view_cpu hvv.2
  obtain ⟨n0, hn0⟩ : ∃ n, l0.length = n := ⟨_, rfl⟩
  have H := Lib.hid (And.intro v0 (And.intro q0 (And.intro w1 (And.intro hT hn0))))
  rw [hv] at hFw
  rw [hn0] at hFw hlen lc0 ⊢
  obtain ⟨b1, b2⟩ := bounds_i64 w2
  have hRt := Lib.hid (fun W => show Calls Tryd.prog 17 #[.agg #[.int .i64 S.g, .int .i64 S.c, .int .i64 S.mn, .int .i64 S.mx]] W (fun e w' => e = .returned (.bool S.ok) ∧ Below W.heap.size W w') from refright_any S.g S.c S.mn S.mx W w1)
  cases hok : S.ok
  · rw [hok] at hRt
    clear hn0 hv hvv hview v0 q0 w1 hT w2 lc0 hok b1 b2
    have HBel := Lib.hid (Below.refl w.heap.size w)
    have hlow : w.heap.size ≤ w.heap.size := Nat.le_refl _
    go_enter Tryd.func5, Tryd.ntmps5
    go_wp2_with fail
    obtain ⟨V1, hV1⟩ : ∃ W, W = w.alloc (.cells #[.int .i64 S.g, .int .i64 S.c, .int .i64 S.mn, .int .i64 S.mx] 24) := ⟨_, rfl⟩
    rw [← hV1]
    have hzV1 : V1.heap.size = w.heap.size + 1 := by rw [hV1]; simp
    replace HBel : Hid (Below w.heap.size w V1) := Lib.hid (by rw [hV1]; exact (HBel.out.alloc (hlow) _))
    have B_s : Hid (V1.heap[w.heap.size]? = some (.cells #[.int .i64 S.g, .int .i64 S.c, .int .i64 S.mn, .int .i64 S.mx] 24 (0, 0))) := Lib.hid (by
      have h9 := heap_alloc_new (w) (.cells #[.int .i64 S.g, .int .i64 S.c, .int .i64 S.mn, .int .i64 S.mx] 24)
      rw [hV1]; exact h9)
    obtain ⟨N_s, hN_s⟩ : ∃ N, N = w.heap.size := ⟨_, rfl⟩
    (try rw [← hN_s])
    rw [← hN_s] at B_s
    have l_s : N_s < V1.heap.size := by omega
    have g_s : w.heap.size ≤ N_s := by omega
    replace hlow : w.heap.size ≤ V1.heap.size := by omega
    clear hV1 hzV1 hN_s
    refine (hAw.out V1 (HT.out.below HBel.out HT.out.size)).mono ?_
    rintro e U2 ⟨rfl, hb9⟩
    have hs9 := hb9.size
    replace HBel := Lib.hid (HBel.out.trans (hb9.mono hlow))
    replace B_s : Hid (U2.heap[N_s]? = some (.cells #[.int .i64 S.g, .int .i64 S.c, .int .i64 S.mn, .int .i64 S.mx] 24 (0, 0))) := Lib.hid ((hb9.block _ l_s).trans B_s.out)
    replace l_s : N_s < U2.heap.size := by omega
    replace hlow : w.heap.size ≤ U2.heap.size := by omega
    clear hb9 hs9
    go_wp2_with fail
    refine (hFw.out U2 HBel.out).mono ?_
    rintro e U3 ⟨rfl, hb9⟩
    have hs9 := hb9.size
    replace HBel := Lib.hid (HBel.out.trans (hb9.mono hlow))
    replace B_s : Hid (U3.heap[N_s]? = some (.cells #[.int .i64 S.g, .int .i64 S.c, .int .i64 S.mn, .int .i64 S.mx] 24 (0, 0))) := Lib.hid ((hb9.block _ l_s).trans B_s.out)
    replace l_s : N_s < U3.heap.size := by omega
    replace hlow : w.heap.size ≤ U3.heap.size := by omega
    clear hb9 hs9
    have s0 : U3.cell? ⟨N_s, 0, none⟩ = some (.int .i64 S.g) := cell_blk (i := 0) B_s.out rfl
    have s1 : U3.cell? ⟨N_s, 1, none⟩ = some (.int .i64 S.c) := cell_blk (i := 1) B_s.out rfl
    have s2 : U3.cell? ⟨N_s, 2, none⟩ = some (.int .i64 S.mn) := cell_blk (i := 2) B_s.out rfl
    have s3 : U3.cell? ⟨N_s, 3, none⟩ = some (.int .i64 S.mx) := cell_blk (i := 3) B_s.out rfl
    go_wp2_with fail
    refine (hRt.out U3).mono ?_
    rintro e U4 ⟨rfl, hb9⟩
    clear s0 s1 s2 s3
    have hs9 := hb9.size
    replace HBel := Lib.hid (HBel.out.trans (hb9.mono hlow))
    replace B_s : Hid (U4.heap[N_s]? = some (.cells #[.int .i64 S.g, .int .i64 S.c, .int .i64 S.mn, .int .i64 S.mx] 24 (0, 0))) := Lib.hid ((hb9.block _ l_s).trans B_s.out)
    replace l_s : N_s < U4.heap.size := by omega
    replace hlow : w.heap.size ≤ U4.heap.size := by omega
    clear hb9 hs9
    go_wp2
    go_ret
    exact ⟨rfl, HBel.out⟩
  rw [hok] at hRt
  by_cases hbad : S.ok = false ∨ a2 < 1 ∨ 16 < a2
  · have hP := Lib.hid (fun W => place_bad a0 n0 c0 S a2 W w1 hbad)
    unfold shV at hP
    clear hn0 hv hvv hview v0 q0 w1 hT w2 lc0 hok b1 b2 hbad
    have HBel := Lib.hid (Below.refl w.heap.size w)
    have hlow : w.heap.size ≤ w.heap.size := Nat.le_refl _
    go_enter Tryd.func5, Tryd.ntmps5
    go_wp2_with fail
    obtain ⟨V1, hV1⟩ : ∃ W, W = w.alloc (.cells #[.int .i64 S.g, .int .i64 S.c, .int .i64 S.mn, .int .i64 S.mx] 24) := ⟨_, rfl⟩
    rw [← hV1]
    have hzV1 : V1.heap.size = w.heap.size + 1 := by rw [hV1]; simp
    replace HBel : Hid (Below w.heap.size w V1) := Lib.hid (by rw [hV1]; exact (HBel.out.alloc (hlow) _))
    have B_s : Hid (V1.heap[w.heap.size]? = some (.cells #[.int .i64 S.g, .int .i64 S.c, .int .i64 S.mn, .int .i64 S.mx] 24 (0, 0))) := Lib.hid (by
      have h9 := heap_alloc_new (w) (.cells #[.int .i64 S.g, .int .i64 S.c, .int .i64 S.mn, .int .i64 S.mx] 24)
      rw [hV1]; exact h9)
    obtain ⟨N_s, hN_s⟩ : ∃ N, N = w.heap.size := ⟨_, rfl⟩
    (try rw [← hN_s])
    rw [← hN_s] at B_s
    have l_s : N_s < V1.heap.size := by omega
    have g_s : w.heap.size ≤ N_s := by omega
    replace hlow : w.heap.size ≤ V1.heap.size := by omega
    clear hV1 hzV1 hN_s
    refine (hAw.out V1 (HT.out.below HBel.out HT.out.size)).mono ?_
    rintro e U2 ⟨rfl, hb9⟩
    have hs9 := hb9.size
    replace HBel := Lib.hid (HBel.out.trans (hb9.mono hlow))
    replace B_s : Hid (U2.heap[N_s]? = some (.cells #[.int .i64 S.g, .int .i64 S.c, .int .i64 S.mn, .int .i64 S.mx] 24 (0, 0))) := Lib.hid ((hb9.block _ l_s).trans B_s.out)
    replace l_s : N_s < U2.heap.size := by omega
    replace hlow : w.heap.size ≤ U2.heap.size := by omega
    clear hb9 hs9
    go_wp2_with fail
    refine (hFw.out U2 HBel.out).mono ?_
    rintro e U3 ⟨rfl, hb9⟩
    have hs9 := hb9.size
    replace HBel := Lib.hid (HBel.out.trans (hb9.mono hlow))
    replace B_s : Hid (U3.heap[N_s]? = some (.cells #[.int .i64 S.g, .int .i64 S.c, .int .i64 S.mn, .int .i64 S.mx] 24 (0, 0))) := Lib.hid ((hb9.block _ l_s).trans B_s.out)
    replace l_s : N_s < U3.heap.size := by omega
    replace hlow : w.heap.size ≤ U3.heap.size := by omega
    clear hb9 hs9
    have s0 : U3.cell? ⟨N_s, 0, none⟩ = some (.int .i64 S.g) := cell_blk (i := 0) B_s.out rfl
    have s1 : U3.cell? ⟨N_s, 1, none⟩ = some (.int .i64 S.c) := cell_blk (i := 1) B_s.out rfl
    have s2 : U3.cell? ⟨N_s, 2, none⟩ = some (.int .i64 S.mn) := cell_blk (i := 2) B_s.out rfl
    have s3 : U3.cell? ⟨N_s, 3, none⟩ = some (.int .i64 S.mx) := cell_blk (i := 3) B_s.out rfl
    go_wp2_with fail
    refine (hRt.out U3).mono ?_
    rintro e U4 ⟨rfl, hb9⟩
    clear s0 s1 s2 s3
    have hs9 := hb9.size
    replace HBel := Lib.hid (HBel.out.trans (hb9.mono hlow))
    replace B_s : Hid (U4.heap[N_s]? = some (.cells #[.int .i64 S.g, .int .i64 S.c, .int .i64 S.mn, .int .i64 S.mx] 24 (0, 0))) := Lib.hid ((hb9.block _ l_s).trans B_s.out)
    replace l_s : N_s < U4.heap.size := by omega
    replace hlow : w.heap.size ≤ U4.heap.size := by omega
    clear hb9 hs9
    have s0 : U4.cell? ⟨N_s, 0, none⟩ = some (.int .i64 S.g) := cell_blk (i := 0) B_s.out rfl
    have s1 : U4.cell? ⟨N_s, 1, none⟩ = some (.int .i64 S.c) := cell_blk (i := 1) B_s.out rfl
    have s2 : U4.cell? ⟨N_s, 2, none⟩ = some (.int .i64 S.mn) := cell_blk (i := 2) B_s.out rfl
    have s3 : U4.cell? ⟨N_s, 3, none⟩ = some (.int .i64 S.mx) := cell_blk (i := 3) B_s.out rfl
    go_wp2_with fail
    refine (hP.out _).mono ?_
    rintro e U5 ⟨rfl, hb9⟩
    clear s0 s1 s2 s3
    have hs9 := hb9.size
    replace HBel := Lib.hid (HBel.out.trans (hb9.mono hlow))
    replace B_s : Hid (U5.heap[N_s]? = some (.cells #[.int .i64 S.g, .int .i64 S.c, .int .i64 S.mn, .int .i64 S.mx] 24 (0, 0))) := Lib.hid ((hb9.block _ l_s).trans B_s.out)
    replace l_s : N_s < U5.heap.size := by omega
    replace hlow : w.heap.size ≤ U5.heap.size := by omega
    clear hb9 hs9
    go_wp2
    go_ret
    exact ⟨rfl, HBel.out⟩
  obtain ⟨p, rfl⟩ : ∃ p : Nat, a2 = p := ⟨a2.toNat, by omega⟩
  have hp16 : p ≤ 16 := by omega
  have hp1 : 1 ≤ p := by omega
  by_cases hfull : roomF S l0 < p
  · have hP := Lib.hid (fun W (hW : Below w.heap.size w W) => show Calls Tryd.prog 12 #[.slice a0 n0 c0, .agg #[.int .i64 S.g, .int .i64 S.c, .int .i64 S.mn, .int .i64 S.mx], .int .i64 (p : Nat)] W (fun e w' => e = .returned (.tuple #[.slice none 0 0, .int .i64 7]) ∧ Below W.heap.size W w') from (by
      have h9 := place_full a0 c0 W.heap.size l0 S p W (fes_up H.out.1 (Nat.le_refl _) hW) (Nat.le_refl _) (by omega) H.out.2.2.1 H.out.2.1 (H.out.2.2.2.1.below hW H.out.2.2.2.1.size) hok (by omega) (by omega) (by omega)
      rw [hn0] at h9; exact h9))
    clear hn0 hv hvv hview v0 q0 w1 hT w2 lc0 hok b1 b2 hbad hfull
    have HBel := Lib.hid (Below.refl w.heap.size w)
    have hlow : w.heap.size ≤ w.heap.size := Nat.le_refl _
    go_enter Tryd.func5, Tryd.ntmps5
    go_wp2_with fail
    obtain ⟨V1, hV1⟩ : ∃ W, W = w.alloc (.cells #[.int .i64 S.g, .int .i64 S.c, .int .i64 S.mn, .int .i64 S.mx] 24) := ⟨_, rfl⟩
    rw [← hV1]
    have hzV1 : V1.heap.size = w.heap.size + 1 := by rw [hV1]; simp
    replace HBel : Hid (Below w.heap.size w V1) := Lib.hid (by rw [hV1]; exact (HBel.out.alloc (hlow) _))
    have B_s : Hid (V1.heap[w.heap.size]? = some (.cells #[.int .i64 S.g, .int .i64 S.c, .int .i64 S.mn, .int .i64 S.mx] 24 (0, 0))) := Lib.hid (by
      have h9 := heap_alloc_new (w) (.cells #[.int .i64 S.g, .int .i64 S.c, .int .i64 S.mn, .int .i64 S.mx] 24)
      rw [hV1]; exact h9)
    obtain ⟨N_s, hN_s⟩ : ∃ N, N = w.heap.size := ⟨_, rfl⟩
    (try rw [← hN_s])
    rw [← hN_s] at B_s
    have l_s : N_s < V1.heap.size := by omega
    have g_s : w.heap.size ≤ N_s := by omega
    replace hlow : w.heap.size ≤ V1.heap.size := by omega
    clear hV1 hzV1 hN_s
    refine (hAw.out V1 (HT.out.below HBel.out HT.out.size)).mono ?_
    rintro e U2 ⟨rfl, hb9⟩
    have hs9 := hb9.size
    replace HBel := Lib.hid (HBel.out.trans (hb9.mono hlow))
    replace B_s : Hid (U2.heap[N_s]? = some (.cells #[.int .i64 S.g, .int .i64 S.c, .int .i64 S.mn, .int .i64 S.mx] 24 (0, 0))) := Lib.hid ((hb9.block _ l_s).trans B_s.out)
    replace l_s : N_s < U2.heap.size := by omega
    replace hlow : w.heap.size ≤ U2.heap.size := by omega
    clear hb9 hs9
    go_wp2_with fail
    refine (hFw.out U2 HBel.out).mono ?_
    rintro e U3 ⟨rfl, hb9⟩
    have hs9 := hb9.size
    replace HBel := Lib.hid (HBel.out.trans (hb9.mono hlow))
    replace B_s : Hid (U3.heap[N_s]? = some (.cells #[.int .i64 S.g, .int .i64 S.c, .int .i64 S.mn, .int .i64 S.mx] 24 (0, 0))) := Lib.hid ((hb9.block _ l_s).trans B_s.out)
    replace l_s : N_s < U3.heap.size := by omega
    replace hlow : w.heap.size ≤ U3.heap.size := by omega
    clear hb9 hs9
    have s0 : U3.cell? ⟨N_s, 0, none⟩ = some (.int .i64 S.g) := cell_blk (i := 0) B_s.out rfl
    have s1 : U3.cell? ⟨N_s, 1, none⟩ = some (.int .i64 S.c) := cell_blk (i := 1) B_s.out rfl
    have s2 : U3.cell? ⟨N_s, 2, none⟩ = some (.int .i64 S.mn) := cell_blk (i := 2) B_s.out rfl
    have s3 : U3.cell? ⟨N_s, 3, none⟩ = some (.int .i64 S.mx) := cell_blk (i := 3) B_s.out rfl
    go_wp2_with fail
    refine (hRt.out U3).mono ?_
    rintro e U4 ⟨rfl, hb9⟩
    clear s0 s1 s2 s3
    have hs9 := hb9.size
    replace HBel := Lib.hid (HBel.out.trans (hb9.mono hlow))
    replace B_s : Hid (U4.heap[N_s]? = some (.cells #[.int .i64 S.g, .int .i64 S.c, .int .i64 S.mn, .int .i64 S.mx] 24 (0, 0))) := Lib.hid ((hb9.block _ l_s).trans B_s.out)
    replace l_s : N_s < U4.heap.size := by omega
    replace hlow : w.heap.size ≤ U4.heap.size := by omega
    clear hb9 hs9
    have s0 : U4.cell? ⟨N_s, 0, none⟩ = some (.int .i64 S.g) := cell_blk (i := 0) B_s.out rfl
    have s1 : U4.cell? ⟨N_s, 1, none⟩ = some (.int .i64 S.c) := cell_blk (i := 1) B_s.out rfl
    have s2 : U4.cell? ⟨N_s, 2, none⟩ = some (.int .i64 S.mn) := cell_blk (i := 2) B_s.out rfl
    have s3 : U4.cell? ⟨N_s, 3, none⟩ = some (.int .i64 S.mx) := cell_blk (i := 3) B_s.out rfl
    go_wp2_with fail
    refine (hP.out U4 HBel.out).mono ?_
    rintro e U5 ⟨rfl, hb9⟩
    clear s0 s1 s2 s3
    have hs9 := hb9.size
    replace HBel := Lib.hid (HBel.out.trans (hb9.mono hlow))
    replace B_s : Hid (U5.heap[N_s]? = some (.cells #[.int .i64 S.g, .int .i64 S.c, .int .i64 S.mn, .int .i64 S.mx] 24 (0, 0))) := Lib.hid ((hb9.block _ l_s).trans B_s.out)
    replace l_s : N_s < U5.heap.size := by omega
    replace hlow : w.heap.size ≤ U5.heap.size := by omega
    clear hb9 hs9
    go_wp2
    go_ret
    exact ⟨rfl, HBel.out⟩
  have hP := Lib.hid (fun W (hW : Below w.heap.size w W) => show Calls Tryd.prog 12 #[.slice a0 n0 c0, .agg #[.int .i64 S.g, .int .i64 S.c, .int .i64 S.mn, .int .i64 S.mx], .int .i64 (p : Nat)] W (fun e w' => ∃ b off cap', e = .returned (.tuple #[.slice (some ⟨b, off, none⟩) (p) cap', .int .i64 0]) ∧ p ≤ cap' ∧ Below W.heap.size W w' ∧ Hid (Fes w' w'.heap.size (some ⟨b, off, none⟩) (placeF S l0 (p)))) from (by
    have h9 := place_row a0 c0 W.heap.size l0 S (p) W (fes_up H.out.1 (Nat.le_refl _) hW) (Nat.le_refl _) (by omega) H.out.2.2.1 H.out.2.1 (H.out.2.2.2.1.below hW H.out.2.2.2.1.size) hok (by omega) (by omega) (by omega)
    rw [hn0] at h9; exact h9))
  have hpl : (placeF S l0 p).length = p := placeF_len (by omega)
  have hpo : ∀ s ∈ placeF S l0 p, FeOk s := fun s hs => (placeL_ok' w1 q0 _ _ s hs)
  have hfew := fun j => few_room (S := S) (l := l0) (p := p) (j := j) (by omega)
  obtain ⟨ks, hks⟩ : ∃ ks, ks = keysL [] (placeF S l0 p) := ⟨_, rfl⟩
  have hk1 : 1 ≤ ks.length := by rw [hks]; exact keysL_pos (by omega)
  have hkp : ks.length ≤ 16 := by rw [hks]; exact Nat.le_trans (keysL_le _ _) (by simp; omega)
  rw [← hks] at hfew
  have hD1 := descF_desc S l0
  have hD2 := descF_perm S l0
  have hD3 := gtC_top S l0
  have hD4 := descF_le S l0
  obtain ⟨D, hDd⟩ : ∃ D, D = descF S l0 := ⟨_, rfl⟩
  rw [← hDd] at hfew hD1 hD2 hD3 hD4
  have hDl : D.length = n0 := by rw [hD2.length_eq, fitsL_len, hn0]
  have hRf := Lib.hid (fun (f : Fe) W (hf : FeOk f) (h0 : 0 ≤ f.c) (hT : Tab W) => show Calls Tryd.prog 22 #[.agg #[.int .i64 S.g, .int .i64 S.c, .int .i64 S.mn, .int .i64 S.mx], .agg #[.int .i64 f.n, .int .i64 f.d, .int .u64 (f.m : Nat), .int .i64 f.c]] W (fun e w' => e = .returned (.int .i64 (fitF S f : Nat)) ∧ Below W.heap.size W w') from reffit_any S f W w1 hok hf h0 hT)
  have HH := Lib.hid (And.intro hpl (And.intro hpo (And.intro hks (And.intro hfew (And.intro hD1 (And.intro hD2 (And.intro hD3 (And.intro hD4 (And.intro hview hDl)))))))))
  clear hn0 hv hvv hview v0 q0 w1 hT w2 b1 b2 hbad hfull hok hpl hpo hks hfew hD1 hD2 hD3 hD4 hDd hDl
  have HBel := Lib.hid (Below.refl w.heap.size w)
  have hlow : w.heap.size ≤ w.heap.size := Nat.le_refl _
  go_enter Tryd.func5, Tryd.ntmps5
  go_wp2_with fail
  obtain ⟨V1, hV1⟩ : ∃ W, W = w.alloc (.cells #[.int .i64 S.g, .int .i64 S.c, .int .i64 S.mn, .int .i64 S.mx] 24) := ⟨_, rfl⟩
  rw [← hV1]
  have hzV1 : V1.heap.size = w.heap.size + 1 := by rw [hV1]; simp
  replace HBel : Hid (Below w.heap.size w V1) := Lib.hid (by rw [hV1]; exact (HBel.out.alloc (hlow) _))
  have B_s : Hid (V1.heap[w.heap.size]? = some (.cells #[.int .i64 S.g, .int .i64 S.c, .int .i64 S.mn, .int .i64 S.mx] 24 (0, 0))) := Lib.hid (by
    have h9 := heap_alloc_new (w) (.cells #[.int .i64 S.g, .int .i64 S.c, .int .i64 S.mn, .int .i64 S.mx] 24)
    rw [hV1]; exact h9)
  obtain ⟨N_s, hN_s⟩ : ∃ N, N = w.heap.size := ⟨_, rfl⟩
  (try rw [← hN_s])
  rw [← hN_s] at B_s
  have l_s : N_s < V1.heap.size := by omega
  have g_s : w.heap.size ≤ N_s := by omega
  replace hlow : w.heap.size ≤ V1.heap.size := by omega
  clear hV1 hzV1 hN_s
  refine (hAw.out V1 (HT.out.below HBel.out HT.out.size)).mono ?_
  rintro e U2 ⟨rfl, hb9⟩
  have hs9 := hb9.size
  replace HBel := Lib.hid (HBel.out.trans (hb9.mono hlow))
  replace B_s : Hid (U2.heap[N_s]? = some (.cells #[.int .i64 S.g, .int .i64 S.c, .int .i64 S.mn, .int .i64 S.mx] 24 (0, 0))) := Lib.hid ((hb9.block _ l_s).trans B_s.out)
  replace l_s : N_s < U2.heap.size := by omega
  replace hlow : w.heap.size ≤ U2.heap.size := by omega
  clear hb9 hs9
  go_wp2_with fail
  refine (hFw.out U2 HBel.out).mono ?_
  rintro e U3 ⟨rfl, hb9⟩
  have hs9 := hb9.size
  replace HBel := Lib.hid (HBel.out.trans (hb9.mono hlow))
  replace B_s : Hid (U3.heap[N_s]? = some (.cells #[.int .i64 S.g, .int .i64 S.c, .int .i64 S.mn, .int .i64 S.mx] 24 (0, 0))) := Lib.hid ((hb9.block _ l_s).trans B_s.out)
  replace l_s : N_s < U3.heap.size := by omega
  replace hlow : w.heap.size ≤ U3.heap.size := by omega
  clear hb9 hs9
  have s0 : U3.cell? ⟨N_s, 0, none⟩ = some (.int .i64 S.g) := cell_blk (i := 0) B_s.out rfl
  have s1 : U3.cell? ⟨N_s, 1, none⟩ = some (.int .i64 S.c) := cell_blk (i := 1) B_s.out rfl
  have s2 : U3.cell? ⟨N_s, 2, none⟩ = some (.int .i64 S.mn) := cell_blk (i := 2) B_s.out rfl
  have s3 : U3.cell? ⟨N_s, 3, none⟩ = some (.int .i64 S.mx) := cell_blk (i := 3) B_s.out rfl
  go_wp2_with fail
  refine (hRt.out U3).mono ?_
  rintro e U4 ⟨rfl, hb9⟩
  clear s0 s1 s2 s3
  have hs9 := hb9.size
  replace HBel := Lib.hid (HBel.out.trans (hb9.mono hlow))
  replace B_s : Hid (U4.heap[N_s]? = some (.cells #[.int .i64 S.g, .int .i64 S.c, .int .i64 S.mn, .int .i64 S.mx] 24 (0, 0))) := Lib.hid ((hb9.block _ l_s).trans B_s.out)
  replace l_s : N_s < U4.heap.size := by omega
  replace hlow : w.heap.size ≤ U4.heap.size := by omega
  clear hb9 hs9
  have s0 : U4.cell? ⟨N_s, 0, none⟩ = some (.int .i64 S.g) := cell_blk (i := 0) B_s.out rfl
  have s1 : U4.cell? ⟨N_s, 1, none⟩ = some (.int .i64 S.c) := cell_blk (i := 1) B_s.out rfl
  have s2 : U4.cell? ⟨N_s, 2, none⟩ = some (.int .i64 S.mn) := cell_blk (i := 2) B_s.out rfl
  have s3 : U4.cell? ⟨N_s, 3, none⟩ = some (.int .i64 S.mx) := cell_blk (i := 3) B_s.out rfl
  go_wp2_with fail
  refine (hP.out U4 HBel.out).mono ?_
  rintro e U5 ⟨x1, o1, k1, rfl, hk2, hb9, hz1⟩
  clear s0 s1 s2 s3
  have hs9 := hb9.size
  replace HBel := Lib.hid (HBel.out.trans (hb9.mono hlow))
  replace B_s : Hid (U5.heap[N_s]? = some (.cells #[.int .i64 S.g, .int .i64 S.c, .int .i64 S.mn, .int .i64 S.mx] 24 (0, 0))) := Lib.hid ((hb9.block _ l_s).trans B_s.out)
  replace l_s : N_s < U5.heap.size := by omega
  replace hlow : w.heap.size ≤ U5.heap.size := by omega
  clear hb9 hs9
  have hmk := @run_makeMap Tryd.prog
  go_wp2_with fail
  clear hmk
  obtain ⟨V, hV⟩ : ∃ V, V = U5.alloc (.map #[] 0) := ⟨_, rfl⟩
  rw [← hV]
  have hBV : Below U5.heap.size U5 V := by rw [hV]; exact (Below.refl _ _).alloc (Nat.le_refl _) _
  have hKV : KeyAt V U5.heap.size (keysL [] ((placeF S l0 p).take 0)) := by rw [hV]; exact KeyAt.new _
  clear hV
  obtain ⟨mm, hmm⟩ : ∃ mm, mm = U5.heap.size := ⟨_, rfl⟩
  rw [← hmm] at hKV ⊢
  have hmg : U5.heap.size ≤ mm := by omega
  clear hmm
  go_loopw [10] (fun i wr => ∃ k : Nat, i = .int .i64 k ∧ k ≤ p ∧ Hid (Below U5.heap.size U5 wr) ∧ Hid (KeyAt wr mm (keysL [] ((placeF S l0 p).take k)))) (fun i _ => p - (intOf i).toNat)
  case atStart => exact ⟨0, rfl, Nat.zero_le _, Lib.hid hBV, Lib.hid hKV⟩
  case round =>
    obtain ⟨k, rfl, hk, hB, hK⟩ := hrel
    have hBs := hB.out.size
    have hms := hK.out.lt
    by_cases hlt : k < p
    · obtain ⟨s, hx⟩ := get_lt (l := placeF S l0 p) (k := k) (by rw [HH.out.1]; exact hlt)
      obtain ⟨x2, o2, he, hb, hc⟩ := hz1.out.at_ hx
      have hex : x1 = x2 ∧ o1 = o2 := by simpa using he
      obtain ⟨rfl, rfl⟩ := hex
      have hso := HH.out.2.1 s (List.mem_of_getElem? hx)
      have hnx := Lib.hid (keysL_next (ks := []) hx)
      have hBd := hB.out.drew
      have hKd : KeyAt wr.drew mm (keysL [] ((placeF S l0 p).take k)) := hK.out.of_block rfl
      obtain ⟨Dw, hDw⟩ : ∃ W, W = wr.drew := ⟨_, rfl⟩
      obtain ⟨f0, f1, _, _⟩ := (hc k s hx).keep (B := U5.heap.size) hb hBd
      have hcs := hc k s hx
      obtain ⟨sn, hsn⟩ : ∃ x, x = s.n := ⟨_, rfl⟩
      obtain ⟨sd, hsd⟩ : ∃ x, x = s.d := ⟨_, rfl⟩
      have hw1 := hso.n
      have hw2 := hso.d
      have hkey : keyOf2 s = (sn, sd) := by rw [hsn, hsd]; rfl
      rw [hkey] at hnx
      rw [← hsn] at f0 hw1
      rw [← hsd] at f1 hw2
      obtain ⟨vv, s0, es1, clock1, hlk, hen, hst⟩ := hKd.bump (s := (sn, sd)) hw1 hw2
      rw [← hDw] at hBd hKd f0 f1 hlk hen
      have t4 : decide (k < p) = true := decide_eq_true hlt
      have j0 : (0 : Int) ≤ (k : Int) := by omega
      have j1 : (k : Int) < (p : Int) := by omega
      have HDw := Lib.hid hDw
      clear hx he hc hso hsn hsd hw1 hw2 hkey hcs hK hDw
      go_wp2_with fail
      refine wp_until (fun w' : World => w'.cell? ⟨x1, o1 + k * 4, none⟩ = some (.int .i64 sn) ∧ w'.cell? ⟨x1, o1 + k * 4 + 1, none⟩ = some (.int .i64 sd) ∧ (Instr.lookup 49 (.map (some mm)) (.agg #[.int .i64 sn, .int .i64 sd]) false).run Tryd.prog w' = .ok (.int .i64 vv) w') 10 (by kernel_rfl) ?_
      rw [← HDw.out]
      clear HDw
      obtain ⟨es0, clock0, hblk, _⟩ := hKd
      have hS0 : (fun w' : World => w'.cell? ⟨x1, o1 + k * 4, none⟩ = some (.int .i64 sn) ∧ w'.cell? ⟨x1, o1 + k * 4 + 1, none⟩ = some (.int .i64 sd) ∧ (Instr.lookup 49 (.map (some mm)) (.agg #[.int .i64 sn, .int .i64 sd]) false).run Tryd.prog w' = .ok (.int .i64 vv) w') Dw := ⟨f0, f1, hlk⟩
      refine until_take (v := ?_) 0 43 rfl rfl (by kernel_rfl) (by kernel_rfl) (by kernel_rfl) (by kernel_rfl) (fun _ _ _ h => h) ⟨by rfl, ?_⟩ hS0 ?_
      rotate_left
      · intro w' hw'; obtain ⟨x0, x1, x2⟩ := hw'; go_simp; (try with_reducible rfl)
      simp only [Act.put, List.setIfInBounds_toArray, List.set_cons_zero, List.set_cons_succ]
      refine until_take (v := ?_) 1 44 rfl rfl (by kernel_rfl) (by kernel_rfl) (by kernel_rfl) (by kernel_rfl) (fun _ _ _ h => h) ⟨by rfl, ?_⟩ hS0 ?_
      rotate_left
      · intro w' hw'; obtain ⟨x0, x1, x2⟩ := hw'; go_simp; (try with_reducible rfl)
      simp only [Act.put, List.setIfInBounds_toArray, List.set_cons_zero, List.set_cons_succ]
      refine until_take (v := ?_) 2 45 rfl rfl (by kernel_rfl) (by kernel_rfl) (by kernel_rfl) (by kernel_rfl) (fun _ _ _ h => h) ⟨by rfl, ?_⟩ hS0 ?_
      rotate_left
      · intro w' hw'; obtain ⟨x0, x1, x2⟩ := hw'; go_simp; (try with_reducible rfl)
      simp only [Act.put, List.setIfInBounds_toArray, List.set_cons_zero, List.set_cons_succ]
      refine until_take (v := ?_) 3 46 rfl rfl (by kernel_rfl) (by kernel_rfl) (by kernel_rfl) (by kernel_rfl) (fun _ _ _ h => h) ⟨by rfl, ?_⟩ hS0 ?_
      rotate_left
      · intro w' hw'; obtain ⟨x0, x1, x2⟩ := hw'; go_simp; (try with_reducible rfl)
      simp only [Act.put, List.setIfInBounds_toArray, List.set_cons_zero, List.set_cons_succ]
      refine until_take (v := ?_) 4 47 rfl rfl (by kernel_rfl) (by kernel_rfl) (by kernel_rfl) (by kernel_rfl) (fun _ _ _ h => h) ⟨by rfl, ?_⟩ hS0 ?_
      rotate_left
      · intro w' hw'; obtain ⟨x0, x1, x2⟩ := hw'; go_simp; (try with_reducible rfl)
      simp only [Act.put, List.setIfInBounds_toArray, List.set_cons_zero, List.set_cons_succ]
      refine until_take (v := ?_) 5 48 rfl rfl (by kernel_rfl) (by kernel_rfl) (by kernel_rfl) (by kernel_rfl) (fun _ _ _ h => h) ⟨by rfl, ?_⟩ hS0 ?_
      rotate_left
      · intro w' hw'; obtain ⟨x0, x1, x2⟩ := hw'; go_simp; (try with_reducible rfl)
      simp only [Act.put, List.setIfInBounds_toArray, List.set_cons_zero, List.set_cons_succ]
      refine until_take (v := ?_) 6 49 rfl rfl (by kernel_rfl) (by kernel_rfl) (by kernel_rfl) (by kernel_rfl) (fun _ _ _ h => h) ⟨by rfl, ?_⟩ hS0 ?_
      rotate_left
      · intro w' hw'; obtain ⟨x0, x1, x2⟩ := hw'; go_simp; (try with_reducible rfl)
      simp only [Act.put, List.setIfInBounds_toArray, List.set_cons_zero, List.set_cons_succ]
      refine until_take (v := ?_) 7 50 rfl rfl (by kernel_rfl) (by kernel_rfl) (by kernel_rfl) (by kernel_rfl) (fun _ _ _ h => h) ⟨by rfl, ?_⟩ hS0 ?_
      rotate_left
      · intro w' hw'; obtain ⟨x0, x1, x2⟩ := hw'; go_simp; (try with_reducible rfl)
      simp only [Act.put, List.setIfInBounds_toArray, List.set_cons_zero, List.set_cons_succ]
      refine until_one 8 rfl (by kernel_rfl) rfl (fun K hK => ?_)
      go_simp
      obtain ⟨D2, hD2⟩ : ∃ W, W = setBlock Dw mm (.map es1 clock1) := ⟨_, rfl⟩
      have hblk2 : D2.heap[mm]? = some (.map es1 clock1) := by rw [hD2]; exact heap_setBlock_same hblk _
      have hB2 : Below U5.heap.size U5 D2 := by rw [hD2]; exact hBd.grown (grown_set hblk) hBd.size (fun i e => by cases e; omega)
      have hS2 : (fun w' : World => w'.cell? ⟨x1, o1 + k * 4, none⟩ = some (.int .i64 sn) ∧ w'.cell? ⟨x1, o1 + k * 4 + 1, none⟩ = some (.int .i64 sd) ∧ (Instr.lookup 49 (.map (some mm)) (.agg #[.int .i64 sn, .int .i64 sd]) false).run Tryd.prog w' = .ok (.int .i64 vv) w') D2 := ⟨(Below.cell (B := U5.heap.size) (p := ⟨x1, o1 + k * 4, none⟩) (hD2 ▸ (Below.refl U5.heap.size Dw).grown (grown_set hblk) (by have := hBd.size; omega) (fun i e => by cases e; omega)) hb).trans f0, (Below.cell (B := U5.heap.size) (p := ⟨x1, o1 + k * 4 + 1, none⟩) (hD2 ▸ (Below.refl U5.heap.size Dw).grown (grown_set hblk) (by have := hBd.size; omega) (fun i e => by cases e; omega)) hb).trans f1, (hst D2 hblk2).1⟩
      rw [← hD2]
      clear hD2
      refine hK.out _ _ (fun _ => hS2) ?_
      clear hK K
      obtain ⟨es2, clock2, hes, hKN⟩ := (hst D2 hblk2).2 (IntKind.i64.wrap (vv + 1))
      refine until_take (v := ?_) 9 52 rfl rfl (by kernel_rfl) (by kernel_rfl) (by kernel_rfl) (by kernel_rfl) (fun _ _ _ h => h) ⟨by rfl, ?_⟩ hS2 ?_
      rotate_left
      · intro w' hw'; obtain ⟨x0, x1, x2⟩ := hw'; go_simp; (try with_reducible rfl)
      simp only [Act.put, List.setIfInBounds_toArray, List.set_cons_zero, List.set_cons_succ]
      refine until_one 10 rfl (by kernel_rfl) rfl (fun K hK => ?_)
      go_simp
      refine hK.out _ _ (fun h => absurd h (by decide)) ?_
      clear hK K
      refine until_done (by kernel_rfl) ?_
      have hB3 : Below U5.heap.size U5 (setBlock D2 mm (.map es2 clock2)) := hB2.grown (grown_set hblk2) hB2.size (fun i e => by cases e; omega)
      go_wp2
      go_roundw
      case rel => exact ⟨k + 1, by go_num, by omega, Lib.hid hB3, Lib.hid (by rw [hnx.out]; exact hKN)⟩
      case measure => simp [intOf]; omega
    · obtain rfl : k = p := by omega
      have t4 : decide (k < k) = false := by simp
      have hKA : Hid (KeyAt wr mm ks) := Lib.hid (by have := hK.out; rw [List.take_of_length_le (by rw [HH.out.1]; omega), ← HH.out.2.2.1] at this; exact this)
      have hB9 := HBel.out.trans (hB.out.mono hlow)
      have hs9 : w.heap.size ≤ wr.heap.size := by omega
      have B_s2 : Hid (wr.heap[N_s]? = some (.cells #[.int .i64 S.g, .int .i64 S.c, .int .i64 S.mn, .int .i64 S.mx] 24 (0, 0))) := Lib.hid ((hB.out.block _ l_s).trans B_s.out)
      have l_s2 : N_s < wr.heap.size := by omega
      have hHB := Lib.hid hB9
      clear hB hK hz1 hlt hk hB9 HBel B_s l_s hlow
      obtain ⟨Z, hZ⟩ : ∃ Z, Z = nums (List.replicate 17 0) := ⟨_, rfl⟩
      have hmk : ∀ W : World, (Instr.makeSlice 50 (.int .i64 17) (.int .i64 17)).run Tryd.prog W = .ok (.slice (some ⟨W.heap.size, 0, none⟩) 17 17) (W.alloc (.cells Z 3)) := fun W => by rw [hZ]; exact mk17 W
      have HZ := Lib.hid hZ
      clear hZ
      go_wp2_with fail
      clear hmk
      obtain ⟨W1, hW1⟩ : ∃ W, W = wr.alloc (.cells Z 3) := ⟨_, rfl⟩
      rw [← hW1]
      have hW1B : Hid (Below w.heap.size w W1) := Lib.hid (by rw [hW1]; exact hHB.out.alloc (by omega) _)
      have B_s3 : Hid (W1.heap[N_s]? = some (.cells #[.int .i64 S.g, .int .i64 S.c, .int .i64 S.mn, .int .i64 S.mx] 24 (0, 0))) := Lib.hid (by rw [hW1]; exact (Below.heap_alloc _ _ _ l_s2).trans B_s2.out)
      have hK1 : Hid (KeyAt W1 mm ks) := Lib.hid (hKA.out.of_block (by rw [hW1]; exact Below.heap_alloc _ _ _ hKA.out.lt))
      have hml := hKA.out.lt
      have hG1 : Hid (Blk W1 wr.heap.size (List.replicate 17 0)) := Lib.hid (by unfold Blk; rw [← HZ.out, hW1]; exact heap_alloc_new wr _)
      have hsz : W1.heap.size = wr.heap.size + 1 := by rw [hW1]; simp
      obtain ⟨G, hGe⟩ : ∃ G, G = wr.heap.size := ⟨_, rfl⟩
      rw [← hGe] at hG1 hsz l_s2 hml hs9 ⊢
      have hsz2 : G < W1.heap.size := by omega
      clear hW1 hHB B_s2 hKA hGe hsz hBs hms
      go_loopw [12] (fun i wr => ∃ k2 : Nat, i = .int .i64 k2 ∧ k2 ≤ n0 ∧ Hid (Below G W1 wr) ∧ Hid (Blk wr G (cnts (fitsL S (l0.take k2))))) (fun i _ => n0 - (intOf i).toNat)
      case atStart => exact ⟨0, rfl, Nat.zero_le _, Lib.hid (Below.refl G W1), hG1⟩
      case round =>
        obtain ⟨k2, rfl, hk2', hB, hC⟩ := hrel
        have hBs := hB.out.size
        have hCs := hC.out.lt
        by_cases hlt : k2 < n0
        · obtain ⟨f, hx⟩ := get_lt (l := l0) (k := k2) (by rw [H.out.2.2.2.2]; exact hlt)
          obtain ⟨b, off, rfl, hb, hc⟩ := H.out.1.at_ hx
          have hfo := H.out.2.1 f (List.mem_of_getElem? hx)
          have hf0 := HH.out.2.2.2.2.2.2.2.2.1 f (List.mem_of_getElem? hx)
          have hnx := Lib.hid (fitsL_next (S := S) hx)
          have hWd : Hid (Below w.heap.size w wr.drew) := Lib.hid (hW1B.out.trans (hB.out.drew.mono hs9))
          obtain ⟨f0, f1, f2, f3⟩ := (hc k2 f hx).keep (B := w.heap.size) hb hWd.out
          have bs := (hB.out.drew.block _ l_s2).trans B_s3.out
          have hCd : Blk wr.drew G (cnts (fitsL S (l0.take k2))) := hC.out
          have hBd := hB.out.drew
          obtain ⟨v, hv⟩ : ∃ v, v = fitF S f := ⟨_, rfl⟩
          have hv16 : v ≤ 16 := by rw [hv]; exact fitF_le S f
          obtain ⟨cc, hcc⟩ : ∃ c, c = (fitsL S (l0.take k2)).count v := ⟨_, rfl⟩
          have hc70 : cc ≤ 70 := by
            have h1 := List.count_le_length (a := v) (l := fitsL S (l0.take k2))
            rw [fitsL_len, List.length_take, ← hcc] at h1
            omega
          have hat := cnts_at (fitsL S (l0.take k2)) hv16
          rw [← hcc] at hat
          have hst := cnts_next (fitsL S (l0.take k2)) hv16
          rw [← hcc, hv, ← hnx.out, ← hv] at hst
          have hCall := hRf.out f
          rw [← hv] at hCall
          have hCall := Lib.hid hCall
          have g0 := hCd.cell hat
          have t5 : decide (k2 < n0) = true := decide_eq_true hlt
          have j0 : (0 : Int) ≤ (k2 : Int) := by omega
          have j1 : (k2 : Int) < (n0 : Int) := by omega
          have j2 : (v : Int) < 17 := by omega
          have hx4 : b < wr.heap.size := by have := hW1B.out.size; omega
          have hns : N_s < wr.heap.size := by omega
          have HST := Lib.hid hst
          have HAT := Lib.hid hat
          have HBd := Lib.hid hBd
          have HCd := Lib.hid hCd
          clear hst hx hc hv hcc hat hnx hC hBd hCd
          go_wp2_with fail
          refine wp_until (fun w' : World => w'.cell? ⟨N_s, 0, none⟩ = some (.int .i64 S.g) ∧ w'.cell? ⟨N_s, 1, none⟩ = some (.int .i64 S.c) ∧ w'.cell? ⟨N_s, 2, none⟩ = some (.int .i64 S.mn) ∧ w'.cell? ⟨N_s, 3, none⟩ = some (.int .i64 S.mx) ∧ w'.cell? ⟨b, off + k2 * 4, none⟩ = some (.int .i64 f.n) ∧ w'.cell? ⟨b, off + k2 * 4 + 1, none⟩ = some (.int .i64 f.d) ∧ w'.cell? ⟨b, off + k2 * 4 + 2, none⟩ = some (.int .u64 (f.m : Nat)) ∧ w'.cell? ⟨b, off + k2 * 4 + 3, none⟩ = some (.int .i64 f.c) ∧ w'.cell? ⟨G, v, none⟩ = some (.int .i64 (cc : Nat))) 11 (by kernel_rfl) ?_
          have hS0 : (fun w' : World => w'.cell? ⟨N_s, 0, none⟩ = some (.int .i64 S.g) ∧ w'.cell? ⟨N_s, 1, none⟩ = some (.int .i64 S.c) ∧ w'.cell? ⟨N_s, 2, none⟩ = some (.int .i64 S.mn) ∧ w'.cell? ⟨N_s, 3, none⟩ = some (.int .i64 S.mx) ∧ w'.cell? ⟨b, off + k2 * 4, none⟩ = some (.int .i64 f.n) ∧ w'.cell? ⟨b, off + k2 * 4 + 1, none⟩ = some (.int .i64 f.d) ∧ w'.cell? ⟨b, off + k2 * 4 + 2, none⟩ = some (.int .u64 (f.m : Nat)) ∧ w'.cell? ⟨b, off + k2 * 4 + 3, none⟩ = some (.int .i64 f.c) ∧ w'.cell? ⟨G, v, none⟩ = some (.int .i64 (cc : Nat))) wr.drew := ⟨cell_blk (i := 0) bs rfl, cell_blk (i := 1) bs rfl, cell_blk (i := 2) bs rfl, cell_blk (i := 3) bs rfl, f0, f1, f2, f3, g0⟩
          clear bs
          have hds : wr.drew.heap.size = wr.heap.size := rfl
          obtain ⟨Dw, hDw⟩ : ∃ W, W = wr.drew := ⟨_, rfl⟩
          rw [← hDw] at hS0 hWd HBd HCd hds f0 f1 f2 f3 g0 ⊢
          clear hDw
          refine until_take (v := ?_) 0 60 rfl rfl (by kernel_rfl) (by kernel_rfl) (by kernel_rfl) (by kernel_rfl) (fun _ _ _ h => h) ⟨by rfl, ?_⟩ hS0 ?_
          rotate_left
          · intro w' hw'; obtain ⟨x0, x1, x2, x3, x4, x5, x6, x7, x8⟩ := hw'; go_simp; (try with_reducible rfl)
          simp only [Act.put, List.setIfInBounds_toArray, List.set_cons_zero, List.set_cons_succ]
          refine until_take (v := ?_) 1 61 rfl rfl (by kernel_rfl) (by kernel_rfl) (by kernel_rfl) (by kernel_rfl) (fun _ _ _ h => h) ⟨by rfl, ?_⟩ hS0 ?_
          rotate_left
          · intro w' hw'; obtain ⟨x0, x1, x2, x3, x4, x5, x6, x7, x8⟩ := hw'; go_simp; (try with_reducible rfl)
          simp only [Act.put, List.setIfInBounds_toArray, List.set_cons_zero, List.set_cons_succ]
          refine until_take (v := ?_) 2 62 rfl rfl (by kernel_rfl) (by kernel_rfl) (by kernel_rfl) (by kernel_rfl) (fun _ _ _ h => h) ⟨by rfl, ?_⟩ hS0 ?_
          rotate_left
          · intro w' hw'; obtain ⟨x0, x1, x2, x3, x4, x5, x6, x7, x8⟩ := hw'; go_simp; (try with_reducible rfl)
          simp only [Act.put, List.setIfInBounds_toArray, List.set_cons_zero, List.set_cons_succ]
          refine until_take (v := ?_) 3 63 rfl rfl (by kernel_rfl) (by kernel_rfl) (by kernel_rfl) (by kernel_rfl) (fun _ _ _ h => h) ⟨by rfl, ?_⟩ hS0 ?_
          rotate_left
          · intro w' hw'; obtain ⟨x0, x1, x2, x3, x4, x5, x6, x7, x8⟩ := hw'; go_simp; (try with_reducible rfl)
          simp only [Act.put, List.setIfInBounds_toArray, List.set_cons_zero, List.set_cons_succ]
          refine until_take (v := ?_) 4 64 rfl rfl (by kernel_rfl) (by kernel_rfl) (by kernel_rfl) (by kernel_rfl) (fun _ _ _ h => h) ⟨by rfl, ?_⟩ hS0 ?_
          rotate_left
          · intro w' hw'; obtain ⟨x0, x1, x2, x3, x4, x5, x6, x7, x8⟩ := hw'; go_simp; (try with_reducible rfl)
          simp only [Act.put, List.setIfInBounds_toArray, List.set_cons_zero, List.set_cons_succ]
          refine until_take (v := ?_) 5 65 rfl rfl (by kernel_rfl) (by kernel_rfl) (by kernel_rfl) (by kernel_rfl) (fun _ _ _ h => h) ⟨by rfl, ?_⟩ hS0 ?_
          rotate_left
          · intro w' hw'; obtain ⟨x0, x1, x2, x3, x4, x5, x6, x7, x8⟩ := hw'; go_simp; (try with_reducible rfl)
          simp only [Act.put, List.setIfInBounds_toArray, List.set_cons_zero, List.set_cons_succ]
          refine until_one 6 rfl (by kernel_rfl) rfl (fun K hK => ?_)
          go_simp
          go_at_call 22
          refine (hCall.out Dw hfo hf0 (HT.out.below hWd.out HT.out.size)).mono ?_
          rintro e w5 ⟨rfl, hb5⟩
          have h5s := hb5.size
          have hS5 : (fun w' : World => w'.cell? ⟨N_s, 0, none⟩ = some (.int .i64 S.g) ∧ w'.cell? ⟨N_s, 1, none⟩ = some (.int .i64 S.c) ∧ w'.cell? ⟨N_s, 2, none⟩ = some (.int .i64 S.mn) ∧ w'.cell? ⟨N_s, 3, none⟩ = some (.int .i64 S.mx) ∧ w'.cell? ⟨b, off + k2 * 4, none⟩ = some (.int .i64 f.n) ∧ w'.cell? ⟨b, off + k2 * 4 + 1, none⟩ = some (.int .i64 f.d) ∧ w'.cell? ⟨b, off + k2 * 4 + 2, none⟩ = some (.int .u64 (f.m : Nat)) ∧ w'.cell? ⟨b, off + k2 * 4 + 3, none⟩ = some (.int .i64 f.c) ∧ w'.cell? ⟨G, v, none⟩ = some (.int .i64 (cc : Nat))) w5 := ⟨(hb5.cell (p := ⟨N_s, 0, none⟩) (show N_s < Dw.heap.size by omega)).trans hS0.1, (hb5.cell (p := ⟨N_s, 1, none⟩) (show N_s < Dw.heap.size by omega)).trans hS0.2.1, (hb5.cell (p := ⟨N_s, 2, none⟩) (show N_s < Dw.heap.size by omega)).trans hS0.2.2.1, (hb5.cell (p := ⟨N_s, 3, none⟩) (show N_s < Dw.heap.size by omega)).trans hS0.2.2.2.1, (hb5.cell (p := ⟨b, off + k2 * 4, none⟩) (show b < Dw.heap.size by omega)).trans f0, (hb5.cell (p := ⟨b, off + k2 * 4 + 1, none⟩) (show b < Dw.heap.size by omega)).trans f1, (hb5.cell (p := ⟨b, off + k2 * 4 + 2, none⟩) (show b < Dw.heap.size by omega)).trans f2, (hb5.cell (p := ⟨b, off + k2 * 4 + 3, none⟩) (show b < Dw.heap.size by omega)).trans f3, (hb5.cell (p := ⟨G, v, none⟩) (show G < Dw.heap.size by omega)).trans g0⟩
          refine hK.out _ _ (fun _ => hS5) ?_
          clear hK K
          have hC5 : Blk w5 G (cnts (fitsL S (l0.take k2))) := (hb5.block _ (by omega)).trans HCd.out
          have hB5 : Below G W1 w5 := HBd.out.trans (hb5.mono (by omega))
          have z0 : w5.frozen? ⟨G, v, none⟩ = false := hC5.frozen
          clear f0 f1 f2 f3 g0 hS0 HCd HBd hb5
          refine until_take (v := ?_) 7 67 rfl rfl (by kernel_rfl) (by kernel_rfl) (by kernel_rfl) (by kernel_rfl) (fun _ _ _ h => h) ⟨by rfl, ?_⟩ hS5 ?_
          rotate_left
          · intro w' hw'; obtain ⟨x0, x1, x2, x3, x4, x5, x6, x7, x8⟩ := hw'; go_simp; (try with_reducible rfl)
          simp only [Act.put, List.setIfInBounds_toArray, List.set_cons_zero, List.set_cons_succ]
          refine until_take (v := ?_) 8 68 rfl rfl (by kernel_rfl) (by kernel_rfl) (by kernel_rfl) (by kernel_rfl) (fun _ _ _ h => h) ⟨by rfl, ?_⟩ hS5 ?_
          rotate_left
          · intro w' hw'; obtain ⟨x0, x1, x2, x3, x4, x5, x6, x7, x8⟩ := hw'; go_simp; (try with_reducible rfl)
          simp only [Act.put, List.setIfInBounds_toArray, List.set_cons_zero, List.set_cons_succ]
          refine until_take (v := ?_) 9 69 rfl rfl (by kernel_rfl) (by kernel_rfl) (by kernel_rfl) (by kernel_rfl) (fun _ _ _ h => h) ⟨by rfl, ?_⟩ hS5 ?_
          rotate_left
          · intro w' hw'; obtain ⟨x0, x1, x2, x3, x4, x5, x6, x7, x8⟩ := hw'; go_simp; (try with_reducible rfl)
          simp only [Act.put, List.setIfInBounds_toArray, List.set_cons_zero, List.set_cons_succ]
          refine until_take (v := ?_) 10 70 rfl rfl (by kernel_rfl) (by kernel_rfl) (by kernel_rfl) (by kernel_rfl) (fun _ _ _ h => h) ⟨by rfl, ?_⟩ hS5 ?_
          rotate_left
          · intro w' hw'; obtain ⟨x0, x1, x2, x3, x4, x5, x6, x7, x8⟩ := hw'; go_simp; (try with_reducible rfl)
          simp only [Act.put, List.setIfInBounds_toArray, List.set_cons_zero, List.set_cons_succ]
          refine until_one 11 rfl (by kernel_rfl) rfl (fun K hK => ?_)
          obtain ⟨_, _, _, _, _, _, _, _, x8⟩ := hS5
          go_simp
          refine hK.out _ _ (fun h => absurd h (by decide)) ?_
          clear hK K
          refine until_done (by kernel_rfl) ?_
          have hwr : IntKind.i64.wrap ((cc : Int) + 1) = (((cc + 1 : Nat)) : Int) := by rw [IntWalk.i64_in _ (by omega)]; simp
          rw [hwr]
          have hC6 := hC5.put (i := v) (cc + 1)
          rw [HST.out] at hC6
          have hB6 := hB5.setCell (p := ⟨G, v, none⟩) (Nat.le_refl _) (.int .i64 ((cc + 1 : Nat) : Int))
          have HC6 := Lib.hid hC6
          have HB6 := Lib.hid hB6
          clear hwr x8 z0 hC5 hB5 hC6 hB6
          generalize w5.setCell ⟨G, v, none⟩ (.int .i64 ((cc + 1 : Nat) : Int)) = w6 at HC6 HB6 ⊢
          go_wp2
          go_roundw
          case rel => exact ⟨k2 + 1, by go_num, by omega, HB6, HC6⟩
          case measure => simp [intOf]; omega
        · obtain rfl : k2 = n0 := by omega
          have t5 : decide (k2 < k2) = false := by simp
          have hfull2 : fitsL S (l0.take k2) = fitsL S l0 := by rw [List.take_of_length_le (by rw [H.out.2.2.2.2]; omega)]
          have hC0 := hC.out
          rw [hfull2] at hC0
          have hCc : ∀ v, v ≤ 16 → (cnts (fitsL S l0))[v]? = some (D.count v) := fun v hv => by rw [cnts_at _ hv, (HH.out.2.2.2.2.2.1).count_eq]
          have hKf : KeyAt wr mm ks := hK1.out.of_block (hB.out.block _ hml)
          have hBf : Hid (Below w.heap.size w wr) := Lib.hid (hW1B.out.trans (hB.out.mono hs9))
          obtain ⟨C, hCd⟩ : ∃ C, C = cnts (fitsL S l0) := ⟨_, rfl⟩
          rw [← hCd] at hC0 hCc
          have HC := Lib.hid hC0
          have HCc := Lib.hid hCc
          clear hC hC0 hCc hfull2 hCd hB hK1 B_s3 hW1B hlt
          obtain ⟨d, hd⟩ : ∃ d, ks.length = d + 1 := ⟨ks.length - 1, by omega⟩
          have hd15 : d ≤ 15 := by omega
          have hLen := len_keys hKf
          rw [hd, show (((d + 1 : Nat)) : Int) = (d : Int) + 1 by omega] at hLen
          have hfr : (D.take d).sum < k := HH.out.2.2.2.1 d (by omega)
          have hbig : ∀ j, j ≤ d → (D.take j).sum < k := fun j hj => Nat.lt_of_le_of_lt (take_sum_le D hj) hfr
          have HB := Lib.hid hbig
          have hDd := HH.out.2.2.2.2.1
          have HDd := Lib.hid hDd
          have hgt := HH.out.2.2.2.2.2.2.1
          have HGT := Lib.hid hgt
          clear hd hKf hfr hbig hDd hgt
          go_wp2_with fail
          clear hLen
          obtain ⟨W0, hW0⟩ : ∃ W, W = wr := ⟨_, rfl⟩
          rw [← hW0] at HC hBf ⊢
          clear hW0 hBs
          go_loopw [13, 14, 15] (fun a b c wr => ∃ (left j q n : Nat), a = .int .i64 left ∧ b = .int .i64 q ∧ c = .int .i64 n ∧ n ≤ 16 ∧ j + left = d ∧ Hid (q = (D.take j).sum) ∧ Hid (left = 0 ∨ j = gtC D n) ∧ wr = W0) (fun _ _ c _ => (intOf c).toNat)
          case atStart => exact ⟨d, 0, 0, 16, rfl, rfl, rfl, Nat.le_refl _, by omega, Lib.hid rfl, Lib.hid (.inr HGT.out.symm), rfl⟩
          case round =>
            obtain ⟨left, j, q, n, rfl, rfl, rfl, hn, hjl, hq, hj, hw⟩ := hrel
            obtain rfl : W0 = wr := hw.symm
            have hqk : q < k := by rw [hq.out]; exact HB.out j (by omega)
            by_cases hn0 : 0 < n
            · have t6 : decide (0 < n) = true := decide_eq_true hn0
              by_cases hl0 : 0 < left
              · have t7 : decide (0 < left) = true := decide_eq_true hl0
                obtain ⟨nn, rfl⟩ : ∃ m, n = m + 1 := ⟨n - 1, by omega⟩
                obtain ⟨cn, hcn⟩ : ∃ c, c = D.count (nn + 1) := ⟨_, rfl⟩
                obtain ⟨N, hN⟩ : ∃ N, N = nn + 1 := ⟨_, rfl⟩
                have g0 := HC.out.cell (HCc.out (nn + 1) hn)
                rw [← hcn] at g0
                have hcn70 : cn ≤ 70 := by
                  have h1 := List.count_le_length (a := nn + 1) (l := D)
                  rw [← hcn, HH.out.2.2.2.2.2.2.2.2.2] at h1
                  omega
                have HCN := Lib.hid hcn
                have HN := Lib.hid hN
                have hdn := gtC_down D nn
                rw [← hcn, ← hN] at hdn
                have HDN := Lib.hid hdn
                rw [← hN] at hn hn0 t6 g0 hj ⊢
                have j2 : (N : Int) < 17 := by omega
                have j3 : (0 : Int) ≤ (N : Int) := by omega
                have hgl := HC.out.lt
                have hj1 : j = gtC D N := by rcases hj.out with h | h; omega; exact h
                have HJ := Lib.hid hj1
                clear hcn hN hdn hj hj1
                go_wp2_with fail
                go_loopw [13, 14, 16] (fun a b c wr => ∃ (left j q kk : Nat), a = .int .i64 left ∧ b = .int .i64 q ∧ c = .int .i64 kk ∧ kk ≤ cn ∧ j + left = d ∧ Hid (q = (D.take j).sum) ∧ Hid (left = 0 ∨ j = gtC D N + kk) ∧ wr = W0) (fun _ _ c _ => cn - (intOf c).toNat)
                case atStart => exact ⟨left, j, q, 0, rfl, rfl, rfl, Nat.zero_le _, hjl, hq, Lib.hid (.inr HJ.out), rfl⟩
                case round =>
                  clear hjl hq hqk HJ hl0 t7
                  obtain ⟨left, j, q, kk, rfl, rfl, rfl, hkk, hjl, hq, hj, hw⟩ := hrel
                  obtain rfl : W0 = wr := hw.symm
                  have hqk : q < k := by rw [hq.out]; exact HB.out j (by omega)
                  by_cases hlt : kk < cn
                  · have t8 : decide (kk < cn) = true := decide_eq_true hlt
                    by_cases hl0 : 0 < left
                    · have t7 : decide (0 < left) = true := decide_eq_true hl0
                      obtain ⟨lf, rfl⟩ : ∃ m, left = m + 1 := ⟨left - 1, by omega⟩
                      have hjj : j = gtC D N + kk := by rcases hj.out with h | h; omega; exact h
                      have hat : D[j]? = some N := desc_at HDd.out (by omega) (by rw [HN.out, ← HCN.out, ← HN.out]; omega)
                      have HS : Hid (q + N = (D.take (j + 1)).sum) := Lib.hid (by rw [take_next hat, hq.out]; simp)
                      have HJ2 : Hid (lf = 0 ∨ j + 1 = gtC D N + (kk + 1)) := Lib.hid (.inr (by omega))
                      clear hjj hat hj hq
                      go_wp2
                      go_roundw
                      case rel => exact ⟨lf, j + 1, q + N, kk + 1, by go_num, by go_num, by go_num, by omega, by omega, HS, HJ2, (by first | rfl | trivial)⟩
                      case measure => simp [intOf]; omega
                    · have t7 : decide (0 < left) = false := decide_eq_false hl0
                      have hl00 : left = 0 := by omega
                      clear hj
                      go_wp2
                      go_roundw
                      case rel => exact ⟨left, j, q, nn, rfl, rfl, by rw [HN.out]; go_num, by have := HN.out; omega, hjl, hq, Lib.hid (.inl hl00), (by first | rfl | trivial)⟩
                      case measure => have := HN.out; simp [intOf]; omega
                  · have t8 : decide (kk < cn) = false := decide_eq_false hlt
                    have HJ2 : Hid (left = 0 ∨ j = gtC D nn) := Lib.hid (by rcases hj.out with h | h; exact .inl h; exact .inr (by rw [HDN.out]; omega))
                    clear hj
                    go_wp2
                    go_roundw
                    case rel => exact ⟨left, j, q, nn, rfl, rfl, by rw [HN.out]; go_num, by have := HN.out; omega, hjl, hq, HJ2, (by first | rfl | trivial)⟩
                    case measure => have := HN.out; simp [intOf]; omega
              · have t7 : decide (0 < left) = false := decide_eq_false hl0
                have t9 : decide (q < k) = true := decide_eq_true hqk
                clear hj hq
                go_wp2
                go_ret
                exact ⟨rfl, hBf.out⟩
            · have t6 : decide (0 < n) = false := decide_eq_false hn0
              have t9 : decide (q < k) = true := decide_eq_true hqk
              clear hj hq
              go_wp2
              go_ret
              exact ⟨rfl, hBf.out⟩

set_option maxRecDepth 100000 in
set_option maxHeartbeats 1000000 in
theorem lifted (os : Os) (started : os.Started) (H : Type) (enc : TypeId × Value → H) :
    ReturnsInHanded {} Tryd.checked os 5 .any (fun w args => (Rows.packFewSpec.pre enc Tryd.prog Tryd.f5 [] false w args ∧ laidMetH Tryd.prog laid1 w) ∧ sizedMet enc Tryd.prog Tryd.f5 (OpenSpec.ofChange Rows.packFewSpec) false w args)
      (Rows.packFewSpec.post enc Tryd.prog Tryd.f5 false true false false) := by
  refine returnsInHanded_of_change_and (C := Tryd.checked) (X := fun w _ => laidMetH Tryd.prog laid1 w) (fun _ _ _ hh h => h.of_heap hh) own started (by kernel_rfl) Tryd.func5
    (ChangeSpec.witness_shaped (enc := enc) (C := Tryd.checked) (os := os) (X := fun w _ => laidMetH Tryd.prog laid1 w) false (World.doorLaid Tryd.prog 400 os) #[.slice none 0 0, .agg #[.int .i64 0, .int .i64 0, .int .i64 0, .int .i64 0], .int .i64 0] 8 rfl (World.shaped_of_RefB (by kernel_rfl) (by kernel_rfl)) (by kernel_rfl) (by kernel_rfl) (by kernel_rfl) (door_met os _)) ?_
  intro W base args ds gs before hval0 hW _ _ hL _
  have hval : ∀ (j : Nat) t v, Tryd.f5.params[j]? = some t → args[j]? = some v → Value.okWide Tryd.prog W .any base t v := hval0
  have hW' := hW
  obtain ⟨p, q, hA0, hV, rfl, hfz, hnd⟩ := hW
  have hA : DataW.TrodAll enc Tryd.prog W 0 (fun _ => true) true Tryd.f5.params.toList args.toList ds p := hA0
  rw [Tryd.params5] at hA hval
  obtain ⟨v0, vs0, d0, ds0, p0, q0, hargs, rfl, rfl, h0, r0⟩ := trodAll_cons hA
  obtain ⟨v1, vs1, d1, ds1, p1, q1, rfl, rfl, rfl, h1, r1⟩ := trodAll_cons r0
  obtain ⟨v2, vs2, d2, ds2, p2, q2, rfl, rfl, rfl, h2, r2⟩ := trodAll_cons r1
  obtain ⟨rfl, rfl, rfl⟩ := trodAll_nil r2
  obtain rfl : args = #[v0, v1, v2] := by cases args; simp_all
  obtain ⟨rfl, rfl⟩ := trodVars_none hV
  have k0 := h0
  have lt0 : ∀ x ∈ p0, x.block < W.heap.size := by obtain ⟨m, hm⟩ := k0; exact DataW.trod_lt m _ _ _ hm
  obtain ⟨a0, c0, l0, rfl, lc0, mc0, v0, q0⟩ := view_of (hval 0 22 v0 rfl rfl) h0
  have k1 := h1
  have lt1 : ∀ x ∈ p1, x.block < W.heap.size := by obtain ⟨m, hm⟩ := k1; exact DataW.trod_lt m _ _ _ hm
  obtain ⟨g1, c1, mn1, mx1, rfl, w1⟩ := shape_of (hval 1 24 v1 rfl rfl) h1
  have k2 := h2
  have lt2 : ∀ x ∈ p2, x.block < W.heap.size := by obtain ⟨m, hm⟩ := k2; exact DataW.trod_lt m _ _ _ hm
  obtain ⟨a2, rfl, _, _, w2⟩ := open_int Tryd.underlying3 (hval 2 3 v2 rfl rfl) h2
  have hT := of_laid hL
  clear hL
  clear hA0 hval0
  refine (walk a0 c0 l0 g1 c1 mn1 mx1 a2 W v0 q0 lc0 mc0 w1 w2 hT).mono fun e W' ⟨he, bel⟩ => ?_
  subst he
  exact ⟨_, rfl, _, _, _, [], _, [], hW', trodAll_mk1 (shut_bool Tryd.underlying4 _), (trodAll_cons_mk (Below.trod laidOut (by kernel_rfl) (of_decide_eq_true (by kernel_rfl)) k0 bel lt0) (trodAll_cons_mk (Below.trod laidOut (by kernel_rfl) (of_decide_eq_true (by kernel_rfl)) k1 bel lt1) (trodAll_cons_mk (Below.trod laidOut (by kernel_rfl) (of_decide_eq_true (by kernel_rfl)) k2 bel lt2) trodAll_mk0))), rfl, bel.frame _, fun h => by cases h⟩

/-- THE ROW. -/
theorem row_holds : Rows.PackFewSaid :=
  OpenClaim.holds_of_wide 5 Tryd.f5 rfl rfl rfl rfl rfl rfl rfl ⟨rfl, rfl, rfl, rfl, rfl⟩ rfl rfl rfl rfl rfl (by kernel_rfl) Tryd.func5 (by kernel_rfl)
    (of_decide_eq_true (by kernel_rfl)) (by unfold Func.isWrapper; first | (rw [if_pos (by decide +kernel)]; kernel_rfl) | (rw [if_neg (by decide +kernel)]; exact ⟨rfl, rfl⟩))
    (fun os started H enc _ => lifted os started H enc)

/-- THE STATEMENT. -/
theorem card_holds : Rows.PackFewCardSaid :=
  Claim7.holds_tied_plain_at .later [] [.data] true (true, Rows.packFewCard.stood.harness.2) false
    row_holds (fun _ h => by cases h) (by kernel_rfl) (fun _ h => by cases h) packFew_row_tie rfl ⟨rfl, rfl⟩ (by kernel_rfl) rfl
    (fun f fn hf hfn => by
      obtain rfl : f = 5 := Option.some.inj ((show Tryd.prog.funcNamed Rows.packFewRow.func = some 5 by kernel_rfl).symm.trans hf) |>.symm
      obtain rfl : fn = Tryd.f5 := (Option.some.inj (Tryd.func5.symm.trans hfn)).symm
      exact ⟨by kernel_rfl, fun j t ht => by
        rw [Tryd.params5] at ht
        have hm : t ∈ [22, 24, 3] := by simpa using Array.mem_of_getElem? ht
        have hall : ([22, 24, 3].all fun u => !Tryd.prog.wantsStandIn u) = true := by kernel_rfl
        exact (show Tryd.prog.wantsStandIn t = false by simpa using List.all_eq_true.1 hall t hm)⟩)
    (by kernel_rfl)
end Go.Proofs.YtjbjjdcmkbigdaaDoor.packFew
