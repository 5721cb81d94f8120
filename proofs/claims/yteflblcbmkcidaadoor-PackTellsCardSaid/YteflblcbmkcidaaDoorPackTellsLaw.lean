/- Room in any view, and any members' places, are just the document's: the law PackTells answers true, at every input. The library's table of lowest units is as the program's text lays it (tied). -/
import Derived.Test.YteflblcbmkcidaaDoorPackRef
import Derived.SevenTiedAt
import Derived.Test.YteflblcbmkcidaaDoorTie
import Derived.Test.YteflblcbmkcidaaDoorCards
set_option linter.unusedVariables false
namespace Go.Proofs.YteflblcbmkcidaaDoor.packTells
open Go Go.ChangeShapes Go.WideShapes Go.ChangeAt Go.RowKit
set_option maxRecDepth 100000 in
set_option maxHeartbeats 16000000 in
theorem walk (a0 : Option Addr) (c0 : Nat) (l0 : List Fe) (g1 c1 mn1 mx1 : Int) (a2 : Int) (w : World) (v0 : Fes w w.heap.size a0 l0) (q0 : ∀ s ∈ l0, FeOk s) (lc0 : l0.length ≤ c0) (mc0 : c0 ≤ maxLen) (w1 : Shp.Wf ⟨g1, c1, mn1, mx1⟩) (w2 : (Lit.int .i64 a2).wf = true) (hT : Tab w) :
    Calls Tryd.prog 3 #[.slice a0 l0.length c0, .agg #[.int .i64 g1, .int .i64 c1, .int .i64 mn1, .int .i64 mx1], .int .i64 a2] w fun e w' => e = .returned (.bool true) ∧ Below w.heap.size w w' := by
  obtain ⟨S, hS⟩ : ∃ S : Shp, S = ⟨g1, c1, mn1, mx1⟩ := ⟨_, rfl⟩
  have e1 : g1 = S.g := by rw [hS]
  have e2 : c1 = S.c := by rw [hS]
  have e3 : mn1 = S.mn := by rw [hS]
  have e4 : mx1 = S.mx := by rw [hS]
  rw [← hS] at w1
  rw [e1, e2, e3, e4]
  clear hS e1 e2 e3 e4
  have HT := Lib.hid hT
  have hAw := Lib.hid (fun W (hT : Tab W) => awake_p W hT)
  have hFw := Lib.hid (fun W (hW : Below w.heap.size w W) => fewp_any a0 c0 W.heap.size l0 W (fes_up v0 (Nat.le_refl _) hW) (Nat.le_refl _) lc0)
  cases hv : viewL l0
  · rw [hv] at hFw
    obtain ⟨n0, hn0⟩ : ∃ n, l0.length = n := ⟨_, rfl⟩
    rw [hn0] at hFw ⊢
    clear hn0 hv v0 q0 lc0 w1 hT w2
    have HBel := Lib.hid (Below.refl w.heap.size w)
    have hlow : w.heap.size ≤ w.heap.size := Nat.le_refl _
    go_enter Tryd.func3, Tryd.ntmps3
    go_wp2_with fail
    obtain ⟨V1, hV1⟩ : ∃ W, W = w.alloc (.cells #[.int .i64 S.g, .int .i64 S.c, .int .i64 S.mn, .int .i64 S.mx] 24) := ⟨_, rfl⟩
    rw [← hV1]
    have hzV1 : V1.heap.size = w.heap.size + 1 := by rw [hV1]; simp
    replace HBel : Hid (Below w.heap.size w V1) := Lib.hid (by rw [hV1]; exact (HBel.out.alloc (hlow) _))
    have B_s : Hid (V1.heap[w.heap.size]? = some (.cells #[.int .i64 S.g, .int .i64 S.c, .int .i64 S.mn, .int .i64 S.mx] 24 (0, 0))) := Lib.hid (by
      have h9 := heap_alloc_new (w) (.cells #[.int .i64 S.g, .int .i64 S.c, .int .i64 S.mn, .int .i64 S.mx] 24)
      rw [hV1]; exact h9)
    obtain ⟨N_s, hN_s⟩ : ∃ N, N = w.heap.size := ⟨_, rfl⟩
    (try rw [← hN_s])
    rw [← hN_s] at B_s
    have l_s : N_s < V1.heap.size := by omega
    have g_s : w.heap.size ≤ N_s := by omega
    replace hlow : w.heap.size ≤ V1.heap.size := by omega
    clear hV1 hzV1 hN_s
    refine (hAw.out V1 (HT.out.below HBel.out HT.out.size)).mono ?_
    rintro e U2 ⟨rfl, hb9⟩
    have hs9 := hb9.size
    replace HBel := Lib.hid (HBel.out.trans (hb9.mono hlow))
    replace B_s : Hid (U2.heap[N_s]? = some (.cells #[.int .i64 S.g, .int .i64 S.c, .int .i64 S.mn, .int .i64 S.mx] 24 (0, 0))) := Lib.hid ((hb9.block _ l_s).trans B_s.out)
    replace l_s : N_s < U2.heap.size := by omega
    replace hlow : w.heap.size ≤ U2.heap.size := by omega
    clear hb9 hs9
    go_wp2_with fail
    refine (hFw.out U2 HBel.out).mono ?_
    rintro e U3 ⟨rfl, hb9⟩
    have hs9 := hb9.size
    replace HBel := Lib.hid (HBel.out.trans (hb9.mono hlow))
    replace B_s : Hid (U3.heap[N_s]? = some (.cells #[.int .i64 S.g, .int .i64 S.c, .int .i64 S.mn, .int .i64 S.mx] 24 (0, 0))) := Lib.hid ((hb9.block _ l_s).trans B_s.out)
    replace l_s : N_s < U3.heap.size := by omega
    replace hlow : w.heap.size ≤ U3.heap.size := by omega
    clear hb9 hs9
    go_wp2
    go_ret
    exact ⟨rfl, HBel.out⟩
  have hlen : l0.length ≤ 70 := by unfold viewL at hv; simp at hv; exact hv.1
  have hc0 : ∀ f ∈ l0, FeOk f ∧ 0 ≤ f.c := fun f hf => ⟨q0 f hf, by
    obtain ⟨k, hx⟩ := List.mem_iff_getElem?.1 hf
    have hvv := hv
    unfold viewL at hvv
    rw [Bool.and_eq_true] at hvv
    have h2 := hvv.2
    unfold rightL at h2
    rw [List.all_eq_true] at h2
    have h3 := h2 k (by simpa using (List.getElem?_eq_some_iff.1 hx).1)
    unfold okAt at h3
    rw [hx] at h3
    simp only [Bool.and_eq_true, decide_eq_true_eq] at h3
    have h4 := h3.1
    unfold cpuOk at h4
    simp at h4
    omega⟩
  obtain ⟨n0, hn0⟩ : ∃ n, l0.length = n := ⟨_, rfl⟩
  have H := Lib.hid (And.intro v0 (And.intro q0 (And.intro w1 (And.intro hT (And.intro hn0 hc0)))))
  rw [hv] at hFw
  rw [hn0] at hFw hlen lc0 ⊢
  obtain ⟨r, hr⟩ : ∃ r, r = roomF S l0 := ⟨_, rfl⟩
  have hR1 := Lib.hid (fun W (hW : Below w.heap.size w W) => show Calls Tryd.prog 8 #[.slice a0 n0 c0, .agg #[.int .i64 S.g, .int .i64 S.c, .int .i64 S.mn, .int .i64 S.mx]] W (fun e w' => e = .returned (.int .i64 (r : Nat)) ∧ Below W.heap.size W w') from (by
    have h9 := room_any a0 c0 W.heap.size l0 S W (fes_up H.out.1 (Nat.le_refl _) hW) (Nat.le_refl _) (by omega) H.out.2.2.1 H.out.2.1 (H.out.2.2.2.1.below hW H.out.2.2.2.1.size)
    rw [hn0, ← hr] at h9; exact h9))
  have hR2 := Lib.hid (fun W (hW : Below w.heap.size w W) => show Calls Tryd.prog 9 #[.slice a0 n0 c0, .agg #[.int .i64 S.g, .int .i64 S.c, .int .i64 S.mn, .int .i64 S.mx]] W (fun e w' => e = .returned (.int .i64 (r : Nat)) ∧ Below W.heap.size W w') from (by
    have h9 := refroom_any a0 c0 W.heap.size l0 S W (fes_up H.out.1 (Nat.le_refl _) hW) (Nat.le_refl _) (by omega) H.out.2.2.1 H.out.2.2.2.2.2 (H.out.2.2.2.1.below hW H.out.2.2.2.1.size)
    rw [hn0, ← hr] at h9; exact h9))
  have tr : ((r : Int) == (r : Int)) = true := by simp
  have hS0 := Lib.hid (fun W => show Calls Tryd.prog 10 #[.slice none 0 0, .slice none 0 0] W (fun e w' => e = .returned (.bool true) ∧ Below W.heap.size W w') from same_slots none none 0 0 W.heap.size [] W (.inl rfl) (.inl rfl) (by simp))
  obtain ⟨b1, b2⟩ := bounds_i64 w2
  by_cases hbad : S.ok = false ∨ a2 < 1 ∨ 16 < a2
  · have hP := Lib.hid (fun W => place_bad a0 n0 c0 S a2 W w1 hbad)
    have hQ := Lib.hid (fun W => refplace_bad a0 n0 c0 S a2 W w1 w2 hbad)
    unfold shV at hP hQ
    clear hn0 hv hbad b1 b2 v0 q0 w1 hT w2 hr hc0
    have HBel := Lib.hid (Below.refl w.heap.size w)
    have hlow : w.heap.size ≤ w.heap.size := Nat.le_refl _
    go_enter Tryd.func3, Tryd.ntmps3
    go_wp2_with fail
    obtain ⟨V1, hV1⟩ : ∃ W, W = w.alloc (.cells #[.int .i64 S.g, .int .i64 S.c, .int .i64 S.mn, .int .i64 S.mx] 24) := ⟨_, rfl⟩
    rw [← hV1]
    have hzV1 : V1.heap.size = w.heap.size + 1 := by rw [hV1]; simp
    replace HBel : Hid (Below w.heap.size w V1) := Lib.hid (by rw [hV1]; exact (HBel.out.alloc (hlow) _))
    have B_s : Hid (V1.heap[w.heap.size]? = some (.cells #[.int .i64 S.g, .int .i64 S.c, .int .i64 S.mn, .int .i64 S.mx] 24 (0, 0))) := Lib.hid (by
      have h9 := heap_alloc_new (w) (.cells #[.int .i64 S.g, .int .i64 S.c, .int .i64 S.mn, .int .i64 S.mx] 24)
      rw [hV1]; exact h9)
    obtain ⟨N_s, hN_s⟩ : ∃ N, N = w.heap.size := ⟨_, rfl⟩
    (try rw [← hN_s])
    rw [← hN_s] at B_s
    have l_s : N_s < V1.heap.size := by omega
    have g_s : w.heap.size ≤ N_s := by omega
    replace hlow : w.heap.size ≤ V1.heap.size := by omega
    clear hV1 hzV1 hN_s
    refine (hAw.out V1 (HT.out.below HBel.out HT.out.size)).mono ?_
    rintro e U2 ⟨rfl, hb9⟩
    have hs9 := hb9.size
    replace HBel := Lib.hid (HBel.out.trans (hb9.mono hlow))
    replace B_s : Hid (U2.heap[N_s]? = some (.cells #[.int .i64 S.g, .int .i64 S.c, .int .i64 S.mn, .int .i64 S.mx] 24 (0, 0))) := Lib.hid ((hb9.block _ l_s).trans B_s.out)
    replace l_s : N_s < U2.heap.size := by omega
    replace hlow : w.heap.size ≤ U2.heap.size := by omega
    clear hb9 hs9
    go_wp2_with fail
    refine (hFw.out U2 HBel.out).mono ?_
    rintro e U3 ⟨rfl, hb9⟩
    have hs9 := hb9.size
    replace HBel := Lib.hid (HBel.out.trans (hb9.mono hlow))
    replace B_s : Hid (U3.heap[N_s]? = some (.cells #[.int .i64 S.g, .int .i64 S.c, .int .i64 S.mn, .int .i64 S.mx] 24 (0, 0))) := Lib.hid ((hb9.block _ l_s).trans B_s.out)
    replace l_s : N_s < U3.heap.size := by omega
    replace hlow : w.heap.size ≤ U3.heap.size := by omega
    clear hb9 hs9
    have s0 : U3.cell? ⟨N_s, 0, none⟩ = some (.int .i64 S.g) := cell_blk (i := 0) B_s.out rfl
    have s1 : U3.cell? ⟨N_s, 1, none⟩ = some (.int .i64 S.c) := cell_blk (i := 1) B_s.out rfl
    have s2 : U3.cell? ⟨N_s, 2, none⟩ = some (.int .i64 S.mn) := cell_blk (i := 2) B_s.out rfl
    have s3 : U3.cell? ⟨N_s, 3, none⟩ = some (.int .i64 S.mx) := cell_blk (i := 3) B_s.out rfl
    go_wp2_with fail
    refine (hP.out _).mono ?_
    rintro e U4 ⟨rfl, hb9⟩
    clear s0 s1 s2 s3
    have hs9 := hb9.size
    replace HBel := Lib.hid (HBel.out.trans (hb9.mono hlow))
    replace B_s : Hid (U4.heap[N_s]? = some (.cells #[.int .i64 S.g, .int .i64 S.c, .int .i64 S.mn, .int .i64 S.mx] 24 (0, 0))) := Lib.hid ((hb9.block _ l_s).trans B_s.out)
    replace l_s : N_s < U4.heap.size := by omega
    replace hlow : w.heap.size ≤ U4.heap.size := by omega
    clear hb9 hs9
    have s0 : U4.cell? ⟨N_s, 0, none⟩ = some (.int .i64 S.g) := cell_blk (i := 0) B_s.out rfl
    have s1 : U4.cell? ⟨N_s, 1, none⟩ = some (.int .i64 S.c) := cell_blk (i := 1) B_s.out rfl
    have s2 : U4.cell? ⟨N_s, 2, none⟩ = some (.int .i64 S.mn) := cell_blk (i := 2) B_s.out rfl
    have s3 : U4.cell? ⟨N_s, 3, none⟩ = some (.int .i64 S.mx) := cell_blk (i := 3) B_s.out rfl
    go_wp2_with fail
    refine (hQ.out _).mono ?_
    rintro e U5 ⟨rfl, hb9⟩
    clear s0 s1 s2 s3
    have hs9 := hb9.size
    replace HBel := Lib.hid (HBel.out.trans (hb9.mono hlow))
    replace B_s : Hid (U5.heap[N_s]? = some (.cells #[.int .i64 S.g, .int .i64 S.c, .int .i64 S.mn, .int .i64 S.mx] 24 (0, 0))) := Lib.hid ((hb9.block _ l_s).trans B_s.out)
    replace l_s : N_s < U5.heap.size := by omega
    replace hlow : w.heap.size ≤ U5.heap.size := by omega
    clear hb9 hs9
    have s0 : U5.cell? ⟨N_s, 0, none⟩ = some (.int .i64 S.g) := cell_blk (i := 0) B_s.out rfl
    have s1 : U5.cell? ⟨N_s, 1, none⟩ = some (.int .i64 S.c) := cell_blk (i := 1) B_s.out rfl
    have s2 : U5.cell? ⟨N_s, 2, none⟩ = some (.int .i64 S.mn) := cell_blk (i := 2) B_s.out rfl
    have s3 : U5.cell? ⟨N_s, 3, none⟩ = some (.int .i64 S.mx) := cell_blk (i := 3) B_s.out rfl
    go_wp2
    clear s0 s1 s2 s3
    have s0 : U5.cell? ⟨N_s, 0, none⟩ = some (.int .i64 S.g) := cell_blk (i := 0) B_s.out rfl
    have s1 : U5.cell? ⟨N_s, 1, none⟩ = some (.int .i64 S.c) := cell_blk (i := 1) B_s.out rfl
    have s2 : U5.cell? ⟨N_s, 2, none⟩ = some (.int .i64 S.mn) := cell_blk (i := 2) B_s.out rfl
    have s3 : U5.cell? ⟨N_s, 3, none⟩ = some (.int .i64 S.mx) := cell_blk (i := 3) B_s.out rfl
    refine held_begin (fun w' : World => w'.cell? ⟨N_s, 0, none⟩ = some (.int .i64 S.g) ∧ w'.cell? ⟨N_s, 1, none⟩ = some (.int .i64 S.c) ∧ w'.cell? ⟨N_s, 2, none⟩ = some (.int .i64 S.mn) ∧ w'.cell? ⟨N_s, 3, none⟩ = some (.int .i64 S.mx)) (by kernel_rfl) ?_
    have hBh0 : Below U5.heap.size U5 U5.drew := (Below.refl _ _).drew
    have hSh0 : (fun w' : World => w'.cell? ⟨N_s, 0, none⟩ = some (.int .i64 S.g) ∧ w'.cell? ⟨N_s, 1, none⟩ = some (.int .i64 S.c) ∧ w'.cell? ⟨N_s, 2, none⟩ = some (.int .i64 S.mn) ∧ w'.cell? ⟨N_s, 3, none⟩ = some (.int .i64 S.mx)) U5.drew := ⟨s0, s1, s2, s3⟩
    refine held_take (v := ?_) 0 30 rfl rfl (by kernel_rfl) (by kernel_rfl) (by kernel_rfl) (fun _ _ _ h => h) ⟨by rfl, ?_⟩ hSh0 ?_
    rotate_left
    · intro w' hw'; obtain ⟨x0, x1, x2, x3⟩ := hw'; go_simp; (try with_reducible rfl)
    simp only [Act.put, List.setIfInBounds_toArray, List.set_cons_zero, List.set_cons_succ]
    refine held_take (v := ?_) 1 31 rfl rfl (by kernel_rfl) (by kernel_rfl) (by kernel_rfl) (fun _ _ _ h => h) ⟨by rfl, ?_⟩ hSh0 ?_
    rotate_left
    · intro w' hw'; obtain ⟨x0, x1, x2, x3⟩ := hw'; go_simp; (try with_reducible rfl)
    simp only [Act.put, List.setIfInBounds_toArray, List.set_cons_zero, List.set_cons_succ]
    refine held_take (v := ?_) 3 33 rfl rfl (by kernel_rfl) (by kernel_rfl) (by kernel_rfl) (fun _ _ _ h => h) ⟨by rfl, ?_⟩ hSh0 ?_
    rotate_left
    · intro w' hw'; obtain ⟨x0, x1, x2, x3⟩ := hw'; go_simp; (try with_reducible rfl)
    simp only [Act.put, List.setIfInBounds_toArray, List.set_cons_zero, List.set_cons_succ]
    refine held_take (v := ?_) 4 34 rfl rfl (by kernel_rfl) (by kernel_rfl) (by kernel_rfl) (fun _ _ _ h => h) ⟨by rfl, ?_⟩ hSh0 ?_
    rotate_left
    · intro w' hw'; obtain ⟨x0, x1, x2, x3⟩ := hw'; go_simp; (try with_reducible rfl)
    simp only [Act.put, List.setIfInBounds_toArray, List.set_cons_zero, List.set_cons_succ]
    refine held_one 2 rfl (by kernel_rfl) (by rfl) (fun K hK => ?_)
    go_simp
    go_at_call 8
    refine (hR1.out _ (HBel.out.trans (hBh0.mono hlow))).mono ?_
    rintro e wh1 ⟨rfl, hbh1⟩
    have hBh1 : Below U5.heap.size U5 wh1 := below_step hBh0 hbh1
    have hSh1 : (fun w' : World => w'.cell? ⟨N_s, 0, none⟩ = some (.int .i64 S.g) ∧ w'.cell? ⟨N_s, 1, none⟩ = some (.int .i64 S.c) ∧ w'.cell? ⟨N_s, 2, none⟩ = some (.int .i64 S.mn) ∧ w'.cell? ⟨N_s, 3, none⟩ = some (.int .i64 S.mx)) wh1 := ⟨(hBh1.cell (p := ⟨N_s, 0, none⟩) (show N_s < U5.heap.size by omega)).trans s0, (hBh1.cell (p := ⟨N_s, 1, none⟩) (show N_s < U5.heap.size by omega)).trans s1, (hBh1.cell (p := ⟨N_s, 2, none⟩) (show N_s < U5.heap.size by omega)).trans s2, (hBh1.cell (p := ⟨N_s, 3, none⟩) (show N_s < U5.heap.size by omega)).trans s3⟩
    refine hK.out _ _ hSh1 ?_
    clear hK K
    refine held_one 5 rfl (by kernel_rfl) (by rfl) (fun K hK => ?_)
    go_simp
    go_at_call 9
    refine (hR2.out _ (HBel.out.trans (hBh1.mono hlow))).mono ?_
    rintro e wh2 ⟨rfl, hbh2⟩
    have hBh2 : Below U5.heap.size U5 wh2 := below_step hBh1 hbh2
    have hSh2 : (fun w' : World => w'.cell? ⟨N_s, 0, none⟩ = some (.int .i64 S.g) ∧ w'.cell? ⟨N_s, 1, none⟩ = some (.int .i64 S.c) ∧ w'.cell? ⟨N_s, 2, none⟩ = some (.int .i64 S.mn) ∧ w'.cell? ⟨N_s, 3, none⟩ = some (.int .i64 S.mx)) wh2 := ⟨(hBh2.cell (p := ⟨N_s, 0, none⟩) (show N_s < U5.heap.size by omega)).trans s0, (hBh2.cell (p := ⟨N_s, 1, none⟩) (show N_s < U5.heap.size by omega)).trans s1, (hBh2.cell (p := ⟨N_s, 2, none⟩) (show N_s < U5.heap.size by omega)).trans s2, (hBh2.cell (p := ⟨N_s, 3, none⟩) (show N_s < U5.heap.size by omega)).trans s3⟩
    refine hK.out _ _ hSh2 ?_
    clear hK K
    refine held_take (v := ?_) 6 36 rfl rfl (by kernel_rfl) (by kernel_rfl) (by kernel_rfl) (fun _ _ _ h => h) ⟨by rfl, ?_⟩ hSh2 ?_
    rotate_left
    · intro w' hw'; obtain ⟨x0, x1, x2, x3⟩ := hw'; go_simp; (try with_reducible rfl)
    simp only [Act.put, List.setIfInBounds_toArray, List.set_cons_zero, List.set_cons_succ]
    refine held_take (v := ?_) 7 37 rfl rfl (by kernel_rfl) (by kernel_rfl) (by kernel_rfl) (fun _ _ _ h => h) ⟨by rfl, ?_⟩ hSh2 ?_
    rotate_left
    · intro w' hw'; obtain ⟨x0, x1, x2, x3⟩ := hw'; go_simp; (try with_reducible rfl)
    simp only [Act.put, List.setIfInBounds_toArray, List.set_cons_zero, List.set_cons_succ]
    refine held_take (v := ?_) 8 38 rfl rfl (by kernel_rfl) (by kernel_rfl) (by kernel_rfl) (fun _ _ _ h => h) ⟨by rfl, ?_⟩ hSh2 ?_
    rotate_left
    · intro w' hw'; obtain ⟨x0, x1, x2, x3⟩ := hw'; go_simp; (try with_reducible rfl)
    simp only [Act.put, List.setIfInBounds_toArray, List.set_cons_zero, List.set_cons_succ]
    refine held_take (v := ?_) 9 39 rfl rfl (by kernel_rfl) (by kernel_rfl) (by kernel_rfl) (fun _ _ _ h => h) ⟨by rfl, ?_⟩ hSh2 ?_
    rotate_left
    · intro w' hw'; obtain ⟨x0, x1, x2, x3⟩ := hw'; go_simp; (try with_reducible rfl)
    simp only [Act.put, List.setIfInBounds_toArray, List.set_cons_zero, List.set_cons_succ]
    refine held_one 10 rfl (by kernel_rfl) (by rfl) (fun K hK => ?_)
    go_simp
    go_at_call 10
    refine (hS0.out _).mono ?_
    rintro e wh3 ⟨rfl, hbh3⟩
    have hBh3 : Below U5.heap.size U5 wh3 := below_step hBh2 hbh3
    have hSh3 : (fun w' : World => w'.cell? ⟨N_s, 0, none⟩ = some (.int .i64 S.g) ∧ w'.cell? ⟨N_s, 1, none⟩ = some (.int .i64 S.c) ∧ w'.cell? ⟨N_s, 2, none⟩ = some (.int .i64 S.mn) ∧ w'.cell? ⟨N_s, 3, none⟩ = some (.int .i64 S.mx)) wh3 := ⟨(hBh3.cell (p := ⟨N_s, 0, none⟩) (show N_s < U5.heap.size by omega)).trans s0, (hBh3.cell (p := ⟨N_s, 1, none⟩) (show N_s < U5.heap.size by omega)).trans s1, (hBh3.cell (p := ⟨N_s, 2, none⟩) (show N_s < U5.heap.size by omega)).trans s2, (hBh3.cell (p := ⟨N_s, 3, none⟩) (show N_s < U5.heap.size by omega)).trans s3⟩
    refine hK.out _ _ hSh3 ?_
    clear hK K
    refine held_take (v := ?_) 11 41 rfl rfl (by kernel_rfl) (by kernel_rfl) (by kernel_rfl) (fun _ _ _ h => h) ⟨by rfl, ?_⟩ hSh3 ?_
    rotate_left
    · intro w' hw'; obtain ⟨x0, x1, x2, x3⟩ := hw'; go_simp; (try with_reducible rfl)
    simp only [Act.put, List.setIfInBounds_toArray, List.set_cons_zero, List.set_cons_succ]
    refine held_take (v := ?_) 12 42 rfl rfl (by kernel_rfl) (by kernel_rfl) (by kernel_rfl) (fun _ _ _ h => h) ⟨by rfl, ?_⟩ hSh3 ?_
    rotate_left
    · intro w' hw'; obtain ⟨x0, x1, x2, x3⟩ := hw'; go_simp; (try with_reducible rfl)
    simp only [Act.put, List.setIfInBounds_toArray, List.set_cons_zero, List.set_cons_succ]
    refine held_take (v := ?_) 13 43 rfl rfl (by kernel_rfl) (by kernel_rfl) (by kernel_rfl) (fun _ _ _ h => h) ⟨by rfl, ?_⟩ hSh3 ?_
    rotate_left
    · intro w' hw'; obtain ⟨x0, x1, x2, x3⟩ := hw'; go_simp; (try with_reducible rfl)
    simp only [Act.put, List.setIfInBounds_toArray, List.set_cons_zero, List.set_cons_succ]
    refine held_take (v := ?_) 14 44 rfl rfl (by kernel_rfl) (by kernel_rfl) (by kernel_rfl) (fun _ _ _ h => h) ⟨by rfl, ?_⟩ hSh3 ?_
    rotate_left
    · intro w' hw'; obtain ⟨x0, x1, x2, x3⟩ := hw'; go_simp; (try with_reducible rfl)
    simp only [Act.put, List.setIfInBounds_toArray, List.set_cons_zero, List.set_cons_succ]
    refine held_take (v := ?_) 15 45 rfl rfl (by kernel_rfl) (by kernel_rfl) (by kernel_rfl) (fun _ _ _ h => h) ⟨by rfl, ?_⟩ hSh3 ?_
    rotate_left
    · intro w' hw'; obtain ⟨x0, x1, x2, x3⟩ := hw'; go_simp; (try with_reducible rfl)
    simp only [Act.put, List.setIfInBounds_toArray, List.set_cons_zero, List.set_cons_succ]
    refine held_take (v := ?_) 16 46 rfl rfl (by kernel_rfl) (by kernel_rfl) (by kernel_rfl) (fun _ _ _ h => h) ⟨by rfl, ?_⟩ hSh3 ?_
    rotate_left
    · intro w' hw'; obtain ⟨x0, x1, x2, x3⟩ := hw'; go_simp; (try with_reducible rfl)
    simp only [Act.put, List.setIfInBounds_toArray, List.set_cons_zero, List.set_cons_succ]
    refine held_take (v := ?_) 17 6 rfl rfl (by kernel_rfl) (by kernel_rfl) (by kernel_rfl) (fun _ _ _ h => h) ⟨by rfl, ?_⟩ hSh3 ?_
    rotate_left
    · intro w' hw'; obtain ⟨x0, x1, x2, x3⟩ := hw'; go_simp; (try with_reducible rfl)
    simp only [Act.put, List.setIfInBounds_toArray, List.set_cons_zero, List.set_cons_succ]
    refine wpAnyH_done (by kernel_rfl) ?_ _
    have hb9 := hBh3
    clear s0 s1 s2 s3
    have hs9 := hb9.size
    replace HBel := Lib.hid (HBel.out.trans (hb9.mono hlow))
    replace B_s : Hid (wh3.heap[N_s]? = some (.cells #[.int .i64 S.g, .int .i64 S.c, .int .i64 S.mn, .int .i64 S.mx] 24 (0, 0))) := Lib.hid ((hb9.block _ l_s).trans B_s.out)
    replace l_s : N_s < wh3.heap.size := by omega
    replace hlow : w.heap.size ≤ wh3.heap.size := by omega
    clear hb9 hs9 hSh0 hBh0 hSh1 hBh1 hSh2 hBh2 hSh3 hBh3
    go_wp2
    go_ret
    exact ⟨by simp, HBel.out⟩
  obtain ⟨p, rfl⟩ : ∃ p : Nat, a2 = p := ⟨a2.toNat, by omega⟩
  have hok : S.ok = true := by cases h : S.ok; exact absurd (.inl h) hbad; rfl
  have hp16 : p ≤ 16 := by omega
  have hp1 : 1 ≤ p := by omega
  by_cases hfull : roomF S l0 < p
  · have hP := Lib.hid (fun W (hW : Below w.heap.size w W) => show Calls Tryd.prog 6 #[.slice a0 n0 c0, .agg #[.int .i64 S.g, .int .i64 S.c, .int .i64 S.mn, .int .i64 S.mx], .int .i64 (p : Nat)] W (fun e w' => e = .returned (.tuple #[.slice none 0 0, .int .i64 7]) ∧ Below W.heap.size W w') from (by
      have h9 := place_full a0 c0 W.heap.size l0 S p W (fes_up H.out.1 (Nat.le_refl _) hW) (Nat.le_refl _) (by omega) H.out.2.2.1 H.out.2.1 (H.out.2.2.2.1.below hW H.out.2.2.2.1.size) hok hp1 hp16 hfull
      rw [hn0] at h9; exact h9))
    have hQ := Lib.hid (fun W (hW : Below w.heap.size w W) => show Calls Tryd.prog 7 #[.slice a0 n0 c0, .agg #[.int .i64 S.g, .int .i64 S.c, .int .i64 S.mn, .int .i64 S.mx], .int .i64 (p : Nat)] W (fun e w' => e = .returned (.tuple #[.slice none 0 0, .int .i64 7]) ∧ Below W.heap.size W w') from (by
      have h9 := refplace_full a0 c0 W.heap.size l0 S p W (fes_up H.out.1 (Nat.le_refl _) hW) (Nat.le_refl _) (by omega) H.out.2.2.1 H.out.2.2.2.2.2 (H.out.2.2.2.1.below hW H.out.2.2.2.1.size) hok hp1 hp16 hfull
      rw [hn0] at h9; exact h9))
    clear hn0 hv hbad b1 b2 v0 q0 w1 hT w2 hr hc0 hfull hok
    have HBel := Lib.hid (Below.refl w.heap.size w)
    have hlow : w.heap.size ≤ w.heap.size := Nat.le_refl _
    go_enter Tryd.func3, Tryd.ntmps3
    go_wp2_with fail
    obtain ⟨V1, hV1⟩ : ∃ W, W = w.alloc (.cells #[.int .i64 S.g, .int .i64 S.c, .int .i64 S.mn, .int .i64 S.mx] 24) := ⟨_, rfl⟩
    rw [← hV1]
    have hzV1 : V1.heap.size = w.heap.size + 1 := by rw [hV1]; simp
    replace HBel : Hid (Below w.heap.size w V1) := Lib.hid (by rw [hV1]; exact (HBel.out.alloc (hlow) _))
    have B_s : Hid (V1.heap[w.heap.size]? = some (.cells #[.int .i64 S.g, .int .i64 S.c, .int .i64 S.mn, .int .i64 S.mx] 24 (0, 0))) := Lib.hid (by
      have h9 := heap_alloc_new (w) (.cells #[.int .i64 S.g, .int .i64 S.c, .int .i64 S.mn, .int .i64 S.mx] 24)
      rw [hV1]; exact h9)
    obtain ⟨N_s, hN_s⟩ : ∃ N, N = w.heap.size := ⟨_, rfl⟩
    (try rw [← hN_s])
    rw [← hN_s] at B_s
    have l_s : N_s < V1.heap.size := by omega
    have g_s : w.heap.size ≤ N_s := by omega
    replace hlow : w.heap.size ≤ V1.heap.size := by omega
    clear hV1 hzV1 hN_s
    refine (hAw.out V1 (HT.out.below HBel.out HT.out.size)).mono ?_
    rintro e U2 ⟨rfl, hb9⟩
    have hs9 := hb9.size
    replace HBel := Lib.hid (HBel.out.trans (hb9.mono hlow))
    replace B_s : Hid (U2.heap[N_s]? = some (.cells #[.int .i64 S.g, .int .i64 S.c, .int .i64 S.mn, .int .i64 S.mx] 24 (0, 0))) := Lib.hid ((hb9.block _ l_s).trans B_s.out)
    replace l_s : N_s < U2.heap.size := by omega
    replace hlow : w.heap.size ≤ U2.heap.size := by omega
    clear hb9 hs9
    go_wp2_with fail
    refine (hFw.out U2 HBel.out).mono ?_
    rintro e U3 ⟨rfl, hb9⟩
    have hs9 := hb9.size
    replace HBel := Lib.hid (HBel.out.trans (hb9.mono hlow))
    replace B_s : Hid (U3.heap[N_s]? = some (.cells #[.int .i64 S.g, .int .i64 S.c, .int .i64 S.mn, .int .i64 S.mx] 24 (0, 0))) := Lib.hid ((hb9.block _ l_s).trans B_s.out)
    replace l_s : N_s < U3.heap.size := by omega
    replace hlow : w.heap.size ≤ U3.heap.size := by omega
    clear hb9 hs9
    have s0 : U3.cell? ⟨N_s, 0, none⟩ = some (.int .i64 S.g) := cell_blk (i := 0) B_s.out rfl
    have s1 : U3.cell? ⟨N_s, 1, none⟩ = some (.int .i64 S.c) := cell_blk (i := 1) B_s.out rfl
    have s2 : U3.cell? ⟨N_s, 2, none⟩ = some (.int .i64 S.mn) := cell_blk (i := 2) B_s.out rfl
    have s3 : U3.cell? ⟨N_s, 3, none⟩ = some (.int .i64 S.mx) := cell_blk (i := 3) B_s.out rfl
    go_wp2_with fail
    refine (hP.out U3 HBel.out).mono ?_
    rintro e U4 ⟨rfl, hb9⟩
    clear s0 s1 s2 s3
    have hs9 := hb9.size
    replace HBel := Lib.hid (HBel.out.trans (hb9.mono hlow))
    replace B_s : Hid (U4.heap[N_s]? = some (.cells #[.int .i64 S.g, .int .i64 S.c, .int .i64 S.mn, .int .i64 S.mx] 24 (0, 0))) := Lib.hid ((hb9.block _ l_s).trans B_s.out)
    replace l_s : N_s < U4.heap.size := by omega
    replace hlow : w.heap.size ≤ U4.heap.size := by omega
    clear hb9 hs9
    have s0 : U4.cell? ⟨N_s, 0, none⟩ = some (.int .i64 S.g) := cell_blk (i := 0) B_s.out rfl
    have s1 : U4.cell? ⟨N_s, 1, none⟩ = some (.int .i64 S.c) := cell_blk (i := 1) B_s.out rfl
    have s2 : U4.cell? ⟨N_s, 2, none⟩ = some (.int .i64 S.mn) := cell_blk (i := 2) B_s.out rfl
    have s3 : U4.cell? ⟨N_s, 3, none⟩ = some (.int .i64 S.mx) := cell_blk (i := 3) B_s.out rfl
    go_wp2_with fail
    refine (hQ.out U4 HBel.out).mono ?_
    rintro e U5 ⟨rfl, hb9⟩
    clear s0 s1 s2 s3
    have hs9 := hb9.size
    replace HBel := Lib.hid (HBel.out.trans (hb9.mono hlow))
    replace B_s : Hid (U5.heap[N_s]? = some (.cells #[.int .i64 S.g, .int .i64 S.c, .int .i64 S.mn, .int .i64 S.mx] 24 (0, 0))) := Lib.hid ((hb9.block _ l_s).trans B_s.out)
    replace l_s : N_s < U5.heap.size := by omega
    replace hlow : w.heap.size ≤ U5.heap.size := by omega
    clear hb9 hs9
    have s0 : U5.cell? ⟨N_s, 0, none⟩ = some (.int .i64 S.g) := cell_blk (i := 0) B_s.out rfl
    have s1 : U5.cell? ⟨N_s, 1, none⟩ = some (.int .i64 S.c) := cell_blk (i := 1) B_s.out rfl
    have s2 : U5.cell? ⟨N_s, 2, none⟩ = some (.int .i64 S.mn) := cell_blk (i := 2) B_s.out rfl
    have s3 : U5.cell? ⟨N_s, 3, none⟩ = some (.int .i64 S.mx) := cell_blk (i := 3) B_s.out rfl
    go_wp2
    clear s0 s1 s2 s3
    have s0 : U5.cell? ⟨N_s, 0, none⟩ = some (.int .i64 S.g) := cell_blk (i := 0) B_s.out rfl
    have s1 : U5.cell? ⟨N_s, 1, none⟩ = some (.int .i64 S.c) := cell_blk (i := 1) B_s.out rfl
    have s2 : U5.cell? ⟨N_s, 2, none⟩ = some (.int .i64 S.mn) := cell_blk (i := 2) B_s.out rfl
    have s3 : U5.cell? ⟨N_s, 3, none⟩ = some (.int .i64 S.mx) := cell_blk (i := 3) B_s.out rfl
    refine held_begin (fun w' : World => w'.cell? ⟨N_s, 0, none⟩ = some (.int .i64 S.g) ∧ w'.cell? ⟨N_s, 1, none⟩ = some (.int .i64 S.c) ∧ w'.cell? ⟨N_s, 2, none⟩ = some (.int .i64 S.mn) ∧ w'.cell? ⟨N_s, 3, none⟩ = some (.int .i64 S.mx)) (by kernel_rfl) ?_
    have hBh0 : Below U5.heap.size U5 U5.drew := (Below.refl _ _).drew
    have hSh0 : (fun w' : World => w'.cell? ⟨N_s, 0, none⟩ = some (.int .i64 S.g) ∧ w'.cell? ⟨N_s, 1, none⟩ = some (.int .i64 S.c) ∧ w'.cell? ⟨N_s, 2, none⟩ = some (.int .i64 S.mn) ∧ w'.cell? ⟨N_s, 3, none⟩ = some (.int .i64 S.mx)) U5.drew := ⟨s0, s1, s2, s3⟩
    refine held_take (v := ?_) 0 30 rfl rfl (by kernel_rfl) (by kernel_rfl) (by kernel_rfl) (fun _ _ _ h => h) ⟨by rfl, ?_⟩ hSh0 ?_
    rotate_left
    · intro w' hw'; obtain ⟨x0, x1, x2, x3⟩ := hw'; go_simp; (try with_reducible rfl)
    simp only [Act.put, List.setIfInBounds_toArray, List.set_cons_zero, List.set_cons_succ]
    refine held_take (v := ?_) 1 31 rfl rfl (by kernel_rfl) (by kernel_rfl) (by kernel_rfl) (fun _ _ _ h => h) ⟨by rfl, ?_⟩ hSh0 ?_
    rotate_left
    · intro w' hw'; obtain ⟨x0, x1, x2, x3⟩ := hw'; go_simp; (try with_reducible rfl)
    simp only [Act.put, List.setIfInBounds_toArray, List.set_cons_zero, List.set_cons_succ]
    refine held_take (v := ?_) 3 33 rfl rfl (by kernel_rfl) (by kernel_rfl) (by kernel_rfl) (fun _ _ _ h => h) ⟨by rfl, ?_⟩ hSh0 ?_
    rotate_left
    · intro w' hw'; obtain ⟨x0, x1, x2, x3⟩ := hw'; go_simp; (try with_reducible rfl)
    simp only [Act.put, List.setIfInBounds_toArray, List.set_cons_zero, List.set_cons_succ]
    refine held_take (v := ?_) 4 34 rfl rfl (by kernel_rfl) (by kernel_rfl) (by kernel_rfl) (fun _ _ _ h => h) ⟨by rfl, ?_⟩ hSh0 ?_
    rotate_left
    · intro w' hw'; obtain ⟨x0, x1, x2, x3⟩ := hw'; go_simp; (try with_reducible rfl)
    simp only [Act.put, List.setIfInBounds_toArray, List.set_cons_zero, List.set_cons_succ]
    refine held_one 2 rfl (by kernel_rfl) (by rfl) (fun K hK => ?_)
    go_simp
    go_at_call 8
    refine (hR1.out _ (HBel.out.trans (hBh0.mono hlow))).mono ?_
    rintro e wh1 ⟨rfl, hbh1⟩
    have hBh1 : Below U5.heap.size U5 wh1 := below_step hBh0 hbh1
    have hSh1 : (fun w' : World => w'.cell? ⟨N_s, 0, none⟩ = some (.int .i64 S.g) ∧ w'.cell? ⟨N_s, 1, none⟩ = some (.int .i64 S.c) ∧ w'.cell? ⟨N_s, 2, none⟩ = some (.int .i64 S.mn) ∧ w'.cell? ⟨N_s, 3, none⟩ = some (.int .i64 S.mx)) wh1 := ⟨(hBh1.cell (p := ⟨N_s, 0, none⟩) (show N_s < U5.heap.size by omega)).trans s0, (hBh1.cell (p := ⟨N_s, 1, none⟩) (show N_s < U5.heap.size by omega)).trans s1, (hBh1.cell (p := ⟨N_s, 2, none⟩) (show N_s < U5.heap.size by omega)).trans s2, (hBh1.cell (p := ⟨N_s, 3, none⟩) (show N_s < U5.heap.size by omega)).trans s3⟩
    refine hK.out _ _ hSh1 ?_
    clear hK K
    refine held_one 5 rfl (by kernel_rfl) (by rfl) (fun K hK => ?_)
    go_simp
    go_at_call 9
    refine (hR2.out _ (HBel.out.trans (hBh1.mono hlow))).mono ?_
    rintro e wh2 ⟨rfl, hbh2⟩
    have hBh2 : Below U5.heap.size U5 wh2 := below_step hBh1 hbh2
    have hSh2 : (fun w' : World => w'.cell? ⟨N_s, 0, none⟩ = some (.int .i64 S.g) ∧ w'.cell? ⟨N_s, 1, none⟩ = some (.int .i64 S.c) ∧ w'.cell? ⟨N_s, 2, none⟩ = some (.int .i64 S.mn) ∧ w'.cell? ⟨N_s, 3, none⟩ = some (.int .i64 S.mx)) wh2 := ⟨(hBh2.cell (p := ⟨N_s, 0, none⟩) (show N_s < U5.heap.size by omega)).trans s0, (hBh2.cell (p := ⟨N_s, 1, none⟩) (show N_s < U5.heap.size by omega)).trans s1, (hBh2.cell (p := ⟨N_s, 2, none⟩) (show N_s < U5.heap.size by omega)).trans s2, (hBh2.cell (p := ⟨N_s, 3, none⟩) (show N_s < U5.heap.size by omega)).trans s3⟩
    refine hK.out _ _ hSh2 ?_
    clear hK K
    refine held_take (v := ?_) 6 36 rfl rfl (by kernel_rfl) (by kernel_rfl) (by kernel_rfl) (fun _ _ _ h => h) ⟨by rfl, ?_⟩ hSh2 ?_
    rotate_left
    · intro w' hw'; obtain ⟨x0, x1, x2, x3⟩ := hw'; go_simp; (try with_reducible rfl)
    simp only [Act.put, List.setIfInBounds_toArray, List.set_cons_zero, List.set_cons_succ]
    refine held_take (v := ?_) 7 37 rfl rfl (by kernel_rfl) (by kernel_rfl) (by kernel_rfl) (fun _ _ _ h => h) ⟨by rfl, ?_⟩ hSh2 ?_
    rotate_left
    · intro w' hw'; obtain ⟨x0, x1, x2, x3⟩ := hw'; go_simp; (try with_reducible rfl)
    simp only [Act.put, List.setIfInBounds_toArray, List.set_cons_zero, List.set_cons_succ]
    refine held_take (v := ?_) 8 38 rfl rfl (by kernel_rfl) (by kernel_rfl) (by kernel_rfl) (fun _ _ _ h => h) ⟨by rfl, ?_⟩ hSh2 ?_
    rotate_left
    · intro w' hw'; obtain ⟨x0, x1, x2, x3⟩ := hw'; go_simp; (try with_reducible rfl)
    simp only [Act.put, List.setIfInBounds_toArray, List.set_cons_zero, List.set_cons_succ]
    refine held_take (v := ?_) 9 39 rfl rfl (by kernel_rfl) (by kernel_rfl) (by kernel_rfl) (fun _ _ _ h => h) ⟨by rfl, ?_⟩ hSh2 ?_
    rotate_left
    · intro w' hw'; obtain ⟨x0, x1, x2, x3⟩ := hw'; go_simp; (try with_reducible rfl)
    simp only [Act.put, List.setIfInBounds_toArray, List.set_cons_zero, List.set_cons_succ]
    refine held_one 10 rfl (by kernel_rfl) (by rfl) (fun K hK => ?_)
    go_simp
    go_at_call 10
    refine (hS0.out _).mono ?_
    rintro e wh3 ⟨rfl, hbh3⟩
    have hBh3 : Below U5.heap.size U5 wh3 := below_step hBh2 hbh3
    have hSh3 : (fun w' : World => w'.cell? ⟨N_s, 0, none⟩ = some (.int .i64 S.g) ∧ w'.cell? ⟨N_s, 1, none⟩ = some (.int .i64 S.c) ∧ w'.cell? ⟨N_s, 2, none⟩ = some (.int .i64 S.mn) ∧ w'.cell? ⟨N_s, 3, none⟩ = some (.int .i64 S.mx)) wh3 := ⟨(hBh3.cell (p := ⟨N_s, 0, none⟩) (show N_s < U5.heap.size by omega)).trans s0, (hBh3.cell (p := ⟨N_s, 1, none⟩) (show N_s < U5.heap.size by omega)).trans s1, (hBh3.cell (p := ⟨N_s, 2, none⟩) (show N_s < U5.heap.size by omega)).trans s2, (hBh3.cell (p := ⟨N_s, 3, none⟩) (show N_s < U5.heap.size by omega)).trans s3⟩
    refine hK.out _ _ hSh3 ?_
    clear hK K
    refine held_take (v := ?_) 11 41 rfl rfl (by kernel_rfl) (by kernel_rfl) (by kernel_rfl) (fun _ _ _ h => h) ⟨by rfl, ?_⟩ hSh3 ?_
    rotate_left
    · intro w' hw'; obtain ⟨x0, x1, x2, x3⟩ := hw'; go_simp; (try with_reducible rfl)
    simp only [Act.put, List.setIfInBounds_toArray, List.set_cons_zero, List.set_cons_succ]
    refine held_take (v := ?_) 12 42 rfl rfl (by kernel_rfl) (by kernel_rfl) (by kernel_rfl) (fun _ _ _ h => h) ⟨by rfl, ?_⟩ hSh3 ?_
    rotate_left
    · intro w' hw'; obtain ⟨x0, x1, x2, x3⟩ := hw'; go_simp; (try with_reducible rfl)
    simp only [Act.put, List.setIfInBounds_toArray, List.set_cons_zero, List.set_cons_succ]
    refine held_take (v := ?_) 13 43 rfl rfl (by kernel_rfl) (by kernel_rfl) (by kernel_rfl) (fun _ _ _ h => h) ⟨by rfl, ?_⟩ hSh3 ?_
    rotate_left
    · intro w' hw'; obtain ⟨x0, x1, x2, x3⟩ := hw'; go_simp; (try with_reducible rfl)
    simp only [Act.put, List.setIfInBounds_toArray, List.set_cons_zero, List.set_cons_succ]
    refine held_take (v := ?_) 14 44 rfl rfl (by kernel_rfl) (by kernel_rfl) (by kernel_rfl) (fun _ _ _ h => h) ⟨by rfl, ?_⟩ hSh3 ?_
    rotate_left
    · intro w' hw'; obtain ⟨x0, x1, x2, x3⟩ := hw'; go_simp; (try with_reducible rfl)
    simp only [Act.put, List.setIfInBounds_toArray, List.set_cons_zero, List.set_cons_succ]
    refine held_take (v := ?_) 15 45 rfl rfl (by kernel_rfl) (by kernel_rfl) (by kernel_rfl) (fun _ _ _ h => h) ⟨by rfl, ?_⟩ hSh3 ?_
    rotate_left
    · intro w' hw'; obtain ⟨x0, x1, x2, x3⟩ := hw'; go_simp; (try with_reducible rfl)
    simp only [Act.put, List.setIfInBounds_toArray, List.set_cons_zero, List.set_cons_succ]
    refine held_take (v := ?_) 16 46 rfl rfl (by kernel_rfl) (by kernel_rfl) (by kernel_rfl) (fun _ _ _ h => h) ⟨by rfl, ?_⟩ hSh3 ?_
    rotate_left
    · intro w' hw'; obtain ⟨x0, x1, x2, x3⟩ := hw'; go_simp; (try with_reducible rfl)
    simp only [Act.put, List.setIfInBounds_toArray, List.set_cons_zero, List.set_cons_succ]
    refine held_take (v := ?_) 17 6 rfl rfl (by kernel_rfl) (by kernel_rfl) (by kernel_rfl) (fun _ _ _ h => h) ⟨by rfl, ?_⟩ hSh3 ?_
    rotate_left
    · intro w' hw'; obtain ⟨x0, x1, x2, x3⟩ := hw'; go_simp; (try with_reducible rfl)
    simp only [Act.put, List.setIfInBounds_toArray, List.set_cons_zero, List.set_cons_succ]
    refine wpAnyH_done (by kernel_rfl) ?_ _
    have hb9 := hBh3
    clear s0 s1 s2 s3
    have hs9 := hb9.size
    replace HBel := Lib.hid (HBel.out.trans (hb9.mono hlow))
    replace B_s : Hid (wh3.heap[N_s]? = some (.cells #[.int .i64 S.g, .int .i64 S.c, .int .i64 S.mn, .int .i64 S.mx] 24 (0, 0))) := Lib.hid ((hb9.block _ l_s).trans B_s.out)
    replace l_s : N_s < wh3.heap.size := by omega
    replace hlow : w.heap.size ≤ wh3.heap.size := by omega
    clear hb9 hs9 hSh0 hBh0 hSh1 hBh1 hSh2 hBh2 hSh3 hBh3
    go_wp2
    go_ret
    exact ⟨by simp, HBel.out⟩
  have hP := Lib.hid (fun W (hW : Below w.heap.size w W) => show Calls Tryd.prog 6 #[.slice a0 n0 c0, .agg #[.int .i64 S.g, .int .i64 S.c, .int .i64 S.mn, .int .i64 S.mx], .int .i64 (p : Nat)] W (fun e w' => ∃ b off cap', e = .returned (.tuple #[.slice (some ⟨b, off, none⟩) p cap', .int .i64 0]) ∧ p ≤ cap' ∧ Below W.heap.size W w' ∧ Hid (Fes w' w'.heap.size (some ⟨b, off, none⟩) (placeF S l0 p))) from (by
    have h9 := place_row a0 c0 W.heap.size l0 S p W (fes_up H.out.1 (Nat.le_refl _) hW) (Nat.le_refl _) (by omega) H.out.2.2.1 H.out.2.1 (H.out.2.2.2.1.below hW H.out.2.2.2.1.size) hok hp1 hp16 (by omega)
    rw [hn0] at h9; exact h9))
  have hQ := Lib.hid (fun W (hW : Below w.heap.size w W) => show Calls Tryd.prog 7 #[.slice a0 n0 c0, .agg #[.int .i64 S.g, .int .i64 S.c, .int .i64 S.mn, .int .i64 S.mx], .int .i64 (p : Nat)] W (fun e w' => ∃ A' cap', e = .returned (.tuple #[.slice A' p cap', .int .i64 0]) ∧ Below W.heap.size W w' ∧ Hid (Fes w' w'.heap.size A' (placeF S l0 p))) from (by
    have h9 := refplace_ok a0 c0 W.heap.size l0 S p W (fes_up H.out.1 (Nat.le_refl _) hW) (Nat.le_refl _) (by omega) H.out.2.2.1 H.out.2.2.2.2.2 (H.out.2.2.2.1.below hW H.out.2.2.2.1.size) hok hp1 hp16 (by omega)
    rw [hn0] at h9; exact h9))
  have hSm := Lib.hid (fun (A1 A2 : Option Addr) (c1 c2 : Nat) W (h1 : Fes W W.heap.size A1 (placeF S l0 p)) (h2 : Fes W W.heap.size A2 (placeF S l0 p)) => show Calls Tryd.prog 10 #[.slice A1 p c1, .slice A2 p c2] W (fun e w' => e = .returned (.bool true) ∧ Below W.heap.size W w') from (by
    have hl : (placeF S l0 p).length = p := placeF_len (by omega)
    have h9 := same_slots A1 A2 c1 c2 W.heap.size (placeF S l0 p) W h1 h2 (by omega)
    rw [hl] at h9; exact h9))
  clear hn0 hv hbad b1 b2 v0 q0 w1 hT w2 hr hc0 hfull hok
  have HBel := Lib.hid (Below.refl w.heap.size w)
  have hlow : w.heap.size ≤ w.heap.size := Nat.le_refl _
  go_enter Tryd.func3, Tryd.ntmps3
  go_wp2_with fail
  obtain ⟨V1, hV1⟩ : ∃ W, W = w.alloc (.cells #[.int .i64 S.g, .int .i64 S.c, .int .i64 S.mn, .int .i64 S.mx] 24) := ⟨_, rfl⟩
  rw [← hV1]
  have hzV1 : V1.heap.size = w.heap.size + 1 := by rw [hV1]; simp
  replace HBel : Hid (Below w.heap.size w V1) := Lib.hid (by rw [hV1]; exact (HBel.out.alloc (hlow) _))
  have B_s : Hid (V1.heap[w.heap.size]? = some (.cells #[.int .i64 S.g, .int .i64 S.c, .int .i64 S.mn, .int .i64 S.mx] 24 (0, 0))) := Lib.hid (by
    have h9 := heap_alloc_new (w) (.cells #[.int .i64 S.g, .int .i64 S.c, .int .i64 S.mn, .int .i64 S.mx] 24)
    rw [hV1]; exact h9)
  obtain ⟨N_s, hN_s⟩ : ∃ N, N = w.heap.size := ⟨_, rfl⟩
  (try rw [← hN_s])
  rw [← hN_s] at B_s
  have l_s : N_s < V1.heap.size := by omega
  have g_s : w.heap.size ≤ N_s := by omega
  replace hlow : w.heap.size ≤ V1.heap.size := by omega
  clear hV1 hzV1 hN_s
  refine (hAw.out V1 (HT.out.below HBel.out HT.out.size)).mono ?_
  rintro e U2 ⟨rfl, hb9⟩
  have hs9 := hb9.size
  replace HBel := Lib.hid (HBel.out.trans (hb9.mono hlow))
  replace B_s : Hid (U2.heap[N_s]? = some (.cells #[.int .i64 S.g, .int .i64 S.c, .int .i64 S.mn, .int .i64 S.mx] 24 (0, 0))) := Lib.hid ((hb9.block _ l_s).trans B_s.out)
  replace l_s : N_s < U2.heap.size := by omega
  replace hlow : w.heap.size ≤ U2.heap.size := by omega
  clear hb9 hs9
  go_wp2_with fail
  refine (hFw.out U2 HBel.out).mono ?_
  rintro e U3 ⟨rfl, hb9⟩
  have hs9 := hb9.size
  replace HBel := Lib.hid (HBel.out.trans (hb9.mono hlow))
  replace B_s : Hid (U3.heap[N_s]? = some (.cells #[.int .i64 S.g, .int .i64 S.c, .int .i64 S.mn, .int .i64 S.mx] 24 (0, 0))) := Lib.hid ((hb9.block _ l_s).trans B_s.out)
  replace l_s : N_s < U3.heap.size := by omega
  replace hlow : w.heap.size ≤ U3.heap.size := by omega
  clear hb9 hs9
  have s0 : U3.cell? ⟨N_s, 0, none⟩ = some (.int .i64 S.g) := cell_blk (i := 0) B_s.out rfl
  have s1 : U3.cell? ⟨N_s, 1, none⟩ = some (.int .i64 S.c) := cell_blk (i := 1) B_s.out rfl
  have s2 : U3.cell? ⟨N_s, 2, none⟩ = some (.int .i64 S.mn) := cell_blk (i := 2) B_s.out rfl
  have s3 : U3.cell? ⟨N_s, 3, none⟩ = some (.int .i64 S.mx) := cell_blk (i := 3) B_s.out rfl
  go_wp2_with fail
  refine (hP.out U3 HBel.out).mono ?_
  rintro e U4 ⟨x1, o1, k1, rfl, hk1, hb9, hz1⟩
  clear s0 s1 s2 s3
  have hs9 := hb9.size
  replace HBel := Lib.hid (HBel.out.trans (hb9.mono hlow))
  replace B_s : Hid (U4.heap[N_s]? = some (.cells #[.int .i64 S.g, .int .i64 S.c, .int .i64 S.mn, .int .i64 S.mx] 24 (0, 0))) := Lib.hid ((hb9.block _ l_s).trans B_s.out)
  replace l_s : N_s < U4.heap.size := by omega
  replace hlow : w.heap.size ≤ U4.heap.size := by omega
  clear hb9 hs9
  have s0 : U4.cell? ⟨N_s, 0, none⟩ = some (.int .i64 S.g) := cell_blk (i := 0) B_s.out rfl
  have s1 : U4.cell? ⟨N_s, 1, none⟩ = some (.int .i64 S.c) := cell_blk (i := 1) B_s.out rfl
  have s2 : U4.cell? ⟨N_s, 2, none⟩ = some (.int .i64 S.mn) := cell_blk (i := 2) B_s.out rfl
  have s3 : U4.cell? ⟨N_s, 3, none⟩ = some (.int .i64 S.mx) := cell_blk (i := 3) B_s.out rfl
  go_wp2_with fail
  refine (hQ.out U4 HBel.out).mono ?_
  rintro e U5 ⟨A2, k2, rfl, hb9, hz2⟩
  clear s0 s1 s2 s3
  have hs9 := hb9.size
  have hz3 : Hid (Fes U5 U5.heap.size (some ⟨x1, o1, none⟩) (placeF S l0 p)) := Lib.hid (Fes.keep hz1.out hb9 hb9.size)
  clear hz1
  replace HBel := Lib.hid (HBel.out.trans (hb9.mono hlow))
  replace B_s : Hid (U5.heap[N_s]? = some (.cells #[.int .i64 S.g, .int .i64 S.c, .int .i64 S.mn, .int .i64 S.mx] 24 (0, 0))) := Lib.hid ((hb9.block _ l_s).trans B_s.out)
  replace l_s : N_s < U5.heap.size := by omega
  replace hlow : w.heap.size ≤ U5.heap.size := by omega
  clear hb9 hs9
  have s0 : U5.cell? ⟨N_s, 0, none⟩ = some (.int .i64 S.g) := cell_blk (i := 0) B_s.out rfl
  have s1 : U5.cell? ⟨N_s, 1, none⟩ = some (.int .i64 S.c) := cell_blk (i := 1) B_s.out rfl
  have s2 : U5.cell? ⟨N_s, 2, none⟩ = some (.int .i64 S.mn) := cell_blk (i := 2) B_s.out rfl
  have s3 : U5.cell? ⟨N_s, 3, none⟩ = some (.int .i64 S.mx) := cell_blk (i := 3) B_s.out rfl
  go_wp2
  clear s0 s1 s2 s3
  have s0 : U5.cell? ⟨N_s, 0, none⟩ = some (.int .i64 S.g) := cell_blk (i := 0) B_s.out rfl
  have s1 : U5.cell? ⟨N_s, 1, none⟩ = some (.int .i64 S.c) := cell_blk (i := 1) B_s.out rfl
  have s2 : U5.cell? ⟨N_s, 2, none⟩ = some (.int .i64 S.mn) := cell_blk (i := 2) B_s.out rfl
  have s3 : U5.cell? ⟨N_s, 3, none⟩ = some (.int .i64 S.mx) := cell_blk (i := 3) B_s.out rfl
  refine held_begin (fun w' : World => w'.cell? ⟨N_s, 0, none⟩ = some (.int .i64 S.g) ∧ w'.cell? ⟨N_s, 1, none⟩ = some (.int .i64 S.c) ∧ w'.cell? ⟨N_s, 2, none⟩ = some (.int .i64 S.mn) ∧ w'.cell? ⟨N_s, 3, none⟩ = some (.int .i64 S.mx)) (by kernel_rfl) ?_
  have hBh0 : Below U5.heap.size U5 U5.drew := (Below.refl _ _).drew
  have hSh0 : (fun w' : World => w'.cell? ⟨N_s, 0, none⟩ = some (.int .i64 S.g) ∧ w'.cell? ⟨N_s, 1, none⟩ = some (.int .i64 S.c) ∧ w'.cell? ⟨N_s, 2, none⟩ = some (.int .i64 S.mn) ∧ w'.cell? ⟨N_s, 3, none⟩ = some (.int .i64 S.mx)) U5.drew := ⟨s0, s1, s2, s3⟩
  refine held_take (v := ?_) 0 30 rfl rfl (by kernel_rfl) (by kernel_rfl) (by kernel_rfl) (fun _ _ _ h => h) ⟨by rfl, ?_⟩ hSh0 ?_
  rotate_left
  · intro w' hw'; obtain ⟨x0, x1, x2, x3⟩ := hw'; go_simp; (try with_reducible rfl)
  simp only [Act.put, List.setIfInBounds_toArray, List.set_cons_zero, List.set_cons_succ]
  refine held_take (v := ?_) 1 31 rfl rfl (by kernel_rfl) (by kernel_rfl) (by kernel_rfl) (fun _ _ _ h => h) ⟨by rfl, ?_⟩ hSh0 ?_
  rotate_left
  · intro w' hw'; obtain ⟨x0, x1, x2, x3⟩ := hw'; go_simp; (try with_reducible rfl)
  simp only [Act.put, List.setIfInBounds_toArray, List.set_cons_zero, List.set_cons_succ]
  refine held_take (v := ?_) 3 33 rfl rfl (by kernel_rfl) (by kernel_rfl) (by kernel_rfl) (fun _ _ _ h => h) ⟨by rfl, ?_⟩ hSh0 ?_
  rotate_left
  · intro w' hw'; obtain ⟨x0, x1, x2, x3⟩ := hw'; go_simp; (try with_reducible rfl)
  simp only [Act.put, List.setIfInBounds_toArray, List.set_cons_zero, List.set_cons_succ]
  refine held_take (v := ?_) 4 34 rfl rfl (by kernel_rfl) (by kernel_rfl) (by kernel_rfl) (fun _ _ _ h => h) ⟨by rfl, ?_⟩ hSh0 ?_
  rotate_left
  · intro w' hw'; obtain ⟨x0, x1, x2, x3⟩ := hw'; go_simp; (try with_reducible rfl)
  simp only [Act.put, List.setIfInBounds_toArray, List.set_cons_zero, List.set_cons_succ]
  refine held_one 2 rfl (by kernel_rfl) (by rfl) (fun K hK => ?_)
  go_simp
  go_at_call 8
  refine (hR1.out _ (HBel.out.trans (hBh0.mono hlow))).mono ?_
  rintro e wh1 ⟨rfl, hbh1⟩
  have hBh1 : Below U5.heap.size U5 wh1 := below_step hBh0 hbh1
  have hSh1 : (fun w' : World => w'.cell? ⟨N_s, 0, none⟩ = some (.int .i64 S.g) ∧ w'.cell? ⟨N_s, 1, none⟩ = some (.int .i64 S.c) ∧ w'.cell? ⟨N_s, 2, none⟩ = some (.int .i64 S.mn) ∧ w'.cell? ⟨N_s, 3, none⟩ = some (.int .i64 S.mx)) wh1 := ⟨(hBh1.cell (p := ⟨N_s, 0, none⟩) (show N_s < U5.heap.size by omega)).trans s0, (hBh1.cell (p := ⟨N_s, 1, none⟩) (show N_s < U5.heap.size by omega)).trans s1, (hBh1.cell (p := ⟨N_s, 2, none⟩) (show N_s < U5.heap.size by omega)).trans s2, (hBh1.cell (p := ⟨N_s, 3, none⟩) (show N_s < U5.heap.size by omega)).trans s3⟩
  refine hK.out _ _ hSh1 ?_
  clear hK K
  refine held_one 5 rfl (by kernel_rfl) (by rfl) (fun K hK => ?_)
  go_simp
  go_at_call 9
  refine (hR2.out _ (HBel.out.trans (hBh1.mono hlow))).mono ?_
  rintro e wh2 ⟨rfl, hbh2⟩
  have hBh2 : Below U5.heap.size U5 wh2 := below_step hBh1 hbh2
  have hSh2 : (fun w' : World => w'.cell? ⟨N_s, 0, none⟩ = some (.int .i64 S.g) ∧ w'.cell? ⟨N_s, 1, none⟩ = some (.int .i64 S.c) ∧ w'.cell? ⟨N_s, 2, none⟩ = some (.int .i64 S.mn) ∧ w'.cell? ⟨N_s, 3, none⟩ = some (.int .i64 S.mx)) wh2 := ⟨(hBh2.cell (p := ⟨N_s, 0, none⟩) (show N_s < U5.heap.size by omega)).trans s0, (hBh2.cell (p := ⟨N_s, 1, none⟩) (show N_s < U5.heap.size by omega)).trans s1, (hBh2.cell (p := ⟨N_s, 2, none⟩) (show N_s < U5.heap.size by omega)).trans s2, (hBh2.cell (p := ⟨N_s, 3, none⟩) (show N_s < U5.heap.size by omega)).trans s3⟩
  refine hK.out _ _ hSh2 ?_
  clear hK K
  refine held_take (v := ?_) 6 36 rfl rfl (by kernel_rfl) (by kernel_rfl) (by kernel_rfl) (fun _ _ _ h => h) ⟨by rfl, ?_⟩ hSh2 ?_
  rotate_left
  · intro w' hw'; obtain ⟨x0, x1, x2, x3⟩ := hw'; go_simp; (try with_reducible rfl)
  simp only [Act.put, List.setIfInBounds_toArray, List.set_cons_zero, List.set_cons_succ]
  refine held_take (v := ?_) 7 37 rfl rfl (by kernel_rfl) (by kernel_rfl) (by kernel_rfl) (fun _ _ _ h => h) ⟨by rfl, ?_⟩ hSh2 ?_
  rotate_left
  · intro w' hw'; obtain ⟨x0, x1, x2, x3⟩ := hw'; go_simp; (try with_reducible rfl)
  simp only [Act.put, List.setIfInBounds_toArray, List.set_cons_zero, List.set_cons_succ]
  refine held_take (v := ?_) 8 38 rfl rfl (by kernel_rfl) (by kernel_rfl) (by kernel_rfl) (fun _ _ _ h => h) ⟨by rfl, ?_⟩ hSh2 ?_
  rotate_left
  · intro w' hw'; obtain ⟨x0, x1, x2, x3⟩ := hw'; go_simp; (try with_reducible rfl)
  simp only [Act.put, List.setIfInBounds_toArray, List.set_cons_zero, List.set_cons_succ]
  refine held_take (v := ?_) 9 39 rfl rfl (by kernel_rfl) (by kernel_rfl) (by kernel_rfl) (fun _ _ _ h => h) ⟨by rfl, ?_⟩ hSh2 ?_
  rotate_left
  · intro w' hw'; obtain ⟨x0, x1, x2, x3⟩ := hw'; go_simp; (try with_reducible rfl)
  simp only [Act.put, List.setIfInBounds_toArray, List.set_cons_zero, List.set_cons_succ]
  refine held_one 10 rfl (by kernel_rfl) (by rfl) (fun K hK => ?_)
  go_simp
  go_at_call 10
  refine (hSm.out _ _ _ _ _ (Fes.keep hz3.out hBh2 hBh2.size) (Fes.keep hz2.out hBh2 hBh2.size)).mono ?_
  rintro e wh3 ⟨rfl, hbh3⟩
  have hBh3 : Below U5.heap.size U5 wh3 := below_step hBh2 hbh3
  have hSh3 : (fun w' : World => w'.cell? ⟨N_s, 0, none⟩ = some (.int .i64 S.g) ∧ w'.cell? ⟨N_s, 1, none⟩ = some (.int .i64 S.c) ∧ w'.cell? ⟨N_s, 2, none⟩ = some (.int .i64 S.mn) ∧ w'.cell? ⟨N_s, 3, none⟩ = some (.int .i64 S.mx)) wh3 := ⟨(hBh3.cell (p := ⟨N_s, 0, none⟩) (show N_s < U5.heap.size by omega)).trans s0, (hBh3.cell (p := ⟨N_s, 1, none⟩) (show N_s < U5.heap.size by omega)).trans s1, (hBh3.cell (p := ⟨N_s, 2, none⟩) (show N_s < U5.heap.size by omega)).trans s2, (hBh3.cell (p := ⟨N_s, 3, none⟩) (show N_s < U5.heap.size by omega)).trans s3⟩
  refine hK.out _ _ hSh3 ?_
  clear hK K
  refine held_take (v := ?_) 11 41 rfl rfl (by kernel_rfl) (by kernel_rfl) (by kernel_rfl) (fun _ _ _ h => h) ⟨by rfl, ?_⟩ hSh3 ?_
  rotate_left
  · intro w' hw'; obtain ⟨x0, x1, x2, x3⟩ := hw'; go_simp; (try with_reducible rfl)
  simp only [Act.put, List.setIfInBounds_toArray, List.set_cons_zero, List.set_cons_succ]
  refine held_take (v := ?_) 12 42 rfl rfl (by kernel_rfl) (by kernel_rfl) (by kernel_rfl) (fun _ _ _ h => h) ⟨by rfl, ?_⟩ hSh3 ?_
  rotate_left
  · intro w' hw'; obtain ⟨x0, x1, x2, x3⟩ := hw'; go_simp; (try with_reducible rfl)
  simp only [Act.put, List.setIfInBounds_toArray, List.set_cons_zero, List.set_cons_succ]
  refine held_take (v := ?_) 13 43 rfl rfl (by kernel_rfl) (by kernel_rfl) (by kernel_rfl) (fun _ _ _ h => h) ⟨by rfl, ?_⟩ hSh3 ?_
  rotate_left
  · intro w' hw'; obtain ⟨x0, x1, x2, x3⟩ := hw'; go_simp; (try with_reducible rfl)
  simp only [Act.put, List.setIfInBounds_toArray, List.set_cons_zero, List.set_cons_succ]
  refine held_take (v := ?_) 14 44 rfl rfl (by kernel_rfl) (by kernel_rfl) (by kernel_rfl) (fun _ _ _ h => h) ⟨by rfl, ?_⟩ hSh3 ?_
  rotate_left
  · intro w' hw'; obtain ⟨x0, x1, x2, x3⟩ := hw'; go_simp; (try with_reducible rfl)
  simp only [Act.put, List.setIfInBounds_toArray, List.set_cons_zero, List.set_cons_succ]
  refine held_take (v := ?_) 15 45 rfl rfl (by kernel_rfl) (by kernel_rfl) (by kernel_rfl) (fun _ _ _ h => h) ⟨by rfl, ?_⟩ hSh3 ?_
  rotate_left
  · intro w' hw'; obtain ⟨x0, x1, x2, x3⟩ := hw'; go_simp; (try with_reducible rfl)
  simp only [Act.put, List.setIfInBounds_toArray, List.set_cons_zero, List.set_cons_succ]
  refine held_take (v := ?_) 16 46 rfl rfl (by kernel_rfl) (by kernel_rfl) (by kernel_rfl) (fun _ _ _ h => h) ⟨by rfl, ?_⟩ hSh3 ?_
  rotate_left
  · intro w' hw'; obtain ⟨x0, x1, x2, x3⟩ := hw'; go_simp; (try with_reducible rfl)
  simp only [Act.put, List.setIfInBounds_toArray, List.set_cons_zero, List.set_cons_succ]
  refine held_take (v := ?_) 17 6 rfl rfl (by kernel_rfl) (by kernel_rfl) (by kernel_rfl) (fun _ _ _ h => h) ⟨by rfl, ?_⟩ hSh3 ?_
  rotate_left
  · intro w' hw'; obtain ⟨x0, x1, x2, x3⟩ := hw'; go_simp; (try with_reducible rfl)
  simp only [Act.put, List.setIfInBounds_toArray, List.set_cons_zero, List.set_cons_succ]
  refine wpAnyH_done (by kernel_rfl) ?_ _
  have hb9 := hBh3
  clear s0 s1 s2 s3
  have hs9 := hb9.size
  replace HBel := Lib.hid (HBel.out.trans (hb9.mono hlow))
  replace B_s : Hid (wh3.heap[N_s]? = some (.cells #[.int .i64 S.g, .int .i64 S.c, .int .i64 S.mn, .int .i64 S.mx] 24 (0, 0))) := Lib.hid ((hb9.block _ l_s).trans B_s.out)
  replace l_s : N_s < wh3.heap.size := by omega
  replace hlow : w.heap.size ≤ wh3.heap.size := by omega
  clear hb9 hs9 hSh0 hBh0 hSh1 hBh1 hSh2 hBh2 hSh3 hBh3
  go_wp2
  go_ret
  exact ⟨by simp, HBel.out⟩

set_option maxRecDepth 100000 in
set_option maxHeartbeats 1000000 in
theorem lifted (os : Os) (started : os.Started) (H : Type) (enc : TypeId × Value → H) :
    ReturnsInHanded {} Tryd.checked os 3 .any (fun w args => (Rows.packTellsSpec.pre enc Tryd.prog Tryd.f3 [] false w args ∧ laidMetH Tryd.prog laid1 w) ∧ sizedMet enc Tryd.prog Tryd.f3 (OpenSpec.ofChange Rows.packTellsSpec) false w args)
      (Rows.packTellsSpec.post enc Tryd.prog Tryd.f3 false true false false) := by
  refine returnsInHanded_of_change_and (C := Tryd.checked) (X := fun w _ => laidMetH Tryd.prog laid1 w) (fun _ _ _ hh h => h.of_heap hh) own started (by kernel_rfl) Tryd.func3
    (ChangeSpec.witness_shaped (enc := enc) (C := Tryd.checked) (os := os) (X := fun w _ => laidMetH Tryd.prog laid1 w) false (World.doorLaid Tryd.prog 400 os) #[.slice none 0 0, .agg #[.int .i64 0, .int .i64 0, .int .i64 0, .int .i64 0], .int .i64 0] 8 rfl (World.shaped_of_RefB (by kernel_rfl) (by kernel_rfl)) (by kernel_rfl) (by kernel_rfl) (by kernel_rfl) (door_met os _)) ?_
  intro W base args ds gs before hval0 hW _ _ hL _
  have hval : ∀ (j : Nat) t v, Tryd.f3.params[j]? = some t → args[j]? = some v → Value.okWide Tryd.prog W .any base t v := hval0
  have hW' := hW
  obtain ⟨p, q, hA0, hV, rfl, hfz, hnd⟩ := hW
  have hA : DataW.TrodAll enc Tryd.prog W 0 (fun _ => true) true Tryd.f3.params.toList args.toList ds p := hA0
  rw [Tryd.params3] at hA hval
  obtain ⟨v0, vs0, d0, ds0, p0, q0, hargs, rfl, rfl, h0, r0⟩ := trodAll_cons hA
  obtain ⟨v1, vs1, d1, ds1, p1, q1, rfl, rfl, rfl, h1, r1⟩ := trodAll_cons r0
  obtain ⟨v2, vs2, d2, ds2, p2, q2, rfl, rfl, rfl, h2, r2⟩ := trodAll_cons r1
  obtain ⟨rfl, rfl, rfl⟩ := trodAll_nil r2
  obtain rfl : args = #[v0, v1, v2] := by cases args; simp_all
  obtain ⟨rfl, rfl⟩ := trodVars_none hV
  have k0 := h0
  have lt0 : ∀ x ∈ p0, x.block < W.heap.size := by obtain ⟨m, hm⟩ := k0; exact DataW.trod_lt m _ _ _ hm
  obtain ⟨a0, c0, l0, rfl, lc0, mc0, v0, q0⟩ := view_of (hval 0 22 v0 rfl rfl) h0
  have k1 := h1
  have lt1 : ∀ x ∈ p1, x.block < W.heap.size := by obtain ⟨m, hm⟩ := k1; exact DataW.trod_lt m _ _ _ hm
  obtain ⟨g1, c1, mn1, mx1, rfl, w1⟩ := shape_of (hval 1 24 v1 rfl rfl) h1
  have k2 := h2
  have lt2 : ∀ x ∈ p2, x.block < W.heap.size := by obtain ⟨m, hm⟩ := k2; exact DataW.trod_lt m _ _ _ hm
  obtain ⟨a2, rfl, _, _, w2⟩ := open_int Tryd.underlying3 (hval 2 3 v2 rfl rfl) h2
  have hT := of_laid hL
  clear hL
  clear hA0 hval0
  refine (walk a0 c0 l0 g1 c1 mn1 mx1 a2 W v0 q0 lc0 mc0 w1 w2 hT).mono fun e W' ⟨he, bel⟩ => ?_
  subst he
  exact ⟨_, rfl, _, _, _, [], _, [], hW', trodAll_mk1 (shut_bool Tryd.underlying4 _), (trodAll_cons_mk (Below.trod laidOut (by kernel_rfl) (of_decide_eq_true (by kernel_rfl)) k0 bel lt0) (trodAll_cons_mk (Below.trod laidOut (by kernel_rfl) (of_decide_eq_true (by kernel_rfl)) k1 bel lt1) (trodAll_cons_mk (Below.trod laidOut (by kernel_rfl) (of_decide_eq_true (by kernel_rfl)) k2 bel lt2) trodAll_mk0))), rfl, bel.frame _, fun h => by cases h⟩

/-- THE ROW. -/
theorem row_holds : Rows.PackTellsSaid :=
  OpenClaim.holds_of_wide 3 Tryd.f3 rfl rfl rfl rfl rfl rfl rfl ⟨rfl, rfl, rfl, rfl, rfl⟩ rfl rfl rfl rfl rfl (by kernel_rfl) Tryd.func3 (by kernel_rfl)
    (of_decide_eq_true (by kernel_rfl)) (by unfold Func.isWrapper; first | (rw [if_pos (by decide +kernel)]; kernel_rfl) | (rw [if_neg (by decide +kernel)]; exact ⟨rfl, rfl⟩))
    (fun os started H enc _ => lifted os started H enc)

/-- THE STATEMENT. -/
theorem card_holds : Rows.PackTellsCardSaid :=
  Claim7.holds_tied_plain_at .later [] [.data] true (true, Rows.packTellsCard.stood.harness.2) false
    row_holds (fun _ h => by cases h) (by kernel_rfl) (fun _ h => by cases h) packTells_row_tie rfl ⟨rfl, rfl⟩ (by kernel_rfl) rfl
    (fun f fn hf hfn => by
      obtain rfl : f = 3 := Option.some.inj ((show Tryd.prog.funcNamed Rows.packTellsRow.func = some 3 by kernel_rfl).symm.trans hf) |>.symm
      obtain rfl : fn = Tryd.f3 := (Option.some.inj (Tryd.func3.symm.trans hfn)).symm
      exact ⟨by kernel_rfl, fun j t ht => by
        rw [Tryd.params3] at ht
        have hm : t ∈ [22, 24, 3] := by simpa using Array.mem_of_getElem? ht
        have hall : ([22, 24, 3].all fun u => !Tryd.prog.wantsStandIn u) = true := by kernel_rfl
        exact (show Tryd.prog.wantsStandIn t = false by simpa using List.all_eq_true.1 hall t hm)⟩)
    (by kernel_rfl)
end Go.Proofs.YteflblcbmkcidaaDoor.packTells
