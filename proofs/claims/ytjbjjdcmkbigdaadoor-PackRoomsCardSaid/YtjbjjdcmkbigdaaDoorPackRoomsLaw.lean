/- Room in a view is the rooms of its parts together; in none there is none: the law PackRooms answers true, at every input. The library's table of lowest units is as the program's text lays it (tied). -/
import Derived.Test.YtjbjjdcmkbigdaaDoorPackView
import Derived.SevenTiedAt
import Derived.Test.YtjbjjdcmkbigdaaDoorTie
import Derived.Test.YtjbjjdcmkbigdaaDoorCards
set_option linter.unusedVariables false
namespace Go.Proofs.YtjbjjdcmkbigdaaDoor.packRooms
open Go Go.ChangeShapes Go.WideShapes Go.ChangeAt Go.RowKit
theorem roomF_parts (S : Shp) (l : List Fe) (k : Nat) : roomF S (l.take k) + roomF S (l.drop k) = roomF S l := by
  unfold roomF fitsL
  conv => rhs; rw [← List.take_append_drop k l, List.map_append, List.sum_append]
set_option maxRecDepth 100000 in
set_option maxHeartbeats 16000000 in
theorem walk (a0 : Option Addr) (c0 : Nat) (l0 : List Fe) (g1 c1 mn1 mx1 : Int) (a2 : Int) (w : World) (v0 : Fes w w.heap.size a0 l0) (q0 : ∀ s ∈ l0, FeOk s) (lc0 : l0.length ≤ c0) (mc0 : c0 ≤ maxLen) (w1 : Shp.Wf ⟨g1, c1, mn1, mx1⟩) (w2 : (Lit.int .i64 a2).wf = true) (hT : Tab w) :
    Calls Tryd.prog 8 #[.slice a0 l0.length c0, .agg #[.int .i64 g1, .int .i64 c1, .int .i64 mn1, .int .i64 mx1], .int .i64 a2] w fun e w' => e = .returned (.bool true) ∧ Below w.heap.size w w' := by
  obtain ⟨S, hS⟩ : ∃ S : Shp, S = ⟨g1, c1, mn1, mx1⟩ := ⟨_, rfl⟩
  have e1 : g1 = S.g := by rw [hS]
  have e2 : c1 = S.c := by rw [hS]
  have e3 : mn1 = S.mn := by rw [hS]
  have e4 : mx1 = S.mx := by rw [hS]
  rw [← hS] at w1
  rw [e1, e2, e3, e4]
  clear hS e1 e2 e3 e4
  have HT := Lib.hid hT
  have hAw := Lib.hid (fun W (hT : Tab W) => awake_p W hT)
  have hFw := Lib.hid (fun W (hW : Below w.heap.size w W) => fewp_any a0 c0 W.heap.size l0 W (fes_up v0 (Nat.le_refl _) hW) (Nat.le_refl _) lc0)
  cases hv : viewL l0
  · rw [hv] at hFw
    obtain ⟨n0, hn0⟩ : ∃ n, l0.length = n := ⟨_, rfl⟩
    rw [hn0] at hFw ⊢
    clear hn0 hv v0 q0 lc0 w1 hT w2
    have HBel := Lib.hid (Below.refl w.heap.size w)
    have hlow : w.heap.size ≤ w.heap.size := Nat.le_refl _
    go_enter Tryd.func8, Tryd.ntmps8
    go_wp2_with fail
    obtain ⟨V1, hV1⟩ : ∃ W, W = w.alloc (.cells #[.int .i64 S.g, .int .i64 S.c, .int .i64 S.mn, .int .i64 S.mx] 24) := ⟨_, rfl⟩
    rw [← hV1]
    have hzV1 : V1.heap.size = w.heap.size + 1 := by rw [hV1]; simp
    replace HBel : Hid (Below w.heap.size w V1) := Lib.hid (by rw [hV1]; exact (HBel.out.alloc (hlow) _))
    have B_s : Hid (V1.heap[w.heap.size]? = some (.cells #[.int .i64 S.g, .int .i64 S.c, .int .i64 S.mn, .int .i64 S.mx] 24 (0, 0))) := Lib.hid (by
      have h9 := heap_alloc_new (w) (.cells #[.int .i64 S.g, .int .i64 S.c, .int .i64 S.mn, .int .i64 S.mx] 24)
      rw [hV1]; exact h9)
    obtain ⟨N_s, hN_s⟩ : ∃ N, N = w.heap.size := ⟨_, rfl⟩
    (try rw [← hN_s])
    rw [← hN_s] at B_s
    have l_s : N_s < V1.heap.size := by omega
    have g_s : w.heap.size ≤ N_s := by omega
    replace hlow : w.heap.size ≤ V1.heap.size := by omega
    clear hV1 hzV1 hN_s
    refine (hAw.out V1 (HT.out.below HBel.out HT.out.size)).mono ?_
    rintro e U2 ⟨rfl, hb9⟩
    have hs9 := hb9.size
    replace HBel := Lib.hid (HBel.out.trans (hb9.mono hlow))
    replace B_s : Hid (U2.heap[N_s]? = some (.cells #[.int .i64 S.g, .int .i64 S.c, .int .i64 S.mn, .int .i64 S.mx] 24 (0, 0))) := Lib.hid ((hb9.block _ l_s).trans B_s.out)
    replace l_s : N_s < U2.heap.size := by omega
    replace hlow : w.heap.size ≤ U2.heap.size := by omega
    clear hb9 hs9
    go_wp2_with fail
    refine (hFw.out U2 HBel.out).mono ?_
    rintro e U3 ⟨rfl, hb9⟩
    have hs9 := hb9.size
    replace HBel := Lib.hid (HBel.out.trans (hb9.mono hlow))
    replace B_s : Hid (U3.heap[N_s]? = some (.cells #[.int .i64 S.g, .int .i64 S.c, .int .i64 S.mn, .int .i64 S.mx] 24 (0, 0))) := Lib.hid ((hb9.block _ l_s).trans B_s.out)
    replace l_s : N_s < U3.heap.size := by omega
    replace hlow : w.heap.size ≤ U3.heap.size := by omega
    clear hb9 hs9
    go_wp2
    go_ret
    exact ⟨rfl, HBel.out⟩
  have hlen : l0.length ≤ 70 := by unfold viewL at hv; simp at hv; exact hv.1
  obtain ⟨n0, hn0⟩ : ∃ n, l0.length = n := ⟨_, rfl⟩
  rw [hv] at hFw
  rw [hn0] at hFw hlen lc0 ⊢
  obtain ⟨b1, b2⟩ := bounds_i64 w2
  by_cases hneg : a2 < 0
  · have t1 : decide (a2 < 0) = true := decide_eq_true hneg
    clear hn0 hv hneg b1 b2 v0 q0 w1 hT w2
    have HBel := Lib.hid (Below.refl w.heap.size w)
    have hlow : w.heap.size ≤ w.heap.size := Nat.le_refl _
    go_enter Tryd.func8, Tryd.ntmps8
    go_wp2_with fail
    obtain ⟨V1, hV1⟩ : ∃ W, W = w.alloc (.cells #[.int .i64 S.g, .int .i64 S.c, .int .i64 S.mn, .int .i64 S.mx] 24) := ⟨_, rfl⟩
    rw [← hV1]
    have hzV1 : V1.heap.size = w.heap.size + 1 := by rw [hV1]; simp
    replace HBel : Hid (Below w.heap.size w V1) := Lib.hid (by rw [hV1]; exact (HBel.out.alloc (hlow) _))
    have B_s : Hid (V1.heap[w.heap.size]? = some (.cells #[.int .i64 S.g, .int .i64 S.c, .int .i64 S.mn, .int .i64 S.mx] 24 (0, 0))) := Lib.hid (by
      have h9 := heap_alloc_new (w) (.cells #[.int .i64 S.g, .int .i64 S.c, .int .i64 S.mn, .int .i64 S.mx] 24)
      rw [hV1]; exact h9)
    obtain ⟨N_s, hN_s⟩ : ∃ N, N = w.heap.size := ⟨_, rfl⟩
    (try rw [← hN_s])
    rw [← hN_s] at B_s
    have l_s : N_s < V1.heap.size := by omega
    have g_s : w.heap.size ≤ N_s := by omega
    replace hlow : w.heap.size ≤ V1.heap.size := by omega
    clear hV1 hzV1 hN_s
    refine (hAw.out V1 (HT.out.below HBel.out HT.out.size)).mono ?_
    rintro e U2 ⟨rfl, hb9⟩
    have hs9 := hb9.size
    replace HBel := Lib.hid (HBel.out.trans (hb9.mono hlow))
    replace B_s : Hid (U2.heap[N_s]? = some (.cells #[.int .i64 S.g, .int .i64 S.c, .int .i64 S.mn, .int .i64 S.mx] 24 (0, 0))) := Lib.hid ((hb9.block _ l_s).trans B_s.out)
    replace l_s : N_s < U2.heap.size := by omega
    replace hlow : w.heap.size ≤ U2.heap.size := by omega
    clear hb9 hs9
    go_wp2_with fail
    refine (hFw.out U2 HBel.out).mono ?_
    rintro e U3 ⟨rfl, hb9⟩
    have hs9 := hb9.size
    replace HBel := Lib.hid (HBel.out.trans (hb9.mono hlow))
    replace B_s : Hid (U3.heap[N_s]? = some (.cells #[.int .i64 S.g, .int .i64 S.c, .int .i64 S.mn, .int .i64 S.mx] 24 (0, 0))) := Lib.hid ((hb9.block _ l_s).trans B_s.out)
    replace l_s : N_s < U3.heap.size := by omega
    replace hlow : w.heap.size ≤ U3.heap.size := by omega
    clear hb9 hs9
    go_wp2
    go_ret
    exact ⟨rfl, HBel.out⟩
  obtain ⟨k, rfl⟩ : ∃ k : Nat, a2 = k := ⟨a2.toNat, by omega⟩
  have t1 : decide ((k : Int) < 0) = false := decide_eq_false hneg
  by_cases hbig : n0 < k
  · have t2 : decide (n0 < k) = true := decide_eq_true hbig
    clear hn0 hv hneg hbig b1 b2 v0 q0 w1 hT w2
    have HBel := Lib.hid (Below.refl w.heap.size w)
    have hlow : w.heap.size ≤ w.heap.size := Nat.le_refl _
    go_enter Tryd.func8, Tryd.ntmps8
    go_wp2_with fail
    obtain ⟨V1, hV1⟩ : ∃ W, W = w.alloc (.cells #[.int .i64 S.g, .int .i64 S.c, .int .i64 S.mn, .int .i64 S.mx] 24) := ⟨_, rfl⟩
    rw [← hV1]
    have hzV1 : V1.heap.size = w.heap.size + 1 := by rw [hV1]; simp
    replace HBel : Hid (Below w.heap.size w V1) := Lib.hid (by rw [hV1]; exact (HBel.out.alloc (hlow) _))
    have B_s : Hid (V1.heap[w.heap.size]? = some (.cells #[.int .i64 S.g, .int .i64 S.c, .int .i64 S.mn, .int .i64 S.mx] 24 (0, 0))) := Lib.hid (by
      have h9 := heap_alloc_new (w) (.cells #[.int .i64 S.g, .int .i64 S.c, .int .i64 S.mn, .int .i64 S.mx] 24)
      rw [hV1]; exact h9)
    obtain ⟨N_s, hN_s⟩ : ∃ N, N = w.heap.size := ⟨_, rfl⟩
    (try rw [← hN_s])
    rw [← hN_s] at B_s
    have l_s : N_s < V1.heap.size := by omega
    have g_s : w.heap.size ≤ N_s := by omega
    replace hlow : w.heap.size ≤ V1.heap.size := by omega
    clear hV1 hzV1 hN_s
    refine (hAw.out V1 (HT.out.below HBel.out HT.out.size)).mono ?_
    rintro e U2 ⟨rfl, hb9⟩
    have hs9 := hb9.size
    replace HBel := Lib.hid (HBel.out.trans (hb9.mono hlow))
    replace B_s : Hid (U2.heap[N_s]? = some (.cells #[.int .i64 S.g, .int .i64 S.c, .int .i64 S.mn, .int .i64 S.mx] 24 (0, 0))) := Lib.hid ((hb9.block _ l_s).trans B_s.out)
    replace l_s : N_s < U2.heap.size := by omega
    replace hlow : w.heap.size ≤ U2.heap.size := by omega
    clear hb9 hs9
    go_wp2_with fail
    refine (hFw.out U2 HBel.out).mono ?_
    rintro e U3 ⟨rfl, hb9⟩
    have hs9 := hb9.size
    replace HBel := Lib.hid (HBel.out.trans (hb9.mono hlow))
    replace B_s : Hid (U3.heap[N_s]? = some (.cells #[.int .i64 S.g, .int .i64 S.c, .int .i64 S.mn, .int .i64 S.mx] 24 (0, 0))) := Lib.hid ((hb9.block _ l_s).trans B_s.out)
    replace l_s : N_s < U3.heap.size := by omega
    replace hlow : w.heap.size ≤ U3.heap.size := by omega
    clear hb9 hs9
    go_wp2
    go_ret
    exact ⟨rfl, HBel.out⟩
  have t2 : decide (n0 < k) = false := decide_eq_false hbig
  have H := Lib.hid (And.intro v0 (And.intro q0 (And.intro w1 (And.intro hT hn0))))
  have hR := Lib.hid (fun (A : Option Addr) (c : Nat) (l : List Fe) W (hl : Fes W W.heap.size A l) (hsub : ∀ f ∈ l, f ∈ l0) (hlen : l.length ≤ 70) (hW : Below w.heap.size w W) => room_any A c W.heap.size l S W hl (Nat.le_refl _) (by omega) H.out.2.2.1 (fun f hf => H.out.2.1 f (hsub f hf)) (H.out.2.2.2.1.below hW H.out.2.2.2.1.size))
  have hp := roomF_parts S l0 k
  have hr0 := roomF_le S l0
  rw [hn0] at hr0
  obtain ⟨r, hr⟩ : ∃ r, r = roomF S l0 := ⟨_, rfl⟩
  obtain ⟨r1, hr1⟩ : ∃ r, r = roomF S (l0.take k) := ⟨_, rfl⟩
  obtain ⟨r2, hr2⟩ : ∃ r, r = roomF S (l0.drop k) := ⟨_, rfl⟩
  rw [← hr1, ← hr2, ← hr] at hp
  rw [← hr] at hr0
  have e0 : roomF S [] = 0 := rfl
  have c1 := Lib.hid (fun W (hW : Below w.heap.size w W) => show Calls Tryd.prog 14 #[.slice a0 n0 c0, .agg #[.int .i64 S.g, .int .i64 S.c, .int .i64 S.mn, .int .i64 S.mx]] W (fun e w' => e = .returned (.int .i64 (r : Nat)) ∧ Below W.heap.size W w') from (by
    have h9 := hR.out a0 c0 l0 W (fes_up H.out.1 (Nat.le_refl _) hW) (fun _ h => h) (by omega) hW
    rw [hn0, ← hr] at h9; exact h9))
  have c4 := Lib.hid (fun W (hW : Below w.heap.size w W) => show Calls Tryd.prog 14 #[.slice none 0 0, .agg #[.int .i64 S.g, .int .i64 S.c, .int .i64 S.mn, .int .i64 S.mx]] W (fun e w' => e = .returned (.int .i64 0) ∧ Below W.heap.size W w') from (hR.out none 0 [] W (.inl rfl) (by simp) (by simp) hW))
  have he : ((r : Int) == IntKind.i64.wrap ((r1 : Int) + (r2 : Int))) = true := by rw [IntWalk.i64_in _ (by omega)]; exact beq_iff_eq.2 (by omega)
  have sk1 : (0 : Int) ≤ (k : Int) := by omega
  have sk2 : (k : Int) ≤ (n0 : Int) := by omega
  have sk3 : (k : Int) ≤ (c0 : Int) := by omega
  have sk4 : (n0 : Int) ≤ (c0 : Int) := by omega
  have hkl : k ≤ n0 := by omega
  rcases v0 with hnil | ⟨b, off, rfl, hb, hc⟩
  · subst hnil
    simp at hn0
    subst hn0
    obtain rfl : k = 0 := by omega
    obtain rfl : r1 = 0 := by rw [hr1]; rfl
    obtain rfl : r2 = 0 := by rw [hr2]; rfl
    obtain rfl : r = 0 := by omega
    have he0 : ((0 : Int) == IntKind.i64.wrap 0) = true := by decide
    have c2 := Lib.hid (fun (A : Option Addr) (c : Nat) W (hW : Below w.heap.size w W) => show Calls Tryd.prog 14 #[.slice A 0 c, .agg #[.int .i64 S.g, .int .i64 S.c, .int .i64 S.mn, .int .i64 S.mx]] W (fun e w' => e = .returned (.int .i64 0) ∧ Below W.heap.size W w') from (hR.out A c [] W (.inl rfl) (by simp) (by simp) hW))
    clear hr hr1 hr2 hp e0 q0 w1 hT w2 hv hR
    rcases a0 with _ | ad
    · have HBel := Lib.hid (Below.refl w.heap.size w)
      have hlow : w.heap.size ≤ w.heap.size := Nat.le_refl _
      go_enter Tryd.func8, Tryd.ntmps8
      go_wp2_with fail
      obtain ⟨V1, hV1⟩ : ∃ W, W = w.alloc (.cells #[.int .i64 S.g, .int .i64 S.c, .int .i64 S.mn, .int .i64 S.mx] 24) := ⟨_, rfl⟩
      rw [← hV1]
      have hzV1 : V1.heap.size = w.heap.size + 1 := by rw [hV1]; simp
      replace HBel : Hid (Below w.heap.size w V1) := Lib.hid (by rw [hV1]; exact (HBel.out.alloc (hlow) _))
      have B_s : Hid (V1.heap[w.heap.size]? = some (.cells #[.int .i64 S.g, .int .i64 S.c, .int .i64 S.mn, .int .i64 S.mx] 24 (0, 0))) := Lib.hid (by
        have h9 := heap_alloc_new (w) (.cells #[.int .i64 S.g, .int .i64 S.c, .int .i64 S.mn, .int .i64 S.mx] 24)
        rw [hV1]; exact h9)
      obtain ⟨N_s, hN_s⟩ : ∃ N, N = w.heap.size := ⟨_, rfl⟩
      (try rw [← hN_s])
      rw [← hN_s] at B_s
      have l_s : N_s < V1.heap.size := by omega
      have g_s : w.heap.size ≤ N_s := by omega
      replace hlow : w.heap.size ≤ V1.heap.size := by omega
      clear hV1 hzV1 hN_s
      refine (hAw.out V1 (HT.out.below HBel.out HT.out.size)).mono ?_
      rintro e U2 ⟨rfl, hb9⟩
      have hs9 := hb9.size
      replace HBel := Lib.hid (HBel.out.trans (hb9.mono hlow))
      replace B_s : Hid (U2.heap[N_s]? = some (.cells #[.int .i64 S.g, .int .i64 S.c, .int .i64 S.mn, .int .i64 S.mx] 24 (0, 0))) := Lib.hid ((hb9.block _ l_s).trans B_s.out)
      replace l_s : N_s < U2.heap.size := by omega
      replace hlow : w.heap.size ≤ U2.heap.size := by omega
      clear hb9 hs9
      go_wp2_with fail
      refine (hFw.out U2 HBel.out).mono ?_
      rintro e U3 ⟨rfl, hb9⟩
      have hs9 := hb9.size
      replace HBel := Lib.hid (HBel.out.trans (hb9.mono hlow))
      replace B_s : Hid (U3.heap[N_s]? = some (.cells #[.int .i64 S.g, .int .i64 S.c, .int .i64 S.mn, .int .i64 S.mx] 24 (0, 0))) := Lib.hid ((hb9.block _ l_s).trans B_s.out)
      replace l_s : N_s < U3.heap.size := by omega
      replace hlow : w.heap.size ≤ U3.heap.size := by omega
      clear hb9 hs9
      go_wp2_with fail
      have s0 : U3.cell? ⟨N_s, 0, none⟩ = some (.int .i64 S.g) := cell_blk (i := 0) B_s.out rfl
      have s1 : U3.cell? ⟨N_s, 1, none⟩ = some (.int .i64 S.c) := cell_blk (i := 1) B_s.out rfl
      have s2 : U3.cell? ⟨N_s, 2, none⟩ = some (.int .i64 S.mn) := cell_blk (i := 2) B_s.out rfl
      have s3 : U3.cell? ⟨N_s, 3, none⟩ = some (.int .i64 S.mx) := cell_blk (i := 3) B_s.out rfl
      refine held_begin (fun w' : World => w'.cell? ⟨N_s, 0, none⟩ = some (.int .i64 S.g) ∧ w'.cell? ⟨N_s, 1, none⟩ = some (.int .i64 S.c) ∧ w'.cell? ⟨N_s, 2, none⟩ = some (.int .i64 S.mn) ∧ w'.cell? ⟨N_s, 3, none⟩ = some (.int .i64 S.mx)) (by kernel_rfl) ?_
      have hBh0 : Below U3.heap.size U3 U3.drew := (Below.refl _ _).drew
      have hSh0 : (fun w' : World => w'.cell? ⟨N_s, 0, none⟩ = some (.int .i64 S.g) ∧ w'.cell? ⟨N_s, 1, none⟩ = some (.int .i64 S.c) ∧ w'.cell? ⟨N_s, 2, none⟩ = some (.int .i64 S.mn) ∧ w'.cell? ⟨N_s, 3, none⟩ = some (.int .i64 S.mx)) U3.drew := ⟨s0, s1, s2, s3⟩
      refine held_take (v := ?_) 0 22 rfl rfl (by kernel_rfl) (by kernel_rfl) (by kernel_rfl) (fun _ _ _ h => h) ⟨by rfl, ?_⟩ hSh0 ?_
      rotate_left
      · intro w' hw'; obtain ⟨x0, x1, x2, x3⟩ := hw'; go_simp; (try with_reducible rfl)
      simp only [Act.put, List.setIfInBounds_toArray, List.set_cons_zero, List.set_cons_succ]
      refine held_take (v := ?_) 1 23 rfl rfl (by kernel_rfl) (by kernel_rfl) (by kernel_rfl) (fun _ _ _ h => h) ⟨by rfl, ?_⟩ hSh0 ?_
      rotate_left
      · intro w' hw'; obtain ⟨x0, x1, x2, x3⟩ := hw'; go_simp; (try with_reducible rfl)
      simp only [Act.put, List.setIfInBounds_toArray, List.set_cons_zero, List.set_cons_succ]
      refine held_take (v := ?_) 3 25 rfl rfl (by kernel_rfl) (by kernel_rfl) (by kernel_rfl) (fun _ _ _ h => h) ⟨by rfl, ?_⟩ hSh0 ?_
      rotate_left
      · intro w' hw'; obtain ⟨x0, x1, x2, x3⟩ := hw'; go_simp; (try with_reducible rfl)
      simp only [Act.put, List.setIfInBounds_toArray, List.set_cons_zero, List.set_cons_succ]
      refine held_take (v := ?_) 4 26 rfl rfl (by kernel_rfl) (by kernel_rfl) (by kernel_rfl) (fun _ _ _ h => h) ⟨by rfl, ?_⟩ hSh0 ?_
      rotate_left
      · intro w' hw'; obtain ⟨x0, x1, x2, x3⟩ := hw'; go_simp; (try with_reducible rfl)
      simp only [Act.put, List.setIfInBounds_toArray, List.set_cons_zero, List.set_cons_succ]
      refine held_take (v := ?_) 5 27 rfl rfl (by kernel_rfl) (by kernel_rfl) (by kernel_rfl) (fun _ _ _ h => h) ⟨by rfl, ?_⟩ hSh0 ?_
      rotate_left
      · intro w' hw'; obtain ⟨x0, x1, x2, x3⟩ := hw'; go_simp; (try with_reducible rfl)
      simp only [Act.put, List.setIfInBounds_toArray, List.set_cons_zero, List.set_cons_succ]
      refine held_take (v := ?_) 6 28 rfl rfl (by kernel_rfl) (by kernel_rfl) (by kernel_rfl) (fun _ _ _ h => h) ⟨by rfl, ?_⟩ hSh0 ?_
      rotate_left
      · intro w' hw'; obtain ⟨x0, x1, x2, x3⟩ := hw'; go_simp; (try with_reducible rfl)
      simp only [Act.put, List.setIfInBounds_toArray, List.set_cons_zero, List.set_cons_succ]
      refine held_take (v := ?_) 8 30 rfl rfl (by kernel_rfl) (by kernel_rfl) (by kernel_rfl) (fun _ _ _ h => h) ⟨by rfl, ?_⟩ hSh0 ?_
      rotate_left
      · intro w' hw'; obtain ⟨x0, x1, x2, x3⟩ := hw'; go_simp; (try with_reducible rfl)
      simp only [Act.put, List.setIfInBounds_toArray, List.set_cons_zero, List.set_cons_succ]
      refine held_take (v := ?_) 9 31 rfl rfl (by kernel_rfl) (by kernel_rfl) (by kernel_rfl) (fun _ _ _ h => h) ⟨by rfl, ?_⟩ hSh0 ?_
      rotate_left
      · intro w' hw'; obtain ⟨x0, x1, x2, x3⟩ := hw'; go_simp; (try with_reducible rfl)
      simp only [Act.put, List.setIfInBounds_toArray, List.set_cons_zero, List.set_cons_succ]
      refine held_take (v := ?_) 10 32 rfl rfl (by kernel_rfl) (by kernel_rfl) (by kernel_rfl) (fun _ _ _ h => h) ⟨by rfl, ?_⟩ hSh0 ?_
      rotate_left
      · intro w' hw'; obtain ⟨x0, x1, x2, x3⟩ := hw'; go_simp; (try with_reducible rfl)
      simp only [Act.put, List.setIfInBounds_toArray, List.set_cons_zero, List.set_cons_succ]
      refine held_take (v := ?_) 11 33 rfl rfl (by kernel_rfl) (by kernel_rfl) (by kernel_rfl) (fun _ _ _ h => h) ⟨by rfl, ?_⟩ hSh0 ?_
      rotate_left
      · intro w' hw'; obtain ⟨x0, x1, x2, x3⟩ := hw'; go_simp; (try with_reducible rfl)
      simp only [Act.put, List.setIfInBounds_toArray, List.set_cons_zero, List.set_cons_succ]
      refine held_one 2 rfl (by kernel_rfl) (by rfl) (fun K hK => ?_)
      go_simp
      go_at_call 14
      refine (c1.out U3.drew (HBel.out.trans (hBh0.mono hlow))).mono ?_
      rintro e wh1 ⟨rfl, hbh1⟩
      have hBh1 : Below U3.heap.size U3 wh1 := below_step hBh0 hbh1
      have hSh1 : (fun w' : World => w'.cell? ⟨N_s, 0, none⟩ = some (.int .i64 S.g) ∧ w'.cell? ⟨N_s, 1, none⟩ = some (.int .i64 S.c) ∧ w'.cell? ⟨N_s, 2, none⟩ = some (.int .i64 S.mn) ∧ w'.cell? ⟨N_s, 3, none⟩ = some (.int .i64 S.mx)) wh1 := ⟨(hBh1.cell (p := ⟨N_s, 0, none⟩) (show N_s < U3.heap.size by omega)).trans s0, (hBh1.cell (p := ⟨N_s, 1, none⟩) (show N_s < U3.heap.size by omega)).trans s1, (hBh1.cell (p := ⟨N_s, 2, none⟩) (show N_s < U3.heap.size by omega)).trans s2, (hBh1.cell (p := ⟨N_s, 3, none⟩) (show N_s < U3.heap.size by omega)).trans s3⟩
      refine hK.out _ _ hSh1 ?_
      clear hK K
      refine held_one 7 rfl (by kernel_rfl) (by rfl) (fun K hK => ?_)
      go_simp
      go_at_call 14
      refine (c2.out _ _ wh1 (HBel.out.trans (hBh1.mono hlow))).mono ?_
      rintro e wh2 ⟨rfl, hbh2⟩
      have hBh2 : Below U3.heap.size U3 wh2 := below_step hBh1 hbh2
      have hSh2 : (fun w' : World => w'.cell? ⟨N_s, 0, none⟩ = some (.int .i64 S.g) ∧ w'.cell? ⟨N_s, 1, none⟩ = some (.int .i64 S.c) ∧ w'.cell? ⟨N_s, 2, none⟩ = some (.int .i64 S.mn) ∧ w'.cell? ⟨N_s, 3, none⟩ = some (.int .i64 S.mx)) wh2 := ⟨(hBh2.cell (p := ⟨N_s, 0, none⟩) (show N_s < U3.heap.size by omega)).trans s0, (hBh2.cell (p := ⟨N_s, 1, none⟩) (show N_s < U3.heap.size by omega)).trans s1, (hBh2.cell (p := ⟨N_s, 2, none⟩) (show N_s < U3.heap.size by omega)).trans s2, (hBh2.cell (p := ⟨N_s, 3, none⟩) (show N_s < U3.heap.size by omega)).trans s3⟩
      refine hK.out _ _ hSh2 ?_
      clear hK K
      refine held_one 12 rfl (by kernel_rfl) (by rfl) (fun K hK => ?_)
      go_simp
      go_at_call 14
      refine (c2.out _ _ wh2 (HBel.out.trans (hBh2.mono hlow))).mono ?_
      rintro e wh3 ⟨rfl, hbh3⟩
      have hBh3 : Below U3.heap.size U3 wh3 := below_step hBh2 hbh3
      have hSh3 : (fun w' : World => w'.cell? ⟨N_s, 0, none⟩ = some (.int .i64 S.g) ∧ w'.cell? ⟨N_s, 1, none⟩ = some (.int .i64 S.c) ∧ w'.cell? ⟨N_s, 2, none⟩ = some (.int .i64 S.mn) ∧ w'.cell? ⟨N_s, 3, none⟩ = some (.int .i64 S.mx)) wh3 := ⟨(hBh3.cell (p := ⟨N_s, 0, none⟩) (show N_s < U3.heap.size by omega)).trans s0, (hBh3.cell (p := ⟨N_s, 1, none⟩) (show N_s < U3.heap.size by omega)).trans s1, (hBh3.cell (p := ⟨N_s, 2, none⟩) (show N_s < U3.heap.size by omega)).trans s2, (hBh3.cell (p := ⟨N_s, 3, none⟩) (show N_s < U3.heap.size by omega)).trans s3⟩
      refine hK.out _ _ hSh3 ?_
      clear hK K
      refine held_take (v := ?_) 13 35 rfl rfl (by kernel_rfl) (by kernel_rfl) (by kernel_rfl) (fun _ _ _ h => h) ⟨by rfl, ?_⟩ hSh3 ?_
      rotate_left
      · intro w' hw'; obtain ⟨x0, x1, x2, x3⟩ := hw'; go_simp; (try with_reducible rfl)
      simp only [Act.put, List.setIfInBounds_toArray, List.set_cons_zero, List.set_cons_succ]
      refine held_take (v := ?_) 14 36 rfl rfl (by kernel_rfl) (by kernel_rfl) (by kernel_rfl) (fun _ _ _ h => h) ⟨by rfl, ?_⟩ hSh3 ?_
      rotate_left
      · intro w' hw'; obtain ⟨x0, x1, x2, x3⟩ := hw'; go_simp; (try with_reducible rfl)
      simp only [Act.put, List.setIfInBounds_toArray, List.set_cons_zero, List.set_cons_succ]
      refine held_take (v := ?_) 15 37 rfl rfl (by kernel_rfl) (by kernel_rfl) (by kernel_rfl) (fun _ _ _ h => h) ⟨by rfl, ?_⟩ hSh3 ?_
      rotate_left
      · intro w' hw'; obtain ⟨x0, x1, x2, x3⟩ := hw'; go_simp; (try with_reducible rfl)
      simp only [Act.put, List.setIfInBounds_toArray, List.set_cons_zero, List.set_cons_succ]
      refine held_take (v := ?_) 16 38 rfl rfl (by kernel_rfl) (by kernel_rfl) (by kernel_rfl) (fun _ _ _ h => h) ⟨by rfl, ?_⟩ hSh3 ?_
      rotate_left
      · intro w' hw'; obtain ⟨x0, x1, x2, x3⟩ := hw'; go_simp; (try with_reducible rfl)
      simp only [Act.put, List.setIfInBounds_toArray, List.set_cons_zero, List.set_cons_succ]
      refine held_one 17 rfl (by kernel_rfl) (by rfl) (fun K hK => ?_)
      go_simp
      go_at_call 14
      refine (c4.out wh3 (HBel.out.trans (hBh3.mono hlow))).mono ?_
      rintro e wh4 ⟨rfl, hbh4⟩
      have hBh4 : Below U3.heap.size U3 wh4 := below_step hBh3 hbh4
      have hSh4 : (fun w' : World => w'.cell? ⟨N_s, 0, none⟩ = some (.int .i64 S.g) ∧ w'.cell? ⟨N_s, 1, none⟩ = some (.int .i64 S.c) ∧ w'.cell? ⟨N_s, 2, none⟩ = some (.int .i64 S.mn) ∧ w'.cell? ⟨N_s, 3, none⟩ = some (.int .i64 S.mx)) wh4 := ⟨(hBh4.cell (p := ⟨N_s, 0, none⟩) (show N_s < U3.heap.size by omega)).trans s0, (hBh4.cell (p := ⟨N_s, 1, none⟩) (show N_s < U3.heap.size by omega)).trans s1, (hBh4.cell (p := ⟨N_s, 2, none⟩) (show N_s < U3.heap.size by omega)).trans s2, (hBh4.cell (p := ⟨N_s, 3, none⟩) (show N_s < U3.heap.size by omega)).trans s3⟩
      refine hK.out _ _ hSh4 ?_
      clear hK K
      refine held_take (v := ?_) 18 40 rfl rfl (by kernel_rfl) (by kernel_rfl) (by kernel_rfl) (fun _ _ _ h => h) ⟨by rfl, ?_⟩ hSh4 ?_
      rotate_left
      · intro w' hw'; obtain ⟨x0, x1, x2, x3⟩ := hw'; go_simp; (try with_reducible rfl)
      simp only [Act.put, List.setIfInBounds_toArray, List.set_cons_zero, List.set_cons_succ]
      refine held_take (v := ?_) 19 41 rfl rfl (by kernel_rfl) (by kernel_rfl) (by kernel_rfl) (fun _ _ _ h => h) ⟨by rfl, ?_⟩ hSh4 ?_
      rotate_left
      · intro w' hw'; obtain ⟨x0, x1, x2, x3⟩ := hw'; go_simp; (try with_reducible rfl)
      simp only [Act.put, List.setIfInBounds_toArray, List.set_cons_zero, List.set_cons_succ]
      refine held_take (v := ?_) 20 6 rfl rfl (by kernel_rfl) (by kernel_rfl) (by kernel_rfl) (fun _ _ _ h => h) ⟨by rfl, ?_⟩ hSh4 ?_
      rotate_left
      · intro w' hw'; obtain ⟨x0, x1, x2, x3⟩ := hw'; go_simp; (try with_reducible rfl)
      simp only [Act.put, List.setIfInBounds_toArray, List.set_cons_zero, List.set_cons_succ]
      refine wpAnyH_done (by kernel_rfl) ?_ _
      have hb9 := hBh4
      clear s0 s1 s2 s3
      have hs9 := hb9.size
      replace HBel := Lib.hid (HBel.out.trans (hb9.mono hlow))
      replace B_s : Hid (wh4.heap[N_s]? = some (.cells #[.int .i64 S.g, .int .i64 S.c, .int .i64 S.mn, .int .i64 S.mx] 24 (0, 0))) := Lib.hid ((hb9.block _ l_s).trans B_s.out)
      replace l_s : N_s < wh4.heap.size := by omega
      replace hlow : w.heap.size ≤ wh4.heap.size := by omega
      clear hb9 hs9 hSh0 hBh0 hSh1 hBh1 hSh2 hBh2 hSh3 hBh3 hSh4 hBh4
      go_wp2
      go_ret
      exact ⟨rfl, HBel.out⟩
    · have HBel := Lib.hid (Below.refl w.heap.size w)
      have hlow : w.heap.size ≤ w.heap.size := Nat.le_refl _
      go_enter Tryd.func8, Tryd.ntmps8
      go_wp2_with fail
      obtain ⟨V1, hV1⟩ : ∃ W, W = w.alloc (.cells #[.int .i64 S.g, .int .i64 S.c, .int .i64 S.mn, .int .i64 S.mx] 24) := ⟨_, rfl⟩
      rw [← hV1]
      have hzV1 : V1.heap.size = w.heap.size + 1 := by rw [hV1]; simp
      replace HBel : Hid (Below w.heap.size w V1) := Lib.hid (by rw [hV1]; exact (HBel.out.alloc (hlow) _))
      have B_s : Hid (V1.heap[w.heap.size]? = some (.cells #[.int .i64 S.g, .int .i64 S.c, .int .i64 S.mn, .int .i64 S.mx] 24 (0, 0))) := Lib.hid (by
        have h9 := heap_alloc_new (w) (.cells #[.int .i64 S.g, .int .i64 S.c, .int .i64 S.mn, .int .i64 S.mx] 24)
        rw [hV1]; exact h9)
      obtain ⟨N_s, hN_s⟩ : ∃ N, N = w.heap.size := ⟨_, rfl⟩
      (try rw [← hN_s])
      rw [← hN_s] at B_s
      have l_s : N_s < V1.heap.size := by omega
      have g_s : w.heap.size ≤ N_s := by omega
      replace hlow : w.heap.size ≤ V1.heap.size := by omega
      clear hV1 hzV1 hN_s
      refine (hAw.out V1 (HT.out.below HBel.out HT.out.size)).mono ?_
      rintro e U2 ⟨rfl, hb9⟩
      have hs9 := hb9.size
      replace HBel := Lib.hid (HBel.out.trans (hb9.mono hlow))
      replace B_s : Hid (U2.heap[N_s]? = some (.cells #[.int .i64 S.g, .int .i64 S.c, .int .i64 S.mn, .int .i64 S.mx] 24 (0, 0))) := Lib.hid ((hb9.block _ l_s).trans B_s.out)
      replace l_s : N_s < U2.heap.size := by omega
      replace hlow : w.heap.size ≤ U2.heap.size := by omega
      clear hb9 hs9
      go_wp2_with fail
      refine (hFw.out U2 HBel.out).mono ?_
      rintro e U3 ⟨rfl, hb9⟩
      have hs9 := hb9.size
      replace HBel := Lib.hid (HBel.out.trans (hb9.mono hlow))
      replace B_s : Hid (U3.heap[N_s]? = some (.cells #[.int .i64 S.g, .int .i64 S.c, .int .i64 S.mn, .int .i64 S.mx] 24 (0, 0))) := Lib.hid ((hb9.block _ l_s).trans B_s.out)
      replace l_s : N_s < U3.heap.size := by omega
      replace hlow : w.heap.size ≤ U3.heap.size := by omega
      clear hb9 hs9
      go_wp2_with fail
      have s0 : U3.cell? ⟨N_s, 0, none⟩ = some (.int .i64 S.g) := cell_blk (i := 0) B_s.out rfl
      have s1 : U3.cell? ⟨N_s, 1, none⟩ = some (.int .i64 S.c) := cell_blk (i := 1) B_s.out rfl
      have s2 : U3.cell? ⟨N_s, 2, none⟩ = some (.int .i64 S.mn) := cell_blk (i := 2) B_s.out rfl
      have s3 : U3.cell? ⟨N_s, 3, none⟩ = some (.int .i64 S.mx) := cell_blk (i := 3) B_s.out rfl
      refine held_begin (fun w' : World => w'.cell? ⟨N_s, 0, none⟩ = some (.int .i64 S.g) ∧ w'.cell? ⟨N_s, 1, none⟩ = some (.int .i64 S.c) ∧ w'.cell? ⟨N_s, 2, none⟩ = some (.int .i64 S.mn) ∧ w'.cell? ⟨N_s, 3, none⟩ = some (.int .i64 S.mx)) (by kernel_rfl) ?_
      have hBh0 : Below U3.heap.size U3 U3.drew := (Below.refl _ _).drew
      have hSh0 : (fun w' : World => w'.cell? ⟨N_s, 0, none⟩ = some (.int .i64 S.g) ∧ w'.cell? ⟨N_s, 1, none⟩ = some (.int .i64 S.c) ∧ w'.cell? ⟨N_s, 2, none⟩ = some (.int .i64 S.mn) ∧ w'.cell? ⟨N_s, 3, none⟩ = some (.int .i64 S.mx)) U3.drew := ⟨s0, s1, s2, s3⟩
      refine held_take (v := ?_) 0 22 rfl rfl (by kernel_rfl) (by kernel_rfl) (by kernel_rfl) (fun _ _ _ h => h) ⟨by rfl, ?_⟩ hSh0 ?_
      rotate_left
      · intro w' hw'; obtain ⟨x0, x1, x2, x3⟩ := hw'; go_simp; (try with_reducible rfl)
      simp only [Act.put, List.setIfInBounds_toArray, List.set_cons_zero, List.set_cons_succ]
      refine held_take (v := ?_) 1 23 rfl rfl (by kernel_rfl) (by kernel_rfl) (by kernel_rfl) (fun _ _ _ h => h) ⟨by rfl, ?_⟩ hSh0 ?_
      rotate_left
      · intro w' hw'; obtain ⟨x0, x1, x2, x3⟩ := hw'; go_simp; (try with_reducible rfl)
      simp only [Act.put, List.setIfInBounds_toArray, List.set_cons_zero, List.set_cons_succ]
      refine held_take (v := ?_) 3 25 rfl rfl (by kernel_rfl) (by kernel_rfl) (by kernel_rfl) (fun _ _ _ h => h) ⟨by rfl, ?_⟩ hSh0 ?_
      rotate_left
      · intro w' hw'; obtain ⟨x0, x1, x2, x3⟩ := hw'; go_simp; (try with_reducible rfl)
      simp only [Act.put, List.setIfInBounds_toArray, List.set_cons_zero, List.set_cons_succ]
      refine held_take (v := ?_) 4 26 rfl rfl (by kernel_rfl) (by kernel_rfl) (by kernel_rfl) (fun _ _ _ h => h) ⟨by rfl, ?_⟩ hSh0 ?_
      rotate_left
      · intro w' hw'; obtain ⟨x0, x1, x2, x3⟩ := hw'; go_simp; (try with_reducible rfl)
      simp only [Act.put, List.setIfInBounds_toArray, List.set_cons_zero, List.set_cons_succ]
      refine held_take (v := ?_) 5 27 rfl rfl (by kernel_rfl) (by kernel_rfl) (by kernel_rfl) (fun _ _ _ h => h) ⟨by rfl, ?_⟩ hSh0 ?_
      rotate_left
      · intro w' hw'; obtain ⟨x0, x1, x2, x3⟩ := hw'; go_simp; (try with_reducible rfl)
      simp only [Act.put, List.setIfInBounds_toArray, List.set_cons_zero, List.set_cons_succ]
      refine held_take (v := ?_) 6 28 rfl rfl (by kernel_rfl) (by kernel_rfl) (by kernel_rfl) (fun _ _ _ h => h) ⟨by rfl, ?_⟩ hSh0 ?_
      rotate_left
      · intro w' hw'; obtain ⟨x0, x1, x2, x3⟩ := hw'; go_simp; (try with_reducible rfl)
      simp only [Act.put, List.setIfInBounds_toArray, List.set_cons_zero, List.set_cons_succ]
      refine held_take (v := ?_) 8 30 rfl rfl (by kernel_rfl) (by kernel_rfl) (by kernel_rfl) (fun _ _ _ h => h) ⟨by rfl, ?_⟩ hSh0 ?_
      rotate_left
      · intro w' hw'; obtain ⟨x0, x1, x2, x3⟩ := hw'; go_simp; (try with_reducible rfl)
      simp only [Act.put, List.setIfInBounds_toArray, List.set_cons_zero, List.set_cons_succ]
      refine held_take (v := ?_) 9 31 rfl rfl (by kernel_rfl) (by kernel_rfl) (by kernel_rfl) (fun _ _ _ h => h) ⟨by rfl, ?_⟩ hSh0 ?_
      rotate_left
      · intro w' hw'; obtain ⟨x0, x1, x2, x3⟩ := hw'; go_simp; (try with_reducible rfl)
      simp only [Act.put, List.setIfInBounds_toArray, List.set_cons_zero, List.set_cons_succ]
      refine held_take (v := ?_) 10 32 rfl rfl (by kernel_rfl) (by kernel_rfl) (by kernel_rfl) (fun _ _ _ h => h) ⟨by rfl, ?_⟩ hSh0 ?_
      rotate_left
      · intro w' hw'; obtain ⟨x0, x1, x2, x3⟩ := hw'; go_simp; (try with_reducible rfl)
      simp only [Act.put, List.setIfInBounds_toArray, List.set_cons_zero, List.set_cons_succ]
      refine held_take (v := ?_) 11 33 rfl rfl (by kernel_rfl) (by kernel_rfl) (by kernel_rfl) (fun _ _ _ h => h) ⟨by rfl, ?_⟩ hSh0 ?_
      rotate_left
      · intro w' hw'; obtain ⟨x0, x1, x2, x3⟩ := hw'; go_simp; (try with_reducible rfl)
      simp only [Act.put, List.setIfInBounds_toArray, List.set_cons_zero, List.set_cons_succ]
      refine held_one 2 rfl (by kernel_rfl) (by rfl) (fun K hK => ?_)
      go_simp
      go_at_call 14
      refine (c1.out U3.drew (HBel.out.trans (hBh0.mono hlow))).mono ?_
      rintro e wh1 ⟨rfl, hbh1⟩
      have hBh1 : Below U3.heap.size U3 wh1 := below_step hBh0 hbh1
      have hSh1 : (fun w' : World => w'.cell? ⟨N_s, 0, none⟩ = some (.int .i64 S.g) ∧ w'.cell? ⟨N_s, 1, none⟩ = some (.int .i64 S.c) ∧ w'.cell? ⟨N_s, 2, none⟩ = some (.int .i64 S.mn) ∧ w'.cell? ⟨N_s, 3, none⟩ = some (.int .i64 S.mx)) wh1 := ⟨(hBh1.cell (p := ⟨N_s, 0, none⟩) (show N_s < U3.heap.size by omega)).trans s0, (hBh1.cell (p := ⟨N_s, 1, none⟩) (show N_s < U3.heap.size by omega)).trans s1, (hBh1.cell (p := ⟨N_s, 2, none⟩) (show N_s < U3.heap.size by omega)).trans s2, (hBh1.cell (p := ⟨N_s, 3, none⟩) (show N_s < U3.heap.size by omega)).trans s3⟩
      refine hK.out _ _ hSh1 ?_
      clear hK K
      refine held_one 7 rfl (by kernel_rfl) (by rfl) (fun K hK => ?_)
      go_simp
      go_at_call 14
      refine (c2.out _ _ wh1 (HBel.out.trans (hBh1.mono hlow))).mono ?_
      rintro e wh2 ⟨rfl, hbh2⟩
      have hBh2 : Below U3.heap.size U3 wh2 := below_step hBh1 hbh2
      have hSh2 : (fun w' : World => w'.cell? ⟨N_s, 0, none⟩ = some (.int .i64 S.g) ∧ w'.cell? ⟨N_s, 1, none⟩ = some (.int .i64 S.c) ∧ w'.cell? ⟨N_s, 2, none⟩ = some (.int .i64 S.mn) ∧ w'.cell? ⟨N_s, 3, none⟩ = some (.int .i64 S.mx)) wh2 := ⟨(hBh2.cell (p := ⟨N_s, 0, none⟩) (show N_s < U3.heap.size by omega)).trans s0, (hBh2.cell (p := ⟨N_s, 1, none⟩) (show N_s < U3.heap.size by omega)).trans s1, (hBh2.cell (p := ⟨N_s, 2, none⟩) (show N_s < U3.heap.size by omega)).trans s2, (hBh2.cell (p := ⟨N_s, 3, none⟩) (show N_s < U3.heap.size by omega)).trans s3⟩
      refine hK.out _ _ hSh2 ?_
      clear hK K
      refine held_one 12 rfl (by kernel_rfl) (by rfl) (fun K hK => ?_)
      go_simp
      go_at_call 14
      refine (c2.out _ _ wh2 (HBel.out.trans (hBh2.mono hlow))).mono ?_
      rintro e wh3 ⟨rfl, hbh3⟩
      have hBh3 : Below U3.heap.size U3 wh3 := below_step hBh2 hbh3
      have hSh3 : (fun w' : World => w'.cell? ⟨N_s, 0, none⟩ = some (.int .i64 S.g) ∧ w'.cell? ⟨N_s, 1, none⟩ = some (.int .i64 S.c) ∧ w'.cell? ⟨N_s, 2, none⟩ = some (.int .i64 S.mn) ∧ w'.cell? ⟨N_s, 3, none⟩ = some (.int .i64 S.mx)) wh3 := ⟨(hBh3.cell (p := ⟨N_s, 0, none⟩) (show N_s < U3.heap.size by omega)).trans s0, (hBh3.cell (p := ⟨N_s, 1, none⟩) (show N_s < U3.heap.size by omega)).trans s1, (hBh3.cell (p := ⟨N_s, 2, none⟩) (show N_s < U3.heap.size by omega)).trans s2, (hBh3.cell (p := ⟨N_s, 3, none⟩) (show N_s < U3.heap.size by omega)).trans s3⟩
      refine hK.out _ _ hSh3 ?_
      clear hK K
      refine held_take (v := ?_) 13 35 rfl rfl (by kernel_rfl) (by kernel_rfl) (by kernel_rfl) (fun _ _ _ h => h) ⟨by rfl, ?_⟩ hSh3 ?_
      rotate_left
      · intro w' hw'; obtain ⟨x0, x1, x2, x3⟩ := hw'; go_simp; (try with_reducible rfl)
      simp only [Act.put, List.setIfInBounds_toArray, List.set_cons_zero, List.set_cons_succ]
      refine held_take (v := ?_) 14 36 rfl rfl (by kernel_rfl) (by kernel_rfl) (by kernel_rfl) (fun _ _ _ h => h) ⟨by rfl, ?_⟩ hSh3 ?_
      rotate_left
      · intro w' hw'; obtain ⟨x0, x1, x2, x3⟩ := hw'; go_simp; (try with_reducible rfl)
      simp only [Act.put, List.setIfInBounds_toArray, List.set_cons_zero, List.set_cons_succ]
      refine held_take (v := ?_) 15 37 rfl rfl (by kernel_rfl) (by kernel_rfl) (by kernel_rfl) (fun _ _ _ h => h) ⟨by rfl, ?_⟩ hSh3 ?_
      rotate_left
      · intro w' hw'; obtain ⟨x0, x1, x2, x3⟩ := hw'; go_simp; (try with_reducible rfl)
      simp only [Act.put, List.setIfInBounds_toArray, List.set_cons_zero, List.set_cons_succ]
      refine held_take (v := ?_) 16 38 rfl rfl (by kernel_rfl) (by kernel_rfl) (by kernel_rfl) (fun _ _ _ h => h) ⟨by rfl, ?_⟩ hSh3 ?_
      rotate_left
      · intro w' hw'; obtain ⟨x0, x1, x2, x3⟩ := hw'; go_simp; (try with_reducible rfl)
      simp only [Act.put, List.setIfInBounds_toArray, List.set_cons_zero, List.set_cons_succ]
      refine held_one 17 rfl (by kernel_rfl) (by rfl) (fun K hK => ?_)
      go_simp
      go_at_call 14
      refine (c4.out wh3 (HBel.out.trans (hBh3.mono hlow))).mono ?_
      rintro e wh4 ⟨rfl, hbh4⟩
      have hBh4 : Below U3.heap.size U3 wh4 := below_step hBh3 hbh4
      have hSh4 : (fun w' : World => w'.cell? ⟨N_s, 0, none⟩ = some (.int .i64 S.g) ∧ w'.cell? ⟨N_s, 1, none⟩ = some (.int .i64 S.c) ∧ w'.cell? ⟨N_s, 2, none⟩ = some (.int .i64 S.mn) ∧ w'.cell? ⟨N_s, 3, none⟩ = some (.int .i64 S.mx)) wh4 := ⟨(hBh4.cell (p := ⟨N_s, 0, none⟩) (show N_s < U3.heap.size by omega)).trans s0, (hBh4.cell (p := ⟨N_s, 1, none⟩) (show N_s < U3.heap.size by omega)).trans s1, (hBh4.cell (p := ⟨N_s, 2, none⟩) (show N_s < U3.heap.size by omega)).trans s2, (hBh4.cell (p := ⟨N_s, 3, none⟩) (show N_s < U3.heap.size by omega)).trans s3⟩
      refine hK.out _ _ hSh4 ?_
      clear hK K
      refine held_take (v := ?_) 18 40 rfl rfl (by kernel_rfl) (by kernel_rfl) (by kernel_rfl) (fun _ _ _ h => h) ⟨by rfl, ?_⟩ hSh4 ?_
      rotate_left
      · intro w' hw'; obtain ⟨x0, x1, x2, x3⟩ := hw'; go_simp; (try with_reducible rfl)
      simp only [Act.put, List.setIfInBounds_toArray, List.set_cons_zero, List.set_cons_succ]
      refine held_take (v := ?_) 19 41 rfl rfl (by kernel_rfl) (by kernel_rfl) (by kernel_rfl) (fun _ _ _ h => h) ⟨by rfl, ?_⟩ hSh4 ?_
      rotate_left
      · intro w' hw'; obtain ⟨x0, x1, x2, x3⟩ := hw'; go_simp; (try with_reducible rfl)
      simp only [Act.put, List.setIfInBounds_toArray, List.set_cons_zero, List.set_cons_succ]
      refine held_take (v := ?_) 20 6 rfl rfl (by kernel_rfl) (by kernel_rfl) (by kernel_rfl) (fun _ _ _ h => h) ⟨by rfl, ?_⟩ hSh4 ?_
      rotate_left
      · intro w' hw'; obtain ⟨x0, x1, x2, x3⟩ := hw'; go_simp; (try with_reducible rfl)
      simp only [Act.put, List.setIfInBounds_toArray, List.set_cons_zero, List.set_cons_succ]
      refine wpAnyH_done (by kernel_rfl) ?_ _
      have hb9 := hBh4
      clear s0 s1 s2 s3
      have hs9 := hb9.size
      replace HBel := Lib.hid (HBel.out.trans (hb9.mono hlow))
      replace B_s : Hid (wh4.heap[N_s]? = some (.cells #[.int .i64 S.g, .int .i64 S.c, .int .i64 S.mn, .int .i64 S.mx] 24 (0, 0))) := Lib.hid ((hb9.block _ l_s).trans B_s.out)
      replace l_s : N_s < wh4.heap.size := by omega
      replace hlow : w.heap.size ≤ wh4.heap.size := by omega
      clear hb9 hs9 hSh0 hBh0 hSh1 hBh1 hSh2 hBh2 hSh3 hBh3 hSh4 hBh4
      go_wp2
      go_ret
      exact ⟨rfl, HBel.out⟩
  · have c2 := Lib.hid (fun W (hW : Below w.heap.size w W) => show Calls Tryd.prog 14 #[.slice (some ⟨b, off, none⟩) k c0, .agg #[.int .i64 S.g, .int .i64 S.c, .int .i64 S.mn, .int .i64 S.mx]] W (fun e w' => e = .returned (.int .i64 (r1 : Nat)) ∧ Below W.heap.size W w') from (by
      have h9 := hR.out (some ⟨b, off, none⟩) c0 (l0.take k) W (.inr ⟨b, off, rfl, by have := hW.size; omega, fun i x hi => (hc i x (by rw [List.getElem?_take] at hi; split at hi; exact hi; cases hi)).keep (B := w.heap.size) hb hW⟩) (fun f hf => List.mem_of_mem_take hf) (by rw [List.length_take]; omega) hW
      rw [List.length_take, hn0, Nat.min_eq_left hkl, ← hr1] at h9; exact h9))
    by_cases hck : c0 = k
    · have hkn : n0 = k := by omega
      subst hkn
      subst hck
      obtain rfl : r2 = 0 := by rw [hr2, List.drop_eq_nil_of_le (by omega)]; rfl
      have c3 := Lib.hid (fun W (hW : Below w.heap.size w W) => show Calls Tryd.prog 14 #[.slice (some ⟨b, off, none⟩) 0 0, .agg #[.int .i64 S.g, .int .i64 S.c, .int .i64 S.mn, .int .i64 S.mx]] W (fun e w' => e = .returned (.int .i64 0) ∧ Below W.heap.size W w') from (hR.out (some ⟨b, off, none⟩) 0 [] W (.inl rfl) (by simp) (by simp) hW))
      have he0 : ((r : Int) == IntKind.i64.wrap (r1 : Int)) = true := by rw [IntWalk.i64_in _ (by omega)]; exact beq_iff_eq.2 (by omega)
      have HN := Lib.hid hn0
      clear hr hr1 hr2 hp e0 q0 w1 hT w2 hv hR hc hn0
      have HBel := Lib.hid (Below.refl w.heap.size w)
      have hlow : w.heap.size ≤ w.heap.size := Nat.le_refl _
      go_enter Tryd.func8, Tryd.ntmps8
      go_wp2_with fail
      obtain ⟨V1, hV1⟩ : ∃ W, W = w.alloc (.cells #[.int .i64 S.g, .int .i64 S.c, .int .i64 S.mn, .int .i64 S.mx] 24) := ⟨_, rfl⟩
      rw [← hV1]
      have hzV1 : V1.heap.size = w.heap.size + 1 := by rw [hV1]; simp
      replace HBel : Hid (Below w.heap.size w V1) := Lib.hid (by rw [hV1]; exact (HBel.out.alloc (hlow) _))
      have B_s : Hid (V1.heap[w.heap.size]? = some (.cells #[.int .i64 S.g, .int .i64 S.c, .int .i64 S.mn, .int .i64 S.mx] 24 (0, 0))) := Lib.hid (by
        have h9 := heap_alloc_new (w) (.cells #[.int .i64 S.g, .int .i64 S.c, .int .i64 S.mn, .int .i64 S.mx] 24)
        rw [hV1]; exact h9)
      obtain ⟨N_s, hN_s⟩ : ∃ N, N = w.heap.size := ⟨_, rfl⟩
      (try rw [← hN_s])
      rw [← hN_s] at B_s
      have l_s : N_s < V1.heap.size := by omega
      have g_s : w.heap.size ≤ N_s := by omega
      replace hlow : w.heap.size ≤ V1.heap.size := by omega
      clear hV1 hzV1 hN_s
      refine (hAw.out V1 (HT.out.below HBel.out HT.out.size)).mono ?_
      rintro e U2 ⟨rfl, hb9⟩
      have hs9 := hb9.size
      replace HBel := Lib.hid (HBel.out.trans (hb9.mono hlow))
      replace B_s : Hid (U2.heap[N_s]? = some (.cells #[.int .i64 S.g, .int .i64 S.c, .int .i64 S.mn, .int .i64 S.mx] 24 (0, 0))) := Lib.hid ((hb9.block _ l_s).trans B_s.out)
      replace l_s : N_s < U2.heap.size := by omega
      replace hlow : w.heap.size ≤ U2.heap.size := by omega
      clear hb9 hs9
      go_wp2_with fail
      refine (hFw.out U2 HBel.out).mono ?_
      rintro e U3 ⟨rfl, hb9⟩
      have hs9 := hb9.size
      replace HBel := Lib.hid (HBel.out.trans (hb9.mono hlow))
      replace B_s : Hid (U3.heap[N_s]? = some (.cells #[.int .i64 S.g, .int .i64 S.c, .int .i64 S.mn, .int .i64 S.mx] 24 (0, 0))) := Lib.hid ((hb9.block _ l_s).trans B_s.out)
      replace l_s : N_s < U3.heap.size := by omega
      replace hlow : w.heap.size ≤ U3.heap.size := by omega
      clear hb9 hs9
      go_wp2_with fail
      have s0 : U3.cell? ⟨N_s, 0, none⟩ = some (.int .i64 S.g) := cell_blk (i := 0) B_s.out rfl
      have s1 : U3.cell? ⟨N_s, 1, none⟩ = some (.int .i64 S.c) := cell_blk (i := 1) B_s.out rfl
      have s2 : U3.cell? ⟨N_s, 2, none⟩ = some (.int .i64 S.mn) := cell_blk (i := 2) B_s.out rfl
      have s3 : U3.cell? ⟨N_s, 3, none⟩ = some (.int .i64 S.mx) := cell_blk (i := 3) B_s.out rfl
      refine held_begin (fun w' : World => w'.cell? ⟨N_s, 0, none⟩ = some (.int .i64 S.g) ∧ w'.cell? ⟨N_s, 1, none⟩ = some (.int .i64 S.c) ∧ w'.cell? ⟨N_s, 2, none⟩ = some (.int .i64 S.mn) ∧ w'.cell? ⟨N_s, 3, none⟩ = some (.int .i64 S.mx)) (by kernel_rfl) ?_
      have hBh0 : Below U3.heap.size U3 U3.drew := (Below.refl _ _).drew
      have hSh0 : (fun w' : World => w'.cell? ⟨N_s, 0, none⟩ = some (.int .i64 S.g) ∧ w'.cell? ⟨N_s, 1, none⟩ = some (.int .i64 S.c) ∧ w'.cell? ⟨N_s, 2, none⟩ = some (.int .i64 S.mn) ∧ w'.cell? ⟨N_s, 3, none⟩ = some (.int .i64 S.mx)) U3.drew := ⟨s0, s1, s2, s3⟩
      refine held_take (v := ?_) 0 22 rfl rfl (by kernel_rfl) (by kernel_rfl) (by kernel_rfl) (fun _ _ _ h => h) ⟨by rfl, ?_⟩ hSh0 ?_
      rotate_left
      · intro w' hw'; obtain ⟨x0, x1, x2, x3⟩ := hw'; go_simp; (try with_reducible rfl)
      simp only [Act.put, List.setIfInBounds_toArray, List.set_cons_zero, List.set_cons_succ]
      refine held_take (v := ?_) 1 23 rfl rfl (by kernel_rfl) (by kernel_rfl) (by kernel_rfl) (fun _ _ _ h => h) ⟨by rfl, ?_⟩ hSh0 ?_
      rotate_left
      · intro w' hw'; obtain ⟨x0, x1, x2, x3⟩ := hw'; go_simp; (try with_reducible rfl)
      simp only [Act.put, List.setIfInBounds_toArray, List.set_cons_zero, List.set_cons_succ]
      refine held_take (v := ?_) 3 25 rfl rfl (by kernel_rfl) (by kernel_rfl) (by kernel_rfl) (fun _ _ _ h => h) ⟨by rfl, ?_⟩ hSh0 ?_
      rotate_left
      · intro w' hw'; obtain ⟨x0, x1, x2, x3⟩ := hw'; go_simp; (try with_reducible rfl)
      simp only [Act.put, List.setIfInBounds_toArray, List.set_cons_zero, List.set_cons_succ]
      refine held_take (v := ?_) 4 26 rfl rfl (by kernel_rfl) (by kernel_rfl) (by kernel_rfl) (fun _ _ _ h => h) ⟨by rfl, ?_⟩ hSh0 ?_
      rotate_left
      · intro w' hw'; obtain ⟨x0, x1, x2, x3⟩ := hw'; go_simp; (try with_reducible rfl)
      simp only [Act.put, List.setIfInBounds_toArray, List.set_cons_zero, List.set_cons_succ]
      refine held_take (v := ?_) 5 27 rfl rfl (by kernel_rfl) (by kernel_rfl) (by kernel_rfl) (fun _ _ _ h => h) ⟨by rfl, ?_⟩ hSh0 ?_
      rotate_left
      · intro w' hw'; obtain ⟨x0, x1, x2, x3⟩ := hw'; go_simp; (try with_reducible rfl)
      simp only [Act.put, List.setIfInBounds_toArray, List.set_cons_zero, List.set_cons_succ]
      refine held_take (v := ?_) 6 28 rfl rfl (by kernel_rfl) (by kernel_rfl) (by kernel_rfl) (fun _ _ _ h => h) ⟨by rfl, ?_⟩ hSh0 ?_
      rotate_left
      · intro w' hw'; obtain ⟨x0, x1, x2, x3⟩ := hw'; go_simp; (try with_reducible rfl)
      simp only [Act.put, List.setIfInBounds_toArray, List.set_cons_zero, List.set_cons_succ]
      refine held_take (v := ?_) 8 30 rfl rfl (by kernel_rfl) (by kernel_rfl) (by kernel_rfl) (fun _ _ _ h => h) ⟨by rfl, ?_⟩ hSh0 ?_
      rotate_left
      · intro w' hw'; obtain ⟨x0, x1, x2, x3⟩ := hw'; go_simp; (try with_reducible rfl)
      simp only [Act.put, List.setIfInBounds_toArray, List.set_cons_zero, List.set_cons_succ]
      refine held_take (v := ?_) 9 31 rfl rfl (by kernel_rfl) (by kernel_rfl) (by kernel_rfl) (fun _ _ _ h => h) ⟨by rfl, ?_⟩ hSh0 ?_
      rotate_left
      · intro w' hw'; obtain ⟨x0, x1, x2, x3⟩ := hw'; go_simp; (try with_reducible rfl)
      simp only [Act.put, List.setIfInBounds_toArray, List.set_cons_zero, List.set_cons_succ]
      refine held_take (v := ?_) 10 32 rfl rfl (by kernel_rfl) (by kernel_rfl) (by kernel_rfl) (fun _ _ _ h => h) ⟨by rfl, ?_⟩ hSh0 ?_
      rotate_left
      · intro w' hw'; obtain ⟨x0, x1, x2, x3⟩ := hw'; go_simp; (try with_reducible rfl)
      simp only [Act.put, List.setIfInBounds_toArray, List.set_cons_zero, List.set_cons_succ]
      refine held_take (v := ?_) 11 33 rfl rfl (by kernel_rfl) (by kernel_rfl) (by kernel_rfl) (fun _ _ _ h => h) ⟨by rfl, ?_⟩ hSh0 ?_
      rotate_left
      · intro w' hw'; obtain ⟨x0, x1, x2, x3⟩ := hw'; go_simp; (try with_reducible rfl)
      simp only [Act.put, List.setIfInBounds_toArray, List.set_cons_zero, List.set_cons_succ]
      refine held_one 2 rfl (by kernel_rfl) (by rfl) (fun K hK => ?_)
      go_simp
      go_at_call 14
      refine (c1.out U3.drew (HBel.out.trans (hBh0.mono hlow))).mono ?_
      rintro e wh1 ⟨rfl, hbh1⟩
      have hBh1 : Below U3.heap.size U3 wh1 := below_step hBh0 hbh1
      have hSh1 : (fun w' : World => w'.cell? ⟨N_s, 0, none⟩ = some (.int .i64 S.g) ∧ w'.cell? ⟨N_s, 1, none⟩ = some (.int .i64 S.c) ∧ w'.cell? ⟨N_s, 2, none⟩ = some (.int .i64 S.mn) ∧ w'.cell? ⟨N_s, 3, none⟩ = some (.int .i64 S.mx)) wh1 := ⟨(hBh1.cell (p := ⟨N_s, 0, none⟩) (show N_s < U3.heap.size by omega)).trans s0, (hBh1.cell (p := ⟨N_s, 1, none⟩) (show N_s < U3.heap.size by omega)).trans s1, (hBh1.cell (p := ⟨N_s, 2, none⟩) (show N_s < U3.heap.size by omega)).trans s2, (hBh1.cell (p := ⟨N_s, 3, none⟩) (show N_s < U3.heap.size by omega)).trans s3⟩
      refine hK.out _ _ hSh1 ?_
      clear hK K
      refine held_one 7 rfl (by kernel_rfl) (by rfl) (fun K hK => ?_)
      go_simp
      go_at_call 14
      refine (c2.out wh1 (HBel.out.trans (hBh1.mono hlow))).mono ?_
      rintro e wh2 ⟨rfl, hbh2⟩
      have hBh2 : Below U3.heap.size U3 wh2 := below_step hBh1 hbh2
      have hSh2 : (fun w' : World => w'.cell? ⟨N_s, 0, none⟩ = some (.int .i64 S.g) ∧ w'.cell? ⟨N_s, 1, none⟩ = some (.int .i64 S.c) ∧ w'.cell? ⟨N_s, 2, none⟩ = some (.int .i64 S.mn) ∧ w'.cell? ⟨N_s, 3, none⟩ = some (.int .i64 S.mx)) wh2 := ⟨(hBh2.cell (p := ⟨N_s, 0, none⟩) (show N_s < U3.heap.size by omega)).trans s0, (hBh2.cell (p := ⟨N_s, 1, none⟩) (show N_s < U3.heap.size by omega)).trans s1, (hBh2.cell (p := ⟨N_s, 2, none⟩) (show N_s < U3.heap.size by omega)).trans s2, (hBh2.cell (p := ⟨N_s, 3, none⟩) (show N_s < U3.heap.size by omega)).trans s3⟩
      refine hK.out _ _ hSh2 ?_
      clear hK K
      refine held_one 12 rfl (by kernel_rfl) (by rfl) (fun K hK => ?_)
      go_simp
      go_at_call 14
      refine (c3.out wh2 (HBel.out.trans (hBh2.mono hlow))).mono ?_
      rintro e wh3 ⟨rfl, hbh3⟩
      have hBh3 : Below U3.heap.size U3 wh3 := below_step hBh2 hbh3
      have hSh3 : (fun w' : World => w'.cell? ⟨N_s, 0, none⟩ = some (.int .i64 S.g) ∧ w'.cell? ⟨N_s, 1, none⟩ = some (.int .i64 S.c) ∧ w'.cell? ⟨N_s, 2, none⟩ = some (.int .i64 S.mn) ∧ w'.cell? ⟨N_s, 3, none⟩ = some (.int .i64 S.mx)) wh3 := ⟨(hBh3.cell (p := ⟨N_s, 0, none⟩) (show N_s < U3.heap.size by omega)).trans s0, (hBh3.cell (p := ⟨N_s, 1, none⟩) (show N_s < U3.heap.size by omega)).trans s1, (hBh3.cell (p := ⟨N_s, 2, none⟩) (show N_s < U3.heap.size by omega)).trans s2, (hBh3.cell (p := ⟨N_s, 3, none⟩) (show N_s < U3.heap.size by omega)).trans s3⟩
      refine hK.out _ _ hSh3 ?_
      clear hK K
      refine held_take (v := ?_) 13 35 rfl rfl (by kernel_rfl) (by kernel_rfl) (by kernel_rfl) (fun _ _ _ h => h) ⟨by rfl, ?_⟩ hSh3 ?_
      rotate_left
      · intro w' hw'; obtain ⟨x0, x1, x2, x3⟩ := hw'; go_simp; (try with_reducible rfl)
      simp only [Act.put, List.setIfInBounds_toArray, List.set_cons_zero, List.set_cons_succ]
      refine held_take (v := ?_) 14 36 rfl rfl (by kernel_rfl) (by kernel_rfl) (by kernel_rfl) (fun _ _ _ h => h) ⟨by rfl, ?_⟩ hSh3 ?_
      rotate_left
      · intro w' hw'; obtain ⟨x0, x1, x2, x3⟩ := hw'; go_simp; (try with_reducible rfl)
      simp only [Act.put, List.setIfInBounds_toArray, List.set_cons_zero, List.set_cons_succ]
      refine held_take (v := ?_) 15 37 rfl rfl (by kernel_rfl) (by kernel_rfl) (by kernel_rfl) (fun _ _ _ h => h) ⟨by rfl, ?_⟩ hSh3 ?_
      rotate_left
      · intro w' hw'; obtain ⟨x0, x1, x2, x3⟩ := hw'; go_simp; (try with_reducible rfl)
      simp only [Act.put, List.setIfInBounds_toArray, List.set_cons_zero, List.set_cons_succ]
      refine held_take (v := ?_) 16 38 rfl rfl (by kernel_rfl) (by kernel_rfl) (by kernel_rfl) (fun _ _ _ h => h) ⟨by rfl, ?_⟩ hSh3 ?_
      rotate_left
      · intro w' hw'; obtain ⟨x0, x1, x2, x3⟩ := hw'; go_simp; (try with_reducible rfl)
      simp only [Act.put, List.setIfInBounds_toArray, List.set_cons_zero, List.set_cons_succ]
      refine held_one 17 rfl (by kernel_rfl) (by rfl) (fun K hK => ?_)
      go_simp
      go_at_call 14
      refine (c4.out wh3 (HBel.out.trans (hBh3.mono hlow))).mono ?_
      rintro e wh4 ⟨rfl, hbh4⟩
      have hBh4 : Below U3.heap.size U3 wh4 := below_step hBh3 hbh4
      have hSh4 : (fun w' : World => w'.cell? ⟨N_s, 0, none⟩ = some (.int .i64 S.g) ∧ w'.cell? ⟨N_s, 1, none⟩ = some (.int .i64 S.c) ∧ w'.cell? ⟨N_s, 2, none⟩ = some (.int .i64 S.mn) ∧ w'.cell? ⟨N_s, 3, none⟩ = some (.int .i64 S.mx)) wh4 := ⟨(hBh4.cell (p := ⟨N_s, 0, none⟩) (show N_s < U3.heap.size by omega)).trans s0, (hBh4.cell (p := ⟨N_s, 1, none⟩) (show N_s < U3.heap.size by omega)).trans s1, (hBh4.cell (p := ⟨N_s, 2, none⟩) (show N_s < U3.heap.size by omega)).trans s2, (hBh4.cell (p := ⟨N_s, 3, none⟩) (show N_s < U3.heap.size by omega)).trans s3⟩
      refine hK.out _ _ hSh4 ?_
      clear hK K
      refine held_take (v := ?_) 18 40 rfl rfl (by kernel_rfl) (by kernel_rfl) (by kernel_rfl) (fun _ _ _ h => h) ⟨by rfl, ?_⟩ hSh4 ?_
      rotate_left
      · intro w' hw'; obtain ⟨x0, x1, x2, x3⟩ := hw'; go_simp; (try with_reducible rfl)
      simp only [Act.put, List.setIfInBounds_toArray, List.set_cons_zero, List.set_cons_succ]
      refine held_take (v := ?_) 19 41 rfl rfl (by kernel_rfl) (by kernel_rfl) (by kernel_rfl) (fun _ _ _ h => h) ⟨by rfl, ?_⟩ hSh4 ?_
      rotate_left
      · intro w' hw'; obtain ⟨x0, x1, x2, x3⟩ := hw'; go_simp; (try with_reducible rfl)
      simp only [Act.put, List.setIfInBounds_toArray, List.set_cons_zero, List.set_cons_succ]
      refine held_take (v := ?_) 20 6 rfl rfl (by kernel_rfl) (by kernel_rfl) (by kernel_rfl) (fun _ _ _ h => h) ⟨by rfl, ?_⟩ hSh4 ?_
      rotate_left
      · intro w' hw'; obtain ⟨x0, x1, x2, x3⟩ := hw'; go_simp; (try with_reducible rfl)
      simp only [Act.put, List.setIfInBounds_toArray, List.set_cons_zero, List.set_cons_succ]
      refine wpAnyH_done (by kernel_rfl) ?_ _
      have hb9 := hBh4
      clear s0 s1 s2 s3
      have hs9 := hb9.size
      replace HBel := Lib.hid (HBel.out.trans (hb9.mono hlow))
      replace B_s : Hid (wh4.heap[N_s]? = some (.cells #[.int .i64 S.g, .int .i64 S.c, .int .i64 S.mn, .int .i64 S.mx] 24 (0, 0))) := Lib.hid ((hb9.block _ l_s).trans B_s.out)
      replace l_s : N_s < wh4.heap.size := by omega
      replace hlow : w.heap.size ≤ wh4.heap.size := by omega
      clear hb9 hs9 hSh0 hBh0 hSh1 hBh1 hSh2 hBh2 hSh3 hBh3 hSh4 hBh4
      go_wp2
      go_ret
      exact ⟨rfl, HBel.out⟩
    · have c3 := Lib.hid (fun W (hW : Below w.heap.size w W) => show Calls Tryd.prog 14 #[.slice (some ⟨b, off + k * 4, none⟩) (n0 - k) (c0 - k), .agg #[.int .i64 S.g, .int .i64 S.c, .int .i64 S.mn, .int .i64 S.mx]] W (fun e w' => e = .returned (.int .i64 (r2 : Nat)) ∧ Below W.heap.size W w') from (by
        have h9 := hR.out (some ⟨b, off + k * 4, none⟩) (c0 - k) (l0.drop k) W (.inr ⟨b, off + k * 4, rfl, by have := hW.size; omega, fun i x hi => by
          rw [List.getElem?_drop] at hi
          have := (hc (k + i) x hi).keep (B := w.heap.size) hb hW
          rw [Nat.add_mul, ← Nat.add_assoc] at this
          exact this⟩) (fun f hf => List.mem_of_mem_drop hf) (by rw [List.length_drop]; omega) hW
        rw [List.length_drop, hn0, ← hr2] at h9; exact h9))
      have HN := Lib.hid hn0
      clear hr hr1 hr2 hp e0 q0 w1 hT w2 hv hR hc hn0
      have HBel := Lib.hid (Below.refl w.heap.size w)
      have hlow : w.heap.size ≤ w.heap.size := Nat.le_refl _
      go_enter Tryd.func8, Tryd.ntmps8
      go_wp2_with fail
      obtain ⟨V1, hV1⟩ : ∃ W, W = w.alloc (.cells #[.int .i64 S.g, .int .i64 S.c, .int .i64 S.mn, .int .i64 S.mx] 24) := ⟨_, rfl⟩
      rw [← hV1]
      have hzV1 : V1.heap.size = w.heap.size + 1 := by rw [hV1]; simp
      replace HBel : Hid (Below w.heap.size w V1) := Lib.hid (by rw [hV1]; exact (HBel.out.alloc (hlow) _))
      have B_s : Hid (V1.heap[w.heap.size]? = some (.cells #[.int .i64 S.g, .int .i64 S.c, .int .i64 S.mn, .int .i64 S.mx] 24 (0, 0))) := Lib.hid (by
        have h9 := heap_alloc_new (w) (.cells #[.int .i64 S.g, .int .i64 S.c, .int .i64 S.mn, .int .i64 S.mx] 24)
        rw [hV1]; exact h9)
      obtain ⟨N_s, hN_s⟩ : ∃ N, N = w.heap.size := ⟨_, rfl⟩
      (try rw [← hN_s])
      rw [← hN_s] at B_s
      have l_s : N_s < V1.heap.size := by omega
      have g_s : w.heap.size ≤ N_s := by omega
      replace hlow : w.heap.size ≤ V1.heap.size := by omega
      clear hV1 hzV1 hN_s
      refine (hAw.out V1 (HT.out.below HBel.out HT.out.size)).mono ?_
      rintro e U2 ⟨rfl, hb9⟩
      have hs9 := hb9.size
      replace HBel := Lib.hid (HBel.out.trans (hb9.mono hlow))
      replace B_s : Hid (U2.heap[N_s]? = some (.cells #[.int .i64 S.g, .int .i64 S.c, .int .i64 S.mn, .int .i64 S.mx] 24 (0, 0))) := Lib.hid ((hb9.block _ l_s).trans B_s.out)
      replace l_s : N_s < U2.heap.size := by omega
      replace hlow : w.heap.size ≤ U2.heap.size := by omega
      clear hb9 hs9
      go_wp2_with fail
      refine (hFw.out U2 HBel.out).mono ?_
      rintro e U3 ⟨rfl, hb9⟩
      have hs9 := hb9.size
      replace HBel := Lib.hid (HBel.out.trans (hb9.mono hlow))
      replace B_s : Hid (U3.heap[N_s]? = some (.cells #[.int .i64 S.g, .int .i64 S.c, .int .i64 S.mn, .int .i64 S.mx] 24 (0, 0))) := Lib.hid ((hb9.block _ l_s).trans B_s.out)
      replace l_s : N_s < U3.heap.size := by omega
      replace hlow : w.heap.size ≤ U3.heap.size := by omega
      clear hb9 hs9
      go_wp2_with fail
      have s0 : U3.cell? ⟨N_s, 0, none⟩ = some (.int .i64 S.g) := cell_blk (i := 0) B_s.out rfl
      have s1 : U3.cell? ⟨N_s, 1, none⟩ = some (.int .i64 S.c) := cell_blk (i := 1) B_s.out rfl
      have s2 : U3.cell? ⟨N_s, 2, none⟩ = some (.int .i64 S.mn) := cell_blk (i := 2) B_s.out rfl
      have s3 : U3.cell? ⟨N_s, 3, none⟩ = some (.int .i64 S.mx) := cell_blk (i := 3) B_s.out rfl
      refine held_begin (fun w' : World => w'.cell? ⟨N_s, 0, none⟩ = some (.int .i64 S.g) ∧ w'.cell? ⟨N_s, 1, none⟩ = some (.int .i64 S.c) ∧ w'.cell? ⟨N_s, 2, none⟩ = some (.int .i64 S.mn) ∧ w'.cell? ⟨N_s, 3, none⟩ = some (.int .i64 S.mx)) (by kernel_rfl) ?_
      have hBh0 : Below U3.heap.size U3 U3.drew := (Below.refl _ _).drew
      have hSh0 : (fun w' : World => w'.cell? ⟨N_s, 0, none⟩ = some (.int .i64 S.g) ∧ w'.cell? ⟨N_s, 1, none⟩ = some (.int .i64 S.c) ∧ w'.cell? ⟨N_s, 2, none⟩ = some (.int .i64 S.mn) ∧ w'.cell? ⟨N_s, 3, none⟩ = some (.int .i64 S.mx)) U3.drew := ⟨s0, s1, s2, s3⟩
      refine held_take (v := ?_) 0 22 rfl rfl (by kernel_rfl) (by kernel_rfl) (by kernel_rfl) (fun _ _ _ h => h) ⟨by rfl, ?_⟩ hSh0 ?_
      rotate_left
      · intro w' hw'; obtain ⟨x0, x1, x2, x3⟩ := hw'; go_simp; (try with_reducible rfl)
      simp only [Act.put, List.setIfInBounds_toArray, List.set_cons_zero, List.set_cons_succ]
      refine held_take (v := ?_) 1 23 rfl rfl (by kernel_rfl) (by kernel_rfl) (by kernel_rfl) (fun _ _ _ h => h) ⟨by rfl, ?_⟩ hSh0 ?_
      rotate_left
      · intro w' hw'; obtain ⟨x0, x1, x2, x3⟩ := hw'; go_simp; (try with_reducible rfl)
      simp only [Act.put, List.setIfInBounds_toArray, List.set_cons_zero, List.set_cons_succ]
      refine held_take (v := ?_) 3 25 rfl rfl (by kernel_rfl) (by kernel_rfl) (by kernel_rfl) (fun _ _ _ h => h) ⟨by rfl, ?_⟩ hSh0 ?_
      rotate_left
      · intro w' hw'; obtain ⟨x0, x1, x2, x3⟩ := hw'; go_simp; (try with_reducible rfl)
      simp only [Act.put, List.setIfInBounds_toArray, List.set_cons_zero, List.set_cons_succ]
      refine held_take (v := ?_) 4 26 rfl rfl (by kernel_rfl) (by kernel_rfl) (by kernel_rfl) (fun _ _ _ h => h) ⟨by rfl, ?_⟩ hSh0 ?_
      rotate_left
      · intro w' hw'; obtain ⟨x0, x1, x2, x3⟩ := hw'; go_simp; (try with_reducible rfl)
      simp only [Act.put, List.setIfInBounds_toArray, List.set_cons_zero, List.set_cons_succ]
      refine held_take (v := ?_) 5 27 rfl rfl (by kernel_rfl) (by kernel_rfl) (by kernel_rfl) (fun _ _ _ h => h) ⟨by rfl, ?_⟩ hSh0 ?_
      rotate_left
      · intro w' hw'; obtain ⟨x0, x1, x2, x3⟩ := hw'; go_simp; (try with_reducible rfl)
      simp only [Act.put, List.setIfInBounds_toArray, List.set_cons_zero, List.set_cons_succ]
      refine held_take (v := ?_) 6 28 rfl rfl (by kernel_rfl) (by kernel_rfl) (by kernel_rfl) (fun _ _ _ h => h) ⟨by rfl, ?_⟩ hSh0 ?_
      rotate_left
      · intro w' hw'; obtain ⟨x0, x1, x2, x3⟩ := hw'; go_simp; (try with_reducible rfl)
      simp only [Act.put, List.setIfInBounds_toArray, List.set_cons_zero, List.set_cons_succ]
      refine held_take (v := ?_) 8 30 rfl rfl (by kernel_rfl) (by kernel_rfl) (by kernel_rfl) (fun _ _ _ h => h) ⟨by rfl, ?_⟩ hSh0 ?_
      rotate_left
      · intro w' hw'; obtain ⟨x0, x1, x2, x3⟩ := hw'; go_simp; (try with_reducible rfl)
      simp only [Act.put, List.setIfInBounds_toArray, List.set_cons_zero, List.set_cons_succ]
      refine held_take (v := ?_) 9 31 rfl rfl (by kernel_rfl) (by kernel_rfl) (by kernel_rfl) (fun _ _ _ h => h) ⟨by rfl, ?_⟩ hSh0 ?_
      rotate_left
      · intro w' hw'; obtain ⟨x0, x1, x2, x3⟩ := hw'; go_simp; (try with_reducible rfl)
      simp only [Act.put, List.setIfInBounds_toArray, List.set_cons_zero, List.set_cons_succ]
      refine held_take (v := ?_) 10 32 rfl rfl (by kernel_rfl) (by kernel_rfl) (by kernel_rfl) (fun _ _ _ h => h) ⟨by rfl, ?_⟩ hSh0 ?_
      rotate_left
      · intro w' hw'; obtain ⟨x0, x1, x2, x3⟩ := hw'; go_simp; (try with_reducible rfl)
      simp only [Act.put, List.setIfInBounds_toArray, List.set_cons_zero, List.set_cons_succ]
      refine held_take (v := ?_) 11 33 rfl rfl (by kernel_rfl) (by kernel_rfl) (by kernel_rfl) (fun _ _ _ h => h) ⟨by rfl, ?_⟩ hSh0 ?_
      rotate_left
      · intro w' hw'; obtain ⟨x0, x1, x2, x3⟩ := hw'; go_simp; (try with_reducible rfl)
      simp only [Act.put, List.setIfInBounds_toArray, List.set_cons_zero, List.set_cons_succ]
      refine held_one 2 rfl (by kernel_rfl) (by rfl) (fun K hK => ?_)
      go_simp
      go_at_call 14
      refine (c1.out U3.drew (HBel.out.trans (hBh0.mono hlow))).mono ?_
      rintro e wh1 ⟨rfl, hbh1⟩
      have hBh1 : Below U3.heap.size U3 wh1 := below_step hBh0 hbh1
      have hSh1 : (fun w' : World => w'.cell? ⟨N_s, 0, none⟩ = some (.int .i64 S.g) ∧ w'.cell? ⟨N_s, 1, none⟩ = some (.int .i64 S.c) ∧ w'.cell? ⟨N_s, 2, none⟩ = some (.int .i64 S.mn) ∧ w'.cell? ⟨N_s, 3, none⟩ = some (.int .i64 S.mx)) wh1 := ⟨(hBh1.cell (p := ⟨N_s, 0, none⟩) (show N_s < U3.heap.size by omega)).trans s0, (hBh1.cell (p := ⟨N_s, 1, none⟩) (show N_s < U3.heap.size by omega)).trans s1, (hBh1.cell (p := ⟨N_s, 2, none⟩) (show N_s < U3.heap.size by omega)).trans s2, (hBh1.cell (p := ⟨N_s, 3, none⟩) (show N_s < U3.heap.size by omega)).trans s3⟩
      refine hK.out _ _ hSh1 ?_
      clear hK K
      refine held_one 7 rfl (by kernel_rfl) (by rfl) (fun K hK => ?_)
      go_simp
      go_at_call 14
      refine (c2.out wh1 (HBel.out.trans (hBh1.mono hlow))).mono ?_
      rintro e wh2 ⟨rfl, hbh2⟩
      have hBh2 : Below U3.heap.size U3 wh2 := below_step hBh1 hbh2
      have hSh2 : (fun w' : World => w'.cell? ⟨N_s, 0, none⟩ = some (.int .i64 S.g) ∧ w'.cell? ⟨N_s, 1, none⟩ = some (.int .i64 S.c) ∧ w'.cell? ⟨N_s, 2, none⟩ = some (.int .i64 S.mn) ∧ w'.cell? ⟨N_s, 3, none⟩ = some (.int .i64 S.mx)) wh2 := ⟨(hBh2.cell (p := ⟨N_s, 0, none⟩) (show N_s < U3.heap.size by omega)).trans s0, (hBh2.cell (p := ⟨N_s, 1, none⟩) (show N_s < U3.heap.size by omega)).trans s1, (hBh2.cell (p := ⟨N_s, 2, none⟩) (show N_s < U3.heap.size by omega)).trans s2, (hBh2.cell (p := ⟨N_s, 3, none⟩) (show N_s < U3.heap.size by omega)).trans s3⟩
      refine hK.out _ _ hSh2 ?_
      clear hK K
      refine held_one 12 rfl (by kernel_rfl) (by rfl) (fun K hK => ?_)
      go_simp
      go_at_call 14
      refine (c3.out wh2 (HBel.out.trans (hBh2.mono hlow))).mono ?_
      rintro e wh3 ⟨rfl, hbh3⟩
      have hBh3 : Below U3.heap.size U3 wh3 := below_step hBh2 hbh3
      have hSh3 : (fun w' : World => w'.cell? ⟨N_s, 0, none⟩ = some (.int .i64 S.g) ∧ w'.cell? ⟨N_s, 1, none⟩ = some (.int .i64 S.c) ∧ w'.cell? ⟨N_s, 2, none⟩ = some (.int .i64 S.mn) ∧ w'.cell? ⟨N_s, 3, none⟩ = some (.int .i64 S.mx)) wh3 := ⟨(hBh3.cell (p := ⟨N_s, 0, none⟩) (show N_s < U3.heap.size by omega)).trans s0, (hBh3.cell (p := ⟨N_s, 1, none⟩) (show N_s < U3.heap.size by omega)).trans s1, (hBh3.cell (p := ⟨N_s, 2, none⟩) (show N_s < U3.heap.size by omega)).trans s2, (hBh3.cell (p := ⟨N_s, 3, none⟩) (show N_s < U3.heap.size by omega)).trans s3⟩
      refine hK.out _ _ hSh3 ?_
      clear hK K
      refine held_take (v := ?_) 13 35 rfl rfl (by kernel_rfl) (by kernel_rfl) (by kernel_rfl) (fun _ _ _ h => h) ⟨by rfl, ?_⟩ hSh3 ?_
      rotate_left
      · intro w' hw'; obtain ⟨x0, x1, x2, x3⟩ := hw'; go_simp; (try with_reducible rfl)
      simp only [Act.put, List.setIfInBounds_toArray, List.set_cons_zero, List.set_cons_succ]
      refine held_take (v := ?_) 14 36 rfl rfl (by kernel_rfl) (by kernel_rfl) (by kernel_rfl) (fun _ _ _ h => h) ⟨by rfl, ?_⟩ hSh3 ?_
      rotate_left
      · intro w' hw'; obtain ⟨x0, x1, x2, x3⟩ := hw'; go_simp; (try with_reducible rfl)
      simp only [Act.put, List.setIfInBounds_toArray, List.set_cons_zero, List.set_cons_succ]
      refine held_take (v := ?_) 15 37 rfl rfl (by kernel_rfl) (by kernel_rfl) (by kernel_rfl) (fun _ _ _ h => h) ⟨by rfl, ?_⟩ hSh3 ?_
      rotate_left
      · intro w' hw'; obtain ⟨x0, x1, x2, x3⟩ := hw'; go_simp; (try with_reducible rfl)
      simp only [Act.put, List.setIfInBounds_toArray, List.set_cons_zero, List.set_cons_succ]
      refine held_take (v := ?_) 16 38 rfl rfl (by kernel_rfl) (by kernel_rfl) (by kernel_rfl) (fun _ _ _ h => h) ⟨by rfl, ?_⟩ hSh3 ?_
      rotate_left
      · intro w' hw'; obtain ⟨x0, x1, x2, x3⟩ := hw'; go_simp; (try with_reducible rfl)
      simp only [Act.put, List.setIfInBounds_toArray, List.set_cons_zero, List.set_cons_succ]
      refine held_one 17 rfl (by kernel_rfl) (by rfl) (fun K hK => ?_)
      go_simp
      go_at_call 14
      refine (c4.out wh3 (HBel.out.trans (hBh3.mono hlow))).mono ?_
      rintro e wh4 ⟨rfl, hbh4⟩
      have hBh4 : Below U3.heap.size U3 wh4 := below_step hBh3 hbh4
      have hSh4 : (fun w' : World => w'.cell? ⟨N_s, 0, none⟩ = some (.int .i64 S.g) ∧ w'.cell? ⟨N_s, 1, none⟩ = some (.int .i64 S.c) ∧ w'.cell? ⟨N_s, 2, none⟩ = some (.int .i64 S.mn) ∧ w'.cell? ⟨N_s, 3, none⟩ = some (.int .i64 S.mx)) wh4 := ⟨(hBh4.cell (p := ⟨N_s, 0, none⟩) (show N_s < U3.heap.size by omega)).trans s0, (hBh4.cell (p := ⟨N_s, 1, none⟩) (show N_s < U3.heap.size by omega)).trans s1, (hBh4.cell (p := ⟨N_s, 2, none⟩) (show N_s < U3.heap.size by omega)).trans s2, (hBh4.cell (p := ⟨N_s, 3, none⟩) (show N_s < U3.heap.size by omega)).trans s3⟩
      refine hK.out _ _ hSh4 ?_
      clear hK K
      refine held_take (v := ?_) 18 40 rfl rfl (by kernel_rfl) (by kernel_rfl) (by kernel_rfl) (fun _ _ _ h => h) ⟨by rfl, ?_⟩ hSh4 ?_
      rotate_left
      · intro w' hw'; obtain ⟨x0, x1, x2, x3⟩ := hw'; go_simp; (try with_reducible rfl)
      simp only [Act.put, List.setIfInBounds_toArray, List.set_cons_zero, List.set_cons_succ]
      refine held_take (v := ?_) 19 41 rfl rfl (by kernel_rfl) (by kernel_rfl) (by kernel_rfl) (fun _ _ _ h => h) ⟨by rfl, ?_⟩ hSh4 ?_
      rotate_left
      · intro w' hw'; obtain ⟨x0, x1, x2, x3⟩ := hw'; go_simp; (try with_reducible rfl)
      simp only [Act.put, List.setIfInBounds_toArray, List.set_cons_zero, List.set_cons_succ]
      refine held_take (v := ?_) 20 6 rfl rfl (by kernel_rfl) (by kernel_rfl) (by kernel_rfl) (fun _ _ _ h => h) ⟨by rfl, ?_⟩ hSh4 ?_
      rotate_left
      · intro w' hw'; obtain ⟨x0, x1, x2, x3⟩ := hw'; go_simp; (try with_reducible rfl)
      simp only [Act.put, List.setIfInBounds_toArray, List.set_cons_zero, List.set_cons_succ]
      refine wpAnyH_done (by kernel_rfl) ?_ _
      have hb9 := hBh4
      clear s0 s1 s2 s3
      have hs9 := hb9.size
      replace HBel := Lib.hid (HBel.out.trans (hb9.mono hlow))
      replace B_s : Hid (wh4.heap[N_s]? = some (.cells #[.int .i64 S.g, .int .i64 S.c, .int .i64 S.mn, .int .i64 S.mx] 24 (0, 0))) := Lib.hid ((hb9.block _ l_s).trans B_s.out)
      replace l_s : N_s < wh4.heap.size := by omega
      replace hlow : w.heap.size ≤ wh4.heap.size := by omega
      clear hb9 hs9 hSh0 hBh0 hSh1 hBh1 hSh2 hBh2 hSh3 hBh3 hSh4 hBh4
      go_wp2
      go_ret
      exact ⟨rfl, HBel.out⟩

set_option maxRecDepth 100000 in
set_option maxHeartbeats 1000000 in
theorem lifted (os : Os) (started : os.Started) (H : Type) (enc : TypeId × Value → H) :
    ReturnsInHanded {} Tryd.checked os 8 .any (fun w args => (Rows.packRoomsSpec.pre enc Tryd.prog Tryd.f8 [] false w args ∧ laidMetH Tryd.prog laid1 w) ∧ sizedMet enc Tryd.prog Tryd.f8 (OpenSpec.ofChange Rows.packRoomsSpec) false w args)
      (Rows.packRoomsSpec.post enc Tryd.prog Tryd.f8 false true false false) := by
  refine returnsInHanded_of_change_and (C := Tryd.checked) (X := fun w _ => laidMetH Tryd.prog laid1 w) (fun _ _ _ hh h => h.of_heap hh) own started (by kernel_rfl) Tryd.func8
    (ChangeSpec.witness_shaped (enc := enc) (C := Tryd.checked) (os := os) (X := fun w _ => laidMetH Tryd.prog laid1 w) false (World.doorLaid Tryd.prog 400 os) #[.slice none 0 0, .agg #[.int .i64 0, .int .i64 0, .int .i64 0, .int .i64 0], .int .i64 0] 8 rfl (World.shaped_of_RefB (by kernel_rfl) (by kernel_rfl)) (by kernel_rfl) (by kernel_rfl) (by kernel_rfl) (door_met os _)) ?_
  intro W base args ds gs before hval0 hW _ _ hL _
  have hval : ∀ (j : Nat) t v, Tryd.f8.params[j]? = some t → args[j]? = some v → Value.okWide Tryd.prog W .any base t v := hval0
  have hW' := hW
  obtain ⟨p, q, hA0, hV, rfl, hfz, hnd⟩ := hW
  have hA : DataW.TrodAll enc Tryd.prog W 0 (fun _ => true) true Tryd.f8.params.toList args.toList ds p := hA0
  rw [Tryd.params8] at hA hval
  obtain ⟨v0, vs0, d0, ds0, p0, q0, hargs, rfl, rfl, h0, r0⟩ := trodAll_cons hA
  obtain ⟨v1, vs1, d1, ds1, p1, q1, rfl, rfl, rfl, h1, r1⟩ := trodAll_cons r0
  obtain ⟨v2, vs2, d2, ds2, p2, q2, rfl, rfl, rfl, h2, r2⟩ := trodAll_cons r1
  obtain ⟨rfl, rfl, rfl⟩ := trodAll_nil r2
  obtain rfl : args = #[v0, v1, v2] := by cases args; simp_all
  obtain ⟨rfl, rfl⟩ := trodVars_none hV
  have k0 := h0
  have lt0 : ∀ x ∈ p0, x.block < W.heap.size := by obtain ⟨m, hm⟩ := k0; exact DataW.trod_lt m _ _ _ hm
  obtain ⟨a0, c0, l0, rfl, lc0, mc0, v0, q0⟩ := view_of (hval 0 22 v0 rfl rfl) h0
  have k1 := h1
  have lt1 : ∀ x ∈ p1, x.block < W.heap.size := by obtain ⟨m, hm⟩ := k1; exact DataW.trod_lt m _ _ _ hm
  obtain ⟨g1, c1, mn1, mx1, rfl, w1⟩ := shape_of (hval 1 24 v1 rfl rfl) h1
  have k2 := h2
  have lt2 : ∀ x ∈ p2, x.block < W.heap.size := by obtain ⟨m, hm⟩ := k2; exact DataW.trod_lt m _ _ _ hm
  obtain ⟨a2, rfl, _, _, w2⟩ := open_int Tryd.underlying3 (hval 2 3 v2 rfl rfl) h2
  have hT := of_laid hL
  clear hL
  clear hA0 hval0
  refine (walk a0 c0 l0 g1 c1 mn1 mx1 a2 W v0 q0 lc0 mc0 w1 w2 hT).mono fun e W' ⟨he, bel⟩ => ?_
  subst he
  exact ⟨_, rfl, _, _, _, [], _, [], hW', trodAll_mk1 (shut_bool Tryd.underlying4 _), (trodAll_cons_mk (Below.trod laidOut (by kernel_rfl) (of_decide_eq_true (by kernel_rfl)) k0 bel lt0) (trodAll_cons_mk (Below.trod laidOut (by kernel_rfl) (of_decide_eq_true (by kernel_rfl)) k1 bel lt1) (trodAll_cons_mk (Below.trod laidOut (by kernel_rfl) (of_decide_eq_true (by kernel_rfl)) k2 bel lt2) trodAll_mk0))), rfl, bel.frame _, fun h => by cases h⟩

/-- THE ROW. -/
theorem row_holds : Rows.PackRoomsSaid :=
  OpenClaim.holds_of_wide 8 Tryd.f8 rfl rfl rfl rfl rfl rfl rfl ⟨rfl, rfl, rfl, rfl, rfl⟩ rfl rfl rfl rfl rfl (by kernel_rfl) Tryd.func8 (by kernel_rfl)
    (of_decide_eq_true (by kernel_rfl)) (by unfold Func.isWrapper; first | (rw [if_pos (by decide +kernel)]; kernel_rfl) | (rw [if_neg (by decide +kernel)]; exact ⟨rfl, rfl⟩))
    (fun os started H enc _ => lifted os started H enc)

/-- THE STATEMENT. -/
theorem card_holds : Rows.PackRoomsCardSaid :=
  Claim7.holds_tied_plain_at .later [] [.data] true (true, Rows.packRoomsCard.stood.harness.2) false
    row_holds (fun _ h => by cases h) (by kernel_rfl) (fun _ h => by cases h) packRooms_row_tie rfl ⟨rfl, rfl⟩ (by kernel_rfl) rfl
    (fun f fn hf hfn => by
      obtain rfl : f = 8 := Option.some.inj ((show Tryd.prog.funcNamed Rows.packRoomsRow.func = some 8 by kernel_rfl).symm.trans hf) |>.symm
      obtain rfl : fn = Tryd.f8 := (Option.some.inj (Tryd.func8.symm.trans hfn)).symm
      exact ⟨by kernel_rfl, fun j t ht => by
        rw [Tryd.params8] at ht
        have hm : t ∈ [22, 24, 3] := by simpa using Array.mem_of_getElem? ht
        have hall : ([22, 24, 3].all fun u => !Tryd.prog.wantsStandIn u) = true := by kernel_rfl
        exact (show Tryd.prog.wantsStandIn t = false by simpa using List.all_eq_true.1 hall t hm)⟩)
    (by kernel_rfl)
end Go.Proofs.YtjbjjdcmkbigdaaDoor.packRooms
