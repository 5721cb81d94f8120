/- Whatever cluster and whatever spot: the cluster is taken, or refused, and all of it told, just as the document says: the law TopoTells answers true, at every input. -/
import Derived.Deep.QuietTactic
import Derived.BigQuiet
import Derived.Deep.RegionHeld3
import Derived.Test.YtbabnhicdobmdaaTopoRef3
import Derived.Test.YtbabnhicdobmdaaTopoFrame
import Derived.Test.YtbabnhicdobmdaaTopoFrame
set_option linter.unusedVariables false
namespace Go.Proofs.Ytbabnhicdobmdaa.topoTells
open Go Go.ChangeShapes Go.WideShapes Go.ChangeAt Go.RowKit
theorem blk_at {w : World} {g : Nat} {t : TypeId} {l : List Fr} (h : w.heap[g]? = some (.cells (l.flatMap frC).toArray t (0, 0))) : ∀ i f, l[i]? = some f → FrAt w g (0 + i * 4) f := by
  intro i f hf
  rcases blk_frees h with e | ⟨b, o, e, _, hc⟩
  · rw [e] at hf; simp at hf
  · cases e; exact hc i f hf
set_option maxRecDepth 100000 in
set_option maxHeartbeats 4000000 in
theorem walk (a0 : Option Addr) (c0 : Nat) (n0 : List (List (Int × Int))) (x y : Int) (w : World) (w0 : Nodes w w.heap.size a0 n0) (lc : n0.length ≤ c0) (mc : c0 ≤ maxLen) (wx : (Lit.int .i64 x).wf = true) (wy : (Lit.int .i64 y).wf = true) :
    Calls Try.prog 3 #[.agg #[.slice a0 n0.length c0], .agg #[.int .i64 x, .int .i64 y]] w fun e w' => e = .returned (.bool true) ∧ Below w.heap.size w w' := by
  have hA := Lib.hid awake_any
  obtain ⟨W0, hW0⟩ : ∃ W0, W0 = (w.alloc (.cells #[.slice a0 n0.length c0] 24)).alloc (.cells #[.int .i64 x, .int .i64 y] 26) := ⟨_, rfl⟩
  have hBa : Below w.heap.size w W0 := by rw [hW0]; exact ((Below.refl w.heap.size w).alloc (Nat.le_refl _) _).alloc (by simp) _
  have bC : W0.heap[w.heap.size]? = some (.cells #[.slice a0 n0.length c0] 24 (0, 0)) := by rw [hW0]; exact (Below.heap_alloc _ _ _ (by simp)).trans (heap_alloc_new w _)
  have bS : W0.heap[w.heap.size + 1]? = some (.cells #[.int .i64 x, .int .i64 y] 26 (0, 0)) := by
    have := heap_alloc_new (w.alloc (.cells #[.slice a0 n0.length c0] 24)) (.cells #[.int .i64 x, .int .i64 y] 26)
    rw [hW0]; simpa using this
  have c1 : W0.cell? ⟨w.heap.size, 0, none⟩ = some (.slice a0 n0.length c0) := cell_blk (i := 0) bC rfl
  have lS := blk_lt bS
  have BS := Lib.hid bS
  have EW := Lib.hid hW0
  clear bC bS hW0
  cases hf : fewB n0
  · have hF := Lib.hid (fun W hW => few_law a0 c0 n0 w W w0 hW false hf)
    clear hf w0
    go_enter Try.func3, Try.ntmps3
    go_wp2_with (first
      | (go_at_call 8; rw [← EW.out]; refine (hA.out _).mono ?_; rintro e w1 ⟨rfl, hb1⟩; have hB1 := below_step hBa hb1; have k1 := (hb1.cell (p := ⟨w.heap.size, 0, none⟩) (show w.heap.size < _ by omega)).trans c1)
      | (go_at_call 9; refine (hF.out _ hB1).mono ?_; rintro e w2 ⟨rfl, hb2⟩; have hB2 := below_step hB1 hb2))
    go_ret
    exact ⟨rfl, hB2⟩
  · have hF := Lib.hid (fun W hW => few_law a0 c0 n0 w W w0 hW true hf)
    cases hok : cluOk n0
    · have hN := Lib.hid (fun W (hW : Below w.heap.size w W) => new_bad a0 c0 n0 w W w0 hW hok)
      have hR := Lib.hid (fun W (hW : Below w.heap.size w W) => right_any a0 c0 w.heap.size n0 W (Nodes.keep w0 hW (Nat.le_refl _)) hW.size false hok)
      clear hf w0 hok
      go_enter Try.func3, Try.ntmps3
      go_wp2_with (first
        | (go_at_call 8; rw [← EW.out]; refine (hA.out _).mono ?_; rintro e w1 ⟨rfl, hb1⟩; have hB1 := below_step hBa hb1; have k1 := (hb1.cell (p := ⟨w.heap.size, 0, none⟩) (show w.heap.size < _ by omega)).trans c1; have s1 := hb1.size)
        | (go_at_call 9; refine (hF.out _ hB1).mono ?_; rintro e w2 ⟨rfl, hb2⟩; have hB2 := below_step hB1 hb2; have k2 := (hb2.cell (p := ⟨w.heap.size, 0, none⟩) (show w.heap.size < _ by omega)).trans k1; have s2 := hb2.size)
        | (go_at_call 10; refine (hN.out _ hB2).mono ?_; rintro e w3 ⟨rfl, hb3⟩; have hB3 := below_step hB2 hb3; have k3 := (hb3.cell (p := ⟨w.heap.size, 0, none⟩) (show w.heap.size < _ by omega)).trans k2)
        | (go_at_call 11; refine (hR.out _ hB3).mono ?_; rintro e w4 ⟨rfl, hb4⟩; have hB4 := below_step hB3 hb4))
      go_ret
      exact ⟨rfl, hB4⟩
    · have hN := Lib.hid (fun W (hW : Below w.heap.size w W) => new_good a0 c0 n0 w W w0 hW hok)
      have hR := Lib.hid (fun W (hW : Below w.heap.size w W) => right_any a0 c0 w.heap.size n0 W (Nodes.keep w0 hW (Nat.le_refl _)) hW.size true hok)
      have hAll := Lib.hid (fun W (hW : Below w.heap.size w W) => refall_any a0 c0 n0 w W w0 hW hok)
      have hIdx := Lib.hid (fun W (hW : Below w.heap.size w W) (r : Int) (top : Nat) h1 h2 => refindex_core a0 c0 n0 x y w W w0 hW hok r top h1 h2)
      have hl := cluOk_len hok
      have hSp := Lib.hid (fun a W h => spots_law a n0.length n0 hok W h)
      have hAl := Lib.hid (fun a W h => all_law a n0.length n0 hok W h)
      have hTo := Lib.hid (fun a W h => total_law a n0.length n0 hok W h)
      have hfl := frees_len hok
      have hfp := frees_pos hok
      obtain ⟨q, hq⟩ : ∃ q, (frees n0).length = q := ⟨_, rfl⟩
      obtain ⟨n, hn⟩ : ∃ n, n0.length = n := ⟨_, rfl⟩
      rw [hq] at hSp hAl hAll hfl hfp hIdx
      rw [hn] at lc c1 hF hN hR hl hSp hAl hTo hAll hIdx EW ⊢
      have Q := Lib.hid (And.intro hn (And.intro hq (And.intro (frees_ok hok) (And.intro wx wy))))
      clear hf w0 hok hn hq wx wy
      go_enter Try.func3, Try.ntmps3
      go_wp2_with (first
        | (go_at_call 8; rw [← EW.out]; refine (hA.out _).mono ?_; rintro e w1 ⟨rfl, hb1⟩; have hB1 := below_step hBa hb1; have k1 := (hb1.cell (p := ⟨w.heap.size, 0, none⟩) (show w.heap.size < _ by omega)).trans c1; have s1 := hb1.size)
        | (go_at_call 9; refine (hF.out _ hB1).mono ?_; rintro e w2 ⟨rfl, hb2⟩; have hB2 := below_step hB1 hb2; have k2 := (hb2.cell (p := ⟨w.heap.size, 0, none⟩) (show w.heap.size < _ by omega)).trans k1; have s2 := hb2.size)
        | (go_at_call 10; refine (hN.out _ hB2).mono ?_; rintro e w3 ⟨a, rfl, hT3, hb3⟩; have HT3 := Lib.hid hT3; clear hT3; have hB3 := below_step hB2 hb3; have k3 := (hb3.cell (p := ⟨w.heap.size, 0, none⟩) (show w.heap.size < _ by omega)).trans k2; have s3 := hb3.size)
        | (go_at_call 11; refine (hR.out _ hB3).mono ?_; rintro e w4 ⟨rfl, hb4⟩; have hB4 := below_step hB3 hb4; have k4 := (hb4.cell (p := ⟨w.heap.size, 0, none⟩) (show w.heap.size < _ by omega)).trans k3; have s4 := hb4.size)
        | (go_at_call 12; refine (hAll.out _ hB4).mono ?_; rintro e w5 ⟨g5, cp5, rfl, hg5, hc5, hb5⟩; have HC5 := Lib.hid hc5; clear hc5; have hB5 := below_step hB4 hb5; have k5 := (hb5.cell (p := ⟨w.heap.size, 0, none⟩) (show w.heap.size < _ by omega)).trans k4; have s5 := hb5.size; have b35 := below_step hb4 hb5)
        | (go_at_call 13; refine (hSp.out _ _ (HT3.out.keep b35)).mono ?_; rintro e w6 ⟨g6, rfl, hg6, hR6, hb6⟩; have HR6 := Lib.hid hR6; clear hR6))
      have hB6 := below_step hB5 hb6
      have b36 := below_step b35 hb6
      have k6 := (hb6.cell (p := ⟨w.heap.size, 0, none⟩) (show w.heap.size < _ by omega)).trans k5
      have s6 := hb6.size
      have HC6 := Lib.hid (fun i f (h : (frees n0)[i]? = some f) => (HC5.out i f h).keep hg5 hb6)
      have hg56 : g5 < w6.heap.size := by omega
      obtain ⟨G, hG⟩ : ∃ G, G = gsum (frees n0) := ⟨_, rfl⟩
      obtain ⟨C, hC⟩ : ∃ C, C = csum (frees n0) := ⟨_, rfl⟩
      rw [← hG, ← hC] at hTo
      have HG := Lib.hid hG
      have HC := Lib.hid hC
      have hCt := Lib.hid (fun (W : World) (hW : Below w6.heap.size w6 W) => by
        have h1 := refcount_any (some ⟨g5, 0, none⟩) cp5 w6.heap.size (frees n0) W (.inr ⟨g5, 0, rfl, hg56, fun i f hf => (HC6.out i f hf).keep hg56 hW⟩) hW.size (by rw [Q.out.2.1]; omega) (by rw [Q.out.2.1]; omega) Q.out.2.2.1
        rw [Q.out.2.1, ← HG.out, ← HC.out] at h1
        exact h1)
      have b06 := below_step (below_step (below_step (below_step (below_step hb1 hb2) hb3) hb4) hb5) hb6
      have BS6 := Lib.hid ((b06.block (w.heap.size + 1) lS).trans BS.out)
      have R6 := Lib.hid HR6.out
      clear k1 k2 k3 k4 k5 hb1 hb2 hb3 hb4 hb5 hB1 hB2 hB4 hB5 b35 hF hN hR hA hAll hSp hBa EW hG hC HC5 hg5 b06 BS HR6
      have u0 : ((q : Int) != (q : Int)) = false := by simp
      have u1 : ((n : Int) != (n : Int)) = false := by simp
      have u2 : ((G : Int) == (G : Int)) = true := by simp
      have u3 : ((C : Int) == (C : Int)) = true := by simp
      go_region_held3 (fun w' => w'.cell? ⟨w.heap.size, 0, none⟩ = some (.slice a0 n c0)) (go_keep)
        (first
          | (go_at_call 15; (refine (hAl.out _ w6.drew (HT3.out.keep b36.drew)).mono ?_); rintro e w7 ⟨g7, rfl, hg7, hA7, hb7⟩; have HA7 := Lib.hid hA7; clear hA7; have b67 := below_step (Below.refl w6.heap.size w6).drew hb7; have y7 := (b67.cell (p := ⟨w.heap.size, 0, none⟩) (show w.heap.size < _ by omega)).trans k6; have s7 := b67.size)
          | (go_at_call 14; (refine (same_some g7 0 q q g5 0 cp5 (frees n0) w7 Q.out.2.1 (blk_lt HA7.out) (by omega) (blk_at HA7.out) (fun i x h => (HC6.out i x h).keep hg56 b67) (by omega)).mono ?_); rintro e w8 ⟨rfl, hb8⟩; have b68 := below_step b67 hb8; have y8 := (b68.cell (p := ⟨w.heap.size, 0, none⟩) (show w.heap.size < _ by omega)).trans k6)
          | (go_at_call 16; (refine (nodes_any a n (frees n0) w8 (HT3.out.keep (below_step b36 b68))).mono ?_); rintro e w' ⟨rfl, rfl⟩)
          | (go_at_call 17; (refine (hTo.out a w8 (HT3.out.keep (below_step b36 b68))).mono ?_); rintro e w9 ⟨rfl, hb9⟩; have b69 := below_step b68 hb9; have y9 := (b69.cell (p := ⟨w.heap.size, 0, none⟩) (show w.heap.size < _ by omega)).trans k6)
          | (go_at_call 18; (refine (hCt.out w9 b69).mono ?_); rintro e w10 ⟨rfl, hb10⟩; have b610 := below_step b69 hb10; have y10 := (b610.cell (p := ⟨w.heap.size, 0, none⟩) (show w.heap.size < _ by omega)).trans k6))
      go_wp2
      clear u2 u3 u0 u1 hb7 hb8 hb9 hb10 y7 y8 y9 y10 s7 hCt hTo hAl HA7 hg7
      go_loopw [9] (fun i wr => ∃ k : Nat, i = .int .i64 k ∧ k ≤ q ∧ Below w6.heap.size w6 wr) (fun i _ => q - (intOf i).toNat)
      case atStart => exact ⟨0, rfl, by omega, b610⟩
      case round =>
        obtain ⟨k, rfl, hk, hBr⟩ := hrel
        by_cases hlt : k < q
        · obtain ⟨f, hx⟩ := get_lt (l := frees n0) (k := k) (by rw [Q.out.2.1]; exact hlt)
          have hRr := R6.out.of_block (hBr.block g6 R6.out.lt)
          rw [← Q.out.2.1] at hRr
          obtain ⟨r0, r1⟩ := hRr.at_ hx
          obtain ⟨f0, f1, f2, f3⟩ := (HC6.out k f hx).keep hg56 hBr
          simp only [Nat.zero_add] at f0 f1 f2 f3
          have t0 : decide (k < q) = true := by simpa using hlt
          have j0 : (0 : Int) ≤ (k : Int) := by omega
          have j1 : (k : Int) < (q : Int) := by omega
          clear hx hRr
          go_wp2_with fail
          go_quiet (fail)
          go_wp2
          go_roundw
          case rel => exact ⟨k + 1, by go_num, by omega, below_drewN hBr _⟩
          case measure => simp [intOf]; omega
        · obtain rfl : k = q := by omega
          have bS := (hBr.block (w.heap.size + 1) (blk_lt BS6.out)).trans BS6.out
          have s0 : wr.cell? ⟨w.heap.size + 1, 0, none⟩ = some (.int .i64 x) := cell_blk (i := 0) bS rfl
          have s1 : wr.cell? ⟨w.heap.size + 1, 1, none⟩ = some (.int .i64 y) := cell_blk (i := 1) bS rfl
          have lSr := blk_lt bS
          have kr := (hBr.cell (p := ⟨w.heap.size, 0, none⟩) (show w.heap.size < _ by omega)).trans k6
          have hBl := below_step hB6 hBr
          have hTr := HT3.out.keep (below_step b36 hBr)
          have hTR := Lib.hid hTr
          clear bS hlt hTr
          by_cases hit : ∃ (idx : Nat) (f : Fr), (frees n0)[idx]? = some f ∧ (f.n : Int) = x ∧ (f.d : Int) = y
          · obtain ⟨idx, f, hidx, e1, e2⟩ := hit
            subst e1 e2
            have hil : idx < k := by have := (List.getElem?_eq_some_iff.1 hidx).1; rw [Q.out.2.1] at this; exact this
            have hI := Lib.hid (fun (W : World) (hW : Below wr.heap.size wr W) => index_hit a n idx f (frees n0) W (hTR.out.keep hW) hidx (row_dup n0))
            have hAt := Lib.hid (fun (W : World) (hW : Below wr.heap.size wr W) => at_hit a n idx f (frees n0) W (hTR.out.keep hW) hidx (row_dup n0))
            have hRx := Lib.hid (fun (W : World) (hW : Below wr.heap.size wr W) => hIdx.out W (below_step hBl hW) (idx : Nat) idx (fun i f' hi hf' e => by
              have := spot_once hf' hidx (by omega) (by omega); omega) (.inr ⟨f, hidx, rfl, rfl, rfl⟩))
            have hFx := Lib.hid (HC6.out idx f hidx)
            have i0 : (0 : Int) ≤ (idx : Int) := by omega
            have i1 : (idx : Int) < (k : Int) := by omega
            have i2 : ((idx : Int) == (idx : Int)) = true := by simp
            clear hidx hIdx
            go_wp2_with (first
              | (go_at_call 19; refine (hI.out _ (Below.refl _ _)).mono ?_; rintro e v1 ⟨rfl, hv1⟩; have t1 := (hv1.cell (p := ⟨w.heap.size + 1, 0, none⟩) lSr).trans s0; have t2 := (hv1.cell (p := ⟨w.heap.size + 1, 1, none⟩) lSr).trans s1; have z1 := hv1.size)
              | (go_at_call 20; refine (hAt.out _ hv1).mono ?_; rintro e v2 ⟨rfl, hv2⟩; have hv12 := below_step hv1 hv2; have t3 := (hv12.cell (p := ⟨w.heap.size + 1, 0, none⟩) lSr).trans s0; have t4 := (hv12.cell (p := ⟨w.heap.size + 1, 1, none⟩) lSr).trans s1; have t5 := (hv12.cell (p := ⟨w.heap.size, 0, none⟩) (show w.heap.size < _ by omega)).trans kr; have z2 : w.heap.size + 1 < v2.heap.size := (by have := hv12.size; omega); have z3 : w.heap.size < v2.heap.size := (by omega); have hv3 := hv12.alloc hv12.size (.cells #[.int .i64 (f.n : Nat), .int .i64 (f.d : Nat), .int .u64 (f.m : Nat), .int .i64 (f.c : Nat)] 46); have F3 := Lib.hid (heap_alloc_new v2 (.cells #[.int .i64 (f.n : Nat), .int .i64 (f.d : Nat), .int .u64 (f.m : Nat), .int .i64 (f.c : Nat)] 46)))
              | (go_at_call 21; refine (hRx.out _ hv3).mono ?_; rintro e v4 ⟨rfl, hv4⟩; have F4 := (hv4.block v2.heap.size (by simp)).trans F3.out; have w0' : v4.cell? ⟨v2.heap.size, 0, none⟩ = some (.int .i64 (f.n : Nat)) := cell_blk (i := 0) F4 rfl; have w1' : v4.cell? ⟨v2.heap.size, 1, none⟩ = some (.int .i64 (f.d : Nat)) := cell_blk (i := 1) F4 rfl; have w2' : v4.cell? ⟨v2.heap.size, 2, none⟩ = some (.int .u64 (f.m : Nat)) := cell_blk (i := 2) F4 rfl; have w3' : v4.cell? ⟨v2.heap.size, 3, none⟩ = some (.int .i64 (f.c : Nat)) := cell_blk (i := 3) F4 rfl; clear F4; have hv14 := below_step hv3 hv4; obtain ⟨p0, p1, p2, p3⟩ := hFx.out.keep hg56 (below_step hBr hv14); simp only [Nat.zero_add] at p0 p1 p2 p3))
            go_quiet (fail)
            go_wp2
            go_ret
            exact ⟨rfl, below_drewN (below_step hBl hv14) _⟩
          · have hno : ∀ f ∈ frees n0, ¬ ((f.n : Int) = x ∧ (f.d : Int) = y) := fun f hf e => by
              obtain ⟨i, hi⟩ := List.mem_iff_getElem?.1 hf
              exact hit ⟨i, f, hi, e⟩
            have hI := Lib.hid (fun (W : World) (hW : Below wr.heap.size wr W) => index_miss a n x y (frees n0) W (hTR.out.keep hW) Q.out.2.2.2.1 Q.out.2.2.2.2 hno)
            have hAt := Lib.hid (fun (W : World) (hW : Below wr.heap.size wr W) => at_miss a n x y (frees n0) W (hTR.out.keep hW) Q.out.2.2.2.1 Q.out.2.2.2.2 hno)
            have hRx := Lib.hid (fun (W : World) (hW : Below wr.heap.size wr W) => hIdx.out W (below_step hBl hW) (-1) k (fun i f _ hi => hno f (List.mem_of_getElem? hi)) (.inl ⟨rfl, rfl⟩))
            clear hit hno hIdx
            go_wp2_with (first
              | (go_at_call 19; refine (hI.out _ (Below.refl _ _)).mono ?_; rintro e v1 ⟨rfl, hv1⟩; have t1 := (hv1.cell (p := ⟨w.heap.size + 1, 0, none⟩) lSr).trans s0; have t2 := (hv1.cell (p := ⟨w.heap.size + 1, 1, none⟩) lSr).trans s1; have z1 := hv1.size)
              | (go_at_call 20; refine (hAt.out _ hv1).mono ?_; rintro e v2 ⟨rfl, hv2⟩; have hv12 := below_step hv1 hv2; have t3 := (hv12.cell (p := ⟨w.heap.size + 1, 0, none⟩) lSr).trans s0; have t4 := (hv12.cell (p := ⟨w.heap.size + 1, 1, none⟩) lSr).trans s1; have t5 := (hv12.cell (p := ⟨w.heap.size, 0, none⟩) (show w.heap.size < _ by omega)).trans kr; have z2 : w.heap.size + 1 < v2.heap.size := (by have := hv12.size; omega); have z3 : w.heap.size < v2.heap.size := (by omega); have hv3 := hv12.alloc hv12.size (.cells #[.int .i64 0, .int .i64 0, .int .u64 0, .int .i64 0] 46); have F3 := Lib.hid (heap_alloc_new v2 (.cells #[.int .i64 0, .int .i64 0, .int .u64 0, .int .i64 0] 46)))
              | (go_at_call 21; refine (hRx.out _ hv3).mono ?_; rintro e v4 ⟨rfl, hv4⟩; have F4 := (hv4.block v2.heap.size (by simp)).trans F3.out; have w0' : v4.cell? ⟨v2.heap.size, 0, none⟩ = some (.int .i64 0) := cell_blk (i := 0) F4 rfl; have w1' : v4.cell? ⟨v2.heap.size, 1, none⟩ = some (.int .i64 0) := cell_blk (i := 1) F4 rfl; have w2' : v4.cell? ⟨v2.heap.size, 2, none⟩ = some (.int .u64 0) := cell_blk (i := 2) F4 rfl; have w3' : v4.cell? ⟨v2.heap.size, 3, none⟩ = some (.int .i64 0) := cell_blk (i := 3) F4 rfl; clear F4))
            go_ret
            exact ⟨rfl, below_step hBl (below_step hv3 hv4)⟩

set_option maxRecDepth 100000 in
theorem lifted (os : Os) (started : os.Started) (H : Type) (enc : TypeId × Value → H) :
    ReturnsInHanded {} Try.checked os 3 .any (Rows.topoTellsSpec.pre6 enc Try.prog Try.f3 Rows.topoTellsRow.domain false) (Rows.topoTellsSpec.post enc Try.prog Try.f3 false true false false) := by
  refine returnsInHanded_of_change (C := Try.checked) own started (by kernel_rfl) Try.func3
    (ChangeSpec.witness6 (enc := enc) (C := Try.checked) false ⟨#[], #[.agg #[.slice none 0 0], .agg #[.int .i64 0, .int .i64 0]], []⟩ 8 (by kernel_rfl) (by kernel_rfl) (by kernel_rfl) (by kernel_rfl)) ?_
  intro W base args ds gs before hval0 hW _ _
  have hval : ∀ (j : Nat) t v, Try.f3.params[j]? = some t → args[j]? = some v → Value.okWide Try.prog W .any base t v := hval0
  have hW' := hW
  obtain ⟨p, q, hA0, hV, rfl, hfz, hnd⟩ := hW
  have hA : DataW.TrodAll enc Try.prog W 0 (fun _ => true) true Try.f3.params.toList args.toList ds p := hA0
  rw [Try.params3] at hA hval
  obtain ⟨v0, vs0, d0, ds0, p0, q0, hargs, rfl, rfl, h0, r0⟩ := trodAll_cons hA
  obtain ⟨v1, vs1, d1, ds1, p1, q1, rfl, rfl, rfl, h1, r1⟩ := trodAll_cons r0
  obtain ⟨rfl, rfl, rfl⟩ := trodAll_nil r1
  obtain rfl : args = #[v0, v1] := by cases args; simp_all
  obtain ⟨rfl, rfl⟩ := trodVars_none hV
  have k0 := h0
  have lt0 : ∀ x ∈ p0, x.block < W.heap.size := by obtain ⟨m, hm⟩ := k0; exact DataW.trod_lt m _ _ _ hm
  obtain ⟨a0, c0, n0, rfl, lc0, mc0, w0⟩ := clu_of (hval 0 24 v0 rfl rfl) h0
  have k1 := h1
  have lt1 : ∀ x ∈ p1, x.block < W.heap.size := by obtain ⟨m, hm⟩ := k1; exact DataW.trod_lt m _ _ _ hm
  obtain ⟨x1, y1, rfl, wx1, wy1⟩ := spot_of (hval 1 26 v1 rfl rfl) h1
  clear hA0 hval0
  refine (walk a0 c0 n0 x1 y1 W w0 lc0 mc0 wx1 wy1).mono fun e W' ⟨he, bel⟩ => ?_
  subst he
  exact ⟨_, rfl, _, _, _, [], _, [], hW', trodAll_mk1 (shut_bool Try.underlying4 _), (trodAll_cons_mk (Below.trod laidOut (by kernel_rfl) (of_decide_eq_true (by kernel_rfl)) k0 bel lt0) (trodAll_cons_mk (Below.trod laidOut (by kernel_rfl) (of_decide_eq_true (by kernel_rfl)) k1 bel lt1) trodAll_mk0)), rfl, bel.frame _, fun h => by cases h⟩

/-- THE STATEMENT. -/
theorem holds : Rows.TopoTellsSaid :=
  OpenClaim.holds_of_wide 3 Try.f3 rfl rfl rfl rfl rfl rfl rfl ⟨rfl, rfl, rfl, rfl, rfl⟩ rfl rfl rfl rfl rfl (by kernel_rfl) Try.func3 (by kernel_rfl)
    (of_decide_eq_true (by kernel_rfl)) (by unfold Func.isWrapper; first | (rw [if_pos (by decide +kernel)]; kernel_rfl) | (rw [if_neg (by decide +kernel)]; exact ⟨rfl, rfl⟩))
    (fun os started H enc _ => lifted os started H enc)
end Go.Proofs.Ytbabnhicdobmdaa.topoTells
