/- Whatever cluster: what is in each spot is what its domain says: the law TopoEach answers true, at every input. -/
import Derived.Deep.QuietTactic
import Derived.BigQuiet
import Derived.Deep.RegionHeld3
import Derived.Test.YtbabnhicdobmdaaTopoRef
import Derived.Test.YtbabnhicdobmdaaTopoFrame
import Derived.Test.YtbabnhicdobmdaaTopoFrame
set_option linter.unusedVariables false
namespace Go.Proofs.Ytbabnhicdobmdaa.topoEach
open Go Go.ChangeShapes Go.WideShapes Go.ChangeAt Go.RowKit
theorem frees_has {ns : List (List (Int × Int))} {ds : List (Int × Int)} {d : Int × Int} {i j : Nat} (h : ns[i]? = some ds) (hd : ds[j]? = some d) : frAt i j d ∈ frees ns := by
  unfold frees frNode
  refine List.mem_flatMap.2 ⟨(ds, i), ?_, List.mem_map.2 ⟨(d, j), ?_, rfl⟩⟩
  · exact List.mem_zipIdx_iff_getElem?.2 h
  · exact List.mem_zipIdx_iff_getElem?.2 hd
theorem frees_in {ns : List (List (Int × Int))} {f : Fr} (h : f ∈ frees ns) : ∃ ds, ns[f.n]? = some ds ∧ f.d < ds.length := by
  unfold frees at h
  obtain ⟨⟨ds, i⟩, hp, h⟩ := List.mem_flatMap.1 h
  obtain ⟨e, hl⟩ := frNode_mem h
  exact ⟨ds, by rw [e]; exact List.mem_zipIdx_iff_getElem?.1 hp, hl⟩
theorem run_field0 (W : World) (x y : Value) : (Instr.field 41 (.agg #[x, y]) 0).run Try.prog W = .ok x W := by
  kernel_rfl
theorem shr_none (M G : Nat) (h : M = 2 ^ G - 1) : ((M : Int) / 2 ^ G != 0) = false := by
  have h1 : (0 : Int) ≤ (M : Int) := by omega
  have h2 : (M : Int) < 2 ^ G := by
    have : M < 2 ^ G := by have := Nat.two_pow_pos G; omega
    exact_mod_cast this
  rw [Int.ediv_eq_zero_of_lt h1 h2]; rfl
theorem gsum_at (i j : Nat) (G P : Nat) (hG : G ≤ 16) : gsum [frAt i j (G, P)] = G := by
  simp [gsum, frAt]
  exact MM.cnt_first (by omega)
set_option maxRecDepth 100000 in
set_option maxHeartbeats 4000000 in
theorem walk (a0 : Option Addr) (c0 : Nat) (n0 : List (List (Int × Int))) (w : World) (w0 : Nodes w w.heap.size a0 n0) (lc : n0.length ≤ c0) (mc : c0 ≤ maxLen) :
    Calls Try.prog 7 #[.agg #[.slice a0 n0.length c0]] w fun e w' => e = .returned (.bool true) ∧ Below w.heap.size w w' := by
  have hA := Lib.hid awake_any
  have c1 : (w.alloc (.cells #[.slice a0 n0.length c0] 24)).cell? ⟨w.heap.size, 0, none⟩ = some (.slice a0 n0.length c0) := by go_simp
  have hBa := (Below.refl w.heap.size w).alloc (Nat.le_refl _) (.cells #[.slice a0 n0.length c0] 24)
  cases hf : fewB n0
  · have hF := Lib.hid (fun W hW => few_law a0 c0 n0 w W w0 hW false hf)
    clear hf w0
    go_enter Try.func7, Try.ntmps7
    go_wp2_with (first
      | (go_at_call 8; refine (hA.out _).mono ?_; rintro e w1 ⟨rfl, hb1⟩; have hB1 := below_step hBa hb1; have k1 := (hb1.cell (p := ⟨w.heap.size, 0, none⟩) (by simp)).trans c1)
      | (go_at_call 9; refine (hF.out _ hB1).mono ?_; rintro e w2 ⟨rfl, hb2⟩; have hB2 := below_step hB1 hb2))
    go_ret
    exact ⟨rfl, hB2⟩
  · have hF := Lib.hid (fun W hW => few_law a0 c0 n0 w W w0 hW true hf)
    cases hok : cluOk n0
    · have hN := Lib.hid (fun W (hW : Below w.heap.size w W) => new_bad a0 c0 n0 w W w0 hW hok)
      clear hf w0 hok
      go_enter Try.func7, Try.ntmps7
      go_wp2_with (first
        | (go_at_call 8; refine (hA.out _).mono ?_; rintro e w1 ⟨rfl, hb1⟩; have hB1 := below_step hBa hb1; have k1 := (hb1.cell (p := ⟨w.heap.size, 0, none⟩) (by simp)).trans c1)
        | (go_at_call 9; refine (hF.out _ hB1).mono ?_; rintro e w2 ⟨rfl, hb2⟩; have hB2 := below_step hB1 hb2; have k2 := (hb2.cell (p := ⟨w.heap.size, 0, none⟩) (by have := hb1.size; simp at this; simp; omega)).trans k1)
        | (go_at_call 10; refine (hN.out _ hB2).mono ?_; rintro e w3 ⟨rfl, hb3⟩; have hB3 := below_step hB2 hb3))
      go_ret
      exact ⟨rfl, hB3⟩
    · have hN := Lib.hid (fun W (hW : Below w.heap.size w W) => new_good a0 c0 n0 w W w0 hW hok)
      have hl := cluOk_len hok
      obtain ⟨ds0, hd0⟩ := get_lt (l := n0) (k := 0) (by omega)
      obtain ⟨b, off, rfl, hb, hc⟩ := w0.at_ hd0
      obtain ⟨n, hn⟩ : ∃ n, n0.length = n := ⟨_, rfl⟩
      rw [hn] at lc c1 hBa hF hN hl ⊢
      have Q := Lib.hid (And.intro hn (And.intro hc hok))
      clear hf w0 hok hd0 hn hc
      unfold maxLen at mc
      go_enter Try.func7, Try.ntmps7
      go_wp2_with (first
        | (go_at_call 8; refine (hA.out _).mono ?_; rintro e w1 ⟨rfl, hb1⟩; have hB1 := below_step hBa hb1; have k1 := (hb1.cell (p := ⟨w.heap.size, 0, none⟩) (by simp)).trans c1; have s1 := hb1.size; simp at s1)
        | (go_at_call 9; refine (hF.out _ hB1).mono ?_; rintro e w2 ⟨rfl, hb2⟩; have hB2 := below_step hB1 hb2; have k2 := (hb2.cell (p := ⟨w.heap.size, 0, none⟩) (show w.heap.size < _ by omega)).trans k1; have s2 := hb2.size)
        | (go_at_call 10; refine (hN.out _ hB2).mono ?_; rintro e w3 ⟨a, rfl, hT3, hb3⟩; have HT3 := Lib.hid hT3; clear hT3; have hB3 := below_step hB2 hb3; have k3 := (hb3.cell (p := ⟨w.heap.size, 0, none⟩) (show w.heap.size < _ by omega)).trans k2; have s3 := hb3.size))
      have hSw : w.heap.size < w3.heap.size := by omega
      have K3 := Lib.hid k3
      clear k1 k2 k3 hb1 hb2 hb3 hB1 hB2 s1 s2 s3 c1 hBa hF hN hA
      go_loopw [5] (fun i wr => ∃ k : Nat, i = .int .i64 k ∧ k ≤ n ∧ Below w3.heap.size w3 wr) (fun i _ => n - (intOf i).toNat)
      case atStart => exact ⟨0, rfl, by omega, Below.refl _ _⟩
      case round =>
        obtain ⟨k, rfl, hk, hB3r⟩ := hrel
        have hbox := (hB3r.cell (p := ⟨w.heap.size, 0, none⟩) hSw).trans K3.out
        have hBl := below_step hB3 hB3r
        by_cases hlt : k < n
        · obtain ⟨ds, hx⟩ := get_lt (l := n0) (k := k) (by rw [Q.out.1]; exact hlt)
          have hok := cluOk_node Q.out.2.2 hx
          have hdl := nodeOk_len hok
          obtain ⟨A', c', d0, dl, dm, hds⟩ := Q.out.2.1 k ds hx
          have d0 := (hBl.cell (p := ⟨b, off + k * 1, none⟩) hb).trans d0
          obtain ⟨y0, hy0⟩ := get_lt (l := ds) (k := 0) (by omega)
          obtain ⟨b', off', rfl, hb', hc'⟩ := hds.at_ hy0
          obtain ⟨q, hq⟩ : ∃ q, ds.length = q := ⟨_, rfl⟩
          rw [hq] at d0 hdl
          rw [Nat.mul_one] at d0
          have t0 : decide (k < n) = true := by simpa using hlt
          have X := Lib.hid (And.intro hx (And.intro hok (And.intro hq hc')))
          have D0 := Lib.hid ((hBl.cell (p := ⟨b, off + k, none⟩) hb).symm.trans d0)
          clear hx hds hy0 hq hok hc' dl dm d0
          go_wp2
          go_loopw [6] (fun i wr' => ∃ j : Nat, i = .int .i64 j ∧ j ≤ q ∧ Below w3.heap.size w3 wr') (fun i _ => q - (intOf i).toNat)
          case atStart => exact ⟨0, rfl, by omega, hB3r⟩
          case round =>
            obtain ⟨j, rfl, hj, hB4⟩ := hrel
            have hbox := (hB4.cell (p := ⟨w.heap.size, 0, none⟩) hSw).trans K3.out
            have hB5 := below_step hB3 hB4
            have d0 := (hB5.cell (p := ⟨b, off + k, none⟩) hb).trans D0.out
            by_cases hjl : j < q
            · obtain ⟨hx, hok, hq, hc'⟩ := X.out
              obtain ⟨⟨g, p⟩, hy⟩ := get_lt (l := ds) (k := j) (by omega)
              obtain ⟨f0, f1⟩ := (hc' j _ hy).keep hb' hB5
              obtain ⟨g1, g2, p1, p2⟩ := nodeOk_dom hok hy
              obtain ⟨G, rfl⟩ : ∃ G : Nat, g = G := ⟨g.toNat, by omega⟩
              obtain ⟨P, rfl⟩ : ∃ P : Nat, p = P := ⟨p.toNat, by omega⟩
              have hmem := frees_has hx hy
              obtain ⟨idx, hidx⟩ := List.mem_iff_getElem?.1 hmem
              obtain ⟨M, hM⟩ : ∃ M : Nat, M = 2 ^ G - 1 := ⟨_, rfl⟩
              have hAt0 : ∀ W : World, Below w3.heap.size w3 W → Calls Try.prog 20 #[.pointer (some ⟨a, 0, none⟩), .agg #[.int .i64 (k : Nat), .int .i64 (j : Nat)]] W fun e w' => e = .returned (.tuple #[.agg #[.int .i64 (k : Nat), .int .i64 (j : Nat), .int .u64 (M : Nat), .int .i64 (P : Nat)], .int .i64 0]) ∧ Below W.heap.size W w' := fun W hW => by
                rw [hM]; exact at_hit a n idx _ (frees n0) W (HT3.out.keep hW) hidx (row_dup n0)
              have hG16 : G ≤ 16 := by omega
              have hCt0 : ∀ (W : World) (b1 : Nat), W.heap[b1]? = some (.cells #[.int .i64 (k : Nat), .int .i64 (j : Nat), .int .u64 (M : Nat), .int .i64 (P : Nat)] 46 (0, 0)) →
                  Calls Try.prog 18 #[.slice (some ⟨b1, 0, none⟩) 1 1] W fun e w' => e = .returned (.agg #[.int .i64 (G : Nat), .int .i64 (P : Nat)]) ∧ Below W.heap.size W w' := fun W b1 hb1 => by
                have h1 := refcount_any (some ⟨b1, 0, none⟩) 1 W.heap.size [frAt k j (G, P)] W (blk_frees (t := 46) (by rw [hb1, hM]; rfl)) (Nat.le_refl _) (by simp) (by simp) (fun f hf => by
                  simp at hf; subst hf; exact ⟨first_lt (k := G) (by omega), by simp [frAt]; omega⟩)
                rw [gsum_at k j G P hG16, show csum [frAt k j (G, P)] = P by simp [csum, frAt]] at h1
                exact h1
              have hAt := Lib.hid hAt0
              have hCt := Lib.hid hCt0
              have HM := Lib.hid hM
              have t1 : decide (j < q) = true := by simpa using hjl
              have hsz := hB4.size
              have hBx := (Below.refl wr.heap.size wr).alloc (Nat.le_refl _) (.cells #[.int .i64 (G : Nat), .int .i64 (P : Nat)] 57)
              have bD := Lib.hid (heap_alloc_new wr (.cells #[.int .i64 (G : Nat), .int .i64 (P : Nat)] 57))
              clear hx hok hq hc' hy hmem hidx g1 g2 p1 p2 hAt0 hCt0 hM
              go_wp2_with (go_at_call 20; refine (hAt.out _ (hB4.alloc hsz _)).mono ?_; rintro e w5 ⟨rfl, hb5⟩; have bD5 := Lib.hid ((hb5.block wr.heap.size (by simp)).trans bD.out); have hB35 := (hB4.alloc hsz (.cells #[.int .i64 (G : Nat), .int .i64 (P : Nat)] 57)).trans (hb5.mono (by simp; omega)); have hs5 := hb5.size)
              simp at hs5
              obtain ⟨W, hW⟩ : ∃ W, W = w5.alloc (.cells #[.int .i64 (k : Nat), .int .i64 (j : Nat), .int .u64 (M : Nat), .int .i64 (P : Nat)] 46) := ⟨_, rfl⟩
              have bD6 : W.heap[wr.heap.size]? = some (.cells #[.int .i64 (G : Nat), .int .i64 (P : Nat)] 57 (0, 0)) := by rw [hW]; exact (Below.heap_alloc _ _ _ (by omega)).trans bD5.out
              have bF6 : W.heap[w5.heap.size]? = some (.cells #[.int .i64 (k : Nat), .int .i64 (j : Nat), .int .u64 (M : Nat), .int .i64 (P : Nat)] 46 (0, 0)) := by rw [hW]; exact heap_alloc_new w5 _
              have hB36 : Below w3.heap.size w3 W := by rw [hW]; exact hB35.alloc hB35.size _
              rw [← hW]
              clear hW
              have e0 : W.cell? ⟨w5.heap.size, 0, none⟩ = some (.int .i64 (k : Nat)) := cell_blk (i := 0) bF6 rfl
              have e1 : W.cell? ⟨w5.heap.size, 1, none⟩ = some (.int .i64 (j : Nat)) := cell_blk (i := 1) bF6 rfl
              have e2 : W.cell? ⟨w5.heap.size, 2, none⟩ = some (.int .u64 (M : Nat)) := cell_blk (i := 2) bF6 rfl
              have e3 : W.cell? ⟨w5.heap.size, 3, none⟩ = some (.int .i64 (P : Nat)) := cell_blk (i := 3) bF6 rfl
              have x0 : W.cell? ⟨wr.heap.size, 0, none⟩ = some (.int .i64 (G : Nat)) := cell_blk (i := 0) bD6 rfl
              have x1 : W.cell? ⟨wr.heap.size, 1, none⟩ = some (.int .i64 (P : Nat)) := cell_blk (i := 1) bD6 rfl
              have l1 := blk_lt bF6
              have l2 := blk_lt bD6
              have q0 : ((P : Int) != (P : Int)) = false := by simp
              have q1 : ((G : Int) != (G : Int)) = false := by simp
              have hsh := shr_none M G HM.out
              have hfl : ∀ W : World, (Instr.field 41 (.agg #[.int .i64 (G : Nat), .int .i64 (P : Nat)]) 0).run Try.prog W = .ok (.int .i64 (G : Nat)) W := fun W => run_field0 W _ _
              clear bF6 bD6 bD5
              go_region_held3 (fun w' => w'.cell? ⟨w5.heap.size, 0, none⟩ = some (.int .i64 (k : Nat)) ∧ w'.cell? ⟨w5.heap.size, 1, none⟩ = some (.int .i64 (j : Nat)) ∧ w'.cell? ⟨w5.heap.size, 2, none⟩ = some (.int .u64 (M : Nat)) ∧ w'.cell? ⟨w5.heap.size, 3, none⟩ = some (.int .i64 (P : Nat)) ∧ w'.cell? ⟨wr.heap.size, 0, none⟩ = some (.int .i64 (G : Nat)) ∧ w'.cell? ⟨wr.heap.size, 1, none⟩ = some (.int .i64 (P : Nat)))
                (go_keep)
                (first
                  | (go_at_call 18; (refine (hCt.out _ _ (heap_alloc_new W.drew _)).mono ?_); rintro e w7 ⟨rfl, hb7⟩; have hB7 : Below W.heap.size W w7 := below_step (((Below.refl W.heap.size W).alloc (Nat.le_refl _) _).drew) hb7; have y0 := (hB7.cell (p := ⟨w5.heap.size, 0, none⟩) l1).trans e0; have y1 := (hB7.cell (p := ⟨w5.heap.size, 1, none⟩) l1).trans e1; have y2 := (hB7.cell (p := ⟨w5.heap.size, 2, none⟩) l1).trans e2; have y3 := (hB7.cell (p := ⟨w5.heap.size, 3, none⟩) l1).trans e3; have y4 := (hB7.cell (p := ⟨wr.heap.size, 0, none⟩) l2).trans x0; have y5 := (hB7.cell (p := ⟨wr.heap.size, 1, none⟩) l2).trans x1))
              clear hfl q0 q1 e0 e1 e2 e3 x0 x1 y0 y1 y2 y3 y4 y5
              go_wp2
              go_roundw
              case rel => exact ⟨j + 1, by go_num, by omega, below_step hB36 (hB7.mono (Nat.le_refl _))⟩
              case measure => simp [intOf]; omega
            · obtain rfl : j = q := by omega
              obtain ⟨hx, hok, hq, hc'⟩ := X.out
              have hno : ∀ f ∈ frees n0, ¬ ((f.n : Int) = (k : Int) ∧ (f.d : Int) = (j : Int)) := by
                rintro f hf ⟨e1, e2⟩
                obtain ⟨ds', hd', hl'⟩ := frees_in hf
                rw [show f.n = k by omega, hx] at hd'
                cases hd'
                omega
              have hAt := Lib.hid (fun (W : World) (hW : Below w3.heap.size w3 W) => at_miss a n (k : Int) (j : Int) (frees n0) W (HT3.out.keep hW) (wf_nat (by omega)) (wf_nat (by omega)) hno)
              clear hx hok hq hc' hno hjl
              go_wp2_with (go_at_call 20; refine (hAt.out _ hB4).mono ?_; rintro e w5 ⟨rfl, hb5⟩)
              go_roundw
              case rel => exact ⟨k + 1, by go_num, by omega, (below_step hB4 hb5).alloc (below_step hB4 hb5).size _⟩
              case measure => simp [intOf]; omega
        · obtain rfl : k = n := by omega
          have hno : ∀ f ∈ frees n0, ¬ ((f.n : Int) = (k : Int) ∧ (f.d : Int) = (0 : Int)) := by
            rintro f hf ⟨e1, e2⟩
            have := frees_mem hf
            rw [Q.out.1] at this
            omega
          have hAt := Lib.hid (fun (W : World) (hW : Below w3.heap.size w3 W) => at_miss a k (k : Int) 0 (frees n0) W (HT3.out.keep hW) (wf_nat (by omega)) (by decide) hno)
          clear hno hlt
          go_wp2_with (go_at_call 20; refine (hAt.out _ hB3r).mono ?_; rintro e w5 ⟨rfl, hb5⟩)
          go_ret
          exact ⟨rfl, (below_step hBl hb5).alloc (below_step hBl hb5).size _⟩

set_option maxRecDepth 100000 in
theorem lifted (os : Os) (started : os.Started) (H : Type) (enc : TypeId × Value → H) :
    ReturnsInHanded {} Try.checked os 7 .any (Rows.topoEachSpec.pre6 enc Try.prog Try.f7 Rows.topoEachRow.domain false) (Rows.topoEachSpec.post enc Try.prog Try.f7 false true false false) := by
  refine returnsInHanded_of_change (C := Try.checked) own started (by kernel_rfl) Try.func7
    (ChangeSpec.witness6 (enc := enc) (C := Try.checked) false ⟨#[], #[.agg #[.slice none 0 0]], []⟩ 8 (by kernel_rfl) (by kernel_rfl) (by kernel_rfl) (by kernel_rfl)) ?_
  intro W base args ds gs before hval0 hW _ _
  have hval : ∀ (j : Nat) t v, Try.f7.params[j]? = some t → args[j]? = some v → Value.okWide Try.prog W .any base t v := hval0
  have hW' := hW
  obtain ⟨p, q, hA0, hV, rfl, hfz, hnd⟩ := hW
  have hA : DataW.TrodAll enc Try.prog W 0 (fun _ => true) true Try.f7.params.toList args.toList ds p := hA0
  rw [Try.params7] at hA hval
  obtain ⟨v0, vs0, d0, ds0, p0, q0, hargs, rfl, rfl, h0, r0⟩ := trodAll_cons hA
  obtain ⟨rfl, rfl, rfl⟩ := trodAll_nil r0
  obtain rfl : args = #[v0] := by cases args; simp_all
  obtain ⟨rfl, rfl⟩ := trodVars_none hV
  have k0 := h0
  have lt0 : ∀ x ∈ p0, x.block < W.heap.size := by obtain ⟨m, hm⟩ := k0; exact DataW.trod_lt m _ _ _ hm
  obtain ⟨a0, c0, n0, rfl, lc0, mc0, w0⟩ := clu_of (hval 0 24 v0 rfl rfl) h0
  clear hA0 hval0
  refine (walk a0 c0 n0 W w0 lc0 mc0).mono fun e W' ⟨he, bel⟩ => ?_
  subst he
  exact ⟨_, rfl, _, _, _, [], _, [], hW', trodAll_mk1 (shut_bool Try.underlying4 _), (trodAll_cons_mk (Below.trod laidOut (by kernel_rfl) (of_decide_eq_true (by kernel_rfl)) k0 bel lt0) trodAll_mk0), rfl, bel.frame _, fun h => by cases h⟩

/-- THE STATEMENT. -/
theorem holds : Rows.TopoEachSaid :=
  OpenClaim.holds_of_wide 7 Try.f7 rfl rfl rfl rfl rfl rfl rfl ⟨rfl, rfl, rfl, rfl, rfl⟩ rfl rfl rfl rfl rfl (by kernel_rfl) Try.func7 (by kernel_rfl)
    (of_decide_eq_true (by kernel_rfl)) (by unfold Func.isWrapper; first | (rw [if_pos (by decide +kernel)]; kernel_rfl) | (rw [if_neg (by decide +kernel)]; exact ⟨rfl, rfl⟩))
    (fun os started H enc _ => lifted os started H enc)
end Go.Proofs.Ytbabnhicdobmdaa.topoEach
