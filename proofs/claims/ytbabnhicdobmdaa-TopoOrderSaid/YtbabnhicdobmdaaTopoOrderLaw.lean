/- Whatever cluster: its spots rise, each once; each is found at its place; what is told can be written into, and is told as before: the law TopoOrder answers true, at every input. -/
import Derived.Deep.QuietTactic
import Derived.BigQuiet
import Derived.Test.YtbabnhicdobmdaaTopoLaws
import Derived.Test.YtbabnhicdobmdaaTopoFrame
import Derived.Test.YtbabnhicdobmdaaTopoFrame
set_option linter.unusedVariables false
namespace Go.Proofs.Ytbabnhicdobmdaa.topoOrder
open Go Go.ChangeShapes Go.WideShapes Go.ChangeAt Go.RowKit
theorem frNode_at {i k : Nat} {ds : List (Int × Int)} {f : Fr} (h : (frNode i ds)[k]? = some f) : f.n = i ∧ f.d = k := by
  unfold frNode at h
  rw [List.getElem?_map, List.getElem?_zipIdx] at h
  cases hd : ds[k]? with
  | none => rw [hd] at h; simp at h
  | some d => rw [hd] at h; simp at h; subst h; exact ⟨rfl, rfl⟩
/-- Spots rise: by nodes, then by domains. -/
theorem frees_rise {ns : List (List (Int × Int))} : ∀ {k : Nat} {f f' : Fr}, (frees ns)[k]? = some f → (frees ns)[k + 1]? = some f' → f.n < f'.n ∨ (f.n = f'.n ∧ f.d < f'.d) := by
  suffices H : ∀ i, i ≤ ns.length → ∀ {k : Nat} {f f' : Fr}, (frees (ns.take i))[k]? = some f → (frees (ns.take i))[k + 1]? = some f' → f.n < f'.n ∨ (f.n = f'.n ∧ f.d < f'.d) by
    have := @H ns.length (Nat.le_refl _)
    rwa [List.take_length] at this
  intro i
  induction i with
  | zero => intro _ k f f' h; simp [frees] at h
  | succ i ih =>
    intro hi k f f' h h'
    obtain ⟨ds, hd⟩ := get_lt (l := ns) (k := i) (by omega)
    rw [frees_next hd] at h h'
    by_cases h1 : k + 1 < (frees (ns.take i)).length
    · rw [List.getElem?_append_left h1] at h'
      rw [List.getElem?_append_left (by omega)] at h
      exact ih (by omega) h h'
    · rw [List.getElem?_append_right (by omega)] at h'
      obtain ⟨e1, e2⟩ := frNode_at h'
      by_cases h2 : k < (frees (ns.take i)).length
      · rw [List.getElem?_append_left h2] at h
        have := frees_mem (List.mem_of_getElem? h)
        rw [List.length_take] at this
        left; omega
      · rw [List.getElem?_append_right (by omega)] at h
        obtain ⟨e3, e4⟩ := frNode_at h
        right; omega
set_option maxRecDepth 100000 in
set_option maxHeartbeats 4000000 in
theorem walk (a0 : Option Addr) (c0 : Nat) (n0 : List (List (Int × Int))) (w : World) (w0 : Nodes w w.heap.size a0 n0) (lc : n0.length ≤ c0) (mc : c0 ≤ maxLen) :
    Calls Try.prog 4 #[.agg #[.slice a0 n0.length c0]] w fun e w' => e = .returned (.bool true) ∧ Below w.heap.size w w' := by
  have hA := Lib.hid awake_any
  have c1 : (w.alloc (.cells #[.slice a0 n0.length c0] 24)).cell? ⟨w.heap.size, 0, none⟩ = some (.slice a0 n0.length c0) := by go_simp
  have hBa := (Below.refl w.heap.size w).alloc (Nat.le_refl _) (.cells #[.slice a0 n0.length c0] 24)
  cases hf : fewB n0
  · have hF := Lib.hid (fun W hW => few_law a0 c0 n0 w W w0 hW false hf)
    clear hf w0
    go_enter Try.func4, Try.ntmps4
    go_wp2_with (first
      | (go_at_call 8; refine (hA.out _).mono ?_; rintro e w1 ⟨rfl, hb1⟩; have hB1 := below_step hBa hb1; have k1 := (hb1.cell (p := ⟨w.heap.size, 0, none⟩) (by simp)).trans c1)
      | (go_at_call 9; refine (hF.out _ hB1).mono ?_; rintro e w2 ⟨rfl, hb2⟩; have hB2 := below_step hB1 hb2))
    go_ret
    exact ⟨rfl, hB2⟩
  · have hF := Lib.hid (fun W hW => few_law a0 c0 n0 w W w0 hW true hf)
    cases hok : cluOk n0
    · have hN := Lib.hid (fun W (hW : Below w.heap.size w W) => new_bad a0 c0 n0 w W w0 hW hok)
      clear hf w0 hok
      go_enter Try.func4, Try.ntmps4
      go_wp2_with (first
        | (go_at_call 8; refine (hA.out _).mono ?_; rintro e w1 ⟨rfl, hb1⟩; have hB1 := below_step hBa hb1; have k1 := (hb1.cell (p := ⟨w.heap.size, 0, none⟩) (by simp)).trans c1)
        | (go_at_call 9; refine (hF.out _ hB1).mono ?_; rintro e w2 ⟨rfl, hb2⟩; have hB2 := below_step hB1 hb2; have k2 := (hb2.cell (p := ⟨w.heap.size, 0, none⟩) (by have := hb1.size; simp at this; simp; omega)).trans k1)
        | (go_at_call 10; refine (hN.out _ hB2).mono ?_; rintro e w3 ⟨rfl, hb3⟩; have hB3 := below_step hB2 hb3))
      go_ret
      exact ⟨rfl, hB3⟩
    · have hN := Lib.hid (fun W (hW : Below w.heap.size w W) => new_good a0 c0 n0 w W w0 hW hok)
      have hl := cluOk_len hok
      have hSp := Lib.hid (fun a W h => spots_law a n0.length n0 hok W h)
      have hAl := Lib.hid (fun a W h => all_law a n0.length n0 hok W h)
      have hfl := frees_len hok
      have hfp := frees_pos hok
      obtain ⟨q, hq⟩ : ∃ q, (frees n0).length = q := ⟨_, rfl⟩
      rw [hq] at hSp hAl hfl hfp
      have hQ := Lib.hid hq
      clear hq
      obtain ⟨ds0, hd0⟩ := get_lt (l := n0) (k := 0) (by omega)
      obtain ⟨b, off, rfl, hb, hc⟩ := w0.at_ hd0
      obtain ⟨n, hn⟩ : ∃ n, n0.length = n := ⟨_, rfl⟩
      rw [hn] at lc c1 hBa hF hN hl hSp hAl ⊢
      have Q := Lib.hid (And.intro hn (And.intro hc hok))
      clear hf w0 hok hd0 hn hc
      unfold maxLen at mc
      go_enter Try.func4, Try.ntmps4
      go_wp2_with (first
        | (go_at_call 8; refine (hA.out _).mono ?_; rintro e w1 ⟨rfl, hb1⟩; have hB1 := below_step hBa hb1; have k1 := (hb1.cell (p := ⟨w.heap.size, 0, none⟩) (by simp)).trans c1; have s1 := hb1.size; simp at s1)
        | (go_at_call 9; refine (hF.out _ hB1).mono ?_; rintro e w2 ⟨rfl, hb2⟩; have hB2 := below_step hB1 hb2; have k2 := (hb2.cell (p := ⟨w.heap.size, 0, none⟩) (show w.heap.size < _ by omega)).trans k1; have s2 := hb2.size)
        | (go_at_call 10; refine (hN.out _ hB2).mono ?_; rintro e w3 ⟨a, rfl, hT3, hb3⟩; have HT3 := Lib.hid hT3; clear hT3; have hB3 := below_step hB2 hb3; have k3 := (hb3.cell (p := ⟨w.heap.size, 0, none⟩) (show w.heap.size < _ by omega)).trans k2; have s3 := hb3.size)
        | (go_at_call 13; refine (hSp.out _ _ HT3.out).mono ?_; rintro e w4 ⟨gs, rfl, hgs, hR4, hb4⟩; have HR4 := Lib.hid hR4; clear hR4)
        | (go_at_call 15; refine (hAl.out _ _ (HT3.out.keep hb4)).mono ?_; rintro e w5 ⟨ga, rfl, hga, hA5, hb5⟩; have HA5 := Lib.hid hA5; clear hA5))
      have b45 := below_step hb4 hb5
      have hR5 := HR4.out.of_block (hb5.block gs HR4.out.lt)
      have hglt := HR4.out.lt
      have hg : gs < ga := by omega
      have HR5 := Lib.hid hR5
      clear hR5 HR4 hN hF hA k1 k2 k3 c1 hBa hb1 hb2 hb3 s1 s2 s3
      have hs45 := hb4.size
      have hs55 := hb5.size
      have hIx := Lib.hid (fun (W : World) (hW : Below w5.heap.size w5 W) (i : Nat) (f : Fr) (hi : (frees n0)[i]? = some f) => index_hit a n i f (frees n0) W (HT3.out.keep (b45.trans (hW.mono (by omega)))) hi (row_dup n0))
      have hAt := Lib.hid (fun (W : World) (hW : Below w5.heap.size w5 W) (i : Nat) (f : Fr) (hi : (frees n0)[i]? = some f) => at_hit a n i f (frees n0) W (HT3.out.keep (b45.trans (hW.mono (by omega)))) hi (row_dup n0))
      go_loopw [7] (fun i wr => ∃ k : Nat, i = .int .i64 k ∧ k ≤ q ∧ Below w5.heap.size w5 wr) (fun i _ => q - (intOf i).toNat)
      case atStart => exact ⟨0, rfl, by omega, Below.refl _ _⟩
      case round =>
        obtain ⟨k, rfl, hk, hBr⟩ := hrel
        have hsr := hBr.size
        by_cases hlt : k < q
        · obtain ⟨f, hx⟩ := get_lt (l := frees n0) (k := k) (by rw [hQ.out]; exact hlt)
          have hRr := HR5.out.of_block (hBr.block gs (by omega))
          rw [← hQ.out] at hRr
          obtain ⟨r0, r1⟩ := hRr.at_ hx
          have hAr := (hBr.block ga (blk_lt HA5.out)).trans HA5.out
          have hFr := (blk_frees hAr)
          rcases hFr with e | ⟨gx, ox, eg, _, hcc⟩
          · rw [e] at hx; simp at hx
          cases eg
          obtain ⟨f0, f1, f2, f3⟩ := hcc k f hx
          simp only [Nat.zero_add] at f0 f1 f2 f3
          have IX := Lib.hid (fun W hW => hIx.out W hW k f hx)
          have AT := Lib.hid (fun W hW => hAt.out W hW k f hx)
          have t0 : decide (k < q) = true := by simpa using hlt
          have j0 : (0 : Int) ≤ (k : Int) := by omega
          have j1 : (k : Int) < (q : Int) := by omega
          have X := Lib.hid (And.intro hx (And.intro hRr hAr))
          clear hx hRr hAr hcc
          have hgal : ga < wr.heap.size := blk_lt X.out.2.2
          rcases Nat.eq_zero_or_pos k with e | hpos
          · subst e
            simp only [Nat.zero_mul, Nat.zero_add] at r0 r1 f0 f1 f2 f3
            go_wp2_with fail
            go_quiet (fail)
            go_wp2_with (first
              | (go_at_call 19; refine (IX.out _ (below_drewN hBr nq)).mono ?_; rintro e w6 ⟨rfl, hb6⟩; have hB6 := below_step (below_drewN hBr nq) hb6; have u0 := (hb6.cell (p := ⟨gs, 0, none⟩) (show gs < wr.heap.size by omega)).trans r0; have u1 := (hb6.cell (p := ⟨gs, 1, none⟩) (show gs < wr.heap.size by omega)).trans r1; have s6 : wr.heap.size ≤ w6.heap.size := hb6.size)
              | (go_at_call 20; refine (AT.out _ hB6).mono ?_; rintro e w7 ⟨rfl, hb7⟩; have hB7 := below_step hB6 hb7; have hb67 := below_step hb6 hb7; have v0 := (hb7.cell (p := ⟨gs, 0, none⟩) (by show gs < _; omega)).trans u0; have v1 := (hb7.cell (p := ⟨gs, 1, none⟩) (by show gs < _; omega)).trans u1; have g0 := (hb67.cell (p := ⟨ga, 0, none⟩) (show ga < wr.heap.size by omega)).trans f0; have g1 := (hb67.cell (p := ⟨ga, 1, none⟩) (show ga < wr.heap.size by omega)).trans f1; have g2 := (hb67.cell (p := ⟨ga, 2, none⟩) (show ga < wr.heap.size by omega)).trans f2; have g3 := (hb67.cell (p := ⟨ga, 3, none⟩) (show ga < wr.heap.size by omega)).trans f3; have s7 := hb7.size))
            obtain ⟨W, hW⟩ : ∃ W, W = w7.alloc (.cells #[.int .i64 (f.n : Nat), .int .i64 (f.d : Nat), .int .u64 (f.m : Nat), .int .i64 (f.c : Nat)] 46) := ⟨_, rfl⟩
            have hst := (Below.refl w7.heap.size w7).alloc (Nat.le_refl _) (.cells #[.int .i64 (f.n : Nat), .int .i64 (f.d : Nat), .int .u64 (f.m : Nat), .int .i64 (f.c : Nat)] 46)
            rw [← hW] at hst
            have bF : W.heap[w7.heap.size]? = some (.cells #[.int .i64 (f.n : Nat), .int .i64 (f.d : Nat), .int .u64 (f.m : Nat), .int .i64 (f.c : Nat)] 46 (0, 0)) := by rw [hW]; exact heap_alloc_new w7 _
            rw [← hW]
            clear hW
            have b0 : W.cell? ⟨w7.heap.size, 0, none⟩ = some (.int .i64 (f.n : Nat)) := cell_blk (i := 0) bF rfl
            have b1 : W.cell? ⟨w7.heap.size, 1, none⟩ = some (.int .i64 (f.d : Nat)) := cell_blk (i := 1) bF rfl
            have b2 : W.cell? ⟨w7.heap.size, 2, none⟩ = some (.int .u64 (f.m : Nat)) := cell_blk (i := 2) bF rfl
            have b3 : W.cell? ⟨w7.heap.size, 3, none⟩ = some (.int .i64 (f.c : Nat)) := cell_blk (i := 3) bF rfl
            have m0 := (hst.cell (p := ⟨gs, 0, none⟩) (by show gs < _; omega)).trans v0
            have m1 := (hst.cell (p := ⟨gs, 1, none⟩) (by show gs < _; omega)).trans v1
            have n0' := (hst.cell (p := ⟨ga, 0, none⟩) (by show ga < _; omega)).trans g0
            have n1 := (hst.cell (p := ⟨ga, 1, none⟩) (by show ga < _; omega)).trans g1
            have n2 := (hst.cell (p := ⟨ga, 2, none⟩) (by show ga < _; omega)).trans g2
            have n3 := (hst.cell (p := ⟨ga, 3, none⟩) (by show ga < _; omega)).trans g3
            have hBW := below_step hB7 hst
            have q0 : (((0 : Nat) : Int) != ((0 : Nat) : Int)) = false := by simp
            clear u0 u1 v0 v1 g0 g1 g2 g3 r0 r1 f0 f1 f2 f3 bF hst hb6 hb7 hb67 hB6 hB7 IX AT
            go_quiet (fail)
            go_wp2
            go_roundw
            case rel => exact ⟨1, by go_num, by omega, below_drewN hBW _⟩
            case measure => simp [intOf]; omega
          · obtain ⟨k', rfl⟩ : ∃ k', k = k' + 1 := ⟨k - 1, by omega⟩
            obtain ⟨f', hx'⟩ := get_lt (l := frees n0) (k := k') (by rw [hQ.out]; omega)
            obtain ⟨p0, p1⟩ := X.out.2.1.at_ hx'
            have hr := frees_rise hx' X.out.1
            clear hx'
            have j2 : (0 : Int) ≤ (k' : Int) + 1 := by omega
            have j3 : (k' : Int) + 1 < (q : Int) := by omega
            have j4 : (k' : Int) < (q : Int) := by omega
            have j5 : (0 : Int) ≤ (k' : Int) := by omega
            have e0 : decide (f.n < f'.n) = false := by simp; omega
            have hw : IntKind.i64.wrap (k' : Int) = (k' : Int) := IntWalk.i64_in _ (by omega)
            rcases hr with hr | ⟨hr, hr2⟩
            · have e1 : ((f.n : Int) == (f'.n : Int)) = false := by simp; omega
              go_wp2_with fail
              go_quiet (fail)
              clear hw e0 e1
              go_wp2_with (first
                | (go_at_call 19; refine (IX.out _ (below_drewN hBr nq)).mono ?_; rintro e w6 ⟨rfl, hb6⟩; have hB6 := below_step (below_drewN hBr nq) hb6; have u0 := (hb6.cell (p := ⟨gs, (k' + 1) * 2, none⟩) (show gs < wr.heap.size by omega)).trans r0; have u1 := (hb6.cell (p := ⟨gs, (k' + 1) * 2 + 1, none⟩) (show gs < wr.heap.size by omega)).trans r1; have s6 : wr.heap.size ≤ w6.heap.size := hb6.size)
                | (go_at_call 20; refine (AT.out _ hB6).mono ?_; rintro e w7 ⟨rfl, hb7⟩; have hB7 := below_step hB6 hb7; have hb67 := below_step hb6 hb7; have v0 := (hb7.cell (p := ⟨gs, (k' + 1) * 2, none⟩) (by show gs < _; omega)).trans u0; have v1 := (hb7.cell (p := ⟨gs, (k' + 1) * 2 + 1, none⟩) (by show gs < _; omega)).trans u1; have g0 := (hb67.cell (p := ⟨ga, (k' + 1) * 4, none⟩) (show ga < wr.heap.size by omega)).trans f0; have g1 := (hb67.cell (p := ⟨ga, (k' + 1) * 4 + 1, none⟩) (show ga < wr.heap.size by omega)).trans f1; have g2 := (hb67.cell (p := ⟨ga, (k' + 1) * 4 + 2, none⟩) (show ga < wr.heap.size by omega)).trans f2; have g3 := (hb67.cell (p := ⟨ga, (k' + 1) * 4 + 3, none⟩) (show ga < wr.heap.size by omega)).trans f3; have s7 := hb7.size))
              obtain ⟨W, hW⟩ : ∃ W, W = w7.alloc (.cells #[.int .i64 (f.n : Nat), .int .i64 (f.d : Nat), .int .u64 (f.m : Nat), .int .i64 (f.c : Nat)] 46) := ⟨_, rfl⟩
              have hst := (Below.refl w7.heap.size w7).alloc (Nat.le_refl _) (.cells #[.int .i64 (f.n : Nat), .int .i64 (f.d : Nat), .int .u64 (f.m : Nat), .int .i64 (f.c : Nat)] 46)
              rw [← hW] at hst
              have bF : W.heap[w7.heap.size]? = some (.cells #[.int .i64 (f.n : Nat), .int .i64 (f.d : Nat), .int .u64 (f.m : Nat), .int .i64 (f.c : Nat)] 46 (0, 0)) := by rw [hW]; exact heap_alloc_new w7 _
              rw [← hW]
              clear hW
              have b0 : W.cell? ⟨w7.heap.size, 0, none⟩ = some (.int .i64 (f.n : Nat)) := cell_blk (i := 0) bF rfl
              have b1 : W.cell? ⟨w7.heap.size, 1, none⟩ = some (.int .i64 (f.d : Nat)) := cell_blk (i := 1) bF rfl
              have b2 : W.cell? ⟨w7.heap.size, 2, none⟩ = some (.int .u64 (f.m : Nat)) := cell_blk (i := 2) bF rfl
              have b3 : W.cell? ⟨w7.heap.size, 3, none⟩ = some (.int .i64 (f.c : Nat)) := cell_blk (i := 3) bF rfl
              have m0 := (hst.cell (p := ⟨gs, (k' + 1) * 2, none⟩) (by show gs < _; omega)).trans v0
              have m1 := (hst.cell (p := ⟨gs, (k' + 1) * 2 + 1, none⟩) (by show gs < _; omega)).trans v1
              have n0' := (hst.cell (p := ⟨ga, (k' + 1) * 4, none⟩) (by show ga < _; omega)).trans g0
              have n1 := (hst.cell (p := ⟨ga, (k' + 1) * 4 + 1, none⟩) (by show ga < _; omega)).trans g1
              have n2 := (hst.cell (p := ⟨ga, (k' + 1) * 4 + 2, none⟩) (by show ga < _; omega)).trans g2
              have n3 := (hst.cell (p := ⟨ga, (k' + 1) * 4 + 3, none⟩) (by show ga < _; omega)).trans g3
              have hBW := below_step hB7 hst
              have q0 : ((k' : Int) + 1 != (k' : Int) + 1) = false := by simp
              clear u0 u1 v0 v1 g0 g1 g2 g3 r0 r1 f0 f1 f2 f3 bF hst hb6 hb7 hb67 hB6 hB7 IX AT
              go_quiet (fail)
              go_wp2
              go_roundw
              case rel => exact ⟨k' + 1 + 1, by go_num, by omega, below_drewN hBW _⟩
              case measure => simp [intOf]; omega
            · have e1 : ((f.n : Int) == (f'.n : Int)) = true := by simp; omega
              have e2 : decide (f.d ≤ f'.d) = false := by simp; omega
              have HR := Lib.hid hr
              clear hr
              go_wp2_with fail
              go_quiet (fail)
              clear hw e0 e1 e2
              go_wp2_with (first
                | (go_at_call 19; refine (IX.out _ (below_drewN hBr nq)).mono ?_; rintro e w6 ⟨rfl, hb6⟩; have hB6 := below_step (below_drewN hBr nq) hb6; have u0 := (hb6.cell (p := ⟨gs, (k' + 1) * 2, none⟩) (show gs < wr.heap.size by omega)).trans r0; have u1 := (hb6.cell (p := ⟨gs, (k' + 1) * 2 + 1, none⟩) (show gs < wr.heap.size by omega)).trans r1; have s6 : wr.heap.size ≤ w6.heap.size := hb6.size)
                | (go_at_call 20; refine (AT.out _ hB6).mono ?_; rintro e w7 ⟨rfl, hb7⟩; have hB7 := below_step hB6 hb7; have hb67 := below_step hb6 hb7; have v0 := (hb7.cell (p := ⟨gs, (k' + 1) * 2, none⟩) (by show gs < _; omega)).trans u0; have v1 := (hb7.cell (p := ⟨gs, (k' + 1) * 2 + 1, none⟩) (by show gs < _; omega)).trans u1; have g0 := (hb67.cell (p := ⟨ga, (k' + 1) * 4, none⟩) (show ga < wr.heap.size by omega)).trans f0; have g1 := (hb67.cell (p := ⟨ga, (k' + 1) * 4 + 1, none⟩) (show ga < wr.heap.size by omega)).trans f1; have g2 := (hb67.cell (p := ⟨ga, (k' + 1) * 4 + 2, none⟩) (show ga < wr.heap.size by omega)).trans f2; have g3 := (hb67.cell (p := ⟨ga, (k' + 1) * 4 + 3, none⟩) (show ga < wr.heap.size by omega)).trans f3; have s7 := hb7.size))
              obtain ⟨W, hW⟩ : ∃ W, W = w7.alloc (.cells #[.int .i64 (f.n : Nat), .int .i64 (f.d : Nat), .int .u64 (f.m : Nat), .int .i64 (f.c : Nat)] 46) := ⟨_, rfl⟩
              have hst := (Below.refl w7.heap.size w7).alloc (Nat.le_refl _) (.cells #[.int .i64 (f.n : Nat), .int .i64 (f.d : Nat), .int .u64 (f.m : Nat), .int .i64 (f.c : Nat)] 46)
              rw [← hW] at hst
              have bF : W.heap[w7.heap.size]? = some (.cells #[.int .i64 (f.n : Nat), .int .i64 (f.d : Nat), .int .u64 (f.m : Nat), .int .i64 (f.c : Nat)] 46 (0, 0)) := by rw [hW]; exact heap_alloc_new w7 _
              rw [← hW]
              clear hW
              have b0 : W.cell? ⟨w7.heap.size, 0, none⟩ = some (.int .i64 (f.n : Nat)) := cell_blk (i := 0) bF rfl
              have b1 : W.cell? ⟨w7.heap.size, 1, none⟩ = some (.int .i64 (f.d : Nat)) := cell_blk (i := 1) bF rfl
              have b2 : W.cell? ⟨w7.heap.size, 2, none⟩ = some (.int .u64 (f.m : Nat)) := cell_blk (i := 2) bF rfl
              have b3 : W.cell? ⟨w7.heap.size, 3, none⟩ = some (.int .i64 (f.c : Nat)) := cell_blk (i := 3) bF rfl
              have m0 := (hst.cell (p := ⟨gs, (k' + 1) * 2, none⟩) (by show gs < _; omega)).trans v0
              have m1 := (hst.cell (p := ⟨gs, (k' + 1) * 2 + 1, none⟩) (by show gs < _; omega)).trans v1
              have n0' := (hst.cell (p := ⟨ga, (k' + 1) * 4, none⟩) (by show ga < _; omega)).trans g0
              have n1 := (hst.cell (p := ⟨ga, (k' + 1) * 4 + 1, none⟩) (by show ga < _; omega)).trans g1
              have n2 := (hst.cell (p := ⟨ga, (k' + 1) * 4 + 2, none⟩) (by show ga < _; omega)).trans g2
              have n3 := (hst.cell (p := ⟨ga, (k' + 1) * 4 + 3, none⟩) (by show ga < _; omega)).trans g3
              have hBW := below_step hB7 hst
              have q0 : ((k' : Int) + 1 != (k' : Int) + 1) = false := by simp
              clear u0 u1 v0 v1 g0 g1 g2 g3 r0 r1 f0 f1 f2 f3 bF hst hb6 hb7 hb67 hB6 hB7 IX AT
              go_quiet (fail)
              go_wp2
              go_roundw
              case rel => exact ⟨k' + 1 + 1, by go_num, by omega, below_drewN hBW _⟩
              case measure => simp [intOf]; omega
        · obtain rfl : k = q := by omega
          have hB3r : Below w3.heap.size w3 wr := b45.trans (hBr.mono (by omega))
          have hBl := below_step hB3 hB3r
          have bs := HR5.out.of_block (hBr.block gs (by omega))
          obtain ⟨cs, bs1, bs2, _⟩ := bs
          have ba := (hBr.block ga (blk_lt HA5.out)).trans HA5.out
          obtain ⟨ca, hca⟩ : ∃ ca, ca = ((frees n0).flatMap frC).toArray := ⟨_, rfl⟩
          have hcas : ca.size = k * 4 := by rw [hca, List.size_toArray, frC_len, hQ.out]
          rw [← hca] at ba
          have BS := Lib.hid (And.intro bs1 bs2)
          have BA := Lib.hid (And.intro ba hcas)
          clear hlt bs1 bs2 ba hcas hca hIx hAt HR5 HA5
          go_wp2
          go_loopw [12] (fun i wr' => ∃ (j : Nat) (cs ca : Array Value), i = .int .i64 j ∧ j ≤ k ∧ Below w3.heap.size w3 wr' ∧ Hid (wr'.heap[gs]? = some (.cells cs 26 (0, 0)) ∧ cs.size = k * 2) ∧ Hid (wr'.heap[ga]? = some (.cells ca 46 (0, 0)) ∧ ca.size = k * 4)) (fun i _ => k - (intOf i).toNat)
          case atStart => exact ⟨0, _, _, rfl, by omega, hB3r, BS, BA⟩
          case round =>
            obtain ⟨j, cs, ca, rfl, hj, hB3', BS, BA⟩ := hrel
            by_cases hjl : j < k
            · have x3 : wr.cell? ⟨ga, j * 4 + 3, none⟩ = some (ca[j * 4 + 3]'(by have := BA.out.2; omega)) := cell_blk BA.out.1 (Array.getElem?_eq_getElem _)
              have y0 : wr.cell? ⟨gs, j * 2, none⟩ = some (cs[j * 2]'(by have := BS.out.2; omega)) := cell_blk BS.out.1 (Array.getElem?_eq_getElem _)
              have z3 : wr.frozen? ⟨ga, j * 4 + 3, none⟩ = false := frozen_blk BA.out.1
              have z0 : wr.frozen? ⟨gs, j * 2, none⟩ = false := frozen_blk BS.out.1
              have t0 : decide (j < k) = true := by simpa using hjl
              generalize ca[j * 4 + 3]'(by have := BA.out.2; omega) = v3 at x3
              generalize cs[j * 2]'(by have := BS.out.2; omega) = v0 at y0
              go_wp2
              go_roundw
              case rel =>
                refine ⟨j + 1, cs.setIfInBounds (j * 2) (.int .i64 (-1)), ca.setIfInBounds (j * 4 + 3) (.int .i64 (-1)), by go_num, by omega, (hB3'.setCell (show w3.heap.size ≤ ga by omega) _).setCell (show w3.heap.size ≤ gs by omega) _, Lib.hid ⟨?_, by simpa using BS.out.2⟩, Lib.hid ⟨?_, by simpa using BA.out.2⟩⟩
                · exact blk_put _ ((Below.heap_setCell _ _ _ _ (show gs ≠ ga by omega)).trans BS.out.1)
                · exact (Below.heap_setCell _ _ _ _ (show ga ≠ gs by omega)).trans (blk_put _ BA.out.1)
              case measure => simp [intOf]; omega
            · obtain rfl : j = k := by omega
              have hT := HT3.out.keep hB3'
              have hAr := Lib.hid (hAl.out a _ hT)
              have hBl2 := below_step hB3 hB3'
              clear hjl hT
              go_wp2_with (go_at_call 15; refine hAr.out.mono ?_; rintro e w8 ⟨g8, rfl, hg8, hA8, hb8⟩; have HA8 := Lib.hid hA8; clear hA8)
              have hB8 := below_step hBl2 hb8
              go_loopw [14] (fun i wr' => ∃ m : Nat, i = .int .i64 m ∧ m ≤ j ∧ wr' = w8) (fun i _ => j - (intOf i).toNat)
              case atStart => exact ⟨0, rfl, by omega, rfl⟩
              case round =>
                obtain ⟨m, rfl, hm, rfl⟩ := hrel
                by_cases hml : m < j
                · obtain ⟨f, hx⟩ := get_lt (l := frees n0) (k := m) (by rw [hQ.out]; exact hml)
                  rcases blk_frees HA8.out with e | ⟨gx, ox, eg, _, hcc⟩
                  · rw [e] at hx; simp at hx
                  cases eg
                  obtain ⟨f0, f1, f2, f3⟩ := hcc m f hx
                  simp only [Nat.zero_add] at f0 f1 f2 f3
                  have t0 : decide (m < j) = true := by simpa using hml
                  have q0 : decide ((f.c : Int) < 0) = false := by simp
                  have q1 : decide ((f.n : Int) < 0) = false := by simp
                  clear hx hcc
                  go_wp2
                  go_roundw
                  case rel => exact ⟨m + 1, by go_num, by omega, by trivial⟩
                  case measure => simp [intOf]; omega
                · obtain rfl : m = j := by omega
                  clear hml
                  go_wp2
                  go_ret
                  exact ⟨rfl, hB8⟩

set_option maxRecDepth 100000 in
theorem lifted (os : Os) (started : os.Started) (H : Type) (enc : TypeId × Value → H) :
    ReturnsInHanded {} Try.checked os 4 .any (Rows.topoOrderSpec.pre6 enc Try.prog Try.f4 Rows.topoOrderRow.domain false) (Rows.topoOrderSpec.post enc Try.prog Try.f4 false true false false) := by
  refine returnsInHanded_of_change (C := Try.checked) own started (by kernel_rfl) Try.func4
    (ChangeSpec.witness6 (enc := enc) (C := Try.checked) false ⟨#[], #[.agg #[.slice none 0 0]], []⟩ 8 (by kernel_rfl) (by kernel_rfl) (by kernel_rfl) (by kernel_rfl)) ?_
  intro W base args ds gs before hval0 hW _ _
  have hval : ∀ (j : Nat) t v, Try.f4.params[j]? = some t → args[j]? = some v → Value.okWide Try.prog W .any base t v := hval0
  have hW' := hW
  obtain ⟨p, q, hA0, hV, rfl, hfz, hnd⟩ := hW
  have hA : DataW.TrodAll enc Try.prog W 0 (fun _ => true) true Try.f4.params.toList args.toList ds p := hA0
  rw [Try.params4] at hA hval
  obtain ⟨v0, vs0, d0, ds0, p0, q0, hargs, rfl, rfl, h0, r0⟩ := trodAll_cons hA
  obtain ⟨rfl, rfl, rfl⟩ := trodAll_nil r0
  obtain rfl : args = #[v0] := by cases args; simp_all
  obtain ⟨rfl, rfl⟩ := trodVars_none hV
  have k0 := h0
  have lt0 : ∀ x ∈ p0, x.block < W.heap.size := by obtain ⟨m, hm⟩ := k0; exact DataW.trod_lt m _ _ _ hm
  obtain ⟨a0, c0, n0, rfl, lc0, mc0, w0⟩ := clu_of (hval 0 24 v0 rfl rfl) h0
  clear hA0 hval0
  refine (walk a0 c0 n0 W w0 lc0 mc0).mono fun e W' ⟨he, bel⟩ => ?_
  subst he
  exact ⟨_, rfl, _, _, _, [], _, [], hW', trodAll_mk1 (shut_bool Try.underlying4 _), (trodAll_cons_mk (Below.trod laidOut (by kernel_rfl) (of_decide_eq_true (by kernel_rfl)) k0 bel lt0) trodAll_mk0), rfl, bel.frame _, fun h => by cases h⟩

/-- THE STATEMENT. -/
theorem holds : Rows.TopoOrderSaid :=
  OpenClaim.holds_of_wide 4 Try.f4 rfl rfl rfl rfl rfl rfl rfl ⟨rfl, rfl, rfl, rfl, rfl⟩ rfl rfl rfl rfl rfl (by kernel_rfl) Try.func4 (by kernel_rfl)
    (of_decide_eq_true (by kernel_rfl)) (by unfold Func.isWrapper; first | (rw [if_pos (by decide +kernel)]; kernel_rfl) | (rw [if_neg (by decide +kernel)]; exact ⟨rfl, rfl⟩))
    (fun os started H enc _ => lifted os started H enc)
end Go.Proofs.Ytbabnhicdobmdaa.topoOrder
