/- Whatever cluster: its units are those of its nodes, each of which is a cluster of its own: the law TopoParts answers true, at every input. -/
import Derived.Deep.QuietTactic
import Derived.BigQuiet
import Derived.Deep.RegionHeld3
import Derived.Test.YtbabnhicdobmdaaTopoLaws
import Derived.Test.YtbabnhicdobmdaaTopoFrame
import Derived.Test.YtbabnhicdobmdaaTopoFrame
set_option linter.unusedVariables false
namespace Go.Proofs.Ytbabnhicdobmdaa.topoParts
open Go Go.ChangeShapes Go.WideShapes Go.ChangeAt Go.RowKit
set_option maxRecDepth 100000 in
set_option maxHeartbeats 4000000 in
theorem walk (a0 : Option Addr) (c0 : Nat) (n0 : List (List (Int × Int))) (w : World) (w0 : Nodes w w.heap.size a0 n0) (lc : n0.length ≤ c0) (mc : c0 ≤ maxLen) :
    Calls Try.prog 5 #[.agg #[.slice a0 n0.length c0]] w fun e w' => e = .returned (.bool true) ∧ Below w.heap.size w w' := by
  have hA := Lib.hid awake_any
  have c1 : (w.alloc (.cells #[.slice a0 n0.length c0] 24)).cell? ⟨w.heap.size, 0, none⟩ = some (.slice a0 n0.length c0) := by go_simp
  have hBa := (Below.refl w.heap.size w).alloc (Nat.le_refl _) (.cells #[.slice a0 n0.length c0] 24)
  cases hf : fewB n0
  · have hF := Lib.hid (fun W hW => few_law a0 c0 n0 w W w0 hW false hf)
    clear hf w0
    go_enter Try.func5, Try.ntmps5
    go_wp2_with (first
      | (go_at_call 8; refine (hA.out _).mono ?_; rintro e w1 ⟨rfl, hb1⟩; have hB1 := below_step hBa hb1; have k1 := (hb1.cell (p := ⟨w.heap.size, 0, none⟩) (by simp)).trans c1)
      | (go_at_call 9; refine (hF.out _ hB1).mono ?_; rintro e w2 ⟨rfl, hb2⟩; have hB2 := below_step hB1 hb2))
    go_ret
    exact ⟨rfl, hB2⟩
  · have hF := Lib.hid (fun W hW => few_law a0 c0 n0 w W w0 hW true hf)
    cases hok : cluOk n0
    · have hN := Lib.hid (fun W (hW : Below w.heap.size w W) => new_bad a0 c0 n0 w W w0 hW hok)
      clear hf w0 hok
      go_enter Try.func5, Try.ntmps5
      go_wp2_with (first
        | (go_at_call 8; refine (hA.out _).mono ?_; rintro e w1 ⟨rfl, hb1⟩; have hB1 := below_step hBa hb1; have k1 := (hb1.cell (p := ⟨w.heap.size, 0, none⟩) (by simp)).trans c1)
        | (go_at_call 9; refine (hF.out _ hB1).mono ?_; rintro e w2 ⟨rfl, hb2⟩; have hB2 := below_step hB1 hb2; have k2 := (hb2.cell (p := ⟨w.heap.size, 0, none⟩) (by have := hb1.size; simp at this; simp; omega)).trans k1)
        | (go_at_call 10; refine (hN.out _ hB2).mono ?_; rintro e w3 ⟨rfl, hb3⟩; have hB3 := below_step hB2 hb3))
      go_ret
      exact ⟨rfl, hB3⟩
    · have hN := Lib.hid (fun W (hW : Below w.heap.size w W) => new_good a0 c0 n0 w W w0 hW hok)
      have hTt := Lib.hid (fun a W h => total_law a n0.length n0 hok W h)
      have hl := cluOk_len hok
      obtain ⟨ds0, hd0⟩ := get_lt (l := n0) (k := 0) (by omega)
      obtain ⟨b, off, rfl, hb, hc⟩ := w0.at_ hd0
      obtain ⟨n, hn⟩ : ∃ n, n0.length = n := ⟨_, rfl⟩
      rw [hn] at lc c1 hBa hF hN hTt hl ⊢
      have Q := Lib.hid (And.intro hn (And.intro hc hok))
      clear hf w0 hok hd0 hn hc
      unfold maxLen at mc
      go_enter Try.func5, Try.ntmps5
      go_wp2_with (first
        | (go_at_call 8; refine (hA.out _).mono ?_; rintro e w1 ⟨rfl, hb1⟩; have hB1 := below_step hBa hb1; have k1 := (hb1.cell (p := ⟨w.heap.size, 0, none⟩) (by simp)).trans c1; have s1 := hb1.size; simp at s1)
        | (go_at_call 9; refine (hF.out _ hB1).mono ?_; rintro e w2 ⟨rfl, hb2⟩; have hB2 := below_step hB1 hb2; have k2 := (hb2.cell (p := ⟨w.heap.size, 0, none⟩) (show w.heap.size < _ by omega)).trans k1; have s2 := hb2.size)
        | (go_at_call 10; refine (hN.out _ hB2).mono ?_; rintro e w3 ⟨a, rfl, hT3, hb3⟩; have HT3 := Lib.hid hT3; clear hT3; have hB3 := below_step hB2 hb3; have k3 := (hb3.cell (p := ⟨w.heap.size, 0, none⟩) (show w.heap.size < _ by omega)).trans k2; have s3 := hb3.size))
      have hBS := (Below.refl w3.heap.size w3).alloc (Nat.le_refl _) (.cells #[.int .i64 0, .int .i64 0] 41)
      have HS4 := Lib.hid (heap_alloc_new w3 (.cells #[.int .i64 0, .int .i64 0] 41))
      have hSw : w.heap.size < w3.heap.size := by omega
      generalize w3.alloc (.cells #[.int .i64 0, .int .i64 0] 41) = w4 at hBS HS4 ⊢
      obtain ⟨S, hS⟩ : ∃ S, S = w3.heap.size := ⟨_, rfl⟩
      rw [← hS] at HS4 hBS hSw ⊢
      have HSS := Lib.hid hS
      clear hS k1 k2 hb1 hb2 hb3 hB1 hB2 s1 s2 s3 c1 hBa hF hN hA
      have K3 := Lib.hid k3
      clear k3
      go_loopw [6] (fun i wr => ∃ (k G C : Nat), i = .int .i64 k ∧ k ≤ n ∧ Below S w3 wr ∧ Hid (G = gsum (frees (n0.take k))) ∧ Hid (C = csum (frees (n0.take k))) ∧ Hid (wr.heap[S]? = some (.cells #[.int .i64 (G : Nat), .int .i64 (C : Nat)] 41 (0, 0)))) (fun i _ => n - (intOf i).toNat)
      case atStart => exact ⟨0, 0, 0, rfl, by omega, hBS, Lib.hid (by simp [frees, gsum]), Lib.hid (by simp [frees, csum]), HS4⟩
      case round =>
        obtain ⟨k, G, C, rfl, hk, hB3r, hG, hC, hSr⟩ := hrel
        have hSl := blk_lt hSr.out
        have hBl : Below w.heap.size w wr := hB3.trans (hB3r.mono (by omega))
        have hbox := (hB3r.cell (p := ⟨w.heap.size, 0, none⟩) hSw).trans K3.out
        have hGb : G ≤ 1000000 ∧ C ≤ 1000000 := by
          obtain ⟨s1, s2⟩ := sums_le (frees (n0.take k)) (fun f hf => frees_take_ok Q.out.2.2 k hf)
          have := frees_take_len Q.out.2.2 k (by rw [Q.out.1]; exact hk)
          rw [hG.out, hC.out]; omega
        by_cases hlt : k < n
        · obtain ⟨ds, hx⟩ := get_lt (l := n0) (k := k) (by rw [Q.out.1]; exact hlt)
          have hnd := Q.out.2.1 k ds hx
          have hok := cluOk_node Q.out.2.2 hx
          have hN1 := Lib.hid (fun (W : World) (hW : Below w.heap.size w W) (c : Nat) => new_ok (some ⟨b, off + k, none⟩) c w.heap.size [ds] W (.inr ⟨b, off + k, rfl, hb, fun i x hi => by
            match i, hi with
            | 0, hi => simp at hi; subst hi; simpa using hnd.keep (B' := w.heap.size) hb hW (Nat.le_refl _)
            | i + 1, hi => simp at hi⟩) hW.size (cluOk_one hok))
          have hT1 := fun a W h => total_law a 1 [ds] (cluOk_one hok) W h
          have hK1 := Lib.hid (fun (a : Nat) (W : World) (h : TopoAt W a 1 (frees [ds])) => nodes_any a 1 _ W h)
          have t0 : decide (k < n) = true := by simpa using hlt
          have NG := frees_next hx
          have ng : gsum (frees (n0.take (k + 1))) = G + gsum (frees [ds]) := by rw [NG, gsum_append, hG.out, frees_one, gsum_node k 0]
          have nc : csum (frees (n0.take (k + 1))) = C + csum (frees [ds]) := by rw [NG, csum_append, hC.out, frees_one, csum_node k 0]
          have hgb : gsum (frees [ds]) ≤ 1000000 ∧ csum (frees [ds]) ≤ 1000000 := by
            obtain ⟨s1, s2⟩ := sums_le (frees [ds]) (frees_ok (cluOk_one hok))
            have := frees_len (cluOk_one hok)
            omega
          generalize gsum (frees [ds]) = Gs at hT1 ng hgb
          generalize csum (frees [ds]) = Cs at hT1 nc hgb
          have HT1 := Lib.hid hT1
          have N1 := Lib.hid ng
          have N2 := Lib.hid nc
          clear hx hnd hok NG ng nc hT1
          go_wp2_with (first
            | (go_at_call 10; refine (hN1.out _ hBl _).mono ?_; rintro e w5 ⟨a', rfl, hT5, hb5⟩; have HT5 := Lib.hid hT5; clear hT5)
            | (go_at_call 16; refine (hK1.out _ _ HT5.out).mono ?_; rintro e w' ⟨rfl, rfl⟩)
            | (go_at_call 17; refine (HT1.out _ _ HT5.out).mono ?_; rintro e w6 ⟨rfl, hb6⟩; have hb56 := below_step hb5 hb6; have b6 := (hb56.block S hSl).trans hSr.out; have x0 : w6.cell? ⟨S, 0, none⟩ = some (.int .i64 (G : Nat)) := cell_blk (i := 0) b6 rfl; have x1 : w6.cell? ⟨S, 1, none⟩ = some (.int .i64 (C : Nat)) := cell_blk (i := 1) b6 rfl; have z0 : w6.frozen? ⟨S, 0, none⟩ = false := frozen_blk b6; have z1 : w6.frozen? ⟨S, 1, none⟩ = false := frozen_blk b6; have hS6 := blk_lt b6; have B6 := Lib.hid b6; clear b6))
          go_roundw
          case rel =>
            refine ⟨k + 1, G + Gs, C + Cs, by go_num, by omega, ?_, Lib.hid N1.out.symm, Lib.hid N2.out.symm, Lib.hid ?_⟩
            · exact (((hB3r.trans (hb56.mono (by omega))).setCell (Nat.le_refl _) _).setCell (Nat.le_refl _) _).alloc (by simp; have := HSS.out; omega) _
            · refine (Below.heap_alloc _ _ _ (by simp; omega)).trans ?_
              have := blk_put (i := 1) (.int .i64 ((C : Int) + (Cs : Int))) (blk_put (i := 0) (.int .i64 ((G : Int) + (Gs : Int))) B6.out)
              simpa using this
          case measure => simp [intOf]; omega
        · obtain rfl : k = n := by omega
          have e : n0.take k = n0 := by rw [← Q.out.1]; exact List.take_length
          have hG' := hG.out
          have hC' := hC.out
          rw [e] at hG' hC'
          have hT3 := HT3.out.keep (by rw [← HSS.out]; exact hB3r)
          have hTf := hTt.out a wr.drew hT3
          rw [← hG', ← hC'] at hTf
          have hTF := Lib.hid hTf
          have x0 : wr.cell? ⟨S, 0, none⟩ = some (.int .i64 (G : Nat)) := cell_blk (i := 0) hSr.out rfl
          have x1 : wr.cell? ⟨S, 1, none⟩ = some (.int .i64 (C : Nat)) := cell_blk (i := 1) hSr.out rfl
          have q0 : ((G : Int) == (G : Int)) = true := by simp
          have q1 : ((C : Int) == (C : Int)) = true := by simp
          clear hlt e hG' hC' hT3 hTf
          go_wp2_with fail
          go_region_held3 (fun w' => w'.cell? ⟨S, 0, none⟩ = some (.int .i64 (G : Nat)) ∧ w'.cell? ⟨S, 1, none⟩ = some (.int .i64 (C : Nat))) (go_keep)
            (first
              | (go_at_call 17; (refine hTF.out.mono ?_); rintro e w6 ⟨rfl, hb6⟩; have y0 := (hb6.cell (p := ⟨S, 0, none⟩) hSl).trans x0; have y1 := (hb6.cell (p := ⟨S, 1, none⟩) hSl).trans x1))
          go_wp2
          go_ret
          exact ⟨rfl, below_step hBl.drew hb6⟩

set_option maxRecDepth 100000 in
theorem lifted (os : Os) (started : os.Started) (H : Type) (enc : TypeId × Value → H) :
    ReturnsInHanded {} Try.checked os 5 .any (Rows.topoPartsSpec.pre6 enc Try.prog Try.f5 Rows.topoPartsRow.domain false) (Rows.topoPartsSpec.post enc Try.prog Try.f5 false true false false) := by
  refine returnsInHanded_of_change (C := Try.checked) own started (by kernel_rfl) Try.func5
    (ChangeSpec.witness6 (enc := enc) (C := Try.checked) false ⟨#[], #[.agg #[.slice none 0 0]], []⟩ 8 (by kernel_rfl) (by kernel_rfl) (by kernel_rfl) (by kernel_rfl)) ?_
  intro W base args ds gs before hval0 hW _ _
  have hval : ∀ (j : Nat) t v, Try.f5.params[j]? = some t → args[j]? = some v → Value.okWide Try.prog W .any base t v := hval0
  have hW' := hW
  obtain ⟨p, q, hA0, hV, rfl, hfz, hnd⟩ := hW
  have hA : DataW.TrodAll enc Try.prog W 0 (fun _ => true) true Try.f5.params.toList args.toList ds p := hA0
  rw [Try.params5] at hA hval
  obtain ⟨v0, vs0, d0, ds0, p0, q0, hargs, rfl, rfl, h0, r0⟩ := trodAll_cons hA
  obtain ⟨rfl, rfl, rfl⟩ := trodAll_nil r0
  obtain rfl : args = #[v0] := by cases args; simp_all
  obtain ⟨rfl, rfl⟩ := trodVars_none hV
  have k0 := h0
  have lt0 : ∀ x ∈ p0, x.block < W.heap.size := by obtain ⟨m, hm⟩ := k0; exact DataW.trod_lt m _ _ _ hm
  obtain ⟨a0, c0, n0, rfl, lc0, mc0, w0⟩ := clu_of (hval 0 24 v0 rfl rfl) h0
  clear hA0 hval0
  refine (walk a0 c0 n0 W w0 lc0 mc0).mono fun e W' ⟨he, bel⟩ => ?_
  subst he
  exact ⟨_, rfl, _, _, _, [], _, [], hW', trodAll_mk1 (shut_bool Try.underlying4 _), (trodAll_cons_mk (Below.trod laidOut (by kernel_rfl) (of_decide_eq_true (by kernel_rfl)) k0 bel lt0) trodAll_mk0), rfl, bel.frame _, fun h => by cases h⟩

/-- THE STATEMENT. -/
theorem holds : Rows.TopoPartsSaid :=
  OpenClaim.holds_of_wide 5 Try.f5 rfl rfl rfl rfl rfl rfl rfl ⟨rfl, rfl, rfl, rfl, rfl⟩ rfl rfl rfl rfl rfl (by kernel_rfl) Try.func5 (by kernel_rfl)
    (of_decide_eq_true (by kernel_rfl)) (by unfold Func.isWrapper; first | (rw [if_pos (by decide +kernel)]; kernel_rfl) | (rw [if_neg (by decide +kernel)]; exact ⟨rfl, rfl⟩))
    (fun os started H enc _ => lifted os started H enc)
end Go.Proofs.Ytbabnhicdobmdaa.topoParts
