/- A ledger is made just of a cluster and quotas that may be: the law LedgerMakes answers true, at every input. -/
import Derived.Laws.StructEq
import Derived.Test.YtbcldamfekejgaaLedCallz
import Derived.Test.YtbcldamfekejgaaQuotaRef
import Derived.Test.YtbcldamfekejgaaTopoFrame
set_option linter.unusedVariables false
namespace Go.Proofs.Ytbcldamfekejgaa.ledgerMakes
open Go Go.ChangeShapes Go.WideShapes Go.ChangeAt Go.RowKit
open Go.MuLone
set_option maxRecDepth 100000 in
set_option maxHeartbeats 4000000 in
theorem walk (a0 : Option Addr) (c0 : Nat) (n0 : List (List (Int × Int))) (a1 : Option Addr) (c1 : Nat) (l1 : List Un) (w : World) (w0 : Nodes w w.heap.size a0 n0) (lc0 : n0.length ≤ c0) (mc0 : c0 ≤ maxLen)
    (v1 : Uns w w.heap.size a1 l1) (q1 : ∀ a ∈ l1, UnW a) (lc1 : l1.length ≤ c1) (mc1 : c1 ≤ maxLen) :
    Calls Try.prog 3 #[.agg #[.slice a0 n0.length c0], .slice a1 l1.length c1] w fun e w' => e = .returned (.bool true) ∧ Below w.heap.size w w' := by
  have hA := Lib.hid awake_l
  obtain ⟨m, hm⟩ : ∃ m, n0.length = m := ⟨_, rfl⟩
  obtain ⟨k, hk⟩ : ∃ k, l1.length = k := ⟨_, rfl⟩
  have hN := fun W (hW : Below w.heap.size w W) => lnew_l a0 a1 c0 c1 n0 l1 W (Nodes.keep w0 hW hW.size) (v1.keep hW hW.size)
  have hRt := fun W (hW : Below w.heap.size w W) (r : Bool) (hr : cluOk n0 = r) => right_any a0 c0 w.heap.size n0 W (Nodes.keep w0 hW (Nat.le_refl _)) hW.size r hr
  have hQt := fun W (hW : Below w.heap.size w W) => right_q a1 c1 w.heap.size l1 W (v1.keep hW (Nat.le_refl _)) hW.size
  rw [hm, hk] at hN
  rw [hm] at hRt ⊢
  rw [hk] at hQt ⊢
  have k0 : (w.alloc (.cells #[.slice a0 m c0] 24)).cell? ⟨w.heap.size, 0, none⟩ = some (.slice a0 m c0) := by go_simp
  have hBa := (Below.refl w.heap.size w).alloc (Nat.le_refl _) (.cells #[.slice a0 m c0] 24)
  by_cases h40 : 40 < m
  · have t0 : decide ((m : Int) > 40) = true := decide_eq_true (by omega)
    have t1 : decide ((40 : Int) < (m : Int)) = true := decide_eq_true (by omega)
    clear hN hRt hQt w0 v1 q1 hm hk lc0 mc0 lc1 mc1
    go_enter Try.func3, Try.ntmps3
    go_wp2_with (go_at_call 4; refine (hA.out _).mono ?_; rintro e w2 ⟨rfl, hb2⟩; have hB2 := below_step hBa hb2; have k2 := (hb2.cell (p := ⟨w.heap.size, 0, none⟩) (by simp)).trans k0; have s2 := hb2.size; simp at s2)
    go_ret
    exact ⟨rfl, hB2⟩
  have t0 : decide ((m : Int) > 40) = false := decide_eq_false (by omega)
  have t1 : decide ((40 : Int) < (m : Int)) = false := decide_eq_false (by omega)
  by_cases h100 : 100 < k
  · have t2 : decide ((k : Int) > 100) = true := decide_eq_true (by omega)
    have t3 : decide ((100 : Int) < (k : Int)) = true := decide_eq_true (by omega)
    clear hN hRt hQt w0 v1 q1 hm hk lc0 mc0 lc1 mc1
    go_enter Try.func3, Try.ntmps3
    go_wp2_with (go_at_call 4; refine (hA.out _).mono ?_; rintro e w2 ⟨rfl, hb2⟩; have hB2 := below_step hBa hb2; have k2 := (hb2.cell (p := ⟨w.heap.size, 0, none⟩) (by simp)).trans k0; have s2 := hb2.size; simp at s2)
    go_ret
    exact ⟨rfl, hB2⟩
  have t2 : decide ((k : Int) > 100) = false := decide_eq_false (by omega)
  have t3 : decide ((100 : Int) < (k : Int)) = false := decide_eq_false (by omega)
  cases hc : cluOk n0
  · have hN2 := Lib.hid (fun W hW => (hN W hW).mono fun e w' (hl : LNew n0 l1 W e w') => show e = .returned (.tuple #[.pointer none, .int .i64 1]) ∧ Below W.heap.size W w' from by
      rcases hl.2 with ⟨_, h2⟩ | ⟨h2, _⟩
      · exact ⟨h2, hl.1⟩
      · rw [hc] at h2; cases h2)
    have hR := Lib.hid (fun W hW => hRt W hW false hc)
    clear hN hRt hQt w0 v1 q1 hm hk lc0 mc0 lc1 mc1 hc
    go_enter Try.func3, Try.ntmps3
    go_wp2_with (first
      | (go_at_call 4; refine (hA.out _).mono ?_; rintro e w2 ⟨rfl, hb2⟩; have hB2 := below_step hBa hb2; have k2 := (hb2.cell (p := ⟨w.heap.size, 0, none⟩) (by simp)).trans k0; have s2 := hb2.size; simp at s2)
      | (go_at_call 5; refine (hN2.out _ hB2).mono ?_; rintro e w3 ⟨rfl, hb3⟩; have hB3 := below_step hB2 hb3; have k3 := (hb3.cell (p := ⟨w.heap.size, 0, none⟩) (show w.heap.size < _ by omega)).trans k2; have s3 := hb3.size)
      | (go_at_call 6; refine (hR.out _ hB3).mono ?_; rintro e w4 ⟨rfl, hb4⟩; have hB4 := below_step hB3 hb4))
    go_ret
    exact ⟨rfl, hB4⟩
  have hR := Lib.hid (fun W hW => hRt W hW true hc)
  cases hq : quotasOk l1
  · have hN2 := Lib.hid (fun W hW => (hN W hW).mono fun e w' (hl : LNew n0 l1 W e w') => show e = .returned (.tuple #[.pointer none, .int .i64 1]) ∧ Below W.heap.size W w' from by
      rcases hl.2 with ⟨_, h2⟩ | ⟨_, h2, _⟩
      · exact ⟨h2, hl.1⟩
      · rw [hq] at h2; cases h2)
    rw [hq] at hQt
    have hQ := Lib.hid hQt
    clear hN hRt hQt w0 v1 q1 hm hk lc0 mc0 lc1 mc1 hc hq
    go_enter Try.func3, Try.ntmps3
    go_wp2_with (first
      | (go_at_call 4; refine (hA.out _).mono ?_; rintro e w2 ⟨rfl, hb2⟩; have hB2 := below_step hBa hb2; have k2 := (hb2.cell (p := ⟨w.heap.size, 0, none⟩) (by simp)).trans k0; have s2 := hb2.size; simp at s2)
      | (go_at_call 5; refine (hN2.out _ hB2).mono ?_; rintro e w3 ⟨rfl, hb3⟩; have hB3 := below_step hB2 hb3; have k3 := (hb3.cell (p := ⟨w.heap.size, 0, none⟩) (show w.heap.size < _ by omega)).trans k2; have s3 := hb3.size)
      | (go_at_call 6; refine (hR.out _ hB3).mono ?_; rintro e w4 ⟨rfl, hb4⟩; have hB4 := below_step hB3 hb4)
      | (go_at_call 7; refine (hQ.out _ hB4).mono ?_; rintro e w5 ⟨rfl, hb5⟩; have hB5 := below_step hB4 hb5))
    go_ret
    exact ⟨rfl, hB5⟩
  rw [hq] at hQt
  have hQ := Lib.hid hQt
  have hS : (LM.init n0 l1).ver = 0 ∧ (LM.init n0 l1).hs = [] ∧ (LM.init n0 l1).dr.length = m := ⟨rfl, rfl, by simp only [LM.init, List.length_replicate]; exact hm⟩
  have hN2 := fun W hW => (hN W hW).mono fun e w' (hl : LNew n0 l1 W e w') => show ∃ p F, e = .returned (.tuple #[.pointer (some ⟨p, 0, none⟩), .int .i64 0]) ∧ LIn w w' p F (frees n0) (LM.init n0 l1) ∧ Below W.heap.size W w' from by
    rcases hl.2 with ⟨h2 | h2, _⟩ | ⟨_, _, p, F, he, ho, hF⟩
    · rw [hc] at h2; cases h2
    · rw [hq] at h2; cases h2
    · exact ⟨p, F, he, .made hW ho hF hl.1, hl.1⟩
  obtain ⟨st, hst⟩ : ∃ st, st = LM.init n0 l1 := ⟨_, rfl⟩
  rw [← hst] at hS hN2
  have HN2 := Lib.hid hN2
  have HS := Lib.hid hS
  clear hN hN2 hRt hQt w0 v1 q1 hm hk lc0 mc0 lc1 mc1 hc hq hS hst
  go_enter Try.func3, Try.ntmps3
  go_wp2_with (first
    | (go_at_call 4; refine (hA.out _).mono ?_; rintro e w2 ⟨rfl, hb2⟩; have hB2 := below_step hBa hb2; have k2 := (hb2.cell (p := ⟨w.heap.size, 0, none⟩) (by simp)).trans k0; have s2 := hb2.size; simp at s2)
    | (go_at_call 5; refine (HN2.out _ hB2).mono ?_; rintro e w3 ⟨p, F, rfl, hl3, hb3⟩; have HL3 := Lib.hid hl3; have hB3 := hl3.bel; have k3 := (hb3.cell (p := ⟨w.heap.size, 0, none⟩) (show w.heap.size < _ by omega)).trans k2; have s3 := hb3.size; clear hl3)
    | (go_at_call 6; refine (hR.out _ hB3).mono ?_; rintro e w4 ⟨rfl, hb4⟩; have hB4 := below_step hB3 hb4; have HL4 := Lib.hid (HL3.out.keep hb4); have k4 := (hb4.cell (p := ⟨w.heap.size, 0, none⟩) (show w.heap.size < _ by omega)).trans k3; have s4 := hb4.size)
    | (go_at_call 7; refine (hQ.out _ hB4).mono ?_; rintro e w5 ⟨rfl, hb5⟩; have hB5 := below_step hB4 hb5; have HL5 := Lib.hid ((HL4.out.keep hb5).keep (Below.refl _ _).drew); have k5 := (hb5.cell (p := ⟨w.heap.size, 0, none⟩) (show w.heap.size < _ by omega)).trans k4; have s5 := hb5.size))
  have lw5 : w.heap.size < w5.heap.size := by omega
  clear k0 k2 k3 k4 hb2 hb3 hb4 hb5 s2 s3 s4 s5 hB2 hB3 hB4 hB5 hBa
  go_region_held3 (fun w' => w'.cell? ⟨w.heap.size, 0, none⟩ = some (.slice a0 m c0))
    (go_keep)
    (first
      | (go_at_call 8; refine (version_l HL5.out.at_).mono ?_; rintro e w6 ⟨rfl, hb6⟩; have hC6 : Below w5.heap.size w5 w6 := below_step (Below.refl w5.heap.size w5).drew hb6; have k6 := (hC6.cell (p := ⟨w.heap.size, 0, none⟩) lw5).trans k5; have s6 := hC6.size; have HL6 := Lib.hid (HL5.out.keep hb6); clear hb6 hC6; rw [HS.out.1])
      | (go_at_call 9; refine (holds_l HL6.out.at_ (by rw [HS.out.2.1]; decide)).mono ?_; rintro e w7 ⟨A7, c7, G7, rfl, _, _, hb7⟩; have k7 := (hb7.cell (p := ⟨w.heap.size, 0, none⟩) (show w.heap.size < _ by omega)).trans k6; have s7 := hb7.size; have HL7 := Lib.hid (HL6.out.keep hb7); clear hb7; rw [HS.out.2.1])
      | (go_at_call 10; refine (drained_l HL7.out.at_).mono ?_; rintro e w8 ⟨A8, c8, rfl, _, _, hb8⟩; have k8 := (hb8.cell (p := ⟨w.heap.size, 0, none⟩) (show w.heap.size < _ by omega)).trans k7; have HL8 := Lib.hid (HL7.out.keep hb8); clear hb8; rw [HS.out.2.2]))
  go_wp2
  go_ret
  exact ⟨rfl, HL8.out.bel⟩

set_option maxRecDepth 100000 in
set_option maxHeartbeats 1000000 in
theorem lifted (os : Os) (started : os.Started) (H : Type) (enc : TypeId × Value → H) :
    ReturnsInHanded {} Try.checked os 3 .any (Rows.ledgerMakesSpec.pre6 enc Try.prog Try.f3 Rows.ledgerMakesRow.domain false) (Rows.ledgerMakesSpec.post enc Try.prog Try.f3 false true false false) := by
  refine returnsInHanded_of_change (C := Try.checked) own started (by kernel_rfl) Try.func3
    (ChangeSpec.witness6 (enc := enc) (C := Try.checked) false ⟨#[], #[.agg #[.slice none 0 0], .slice none 0 0], []⟩ 8 (by kernel_rfl) (by kernel_rfl) (by kernel_rfl) (by kernel_rfl)) ?_
  intro W base args ds gs before hval0 hW _ _
  have hval : ∀ (j : Nat) t v, Try.f3.params[j]? = some t → args[j]? = some v → Value.okWide Try.prog W .any base t v := hval0
  have hW' := hW
  obtain ⟨p, q, hA0, hV, rfl, hfz, hnd⟩ := hW
  have hA : DataW.TrodAll enc Try.prog W 0 (fun _ => true) true Try.f3.params.toList args.toList ds p := hA0
  rw [Try.params3] at hA hval
  obtain ⟨v0, vs0, d0, ds0, p0, q0, hargs, rfl, rfl, h0, r0⟩ := trodAll_cons hA
  obtain ⟨v1, vs1, d1, ds1, p1, q1, rfl, rfl, rfl, h1, r1⟩ := trodAll_cons r0
  obtain ⟨rfl, rfl, rfl⟩ := trodAll_nil r1
  obtain rfl : args = #[v0, v1] := by cases args; simp_all
  obtain ⟨rfl, rfl⟩ := trodVars_none hV
  have k0 := h0
  have lt0 : ∀ x ∈ p0, x.block < W.heap.size := by obtain ⟨m, hm⟩ := k0; exact DataW.trod_lt m _ _ _ hm
  obtain ⟨a0, c0, n0, rfl, lc0, mc0, w0⟩ := clu_of (hval 0 24 v0 rfl rfl) h0
  have k1 := h1
  have lt1 : ∀ x ∈ p1, x.block < W.heap.size := by obtain ⟨m, hm⟩ := k1; exact DataW.trod_lt m _ _ _ hm
  obtain ⟨a1, c1, l1, rfl, lc1, mc1, v1, q1⟩ := uns_of (hval 1 25 v1 rfl rfl) h1
  clear hA0 hval0
  refine (walk a0 c0 n0 a1 c1 l1 W w0 lc0 mc0 v1 q1 lc1 mc1).mono fun e W' ⟨he, bel⟩ => ?_
  subst he
  exact ⟨_, rfl, _, _, _, [], _, [], hW', trodAll_mk1 (shut_bool Try.underlying4 _), (trodAll_cons_mk (Below.trod laidOut (by kernel_rfl) (of_decide_eq_true (by kernel_rfl)) k0 bel lt0) (trodAll_cons_mk (Below.trod laidOut (by kernel_rfl) (of_decide_eq_true (by kernel_rfl)) k1 bel lt1) trodAll_mk0)), rfl, bel.frame _, fun h => by cases h⟩

/-- THE STATEMENT. -/
theorem holds : Rows.LedgerMakesSaid :=
  OpenClaim.holds_of_wide 3 Try.f3 rfl rfl rfl rfl rfl rfl rfl ⟨rfl, rfl, rfl, rfl, rfl⟩ rfl rfl rfl rfl rfl (by kernel_rfl) Try.func3 (by kernel_rfl)
    (of_decide_eq_true (by kernel_rfl)) (by unfold Func.isWrapper; first | (rw [if_pos (by decide +kernel)]; kernel_rfl) | (rw [if_neg (by decide +kernel)]; exact ⟨rfl, rfl⟩))
    (fun os started H enc _ => lifted os started H enc)
end Go.Proofs.Ytbcldamfekejgaa.ledgerMakes
