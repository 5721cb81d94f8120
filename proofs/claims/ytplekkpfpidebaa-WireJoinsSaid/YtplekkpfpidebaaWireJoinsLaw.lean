/- Entries of two pieces of bytes, one behind the other, are those of the first, if it isn't cut through, then those of the second, so much further on: the law WireJoins answers true, at all strings. -/
import Derived.Test.YtplekkpfpidebaaWireIn
set_option maxRecDepth 100000
set_option linter.unusedVariables false
namespace Go.Proofs.Ytplekkpfpidebaa.wireJoins
open Go Go.ChangeShapes Go.WideShapes Go.ChangeAt Go.RowKit
attribute [local go_sem] bs_size bs_list bs_app
theorem entL_t : ∀ (f : Nat) (l : List UInt8) (t : Nat) (x : WM.We), l.length ≤ f → x ∈ WM.entL t l → (t : Int) ≤ x.t ∧ x.t < t + l.length ∧ (x.e = 0 ∨ x.e = 10 ∨ x.e = 11) := by
  intro f
  induction f with
  | zero =>
    intro l t x hl hx
    obtain rfl : l = [] := List.length_eq_zero_iff.1 (Nat.le_zero.1 hl)
    simp [WM.entL_nil] at hx
  | succ f ih =>
    intro l t x hl hx
    cases l with
    | nil => simp [WM.entL_nil] at hx
    | cons k r =>
      simp only [List.length_cons] at hl ⊢
      cases hs : WM.size k.toNat with
      | none =>
        rw [WM.entL_bad hs] at hx
        rcases List.mem_cons.1 hx with rfl | hx
        · simp; omega
        · have := ih r (t + 1) x (by omega) hx
          omega
      | some n =>
        by_cases hr : r.length < n
        · rw [WM.entL_short hs hr] at hx
          rw [List.mem_singleton.1 hx]; simp; omega
        · rw [WM.entL_ok hs (Nat.le_of_not_lt hr)] at hx
          rcases List.mem_cons.1 hx with rfl | hx
          · simp; omega
          · have := ih (r.drop n) (t + 1 + n) x (by simp; omega) hx
            simp at this
            omega
theorem entL_at {L : List WM.We} {l : List UInt8} {k : Nat} {x : WM.We} (h : L = WM.entL 0 l) (hx : L[k]? = some x) : 0 ≤ x.t ∧ x.t < l.length := by
  have := entL_t l.length l 0 x (Nat.le_refl _) (by rw [← h]; exact List.mem_of_getElem? hx)
  omega
set_option maxHeartbeats 4000000 in
theorem walk (s0 s1 : ByteArray) (w : World) (z0 : s0.size ≤ maxLen) (z1 : s1.size ≤ maxLen) :
    Calls Try.prog 7 #[.string s0, .string s1] w fun e w' => e = .returned (.bool true) ∧ Below w.heap.size w w' := by
  obtain ⟨l0, rfl⟩ := bs_of s0
  obtain ⟨l1, rfl⟩ := bs_of s1
  obtain ⟨m0, hm0⟩ : ∃ m, m = l0.length := ⟨_, rfl⟩
  obtain ⟨m1, hm1⟩ : ∃ m, m = l1.length := ⟨_, rfl⟩
  rw [bs_size, ← hm0] at z0
  rw [bs_size, ← hm1] at z1
  have hs0 : (bs l0).size = m0 := by rw [bs_size, hm0]
  have hs1 : (bs l1).size = m1 := by rw [bs_size, hm1]
  have HM := Lib.hid (And.intro hm0 hm1)
  unfold maxLen at z0 z1
  clear hm0 hm1
  have hAw := Lib.hid (fun W => awake17_any W)
  go_enter Try.func7, Try.ntmps7
  go_wp2_with fail
  refine (hAw.out w).mono ?_
  rintro e w1 ⟨rfl, hb1⟩
  have HB1 := Lib.hid hb1
  clear hb1 hAw
  by_cases h0 : 2000 < m0
  · have t0 : decide ((2000 : Int) < m0) = true := decide_eq_true (by omega)
    go_wp2_with fail
    go_ret
    exact ⟨rfl, HB1.out⟩
  by_cases h1 : 2000 < m1
  · have t0 : decide ((2000 : Int) < m0) = false := decide_eq_false (by omega)
    have t1 : decide ((2000 : Int) < m1) = true := decide_eq_true (by omega)
    go_wp2_with fail
    go_ret
    exact ⟨rfl, HB1.out⟩
  have t0 : decide ((2000 : Int) < m0) = false := decide_eq_false (by omega)
  have t1 : decide ((2000 : Int) < m1) = false := decide_eq_false (by omega)
  go_wp2_with fail
  refine (entries_any l0 (by have := HM.out; omega) w1).mono ?_
  rintro e w2 ⟨A2, c2, rfl, HR2, hb2⟩
  have HB2 := Lib.hid (HB1.out.trans (hb2.mono HB1.out.size))
  have HE2 : Hid (Els enC 12 w2 w2.heap.size A2 (WM.entL 0 l0)) := Lib.hid HR2.out.1
  clear hb2 HR2 HB1
  obtain ⟨La, hLa⟩ : ∃ La, La = WM.entL 0 l0 := ⟨_, rfl⟩
  rw [← hLa] at HE2 ⊢
  obtain ⟨na, hna⟩ : ∃ na, na = La.length := ⟨_, rfl⟩
  rw [← hna]
  have HLa := Lib.hid (And.intro hLa hna)
  clear hLa hna
  go_wp2_with fail
  refine (entries_any l1 (by have := HM.out; omega) w2).mono ?_
  rintro e w3 ⟨A3, c3, rfl, HR3, hb3⟩
  have HB3 := Lib.hid (HB2.out.trans (hb3.mono HB2.out.size))
  have HE3 : Hid (Els enC 12 w3 w3.heap.size A3 (WM.entL 0 l1)) := Lib.hid HR3.out.1
  replace HE2 : Hid (Els enC 12 w3 w3.heap.size A2 La) := Lib.hid (HE2.out.keep hb3 hb3.size)
  clear hb3 HR3 HB2
  obtain ⟨Lb, hLb⟩ : ∃ Lb, Lb = WM.entL 0 l1 := ⟨_, rfl⟩
  rw [← hLb] at HE3 ⊢
  obtain ⟨nb, hnb⟩ : ∃ nb, nb = Lb.length := ⟨_, rfl⟩
  rw [← hnb]
  have HLb := Lib.hid (And.intro hLb hnb)
  clear hLb hnb
  go_wp2_with fail
  refine (entries_any (l0 ++ l1) (by rw [List.length_append]; have := HM.out; omega) w3).mono ?_
  rintro e w4 ⟨A4, c4, rfl, HR4, hb4⟩
  have HB4 := Lib.hid (HB3.out.trans (hb4.mono HB3.out.size))
  have HE4 : Hid (Els enC 12 w4 w4.heap.size A4 (WM.entL 0 (l0 ++ l1))) := Lib.hid HR4.out.1
  replace HE2 : Hid (Els enC 12 w4 w4.heap.size A2 La) := Lib.hid (HE2.out.keep hb4 hb4.size)
  replace HE3 : Hid (Els enC 12 w4 w4.heap.size A3 Lb) := Lib.hid (HE3.out.keep hb4 hb4.size)
  clear hb4 HR4 HB3
  obtain ⟨Lc, hLc⟩ : ∃ Lc, Lc = WM.entL 0 (l0 ++ l1) := ⟨_, rfl⟩
  rw [← hLc] at HE4 ⊢
  obtain ⟨nc, hnc⟩ : ∃ nc, nc = Lc.length := ⟨_, rfl⟩
  rw [← hnc]
  have HLc := Lib.hid (And.intro hLc hnc)
  clear hLc hnc
  have hnal : na ≤ m0 := by
    have h9 := WM.entL_len l0.length 0 l0
    have h8 := HLa.out
    have h7 := HM.out.1
    have h6 : (WM.entL 0 l0).length ≤ l0.length := h9
    rw [h8.2, h8.1, h7]; exact h6
  have key : (∀ x ∈ La, x.e ≠ 11) ∨ ∃ x, 0 < na ∧ La[na - 1]? = some x ∧ x.e = 11 := by
    by_cases h : ∃ x ∈ La, x.e = 11
    · obtain ⟨x, hx, he⟩ := h
      have h9 := short_last l0.length l0 0 x (Nat.le_refl _) (by rw [← HLa.out.1]; exact hx) he
      rw [← HLa.out.1] at h9
      rw [List.getLast?_eq_getElem?, ← HLa.out.2] at h9
      right
      refine ⟨x, ?_, h9, he⟩
      have := List.length_pos_of_mem hx
      have := HLa.out.2
      omega
    · left
      intro x hx he
      exact h ⟨x, hx, he⟩
  rcases key with hall | ⟨x, hna0, hx, he⟩
  · have HC : Hid (Lc = La ++ Lb.map (WM.We.shift m0)) := Lib.hid (by
      rw [HLc.out.1, WM.entL_join l0.length l0 l1 0 (Nat.le_refl _) (by rw [← HLa.out.1]; exact hall), ← HLa.out.1, HLb.out.1, ← HM.out.1, WM.entL_shift l1.length l1 0 m0 (Nat.le_refl _)])
    have hnc : nc = na + nb := by rw [HLc.out.2, HC.out, HLa.out.2, HLb.out.2]; simp
    have Hall := Lib.hid hall
    clear hall
    have hlast : na = 0 ∨ ∃ x, 0 < na ∧ La[na - 1]? = some x ∧ (x.e == 11) = false := by
      by_cases h : na = 0
      · exact .inl h
      · right
        obtain ⟨x, hx⟩ := get_lt (l := La) (k := na - 1) (by have := HLa.out.2; omega)
        exact ⟨x, by omega, hx, by simpa using Hall.out x (List.mem_of_getElem? hx)⟩
    have HNC := Lib.hid hnc
    have hnc2 : (nc : Int) = (na : Int) + nb := by omega
    have hncl : nc ≤ 4000 := by
      have h9 : (WM.entL 0 (l0 ++ l1)).length ≤ (l0 ++ l1).length := WM.entL_len _ 0 _
      rw [← HLc.out.1, ← HLc.out.2, List.length_append, ← HM.out.1, ← HM.out.2] at h9
      omega
    have u9 : ((nc : Int) != (na : Int) + nb) = false := by simp [hnc2]
    have hw9 : IntKind.i64.wrap ((na : Int) + nb) = (na : Int) + nb := IntWalk.i64_in _ (by omega)
    clear hnc hnc2
    rcases hlast with hna0 | ⟨x, hna0, hx, he⟩
    have u0 : decide (0 < na) = false := decide_eq_false (by omega)
    have u1 : ¬ 0 < na := by omega
    clear hna0
    go_wp2_with fail
    rotate_left
    obtain ⟨b, off, rfl, hb, hc⟩ := HE2.out.at_ hx
    have x10 := hc _ x hx 10 _ rfl
    have u0 : decide ((0 : Int) < na) = true := decide_eq_true (by omega)
    clear hc hx
    obtain ⟨k1, hk1⟩ : ∃ k1, na = k1 + 1 := ⟨na - 1, by omega⟩
    have hna2 : IntKind.i64.wrap ((na : Int) - 1) = (k1 : Int) := by rw [IntWalk.i64_in _ (by omega)]; omega
    have hna3 : k1 < na := by omega
    have hna4 : (na : Int) - 1 = k1 := by omega
    rw [show na - 1 = k1 by omega] at x10
    clear hna0 hk1
    go_simp
    go_wp2_with fail
    all_goals
      go_loopw [8] (fun i wr => ∃ k : Nat, i = .int .i64 k ∧ k ≤ nc ∧ Hid (Below w.heap.size w wr) ∧ Hid (Below w4.heap.size w4 wr)) (fun i _ => nc - (intOf i).toNat)
      case atStart => exact ⟨0, rfl, Nat.zero_le _, HB4, Lib.hid (Below.refl _ _)⟩
      case round =>
        obtain ⟨k, rfl, hk, hBw, hB4w⟩ := hrel
        have hF4 := hB4w.out
        by_cases hlt : k < nc
        · obtain ⟨x, hx⟩ := get_lt (l := Lc) (k := k) (by rw [← HLc.out.2]; exact hlt)
          obtain ⟨b, off, eA4, hb, hc⟩ := HE4.out.at_ hx
          subst eA4
          have x0 := (hF4.cell (p := ⟨b, off + k * 12, none⟩) hb).trans (hc k _ hx 0 _ rfl)
          have x1 := (hF4.cell (p := ⟨b, off + k * 12 + 1, none⟩) hb).trans (hc k _ hx 1 _ rfl)
          have x2 := (hF4.cell (p := ⟨b, off + k * 12 + 2, none⟩) hb).trans (hc k _ hx 2 _ rfl)
          have x3 := (hF4.cell (p := ⟨b, off + k * 12 + 3, none⟩) hb).trans (hc k _ hx 3 _ rfl)
          have x4 := (hF4.cell (p := ⟨b, off + k * 12 + 4, none⟩) hb).trans (hc k _ hx 4 _ rfl)
          have x5 := (hF4.cell (p := ⟨b, off + k * 12 + 5, none⟩) hb).trans (hc k _ hx 5 _ rfl)
          have x6 := (hF4.cell (p := ⟨b, off + k * 12 + 6, none⟩) hb).trans (hc k _ hx 6 _ rfl)
          have x7 := (hF4.cell (p := ⟨b, off + k * 12 + 7, none⟩) hb).trans (hc k _ hx 7 _ rfl)
          have x8 := (hF4.cell (p := ⟨b, off + k * 12 + 8, none⟩) hb).trans (hc k _ hx 8 _ rfl)
          have x9 := (hF4.cell (p := ⟨b, off + k * 12 + 9, none⟩) hb).trans (hc k _ hx 9 _ rfl)
          have x10 := (hF4.cell (p := ⟨b, off + k * 12 + 10, none⟩) hb).trans (hc k _ hx 10 _ rfl)
          have x11 := (hF4.cell (p := ⟨b, off + k * 12 + 11, none⟩) hb).trans (hc k _ hx 11 _ rfl)
          by_cases hka : k < na
          · have hy : La[k]? = some x := by rw [HC.out, List.getElem?_append_left (by rw [← HLa.out.2]; exact hka)] at hx; exact hx
            obtain ⟨b2, off2, eA2, hb2, hc2⟩ := HE2.out.at_ hy
            have hA2 := Lib.hid eA2
            have y0 := (hF4.cell (p := ⟨b2, off2 + k * 12, none⟩) hb2).trans (hc2 k _ hy 0 _ rfl)
            have y1 := (hF4.cell (p := ⟨b2, off2 + k * 12 + 1, none⟩) hb2).trans (hc2 k _ hy 1 _ rfl)
            have y2 := (hF4.cell (p := ⟨b2, off2 + k * 12 + 2, none⟩) hb2).trans (hc2 k _ hy 2 _ rfl)
            have y3 := (hF4.cell (p := ⟨b2, off2 + k * 12 + 3, none⟩) hb2).trans (hc2 k _ hy 3 _ rfl)
            have y4 := (hF4.cell (p := ⟨b2, off2 + k * 12 + 4, none⟩) hb2).trans (hc2 k _ hy 4 _ rfl)
            have y5 := (hF4.cell (p := ⟨b2, off2 + k * 12 + 5, none⟩) hb2).trans (hc2 k _ hy 5 _ rfl)
            have y6 := (hF4.cell (p := ⟨b2, off2 + k * 12 + 6, none⟩) hb2).trans (hc2 k _ hy 6 _ rfl)
            have y7 := (hF4.cell (p := ⟨b2, off2 + k * 12 + 7, none⟩) hb2).trans (hc2 k _ hy 7 _ rfl)
            have y8 := (hF4.cell (p := ⟨b2, off2 + k * 12 + 8, none⟩) hb2).trans (hc2 k _ hy 8 _ rfl)
            have y9 := (hF4.cell (p := ⟨b2, off2 + k * 12 + 9, none⟩) hb2).trans (hc2 k _ hy 9 _ rfl)
            have y10 := (hF4.cell (p := ⟨b2, off2 + k * 12 + 10, none⟩) hb2).trans (hc2 k _ hy 10 _ rfl)
            have y11 := (hF4.cell (p := ⟨b2, off2 + k * 12 + 11, none⟩) hb2).trans (hc2 k _ hy 11 _ rfl)
            have u2 : decide ((k : Int) < na) = true := decide_eq_true (by omega)
            simp only [eA2]
            clear hc hc2 hx hy hF4 hb hb2 hA2
            go_wp2_with fail
            go_quiet (fail)
            go_wp2_with fail
            exact ⟨⟨k + 1, by go_num, by omega, Lib.hid (below_drewN hBw.out _), Lib.hid (below_drewN hB4w.out _)⟩, by simp [intOf]; omega⟩
          · have hy0 : (Lb.map (WM.We.shift m0))[k - na]? = some x := by rw [HC.out, List.getElem?_append_right (by rw [← HLa.out.2]; omega), ← HLa.out.2] at hx; exact hx
            rw [List.getElem?_map] at hy0
            obtain ⟨y, hy, hyx⟩ := Option.map_eq_some_iff.1 hy0
            obtain ⟨b2, off2, eA3, hb2, hc2⟩ := HE3.out.at_ hy
            have hcy : CellsAt wr b2 (off2 + (k - na) * 12) (enC y) := (hc2 _ y hy).of (hF4.block b2 hb2)
            have hyt := entL_at HLb.out.1 hy
            rw [← HM.out.2] at hyt
            obtain ⟨ya, ye, yt⟩ := y
            unfold WM.We.shift at hyx
            simp only at hyx hyt
            subst hyx
            simp only at x0 x1 x2 x3 x4 x5 x6 x7 x8 x9 x10 x11
            have hwt : wrap64 (yt + m0) = yt + m0 := IntWalk.wrap64_in _ (by omega)
            have hbw : b < wr.heap.size := Nat.lt_of_lt_of_le hb hF4.size
            have hbne : b ≠ wr.heap.size := by omega
            have Hcy := Lib.hid hcy
            have u2 : decide ((k : Int) < na) = false := decide_eq_false (by omega)
            have hkn1 : ((k : Int) - na) = ((k - na : Nat) : Int) := by omega
            have hkn2 : IntKind.i64.wrap ((k : Int) - na) = ((k - na : Nat) : Int) := by rw [IntWalk.i64_in _ (by omega)]; omega
            have hkn3 : k - na < nb := by have := HNC.out; omega
            simp only [eA3]
            clear hc hc2 hx hy hF4 hb hb2 hcy hy0
            go_wp2_with (refine wpList_load_en rfl _ rfl b2 (off2 + (k - na) * 12) _ rfl Hcy.out ?_)
            go_quiet (fail)
            go_wp2_with fail
            exact ⟨⟨k + 1, by go_num, by omega, Lib.hid (below_drewN (hBw.out.alloc (by have := hBw.out.size; omega) _) _), Lib.hid (below_drewN (hB4w.out.alloc (by have := hB4w.out.size; omega) _) _)⟩, by simp [intOf]; omega⟩
        · obtain rfl : k = nc := by omega
          go_wp2_with fail
          go_ret
          exact ⟨rfl, hBw.out⟩
  · obtain ⟨b, off, rfl, hb, hc⟩ := HE2.out.at_ hx
    have x10 := hc _ x hx 10 _ rfl
    rw [he] at x10
    have u0 : decide ((0 : Int) < na) = true := decide_eq_true (by omega)
    clear hc hx he
    have hna1 : ((na : Int) - 1) = ((na - 1 : Nat) : Int) := by omega
    have hna2 : IntKind.i64.wrap ((na : Int) - 1) = ((na - 1 : Nat) : Int) := by rw [IntWalk.i64_in _ (by omega)]; omega
    have hna3 : na - 1 < na := by omega
    go_wp2_with fail
    go_ret
    exact ⟨rfl, HB4.out⟩

set_option maxRecDepth 100000 in
set_option maxHeartbeats 1000000 in
theorem lifted (os : Os) (started : os.Started) (H : Type) (enc : TypeId × Value → H) :
    ReturnsInHanded {} Try.checked os 7 .any (Rows.wireJoinsSpec.pre6 enc Try.prog Try.f7 Rows.wireJoinsRow.domain false) (Rows.wireJoinsSpec.post enc Try.prog Try.f7 false true false false) := by
  refine returnsInHanded_of_change (C := Try.checked) own started (by kernel_rfl) Try.func7
    (ChangeSpec.witness6 (enc := enc) (C := Try.checked) false ⟨#[], #[.string ⟨#[]⟩, .string ⟨#[]⟩], []⟩ 8 (by kernel_rfl) (by kernel_rfl) (by kernel_rfl) (by kernel_rfl)) ?_
  intro W base args ds gs before hval0 hW _ _
  have hval : ∀ (j : Nat) t v, Try.f7.params[j]? = some t → args[j]? = some v → Value.okWide Try.prog W .any base t v := hval0
  have hW' := hW
  obtain ⟨p, q, hA0, hV, rfl, hfz, hnd⟩ := hW
  have hA : DataW.TrodAll enc Try.prog W 0 (fun _ => true) true Try.f7.params.toList args.toList ds p := hA0
  rw [Try.params7] at hA hval
  obtain ⟨v0, vs0, d0, ds0, p0, q0, hargs, rfl, rfl, h0, r0⟩ := trodAll_cons hA
  obtain ⟨v1, vs1, d1, ds1, p1, q1, rfl, rfl, rfl, h1, r1⟩ := trodAll_cons r0
  obtain ⟨rfl, rfl, rfl⟩ := trodAll_nil r1
  obtain rfl : args = #[v0, v1] := by cases args; simp_all
  obtain ⟨rfl, rfl⟩ := trodVars_none hV
  have k0 := h0
  have lt0 : ∀ x ∈ p0, x.block < W.heap.size := by obtain ⟨m, hm⟩ := k0; exact DataW.trod_lt m _ _ _ hm
  obtain ⟨s0, rfl, z0⟩ := str_of (hval 0 9 v0 rfl rfl) h0
  have k1 := h1
  have lt1 : ∀ x ∈ p1, x.block < W.heap.size := by obtain ⟨m, hm⟩ := k1; exact DataW.trod_lt m _ _ _ hm
  obtain ⟨s1, rfl, z1⟩ := str_of (hval 1 9 v1 rfl rfl) h1
  clear hA0 hval0
  refine (walk s0 s1 W z0 z1).mono fun e W' ⟨he, bel⟩ => ?_
  subst he
  exact ⟨_, rfl, _, _, _, [], _, [], hW', trodAll_mk1 (shut_bool Try.underlying4 _), (trodAll_cons_mk (Below.trod laidOut (by kernel_rfl) (of_decide_eq_true (by kernel_rfl)) k0 bel lt0) (trodAll_cons_mk (Below.trod laidOut (by kernel_rfl) (of_decide_eq_true (by kernel_rfl)) k1 bel lt1) trodAll_mk0)), rfl, bel.frame _, fun h => by cases h⟩

/-- THE STATEMENT. -/
theorem holds : Rows.WireJoinsSaid :=
  OpenClaim.holds_of_wide 7 Try.f7 rfl rfl rfl rfl rfl rfl rfl ⟨rfl, rfl, rfl, rfl, rfl⟩ rfl rfl rfl rfl rfl (by kernel_rfl) Try.func7 (by kernel_rfl)
    (of_decide_eq_true (by kernel_rfl)) (by unfold Func.isWrapper; first | (rw [if_pos (by decide +kernel)]; kernel_rfl) | (rw [if_neg (by decide +kernel)]; exact ⟨rfl, rfl⟩))
    (fun os started H enc _ => lifted os started H enc)
end Go.Proofs.Ytplekkpfpidebaa.wireJoins
