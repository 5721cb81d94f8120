/- Whatever is done to a pool: what is free and what is out are all units, what is seen is a part of what is free: the law PoolSums answers true, at every input. -/
import Derived.Test.YtcjkehmmkchapaaPoolLaws
import Derived.Test.YtcjkehmmkchapaaTopoFrame
import Derived.Test.YtcjkehmmkchapaaTopoFrame
set_option linter.unusedVariables false
namespace Go.Proofs.Ytcjkehmmkchapaa.poolSums
open Go Go.ChangeShapes Go.WideShapes Go.ChangeAt Go.RowKit
set_option maxRecDepth 100000 in
set_option maxHeartbeats 4000000 in
theorem walk (a0 : Option Addr) (c0 : Nat) (n0 : List (List (Int × Int))) (a1 : Option Addr) (c1 : Nat) (n1 : List Ac) (w : World) (w0 : Nodes w w.heap.size a0 n0) (lc0 : n0.length ≤ c0) (mc0 : c0 ≤ maxLen)
    (w1 : Acts w w.heap.size a1 n1) (q1 : ∀ a ∈ n1, AcOk a) (lc1 : n1.length ≤ c1) (mc1 : c1 ≤ maxLen) :
    Calls Try.prog 4 #[.agg #[.slice a0 n0.length c0], .slice a1 n1.length c1] w fun e w' => e = .returned (.bool true) ∧ Below w.heap.size w w' := by
  have hA := Lib.hid awake_any
  have k0 : (w.alloc (.cells #[.slice a0 n0.length c0] 24)).cell? ⟨w.heap.size, 0, none⟩ = some (.slice a0 n0.length c0) := by go_simp
  have hBa := (Below.refl w.heap.size w).alloc (Nat.le_refl _) (.cells #[.slice a0 n0.length c0] 24)
  have hRt := Lib.hid (fun W (hW : Below w.heap.size w W) (r : Bool) (hr : cluOk n0 = r) => right_any a0 c0 w.heap.size n0 W (Nodes.keep w0 hW (Nat.le_refl _)) hW.size r hr)
  cases hok : cluOk n0
  · have hR := Lib.hid (fun W hW => hRt.out W hW false hok)
    clear hok w0 w1 hRt
    go_enter Try.func4, Try.ntmps4
    go_wp2_with (first
      | (go_at_call 9; refine (hA.out _).mono ?_; rintro e w2 ⟨rfl, hb2⟩; have hB2 := below_step hBa hb2; have k2 := (hb2.cell (p := ⟨w.heap.size, 0, none⟩) (by simp)).trans k0)
      | (go_at_call 12; refine (hR.out _ hB2).mono ?_; rintro e w3 ⟨rfl, hb3⟩; have hB3 := below_step hB2 hb3))
    go_ret
    exact ⟨rfl, hB3⟩
  have hR := Lib.hid (fun W hW => hRt.out W hW true hok)
  have hF0 := fun W (hW : Below w.heap.size w W) => fewacts_any a1 c1 w.heap.size n1 W (Acts.keep w1 hW) (by omega) (fun a ha => (q1 a ha).few)
  cases hf : fewA n1
  · rw [hf] at hF0
    have hF := Lib.hid hF0
    clear hok hf w0 w1 hRt hF0
    go_enter Try.func4, Try.ntmps4
    go_wp2_with (first
      | (go_at_call 9; refine (hA.out _).mono ?_; rintro e w2 ⟨rfl, hb2⟩; have hB2 := below_step hBa hb2; have k2 := (hb2.cell (p := ⟨w.heap.size, 0, none⟩) (by simp)).trans k0)
      | (go_at_call 12; refine (hR.out _ hB2).mono ?_; rintro e w3 ⟨rfl, hb3⟩; have hB3 := below_step hB2 hb3)
      | (go_at_call 10; refine (hF.out _ hB3).mono ?_; rintro e w' ⟨rfl, rfl⟩))
    go_ret
    exact ⟨rfl, hB3⟩
  rw [hf] at hF0
  have hF := Lib.hid hF0
  have hN := Lib.hid (fun W (hW : Below w.heap.size w W) => poolnew_ok a0 c0 w.heap.size n0 W (Nodes.keep w0 hW (Nat.le_refl _)) hW.size hok)
  have hAl := Lib.hid (fun W (hW : Below w.heap.size w W) => refall_any a0 c0 n0 w W w0 hW hok)
  have hFs := fsOk hok
  have hCt := Lib.hid (fun W g c (hg : g < W.heap.size) (h : ∀ i f, (frees n0)[i]? = some f → FrAt W g (0 + i * 4) f) => refcount_any (some ⟨g, 0, none⟩) c W.heap.size (frees n0) W (.inr ⟨g, 0, rfl, hg, h⟩) (Nat.le_refl _) hFs.pos hFs.few hFs.ok)
  obtain ⟨m, hm⟩ : ∃ m, n0.length = m := ⟨_, rfl⟩
  obtain ⟨N, hN1⟩ : ∃ N, n1.length = N := ⟨_, rfl⟩
  have hfl : N ≤ 60 := by
    unfold fewA at hf; simp at hf; omega
  rw [hm] at k0 hBa hR hN hAl lc0 ⊢
  rw [hN1] at hF lc1 ⊢
  have Q := Lib.hid (And.intro hm (And.intro hN1 (And.intro w1 (And.intro q1 hFs))))
  clear hok hf w0 w1 hRt hF0 hm hN1 hFs q1
  go_enter Try.func4, Try.ntmps4
  go_wp2_with (first
    | (go_at_call 9; refine (hA.out _).mono ?_; rintro e w2 ⟨rfl, hb2⟩; have hB2 := below_step hBa hb2; have k2 := (hb2.cell (p := ⟨w.heap.size, 0, none⟩) (by simp)).trans k0; have s2 := hb2.size; simp at s2)
    | (go_at_call 12; refine (hR.out _ hB2).mono ?_; rintro e w3 ⟨rfl, hb3⟩; have hB3 := below_step hB2 hb3; have k3 := (hb3.cell (p := ⟨w.heap.size, 0, none⟩) (show w.heap.size < _ by omega)).trans k2; have s3 := hb3.size)
    | (go_at_call 10; refine (hF.out _ hB3).mono ?_; rintro e w' ⟨rfl, rfl⟩)
    | (go_at_call 11; refine (hN.out _ hB3).mono ?_; rintro e w4 ⟨T, p, g, dm, rfl, hp, hb4, p1, g1, d1, o1⟩; have HP := Lib.hid hp; clear hp; have hB4 := below_step hB3 hb4; have k4 := (hb4.cell (p := ⟨w.heap.size, 0, none⟩) (show w.heap.size < _ by omega)).trans k3; have s4 := hb4.size)
    | (go_at_call 24; refine (hAl.out _ hB4).mono ?_; rintro e w5 ⟨g5, cp5, rfl, hg5, hfr5, hb5⟩; have hfr5' := Lib.hid hfr5; clear hfr5; have hB5 := below_step hB4 hb5; have s5 := hb5.size)
    | (go_at_call 22; refine (hCt.out _ _ _ hg5 hfr5'.out).mono ?_; rintro e w6 ⟨rfl, hb6⟩; have hB6 := below_step hB5 hb6; have s6 := hb6.size))
  obtain ⟨gA, hgA⟩ : ∃ x, x = gsum (frees n0) := ⟨_, rfl⟩
  obtain ⟨cA, hcA⟩ : ∃ x, x = csum (frees n0) := ⟨_, rfl⟩
  rw [← hgA, ← hcA]
  obtain ⟨Fp, hFp⟩ : ∃ Fp : Nat → Prop, Fp = fun i => i = p ∨ i = g ∨ i = dm ∨ T i ∨ w6.heap.size < i := ⟨_, rfl⟩
  obtain ⟨U, hU⟩ : ∃ U, U = w6.heap.size := ⟨_, rfl⟩
  obtain ⟨w7, hw7⟩ : ∃ w7, w7 = w6.alloc (.cells #[.int .i64 (gA : Nat), .int .i64 (cA : Nat)] 44) := ⟨_, rfl⟩
  have hp7 : PoolAt w7 T p g dm (frees n0) (PM.zero (frees n0)) (List.replicate m false) := by
    rw [hw7]; exact HP.out.keep ((below_step hb5 hb6).alloc (by omega) _)
  have hlt4 := HP.out.lt
  have hB7 : Below w.heap.size w w7 := by rw [hw7]; exact hB6.alloc (by omega) _
  have bU : w7.heap[U]? = some (.cells #[.int .i64 (gA : Nat), .int .i64 (cA : Nat)] 44 (0, 0)) := by rw [hw7, hU]; exact heap_alloc_new w6 _
  have hsz7 : w7.heap.size = U + 1 := by rw [hw7, hU]; simp
  have hT6 := HP.out.old
  have hUF : ¬ Fp U := by
    rw [hFp]; rintro (h | h | h | h | h)
    · omega
    · omega
    · omega
    · have := hT6 _ h; omega
    · omega
  have hFw : ∀ i, Fp i → w.heap.size ≤ i := by
    rw [hFp]; rintro i (rfl | rfl | rfl | h | h)
    · omega
    · omega
    · omega
    · have := o1 _ h; omega
    · omega
  have hFy : ∀ W : World, w7.heap.size ≤ W.heap.size → ∀ i, W.heap.size ≤ i → Fp i := fun W hW i hi => by rw [hFp]; exact .inr (.inr (.inr (.inr (by omega))))
  have hin7 : PoolIn w7 Fp p (frees n0) (PM.zero (frees n0), List.replicate m false) := ⟨T, g, dm, hp7, by rw [hFp]; exact .inl rfl, by rw [hFp]; exact .inr (.inl rfl), by rw [hFp]; exact .inr (.inr (.inl rfl)), by rw [hFp]; exact fun i hi => .inr (.inr (.inr (.inl hi)))⟩
  rw [← hw7, ← hU]
  have hUw : w.heap.size < U := by omega
  have hU7 : U < w7.heap.size := by omega
  have Z := Lib.hid (And.intro hgA (And.intro hcA (And.intro hB7 (And.intro bU (And.intro hUF (And.intro hFw (And.intro hFy hin7)))))))
  clear hT6 hgA hcA hFp hU hw7 hp7 hlt4 hB7 bU hUF hFw hFy hin7 hsz7 hB6 hb6 hB5 hb5 hB4 hb4 hB3 hb3 hB2 hb2 hBa k0 k2 k3 k4 s2 s3 s4 s5 s6 hA hR hF hN hAl hCt hfr5' hg5 p1 g1 d1 o1 HP
  go_loopw [8] (fun i wr => ∃ k : Nat, i = .int .i64 k ∧ k ≤ N ∧ w7.heap.size ≤ wr.heap.size ∧ Hid (Foot Fp w7 wr ∧ ∃ st, PoolIn wr Fp p (frees n0) st)) (fun i _ => N - (intOf i).toNat)
  case atStart => exact ⟨0, rfl, by omega, Nat.le_refl _, Lib.hid ⟨Foot.refl _ _, _, Z.out.2.2.2.2.2.2.2⟩⟩
  case round =>
    obtain ⟨k, rfl, hk, hsz, hin⟩ := hrel
    obtain ⟨hft, st, hpk⟩ := hin.out
    by_cases hlt : k < N
    · obtain ⟨hm, hN1, w1, q1, hFs⟩ := Q.out
      obtain ⟨hgA, hcA, hB7, bU, hUF, hFw, hFy, _⟩ := Z.out
      obtain ⟨a, hx⟩ := get_lt (l := n1) (k := k) (by rw [hN1]; exact hlt)
      obtain ⟨b, off, rfl, hb, hc⟩ := w1.at_ hx
      have hBr : Below w.heap.size w wr := hB7.trans (hft.below (by omega) hFw)
      obtain ⟨As, cs, a0', a1', a2', hsl⟩ := (hc k a hx).keep hb hBr
      have haok := q1 a (List.mem_of_getElem? hx)
      have hD := Lib.hid (do_in Fp p (frees n0) st As cs a wr hpk (hFy wr hsz) haok (hsl.imp (by omega) fun _ _ _ _ h => h) (fun _ b' off' e hb' => by
        rcases hsl with e0 | ⟨b2, o2, e2, hb2, _⟩
        · exact absurd e0 ‹_›
        · cases e.symm.trans e2; have := hFw _ hb'; omega))
      have bUr := (hft.block U hU7 hUF).trans bU
      have t0 : decide (k < N) = true := by simpa using hlt
      have HX := Lib.hid (And.intro hft (And.intro bUr hFs))
      obtain ⟨R, hR⟩ : ∃ R, R = act (frees n0) st a := ⟨_, rfl⟩
      rw [← hR] at hD
      obtain ⟨kind, node, sl⟩ := a
      simp only at *
      obtain ⟨sn, hsn⟩ : ∃ sn, sn = sl.length := ⟨_, rfl⟩
      rw [← hsn] at a2' hD
      clear hm hN1 w1 q1 hFs hgA hcA hB7 bU hUF hFw hFy hx hc hBr hsl haok bUr hft hpk hin hR hsn
      have hFr := fun T g dm W (h : PoolAt W T p g dm (frees n0) R.2.1 R.2.2) => free_row p g dm (frees n0) R.2.1 R.2.2 W h
      have hVw := fun T g dm W (h : PoolAt W T p g dm (frees n0) R.2.1 R.2.2) => view_row p g dm (frees n0) R.2.1 R.2.2 W h
      have hOt := fun T g dm W (h : PoolAt W T p g dm (frees n0) R.2.1 R.2.2) => out_any p g dm (frees n0) R.2.1 R.2.2 W h
      have hCL := fun T g dm W (h : PoolAt W T p g dm (frees n0) R.2.1 R.2.2) A c W' (hr : Frees W' W'.heap.size A (PM.free (frees n0) R.2.1)) => refcount_row A c (PM.free (frees n0) R.2.1) W' hr (by rw [PM.free_len h.inv]; exact h.ok.few) (h.ok.freeOk h.inv)
      have hCV := fun T g dm W (h : PoolAt W T p g dm (frees n0) R.2.1 R.2.2) A c W' (hr : Frees W' W'.heap.size A (PM.view (frees n0) R.2.1 R.2.2)) => refcount_row A c (PM.view (frees n0) R.2.1 R.2.2) W' hr (h.ok.viewOk h.inv).1 (h.ok.viewOk h.inv).2
      have hNum := fun T g dm W (h : PoolAt W T p g dm (frees n0) R.2.1 R.2.2) => And.intro (PM.sums h.inv) (And.intro (PM.view_le (frees n0) R.2.1 R.2.2) (sums_le (frees n0) h.ok.ok))
      obtain ⟨L, hL⟩ : ∃ L, L = PM.free (frees n0) R.2.1 := ⟨_, rfl⟩
      obtain ⟨V, hV⟩ : ∃ V, V = PM.view (frees n0) R.2.1 R.2.2 := ⟨_, rfl⟩
      simp only [← hL] at hFr hCL hNum
      simp only [← hV] at hVw hCV hNum
      obtain ⟨gL, hgL⟩ : ∃ x, x = gsum L := ⟨_, rfl⟩
      obtain ⟨cL, hcL⟩ : ∃ x, x = csum L := ⟨_, rfl⟩
      obtain ⟨gV, hgV⟩ : ∃ x, x = gsum V := ⟨_, rfl⟩
      obtain ⟨cV, hcV⟩ : ∃ x, x = csum V := ⟨_, rfl⟩
      obtain ⟨gT, hgT⟩ : ∃ x, x = gsum R.2.1 := ⟨_, rfl⟩
      obtain ⟨cT, hcT⟩ : ∃ x, x = csum R.2.1 := ⟨_, rfl⟩
      simp only [← hgL, ← hcL] at hCL hNum
      simp only [← hgV, ← hcV] at hCV hNum
      simp only [← hgT, ← hcT] at hOt hNum
      simp only [← Z.out.1, ← Z.out.2.1] at hNum
      have hFs9 := HX.out.2.2.few
      have HFr := Lib.hid hFr; have HVw := Lib.hid hVw; have HOt := Lib.hid hOt; have HCL := Lib.hid hCL; have HCV := Lib.hid hCV; have HNum := Lib.hid hNum
      clear hFr hVw hOt hCL hCV hNum hL hV hgL hcL hgV hcV hgT hcT
      have hsU : U < wr.heap.size := by omega
      go_wp2_with (first
        | (go_at_call 14; refine hD.out.mono ?_; rintro e w8 ⟨rfl, hp8, hf8⟩; obtain ⟨T8, g8, dm8, hq8, hr8⟩ := hp8; have HQ8 := Lib.hid (And.intro hq8 (And.intro hr8 hf8)); have s8 := hf8.size; clear hq8 hr8 hf8)
        | (go_at_call 17; refine (HFr.out T8 g8 dm8 _ HQ8.out.1).mono ?_; rintro e w9 ⟨rfl, hr9, hb9⟩; have HR9 := Lib.hid (And.intro hr9 hb9); have s9 := hb9.size; clear hr9 hb9)
        | (go_at_call 22; ((with_reducible refine (HCL.out T8 g8 dm8 _ HQ8.out.1 _ _ _ HR9.out.1).mono ?_); rintro e w10 ⟨rfl, hb10⟩); have HB10 := Lib.hid hb10; have s10 := hb10.size; clear hb10)
        | (go_at_call 21; refine (HOt.out T8 g8 dm8 _ (HQ8.out.1.keep (below_step HR9.out.2 HB10.out))).mono ?_; rintro e w11 ⟨rfl, hb11⟩; have HB11 := Lib.hid hb11; have s11 := hb11.size; clear hb11)
        | (go_at_call 19; refine (HVw.out T8 g8 dm8 _ (HQ8.out.1.keep (below_step (below_step HR9.out.2 HB10.out) HB11.out))).mono ?_; rintro e w12 ⟨A12, c12, rfl, hr12, hb12⟩; have HR12 := Lib.hid (And.intro hr12 hb12); have s12 := hb12.size; clear hr12 hb12))
      ((with_reducible refine (HCV.out T8 g8 dm8 _ HQ8.out.1 A12 c12 _ HR12.out.1).mono ?_); rintro e w13 ⟨rfl, hb13⟩)
      have HB13 := Lib.hid (below_step (below_step (below_step (below_step HR9.out.2 HB10.out) HB11.out) HR12.out.2) hb13)
      have s13 := hb13.size
      have bU13 := (HB13.out.block U (show U < w8.heap.size by omega)).trans ((HQ8.out.2.2.block U hsU Z.out.2.2.2.2.1).trans HX.out.2.1)
      have u0 : w13.cell? ⟨U, 0, none⟩ = some (.int .i64 (gA : Nat)) := cell_blk (i := 0) bU13 rfl
      have u1 : w13.cell? ⟨U, 1, none⟩ = some (.int .i64 (cA : Nat)) := cell_blk (i := 1) bU13 rfl
      have lU13 : U < w13.heap.size := blk_lt bU13
      have lU14 : U < w13.heap.size + 1 := by omega
      have lU15 : U < w13.heap.size + 1 + 1 := by omega
      clear hb13 bU13
      obtain ⟨⟨m1, m2⟩, ⟨m3, m4⟩, m5, m6⟩ := HNum.out T8 g8 dm8 w8 HQ8.out.1
      have x1 : ((gL : Int) + (gT : Int) != (gA : Int)) = false := (by simp; omega)
      have x2 : ((cL : Int) + (cT : Int) != (cA : Int)) = false := (by simp; omega)
      have x3 : decide ((gT : Int) < 0) = false := decide_eq_false (by omega)
      have x4 : decide ((cT : Int) < 0) = false := decide_eq_false (by omega)
      have x5 : decide (gL < gV) = false := (by simp; omega)
      have x6 : decide (cL < cV) = false := (by simp; omega)
      have m7 : gL + gT ≤ 64000 := (by omega)
      have m8 : cL + cT ≤ 1024000 := (by omega)
      clear m1 m2 m5 m6
      go_wp2
      go_roundw
      case rel =>
        have hf13 : Foot Fp w7 w13 := (HX.out.1.trans HQ8.out.2.2 (fun i hi => .inl hi)).trans (Foot.of_below (F := fun _ => False) HB13.out) (fun i hi => hi.elim)
        refine ⟨k + 1, by go_num, by omega, by simp; omega, Lib.hid ⟨((hf13.alloc _).alloc _).alloc _, R.2, T8, g8, dm8, ?_, HQ8.out.2.1⟩⟩
        exact HQ8.out.1.keep (((HB13.out.alloc (by omega) _).alloc (by simp; omega) _).alloc (by simp; omega) _)
      case measure => simp [intOf]; omega
    · obtain rfl : k = N := by omega
      have HX := Lib.hid (Z.out.2.2.1.trans (hft.below (by omega) Z.out.2.2.2.2.2.1))
      clear hlt hft hpk hin
      go_wp2
      go_ret
      exact ⟨rfl, HX.out⟩

set_option maxRecDepth 100000 in
theorem lifted (os : Os) (started : os.Started) (H : Type) (enc : TypeId × Value → H) :
    ReturnsInHanded {} Try.checked os 4 .any (Rows.poolSumsSpec.pre6 enc Try.prog Try.f4 Rows.poolSumsRow.domain false) (Rows.poolSumsSpec.post enc Try.prog Try.f4 false true false false) := by
  refine returnsInHanded_of_change (C := Try.checked) own started (by kernel_rfl) Try.func4
    (ChangeSpec.witness6 (enc := enc) (C := Try.checked) false ⟨#[], #[.agg #[.slice none 0 0], .slice none 0 0], []⟩ 8 (by kernel_rfl) (by kernel_rfl) (by kernel_rfl) (by kernel_rfl)) ?_
  intro W base args ds gs before hval0 hW _ _
  have hval : ∀ (j : Nat) t v, Try.f4.params[j]? = some t → args[j]? = some v → Value.okWide Try.prog W .any base t v := hval0
  have hW' := hW
  obtain ⟨p, q, hA0, hV, rfl, hfz, hnd⟩ := hW
  have hA : DataW.TrodAll enc Try.prog W 0 (fun _ => true) true Try.f4.params.toList args.toList ds p := hA0
  rw [Try.params4] at hA hval
  obtain ⟨v0, vs0, d0, ds0, p0, q0, hargs, rfl, rfl, h0, r0⟩ := trodAll_cons hA
  obtain ⟨v1, vs1, d1, ds1, p1, q1, rfl, rfl, rfl, h1, r1⟩ := trodAll_cons r0
  obtain ⟨rfl, rfl, rfl⟩ := trodAll_nil r1
  obtain rfl : args = #[v0, v1] := by cases args; simp_all
  obtain ⟨rfl, rfl⟩ := trodVars_none hV
  have k0 := h0
  have lt0 : ∀ x ∈ p0, x.block < W.heap.size := by obtain ⟨m, hm⟩ := k0; exact DataW.trod_lt m _ _ _ hm
  obtain ⟨a0, c0, n0, rfl, lc0, mc0, w0⟩ := clu_of (hval 0 24 v0 rfl rfl) h0
  have k1 := h1
  have lt1 : ∀ x ∈ p1, x.block < W.heap.size := by obtain ⟨m, hm⟩ := k1; exact DataW.trod_lt m _ _ _ hm
  obtain ⟨a1, c1, n1, rfl, lc1, mc1, w1, q1⟩ := acts_of (hval 1 25 v1 rfl rfl) h1
  clear hA0 hval0
  refine (walk a0 c0 n0 a1 c1 n1 W w0 lc0 mc0 w1 q1 lc1 mc1).mono fun e W' ⟨he, bel⟩ => ?_
  subst he
  exact ⟨_, rfl, _, _, _, [], _, [], hW', trodAll_mk1 (shut_bool Try.underlying4 _), (trodAll_cons_mk (Below.trod laidOut (by kernel_rfl) (of_decide_eq_true (by kernel_rfl)) k0 bel lt0) (trodAll_cons_mk (Below.trod laidOut (by kernel_rfl) (of_decide_eq_true (by kernel_rfl)) k1 bel lt1) trodAll_mk0)), rfl, bel.frame _, fun h => by cases h⟩

/-- THE STATEMENT. -/
theorem holds : Rows.PoolSumsSaid :=
  OpenClaim.holds_of_wide 4 Try.f4 rfl rfl rfl rfl rfl rfl rfl ⟨rfl, rfl, rfl, rfl, rfl⟩ rfl rfl rfl rfl rfl (by kernel_rfl) Try.func4 (by kernel_rfl)
    (of_decide_eq_true (by kernel_rfl)) (by unfold Func.isWrapper; first | (rw [if_pos (by decide +kernel)]; kernel_rfl) | (rw [if_neg (by decide +kernel)]; exact ⟨rfl, rfl⟩))
    (fun os started H enc _ => lifted os started H enc)
end Go.Proofs.Ytcjkehmmkchapaa.poolSums
