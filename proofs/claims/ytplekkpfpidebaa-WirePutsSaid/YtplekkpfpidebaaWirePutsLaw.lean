/- Any act, and any configuration, has just the document's bytes, or is refused: the law WirePuts answers true, at all acts and configurations. -/
import Derived.Test.YtplekkpfpidebaaWireIn
import Derived.Test.YtplekkpfpidebaaWireArg
import Derived.Test.YtplekkpfpidebaaWirePF
import Derived.Test.YtplekkpfpidebaaWireRPC
import Derived.Test.YtplekkpfpidebaaWireRPut
set_option maxRecDepth 100000
set_option linter.unusedVariables false
namespace Go.Proofs.Ytplekkpfpidebaa.wirePuts
open Go Go.ChangeShapes Go.WideShapes Go.ChangeAt Go.RowKit
attribute [local go_sem] bs_size bs_list
set_option maxHeartbeats 8000000 in
theorem walk (a : WM.Ac) (m : Cm) (w : World) (w0 : AcW a) (w1 : CmW w m) :
    Calls Try.prog 3 #[acV a, cmV m] w fun e w' => e = .returned (.bool true) ∧ Below w.heap.size w w' := by
  have hAw := Lib.hid (fun W => awake17_any W)
  have HI := Lib.hid (fun W (hk : Below w.heap.size w W) => show CmIn W W.heap.size m from ⟨els_to w1.inn.ns hk.size (fun b off e hb => hk.block b hb), fun n hn => els_to (w1.inn.ds n hn) hk.size (fun b off e hb => hk.block b hb), els_to w1.inn.qs hk.size (fun b off e hb => hk.block b hb)⟩)
  have HF := Lib.hid (fun W (hk : Below w.heap.size w W) => few_any m W (HI.out W hk) w1.len)
  have HP1 := Lib.hid (fun W => aput_any a w0.ok W)
  have HP2 := Lib.hid (fun W => rput_any a w0.k w0.ok W)
  have HC1 := Lib.hid (fun (hf : CmFew m) W (hk : Below w.heap.size w W) => putconf_any m W (HI.out W hk) w1.ok hf)
  have HC2 := Lib.hid (fun (hf : CmFew m) W (hk : Below w.heap.size w W) => rputconf_any m W (HI.out W hk) w1.ok hf)
  obtain ⟨P1, hP1⟩ : ∃ x, x = (WM.putA a).1 := ⟨_, rfl⟩
  obtain ⟨P2, hP2⟩ : ∃ x, x = (WM.putA a).2 := ⟨_, rfl⟩
  obtain ⟨C1, hC1⟩ : ∃ x, x = (WM.putC m.cf).1 := ⟨_, rfl⟩
  obtain ⟨C2, hC2⟩ : ∃ x, x = (WM.putC m.cf).2 := ⟨_, rfl⟩
  simp only [← hP1, ← hP2] at HP1 HP2
  simp only [← hC1, ← hC2] at HC1 HC2
  obtain ⟨fw, hfw⟩ : ∃ x, x = fewB m := ⟨_, rfl⟩
  rw [← hfw] at HF
  have HFw := Lib.hid hfw
  obtain ⟨nn, hnn⟩ : ∃ x, x = m.ns.length := ⟨_, rfl⟩
  obtain ⟨nq, hnq⟩ : ∃ x, x = m.qs.length := ⟨_, rfl⟩
  unfold acV acA at HP1 HP2 ⊢
  unfold cmV cmA at HF HC1 HC2 ⊢
  simp only [← hnn, ← hnq] at HF HC1 HC2 ⊢
  clear w0 w1 HI hP1 hP2 hC1 hC2 hfw hnn hnq
  go_enter Try.func3, Try.ntmps3
  go_wp2_with fail
  obtain ⟨v1, hv1⟩ : ∃ v1, v1 = (w.alloc (.cells #[.int .i64 a.k, .int .i64 a.n, .int .i64 a.id, .int .i64 a.q, .int .i64 a.p, .int .i64 a.r, .int .i64 a.g, .int .i64 a.c, .int .i64 a.mn, .int .i64 a.mx] 27)).alloc (.cells #[.slice m.nA nn m.nc, .slice m.qA nq m.qc, .int .i64 m.w, .int .i64 m.t, .int .i64 m.r, .int .i64 m.a] 33) := ⟨_, rfl⟩
  rw [← hv1]
  have HB1 : Hid (Below w.heap.size w v1) := Lib.hid (by rw [hv1]; exact ((Below.refl _ _).alloc (Nat.le_refl _) _).alloc (by simp) _)
  have b0 := new20 hv1
  have b1 := new21 hv1
  obtain ⟨p, hp⟩ : ∃ p, p = w.heap.size := ⟨_, rfl⟩
  obtain ⟨q, hq⟩ : ∃ q, q = w.heap.size + 1 := ⟨_, rfl⟩
  rw [← hp] at b0
  rw [← hq] at b1
  have lp := blk_lt b0
  have lq := blk_lt b1
  have HX := Lib.hid (fun W (hk : Below v1.heap.size v1 W) => And.intro (cells10 ((hk.block p lp).trans b0)) (cells6 ((hk.block q lq).trans b1)))
  (try rw [← hq])
  (try rw [← hp])
  clear b0 b1 hv1 hp hq
  refine (hAw.out v1).mono ?_
  rintro e v2 ⟨rfl, hb⟩
  have H2 : Hid (Below v1.heap.size v1 v2) := Lib.hid hb
  clear hb hAw
  obtain ⟨⟨c0, c1, c2, c3, c4, c5, c6, c7, c8, c9⟩, d0, d1, d2, d3, d4, d5⟩ := HX.out v2 H2.out
  go_wp2_with fail
  refine (HF.out v2 (HB1.out.trans (H2.out.mono HB1.out.size))).mono ?_
  rintro e v3 ⟨rfl, hb⟩
  have H3 : Hid (Below v1.heap.size v1 v3) := Lib.hid (H2.out.trans (hb.mono H2.out.size))
  clear hb HF
  cases fw with
  | false =>
    have HBE : Hid (Below w.heap.size w v3) := Lib.hid (HB1.out.trans (H3.out.mono HB1.out.size))
    go_wp2_with fail
    go_ret
    exact ⟨rfl, HBE.out⟩
  | true =>
    have hf := fewB_iff HFw.out.symm
    have HC1' := Lib.hid (HC1.out hf)
    have HC2' := Lib.hid (HC2.out hf)
    clear HC1 HC2 hf c0 c1 c2 c3 c4 c5 c6 c7 c8 c9 d0 d1 d2 d3 d4 d5
    obtain ⟨⟨c0, c1, c2, c3, c4, c5, c6, c7, c8, c9⟩, d0, d1, d2, d3, d4, d5⟩ := HX.out v3 H3.out
    go_wp2_with fail
    refine (HP1.out v3).mono ?_
    rintro e v4 ⟨rfl, hb⟩
    have H4 : Hid (Below v1.heap.size v1 v4) := Lib.hid (H3.out.trans (hb.mono H3.out.size))
    clear hb HP1 c0 c1 c2 c3 c4 c5 c6 c7 c8 c9 d0 d1 d2 d3 d4 d5
    obtain ⟨⟨c0, c1, c2, c3, c4, c5, c6, c7, c8, c9⟩, d0, d1, d2, d3, d4, d5⟩ := HX.out v4 H4.out
    go_wp2_with fail
    refine (HP2.out v4).mono ?_
    rintro e v5 ⟨rfl, hb⟩
    have H5 : Hid (Below v1.heap.size v1 v5) := Lib.hid (H4.out.trans (hb.mono H4.out.size))
    clear hb HP2 c0 c1 c2 c3 c4 c5 c6 c7 c8 c9 d0 d1 d2 d3 d4 d5
    obtain ⟨⟨c0, c1, c2, c3, c4, c5, c6, c7, c8, c9⟩, d0, d1, d2, d3, d4, d5⟩ := HX.out v5 H5.out
    go_wp2_with fail
    refine (HC1'.out v5 (HB1.out.trans (H5.out.mono HB1.out.size))).mono ?_
    rintro e v6 ⟨rfl, hb⟩
    have H6 : Hid (Below v1.heap.size v1 v6) := Lib.hid (H5.out.trans (hb.mono H5.out.size))
    clear hb HC1' c0 c1 c2 c3 c4 c5 c6 c7 c8 c9 d0 d1 d2 d3 d4 d5
    obtain ⟨⟨c0, c1, c2, c3, c4, c5, c6, c7, c8, c9⟩, d0, d1, d2, d3, d4, d5⟩ := HX.out v6 H6.out
    go_wp2_with fail
    refine (HC2'.out v6 (HB1.out.trans (H6.out.mono HB1.out.size))).mono ?_
    rintro e v7 ⟨rfl, hb⟩
    have H7 : Hid (Below v1.heap.size v1 v7) := Lib.hid (H6.out.trans (hb.mono H6.out.size))
    have HBE : Hid (Below w.heap.size w v7) := Lib.hid (HB1.out.trans (H7.out.mono HB1.out.size))
    clear hb HC2' c0 c1 c2 c3 c4 c5 c6 c7 c8 c9 d0 d1 d2 d3 d4 d5
    go_wp2_with fail
    go_ret
    exact ⟨rfl, HBE.out⟩

set_option maxRecDepth 100000 in
set_option maxHeartbeats 1000000 in
theorem lifted (os : Os) (started : os.Started) (H : Type) (enc : TypeId × Value → H) :
    ReturnsInHanded {} Try.checked os 3 .any (Rows.wirePutsSpec.pre6 enc Try.prog Try.f3 Rows.wirePutsRow.domain false) (Rows.wirePutsSpec.post enc Try.prog Try.f3 false true false false) := by
  refine returnsInHanded_of_change_sized (C := Try.checked) own started (by kernel_rfl) Try.func3
    (ChangeSpec.witness6 (enc := enc) (C := Try.checked) false ⟨#[], #[.agg #[.int .i64 0, .int .i64 0, .int .i64 0, .int .i64 0, .int .i64 0, .int .i64 0, .int .i64 0, .int .i64 0, .int .i64 0, .int .i64 0], .agg #[.slice none 0 0, .slice none 0 0, .int .i64 0, .int .i64 0, .int .i64 0, .int .i64 0]], []⟩ 8 (by kernel_rfl) (by kernel_rfl) (by kernel_rfl) (by kernel_rfl)) ?_
  intro W base args ds gs before hval0 hW _ hsz0 _
  have hsz : (DataW.weightsEach Try.prog (Try.f3.params.toList ++ Rows.wirePutsSpec.plain.varTypes Try.prog) (ds ++ gs)).all (· ≤ reachBytes) = true := hsz0
  have hval : ∀ (j : Nat) t v, Try.f3.params[j]? = some t → args[j]? = some v → Value.okWide Try.prog W .any base t v := hval0
  have hW' := hW
  obtain ⟨p, q, hA0, hV, rfl, hfz, hnd⟩ := hW
  have hA : DataW.TrodAll enc Try.prog W 0 (fun _ => true) true Try.f3.params.toList args.toList ds p := hA0
  rw [Try.params3] at hA hval hsz
  obtain ⟨v0, vs0, d0, ds0, p0, q0, hargs, rfl, rfl, h0, r0⟩ := trodAll_cons hA
  obtain ⟨v1, vs1, d1, ds1, p1, q1, rfl, rfl, rfl, h1, r1⟩ := trodAll_cons r0
  obtain ⟨rfl, rfl, rfl⟩ := trodAll_nil r1
  obtain rfl : args = #[v0, v1] := by cases args; simp_all
  obtain ⟨rfl, rfl⟩ := trodVars_none hV
  have k0 := h0
  have lt0 : ∀ x ∈ p0, x.block < W.heap.size := by obtain ⟨m, hm⟩ := k0; exact DataW.trod_lt m _ _ _ hm
  obtain ⟨x0, rfl, w0⟩ := ac_of (hval 0 27 v0 rfl rfl) h0
  have k1 := h1
  have lt1 : ∀ x ∈ p1, x.block < W.heap.size := by obtain ⟨m, hm⟩ := k1; exact DataW.trod_lt m _ _ _ hm
  obtain ⟨x1, rfl, w1⟩ := cfg_of (hval 1 33 v1 rfl rfl) h1 hsz (j := 1) rfl rfl
  clear hA0 hval0
  refine (walk x0 x1 W w0 w1).mono fun e W' ⟨he, bel⟩ => ?_
  subst he
  exact ⟨_, rfl, _, _, _, [], _, [], hW', trodAll_mk1 (shut_bool Try.underlying4 _), (trodAll_cons_mk (Below.trod laidOut (by kernel_rfl) (of_decide_eq_true (by kernel_rfl)) k0 bel lt0) (trodAll_cons_mk (Below.trod laidOut (by kernel_rfl) (of_decide_eq_true (by kernel_rfl)) k1 bel lt1) trodAll_mk0)), rfl, bel.frame _, fun h => by cases h⟩

/-- THE STATEMENT. -/
theorem holds : Rows.WirePutsSaid :=
  OpenClaim.holds_of_wide 3 Try.f3 rfl rfl rfl rfl rfl rfl rfl ⟨rfl, rfl, rfl, rfl, rfl⟩ rfl rfl rfl rfl rfl (by kernel_rfl) Try.func3 (by kernel_rfl)
    (of_decide_eq_true (by kernel_rfl)) (by unfold Func.isWrapper; first | (rw [if_pos (by decide +kernel)]; kernel_rfl) | (rw [if_neg (by decide +kernel)]; exact ⟨rfl, rfl⟩))
    (fun os started H enc _ => lifted os started H enc)
end Go.Proofs.Ytplekkpfpidebaa.wirePuts
