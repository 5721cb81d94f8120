/- Whatever mask and whatever list of numbers (one of more than 100 is let go by the law's own guard): the mask of a mask's units is it; the units of units' mask are these, rising: the law MaskBack answers true, at every input. The library's table of lowest units is as the program's text lays it (tied). -/
import Derived.Deep.QuietTactic
import Derived.BigQuiet
import Derived.Test.YtldameiggeibnaaDoorMaskIn
import Derived.SevenTiedAt
import Derived.Test.YtldameiggeibnaaDoorTie
import Derived.Test.YtldameiggeibnaaDoorCards
namespace Go.Proofs.YtldameiggeibnaaDoor.maskBack
open Go Go.ChangeShapes Go.WideShapes Go.ChangeAt Go.RowKit
/-- Is the number among the first t of the list? -/
def seen (u : Int) (l : List Int) (t : Nat) : Bool := decide (u ∈ l.take t)
theorem seen_zero (u : Int) (l : List Int) : seen u l 0 = false := by simp [seen]
theorem seen_succ {u : Int} {l : List Int} {t : Nat} (h : t < l.length) : seen u l (t + 1) = (seen u l t || (l[t]?.getD 0 == u)) := by
  unfold seen
  rw [List.take_succ_eq_append_getElem h]
  simp only [List.mem_append, List.mem_singleton, Bool.decide_or]
  rw [List.getElem?_eq_getElem h]
  congr 1
  simp only [Option.getD_some]
  by_cases e : u = l[t]
  · simp [e]
  · have : ¬ l[t] = u := fun h => e h.symm
    simp [e, this]
theorem seen_all {u : Int} {l : List Int} (h : u ∈ l) : seen u l l.length = true := by simpa [seen] using h
set_option maxRecDepth 100000 in
set_option maxHeartbeats 2000000 in
theorem walk (a0 : Int) (a1 : Option Addr) (len1 cap1 : Nat) (z1 : List Int) (w : World) (w0 : (Lit.int .u64 a0).wf = true) (w1 : IsRow .i64 w a1 len1 cap1 z1) (hT : Tab w) :
    Calls Tryd.prog 4 #[.int .u64 a0, .slice a1 len1 cap1] w fun e w' => e = .returned (.bool true) ∧ Below w.heap.size w w' := by
  obtain ⟨l0, g0⟩ := bounds_u64 w0
  obtain ⟨l, rfl, hin⟩ := in_of w1
  clear w0 w1
  obtain ⟨x, rfl⟩ : ∃ x : Nat, a0 = x := ⟨a0.toNat, by omega⟩
  have hx : x < 18446744073709551616 := by omega
  clear l0 g0
  have hA := Lib.hid (awake_t w hT)
  clear hT
  by_cases hbig : 100 < l.length
  · clear hin
    go_enter Tryd.func4, Tryd.ntmps4
    go_wp2_with (go_at_call 10; refine hA.out.mono ?_; rintro e w1 ⟨rfl, hs1, hT1⟩)
    go_ret
    exact ⟨rfl, hs1.below⟩
  · have hlen : l.length ≤ 100 := by omega
    have hU := Lib.hid (units_t x hx)
    have hO := Lib.hid (of_units x hx)
    have hP := Lib.hid (fun w h => of_in a1 cap1 l w h (by omega))
    have herr := MM.ofr_err l 0
    have hok := MM.ofr_ok l 0
    have hbl := MM.ofr_lt l 0 (by decide)
    obtain ⟨b, hb⟩ : ∃ b, (MM.ofr 0 l).1 = b := ⟨_, rfl⟩
    obtain ⟨f, hf⟩ : ∃ f, (MM.ofr 0 l).2 = f := ⟨_, rfl⟩
    rw [hb, hf] at herr hok
    rw [hb] at hbl
    have hP : Hid (∀ w, InRow w a1 l → Calls Tryd.prog 13 #[.slice a1 l.length cap1] w fun e w' => e = .returned (.tuple #[.int .u64 b, .int .i64 f]) ∧ w = w') := by
      have := hP.out; rw [hb, hf] at this; exact Lib.hid this
    clear hb hf
    have hIN := Lib.hid hin
    clear hin hbig
    by_cases hf : f = 0
    · subst hf
      obtain ⟨hc, hm⟩ := hok rfl
      have hc0 : MM.cnt 0 = 0 := by unfold MM.cnt; rw [MM.units_zero]; rfl
      rw [hc0, Nat.zero_add] at hc
      have hV := units_t b hbl
      rw [hc] at hV
      have hul : (MM.units b).length = l.length := hc
      have hsort := fun j h0 hj => @MM.sorted_at (MM.units b) (MM.units_sorted b) j h0 hj
      have hin' : ∀ j, j < l.length → (((MM.units b)[j]?.getD 0 : Nat) : Int) ∈ l := fun j hj => by
        have hj' : j < (MM.units b).length := by omega
        have hmem : (MM.units b)[j] ∈ MM.units b := List.getElem_mem hj'
        have := (MM.units_mem.1 hmem).2
        rw [List.getElem?_eq_getElem hj']
        rcases hm _ this with h | h
        · simp at h
        · exact h
      generalize MM.units b = us at *
      have HV := Lib.hid hV
      have HS := Lib.hid hsort
      have HI := Lib.hid hin'
      have HL := Lib.hid hul
      clear hV hc hul hsort hin' herr hok hm hc0
      go_enter Tryd.func4, Tryd.ntmps4
      go_wp2_with (first
        | (go_at_call 10; refine hA.out.mono ?_; rintro e w1 ⟨rfl, hs1, hT1⟩)
        | (go_at_call 20; with_reducible refine (hU.out _ (by assumption)).mono ?_; rintro e w2 ⟨a2, cap2, rfl, hrow2, hs2, hT2⟩; have HIN := Lib.hid ((hIN.out.stays hs1).stays hs2))
        | (go_at_call 13; with_reducible refine (hO.out _ _ _ (by assumption)).mono ?_; rintro e w' ⟨rfl, rfl⟩)
        | (go_at_call 13; with_reducible refine (hP.out _ HIN.out).mono ?_; rintro e w' ⟨rfl, rfl⟩)
        | (go_at_call 20; with_reducible refine (HV.out _ (by assumption)).mono ?_; rintro e w4 ⟨a4, cap4, rfl, hrow4, hs4, hT4⟩))
      have ST := Lib.hid ((hs1.trans hs2).trans hs4)
      have HN := Lib.hid (HIN.out.stays hs4)
      have HR := Lib.hid hrow4
      clear hrow4 hrow2 hs1 hs2 hs4 hT1 hT2 hT4
      go_loopw [10, 11, 12] (fun i _ _ wr => ∃ j nq : Nat, i = .int .i64 j ∧ j ≤ l.length ∧ wr = w4.drewN nq) (fun i _ _ _ => l.length - (intOf i).toNat)
      case atStart => exact ⟨0, 0, rfl, by omega, rfl⟩
      case round =>
        obtain ⟨j, nq, rfl, hj, rfl⟩ := hrel
        by_cases hlt : j < l.length
        · obtain ⟨b0, off, hb1, hcin⟩ : ∃ b0 off, a1 = some ⟨b0, off, none⟩ ∧ Cells w4 b0 off l := by
            rcases HN.out with h | ⟨b0, off, h1, _, h2⟩
            · rw [h] at hlt; simp at hlt
            · exact ⟨b0, off, h1, h2⟩
          obtain ⟨g, hg4, hcu⟩ : ∃ g, a4 = some ⟨g, 0, none⟩ ∧ ∀ i, i < l.length → w4.cell? ⟨g, i, none⟩ = some (.int .i64 ((us[i]?.getD 0 : Nat) : Int)) := by
            have hL := HL.out
            rcases HR.out with h | ⟨g, h1, _, h2⟩
            · rw [h] at hL; simp at hL; omega
            · exact ⟨g, h1, fun i hi => h2 i (by omega)⟩
          obtain ⟨u, hu⟩ : ∃ u, us[j]?.getD 0 = u := ⟨_, rfl⟩
          have hcj := hcu j hlt
          have hmem := HI.out j hlt
          rw [hu] at hcj hmem
          have hall := seen_all hmem
          subst hb1 hg4
          have HC := Lib.hid hcin
          have HU := Lib.hid hcu
          have HA := Lib.hid hall
          have HJ := Lib.hid hu
          clear hcin hcu hall hmem hu
          go_wp2
          go_loopw [11, 12] (fun fo k wr => ∃ t mq : Nat, fo = .bool (seen (u : Int) l t) ∧ k = .int .i64 t ∧ t ≤ l.length ∧ wr = w4.drewN mq) (fun _ k _ => l.length - (intOf k).toNat)
          case atStart => exact ⟨0, nq, by rw [seen_zero], rfl, by omega, rfl⟩
          case round =>
            obtain ⟨t, mq, rfl, rfl, ht, rfl⟩ := hrel
            by_cases htl : t < l.length
            · have hct := HC.out t htl
              have hss := @seen_succ u l t htl
              generalize l[t]?.getD 0 = y at hct hss
              cases hsn : seen (u : Int) l t
              · rw [hsn] at hss
                have HS2 := Lib.hid hss
                clear hss hsn
                go_wp2
                go_quiet (fail)
                go_wp2
                exact ⟨⟨t + 1, _, by rw [HS2.out]; simp, by go_num, by omega, rfl⟩, by simp [intOf]; omega⟩
              · rw [hsn] at hss
                have HS2 := Lib.hid hss
                clear hss hsn
                go_wp2
                go_quiet (fail)
                go_wp2
                exact ⟨⟨t + 1, _, by rw [HS2.out]; simp, by go_num, by omega, rfl⟩, by simp [intOf]; omega⟩
            · obtain rfl : t = l.length := by omega
              rw [HA.out]
              clear htl ht
              by_cases hj0 : j = 0
              · have t1 : decide ((0 : Int) < (j : Int)) = false := by simp; omega
                have t2 : decide (0 < j) = false := by simp; omega
                clear hj0
                go_wp2
                go_quiet (fail)
                go_wp2
                exact ⟨⟨j + 1, _, by go_num, by omega, rfl⟩, by simp [intOf]; omega⟩
              · have t2 : 0 < j := by omega
                have hcj1 := HU.out (j - 1) (by omega)
                have hso := HS.out j t2 (by have := HL.out; omega)
                rw [HJ.out] at hso
                generalize us[j - 1]?.getD 0 = v at hcj1 hso
                have e : ((j - 1 : Nat) : Int) = (j : Int) - 1 := by omega
                clear hj0
                go_wp2
                go_quiet (fail)
                go_wp2
                exact ⟨⟨j + 1, _, by go_num, by omega, rfl⟩, by simp [intOf]; omega⟩
        · obtain rfl : j = l.length := by omega
          clear hlt hj
          go_wp2
          go_ret
          exact ⟨rfl, Below.drewN ST.out.below _⟩
    · have hb0 := herr hf
      subst hb0
      have t : ((f : Int) != 0) = true := by simp [hf]
      clear hf herr hok
      go_enter Tryd.func4, Tryd.ntmps4
      go_wp2_with (first
        | (go_at_call 10; refine hA.out.mono ?_; rintro e w1 ⟨rfl, hs1, hT1⟩)
        | (go_at_call 20; with_reducible refine (hU.out _ (by assumption)).mono ?_; rintro e w2 ⟨a2, cap2, rfl, hrow2, hs2, hT2⟩; have HIN := Lib.hid ((hIN.out.stays hs1).stays hs2))
        | (go_at_call 13; with_reducible refine (hO.out _ _ _ (by assumption)).mono ?_; rintro e w' ⟨rfl, rfl⟩)
        | (go_at_call 13; with_reducible refine (hP.out _ HIN.out).mono ?_; rintro e w' ⟨rfl, rfl⟩))
      go_ret
      exact ⟨rfl, (hs1.trans hs2).below⟩

set_option maxRecDepth 100000 in
theorem lifted (os : Os) (started : os.Started) (H : Type) (enc : TypeId × Value → H) :
    ReturnsInHanded {} Tryd.checked os 4 .any (fun w args => (Rows.maskBackSpec.pre enc Tryd.prog Tryd.f4 [] false w args ∧ laidMetH Tryd.prog laid1 w) ∧ sizedMet enc Tryd.prog Tryd.f4 (OpenSpec.ofChange Rows.maskBackSpec) false w args)
      (Rows.maskBackSpec.post enc Tryd.prog Tryd.f4 false true false false) := by
  refine returnsInHanded_of_change_and (C := Tryd.checked) (X := fun w _ => laidMetH Tryd.prog laid1 w) (fun _ _ _ hh h => h.of_heap hh) own started (by kernel_rfl) Tryd.func4
    (ChangeSpec.witness_shaped (enc := enc) (C := Tryd.checked) (os := os) (X := fun w _ => laidMetH Tryd.prog laid1 w) false (World.doorLaid Tryd.prog 400 os) #[.int .u64 0, .slice none 0 0] 8 rfl (World.shaped_of_RefB (by kernel_rfl) (by kernel_rfl)) (by kernel_rfl) (by kernel_rfl) (by kernel_rfl) (door_met os _)) ?_
  intro W base args ds gs before hval0 hW _ _ hL _
  have hval : ∀ (j : Nat) t v, Tryd.f4.params[j]? = some t → args[j]? = some v → Value.okWide Tryd.prog W .any base t v := hval0
  have hW' := hW
  obtain ⟨p, q, hA0, hV, rfl, hfz, hnd⟩ := hW
  have hA : DataW.TrodAll enc Tryd.prog W 0 (fun _ => true) true Tryd.f4.params.toList args.toList ds p := hA0
  rw [Tryd.params4] at hA hval
  obtain ⟨v0, vs0, d0, ds0, p0, q0, hargs, rfl, rfl, h0, r0⟩ := trodAll_cons hA
  obtain ⟨v1, vs1, d1, ds1, p1, q1, rfl, rfl, rfl, h1, r1⟩ := trodAll_cons r0
  obtain ⟨rfl, rfl, rfl⟩ := trodAll_nil r1
  obtain rfl : args = #[v0, v1] := by cases args; simp_all
  obtain ⟨rfl, rfl⟩ := trodVars_none hV
  obtain ⟨a0, rfl, rfl, rfl, w0⟩ := open_int Tryd.underlying22 (hval 0 22 v0 rfl rfl) h0
  obtain ⟨a1, len1, cap1, rfl⟩ := okWide_slice Tryd.underlying23 (hval 1 23 v1 rfl rfl)
  have k1 := h1
  have lt1 : ∀ x ∈ p1, x.block < W.heap.size := by obtain ⟨m, hm⟩ := k1; exact DataW.trod_lt m _ _ _ hm
  obtain ⟨z1, w1⟩ : ∃ zs, IsRow .i64 W a1 len1 cap1 zs := by
    obtain ⟨fuel, hf⟩ := h1
    rcases open_ints Tryd.underlying23 Tryd.underlying3 (by kernel_rfl) hf with ⟨hcs, _⟩ | ⟨x, l, c, zs, hcs, _, hl, hm, hz, _, hcell, hwz⟩
    · simp [Value.cells] at hcs
      obtain ⟨rfl, rfl, rfl⟩ := hcs
      exact ⟨[], .inl ⟨rfl, rfl, rfl, rfl⟩⟩
    · simp [Value.cells] at hcs
      obtain ⟨rfl, rfl, rfl⟩ := hcs
      exact ⟨zs, .inr ⟨_, rfl, hl, hm, by simpa using hz, hcell, hwz⟩⟩
  have hT := of_laid hL
  clear hA0 hval0 hL
  refine (walk a0 a1 len1 cap1 z1 W w0 w1 hT).mono fun e W' ⟨he, bel⟩ => ?_
  subst he
  exact ⟨_, rfl, _, _, _, [], _, [], hW', trodAll_mk1 (shut_bool Tryd.underlying4 _), (trodAll_cons_mk (shut_int Tryd.underlying22 w0) (trodAll_cons_mk (Below.trod laidOut (by kernel_rfl) (of_decide_eq_true (by kernel_rfl)) k1 bel lt1) trodAll_mk0)), rfl, bel.frame _, fun h => by cases h⟩

theorem row_holds : Rows.MaskBackSaid :=
  OpenClaim.holds_of_wide 4 Tryd.f4 rfl rfl rfl rfl rfl rfl rfl ⟨rfl, rfl, rfl, rfl, rfl⟩ rfl rfl rfl rfl rfl (by kernel_rfl) Tryd.func4 (by kernel_rfl)
    (of_decide_eq_true (by kernel_rfl)) (by unfold Func.isWrapper; first | (rw [if_pos (by decide +kernel)]; kernel_rfl) | (rw [if_neg (by decide +kernel)]; exact ⟨rfl, rfl⟩))
    (fun os started H enc _ => lifted os started H enc)

/-- THE STATEMENT. -/
theorem card_holds : Rows.MaskBackCardSaid :=
  Claim7.holds_tied_plain_at .later [] [.data] true (true, Rows.maskBackCard.stood.harness.2) false
    row_holds (fun _ h => by cases h) (by kernel_rfl) (fun _ h => by cases h) maskBack_row_tie rfl ⟨rfl, rfl⟩ (by kernel_rfl) rfl
    (fun f fn hf hfn => by
      obtain rfl : f = 4 := Option.some.inj ((show Tryd.prog.funcNamed Rows.maskBackRow.func = some 4 by kernel_rfl).symm.trans hf) |>.symm
      obtain rfl : fn = Tryd.f4 := (Option.some.inj (Tryd.func4.symm.trans hfn)).symm
      exact ⟨by kernel_rfl, fun j t ht => by
        rw [Tryd.params4] at ht
        have hm : t ∈ [22, 23] := by simpa using Array.mem_of_getElem? ht
        have hall : ([22, 23].all fun u => !Tryd.prog.wantsStandIn u) = true := by kernel_rfl
        exact (show Tryd.prog.wantsStandIn t = false by simpa using List.all_eq_true.1 hall t hm)⟩)
    (by kernel_rfl)

end Go.Proofs.YtldameiggeibnaaDoor.maskBack
