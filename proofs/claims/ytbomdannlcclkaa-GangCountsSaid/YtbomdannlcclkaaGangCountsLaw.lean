/- Each record is in just one state's list; all lists together are all records; numbers are 1 and on: the law GangCounts answers true, at every input. -/
import Derived.Test.YtbomdannlcclkaaFrame
import Derived.Test.YtbomdannlcclkaaHeldOn
import Derived.Test.YtbomdannlcclkaaGaArgs
set_option linter.unusedVariables false
namespace Go.Proofs.Ytbomdannlcclkaa.gangCounts
open Go Go.ChangeShapes Go.WideShapes Go.ChangeAt Go.RowKit
theorem sub_i64 {a b : Int} (h : -9223372036854775808 ≤ a - b) (h2 : a - b ≤ 9223372036854775807) : IntKind.i64.wrap (a - b) = a - b := IntWalk.i64_in _ (by omega)
set_option maxRecDepth 100000 in
set_option maxHeartbeats 8000000 in
theorem walk (Aq : Option Addr) (cq : Nat) (l : List Ga) (w : World) (hvl : Gas w w.heap.size Aq l) (hql : ∀ a ∈ l, GaW a) (lcl : l.length ≤ cq) (mcl : cq ≤ maxLen) :
    Calls Try.prog 7 #[.slice Aq l.length cq] w fun e w' => e = .returned (.bool true) ∧ Below w.heap.size w w' := by
  have AW := Lib.hid (awake_any w)
  unfold maxLen at mcl
  obtain ⟨u, hu⟩ : ∃ u, u = l.length := ⟨_, rfl⟩
  have H := Lib.hid (And.intro hvl hu)
  rw [← hu] at lcl ⊢
  clear hvl hql hu
  go_enter Try.func7, Try.ntmps7
  go_wp2_with fail
  refine AW.out.mono ?_
  rintro e w1 ⟨rfl, hb1⟩
  have HB1 := Lib.hid hb1
  clear hb1 AW
  by_cases h100 : 100 < u
  · have t0 : decide (100 < (u : Int)) = true := decide_eq_true (by omega)
    clear h100
    go_wp2
    go_ret
    exact ⟨by first | rfl | (simp; done), HB1.out⟩
  have t0 : decide (100 < (u : Int)) = false := decide_eq_false (by omega)
  have hNe := new_m HB1.out
  go_wp2_with fail
  refine hNe.mono ?_
  rintro e w2 ⟨rfl, hm2⟩
  obtain ⟨p, hp⟩ : ∃ p, p = w1.heap.size := ⟨_, rfl⟩
  rw [← hp] at hm2 ⊢
  have HM2 := Lib.hid hm2
  clear hm2 hNe hp t0
  go_wp2
  go_loopw [4] (fun vi wr => ∃ i : Nat, vi = .int .i64 i ∧ i ≤ u ∧ Hid (∃ L, GL.Inv L ∧ L.length ≤ i ∧ GaMade 68 w wr p L (fun _ => False))) (fun vi _ => match vi with | .int _ i => u - i.toNat | _ => 0)
  case atStart => exact ⟨0, rfl, by omega, Lib.hid ⟨[], GL.Inv.nil, Nat.le_refl _, HM2.out.less (fun _ h => h.elim)⟩⟩
  case round =>
    clear HM2
    obtain ⟨i, rfl, hi, hM⟩ := hrel
    by_cases hlt : i < u
    · obtain ⟨L, hI, hL, hm⟩ := hM.out
      obtain ⟨a, ha⟩ : ∃ a, l[i]? = some a := ⟨_, List.getElem?_eq_getElem (by rw [← H.out.2]; exact hlt)⟩
      obtain ⟨b, off, rfl, hb, hc⟩ := H.out.1.at_ ha
      have t1 : decide (i < u) = true := decide_eq_true hlt
      have HX := Lib.hid ((hc i a ha).keep hb hm.below)
      have hDo := do_m hm a
      have HI := Lib.hid (And.intro (hI.act a) (GL.act_len (a := a) hL))
      clear hM hm ha hc hb hI hL
      go_wp2_with (first
        | (refine wpList_load_ga rfl _ rfl b (off + i * 12) a rfl HX.out ?_)
        | fail)
      refine hDo.mono ?_
      rintro e w3 ⟨rfl, hm3, _⟩
      have HM3 := Lib.hid (show ∃ L, GL.Inv L ∧ L.length ≤ i + 1 ∧ GaMade 68 w w3 p L (fun _ => False) from ⟨_, HI.out.1, HI.out.2, hm3⟩)
      clear hm3 hDo
      go_wp2
      go_roundw
      case rel => exact ⟨i + 1, by go_num, by omega, HM3⟩
      case measure => simp; omega
    · have t1 : decide (i < u) = false := decide_eq_false hlt
      obtain ⟨L, hI, hL, hm⟩ := hM.out
      have HI := Lib.hid hI
      have HM := Lib.hid hm
      have hLl : L.length ≤ 100 := by omega
      have HC0 : Hid (GL.cnt L 0 = 0) := Lib.hid (GL.cnt_zero hI.ok)
      clear hM hm hI hL hlt
      go_wp2
      go_loopw [5, 6] (fun vn vs wr => ∃ (s n : Nat), vn = .int .i64 n ∧ vs = .int .i64 s ∧ s ≤ 8 ∧ n ≤ 100 ∧ Hid (n = GL.cnt L s) ∧ Hid (GaMade 68 w wr p L (fun _ => False))) (fun _ vs _ => match vs with | .int _ i => 8 - i.toNat | _ => 0)
      case atStart => exact ⟨0, 0, rfl, rfl, by omega, by omega, Lib.hid HC0.out.symm, HM⟩
      case round =>
        clear HM HC0
        obtain ⟨s, n, rfl, rfl, hs, hn, hN, hM⟩ := hrel
        by_cases hs7 : s ≤ 7
        · have t2 : decide ((s : Int) ≤ 7) = true := decide_eq_true (by omega)
          have hIn := in_m hM.out (s : Int)
          have hcl : GL.cnt L (s + 1) ≤ 100 := Nat.le_trans (GL.cnt_le L _) hLl
          have hcs : GL.cnt L (s + 1) = n + (GL.inL L s).length := by rw [GL.cnt_succ, ← hN.out]
          have HCS := Lib.hid hcs
          rw [hcs] at hcl
          obtain ⟨v, hv⟩ : ∃ v, v = (GL.inL L s).length := ⟨_, rfl⟩
          rw [← hv] at hIn hcl HCS
          have HV := Lib.hid hv
          clear hcs hv
          go_wp2_with fail
          refine hIn.mono ?_
          rintro e w3 ⟨A, c, rfl, hc1, hc2, hE, hA, hb3⟩
          have HM3 := Lib.hid (hM.out.keep hb3)
          have HE := Lib.hid (And.intro hE hA)
          have HB0 := Lib.hid (Below.refl w3.heap.size w3)
          clear hE hA hb3 hIn hM
          go_wp2
          go_loopw [8] (fun vk wx => ∃ k : Nat, vk = .int .i64 k ∧ k ≤ v ∧ Hid (Below w3.heap.size w3 wx)) (fun vk _ => match vk with | .int _ i => v - i.toNat | _ => 0)
          case atStart => exact ⟨0, rfl, by omega, HB0⟩
          case round =>
            clear HB0
            obtain ⟨k, rfl, hk, hB⟩ := hrel
            by_cases hkv : k < v
            · have t3 : decide (k < v) = true := decide_eq_true hkv
              obtain ⟨x, hx⟩ : ∃ x, (GL.inL L s)[k]? = some x := ⟨_, List.getElem?_eq_getElem (by rw [← HV.out]; exact hkv)⟩
              obtain ⟨b, hAb, hbB, hr⟩ := rcs_get HE.out.1 (fun b off e => (HE.out.2 b off e).2.2) hx
              have hr1 := hr.keep hbB hB.out
              have z8 : wr.cell? ⟨b, k * 16 + 8, none⟩ = some (.int .i64 x.st) := hr1 8 _ rfl
              have z10 : wr.cell? ⟨b, k * 16 + 10, none⟩ = some (.int .i64 x.nu) := hr1 10 _ rfl
              have t4 : (x.st != (s : Int)) = false := by simp [GL.inL_st hx]
              subst hAb
              cases k with
              | zero =>
                have t5 : decide ((0 : Int) < ((0 : Nat) : Int)) = false := by simp
                clear hr hr1 hx
                go_wp2
                go_quiet (fail)
                have HBq := Lib.hid (hB.out.trans (below_drewN (Below.refl _ _) nq))
                clear hB
                go_wp2
                go_roundw
                case rel => exact ⟨1, by go_num, by omega, HBq⟩
                case measure => simp; omega
              | succ j =>
                obtain ⟨y, hy⟩ : ∃ y, (GL.inL L s)[j]? = some y := ⟨_, List.getElem?_eq_getElem (by rw [← HV.out]; omega)⟩
                obtain ⟨b', hAb', _, hry⟩ := rcs_get HE.out.1 (fun b off e => (HE.out.2 b off e).2.2) hy
                obtain rfl : b = b' := by injection hAb' with e; injection e
                have y10 : wr.cell? ⟨b, j * 16 + 10, none⟩ = some (.int .i64 y.nu) := (hry.keep hbB hB.out) 10 _ rfl
                have hlt := GL.inL_rise HI.out hy hx
                have t5 : decide (x.nu ≤ y.nu) = false := decide_eq_false (by omega)
                have hsb : IntKind.i64.wrap (((j + 1 : Nat) : Int) - 1) = (j : Int) := by rw [IntWalk.i64_in _ (by omega)]; omega
                have hjv : j < v := by omega
                clear hr hr1 hx hry hy hlt hAb'
                go_wp2
                go_quiet (fail)
                have HBq := Lib.hid (hB.out.trans (below_drewN (Below.refl _ _) nq))
                clear hB
                go_wp2
                go_roundw
                case rel => exact ⟨j + 2, by go_num, by omega, HBq⟩
                case measure => simp; omega
            · have t3 : decide (k < v) = false := decide_eq_false hkv
              have HMb := Lib.hid (HM3.out.keep hB.out)
              have hnv : n + v ≤ 100 := hcl
              have hwn : IntKind.i64.wrap ((n : Int) + (v : Int)) = ((n + v : Nat) : Int) := by rw [IntWalk.i64_in _ (by omega)]; omega
              clear hB hkv hk
              go_wp2
              go_roundw
              case rel => exact ⟨s + 1, n + v, rfl, by go_num, by omega, by omega, Lib.hid HCS.out.symm, HMb⟩
              case measure => simp; omega
        · have t2 : decide ((s : Int) ≤ 7) = false := decide_eq_false (by omega)
          have hs8 : s = 8 := by omega
          have hNL : Hid (n = L.length) := Lib.hid (by rw [hN.out, hs8, GL.cnt_all HI.out.ok])
          have hAl := all_m hM.out
          clear hs8 hN hs7
          go_wp2_with fail
          refine hAl.mono ?_
          rintro e w3 ⟨A, c, rfl, hc1, hc2, hE, hA, hb3⟩
          have HM3 := Lib.hid (below_step hM.out.below hb3)
          have HE := Lib.hid (And.intro hE hA)
          have HB0 := Lib.hid (Below.refl w3.heap.size w3)
          obtain ⟨v, hv⟩ : ∃ v, v = L.length := ⟨_, rfl⟩
          rw [← hv] at hLl hNL hc1 ⊢
          have HV := Lib.hid hv
          clear hE hA hb3 hAl hM hv
          go_wp2
          go_loopw [10] (fun vk wx => ∃ k : Nat, vk = .int .i64 k ∧ k ≤ v ∧ Hid (Below w3.heap.size w3 wx)) (fun vk _ => match vk with | .int _ i => v - i.toNat | _ => 0)
          case atStart => exact ⟨0, rfl, by omega, HB0⟩
          case round =>
            clear HB0
            obtain ⟨k, rfl, hk, hB⟩ := hrel
            by_cases hkv : k < v
            · have t3 : decide (k < v) = true := decide_eq_true hkv
              obtain ⟨x, hx⟩ : ∃ x, L[k]? = some x := ⟨_, List.getElem?_eq_getElem (by rw [← HV.out]; exact hkv)⟩
              obtain ⟨b, hAb, hbB, hr⟩ := rcs_get HE.out.1 (fun b off e => (HE.out.2 b off e).2.2) hx
              have z10 : wr.cell? ⟨b, k * 16 + 10, none⟩ = some (.int .i64 x.nu) := (hr.keep hbB hB.out) 10 _ rfl
              have hnu := HI.out.nu k x hx
              have hwk : IntKind.i64.wrap ((k : Int) + 1) = (k : Int) + 1 := IntWalk.i64_in _ (by omega)
              have t4 : (x.nu != (k : Int) + 1) = false := by simp [hnu]
              subst hAb
              clear hr hx hnu
              go_wp2
              (try go_quiet (fail))
              (try go_wp2)
              go_roundw
              case rel => exact ⟨k + 1, by go_num, by omega, by first | exact hB | exact Lib.hid (hB.out.trans (below_drewN (Below.refl _ _) nq))⟩
              case measure => simp; omega
            · have t3 : decide (k < v) = false := decide_eq_false hkv
              have hnv : n = v := hNL.out
              subst hnv
              clear hkv hk hNL
              go_wp2
              go_ret
              exact ⟨by first | rfl | (simp; done), HM3.out.trans (hB.out.mono HM3.out.size)⟩

set_option maxRecDepth 100000 in
set_option maxHeartbeats 1000000 in
theorem lifted (os : Os) (started : os.Started) (H : Type) (enc : TypeId × Value → H) :
    ReturnsInHanded {} Try.checked os 7 .any (Rows.gangCountsSpec.pre6 enc Try.prog Try.f7 Rows.gangCountsRow.domain false) (Rows.gangCountsSpec.post enc Try.prog Try.f7 false true false false) := by
  refine returnsInHanded_of_change (C := Try.checked) own started (by kernel_rfl) Try.func7
    (ChangeSpec.witness6 (enc := enc) (C := Try.checked) false ⟨#[], #[.slice none 0 0], []⟩ 8 (by kernel_rfl) (by kernel_rfl) (by kernel_rfl) (by kernel_rfl)) ?_
  intro W base args ds gs before hval0 hW _ _
  have hval : ∀ (j : Nat) t v, Try.f7.params[j]? = some t → args[j]? = some v → Value.okWide Try.prog W .any base t v := hval0
  have hW' := hW
  obtain ⟨p, q, hA0, hV, rfl, hfz, hnd⟩ := hW
  have hA : DataW.TrodAll enc Try.prog W 0 (fun _ => true) true Try.f7.params.toList args.toList ds p := hA0
  rw [Try.params7] at hA hval
  obtain ⟨v0, vs0, d0, ds0, p0, q0, hargs, rfl, rfl, h0, r0⟩ := trodAll_cons hA
  obtain ⟨rfl, rfl, rfl⟩ := trodAll_nil r0
  obtain rfl : args = #[v0] := by cases args; simp_all
  obtain ⟨rfl, rfl⟩ := trodVars_none hV
  have k0 := h0
  have lt0 : ∀ x ∈ p0, x.block < W.heap.size := by obtain ⟨m, hm⟩ := k0; exact DataW.trod_lt m _ _ _ hm
  obtain ⟨a0, c0, l0, rfl, lc0, mc0, v0, q0⟩ := gas_of (hval 0 30 v0 rfl rfl) h0
  clear hA0 hval0
  refine (walk a0 c0 l0 W v0 q0 lc0 mc0).mono fun e W' ⟨he, bel⟩ => ?_
  subst he
  exact ⟨_, rfl, _, _, _, [], _, [], hW', trodAll_mk1 (shut_bool Try.underlying4 _), (trodAll_cons_mk (Below.trod laidOut (by kernel_rfl) (of_decide_eq_true (by kernel_rfl)) k0 bel lt0) trodAll_mk0), rfl, bel.frame _, fun h => by cases h⟩

/-- THE STATEMENT. -/
theorem holds : Rows.GangCountsSaid :=
  OpenClaim.holds_of_wide 7 Try.f7 rfl rfl rfl rfl rfl rfl rfl ⟨rfl, rfl, rfl, rfl, rfl⟩ rfl rfl rfl rfl rfl (by kernel_rfl) Try.func7 (by kernel_rfl)
    (of_decide_eq_true (by kernel_rfl)) (by unfold Func.isWrapper; first | (rw [if_pos (by decide +kernel)]; kernel_rfl) | (rw [if_neg (by decide +kernel)]; exact ⟨rfl, rfl⟩))
    (fun os started H enc _ => lifted os started H enc)
end Go.Proofs.Ytbomdannlcclkaa.gangCounts
