/- All waits, sorted, are just layer 9's order of them, or refused: the law QueueSorts answers true, at every input. -/
import Derived.Test.YtdeniikaddlifaaFrame
import Derived.Test.YtdeniikaddlifaaHeldOn
import Derived.Test.YtdeniikaddlifaaOrdRefS
import Derived.Test.YtdeniikaddlifaaOrdSame
import Derived.Test.YtdeniikaddlifaaQuSorted
import Derived.Test.YtdeniikaddlifaaQuAwake
set_option linter.unusedVariables false
namespace Go.Proofs.Ytdeniikaddlifaa.queueSorts
open Go Go.ChangeShapes Go.WideShapes Go.ChangeAt Go.RowKit
set_option maxRecDepth 100000 in
set_option maxHeartbeats 8000000 in
theorem walk (A : Option Addr) (c : Nat) (R : List Int) (Al : Option Addr) (cl : Nat) (l : List Qk) (now age : Int) (w : World) (hv : Nums w w.heap.size A R) (hq : ∀ a ∈ R, (Lit.int .i64 a).wf = true) (lc : R.length ≤ c) (mc : c ≤ maxLen)
    (hvl : Qks w w.heap.size Al l) (hql : ∀ a ∈ l, QkW a) (lcl : l.length ≤ cl) (mcl : cl ≤ maxLen) (wn : (Lit.int .i64 now).wf = true) (wa : (Lit.int .i64 age).wf = true) :
    Calls Try.prog 4 #[.slice A R.length c, .slice Al l.length cl, .int .i64 now, .int .i64 age] w fun e w' => e = .returned (.bool true) ∧ Below w.heap.size w w' := by
  have AW := Lib.hid (fun W => awake_q W)
  unfold maxLen at mc mcl
  obtain ⟨n, hn⟩ : ∃ n, n = R.length := ⟨_, rfl⟩
  obtain ⟨u, hu⟩ : ∃ u, u = l.length := ⟨_, rfl⟩
  have HRi := Lib.hid (fun W (hW : Below w.heap.size w W) => right_r A c R W (hv.keep hW hW.size) (by omega))
  have HNe := Lib.hid (fun W (hW : Below w.heap.size w W) (h : R.length ≤ 1000000) => new_i A c R w W hW (hv.keep hW hW.size) h)
  have H := Lib.hid (And.intro hv (And.intro hn (And.intro hvl (And.intro hu hql))))
  have HT := Lib.hid (fun W => reftime_any now age W)
  rw [← hn] at HRi HNe lc ⊢
  rw [← hu] at lcl ⊢
  clear hv hn hq hvl hu hql
  go_enter Try.func4, Try.ntmps4
  go_wp2_with fail
  refine (AW.out _).mono ?_
  rintro e w1 ⟨rfl, hb1⟩
  have HB1 := Lib.hid hb1
  have hRi := HRi.out w1 hb1
  clear hb1 AW HRi
  go_wp2_with fail
  refine hRi.mono ?_
  rintro e w2 ⟨rfl, hb2⟩
  have HB2 := Lib.hid (below_step HB1.out hb2)
  clear hb2 hRi HB1
  obtain ⟨rg, hrg⟩ : ∃ rg, rg = QL.right R := ⟨_, rfl⟩
  rw [← hrg]
  have HRG := Lib.hid hrg
  clear hrg
  cases rg
  · go_wp2
    go_ret
    exact ⟨by first | rfl | (simp; done), HB2.out⟩
  by_cases h100 : 100 < u
  · have t0 : decide ((100 : Int) < (u : Int)) = true := decide_eq_true (by omega)
    go_wp2
    go_ret
    exact ⟨by first | rfl | (simp; done), HB2.out⟩
  have t0 : decide ((100 : Int) < (u : Int)) = false := decide_eq_false (by omega)
  have hRt := QL.right_iff.1 HRG.out.symm
  have hn8 : n ≤ 8 := by rw [H.out.2.1]; exact hRt.hi
  have hNe := HNe.out w2 HB2.out (by omega)
  clear hRt HNe
  go_wp2_with fail
  refine hNe.mono ?_
  rintro e w3 (⟨hbad, _⟩ | ⟨_, p, rfl, hQ⟩)
  · rw [← HRG.out] at hbad; cases hbad
  have HQ := Lib.hid hQ
  clear hQ hNe
  clear h100
  go_wp2
  go_loopw [11] (fun vi wr => ∃ i : Nat, vi = .int .i64 (i : Nat) ∧ i ≤ u ∧ Hid (∃ L, QuIn w wr p R L)) (fun vi _ => u - (intOf vi).toNat)
  case atStart => exact ⟨0, rfl, by omega, Lib.hid ⟨_, HQ.out⟩⟩
  case round =>
    clear HQ
    obtain ⟨i, rfl, hiu, HQ⟩ := hrel
    obtain ⟨L, hL⟩ := HQ.out
    have HQ' := Lib.hid hL
    clear HQ hL
    by_cases hlt : i < u
    · have t1 : decide (i < u) = true := decide_eq_true hlt
      obtain ⟨a, ha⟩ := get_lt (l := l) (k := i) (by rw [← H.out.2.2.2.1]; exact hlt)
      obtain ⟨b, off, rfl, hb, hcc⟩ := H.out.2.2.1.at_ ha
      have hca := (hcc i a ha).keep hb HQ'.out.b
      have a0 : wr.cell? ⟨b, off + i * 11, none⟩ = some (.int .i64 a.k) := hca 0 _ rfl
      have a1 : wr.cell? ⟨b, off + i * 11 + 1, none⟩ = some (.int .i64 a.x.id) := hca 1 _ rfl
      have a2 : wr.cell? ⟨b, off + i * 11 + 2, none⟩ = some (.int .i64 a.x.q) := hca 2 _ rfl
      have a3 : wr.cell? ⟨b, off + i * 11 + 3, none⟩ = some (.int .i64 a.x.p) := hca 3 _ rfl
      have a4 : wr.cell? ⟨b, off + i * 11 + 4, none⟩ = some (.int .i64 a.x.r) := hca 4 _ rfl
      have a5 : wr.cell? ⟨b, off + i * 11 + 5, none⟩ = some (.int .i64 a.x.g) := hca 5 _ rfl
      have a6 : wr.cell? ⟨b, off + i * 11 + 6, none⟩ = some (.int .i64 a.x.c) := hca 6 _ rfl
      have a7 : wr.cell? ⟨b, off + i * 11 + 7, none⟩ = some (.int .i64 a.x.mn) := hca 7 _ rfl
      have a8 : wr.cell? ⟨b, off + i * 11 + 8, none⟩ = some (.int .i64 a.x.mx) := hca 8 _ rfl
      have a9 : wr.cell? ⟨b, off + i * 11 + 9, none⟩ = some (.int .i64 a.x.s) := hca 9 _ rfl
      have a10 : wr.cell? ⟨b, off + i * 11 + 10, none⟩ = some (.int .i64 a.x.n) := hca 10 _ rfl
      have HAc := Lib.hid ha
      clear ha hcc hca
      have hA := do_i p R L a w wr HQ'.out
      simp only [wtV, wtA, qkV, qkA] at hA
      clear hb
      go_wp2_with fail
      refine hA.mono ?_
      rintro e w4 ⟨rfl, hQ4⟩
      have HQ4 : Hid (∃ L, QuIn w w4 p R L) := Lib.hid ⟨_, hQ4⟩
      clear hQ4 hA HQ' a0 a1 a2 a3 a4 a5 a6 a7 a8 a9 a10
      go_wp2
      go_roundw
      case rel => exact ⟨i + 1, by go_num, by omega, HQ4⟩
      case measure => simp [intOf]; omega
    · have t1 : decide (i < u) = false := decide_eq_false hlt
      have hAl := all_i p R L w wr HQ'.out
      have hmm := HQ'.out.inv.all
      obtain ⟨M, hM⟩ : ∃ M, M = QL.allL R.length L := ⟨_, rfl⟩
      rw [← hM] at hAl hmm
      obtain ⟨v, hvv⟩ : ∃ v, v = M.length := ⟨_, rfl⟩
      rw [← hvv] at hAl hmm
      have HM := Lib.hid (And.intro hM hvv)
      clear hM hvv hlt
      go_wp2_with fail
      refine hAl.mono ?_
      rintro e w4 ⟨A4, c4, rfl, h4c, h4m, h4w, hb4⟩
      have HQ4 := Lib.hid (HQ'.out.keep hb4)
      have HW4 := Lib.hid h4w
      unfold maxLen at h4m
      clear h4w hb4 hAl HQ'
      go_wp2_with fail
      refine (HT.out _).mono ?_
      rintro e w5 ⟨rfl, rfl⟩
      have HB5 := Lib.hid (Below.refl w4.heap.size w4)
      have HO0 : Hid (mayA now age = (mayA now age && (M.take 0).all mayW)) := Lib.hid (by simp)
      clear HT
      go_wp2
      go_loopw [13, 14] (fun vo vi wr => ∃ (i : Nat) (o : Bool), vo = .bool o ∧ vi = .int .i64 (i : Nat) ∧ i ≤ v ∧ Hid (Below w4.heap.size w4 wr) ∧ Hid (o = (mayA now age && (M.take i).all mayW))) (fun _ vi _ => v - (intOf vi).toNat)
      case atStart => exact ⟨0, _, rfl, rfl, by omega, HB5, HO0⟩
      case round =>
        clear HB5 HO0
        obtain ⟨j, o, rfl, rfl, hjv, hB, hO⟩ := hrel
        by_cases hlt : j < v
        · obtain ⟨x, hx⟩ := get_lt (l := M) (k := j) (by rw [← HM.out.2]; exact hlt)
          have t2 : decide (j < v) = true := decide_eq_true hlt
          cases o
          · have HN : Hid (false = (mayA now age && (M.take (j + 1)).all mayW)) := Lib.hid (by
              rw [take_next hx, List.all_append, ← Bool.and_assoc, ← hO.out]; rfl)
            clear hO hx
            go_wp2
            go_roundw
            case rel => exact ⟨j + 1, _, rfl, by go_num, by omega, hB, HN⟩
            case measure => simp [intOf]; omega
          · obtain ⟨b, off, rfl, hb, hc⟩ := HW4.out.at_ hx
            have hcx := (hc j x hx).keep hb hB.out
            have hR := Lib.hid (refright_any x wr)
            have HN : Hid (mayW x = (mayA now age && (M.take (j + 1)).all mayW)) := Lib.hid (by
              rw [take_next hx, List.all_append, ← Bool.and_assoc, ← hO.out]; simp)
            obtain ⟨z, hz⟩ : ∃ z, z = mayW x := ⟨_, rfl⟩
            rw [← hz] at hR HN
            simp only [wtV, wtA] at hR
            have a0 : wr.cell? ⟨b, off + j * 10, none⟩ = some (.int .i64 x.id) := hcx 0 _ rfl
            have a1 : wr.cell? ⟨b, off + j * 10 + 1, none⟩ = some (.int .i64 x.q) := hcx 1 _ rfl
            have a2 : wr.cell? ⟨b, off + j * 10 + 2, none⟩ = some (.int .i64 x.p) := hcx 2 _ rfl
            have a3 : wr.cell? ⟨b, off + j * 10 + 3, none⟩ = some (.int .i64 x.r) := hcx 3 _ rfl
            have a4 : wr.cell? ⟨b, off + j * 10 + 4, none⟩ = some (.int .i64 x.g) := hcx 4 _ rfl
            have a5 : wr.cell? ⟨b, off + j * 10 + 5, none⟩ = some (.int .i64 x.c) := hcx 5 _ rfl
            have a6 : wr.cell? ⟨b, off + j * 10 + 6, none⟩ = some (.int .i64 x.mn) := hcx 6 _ rfl
            have a7 : wr.cell? ⟨b, off + j * 10 + 7, none⟩ = some (.int .i64 x.mx) := hcx 7 _ rfl
            have a8 : wr.cell? ⟨b, off + j * 10 + 8, none⟩ = some (.int .i64 x.s) := hcx 8 _ rfl
            have a9 : wr.cell? ⟨b, off + j * 10 + 9, none⟩ = some (.int .i64 x.n) := hcx 9 _ rfl
            clear hO hx hc hcx hz hb
            go_wp2_with (go_at_call 21; refine hR.out.mono ?_; rintro e w6 ⟨rfl, hb6⟩)
            have HB6 := Lib.hid (below_step hB.out hb6)
            clear hB hb6 hR a0 a1 a2 a3 a4 a5 a6 a7 a8 a9
            go_roundw
            case rel => exact ⟨j + 1, _, rfl, by go_num, by omega, HB6, HN⟩
            case measure => simp [intOf]; omega
        · obtain rfl : v = j := by omega
          have HE := Lib.hid (show o = (mayA now age && M.all mayW) by rw [hO.out, HM.out.2, List.take_length])
          have t2 : decide (v < v) = false := decide_eq_false hlt
          have HQ5 := Lib.hid (HQ4.out.keep hB.out)
          have HW5 := Lib.hid (HW4.out.keep hB.out hB.out.size)
          have hSo := sorted_i p R L now age w wr HQ5.out
          rw [← HM.out.1] at hSo
          clear hO hlt hB HQ4 HW4
          go_wp2_with fail
          refine hSo.mono ?_
          rintro e w6 ⟨hb6, hcase⟩
          have HQ6 := Lib.hid (HQ5.out.keep hb6)
          have HW6 := Lib.hid (HW5.out.keep hb6 hb6.size)
          clear hb6 hSo HQ5 HW5
          rcases hcase with ⟨hm, rfl⟩ | ⟨hm, vS, D, w9, rfl, hS⟩
          · obtain rfl : o = false := by rw [HE.out]; exact hm
            have HQB := Lib.hid HQ6.out.b
            clear hm
            go_wp2
            go_ret
            exact ⟨by first | rfl | (simp; done), HQB.out⟩
          · obtain rfl : o = true := by rw [HE.out]; exact hm
            have HMM := Lib.hid hm
            obtain ⟨A6, c6, rfl, hw6, _⟩ := hS.row
            have HS := Lib.hid (And.intro hS hw6)
            have hRS : Calls Try.prog 23 #[.slice A4 v c4, .int .i64 now, .int .i64 age] w6 fun e w' => ∃ v D, e = .returned v ∧ Sorted now age M w6 w' v D ∧ Below w6.heap.size w6 w' := by
              have h := HMM.out
              rw [Bool.and_eq_true, mayA_iff] at h
              have := refsort_any A4 c4 M now age w6 HW6.out (by rw [← HM.out.2]; omega) h.1.1 (by omega) h.1.2.2.1 h.1.2.2.2 h.2
              rwa [← HM.out.2] at this
            rw [← HM.out.2]
            have HAl := Lib.hid (fun W (hW : QuIn w W p R L) => all_i p R L w W hW)
            rw [← HM.out.1, ← HM.out.2] at HAl
            clear hm hS hw6
            go_wp2_with fail
            refine hRS.mono ?_
            rintro e w7 ⟨v7, D7, rfl, hS7, hb7⟩
            obtain ⟨A7, c7, rfl, hw7, _⟩ := hS7.row
            have hSame := refsame_eq A6 A7 c6 c7 (D.map (eW M)) w7 (HS.out.2.keep hb7 hb7.size) (by rw [HS.out.1.same hS7]; exact hw7) (by have := HS.out.1.perm.length_eq; rw [List.length_range] at this; rw [List.length_map, this, ← HM.out.2]; omega)
            have hDl : (D.map (eW M)).length = v := by have := HS.out.1.perm.length_eq; rw [List.length_range] at this; rw [List.length_map, this, ← HM.out.2]
            rw [hDl] at hSame
            rw [← HM.out.2]
            have HQ7 := Lib.hid (HQ6.out.keep hb7)
            have HW7 := Lib.hid (HW6.out.keep hb7 hb7.size)
            clear hRS hS7 hw7 hb7 hDl
            go_wp2_with fail
            refine hSame.mono ?_
            rintro e w8 ⟨rfl, hb8⟩
            have HQ8 := Lib.hid (HQ7.out.keep hb8)
            have HW8 := Lib.hid (HW7.out.keep hb8 hb8.size)
            have hAl2 := HAl.out w8 HQ8.out
            clear hb8 hSame HQ7 HW7 HQ6 HW6 HAl
            go_wp2_with fail
            refine hAl2.mono ?_
            rintro e w10 ⟨A10, c10, rfl, _, _, hw10, hb10⟩
            have hSame2 := refsame_eq A10 A4 c10 c4 M w10 hw10 (HW8.out.keep hb10 hb10.size) (by rw [← HM.out.2]; omega)
            rw [← HM.out.2] at hSame2
            have HQ10 := Lib.hid (HQ8.out.keep hb10)
            clear hw10 hb10 hAl2
            go_wp2_with fail
            refine hSame2.mono ?_
            rintro e w11 ⟨rfl, hb11⟩
            have HQ11 := Lib.hid (HQ10.out.keep hb11)
            clear hb11 hSame2
            go_wp2
            go_ret
            exact ⟨by first | rfl | (simp; done), HQ11.out.b⟩

set_option maxRecDepth 100000 in
set_option maxHeartbeats 1000000 in
theorem lifted (os : Os) (started : os.Started) (H : Type) (enc : TypeId × Value → H) :
    ReturnsInHanded {} Try.checked os 4 .any (Rows.queueSortsSpec.pre6 enc Try.prog Try.f4 Rows.queueSortsRow.domain false) (Rows.queueSortsSpec.post enc Try.prog Try.f4 false true false false) := by
  refine returnsInHanded_of_change (C := Try.checked) own started (by kernel_rfl) Try.func4
    (ChangeSpec.witness6 (enc := enc) (C := Try.checked) false ⟨#[], #[.slice none 0 0, .slice none 0 0, .int .i64 0, .int .i64 0], []⟩ 8 (by kernel_rfl) (by kernel_rfl) (by kernel_rfl) (by kernel_rfl)) ?_
  intro W base args ds gs before hval0 hW _ _
  have hval : ∀ (j : Nat) t v, Try.f4.params[j]? = some t → args[j]? = some v → Value.okWide Try.prog W .any base t v := hval0
  have hW' := hW
  obtain ⟨p, q, hA0, hV, rfl, hfz, hnd⟩ := hW
  have hA : DataW.TrodAll enc Try.prog W 0 (fun _ => true) true Try.f4.params.toList args.toList ds p := hA0
  rw [Try.params4] at hA hval
  obtain ⟨v0, vs0, d0, ds0, p0, q0, hargs, rfl, rfl, h0, r0⟩ := trodAll_cons hA
  obtain ⟨v1, vs1, d1, ds1, p1, q1, rfl, rfl, rfl, h1, r1⟩ := trodAll_cons r0
  obtain ⟨v2, vs2, d2, ds2, p2, q2, rfl, rfl, rfl, h2, r2⟩ := trodAll_cons r1
  obtain ⟨v3, vs3, d3, ds3, p3, q3, rfl, rfl, rfl, h3, r3⟩ := trodAll_cons r2
  obtain ⟨rfl, rfl, rfl⟩ := trodAll_nil r3
  obtain rfl : args = #[v0, v1, v2, v3] := by cases args; simp_all
  obtain ⟨rfl, rfl⟩ := trodVars_none hV
  have k0 := h0
  have lt0 : ∀ x ∈ p0, x.block < W.heap.size := by obtain ⟨m, hm⟩ := k0; exact DataW.trod_lt m _ _ _ hm
  obtain ⟨a0, c0, l0, rfl, lc0, mc0, v0, q0⟩ := nums_of (hval 0 22 v0 rfl rfl) h0
  have k1 := h1
  have lt1 : ∀ x ∈ p1, x.block < W.heap.size := by obtain ⟨m, hm⟩ := k1; exact DataW.trod_lt m _ _ _ hm
  obtain ⟨a1, c1, l1, rfl, lc1, mc1, v1, q1⟩ := qks_of (hval 1 23 v1 rfl rfl) h1
  have k2 := h2
  have lt2 : ∀ x ∈ p2, x.block < W.heap.size := by obtain ⟨m, hm⟩ := k2; exact DataW.trod_lt m _ _ _ hm
  obtain ⟨a2, rfl, _, _, w2⟩ := open_int Try.underlying3 (hval 2 3 v2 rfl rfl) h2
  have k3 := h3
  have lt3 : ∀ x ∈ p3, x.block < W.heap.size := by obtain ⟨m, hm⟩ := k3; exact DataW.trod_lt m _ _ _ hm
  obtain ⟨a3, rfl, _, _, w3⟩ := open_int Try.underlying3 (hval 3 3 v3 rfl rfl) h3
  clear hA0 hval0
  refine (walk a0 c0 l0 a1 c1 l1 a2 a3 W v0 q0 lc0 mc0 v1 q1 lc1 mc1 w2 w3).mono fun e W' ⟨he, bel⟩ => ?_
  subst he
  exact ⟨_, rfl, _, _, _, [], _, [], hW', trodAll_mk1 (shut_bool Try.underlying4 _), (trodAll_cons_mk (Below.trod laidOut (by kernel_rfl) (of_decide_eq_true (by kernel_rfl)) k0 bel lt0) (trodAll_cons_mk (Below.trod laidOut (by kernel_rfl) (of_decide_eq_true (by kernel_rfl)) k1 bel lt1) (trodAll_cons_mk (Below.trod laidOut (by kernel_rfl) (of_decide_eq_true (by kernel_rfl)) k2 bel lt2) (trodAll_cons_mk (Below.trod laidOut (by kernel_rfl) (of_decide_eq_true (by kernel_rfl)) k3 bel lt3) trodAll_mk0)))), rfl, bel.frame _, fun h => by cases h⟩

/-- THE STATEMENT. -/
theorem holds : Rows.QueueSortsSaid :=
  OpenClaim.holds_of_wide 4 Try.f4 rfl rfl rfl rfl rfl rfl rfl ⟨rfl, rfl, rfl, rfl, rfl⟩ rfl rfl rfl rfl rfl (by kernel_rfl) Try.func4 (by kernel_rfl)
    (of_decide_eq_true (by kernel_rfl)) (by unfold Func.isWrapper; first | (rw [if_pos (by decide +kernel)]; kernel_rfl) | (rw [if_neg (by decide +kernel)]; exact ⟨rfl, rfl⟩))
    (fun os started H enc _ => lifted os started H enc)
end Go.Proofs.Ytdeniikaddlifaa.queueSorts
