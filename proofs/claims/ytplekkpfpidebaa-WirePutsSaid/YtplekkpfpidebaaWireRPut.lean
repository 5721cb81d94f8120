/- The document's Put. -/
import Derived.Deep.CutRange
import Derived.Deep.CutBlock
import Derived.RegionTactic
import Derived.BigRegion
import Derived.Test.YtplekkpfpidebaaHeldOn
import Derived.Test.YtplekkpfpidebaaWireNum
import Derived.Test.YtplekkpfpidebaaWireAPut
import Derived.Test.YtplekkpfpidebaaWireTakA
set_option linter.unusedVariables false
set_option linter.unusedSimpArgs false
set_option maxRecDepth 100000
namespace Go.Proofs.Ytplekkpfpidebaa
open Go.RowKit
attribute [local go_sem] bs_size bs_list bs_app
theorem fit_pz {n : Int} {c : Nat} (h : WM.fit n c = true) : 0 ≤ n := (WM.fit_iff.1 h).1
theorem sizeZ_none {k : Int} (h : ¬ (0 ≤ k ∧ k < 8)) : sizeZ k = -1 ∧ WM.size k = none := by
  have : WM.size k = none := by
    unfold WM.size
    rw [if_neg (by omega), if_neg (by omega), if_neg (by omega), if_neg (by omega)]
  unfold sizeZ; rw [this]; exact ⟨rfl, rfl⟩
theorem sizeZ_some {k : Int} (h : 0 ≤ k ∧ k < 8) : 0 ≤ sizeZ k ∧ (WM.size k).isSome = true := by
  obtain ⟨n, hn⟩ : ∃ n : Nat, k = n := ⟨k.toNat, by omega⟩
  subst hn
  obtain ⟨s, h1, _, _⟩ := size_some n (by omega)
  unfold sizeZ; rw [h1]; exact ⟨by simp, rfl⟩
set_option maxHeartbeats 8000000 in
theorem rput_any (a : WM.Ac) (hk64 : I64 a.k) (hA : AcOk a) (W : World) :
    Calls Try.prog 12 #[acV a] W fun e W' => e = .returned (.tuple #[.string (bs (WM.putA a).1), .int .i64 (WM.putA a).2]) ∧ Below W.heap.size W W' := by
  obtain ⟨Z1, hZ1⟩ : ∃ Z, Z = (WM.putA a).1 := ⟨_, rfl⟩
  obtain ⟨Z2, hZ2⟩ : ∃ Z, Z = (WM.putA a).2 := ⟨_, rfl⟩
  rw [← hZ1, ← hZ2]
  have HZ := Lib.hid (And.intro hZ1 hZ2)
  have HA := Lib.hid hA
  obtain ⟨k, n, id, q, pp, r, g, c, mn, mx⟩ := a
  unfold acV acA
  simp only at hk64 ⊢
  clear hZ1 hZ2 hA
  obtain ⟨sz, hsz⟩ : ∃ sz, sz = sizeZ k := ⟨_, rfl⟩
  have HSz := Lib.hid hsz
  have HSi := Lib.hid (fun W => rsize_any k W)
  rw [← hsz] at HSi
  clear hsz
  obtain ⟨fo, hfo⟩ : ∃ fo, fo = WM.formOk ⟨k, n, id, q, pp, r, g, c, mn, mx⟩ := ⟨_, rfl⟩
  have HFo := Lib.hid hfo
  clear hfo
  go_enter Try.func12, Try.ntmps12
  go_wp2_with fail
  obtain ⟨w1, hw1⟩ : ∃ w1, w1 = W.alloc (.cells #[.int .i64 k, .int .i64 n, .int .i64 id, .int .i64 q, .int .i64 pp, .int .i64 r, .int .i64 g, .int .i64 c, .int .i64 mn, .int .i64 mx] 27) := ⟨_, rfl⟩
  obtain ⟨p, hp⟩ : ∃ p, p = W.heap.size := ⟨_, rfl⟩
  rw [← hw1, ← hp]
  have HB1 : Hid (Below W.heap.size W w1) := Lib.hid (by rw [hw1]; exact (Below.refl _ _).alloc (Nat.le_refl _) _)
  have HC : Hid (w1.heap[p]? = some (.cells #[.int .i64 k, .int .i64 n, .int .i64 id, .int .i64 q, .int .i64 pp, .int .i64 r, .int .i64 g, .int .i64 c, .int .i64 mn, .int .i64 mx] 27 (0, 0))) := Lib.hid (by rw [hw1, hp]; exact heap_alloc_new W _)
  have hpl : p < w1.heap.size := blk_lt HC.out
  clear hw1 hp
  refine (HSi.out w1).mono ?_
  rintro e wq ⟨rfl, rfl⟩
  obtain ⟨c0, c1, c2, c3, c4, c5, c6, c7, c8, c9⟩ := cells10 HC.out
  clear HSi
  go_upto_region 2 with fail
  go_cut [43] from 11 to 42 (fun s wx => s = .bool (!fo) ∧ wx = w1)
  case first =>
    by_cases hk : 0 ≤ k ∧ k < 8
    rotate_left
    · have h1 := sizeZ_none hk
      have hs : sz = -1 := by rw [HSz.out]; exact h1.1
      subst hs
      go_wp2_with fail
      go_meet
      case rel => exact ⟨by rw [HFo.out]; simp [WM.formOk, h1.2], rfl⟩
    · have h1 := sizeZ_some hk
      have u0 : decide (sz < 0) = false := decide_eq_false (by rw [HSz.out]; have := h1.1; omega)
      have H1 := Lib.hid h1.2
      clear h1
      by_cases k0 : k = 0
      · subst k0
        by_cases n0 : n = 0
        · subst n0
          go_wp2_with fail
          go_meet
          case rel => exact ⟨by rw [HFo.out]; simp [WM.formOk, H1.out], rfl⟩
        · have b0 : (n == 0) = false := by simpa using n0
          have b1 : (n != 0) = true := by simpa using n0
          go_wp2_with fail
          go_meet
          case rel => exact ⟨by rw [HFo.out]; simp [WM.formOk, n0], rfl⟩
      · have v0 : (k == 0) = false := by simpa using k0
        have v1 : (k != 0) = true := by simpa using k0
        by_cases e0 : id = 0
        rotate_left
        · have b0 : (id == 0) = false := by simpa using e0
          go_wp2_with fail
          go_meet
          case rel => exact ⟨by rw [HFo.out]; simp [WM.formOk, WM.jobz, k0, e0], rfl⟩
        subst e0
        by_cases e1 : q = 0
        rotate_left
        · have b1 : (q == 0) = false := by simpa using e1
          go_wp2_with fail
          go_meet
          case rel => exact ⟨by rw [HFo.out]; simp [WM.formOk, WM.jobz, k0, e1], rfl⟩
        subst e1
        by_cases e2 : pp = 0
        rotate_left
        · have b2 : (pp == 0) = false := by simpa using e2
          go_wp2_with fail
          go_meet
          case rel => exact ⟨by rw [HFo.out]; simp [WM.formOk, WM.jobz, k0, e2], rfl⟩
        subst e2
        by_cases e3 : r = 0
        rotate_left
        · have b3 : (r == 0) = false := by simpa using e3
          go_wp2_with fail
          go_meet
          case rel => exact ⟨by rw [HFo.out]; simp [WM.formOk, WM.jobz, k0, e3], rfl⟩
        subst e3
        by_cases e4 : g = 0
        rotate_left
        · have b4 : (g == 0) = false := by simpa using e4
          go_wp2_with fail
          go_meet
          case rel => exact ⟨by rw [HFo.out]; simp [WM.formOk, WM.jobz, k0, e4], rfl⟩
        subst e4
        by_cases e5 : c = 0
        rotate_left
        · have b5 : (c == 0) = false := by simpa using e5
          go_wp2_with fail
          go_meet
          case rel => exact ⟨by rw [HFo.out]; simp [WM.formOk, WM.jobz, k0, e5], rfl⟩
        subst e5
        by_cases e6 : mn = 0
        rotate_left
        · have b6 : (mn == 0) = false := by simpa using e6
          go_wp2_with fail
          go_meet
          case rel => exact ⟨by rw [HFo.out]; simp [WM.formOk, WM.jobz, k0, e6], rfl⟩
        subst e6
        by_cases e7 : mx = 0
        rotate_left
        · have b7 : (mx == 0) = false := by simpa using e7
          go_wp2_with fail
          go_meet
          case rel => exact ⟨by rw [HFo.out]; simp [WM.formOk, WM.jobz, k0, e7], rfl⟩
        subst e7
        by_cases k5 : k = 5
        · subst k5
          by_cases n0 : n = 0
          · subst n0
            go_wp2_with fail
            go_meet
            case rel => exact ⟨by rw [HFo.out]; simp [WM.formOk, WM.jobz, H1.out], rfl⟩
          · have b0 : (n == 0) = false := by simpa using n0
            have b1 : (n != 0) = true := by simpa using n0
            go_wp2_with fail
            go_meet
            case rel => exact ⟨by rw [HFo.out]; simp [WM.formOk, n0], rfl⟩
        · have v2 : (k == 5) = false := by simpa using k5
          go_wp2_with fail
          go_meet
          case rel => exact ⟨by rw [HFo.out]; simp [WM.formOk, WM.jobz, H1.out, k0, k5], rfl⟩
  case rest =>
    obtain ⟨rfl, e9⟩ := hcut
    rw [e9]
    clear e9
    cases fo with
    | false =>
      have hz := HZ.out
      rw [putA_bad HFo.out.symm] at hz
      obtain ⟨rfl, rfl⟩ := hz
      clear HZ
      go_wp2_with fail
      go_ret2
      exact ⟨rfl, HB1.out⟩
    | true =>
      have hk := WM.size_cases (k := k) (by have h := HFo.out.symm; unfold WM.formOk at h; simp only [Bool.and_eq_true] at h; exact h.1.1.1)
      have hkk : 0 ≤ k ∧ k < 8 := by omega
      obtain ⟨fa, hfa⟩ : ∃ fa, fa = WM.fitAll ⟨k, n, id, q, pp, r, g, c, mn, mx⟩ := ⟨_, rfl⟩
      have HFa := Lib.hid hfa
      clear hfa
      go_wp2_with fail
      refine (rbytes_any k ⟨by omega, by omega⟩ 1 (by omega) _).mono ?_
      rintro e w2 ⟨l0, rfl, hl0, he0, hb0⟩
      have HB2 : Hid (Below w1.heap.size w1 w2) := Lib.hid hb0
      have HL0 : Hid (l0 = [UInt8.ofNat k.toNat]) := Lib.hid (by
        rw [he0 hkk.1]
        have h9 : k.toNat % 256 = k.toNat := by omega
        simp [WM.enc, h9])
      clear c0 c1 c2 c3 c4 c5 c6 c7 c8 c9 he0 hb0
      obtain ⟨c0, c1, c2, c3, c4, c5, c6, c7, c8, c9⟩ := cells10 ((HB2.out.block p hpl).trans HC.out)
      have hp2 : p < w2.heap.size := by have := HB2.out.size; omega
      have HBE2 : Hid (Below W.heap.size W w2) := Lib.hid (HB1.out.trans (HB2.out.mono HB1.out.size))
      by_cases k0 : k = 0
      · subst k0
        obtain rfl : sz = 11 := HSz.out
        obtain ⟨f0, hf0⟩ : ∃ f, f = WM.fit id 2 := ⟨_, rfl⟩
        have Hf0 := Lib.hid hf0
        clear hf0
        obtain ⟨f1, hf1⟩ : ∃ f, f = WM.fit q 1 := ⟨_, rfl⟩
        have Hf1 := Lib.hid hf1
        clear hf1
        obtain ⟨f2, hf2⟩ : ∃ f, f = WM.fit pp 1 := ⟨_, rfl⟩
        have Hf2 := Lib.hid hf2
        clear hf2
        obtain ⟨f3, hf3⟩ : ∃ f, f = WM.fit r 2 := ⟨_, rfl⟩
        have Hf3 := Lib.hid hf3
        clear hf3
        obtain ⟨f4, hf4⟩ : ∃ f, f = WM.fit g 1 := ⟨_, rfl⟩
        have Hf4 := Lib.hid hf4
        clear hf4
        obtain ⟨f5, hf5⟩ : ∃ f, f = WM.fit c 2 := ⟨_, rfl⟩
        have Hf5 := Lib.hid hf5
        clear hf5
        obtain ⟨f6, hf6⟩ : ∃ f, f = WM.fit mn 1 := ⟨_, rfl⟩
        have Hf6 := Lib.hid hf6
        clear hf6
        obtain ⟨f7, hf7⟩ : ∃ f, f = WM.fit mx 1 := ⟨_, rfl⟩
        have Hf7 := Lib.hid hf7
        clear hf7
        have HFall : Hid (fa = (f0 && (f1 && (f2 && (f3 && (f4 && (f5 && (f6 && f7)))))))) := Lib.hid (by
          rw [HFa.out, Hf0.out, Hf1.out, Hf2.out, Hf3.out, Hf4.out, Hf5.out, Hf6.out, Hf7.out]
          unfold WM.fitAll WM.flds WM.wid
          simp [Bool.and_assoc])
        go_upto_region 9 with fail
        go_cut [6, 7] from 65 to 69 (fun s6 s7 wx => ∃ X Y : Nat, s6 = .pointer (some ⟨X, 0, none⟩) ∧ s7 = .pointer (some ⟨Y, 0, none⟩) ∧ Hid (wx.heap[X]? = some (.cells #[.int .i64 id, .int .i64 q, .int .i64 pp, .int .i64 r, .int .i64 g, .int .i64 c, .int .i64 mn, .int .i64 mx] 25 (0, 0)) ∧ wx.heap[Y]? = some (.cells #[.int .i64 g, .int .i64 c, .int .i64 mn, .int .i64 mx] 23 (0, 0))) ∧ Hid (Below w2.heap.size w2 wx))
        case first =>
          have hz1 := heap_alloc_new w2 (.cells #[.int .i64 id, .int .i64 q, .int .i64 pp, .int .i64 r, .int .i64 g, .int .i64 c, .int .i64 mn, .int .i64 mx] 25)
          have hz2 := heap_alloc_new w2 (.cells #[.int .i64 g, .int .i64 c, .int .i64 mn, .int .i64 mx] 23)
          have H1 := Lib.hid hz1
          have H2 := Lib.hid hz2
          clear hz1 hz2
          generalize w2 = w9 at *
          go_region
          all_goals go_wp2_with fail
          all_goals go_meet
          all_goals first | exact ⟨_, _, rfl, rfl, Lib.hid ⟨(show ((w9.alloc _).alloc _).heap[w9.heap.size]? = _ from new20 rfl), (show ((w9.alloc _).alloc _).heap[w9.heap.size + 1]? = _ from new21 rfl)⟩, Lib.hid (((Below.refl _ _).alloc (Nat.le_refl _) _).alloc (by simp) _).drew⟩ | exact ⟨_, _, rfl, rfl, Lib.hid ⟨(show ((w9.alloc _).alloc _).heap[w9.heap.size + 1]? = _ from new21 rfl), (show ((w9.alloc _).alloc _).heap[w9.heap.size]? = _ from new20 rfl)⟩, Lib.hid (((Below.refl _ _).alloc (Nat.le_refl _) _).alloc (by simp) _).drew⟩
        case rest =>
          obtain ⟨X, Y, rfl, rfl, hXY, hBxy⟩ := hcut
          have HBE3 : Hid (Below W.heap.size W wc) := Lib.hid (HBE2.out.trans (hBxy.out.mono HBE2.out.size))
          clear c0 c1 c2 c3 c4 c5 c6 c7 c8 c9
          obtain ⟨d0, d1, d2, d3, d4, d5, d6, d7⟩ := cells8 hXY.out.1
          obtain ⟨d8, d9, d10, d11⟩ := cells4 hXY.out.2
          have lX : X < wc.heap.size := blk_lt hXY.out.1
          have lY : Y < wc.heap.size := blk_lt hXY.out.2
          go_wp2_with fail
          refine (rfits_any id 2 (by omega) _).mono ?_
          rintro e wq ⟨rfl, rfl⟩
          rw [← Hf0.out]
          cases f0
          · obtain rfl : fa = false := by rw [HFall.out]; simp
            have hz := HZ.out
            rw [putA_no HFo.out.symm HFa.out.symm] at hz
            obtain ⟨rfl, rfl⟩ := hz
            clear HZ
            go_wp2_with fail
            go_ret2
            exact ⟨rfl, HBE3.out⟩
          go_wp2_with fail
          refine (rfits_any q 1 (by omega) _).mono ?_
          rintro e wq ⟨rfl, rfl⟩
          rw [← Hf1.out]
          cases f1
          · obtain rfl : fa = false := by rw [HFall.out]; simp
            have hz := HZ.out
            rw [putA_no HFo.out.symm HFa.out.symm] at hz
            obtain ⟨rfl, rfl⟩ := hz
            clear HZ
            go_wp2_with fail
            go_ret2
            exact ⟨rfl, HBE3.out⟩
          go_wp2_with fail
          refine (rfits_any pp 1 (by omega) _).mono ?_
          rintro e wq ⟨rfl, rfl⟩
          rw [← Hf2.out]
          cases f2
          · obtain rfl : fa = false := by rw [HFall.out]; simp
            have hz := HZ.out
            rw [putA_no HFo.out.symm HFa.out.symm] at hz
            obtain ⟨rfl, rfl⟩ := hz
            clear HZ
            go_wp2_with fail
            go_ret2
            exact ⟨rfl, HBE3.out⟩
          go_wp2_with fail
          refine (rfits_any r 2 (by omega) _).mono ?_
          rintro e wq ⟨rfl, rfl⟩
          rw [← Hf3.out]
          cases f3
          · obtain rfl : fa = false := by rw [HFall.out]; simp
            have hz := HZ.out
            rw [putA_no HFo.out.symm HFa.out.symm] at hz
            obtain ⟨rfl, rfl⟩ := hz
            clear HZ
            go_wp2_with fail
            go_ret2
            exact ⟨rfl, HBE3.out⟩
          go_wp2_with fail
          refine (rfits_any g 1 (by omega) _).mono ?_
          rintro e wq ⟨rfl, rfl⟩
          rw [← Hf4.out]
          cases f4
          · obtain rfl : fa = false := by rw [HFall.out]; simp
            have hz := HZ.out
            rw [putA_no HFo.out.symm HFa.out.symm] at hz
            obtain ⟨rfl, rfl⟩ := hz
            clear HZ
            go_wp2_with fail
            go_ret2
            exact ⟨rfl, HBE3.out⟩
          go_wp2_with fail
          refine (rfits_any c 2 (by omega) _).mono ?_
          rintro e wq ⟨rfl, rfl⟩
          rw [← Hf5.out]
          cases f5
          · obtain rfl : fa = false := by rw [HFall.out]; simp
            have hz := HZ.out
            rw [putA_no HFo.out.symm HFa.out.symm] at hz
            obtain ⟨rfl, rfl⟩ := hz
            clear HZ
            go_wp2_with fail
            go_ret2
            exact ⟨rfl, HBE3.out⟩
          go_wp2_with fail
          refine (rfits_any mn 1 (by omega) _).mono ?_
          rintro e wq ⟨rfl, rfl⟩
          rw [← Hf6.out]
          cases f6
          · obtain rfl : fa = false := by rw [HFall.out]; simp
            have hz := HZ.out
            rw [putA_no HFo.out.symm HFa.out.symm] at hz
            obtain ⟨rfl, rfl⟩ := hz
            clear HZ
            go_wp2_with fail
            go_ret2
            exact ⟨rfl, HBE3.out⟩
          go_wp2_with fail
          refine (rfits_any mx 1 (by omega) _).mono ?_
          rintro e wq ⟨rfl, rfl⟩
          rw [← Hf7.out]
          cases f7
          · obtain rfl : fa = false := by rw [HFall.out]; simp
            have hz := HZ.out
            rw [putA_no HFo.out.symm HFa.out.symm] at hz
            obtain ⟨rfl, rfl⟩ := hz
            clear HZ
            go_wp2_with fail
            go_ret2
            exact ⟨rfl, HBE3.out⟩
          go_wp2_with fail
          have hfa9 : fa = true := by rw [HFall.out]; rfl
          have hz := HZ.out
          rw [putA_yes HFo.out.symm (by rw [← HFa.out]; exact hfa9)] at hz
          obtain ⟨hz1, hz2⟩ := hz
          simp only [WM.flds, WM.wid, if_true, List.map_cons, List.map_nil, List.zip_cons_cons, List.zip_nil_left, WM.encs, List.append_nil] at hz1
          have HZ1 := Lib.hid hz1
          simp only at hz2
          subst hz2
          clear hz1 HZ hfa9
          refine held_begin (fun w' : World => w'.cell? ⟨X, 0, none⟩ = some (.int .i64 id) ∧ w'.cell? ⟨X, 1, none⟩ = some (.int .i64 q) ∧ w'.cell? ⟨X, 2, none⟩ = some (.int .i64 pp) ∧ w'.cell? ⟨X, 3, none⟩ = some (.int .i64 r) ∧ w'.cell? ⟨Y, 0, none⟩ = some (.int .i64 g) ∧ w'.cell? ⟨Y, 1, none⟩ = some (.int .i64 c) ∧ w'.cell? ⟨Y, 2, none⟩ = some (.int .i64 mn) ∧ w'.cell? ⟨Y, 3, none⟩ = some (.int .i64 mx)) (by kernel_rfl) ?_
          have hBm0 : Below wc.heap.size wc wc.drew := (Below.refl _ _).drew
          have hSm0 : (fun w' : World => w'.cell? ⟨X, 0, none⟩ = some (.int .i64 id) ∧ w'.cell? ⟨X, 1, none⟩ = some (.int .i64 q) ∧ w'.cell? ⟨X, 2, none⟩ = some (.int .i64 pp) ∧ w'.cell? ⟨X, 3, none⟩ = some (.int .i64 r) ∧ w'.cell? ⟨Y, 0, none⟩ = some (.int .i64 g) ∧ w'.cell? ⟨Y, 1, none⟩ = some (.int .i64 c) ∧ w'.cell? ⟨Y, 2, none⟩ = some (.int .i64 mn) ∧ w'.cell? ⟨Y, 3, none⟩ = some (.int .i64 mx)) wc.drew := ⟨d0, d1, d2, d3, d8, d9, d10, d11⟩
          refine held_take (v := ?_) 0 116 rfl rfl (by kernel_rfl) (by kernel_rfl) (by kernel_rfl) (fun _ _ _ h => h) ⟨by rfl, ?_⟩ hSm0 ?_
          rotate_left
          · intro w' hw'; obtain ⟨x0, x1, x2, x3, x4, x5, x6, x7⟩ := hw'; go_simp; (try with_reducible rfl)
          simp only [Act.put, List.setIfInBounds_toArray, List.set_cons_zero, List.set_cons_succ]
          refine held_take (v := ?_) 1 117 rfl rfl (by kernel_rfl) (by kernel_rfl) (by kernel_rfl) (fun _ _ _ h => h) ⟨by rfl, ?_⟩ hSm0 ?_
          rotate_left
          · intro w' hw'; obtain ⟨x0, x1, x2, x3, x4, x5, x6, x7⟩ := hw'; go_simp; (try with_reducible rfl)
          simp only [Act.put, List.setIfInBounds_toArray, List.set_cons_zero, List.set_cons_succ]
          refine held_take (v := ?_) 2 118 rfl rfl (by kernel_rfl) (by kernel_rfl) (by kernel_rfl) (fun _ _ _ h => h) ⟨by rfl, ?_⟩ hSm0 ?_
          rotate_left
          · intro w' hw'; obtain ⟨x0, x1, x2, x3, x4, x5, x6, x7⟩ := hw'; go_simp; (try with_reducible rfl)
          simp only [Act.put, List.setIfInBounds_toArray, List.set_cons_zero, List.set_cons_succ]
          refine held_take (v := ?_) 5 121 rfl rfl (by kernel_rfl) (by kernel_rfl) (by kernel_rfl) (fun _ _ _ h => h) ⟨by rfl, ?_⟩ hSm0 ?_
          rotate_left
          · intro w' hw'; obtain ⟨x0, x1, x2, x3, x4, x5, x6, x7⟩ := hw'; go_simp; (try with_reducible rfl)
          simp only [Act.put, List.setIfInBounds_toArray, List.set_cons_zero, List.set_cons_succ]
          refine held_take (v := ?_) 6 122 rfl rfl (by kernel_rfl) (by kernel_rfl) (by kernel_rfl) (fun _ _ _ h => h) ⟨by rfl, ?_⟩ hSm0 ?_
          rotate_left
          · intro w' hw'; obtain ⟨x0, x1, x2, x3, x4, x5, x6, x7⟩ := hw'; go_simp; (try with_reducible rfl)
          simp only [Act.put, List.setIfInBounds_toArray, List.set_cons_zero, List.set_cons_succ]
          refine held_take (v := ?_) 9 125 rfl rfl (by kernel_rfl) (by kernel_rfl) (by kernel_rfl) (fun _ _ _ h => h) ⟨by rfl, ?_⟩ hSm0 ?_
          rotate_left
          · intro w' hw'; obtain ⟨x0, x1, x2, x3, x4, x5, x6, x7⟩ := hw'; go_simp; (try with_reducible rfl)
          simp only [Act.put, List.setIfInBounds_toArray, List.set_cons_zero, List.set_cons_succ]
          refine held_take (v := ?_) 10 126 rfl rfl (by kernel_rfl) (by kernel_rfl) (by kernel_rfl) (fun _ _ _ h => h) ⟨by rfl, ?_⟩ hSm0 ?_
          rotate_left
          · intro w' hw'; obtain ⟨x0, x1, x2, x3, x4, x5, x6, x7⟩ := hw'; go_simp; (try with_reducible rfl)
          simp only [Act.put, List.setIfInBounds_toArray, List.set_cons_zero, List.set_cons_succ]
          refine held_take (v := ?_) 13 129 rfl rfl (by kernel_rfl) (by kernel_rfl) (by kernel_rfl) (fun _ _ _ h => h) ⟨by rfl, ?_⟩ hSm0 ?_
          rotate_left
          · intro w' hw'; obtain ⟨x0, x1, x2, x3, x4, x5, x6, x7⟩ := hw'; go_simp; (try with_reducible rfl)
          simp only [Act.put, List.setIfInBounds_toArray, List.set_cons_zero, List.set_cons_succ]
          refine held_take (v := ?_) 14 130 rfl rfl (by kernel_rfl) (by kernel_rfl) (by kernel_rfl) (fun _ _ _ h => h) ⟨by rfl, ?_⟩ hSm0 ?_
          rotate_left
          · intro w' hw'; obtain ⟨x0, x1, x2, x3, x4, x5, x6, x7⟩ := hw'; go_simp; (try with_reducible rfl)
          simp only [Act.put, List.setIfInBounds_toArray, List.set_cons_zero, List.set_cons_succ]
          refine held_take (v := ?_) 17 133 rfl rfl (by kernel_rfl) (by kernel_rfl) (by kernel_rfl) (fun _ _ _ h => h) ⟨by rfl, ?_⟩ hSm0 ?_
          rotate_left
          · intro w' hw'; obtain ⟨x0, x1, x2, x3, x4, x5, x6, x7⟩ := hw'; go_simp; (try with_reducible rfl)
          simp only [Act.put, List.setIfInBounds_toArray, List.set_cons_zero, List.set_cons_succ]
          refine held_take (v := ?_) 18 134 rfl rfl (by kernel_rfl) (by kernel_rfl) (by kernel_rfl) (fun _ _ _ h => h) ⟨by rfl, ?_⟩ hSm0 ?_
          rotate_left
          · intro w' hw'; obtain ⟨x0, x1, x2, x3, x4, x5, x6, x7⟩ := hw'; go_simp; (try with_reducible rfl)
          simp only [Act.put, List.setIfInBounds_toArray, List.set_cons_zero, List.set_cons_succ]
          refine held_take (v := ?_) 21 137 rfl rfl (by kernel_rfl) (by kernel_rfl) (by kernel_rfl) (fun _ _ _ h => h) ⟨by rfl, ?_⟩ hSm0 ?_
          rotate_left
          · intro w' hw'; obtain ⟨x0, x1, x2, x3, x4, x5, x6, x7⟩ := hw'; go_simp; (try with_reducible rfl)
          simp only [Act.put, List.setIfInBounds_toArray, List.set_cons_zero, List.set_cons_succ]
          refine held_take (v := ?_) 22 138 rfl rfl (by kernel_rfl) (by kernel_rfl) (by kernel_rfl) (fun _ _ _ h => h) ⟨by rfl, ?_⟩ hSm0 ?_
          rotate_left
          · intro w' hw'; obtain ⟨x0, x1, x2, x3, x4, x5, x6, x7⟩ := hw'; go_simp; (try with_reducible rfl)
          simp only [Act.put, List.setIfInBounds_toArray, List.set_cons_zero, List.set_cons_succ]
          refine held_take (v := ?_) 25 141 rfl rfl (by kernel_rfl) (by kernel_rfl) (by kernel_rfl) (fun _ _ _ h => h) ⟨by rfl, ?_⟩ hSm0 ?_
          rotate_left
          · intro w' hw'; obtain ⟨x0, x1, x2, x3, x4, x5, x6, x7⟩ := hw'; go_simp; (try with_reducible rfl)
          simp only [Act.put, List.setIfInBounds_toArray, List.set_cons_zero, List.set_cons_succ]
          refine held_take (v := ?_) 26 142 rfl rfl (by kernel_rfl) (by kernel_rfl) (by kernel_rfl) (fun _ _ _ h => h) ⟨by rfl, ?_⟩ hSm0 ?_
          rotate_left
          · intro w' hw'; obtain ⟨x0, x1, x2, x3, x4, x5, x6, x7⟩ := hw'; go_simp; (try with_reducible rfl)
          simp only [Act.put, List.setIfInBounds_toArray, List.set_cons_zero, List.set_cons_succ]
          refine held_take (v := ?_) 29 145 rfl rfl (by kernel_rfl) (by kernel_rfl) (by kernel_rfl) (fun _ _ _ h => h) ⟨by rfl, ?_⟩ hSm0 ?_
          rotate_left
          · intro w' hw'; obtain ⟨x0, x1, x2, x3, x4, x5, x6, x7⟩ := hw'; go_simp; (try with_reducible rfl)
          simp only [Act.put, List.setIfInBounds_toArray, List.set_cons_zero, List.set_cons_succ]
          refine held_take (v := ?_) 30 146 rfl rfl (by kernel_rfl) (by kernel_rfl) (by kernel_rfl) (fun _ _ _ h => h) ⟨by rfl, ?_⟩ hSm0 ?_
          rotate_left
          · intro w' hw'; obtain ⟨x0, x1, x2, x3, x4, x5, x6, x7⟩ := hw'; go_simp; (try with_reducible rfl)
          simp only [Act.put, List.setIfInBounds_toArray, List.set_cons_zero, List.set_cons_succ]
          refine held_one 3 rfl (by kernel_rfl) (by rfl) (fun K hK => ?_)
          go_simp
          go_at_call 24
          refine (rbytes_any id HA.out.id 2 (by omega) wc.drew).mono ?_
          rintro e wm1 ⟨m0, rfl, gl0, ge0, hbm1⟩
          have hBm1 : Below wc.heap.size wc wm1 := below_step hBm0 hbm1
          have hSm1 : (fun w' : World => w'.cell? ⟨X, 0, none⟩ = some (.int .i64 id) ∧ w'.cell? ⟨X, 1, none⟩ = some (.int .i64 q) ∧ w'.cell? ⟨X, 2, none⟩ = some (.int .i64 pp) ∧ w'.cell? ⟨X, 3, none⟩ = some (.int .i64 r) ∧ w'.cell? ⟨Y, 0, none⟩ = some (.int .i64 g) ∧ w'.cell? ⟨Y, 1, none⟩ = some (.int .i64 c) ∧ w'.cell? ⟨Y, 2, none⟩ = some (.int .i64 mn) ∧ w'.cell? ⟨Y, 3, none⟩ = some (.int .i64 mx)) wm1 := ⟨(hBm1.cell (p := ⟨X, 0, none⟩) (lX)).trans d0, (hBm1.cell (p := ⟨X, 1, none⟩) (lX)).trans d1, (hBm1.cell (p := ⟨X, 2, none⟩) (lX)).trans d2, (hBm1.cell (p := ⟨X, 3, none⟩) (lX)).trans d3, (hBm1.cell (p := ⟨Y, 0, none⟩) (lY)).trans d8, (hBm1.cell (p := ⟨Y, 1, none⟩) (lY)).trans d9, (hBm1.cell (p := ⟨Y, 2, none⟩) (lY)).trans d10, (hBm1.cell (p := ⟨Y, 3, none⟩) (lY)).trans d11⟩
          refine hK.out _ _ hSm1 ?_
          clear hK K
          refine held_take (v := ?_) 4 120 rfl rfl (by kernel_rfl) (by kernel_rfl) (by kernel_rfl) (fun _ _ _ h => h) ⟨by rfl, ?_⟩ hSm1 ?_
          rotate_left
          · intro w' hw'; obtain ⟨x0, x1, x2, x3, x4, x5, x6, x7⟩ := hw'; go_simp; (try with_reducible rfl)
          simp only [Act.put, List.setIfInBounds_toArray, List.set_cons_zero, List.set_cons_succ]
          refine held_one 7 rfl (by kernel_rfl) (by rfl) (fun K hK => ?_)
          go_simp
          go_at_call 24
          refine (rbytes_any q HA.out.q 1 (by omega) wm1).mono ?_
          rintro e wm2 ⟨m1, rfl, gl1, ge1, hbm2⟩
          have hBm2 : Below wc.heap.size wc wm2 := below_step hBm1 hbm2
          have hSm2 : (fun w' : World => w'.cell? ⟨X, 0, none⟩ = some (.int .i64 id) ∧ w'.cell? ⟨X, 1, none⟩ = some (.int .i64 q) ∧ w'.cell? ⟨X, 2, none⟩ = some (.int .i64 pp) ∧ w'.cell? ⟨X, 3, none⟩ = some (.int .i64 r) ∧ w'.cell? ⟨Y, 0, none⟩ = some (.int .i64 g) ∧ w'.cell? ⟨Y, 1, none⟩ = some (.int .i64 c) ∧ w'.cell? ⟨Y, 2, none⟩ = some (.int .i64 mn) ∧ w'.cell? ⟨Y, 3, none⟩ = some (.int .i64 mx)) wm2 := ⟨(hBm2.cell (p := ⟨X, 0, none⟩) (lX)).trans d0, (hBm2.cell (p := ⟨X, 1, none⟩) (lX)).trans d1, (hBm2.cell (p := ⟨X, 2, none⟩) (lX)).trans d2, (hBm2.cell (p := ⟨X, 3, none⟩) (lX)).trans d3, (hBm2.cell (p := ⟨Y, 0, none⟩) (lY)).trans d8, (hBm2.cell (p := ⟨Y, 1, none⟩) (lY)).trans d9, (hBm2.cell (p := ⟨Y, 2, none⟩) (lY)).trans d10, (hBm2.cell (p := ⟨Y, 3, none⟩) (lY)).trans d11⟩
          refine hK.out _ _ hSm2 ?_
          clear hK K
          refine held_take (v := ?_) 8 124 rfl rfl (by kernel_rfl) (by kernel_rfl) (by kernel_rfl) (fun _ _ _ h => h) ⟨by rfl, ?_⟩ hSm2 ?_
          rotate_left
          · intro w' hw'; obtain ⟨x0, x1, x2, x3, x4, x5, x6, x7⟩ := hw'; go_simp; (try with_reducible rfl)
          simp only [Act.put, List.setIfInBounds_toArray, List.set_cons_zero, List.set_cons_succ]
          refine held_one 11 rfl (by kernel_rfl) (by rfl) (fun K hK => ?_)
          go_simp
          go_at_call 24
          refine (rbytes_any pp HA.out.p 1 (by omega) wm2).mono ?_
          rintro e wm3 ⟨m2, rfl, gl2, ge2, hbm3⟩
          have hBm3 : Below wc.heap.size wc wm3 := below_step hBm2 hbm3
          have hSm3 : (fun w' : World => w'.cell? ⟨X, 0, none⟩ = some (.int .i64 id) ∧ w'.cell? ⟨X, 1, none⟩ = some (.int .i64 q) ∧ w'.cell? ⟨X, 2, none⟩ = some (.int .i64 pp) ∧ w'.cell? ⟨X, 3, none⟩ = some (.int .i64 r) ∧ w'.cell? ⟨Y, 0, none⟩ = some (.int .i64 g) ∧ w'.cell? ⟨Y, 1, none⟩ = some (.int .i64 c) ∧ w'.cell? ⟨Y, 2, none⟩ = some (.int .i64 mn) ∧ w'.cell? ⟨Y, 3, none⟩ = some (.int .i64 mx)) wm3 := ⟨(hBm3.cell (p := ⟨X, 0, none⟩) (lX)).trans d0, (hBm3.cell (p := ⟨X, 1, none⟩) (lX)).trans d1, (hBm3.cell (p := ⟨X, 2, none⟩) (lX)).trans d2, (hBm3.cell (p := ⟨X, 3, none⟩) (lX)).trans d3, (hBm3.cell (p := ⟨Y, 0, none⟩) (lY)).trans d8, (hBm3.cell (p := ⟨Y, 1, none⟩) (lY)).trans d9, (hBm3.cell (p := ⟨Y, 2, none⟩) (lY)).trans d10, (hBm3.cell (p := ⟨Y, 3, none⟩) (lY)).trans d11⟩
          refine hK.out _ _ hSm3 ?_
          clear hK K
          refine held_take (v := ?_) 12 128 rfl rfl (by kernel_rfl) (by kernel_rfl) (by kernel_rfl) (fun _ _ _ h => h) ⟨by rfl, ?_⟩ hSm3 ?_
          rotate_left
          · intro w' hw'; obtain ⟨x0, x1, x2, x3, x4, x5, x6, x7⟩ := hw'; go_simp; (try with_reducible rfl)
          simp only [Act.put, List.setIfInBounds_toArray, List.set_cons_zero, List.set_cons_succ]
          refine held_one 15 rfl (by kernel_rfl) (by rfl) (fun K hK => ?_)
          go_simp
          go_at_call 24
          refine (rbytes_any r HA.out.r 2 (by omega) wm3).mono ?_
          rintro e wm4 ⟨m3, rfl, gl3, ge3, hbm4⟩
          have hBm4 : Below wc.heap.size wc wm4 := below_step hBm3 hbm4
          have hSm4 : (fun w' : World => w'.cell? ⟨X, 0, none⟩ = some (.int .i64 id) ∧ w'.cell? ⟨X, 1, none⟩ = some (.int .i64 q) ∧ w'.cell? ⟨X, 2, none⟩ = some (.int .i64 pp) ∧ w'.cell? ⟨X, 3, none⟩ = some (.int .i64 r) ∧ w'.cell? ⟨Y, 0, none⟩ = some (.int .i64 g) ∧ w'.cell? ⟨Y, 1, none⟩ = some (.int .i64 c) ∧ w'.cell? ⟨Y, 2, none⟩ = some (.int .i64 mn) ∧ w'.cell? ⟨Y, 3, none⟩ = some (.int .i64 mx)) wm4 := ⟨(hBm4.cell (p := ⟨X, 0, none⟩) (lX)).trans d0, (hBm4.cell (p := ⟨X, 1, none⟩) (lX)).trans d1, (hBm4.cell (p := ⟨X, 2, none⟩) (lX)).trans d2, (hBm4.cell (p := ⟨X, 3, none⟩) (lX)).trans d3, (hBm4.cell (p := ⟨Y, 0, none⟩) (lY)).trans d8, (hBm4.cell (p := ⟨Y, 1, none⟩) (lY)).trans d9, (hBm4.cell (p := ⟨Y, 2, none⟩) (lY)).trans d10, (hBm4.cell (p := ⟨Y, 3, none⟩) (lY)).trans d11⟩
          refine hK.out _ _ hSm4 ?_
          clear hK K
          refine held_take (v := ?_) 16 132 rfl rfl (by kernel_rfl) (by kernel_rfl) (by kernel_rfl) (fun _ _ _ h => h) ⟨by rfl, ?_⟩ hSm4 ?_
          rotate_left
          · intro w' hw'; obtain ⟨x0, x1, x2, x3, x4, x5, x6, x7⟩ := hw'; go_simp; (try with_reducible rfl)
          simp only [Act.put, List.setIfInBounds_toArray, List.set_cons_zero, List.set_cons_succ]
          refine held_one 19 rfl (by kernel_rfl) (by rfl) (fun K hK => ?_)
          go_simp
          go_at_call 24
          refine (rbytes_any g HA.out.g 1 (by omega) wm4).mono ?_
          rintro e wm5 ⟨m4, rfl, gl4, ge4, hbm5⟩
          have hBm5 : Below wc.heap.size wc wm5 := below_step hBm4 hbm5
          have hSm5 : (fun w' : World => w'.cell? ⟨X, 0, none⟩ = some (.int .i64 id) ∧ w'.cell? ⟨X, 1, none⟩ = some (.int .i64 q) ∧ w'.cell? ⟨X, 2, none⟩ = some (.int .i64 pp) ∧ w'.cell? ⟨X, 3, none⟩ = some (.int .i64 r) ∧ w'.cell? ⟨Y, 0, none⟩ = some (.int .i64 g) ∧ w'.cell? ⟨Y, 1, none⟩ = some (.int .i64 c) ∧ w'.cell? ⟨Y, 2, none⟩ = some (.int .i64 mn) ∧ w'.cell? ⟨Y, 3, none⟩ = some (.int .i64 mx)) wm5 := ⟨(hBm5.cell (p := ⟨X, 0, none⟩) (lX)).trans d0, (hBm5.cell (p := ⟨X, 1, none⟩) (lX)).trans d1, (hBm5.cell (p := ⟨X, 2, none⟩) (lX)).trans d2, (hBm5.cell (p := ⟨X, 3, none⟩) (lX)).trans d3, (hBm5.cell (p := ⟨Y, 0, none⟩) (lY)).trans d8, (hBm5.cell (p := ⟨Y, 1, none⟩) (lY)).trans d9, (hBm5.cell (p := ⟨Y, 2, none⟩) (lY)).trans d10, (hBm5.cell (p := ⟨Y, 3, none⟩) (lY)).trans d11⟩
          refine hK.out _ _ hSm5 ?_
          clear hK K
          refine held_take (v := ?_) 20 136 rfl rfl (by kernel_rfl) (by kernel_rfl) (by kernel_rfl) (fun _ _ _ h => h) ⟨by rfl, ?_⟩ hSm5 ?_
          rotate_left
          · intro w' hw'; obtain ⟨x0, x1, x2, x3, x4, x5, x6, x7⟩ := hw'; go_simp; (try with_reducible rfl)
          simp only [Act.put, List.setIfInBounds_toArray, List.set_cons_zero, List.set_cons_succ]
          refine held_one 23 rfl (by kernel_rfl) (by rfl) (fun K hK => ?_)
          go_simp
          go_at_call 24
          refine (rbytes_any c HA.out.c 2 (by omega) wm5).mono ?_
          rintro e wm6 ⟨m5, rfl, gl5, ge5, hbm6⟩
          have hBm6 : Below wc.heap.size wc wm6 := below_step hBm5 hbm6
          have hSm6 : (fun w' : World => w'.cell? ⟨X, 0, none⟩ = some (.int .i64 id) ∧ w'.cell? ⟨X, 1, none⟩ = some (.int .i64 q) ∧ w'.cell? ⟨X, 2, none⟩ = some (.int .i64 pp) ∧ w'.cell? ⟨X, 3, none⟩ = some (.int .i64 r) ∧ w'.cell? ⟨Y, 0, none⟩ = some (.int .i64 g) ∧ w'.cell? ⟨Y, 1, none⟩ = some (.int .i64 c) ∧ w'.cell? ⟨Y, 2, none⟩ = some (.int .i64 mn) ∧ w'.cell? ⟨Y, 3, none⟩ = some (.int .i64 mx)) wm6 := ⟨(hBm6.cell (p := ⟨X, 0, none⟩) (lX)).trans d0, (hBm6.cell (p := ⟨X, 1, none⟩) (lX)).trans d1, (hBm6.cell (p := ⟨X, 2, none⟩) (lX)).trans d2, (hBm6.cell (p := ⟨X, 3, none⟩) (lX)).trans d3, (hBm6.cell (p := ⟨Y, 0, none⟩) (lY)).trans d8, (hBm6.cell (p := ⟨Y, 1, none⟩) (lY)).trans d9, (hBm6.cell (p := ⟨Y, 2, none⟩) (lY)).trans d10, (hBm6.cell (p := ⟨Y, 3, none⟩) (lY)).trans d11⟩
          refine hK.out _ _ hSm6 ?_
          clear hK K
          refine held_take (v := ?_) 24 140 rfl rfl (by kernel_rfl) (by kernel_rfl) (by kernel_rfl) (fun _ _ _ h => h) ⟨by rfl, ?_⟩ hSm6 ?_
          rotate_left
          · intro w' hw'; obtain ⟨x0, x1, x2, x3, x4, x5, x6, x7⟩ := hw'; go_simp; (try with_reducible rfl)
          simp only [Act.put, List.setIfInBounds_toArray, List.set_cons_zero, List.set_cons_succ]
          refine held_one 27 rfl (by kernel_rfl) (by rfl) (fun K hK => ?_)
          go_simp
          go_at_call 24
          refine (rbytes_any mn HA.out.mn 1 (by omega) wm6).mono ?_
          rintro e wm7 ⟨m6, rfl, gl6, ge6, hbm7⟩
          have hBm7 : Below wc.heap.size wc wm7 := below_step hBm6 hbm7
          have hSm7 : (fun w' : World => w'.cell? ⟨X, 0, none⟩ = some (.int .i64 id) ∧ w'.cell? ⟨X, 1, none⟩ = some (.int .i64 q) ∧ w'.cell? ⟨X, 2, none⟩ = some (.int .i64 pp) ∧ w'.cell? ⟨X, 3, none⟩ = some (.int .i64 r) ∧ w'.cell? ⟨Y, 0, none⟩ = some (.int .i64 g) ∧ w'.cell? ⟨Y, 1, none⟩ = some (.int .i64 c) ∧ w'.cell? ⟨Y, 2, none⟩ = some (.int .i64 mn) ∧ w'.cell? ⟨Y, 3, none⟩ = some (.int .i64 mx)) wm7 := ⟨(hBm7.cell (p := ⟨X, 0, none⟩) (lX)).trans d0, (hBm7.cell (p := ⟨X, 1, none⟩) (lX)).trans d1, (hBm7.cell (p := ⟨X, 2, none⟩) (lX)).trans d2, (hBm7.cell (p := ⟨X, 3, none⟩) (lX)).trans d3, (hBm7.cell (p := ⟨Y, 0, none⟩) (lY)).trans d8, (hBm7.cell (p := ⟨Y, 1, none⟩) (lY)).trans d9, (hBm7.cell (p := ⟨Y, 2, none⟩) (lY)).trans d10, (hBm7.cell (p := ⟨Y, 3, none⟩) (lY)).trans d11⟩
          refine hK.out _ _ hSm7 ?_
          clear hK K
          refine held_take (v := ?_) 28 144 rfl rfl (by kernel_rfl) (by kernel_rfl) (by kernel_rfl) (fun _ _ _ h => h) ⟨by rfl, ?_⟩ hSm7 ?_
          rotate_left
          · intro w' hw'; obtain ⟨x0, x1, x2, x3, x4, x5, x6, x7⟩ := hw'; go_simp; (try with_reducible rfl)
          simp only [Act.put, List.setIfInBounds_toArray, List.set_cons_zero, List.set_cons_succ]
          refine held_one 31 rfl (by kernel_rfl) (by rfl) (fun K hK => ?_)
          go_simp
          go_at_call 24
          refine (rbytes_any mx HA.out.mx 1 (by omega) wm7).mono ?_
          rintro e wm8 ⟨m7, rfl, gl7, ge7, hbm8⟩
          have hBm8 : Below wc.heap.size wc wm8 := below_step hBm7 hbm8
          have hSm8 : (fun w' : World => w'.cell? ⟨X, 0, none⟩ = some (.int .i64 id) ∧ w'.cell? ⟨X, 1, none⟩ = some (.int .i64 q) ∧ w'.cell? ⟨X, 2, none⟩ = some (.int .i64 pp) ∧ w'.cell? ⟨X, 3, none⟩ = some (.int .i64 r) ∧ w'.cell? ⟨Y, 0, none⟩ = some (.int .i64 g) ∧ w'.cell? ⟨Y, 1, none⟩ = some (.int .i64 c) ∧ w'.cell? ⟨Y, 2, none⟩ = some (.int .i64 mn) ∧ w'.cell? ⟨Y, 3, none⟩ = some (.int .i64 mx)) wm8 := ⟨(hBm8.cell (p := ⟨X, 0, none⟩) (lX)).trans d0, (hBm8.cell (p := ⟨X, 1, none⟩) (lX)).trans d1, (hBm8.cell (p := ⟨X, 2, none⟩) (lX)).trans d2, (hBm8.cell (p := ⟨X, 3, none⟩) (lX)).trans d3, (hBm8.cell (p := ⟨Y, 0, none⟩) (lY)).trans d8, (hBm8.cell (p := ⟨Y, 1, none⟩) (lY)).trans d9, (hBm8.cell (p := ⟨Y, 2, none⟩) (lY)).trans d10, (hBm8.cell (p := ⟨Y, 3, none⟩) (lY)).trans d11⟩
          refine hK.out _ _ hSm8 ?_
          clear hK K
          refine held_take (v := ?_) 32 148 rfl rfl (by kernel_rfl) (by kernel_rfl) (by kernel_rfl) (fun _ _ _ h => h) ⟨by rfl, ?_⟩ hSm8 ?_
          rotate_left
          · intro w' hw'; obtain ⟨x0, x1, x2, x3, x4, x5, x6, x7⟩ := hw'; go_simp; (try with_reducible rfl)
          simp only [Act.put, List.setIfInBounds_toArray, List.set_cons_zero, List.set_cons_succ]
          refine held_take (v := ?_) 33 2 rfl rfl (by kernel_rfl) (by kernel_rfl) (by kernel_rfl) (fun _ _ _ h => h) ⟨by rfl, ?_⟩ hSm8 ?_
          rotate_left
          · intro w' hw'; obtain ⟨x0, x1, x2, x3, x4, x5, x6, x7⟩ := hw'; go_simp; (try with_reducible rfl)
          simp only [Act.put, List.setIfInBounds_toArray, List.set_cons_zero, List.set_cons_succ]
          refine held_take (v := ?_) 34 3 rfl rfl (by kernel_rfl) (by kernel_rfl) (by kernel_rfl) (fun _ _ _ h => h) ⟨by rfl, ?_⟩ hSm8 ?_
          rotate_left
          · intro w' hw'; obtain ⟨x0, x1, x2, x3, x4, x5, x6, x7⟩ := hw'; go_simp; (try with_reducible rfl)
          simp only [Act.put, List.setIfInBounds_toArray, List.set_cons_zero, List.set_cons_succ]
          refine wpAnyH_done (by kernel_rfl) ?_ _
          have HBE9 : Hid (Below W.heap.size W wm8) := Lib.hid (HBE3.out.trans (hBm8.mono HBE3.out.size))
          have HE9 : Hid (Z1 = l0 ++ (m0 ++ (m1 ++ (m2 ++ (m3 ++ (m4 ++ (m5 ++ (m6 ++ m7)))))))) := Lib.hid (by
            rw [HZ1.out, HL0.out, ge0 (fit_pz Hf0.out.symm), ge1 (fit_pz Hf1.out.symm), ge2 (fit_pz Hf2.out.symm), ge3 (fit_pz Hf3.out.symm), ge4 (fit_pz Hf4.out.symm), ge5 (fit_pz Hf5.out.symm), ge6 (fit_pz Hf6.out.symm), ge7 (fit_pz Hf7.out.symm)]
            simp)
          have hE9 := HE9.out
          subst hE9
          clear HE9 HZ1 hBm0 hBm1 hBm2 hBm3 hBm4 hBm5 hBm6 hBm7 hBm8 hSm0 hSm1 hSm2 hSm3 hSm4 hSm5 hSm6 hSm7 hSm8 hbm1 hbm2 hbm3 hbm4 hbm5 hbm6 hbm7 hbm8 ge0 ge1 ge2 ge3 ge4 ge5 ge6 ge7
          trace_state
          go_wp2_with fail
          go_ret2
          exact ⟨rfl, HBE9.out⟩
      · have v0 : (k == 0) = false := by simpa using k0
        have v1 : (k != 0) = true := by simpa using k0
        by_cases k5 : k = 5
        · subst k5
          obtain rfl : sz = 0 := HSz.out
          have hz := HZ.out
          have hfo := HFo.out.symm
          rw [putA_yes hfo (by unfold WM.fitAll WM.flds WM.wid; simp)] at hz
          have hn0 : n = 0 := by
            unfold WM.formOk at hfo
            simp at hfo
            omega
          subst hn0
          unfold WM.flds WM.wid at hz
          simp only [show ((5 : Int) = 0) = False by simp, if_false, if_true, List.map_nil, List.zip_nil_left, WM.encs] at hz
          rw [← HL0.out] at hz
          obtain ⟨rfl, rfl⟩ := hz
          clear HZ
          go_wp2_with fail
          refine (rbytes_any 0 ⟨by omega, by omega⟩ 0 (by omega) _).mono ?_
          rintro e w3 ⟨l1, rfl, hl1, he1, hb1⟩
          obtain rfl : l1 = [] := List.length_eq_zero_iff.1 hl1
          have HBE3 : Hid (Below W.heap.size W w3) := Lib.hid (HBE2.out.trans (hb1.mono HBE2.out.size))
          clear hb1 he1 hl1
          go_wp2_with fail
          go_ret2
          exact ⟨by simp, HBE3.out⟩
        · obtain ⟨s, hs, hs2⟩ : ∃ s : Nat, sz = s ∧ (s = 1 ∨ s = 2) ∧ WM.wid k = [s] := by
            rw [HSz.out]
            rcases hk with h | h | h | h | h | h | h | h <;> subst h
            · exact absurd rfl k0
            · exact ⟨2, rfl, .inr rfl, rfl⟩
            · exact ⟨2, rfl, .inr rfl, rfl⟩
            · exact ⟨1, rfl, .inl rfl, rfl⟩
            · exact ⟨1, rfl, .inl rfl, rfl⟩
            · exact absurd rfl k5
            · exact ⟨1, rfl, .inl rfl, rfl⟩
            · exact ⟨2, rfl, .inr rfl, rfl⟩
          subst hs
          have hfl : WM.flds ⟨k, n, id, q, pp, r, g, c, mn, mx⟩ = [n] := by unfold WM.flds; simp [k0, k5]
          have hfa2 : fa = WM.fit n s := by rw [HFa.out]; unfold WM.fitAll; rw [hfl]; simp only; rw [hs2.2]; simp
          have HFa2 := Lib.hid hfa2
          have HFl := Lib.hid hfl
          have hs3 : s ≤ 3 := by omega
          have u1 : decide ((0 : Int) < s) = true := decide_eq_true (by omega)
          have u2 : decide (0 < s) = true := decide_eq_true (by omega)
          have u3 : 0 < s := by omega
          have HS2 := Lib.hid hs2
          clear hfa2 hfl hs2
          go_wp2_with fail
          refine (rfits_any n s hs3 _).mono ?_
          rintro e wq ⟨rfl, rfl⟩
          rw [← HFa2.out]
          cases fa with
          | false =>
            have hz := HZ.out
            rw [putA_no HFo.out.symm HFa.out.symm] at hz
            obtain ⟨rfl, rfl⟩ := hz
            clear HZ
            go_wp2_with fail
            go_ret2
            exact ⟨rfl, HBE2.out⟩
          | true =>
            have hz := HZ.out
            rw [putA_yes HFo.out.symm HFa.out.symm, HFl.out] at hz
            simp only at hz
            rw [HS2.out.2] at hz
            simp only [List.map_cons, List.map_nil, List.zip_cons_cons, List.zip_nil_left, WM.encs, List.append_nil] at hz
            have hn0 : 0 ≤ n := (WM.fit_iff.1 HFa2.out.symm).1
            go_wp2_with fail
            refine (rbytes_any n HA.out.n s hs3 _).mono ?_
            rintro e w3 ⟨l1, rfl, hl1, he1, hb1⟩
            have HBE3 : Hid (Below W.heap.size W w3) := Lib.hid (HBE2.out.trans (hb1.mono HBE2.out.size))
            have hzz : Z1 = l0 ++ l1 := by rw [hz.1, HL0.out, he1 hn0]; rfl
            obtain ⟨hz1, rfl⟩ := hz
            clear hz1
            subst hzz
            have k1 : ¬ 9223372036854775807 < 1 + s := by omega
            clear HZ he1 hb1 hn0
            go_wp2_with fail
            go_ret2
            exact ⟨rfl, HBE3.out⟩
end Go.Proofs.Ytplekkpfpidebaa
