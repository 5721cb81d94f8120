/- The document's PutConfig. -/
import Derived.Deep.CutRange
import Derived.Deep.CutBlock
import Derived.Test.YtplekkpfpidebaaHeldOn
import Derived.Test.YtplekkpfpidebaaWireNum
import Derived.Test.YtplekkpfpidebaaWirePP
set_option linter.unusedVariables false
set_option linter.unusedSimpArgs false
set_option maxRecDepth 100000
namespace Go.Proofs.Ytplekkpfpidebaa
open Go.RowKit
attribute [local go_sem] bs_size bs_list bs_app
/-- A text so far: as long as it is to be; as it is to be, if all fitted. -/
def RT (tk : List UInt8) (ok : Bool) (E : List UInt8) : Prop := tk.length = E.length ∧ (ok = true → tk = E)
theorem RT.step {tk l E : List UInt8} {ok ok' : Bool} {n : Int} {c : Nat} (h : RT tk ok E) (hl : l.length = c) (he : 0 ≤ n → l = WM.enc n.toNat c) (hk : ok' = true → ok = true ∧ 0 ≤ n) : RT (tk ++ l) ok' (E ++ WM.enc n.toNat c) :=
  ⟨by rw [List.length_append, List.length_append, h.1, hl, WM.enc_len], fun hh => by rw [h.2 (hk hh).1, he (hk hh).2]⟩
theorem RT.weak {tk E : List UInt8} {ok ok' : Bool} (h : RT tk ok E) (hk : ok' = true → ok = true) : RT tk ok' E := ⟨h.1, fun hh => h.2 (hk hh)⟩
theorem fit_pos {n : Int} {c : Nat} (h : WM.fit n c = true) : 0 ≤ n := (WM.fit_iff.1 h).1
theorem i64_nat {n : Nat} (h : n ≤ 9223372036854775807) : I64 (n : Int) := ⟨by omega, by omega⟩
theorem enc_nat (n c : Nat) : WM.enc (n : Int).toNat c = WM.enc n c := by simp
theorem rpc_end (m : Cm) (h : WM.cfOk m.cf = true) (tj l2 l3 l4 l5 E1 : List UInt8) (hT : tj = E1 ++ (WM.enc m.qs.length 1 ++ m.qs.flatMap WM.queE)) (hE1 : E1 = WM.enc m.ns.length 1 ++ m.ns.flatMap fun n => WM.nodE n.ds)
    (he2 : 0 ≤ m.w → l2 = WM.enc m.w.toNat 1) (he3 : 0 ≤ m.t → l3 = WM.enc m.t.toNat 1) (he4 : 0 ≤ m.r → l4 = WM.enc m.r.toNat 2) (he5 : 0 ≤ m.a → l5 = WM.enc m.a.toNat 2) : WM.putC m.cf = (tj ++ (l2 ++ (l3 ++ (l4 ++ l5))), 0) := by
  have hend : WM.endOk m.cf = true := by
    unfold WM.cfOk at h
    simp only [Bool.and_eq_true] at h
    exact h.2
  unfold WM.endOk Cm.cf at hend
  simp only [Bool.and_eq_true] at hend
  obtain ⟨⟨⟨h1, h2⟩, h3⟩, h4⟩ := hend
  unfold WM.putC
  rw [if_pos h, hT, hE1, he2 (fit_pos h1), he3 (fit_pos h2), he4 (fit_pos h3), he5 (fit_pos h4)]
  unfold WM.cfE WM.endE Cm.cf
  simp [List.flatMap_map, List.append_assoc]
set_option maxHeartbeats 8000000 in
theorem rputconf_any (m : Cm) (W : World) (hI : CmIn W W.heap.size m) (hO : CmOk m) (hf : CmFew m) :
    Calls Try.prog 14 #[cmV m] W fun e W' => e = .returned (.tuple #[.string (bs (WM.putC m.cf).1), .int .i64 (WM.putC m.cf).2]) ∧ Below W.heap.size W W' := by
  have HI := Lib.hid hI
  have HOk := Lib.hid hO
  have HFw := Lib.hid hf
  obtain ⟨nn, hnn⟩ : ∃ nn, nn = m.ns.length := ⟨_, rfl⟩
  obtain ⟨nq, hnq⟩ : ∃ nq, nq = m.qs.length := ⟨_, rfl⟩
  have hnn3 : nn ≤ 300 := by rw [hnn]; exact hf.ns
  have hnq3 : nq ≤ 300 := by rw [hnq]; exact hf.qs
  obtain ⟨nA, hnA⟩ : ∃ x, x = m.nA := ⟨_, rfl⟩
  obtain ⟨qA, hqA⟩ : ∃ x, x = m.qA := ⟨_, rfl⟩
  have HNs : Hid (Els ndC 1 W W.heap.size nA m.ns) := Lib.hid (by rw [hnA]; exact hI.ns)
  have HQs : Hid (Els quC 3 W W.heap.size qA m.qs) := Lib.hid (by rw [hqA]; exact hI.qs)
  obtain ⟨Z1, hZ1⟩ : ∃ Z, Z = (WM.putC m.cf).1 := ⟨_, rfl⟩
  obtain ⟨Z2, hZ2⟩ : ∃ Z, Z = (WM.putC m.cf).2 := ⟨_, rfl⟩
  rw [← hZ1, ← hZ2]
  have HZ := Lib.hid (And.intro hZ1 hZ2)
  unfold cmV cmA
  rw [← hnA, ← hqA, ← hnn, ← hnq]
  have Hnn := Lib.hid hnn
  have Hnq := Lib.hid hnq
  clear hI hO hf hZ1 hZ2 hnA hqA hnn hnq
  obtain ⟨f1, hf1⟩ : ∃ f, f = WM.fit (((nn : Nat) : Int)) 1 := ⟨_, rfl⟩
  have Hf1 := Lib.hid hf1
  clear hf1
  obtain ⟨f2, hf2⟩ : ∃ f, f = WM.fit (((nq : Nat) : Int)) 1 := ⟨_, rfl⟩
  have Hf2 := Lib.hid hf2
  clear hf2
  obtain ⟨f3, hf3⟩ : ∃ f, f = WM.fit (m.w) 1 := ⟨_, rfl⟩
  have Hf3 := Lib.hid hf3
  clear hf3
  obtain ⟨f4, hf4⟩ : ∃ f, f = WM.fit (m.t) 1 := ⟨_, rfl⟩
  have Hf4 := Lib.hid hf4
  clear hf4
  obtain ⟨f5, hf5⟩ : ∃ f, f = WM.fit (m.r) 2 := ⟨_, rfl⟩
  have Hf5 := Lib.hid hf5
  clear hf5
  obtain ⟨f6, hf6⟩ : ∃ f, f = WM.fit (m.a) 2 := ⟨_, rfl⟩
  have Hf6 := Lib.hid hf6
  clear hf6
  go_enter Try.func14, Try.ntmps14
  go_upto_region 1 with fail
  obtain ⟨w1, hw1⟩ : ∃ w1, w1 = W.alloc (.cells #[.slice nA nn m.nc, .slice qA nq m.qc, .int .i64 m.w, .int .i64 m.t, .int .i64 m.r, .int .i64 m.a] 33) := ⟨_, rfl⟩
  obtain ⟨p, hp⟩ : ∃ p, p = W.heap.size := ⟨_, rfl⟩
  rw [← hw1, ← hp]
  have HB1 : Hid (Below W.heap.size W w1) := Lib.hid (by rw [hw1]; exact (Below.refl _ _).alloc (Nat.le_refl _) _)
  have HC : Hid (w1.heap[p]? = some (.cells #[.slice nA nn m.nc, .slice qA nq m.qc, .int .i64 m.w, .int .i64 m.t, .int .i64 m.r, .int .i64 m.a] 33 (0, 0))) := Lib.hid (by rw [hw1, hp]; exact heap_alloc_new W _)
  have hpl : p < w1.heap.size := blk_lt HC.out
  have hlow : W.heap.size ≤ w1.heap.size := HB1.out.size
  clear hw1 hp
  have HX := Lib.hid (fun W2 (hk : Below w1.heap.size w1 W2) => cells6 ((hk.block p hpl).trans HC.out))
  obtain ⟨c0, c1, c2, c3, c4, c5⟩ := cells6 HC.out
  go_cut [4] from 11 to 41 (fun s wx => s = .bool (f1 && (f2 && (f3 && (f4 && (f5 && f6))))) ∧ wx = w1)
  case first =>
    go_wp2_with fail
    refine (rfits_any (((nn : Nat) : Int)) 1 (by omega) _).mono ?_
    rintro e wq ⟨rfl, rfl⟩
    rw [← Hf1.out]
    cases f1
    · go_wp2_with fail
      go_meet
      case rel => exact ⟨rfl, rfl⟩
    go_wp2_with fail
    refine (rfits_any (((nq : Nat) : Int)) 1 (by omega) _).mono ?_
    rintro e wq ⟨rfl, rfl⟩
    rw [← Hf2.out]
    cases f2
    · go_wp2_with fail
      go_meet
      case rel => exact ⟨rfl, rfl⟩
    go_wp2_with fail
    refine (rfits_any (m.w) 1 (by omega) _).mono ?_
    rintro e wq ⟨rfl, rfl⟩
    rw [← Hf3.out]
    cases f3
    · go_wp2_with fail
      go_meet
      case rel => exact ⟨rfl, rfl⟩
    go_wp2_with fail
    refine (rfits_any (m.t) 1 (by omega) _).mono ?_
    rintro e wq ⟨rfl, rfl⟩
    rw [← Hf4.out]
    cases f4
    · go_wp2_with fail
      go_meet
      case rel => exact ⟨rfl, rfl⟩
    go_wp2_with fail
    refine (rfits_any (m.r) 2 (by omega) _).mono ?_
    rintro e wq ⟨rfl, rfl⟩
    rw [← Hf5.out]
    cases f5
    · go_wp2_with fail
      go_meet
      case rel => exact ⟨rfl, rfl⟩
    go_wp2_with fail
    refine (rfits_any (m.a) 2 (by omega) _).mono ?_
    rintro e wq ⟨rfl, rfl⟩
    rw [← Hf6.out]
    cases f6
    · go_wp2_with fail
      go_meet
      case rel => exact ⟨rfl, rfl⟩
    go_wp2_with fail
    go_meet
    case rel => exact ⟨rfl, rfl⟩
  case rest =>
    obtain ⟨rfl, e9⟩ := hcut
    rw [e9]
    clear e9
    obtain ⟨ok, hok⟩ : ∃ ok, ok = (f1 && (f2 && (f3 && (f4 && (f5 && f6))))) := ⟨_, rfl⟩
    rw [← hok]
    have HOK := Lib.hid hok
    clear hok
    go_wp2_with fail
    refine (rbytes_any (nn : Int) (i64_nat (by omega)) 1 (by omega) _).mono ?_
    rintro e w2 ⟨l0, rfl, hl0, he0, hb0⟩
    have HB2 : Hid (Below w1.heap.size w1 w2) := Lib.hid hb0
    have HR0 : Hid (RT l0 ok (WM.enc nn 1)) := Lib.hid ⟨by rw [hl0, WM.enc_len], fun _ => by rw [he0 (by omega), enc_nat]⟩
    clear c0 c1 c2 c3 c4 c5 hl0 he0 hb0
    obtain ⟨c0, c1, c2, c3, c4, c5⟩ := HX.out w2 HB2.out
    go_wp2_with fail
    go_loopw [4, 5, 6] (fun s o i wr => ∃ (k : Nat) (okk : Bool) (tk : List UInt8), i = .int .i64 k ∧ s = .bool okk ∧ o = .string (bs tk) ∧ k ≤ nn ∧ Hid (okk = (ok && (m.ns.take k).all fun n => WM.nodOk n.ds)) ∧ Hid (RT tk okk (WM.enc nn 1 ++ (m.ns.take k).flatMap fun n => WM.nodE n.ds)) ∧ Hid (Below w1.heap.size w1 wr)) (fun _ _ i _ => nn - (intOf i).toNat)
    case atStart => exact ⟨0, ok, l0, rfl, rfl, rfl, Nat.zero_le _, Lib.hid (by simp), Lib.hid (by simpa using HR0.out), HB2⟩
    case round =>
      clear c0 c1 c2 c3 c4 c5
      obtain ⟨k, okk, tk, rfl, rfl, rfl, hk, hok, hrt, hB⟩ := hrel
      obtain ⟨c0, c1, c2, c3, c4, c5⟩ := HX.out wr hB.out
      have hsr := hB.out.size
      have htl : tk.length ≤ 2101 := by
        rw [hrt.out.1, List.length_append, WM.enc_len]
        have := nods_take m.ns k HFw.out.ns HFw.out.ds
        omega
      by_cases hlt : k < nn
      · obtain ⟨y, hy⟩ := get_lt (l := m.ns) (k := k) (by rw [← Hnn.out]; exact hlt)
        obtain ⟨b, off, rfl, hb, hc⟩ := HNs.out.at_ hy
        have hbl2 : b < w1.heap.size := by omega
        have f0 := (hB.out.cell (p := ⟨b, off + k * 1, none⟩) hbl2).trans ((HB1.out.cell (p := ⟨b, off + k * 1, none⟩) hb).trans (hc k y hy 0 _ rfl))
        rw [Nat.mul_one] at f0
        have hdl : y.ds.length ≤ 600 := Nat.le_trans (mem_le (List.mem_of_getElem? hy)) HFw.out.ds
        have HEd := Lib.hid (HI.out.ds y (List.mem_of_getElem? hy))
        have HDo := Lib.hid (HOk.out.ds y (List.mem_of_getElem? hy))
        have Hy := Lib.hid hy
        obtain ⟨ds, hds⟩ : ∃ ds, ds = y.ds := ⟨_, rfl⟩
        obtain ⟨yA, hyA⟩ : ∃ yA, yA = y.A := ⟨_, rfl⟩
        obtain ⟨nd, hnd⟩ : ∃ nd, nd = ds.length := ⟨_, rfl⟩
        rw [← hds, ← hnd, ← hyA] at f0
        rw [← hds, ← hnd] at hdl
        rw [← hds, ← hyA] at HEd
        rw [← hds] at HDo
        have Hds := Lib.hid hds
        have Hnd := Lib.hid hnd
        clear hy hc hds hnd hyA
        obtain ⟨g1, hg1⟩ : ∃ g, g = WM.fit (nd : Int) 1 := ⟨_, rfl⟩
        have Hg1 := Lib.hid hg1
        clear hg1
        go_upto_region 7 with fail
        go_cut [4] from 47 to 110 (fun s wx => s = .bool (okk && g1) ∧ wx = wr)
        case first =>
          cases okk
          · go_wp2_with fail
            go_meet
            case rel => exact ⟨rfl, rfl⟩
          · go_wp2_with fail
            refine (rfits_any (nd : Int) 1 (by omega) _).mono ?_
            rintro e wq ⟨rfl, rfl⟩
            rw [← Hg1.out]
            go_wp2_with fail
            go_meet
            case rel => exact ⟨rfl, rfl⟩
        case rest =>
          obtain ⟨rfl, e9⟩ := hcut
          rw [e9]
          clear e9
          have htb : tk.length ≤ 2101 := htl
          go_wp2_with fail
          refine (rbytes_any (nd : Int) (i64_nat (by omega)) 1 (by omega) _).mono ?_
          rintro e w3 ⟨l1, rfl, hl1, he1, hb1⟩
          have HB3 : Hid (Below w1.heap.size w1 w3) := Lib.hid (hB.out.trans (hb1.mono hB.out.size))
          obtain ⟨E0, hE0⟩ : ∃ E0, E0 = WM.enc nn 1 ++ (m.ns.take k).flatMap fun n => WM.nodE n.ds := ⟨_, rfl⟩
          rw [← hE0] at hrt
          obtain ⟨ok2, hok2⟩ : ∃ ok2, ok2 = (okk && g1) := ⟨_, rfl⟩
          rw [← hok2]
          have HR1 : Hid (RT (tk ++ l1) ok2 (E0 ++ WM.enc nd 1)) := Lib.hid (by
            have h9 := hrt.out.step (ok' := ok2) hl1 he1 (fun h => ⟨by rw [hok2] at h; simp at h; exact h.1, by omega⟩)
            rwa [enc_nat] at h9)
          have HOK2 := Lib.hid hok2
          have HE0 := Lib.hid hE0
          have hE0l : E0.length ≤ 2101 := by rw [← hrt.out.1]; exact htl
          clear c0 c1 c2 c3 c4 c5 he1 hb1 f0 hok2 hE0 hrt
          go_wp2_with fail
          obtain ⟨t1, ht1⟩ : ∃ t1, t1 = tk ++ l1 := ⟨_, rfl⟩
          rw [← ht1] at HR1 ⊢
          clear ht1 htl htb hl1
          go_loopw [4, 5, 8] (fun s o i wr2 => ∃ (j : Nat) (ok3 : Bool) (tj : List UInt8), i = .int .i64 j ∧ s = .bool ok3 ∧ o = .string (bs tj) ∧ j ≤ nd ∧ Hid (ok3 = (ok2 && (ds.take j).all WM.domOk)) ∧ Hid (RT tj ok3 (E0 ++ (WM.enc nd 1 ++ (ds.take j).flatMap WM.domE))) ∧ Hid (Below w1.heap.size w1 wr2)) (fun _ _ i _ => nd - (intOf i).toNat)
          case atStart => exact ⟨0, ok2, t1, rfl, rfl, rfl, Nat.zero_le _, Lib.hid (by simp), Lib.hid (by simpa using HR1.out), HB3⟩
          case round =>
            obtain ⟨j, ok3, tj, rfl, rfl, rfl, hj, hok3, hrj, hB4⟩ := hrel
            have hs4 := hB4.out.size
            have htj : tj.length ≤ 4000 := by
              rw [hrj.out.1, List.length_append, List.length_append, doms_len, WM.enc_len]
              have : (ds.take j).length ≤ ds.length := by simp; omega
              have := Hnd.out
              omega
            by_cases hlj : j < nd
            · obtain ⟨z, hz⟩ := get_lt (l := ds) (k := j) (by rw [← Hnd.out]; exact hlj)
              obtain ⟨b2, off2, rfl, hb2, hc2⟩ := HEd.out.at_ hz
              have hb21 : b2 < w1.heap.size := by omega
              have hb22 : b2 < wr.heap.size := by omega
              have q0 := (hB4.out.cell (p := ⟨b2, off2 + j * 2, none⟩) hb21).trans ((HB1.out.cell (p := ⟨b2, off2 + j * 2, none⟩) hb2).trans (hc2 j z hz 0 _ rfl))
              have q1 := (hB4.out.cell (p := ⟨b2, off2 + j * 2 + 1, none⟩) hb21).trans ((HB1.out.cell (p := ⟨b2, off2 + j * 2 + 1, none⟩) hb2).trans (hc2 j z hz 1 _ rfl))
              have HZo := Lib.hid (HDo.out z (List.mem_of_getElem? hz))
              have Hz := Lib.hid hz
              obtain ⟨x0, x1⟩ := z
              simp only at q0 q1
              clear hz hc2 hb2 hb21
              obtain ⟨h1, hh1⟩ : ∃ f, f = WM.fit x0 1 := ⟨_, rfl⟩
              obtain ⟨h2, hh2⟩ : ∃ f, f = WM.fit x1 2 := ⟨_, rfl⟩
              have Hh1 := Lib.hid hh1
              have Hh2 := Lib.hid hh2
              clear hh1 hh2
              go_upto_region 12 with fail
              go_cut [4] from 73 to 110 (fun s wx => s = .bool (ok3 && (h1 && h2)) ∧ wx = wr)
              case first =>
                cases ok3
                · go_wp2_with fail
                  go_meet
                  case rel => exact ⟨rfl, rfl⟩
                · go_wp2_with fail
                  refine (rfits_any x0 1 (by omega) _).mono ?_
                  rintro e wq ⟨rfl, rfl⟩
                  rw [← Hh1.out]
                  cases h1
                  · go_wp2_with fail
                    go_meet
                    case rel => exact ⟨rfl, rfl⟩
                  · go_wp2_with fail
                    refine (rfits_any x1 2 (by omega) _).mono ?_
                    rintro e wq ⟨rfl, rfl⟩
                    rw [← Hh2.out]
                    go_wp2_with fail
                    go_meet
                    case rel => exact ⟨rfl, rfl⟩
              case rest =>
                obtain ⟨rfl, e9⟩ := hcut
                rw [e9]
                clear e9
                obtain ⟨ok4, hok4⟩ : ∃ f, f = (ok3 && (h1 && h2)) := ⟨_, rfl⟩
                rw [← hok4]
                have HOK4 := Lib.hid hok4
                clear hok4
                have k1 : ¬ 9223372036854775807 < tj.length + 1 := by omega
                have k2 : ¬ 9223372036854775807 < tj.length + 1 + 2 := by omega
                go_wp2_with fail
                refine held_begin (fun w' : World => w'.cell? ⟨b2, off2 + j * 2, none⟩ = some (.int .i64 x0) ∧ w'.cell? ⟨b2, off2 + j * 2 + 1, none⟩ = some (.int .i64 x1)) (by kernel_rfl) ?_
                have hBm0 : Below wr.heap.size wr wr.drew := (Below.refl _ _).drew
                have hSm0 : (fun w' : World => w'.cell? ⟨b2, off2 + j * 2, none⟩ = some (.int .i64 x0) ∧ w'.cell? ⟨b2, off2 + j * 2 + 1, none⟩ = some (.int .i64 x1)) wr.drew := ⟨q0, q1⟩
                refine held_take (v := ?_) 0 96 rfl rfl (by kernel_rfl) (by kernel_rfl) (by kernel_rfl) (fun _ _ _ h => h) ⟨by rfl, ?_⟩ hSm0 ?_
                rotate_left
                · intro w' hw'; obtain ⟨x0, x1⟩ := hw'; go_simp; (try with_reducible rfl)
                simp only [Act.put, List.setIfInBounds_toArray, List.set_cons_zero, List.set_cons_succ]
                refine held_take (v := ?_) 1 97 rfl rfl (by kernel_rfl) (by kernel_rfl) (by kernel_rfl) (fun _ _ _ h => h) ⟨by rfl, ?_⟩ hSm0 ?_
                rotate_left
                · intro w' hw'; obtain ⟨x0, x1⟩ := hw'; go_simp; (try with_reducible rfl)
                simp only [Act.put, List.setIfInBounds_toArray, List.set_cons_zero, List.set_cons_succ]
                refine held_take (v := ?_) 2 98 rfl rfl (by kernel_rfl) (by kernel_rfl) (by kernel_rfl) (fun _ _ _ h => h) ⟨by rfl, ?_⟩ hSm0 ?_
                rotate_left
                · intro w' hw'; obtain ⟨x0, x1⟩ := hw'; go_simp; (try with_reducible rfl)
                simp only [Act.put, List.setIfInBounds_toArray, List.set_cons_zero, List.set_cons_succ]
                refine held_take (v := ?_) 3 99 rfl rfl (by kernel_rfl) (by kernel_rfl) (by kernel_rfl) (fun _ _ _ h => h) ⟨by rfl, ?_⟩ hSm0 ?_
                rotate_left
                · intro w' hw'; obtain ⟨x0, x1⟩ := hw'; go_simp; (try with_reducible rfl)
                simp only [Act.put, List.setIfInBounds_toArray, List.set_cons_zero, List.set_cons_succ]
                refine held_take (v := ?_) 4 100 rfl rfl (by kernel_rfl) (by kernel_rfl) (by kernel_rfl) (fun _ _ _ h => h) ⟨by rfl, ?_⟩ hSm0 ?_
                rotate_left
                · intro w' hw'; obtain ⟨x0, x1⟩ := hw'; go_simp; (try with_reducible rfl)
                simp only [Act.put, List.setIfInBounds_toArray, List.set_cons_zero, List.set_cons_succ]
                refine held_take (v := ?_) 5 101 rfl rfl (by kernel_rfl) (by kernel_rfl) (by kernel_rfl) (fun _ _ _ h => h) ⟨by rfl, ?_⟩ hSm0 ?_
                rotate_left
                · intro w' hw'; obtain ⟨x0, x1⟩ := hw'; go_simp; (try with_reducible rfl)
                simp only [Act.put, List.setIfInBounds_toArray, List.set_cons_zero, List.set_cons_succ]
                refine held_take (v := ?_) 8 104 rfl rfl (by kernel_rfl) (by kernel_rfl) (by kernel_rfl) (fun _ _ _ h => h) ⟨by rfl, ?_⟩ hSm0 ?_
                rotate_left
                · intro w' hw'; obtain ⟨x0, x1⟩ := hw'; go_simp; (try with_reducible rfl)
                simp only [Act.put, List.setIfInBounds_toArray, List.set_cons_zero, List.set_cons_succ]
                refine held_take (v := ?_) 9 105 rfl rfl (by kernel_rfl) (by kernel_rfl) (by kernel_rfl) (fun _ _ _ h => h) ⟨by rfl, ?_⟩ hSm0 ?_
                rotate_left
                · intro w' hw'; obtain ⟨x0, x1⟩ := hw'; go_simp; (try with_reducible rfl)
                simp only [Act.put, List.setIfInBounds_toArray, List.set_cons_zero, List.set_cons_succ]
                refine held_take (v := ?_) 10 106 rfl rfl (by kernel_rfl) (by kernel_rfl) (by kernel_rfl) (fun _ _ _ h => h) ⟨by rfl, ?_⟩ hSm0 ?_
                rotate_left
                · intro w' hw'; obtain ⟨x0, x1⟩ := hw'; go_simp; (try with_reducible rfl)
                simp only [Act.put, List.setIfInBounds_toArray, List.set_cons_zero, List.set_cons_succ]
                refine held_take (v := ?_) 11 107 rfl rfl (by kernel_rfl) (by kernel_rfl) (by kernel_rfl) (fun _ _ _ h => h) ⟨by rfl, ?_⟩ hSm0 ?_
                rotate_left
                · intro w' hw'; obtain ⟨x0, x1⟩ := hw'; go_simp; (try with_reducible rfl)
                simp only [Act.put, List.setIfInBounds_toArray, List.set_cons_zero, List.set_cons_succ]
                refine held_take (v := ?_) 12 108 rfl rfl (by kernel_rfl) (by kernel_rfl) (by kernel_rfl) (fun _ _ _ h => h) ⟨by rfl, ?_⟩ hSm0 ?_
                rotate_left
                · intro w' hw'; obtain ⟨x0, x1⟩ := hw'; go_simp; (try with_reducible rfl)
                simp only [Act.put, List.setIfInBounds_toArray, List.set_cons_zero, List.set_cons_succ]
                refine held_one 6 rfl (by kernel_rfl) (by rfl) (fun K hK => ?_)
                go_simp
                go_at_call 24
                refine (rbytes_any x0 HZo.out.1 1 (by omega) wr.drew).mono ?_
                rintro e wm1 ⟨l2, rfl, hl2, he2, hbm1⟩
                have hBm1 : Below wr.heap.size wr wm1 := below_step hBm0 hbm1
                have hSm1 : (fun w' : World => w'.cell? ⟨b2, off2 + j * 2, none⟩ = some (.int .i64 x0) ∧ w'.cell? ⟨b2, off2 + j * 2 + 1, none⟩ = some (.int .i64 x1)) wm1 := ⟨(hBm1.cell (p := ⟨b2, off2 + j * 2, none⟩) (hb22)).trans q0, (hBm1.cell (p := ⟨b2, off2 + j * 2 + 1, none⟩) (hb22)).trans q1⟩
                refine hK.out _ _ hSm1 ?_
                clear hK K
                refine held_take (v := ?_) 7 103 rfl rfl (by kernel_rfl) (by kernel_rfl) (by kernel_rfl) (fun _ _ _ h => h) ⟨by rfl, ?_⟩ hSm1 ?_
                rotate_left
                · intro w' hw'; obtain ⟨x0, x1⟩ := hw'; go_simp; (try with_reducible rfl)
                simp only [Act.put, List.setIfInBounds_toArray, List.set_cons_zero, List.set_cons_succ]
                refine held_one 13 rfl (by kernel_rfl) (by rfl) (fun K hK => ?_)
                go_simp
                go_at_call 24
                refine (rbytes_any x1 HZo.out.2 2 (by omega) wm1).mono ?_
                rintro e wm2 ⟨l3, rfl, hl3, he3, hbm2⟩
                have hBm2 : Below wr.heap.size wr wm2 := below_step hBm1 hbm2
                have hSm2 : (fun w' : World => w'.cell? ⟨b2, off2 + j * 2, none⟩ = some (.int .i64 x0) ∧ w'.cell? ⟨b2, off2 + j * 2 + 1, none⟩ = some (.int .i64 x1)) wm2 := ⟨(hBm2.cell (p := ⟨b2, off2 + j * 2, none⟩) (hb22)).trans q0, (hBm2.cell (p := ⟨b2, off2 + j * 2 + 1, none⟩) (hb22)).trans q1⟩
                refine hK.out _ _ hSm2 ?_
                clear hK K
                refine held_take (v := ?_) 14 110 rfl rfl (by kernel_rfl) (by kernel_rfl) (by kernel_rfl) (fun _ _ _ h => h) ⟨by rfl, ?_⟩ hSm2 ?_
                rotate_left
                · intro w' hw'; obtain ⟨x0, x1⟩ := hw'; go_simp; (try with_reducible rfl)
                simp only [Act.put, List.setIfInBounds_toArray, List.set_cons_zero, List.set_cons_succ]
                refine held_take (v := ?_) 15 5 rfl rfl (by kernel_rfl) (by kernel_rfl) (by kernel_rfl) (fun _ _ _ h => h) ⟨by rfl, ?_⟩ hSm2 ?_
                rotate_left
                · intro w' hw'; obtain ⟨x0, x1⟩ := hw'; go_simp; (try with_reducible rfl)
                simp only [Act.put, List.setIfInBounds_toArray, List.set_cons_zero, List.set_cons_succ]
                refine wpAnyH_done (by kernel_rfl) ?_ _
                have HB5 : Hid (Below w1.heap.size w1 wm2) := Lib.hid (hB4.out.trans (hBm2.mono hB4.out.size))
                have HD4 : Hid (ok4 = true → ok3 = true ∧ WM.fit x0 1 = true ∧ WM.fit x1 2 = true) := Lib.hid fun h => by
                  rw [HOK4.out] at h
                  simp only [Bool.and_eq_true] at h
                  exact ⟨h.1, by rw [← Hh1.out]; exact h.2.1, by rw [← Hh2.out]; exact h.2.2⟩
                have HR5 : Hid (RT (tj ++ l2 ++ l3) ok4 (E0 ++ (WM.enc nd 1 ++ (ds.take (j + 1)).flatMap WM.domE))) := Lib.hid (by
                  have h9 := (hrj.out.step (ok' := ok4) hl2 he2 (fun h => ⟨(HD4.out h).1, fit_pos (HD4.out h).2.1⟩)).step (ok' := ok4) hl3 he3 (fun h => ⟨h, fit_pos (HD4.out h).2.2⟩)
                  rw [flat_next WM.domE Hz.out]
                  simpa [WM.domE, List.append_assoc] using h9)
                have HK5 : Hid (ok4 = (ok2 && (ds.take (j + 1)).all WM.domOk)) := Lib.hid (by
                  rw [HOK4.out, hok3.out, take_next Hz.out, Hh1.out, Hh2.out, List.all_append]
                  simp [WM.domOk, Bool.and_assoc])
                clear k1 k2 q0 q1 hBm0 hBm1 hBm2 hSm0 hSm1 hSm2 hbm1 hbm2 hl2 hl3 he2 he3
                go_wp2_with fail
                obtain ⟨t5, ht5⟩ : ∃ t5, t5 = tj ++ (l2 ++ l3) := ⟨_, rfl⟩
                rw [List.append_assoc, ← ht5] at HR5
                (try rw [List.append_assoc]); (try rw [← ht5])
                go_roundw
                case rel => exact ⟨j + 1, ok4, t5, by go_num, rfl, rfl, by omega, HK5, HR5, HB5⟩
                case measure => simp [intOf]; omega
            · obtain rfl : j = nd := by omega
              have htk9 : ds.take j = ds := List.take_of_length_le (by rw [← Hnd.out]; exact Nat.le_refl _)
              have HR6 : Hid (RT tj ok3 (WM.enc nn 1 ++ (m.ns.take (k + 1)).flatMap fun n => WM.nodE n.ds)) := Lib.hid (by
                have h9 := hrj.out
                rw [htk9, HE0.out, List.append_assoc] at h9
                rw [flat_next (fun n : Nd => WM.nodE n.ds) Hy.out, ← Hds.out]
                unfold WM.nodE
                rw [← Hnd.out]
                exact h9)
              have HK6 : Hid (ok3 = (ok && (m.ns.take (k + 1)).all fun n => WM.nodOk n.ds)) := Lib.hid (by
                rw [hok3.out, HOK2.out, hok.out, htk9, take_next Hy.out, List.all_append, Hg1.out, Hnd.out]
                simp [WM.nodOk, Hds.out, Bool.and_assoc])
              clear htk9
              go_wp2_with fail
              go_roundw
              case rel => exact ⟨k + 1, ok3, tj, by go_num, rfl, rfl, by omega, HK6, HR6, hB4⟩
              case measure => simp [intOf]; omega
      · obtain rfl : k = nn := by omega
        have htk9 : m.ns.take k = m.ns := List.take_of_length_le (by rw [← Hnn.out]; exact Nat.le_refl _)
        rw [htk9] at hok hrt
        obtain ⟨E1, hE1⟩ : ∃ E1, E1 = WM.enc k 1 ++ m.ns.flatMap fun n => WM.nodE n.ds := ⟨_, rfl⟩
        rw [← hE1] at hrt
        have HE1 := Lib.hid hE1
        have hE1l : E1.length ≤ 2101 := by rw [← hrt.out.1]; exact htl
        have k1 : ¬ 9223372036854775807 < tk.length + 1 := by omega
        clear htk9 hE1
        go_wp2_with fail
        refine (rbytes_any (nq : Int) (i64_nat (by omega)) 1 (by omega) _).mono ?_
        rintro e w3 ⟨l1, rfl, hl1, he1, hb1⟩
        have HB3 : Hid (Below w1.heap.size w1 w3) := Lib.hid (hB.out.trans (hb1.mono hB.out.size))
        have HR1 : Hid (RT (tk ++ l1) okk (E1 ++ WM.enc nq 1)) := Lib.hid (by
          have h9 := hrt.out.step (ok' := okk) hl1 he1 (fun h => ⟨h, by omega⟩)
          rwa [enc_nat] at h9)
        clear c0 c1 c2 c3 c4 c5
        obtain ⟨c0, c1, c2, c3, c4, c5⟩ := HX.out w3 HB3.out
        clear he1 hb1 hrt hB
        go_wp2_with fail
        obtain ⟨t1, ht1⟩ : ∃ t1, t1 = tk ++ l1 := ⟨_, rfl⟩
        rw [← ht1] at HR1 ⊢
        clear ht1 htl hl1 k1
        go_loopw [4, 5, 9] (fun s o i wr => ∃ (j : Nat) (ok3 : Bool) (tj : List UInt8), i = .int .i64 j ∧ s = .bool ok3 ∧ o = .string (bs tj) ∧ j ≤ nq ∧ Hid (ok3 = (okk && (m.qs.take j).all WM.queOk)) ∧ Hid (RT tj ok3 (E1 ++ (WM.enc nq 1 ++ (m.qs.take j).flatMap WM.queE))) ∧ Hid (Below w1.heap.size w1 wr)) (fun _ _ i _ => nq - (intOf i).toNat)
        case atStart => exact ⟨0, okk, t1, rfl, rfl, rfl, Nat.zero_le _, Lib.hid (by simp), Lib.hid (by simpa using HR1.out), HB3⟩
        case round =>
          clear c0 c1 c2 c3 c4 c5
          obtain ⟨j, ok3, tj, rfl, rfl, rfl, hj, hok3, hrj, hB4⟩ := hrel
          obtain ⟨c0, c1, c2, c3, c4, c5⟩ := HX.out wr hB4.out
          have hs4 := hB4.out.size
          have htj : tj.length ≤ 5000 := by
            rw [hrj.out.1, List.length_append, List.length_append, ques_len, WM.enc_len]
            have : (m.qs.take j).length ≤ m.qs.length := by simp; omega
            have := Hnq.out
            omega
          by_cases hlj : j < nq
          · obtain ⟨z, hz⟩ := get_lt (l := m.qs) (k := j) (by rw [← Hnq.out]; exact hlj)
            obtain ⟨b2, off2, rfl, hb2, hc2⟩ := HQs.out.at_ hz
            have hb21 : b2 < w1.heap.size := by omega
            have q0 := (hB4.out.cell (p := ⟨b2, off2 + j * 3, none⟩) hb21).trans ((HB1.out.cell (p := ⟨b2, off2 + j * 3, none⟩) hb2).trans (hc2 j z hz 0 _ rfl))
            have q1 := (hB4.out.cell (p := ⟨b2, off2 + j * 3 + 1, none⟩) hb21).trans ((HB1.out.cell (p := ⟨b2, off2 + j * 3 + 1, none⟩) hb2).trans (hc2 j z hz 1 _ rfl))
            have q2 := (hB4.out.cell (p := ⟨b2, off2 + j * 3 + 2, none⟩) hb21).trans ((HB1.out.cell (p := ⟨b2, off2 + j * 3 + 2, none⟩) hb2).trans (hc2 j z hz 2 _ rfl))
            have HZo := Lib.hid (HOk.out.qs z (List.mem_of_getElem? hz))
            have Hz := Lib.hid hz
            obtain ⟨x0, x1, x2⟩ := z
            simp only at q0 q1 q2
            clear hz hc2 hb2 hb21
            go_upto_region 19 with fail
            obtain ⟨wv, hwv⟩ : ∃ wv, wv = wr.alloc (.cells #[.int .i64 x0, .int .i64 x1, .int .i64 x2] 84) := ⟨_, rfl⟩
            obtain ⟨g, hg⟩ : ∃ g, g = wr.heap.size := ⟨_, rfl⟩
            rw [← hwv, ← hg]
            have hgv : wv.heap[g]? = some (.cells #[.int .i64 x0, .int .i64 x1, .int .i64 x2] 84 (0, 0)) := by rw [hwv, hg]; exact heap_alloc_new _ _
            have hgl : g < wv.heap.size := blk_lt hgv
            have hBv : Hid (Below w1.heap.size w1 wv) := Lib.hid (by rw [hwv]; exact hB4.out.alloc hs4 _)
            clear q0 q1 q2 hwv hg
            obtain ⟨q0, q1, q2⟩ := cells3 hgv
            clear hgv
            obtain ⟨h1, hh1⟩ : ∃ f, f = WM.fit x0 3 := ⟨_, rfl⟩
            obtain ⟨h2, hh2⟩ : ∃ f, f = WM.fit x1 3 := ⟨_, rfl⟩
            obtain ⟨h3, hh3⟩ : ∃ f, f = WM.fit x2 1 := ⟨_, rfl⟩
            have Hh1 := Lib.hid hh1
            have Hh2 := Lib.hid hh2
            have Hh3 := Lib.hid hh3
            clear hh1 hh2 hh3
            go_cut [4] from 117 to 161 (fun s wx => s = .bool (ok3 && (h1 && (h2 && h3))) ∧ wx = wv)
            case first =>
              cases ok3
              · go_wp2_with fail
                go_meet
                case rel => exact ⟨rfl, rfl⟩
              · go_wp2_with fail
                refine (rfits_any (x0) 3 (by omega) _).mono ?_
                rintro e wq ⟨rfl, rfl⟩
                rw [← Hh1.out]
                cases h1
                · go_wp2_with fail
                  go_meet
                  case rel => exact ⟨rfl, rfl⟩
                go_wp2_with fail
                refine (rfits_any (x1) 3 (by omega) _).mono ?_
                rintro e wq ⟨rfl, rfl⟩
                rw [← Hh2.out]
                cases h2
                · go_wp2_with fail
                  go_meet
                  case rel => exact ⟨rfl, rfl⟩
                go_wp2_with fail
                refine (rfits_any (x2) 1 (by omega) _).mono ?_
                rintro e wq ⟨rfl, rfl⟩
                rw [← Hh3.out]
                cases h3
                · go_wp2_with fail
                  go_meet
                  case rel => exact ⟨rfl, rfl⟩
                go_wp2_with fail
                go_meet
                case rel => exact ⟨rfl, rfl⟩
            case rest =>
              obtain ⟨rfl, e9⟩ := hcut
              rw [e9]
              clear e9
              obtain ⟨ok4, hok4⟩ : ∃ f, f = (ok3 && (h1 && (h2 && h3))) := ⟨_, rfl⟩
              rw [← hok4]
              have HOK4 := Lib.hid hok4
              clear hok4
              have k1 : ¬ 9223372036854775807 < tj.length + 3 := by omega
              have k2 : ¬ 9223372036854775807 < tj.length + 3 + 3 := by omega
              have k3 : ¬ 9223372036854775807 < tj.length + 3 + 3 + 1 := by omega
              go_wp2_with fail
              refine held_begin (fun w' : World => w'.cell? ⟨g, 0, none⟩ = some (.int .i64 x0) ∧ w'.cell? ⟨g, 1, none⟩ = some (.int .i64 x1) ∧ w'.cell? ⟨g, 2, none⟩ = some (.int .i64 x2)) (by kernel_rfl) ?_
              have hBm0 : Below wv.heap.size wv wv.drew := (Below.refl _ _).drew
              have hSm0 : (fun w' : World => w'.cell? ⟨g, 0, none⟩ = some (.int .i64 x0) ∧ w'.cell? ⟨g, 1, none⟩ = some (.int .i64 x1) ∧ w'.cell? ⟨g, 2, none⟩ = some (.int .i64 x2)) wv.drew := ⟨q0, q1, q2⟩
              refine held_take (v := ?_) 0 147 rfl rfl (by kernel_rfl) (by kernel_rfl) (by kernel_rfl) (fun _ _ _ h => h) ⟨by rfl, ?_⟩ hSm0 ?_
              rotate_left
              · intro w' hw'; obtain ⟨x0, x1, x2⟩ := hw'; go_simp; (try with_reducible rfl)
              simp only [Act.put, List.setIfInBounds_toArray, List.set_cons_zero, List.set_cons_succ]
              refine held_take (v := ?_) 1 148 rfl rfl (by kernel_rfl) (by kernel_rfl) (by kernel_rfl) (fun _ _ _ h => h) ⟨by rfl, ?_⟩ hSm0 ?_
              rotate_left
              · intro w' hw'; obtain ⟨x0, x1, x2⟩ := hw'; go_simp; (try with_reducible rfl)
              simp only [Act.put, List.setIfInBounds_toArray, List.set_cons_zero, List.set_cons_succ]
              refine held_take (v := ?_) 2 149 rfl rfl (by kernel_rfl) (by kernel_rfl) (by kernel_rfl) (fun _ _ _ h => h) ⟨by rfl, ?_⟩ hSm0 ?_
              rotate_left
              · intro w' hw'; obtain ⟨x0, x1, x2⟩ := hw'; go_simp; (try with_reducible rfl)
              simp only [Act.put, List.setIfInBounds_toArray, List.set_cons_zero, List.set_cons_succ]
              refine held_take (v := ?_) 3 150 rfl rfl (by kernel_rfl) (by kernel_rfl) (by kernel_rfl) (fun _ _ _ h => h) ⟨by rfl, ?_⟩ hSm0 ?_
              rotate_left
              · intro w' hw'; obtain ⟨x0, x1, x2⟩ := hw'; go_simp; (try with_reducible rfl)
              simp only [Act.put, List.setIfInBounds_toArray, List.set_cons_zero, List.set_cons_succ]
              refine held_take (v := ?_) 6 153 rfl rfl (by kernel_rfl) (by kernel_rfl) (by kernel_rfl) (fun _ _ _ h => h) ⟨by rfl, ?_⟩ hSm0 ?_
              rotate_left
              · intro w' hw'; obtain ⟨x0, x1, x2⟩ := hw'; go_simp; (try with_reducible rfl)
              simp only [Act.put, List.setIfInBounds_toArray, List.set_cons_zero, List.set_cons_succ]
              refine held_take (v := ?_) 7 154 rfl rfl (by kernel_rfl) (by kernel_rfl) (by kernel_rfl) (fun _ _ _ h => h) ⟨by rfl, ?_⟩ hSm0 ?_
              rotate_left
              · intro w' hw'; obtain ⟨x0, x1, x2⟩ := hw'; go_simp; (try with_reducible rfl)
              simp only [Act.put, List.setIfInBounds_toArray, List.set_cons_zero, List.set_cons_succ]
              refine held_take (v := ?_) 8 155 rfl rfl (by kernel_rfl) (by kernel_rfl) (by kernel_rfl) (fun _ _ _ h => h) ⟨by rfl, ?_⟩ hSm0 ?_
              rotate_left
              · intro w' hw'; obtain ⟨x0, x1, x2⟩ := hw'; go_simp; (try with_reducible rfl)
              simp only [Act.put, List.setIfInBounds_toArray, List.set_cons_zero, List.set_cons_succ]
              refine held_take (v := ?_) 11 158 rfl rfl (by kernel_rfl) (by kernel_rfl) (by kernel_rfl) (fun _ _ _ h => h) ⟨by rfl, ?_⟩ hSm0 ?_
              rotate_left
              · intro w' hw'; obtain ⟨x0, x1, x2⟩ := hw'; go_simp; (try with_reducible rfl)
              simp only [Act.put, List.setIfInBounds_toArray, List.set_cons_zero, List.set_cons_succ]
              refine held_take (v := ?_) 12 159 rfl rfl (by kernel_rfl) (by kernel_rfl) (by kernel_rfl) (fun _ _ _ h => h) ⟨by rfl, ?_⟩ hSm0 ?_
              rotate_left
              · intro w' hw'; obtain ⟨x0, x1, x2⟩ := hw'; go_simp; (try with_reducible rfl)
              simp only [Act.put, List.setIfInBounds_toArray, List.set_cons_zero, List.set_cons_succ]
              refine held_one 4 rfl (by kernel_rfl) (by rfl) (fun K hK => ?_)
              go_simp
              go_at_call 24
              refine (rbytes_any x0 HZo.out.1 3 (by omega) wv.drew).mono ?_
              rintro e wm1 ⟨l2, rfl, hl2, he2, hbm1⟩
              have hBm1 : Below wv.heap.size wv wm1 := below_step hBm0 hbm1
              have hSm1 : (fun w' : World => w'.cell? ⟨g, 0, none⟩ = some (.int .i64 x0) ∧ w'.cell? ⟨g, 1, none⟩ = some (.int .i64 x1) ∧ w'.cell? ⟨g, 2, none⟩ = some (.int .i64 x2)) wm1 := ⟨(hBm1.cell (p := ⟨g, 0, none⟩) (hgl)).trans q0, (hBm1.cell (p := ⟨g, 1, none⟩) (hgl)).trans q1, (hBm1.cell (p := ⟨g, 2, none⟩) (hgl)).trans q2⟩
              refine hK.out _ _ hSm1 ?_
              clear hK K
              refine held_take (v := ?_) 5 152 rfl rfl (by kernel_rfl) (by kernel_rfl) (by kernel_rfl) (fun _ _ _ h => h) ⟨by rfl, ?_⟩ hSm1 ?_
              rotate_left
              · intro w' hw'; obtain ⟨x0, x1, x2⟩ := hw'; go_simp; (try with_reducible rfl)
              simp only [Act.put, List.setIfInBounds_toArray, List.set_cons_zero, List.set_cons_succ]
              refine held_one 9 rfl (by kernel_rfl) (by rfl) (fun K hK => ?_)
              go_simp
              go_at_call 24
              refine (rbytes_any x1 HZo.out.2.1 3 (by omega) wm1).mono ?_
              rintro e wm2 ⟨l3, rfl, hl3, he3, hbm2⟩
              have hBm2 : Below wv.heap.size wv wm2 := below_step hBm1 hbm2
              have hSm2 : (fun w' : World => w'.cell? ⟨g, 0, none⟩ = some (.int .i64 x0) ∧ w'.cell? ⟨g, 1, none⟩ = some (.int .i64 x1) ∧ w'.cell? ⟨g, 2, none⟩ = some (.int .i64 x2)) wm2 := ⟨(hBm2.cell (p := ⟨g, 0, none⟩) (hgl)).trans q0, (hBm2.cell (p := ⟨g, 1, none⟩) (hgl)).trans q1, (hBm2.cell (p := ⟨g, 2, none⟩) (hgl)).trans q2⟩
              refine hK.out _ _ hSm2 ?_
              clear hK K
              refine held_take (v := ?_) 10 157 rfl rfl (by kernel_rfl) (by kernel_rfl) (by kernel_rfl) (fun _ _ _ h => h) ⟨by rfl, ?_⟩ hSm2 ?_
              rotate_left
              · intro w' hw'; obtain ⟨x0, x1, x2⟩ := hw'; go_simp; (try with_reducible rfl)
              simp only [Act.put, List.setIfInBounds_toArray, List.set_cons_zero, List.set_cons_succ]
              refine held_one 13 rfl (by kernel_rfl) (by rfl) (fun K hK => ?_)
              go_simp
              go_at_call 24
              refine (rbytes_any x2 HZo.out.2.2 1 (by omega) wm2).mono ?_
              rintro e wm3 ⟨l4, rfl, hl4, he4, hbm3⟩
              have hBm3 : Below wv.heap.size wv wm3 := below_step hBm2 hbm3
              have hSm3 : (fun w' : World => w'.cell? ⟨g, 0, none⟩ = some (.int .i64 x0) ∧ w'.cell? ⟨g, 1, none⟩ = some (.int .i64 x1) ∧ w'.cell? ⟨g, 2, none⟩ = some (.int .i64 x2)) wm3 := ⟨(hBm3.cell (p := ⟨g, 0, none⟩) (hgl)).trans q0, (hBm3.cell (p := ⟨g, 1, none⟩) (hgl)).trans q1, (hBm3.cell (p := ⟨g, 2, none⟩) (hgl)).trans q2⟩
              refine hK.out _ _ hSm3 ?_
              clear hK K
              refine held_take (v := ?_) 14 161 rfl rfl (by kernel_rfl) (by kernel_rfl) (by kernel_rfl) (fun _ _ _ h => h) ⟨by rfl, ?_⟩ hSm3 ?_
              rotate_left
              · intro w' hw'; obtain ⟨x0, x1, x2⟩ := hw'; go_simp; (try with_reducible rfl)
              simp only [Act.put, List.setIfInBounds_toArray, List.set_cons_zero, List.set_cons_succ]
              refine held_take (v := ?_) 15 5 rfl rfl (by kernel_rfl) (by kernel_rfl) (by kernel_rfl) (fun _ _ _ h => h) ⟨by rfl, ?_⟩ hSm3 ?_
              rotate_left
              · intro w' hw'; obtain ⟨x0, x1, x2⟩ := hw'; go_simp; (try with_reducible rfl)
              simp only [Act.put, List.setIfInBounds_toArray, List.set_cons_zero, List.set_cons_succ]
              refine wpAnyH_done (by kernel_rfl) ?_ _
              have HB5 : Hid (Below w1.heap.size w1 wm3) := Lib.hid (hBv.out.trans (hBm3.mono hBv.out.size))
              have HD4 : Hid (ok4 = true → ok3 = true ∧ WM.fit x0 3 = true ∧ WM.fit x1 3 = true ∧ WM.fit x2 1 = true) := Lib.hid fun h => by
                rw [HOK4.out] at h
                simp only [Bool.and_eq_true] at h
                exact ⟨h.1, by rw [← Hh1.out]; exact h.2.1, by rw [← Hh2.out]; exact h.2.2.1, by rw [← Hh3.out]; exact h.2.2.2⟩
              have HR5 : Hid (RT (tj ++ l2 ++ l3 ++ l4) ok4 (E1 ++ (WM.enc nq 1 ++ (m.qs.take (j + 1)).flatMap WM.queE))) := Lib.hid (by
                have h9 := ((hrj.out.step (ok' := ok4) hl2 he2 (fun h => ⟨(HD4.out h).1, fit_pos (HD4.out h).2.1⟩)).step (ok' := ok4) hl3 he3 (fun h => ⟨h, fit_pos (HD4.out h).2.2.1⟩)).step (ok' := ok4) hl4 he4 (fun h => ⟨h, fit_pos (HD4.out h).2.2.2⟩)
                rw [flat_next WM.queE Hz.out]
                simpa [WM.queE, List.append_assoc] using h9)
              have HK5 : Hid (ok4 = (okk && (m.qs.take (j + 1)).all WM.queOk)) := Lib.hid (by
                rw [HOK4.out, hok3.out, take_next Hz.out, Hh1.out, Hh2.out, Hh3.out, List.all_append]
                simp [WM.queOk, Bool.and_assoc])
              clear k1 k2 k3 q0 q1 q2 hBm0 hBm1 hBm2 hBm3 hSm0 hSm1 hSm2 hSm3 hbm1 hbm2 hbm3 hl2 hl3 hl4 he2 he3 he4
              go_wp2_with fail
              obtain ⟨t5, ht5⟩ : ∃ t5, t5 = tj ++ (l2 ++ (l3 ++ l4)) := ⟨_, rfl⟩
              rw [List.append_assoc, List.append_assoc, ← ht5] at HR5
              (try rw [List.append_assoc]); (try rw [List.append_assoc]); (try rw [← ht5])
              go_roundw
              case rel => exact ⟨j + 1, ok4, t5, by go_num, rfl, rfl, by omega, HK5, HR5, HB5⟩
              case measure => simp [intOf]; omega
          · obtain rfl : j = nq := by omega
            have htk9 : m.qs.take j = m.qs := List.take_of_length_le (by rw [← Hnq.out]; exact Nat.le_refl _)
            rw [htk9] at hok3 hrj
            have hcf : WM.cfOk m.cf = ok3 := by
              rw [hok3.out, hok.out, HOK.out, Hf1.out, Hf2.out, Hf3.out, Hf4.out, Hf5.out, Hf6.out]
              have e1 := Hnn.out
              have e2 := Hnq.out
              rw [e1, e2]
              unfold WM.cfOk WM.endOk Cm.cf
              rw [List.all_map, List.length_map]
              simp only [Function.comp_def]
              cases WM.fit (m.ns.length : Int) 1 <;> cases WM.fit (m.qs.length : Int) 1 <;> cases WM.fit m.w 1 <;> cases WM.fit m.t 1 <;> cases WM.fit m.r 2 <;> cases WM.fit m.a 2 <;> simp
            have HCF := Lib.hid hcf
            clear hcf htk9
            cases ok3 with
            | false =>
              have hz := HZ.out
              unfold WM.putC at hz
              rw [HCF.out] at hz
              obtain ⟨rfl, rfl⟩ := hz
              have HBE : Hid (Below W.heap.size W wr) := Lib.hid (HB1.out.trans (hB4.out.mono HB1.out.size))
              clear HZ
              go_wp2_with fail
              go_ret2
              exact ⟨rfl, HBE.out⟩
            | true =>
              have k1 : ¬ 9223372036854775807 < tj.length + 1 := by omega
              have k2 : ¬ 9223372036854775807 < tj.length + 1 + 1 := by omega
              have k3 : ¬ 9223372036854775807 < tj.length + 1 + 1 + 2 := by omega
              have k4 : ¬ 9223372036854775807 < tj.length + 1 + 1 + 2 + 2 := by omega
              have hpw : p < wr.heap.size := by omega
              go_wp2_with fail
              refine held_begin (fun w' : World => w'.cell? ⟨p, 2, none⟩ = some (.int .i64 m.w) ∧ w'.cell? ⟨p, 3, none⟩ = some (.int .i64 m.t) ∧ w'.cell? ⟨p, 4, none⟩ = some (.int .i64 m.r) ∧ w'.cell? ⟨p, 5, none⟩ = some (.int .i64 m.a)) (by kernel_rfl) ?_
              have hBm0 : Below wr.heap.size wr wr.drew := (Below.refl _ _).drew
              have hSm0 : (fun w' : World => w'.cell? ⟨p, 2, none⟩ = some (.int .i64 m.w) ∧ w'.cell? ⟨p, 3, none⟩ = some (.int .i64 m.t) ∧ w'.cell? ⟨p, 4, none⟩ = some (.int .i64 m.r) ∧ w'.cell? ⟨p, 5, none⟩ = some (.int .i64 m.a)) wr.drew := ⟨c2, c3, c4, c5⟩
              refine held_take (v := ?_) 0 164 rfl rfl (by kernel_rfl) (by kernel_rfl) (by kernel_rfl) (fun _ _ _ h => h) ⟨by rfl, ?_⟩ hSm0 ?_
              rotate_left
              · intro w' hw'; obtain ⟨x0, x1, x2, x3⟩ := hw'; go_simp; (try with_reducible rfl)
              simp only [Act.put, List.setIfInBounds_toArray, List.set_cons_zero, List.set_cons_succ]
              refine held_take (v := ?_) 1 165 rfl rfl (by kernel_rfl) (by kernel_rfl) (by kernel_rfl) (fun _ _ _ h => h) ⟨by rfl, ?_⟩ hSm0 ?_
              rotate_left
              · intro w' hw'; obtain ⟨x0, x1, x2, x3⟩ := hw'; go_simp; (try with_reducible rfl)
              simp only [Act.put, List.setIfInBounds_toArray, List.set_cons_zero, List.set_cons_succ]
              refine held_take (v := ?_) 2 166 rfl rfl (by kernel_rfl) (by kernel_rfl) (by kernel_rfl) (fun _ _ _ h => h) ⟨by rfl, ?_⟩ hSm0 ?_
              rotate_left
              · intro w' hw'; obtain ⟨x0, x1, x2, x3⟩ := hw'; go_simp; (try with_reducible rfl)
              simp only [Act.put, List.setIfInBounds_toArray, List.set_cons_zero, List.set_cons_succ]
              refine held_take (v := ?_) 5 169 rfl rfl (by kernel_rfl) (by kernel_rfl) (by kernel_rfl) (fun _ _ _ h => h) ⟨by rfl, ?_⟩ hSm0 ?_
              rotate_left
              · intro w' hw'; obtain ⟨x0, x1, x2, x3⟩ := hw'; go_simp; (try with_reducible rfl)
              simp only [Act.put, List.setIfInBounds_toArray, List.set_cons_zero, List.set_cons_succ]
              refine held_take (v := ?_) 6 170 rfl rfl (by kernel_rfl) (by kernel_rfl) (by kernel_rfl) (fun _ _ _ h => h) ⟨by rfl, ?_⟩ hSm0 ?_
              rotate_left
              · intro w' hw'; obtain ⟨x0, x1, x2, x3⟩ := hw'; go_simp; (try with_reducible rfl)
              simp only [Act.put, List.setIfInBounds_toArray, List.set_cons_zero, List.set_cons_succ]
              refine held_take (v := ?_) 9 173 rfl rfl (by kernel_rfl) (by kernel_rfl) (by kernel_rfl) (fun _ _ _ h => h) ⟨by rfl, ?_⟩ hSm0 ?_
              rotate_left
              · intro w' hw'; obtain ⟨x0, x1, x2, x3⟩ := hw'; go_simp; (try with_reducible rfl)
              simp only [Act.put, List.setIfInBounds_toArray, List.set_cons_zero, List.set_cons_succ]
              refine held_take (v := ?_) 10 174 rfl rfl (by kernel_rfl) (by kernel_rfl) (by kernel_rfl) (fun _ _ _ h => h) ⟨by rfl, ?_⟩ hSm0 ?_
              rotate_left
              · intro w' hw'; obtain ⟨x0, x1, x2, x3⟩ := hw'; go_simp; (try with_reducible rfl)
              simp only [Act.put, List.setIfInBounds_toArray, List.set_cons_zero, List.set_cons_succ]
              refine held_take (v := ?_) 13 177 rfl rfl (by kernel_rfl) (by kernel_rfl) (by kernel_rfl) (fun _ _ _ h => h) ⟨by rfl, ?_⟩ hSm0 ?_
              rotate_left
              · intro w' hw'; obtain ⟨x0, x1, x2, x3⟩ := hw'; go_simp; (try with_reducible rfl)
              simp only [Act.put, List.setIfInBounds_toArray, List.set_cons_zero, List.set_cons_succ]
              refine held_take (v := ?_) 14 178 rfl rfl (by kernel_rfl) (by kernel_rfl) (by kernel_rfl) (fun _ _ _ h => h) ⟨by rfl, ?_⟩ hSm0 ?_
              rotate_left
              · intro w' hw'; obtain ⟨x0, x1, x2, x3⟩ := hw'; go_simp; (try with_reducible rfl)
              simp only [Act.put, List.setIfInBounds_toArray, List.set_cons_zero, List.set_cons_succ]
              refine held_one 3 rfl (by kernel_rfl) (by rfl) (fun K hK => ?_)
              go_simp
              go_at_call 24
              refine (rbytes_any m.w HOk.out.w 1 (by omega) wr.drew).mono ?_
              rintro e wm1 ⟨l2, rfl, hl2, he2, hbm1⟩
              have hBm1 : Below wr.heap.size wr wm1 := below_step hBm0 hbm1
              have hSm1 : (fun w' : World => w'.cell? ⟨p, 2, none⟩ = some (.int .i64 m.w) ∧ w'.cell? ⟨p, 3, none⟩ = some (.int .i64 m.t) ∧ w'.cell? ⟨p, 4, none⟩ = some (.int .i64 m.r) ∧ w'.cell? ⟨p, 5, none⟩ = some (.int .i64 m.a)) wm1 := ⟨(hBm1.cell (p := ⟨p, 2, none⟩) (hpw)).trans c2, (hBm1.cell (p := ⟨p, 3, none⟩) (hpw)).trans c3, (hBm1.cell (p := ⟨p, 4, none⟩) (hpw)).trans c4, (hBm1.cell (p := ⟨p, 5, none⟩) (hpw)).trans c5⟩
              refine hK.out _ _ hSm1 ?_
              clear hK K
              refine held_take (v := ?_) 4 168 rfl rfl (by kernel_rfl) (by kernel_rfl) (by kernel_rfl) (fun _ _ _ h => h) ⟨by rfl, ?_⟩ hSm1 ?_
              rotate_left
              · intro w' hw'; obtain ⟨x0, x1, x2, x3⟩ := hw'; go_simp; (try with_reducible rfl)
              simp only [Act.put, List.setIfInBounds_toArray, List.set_cons_zero, List.set_cons_succ]
              refine held_one 7 rfl (by kernel_rfl) (by rfl) (fun K hK => ?_)
              go_simp
              go_at_call 24
              refine (rbytes_any m.t HOk.out.t 1 (by omega) wm1).mono ?_
              rintro e wm2 ⟨l3, rfl, hl3, he3, hbm2⟩
              have hBm2 : Below wr.heap.size wr wm2 := below_step hBm1 hbm2
              have hSm2 : (fun w' : World => w'.cell? ⟨p, 2, none⟩ = some (.int .i64 m.w) ∧ w'.cell? ⟨p, 3, none⟩ = some (.int .i64 m.t) ∧ w'.cell? ⟨p, 4, none⟩ = some (.int .i64 m.r) ∧ w'.cell? ⟨p, 5, none⟩ = some (.int .i64 m.a)) wm2 := ⟨(hBm2.cell (p := ⟨p, 2, none⟩) (hpw)).trans c2, (hBm2.cell (p := ⟨p, 3, none⟩) (hpw)).trans c3, (hBm2.cell (p := ⟨p, 4, none⟩) (hpw)).trans c4, (hBm2.cell (p := ⟨p, 5, none⟩) (hpw)).trans c5⟩
              refine hK.out _ _ hSm2 ?_
              clear hK K
              refine held_take (v := ?_) 8 172 rfl rfl (by kernel_rfl) (by kernel_rfl) (by kernel_rfl) (fun _ _ _ h => h) ⟨by rfl, ?_⟩ hSm2 ?_
              rotate_left
              · intro w' hw'; obtain ⟨x0, x1, x2, x3⟩ := hw'; go_simp; (try with_reducible rfl)
              simp only [Act.put, List.setIfInBounds_toArray, List.set_cons_zero, List.set_cons_succ]
              refine held_one 11 rfl (by kernel_rfl) (by rfl) (fun K hK => ?_)
              go_simp
              go_at_call 24
              refine (rbytes_any m.r HOk.out.r 2 (by omega) wm2).mono ?_
              rintro e wm3 ⟨l4, rfl, hl4, he4, hbm3⟩
              have hBm3 : Below wr.heap.size wr wm3 := below_step hBm2 hbm3
              have hSm3 : (fun w' : World => w'.cell? ⟨p, 2, none⟩ = some (.int .i64 m.w) ∧ w'.cell? ⟨p, 3, none⟩ = some (.int .i64 m.t) ∧ w'.cell? ⟨p, 4, none⟩ = some (.int .i64 m.r) ∧ w'.cell? ⟨p, 5, none⟩ = some (.int .i64 m.a)) wm3 := ⟨(hBm3.cell (p := ⟨p, 2, none⟩) (hpw)).trans c2, (hBm3.cell (p := ⟨p, 3, none⟩) (hpw)).trans c3, (hBm3.cell (p := ⟨p, 4, none⟩) (hpw)).trans c4, (hBm3.cell (p := ⟨p, 5, none⟩) (hpw)).trans c5⟩
              refine hK.out _ _ hSm3 ?_
              clear hK K
              refine held_take (v := ?_) 12 176 rfl rfl (by kernel_rfl) (by kernel_rfl) (by kernel_rfl) (fun _ _ _ h => h) ⟨by rfl, ?_⟩ hSm3 ?_
              rotate_left
              · intro w' hw'; obtain ⟨x0, x1, x2, x3⟩ := hw'; go_simp; (try with_reducible rfl)
              simp only [Act.put, List.setIfInBounds_toArray, List.set_cons_zero, List.set_cons_succ]
              refine held_one 15 rfl (by kernel_rfl) (by rfl) (fun K hK => ?_)
              go_simp
              go_at_call 24
              refine (rbytes_any m.a HOk.out.a 2 (by omega) wm3).mono ?_
              rintro e wm4 ⟨l5, rfl, hl5, he5, hbm4⟩
              have hBm4 : Below wr.heap.size wr wm4 := below_step hBm3 hbm4
              have hSm4 : (fun w' : World => w'.cell? ⟨p, 2, none⟩ = some (.int .i64 m.w) ∧ w'.cell? ⟨p, 3, none⟩ = some (.int .i64 m.t) ∧ w'.cell? ⟨p, 4, none⟩ = some (.int .i64 m.r) ∧ w'.cell? ⟨p, 5, none⟩ = some (.int .i64 m.a)) wm4 := ⟨(hBm4.cell (p := ⟨p, 2, none⟩) (hpw)).trans c2, (hBm4.cell (p := ⟨p, 3, none⟩) (hpw)).trans c3, (hBm4.cell (p := ⟨p, 4, none⟩) (hpw)).trans c4, (hBm4.cell (p := ⟨p, 5, none⟩) (hpw)).trans c5⟩
              refine hK.out _ _ hSm4 ?_
              clear hK K
              refine held_take (v := ?_) 16 180 rfl rfl (by kernel_rfl) (by kernel_rfl) (by kernel_rfl) (fun _ _ _ h => h) ⟨by rfl, ?_⟩ hSm4 ?_
              rotate_left
              · intro w' hw'; obtain ⟨x0, x1, x2, x3⟩ := hw'; go_simp; (try with_reducible rfl)
              simp only [Act.put, List.setIfInBounds_toArray, List.set_cons_zero, List.set_cons_succ]
              refine held_take (v := ?_) 17 2 rfl rfl (by kernel_rfl) (by kernel_rfl) (by kernel_rfl) (fun _ _ _ h => h) ⟨by rfl, ?_⟩ hSm4 ?_
              rotate_left
              · intro w' hw'; obtain ⟨x0, x1, x2, x3⟩ := hw'; go_simp; (try with_reducible rfl)
              simp only [Act.put, List.setIfInBounds_toArray, List.set_cons_zero, List.set_cons_succ]
              refine held_take (v := ?_) 18 3 rfl rfl (by kernel_rfl) (by kernel_rfl) (by kernel_rfl) (fun _ _ _ h => h) ⟨by rfl, ?_⟩ hSm4 ?_
              rotate_left
              · intro w' hw'; obtain ⟨x0, x1, x2, x3⟩ := hw'; go_simp; (try with_reducible rfl)
              simp only [Act.put, List.setIfInBounds_toArray, List.set_cons_zero, List.set_cons_succ]
              refine wpAnyH_done (by kernel_rfl) ?_ _
              have hz := HZ.out
              have he := rpc_end m HCF.out tj l2 l3 l4 l5 E1 (by have h9 := hrj.out.2 rfl; rw [h9, Hnq.out]) (by rw [HE1.out, Hnn.out]) he2 he3 he4 he5
              rw [he] at hz
              obtain ⟨rfl, rfl⟩ := hz
              have HBE : Hid (Below W.heap.size W wm4) := Lib.hid (HB1.out.trans ((hB4.out.trans (hBm4.mono hB4.out.size)).mono HB1.out.size))
              clear HZ he hBm0 hBm1 hBm2 hBm3 hBm4 hSm0 hSm1 hSm2 hSm3 hSm4 hbm1 hbm2 hbm3 hbm4 hl2 hl3 hl4 hl5 he2 he3 he4 he5
              go_wp2_with fail
              go_ret2
              exact ⟨rfl, HBE.out⟩
end Go.Proofs.Ytplekkpfpidebaa
