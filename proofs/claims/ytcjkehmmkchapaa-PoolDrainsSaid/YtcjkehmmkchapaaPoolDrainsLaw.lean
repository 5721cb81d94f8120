/- A drained node is seen no more, nothing is taken of it, but given back it can be; undrained all is as it was: the law PoolDrains answers true, at every input. -/
import Derived.Test.YtcjkehmmkchapaaPoolLaws
import Derived.Test.YtcjkehmmkchapaaTopoFrame
import Derived.Test.YtcjkehmmkchapaaTopoFrame
set_option linter.unusedVariables false
namespace Go.Proofs.Ytcjkehmmkchapaa.poolDrains
open Go Go.ChangeShapes Go.WideShapes Go.ChangeAt Go.RowKit
set_option maxRecDepth 100000 in
set_option maxHeartbeats 4000000 in
theorem walk (a0 : Option Addr) (c0 : Nat) (n0 : List (List (Int × Int))) (a1 : Option Addr) (c1 : Nat) (n1 : List Ac) (a2 : Int) (s3 : PM.Sl) (w : World) (w0 : Nodes w w.heap.size a0 n0) (lc0 : n0.length ≤ c0) (mc0 : c0 ≤ maxLen)
    (w1 : Acts w w.heap.size a1 n1) (q1 : ∀ a ∈ n1, AcOk a) (lc1 : n1.length ≤ c1) (mc1 : c1 ≤ maxLen) (w2 : (Lit.int .i64 a2).wf = true) (q3 : SlOk s3) :
    Calls Try.prog 6 #[.agg #[.slice a0 n0.length c0], .slice a1 n1.length c1, .int .i64 a2, slV s3] w fun e w' => e = .returned (.bool true) ∧ Below w.heap.size w w' := by
  have hA := Lib.hid awake_any
  have hBa0 := ((Below.refl w.heap.size w).alloc (Nat.le_refl _) (.cells #[.slice a0 n0.length c0] 24)).alloc (by simp) (.cells #[.int .i64 s3.n, .int .i64 s3.d, .int .u64 (s3.m : Nat), .int .i64 s3.c] 59)
  have bC0 : ((w.alloc (.cells #[.slice a0 n0.length c0] 24)).alloc (.cells #[.int .i64 s3.n, .int .i64 s3.d, .int .u64 (s3.m : Nat), .int .i64 s3.c] 59)).heap[w.heap.size]? = some (.cells #[.slice a0 n0.length c0] 24 (0, 0)) := (Below.heap_alloc _ _ _ (by simp)).trans (heap_alloc_new w _)
  have bS00 : ((w.alloc (.cells #[.slice a0 n0.length c0] 24)).alloc (.cells #[.int .i64 s3.n, .int .i64 s3.d, .int .u64 (s3.m : Nat), .int .i64 s3.c] 59)).heap[w.heap.size + 1]? = some (.cells #[.int .i64 s3.n, .int .i64 s3.d, .int .u64 (s3.m : Nat), .int .i64 s3.c] 59 (0, 0)) := by
    have := heap_alloc_new (w.alloc (.cells #[.slice a0 n0.length c0] 24)) (.cells #[.int .i64 s3.n, .int .i64 s3.d, .int .u64 (s3.m : Nat), .int .i64 s3.c] 59)
    rw [show (w.alloc (.cells #[.slice a0 n0.length c0] 24)).heap.size = w.heap.size + 1 by simp] at this
    exact this
  have k0 : ((w.alloc (.cells #[.slice a0 n0.length c0] 24)).alloc (.cells #[.int .i64 s3.n, .int .i64 s3.d, .int .u64 (s3.m : Nat), .int .i64 s3.c] 59)).cell? ⟨w.heap.size, 0, none⟩ = some (.slice a0 n0.length c0) := cell_blk (i := 0) bC0 rfl
  have hBa := Lib.hid hBa0
  have bS0 := Lib.hid bS00
  clear bC0 bS00 hBa0
  have hRt := Lib.hid (fun W (hW : Below w.heap.size w W) (r : Bool) (hr : cluOk n0 = r) => right_any a0 c0 w.heap.size n0 W (Nodes.keep w0 hW (Nat.le_refl _)) hW.size r hr)
  cases hok : cluOk n0
  · have hR := Lib.hid (fun W hW => hRt.out W hW false hok)
    clear hok w0 w1 hRt
    obtain ⟨sx, sy, sm, sc⟩ := s3
    simp only [slV] at *
    go_enter Try.func6, Try.ntmps6
    go_wp2_with (first
      | (go_at_call 9; refine (hA.out _).mono ?_; rintro e w2 ⟨rfl, hb2⟩; have hB2 := below_step hBa.out hb2; have k2 := (hb2.cell (p := ⟨w.heap.size, 0, none⟩) (by simp; omega)).trans k0; have s2 := hb2.size; simp at s2; have bS2 := Lib.hid ((hb2.block (w.heap.size + 1) (by simp)).trans bS0.out))
      | (go_at_call 12; refine (hR.out _ hB2).mono ?_; rintro e w3 ⟨rfl, hb3⟩; have hB3 := below_step hB2 hb3; have k3 := (hb3.cell (p := ⟨w.heap.size, 0, none⟩) (show w.heap.size < _ by omega)).trans k2; have s3' := hb3.size; have bS3 := Lib.hid ((hb3.block (w.heap.size + 1) (by omega)).trans bS2.out)))
    go_ret
    exact ⟨rfl, hB3⟩
  have hR := Lib.hid (fun W hW => hRt.out W hW true hok)
  have hF0 := fun W (hW : Below w.heap.size w W) => fewacts_any a1 c1 w.heap.size n1 W (Acts.keep w1 hW) (by omega) (fun a ha => (q1 a ha).few)
  cases hf : fewA n1
  · rw [hf] at hF0
    have hF := Lib.hid hF0
    clear hok hf w0 w1 hRt hF0
    obtain ⟨sx, sy, sm, sc⟩ := s3
    simp only [slV] at *
    go_enter Try.func6, Try.ntmps6
    go_wp2_with (first
      | (go_at_call 9; refine (hA.out _).mono ?_; rintro e w2 ⟨rfl, hb2⟩; have hB2 := below_step hBa.out hb2; have k2 := (hb2.cell (p := ⟨w.heap.size, 0, none⟩) (by simp; omega)).trans k0; have s2 := hb2.size; simp at s2; have bS2 := Lib.hid ((hb2.block (w.heap.size + 1) (by simp)).trans bS0.out))
      | (go_at_call 12; refine (hR.out _ hB2).mono ?_; rintro e w3 ⟨rfl, hb3⟩; have hB3 := below_step hB2 hb3; have k3 := (hb3.cell (p := ⟨w.heap.size, 0, none⟩) (show w.heap.size < _ by omega)).trans k2; have s3' := hb3.size; have bS3 := Lib.hid ((hb3.block (w.heap.size + 1) (by omega)).trans bS2.out))
      | (go_at_call 10; refine (hF.out _ hB3).mono ?_; rintro e w' ⟨rfl, rfl⟩))
    go_ret
    exact ⟨rfl, hB3⟩
  rw [hf] at hF0
  have hF := Lib.hid hF0
  obtain ⟨m, hm⟩ : ∃ m, n0.length = m := ⟨_, rfl⟩
  obtain ⟨N, hN1⟩ : ∃ N, n1.length = N := ⟨_, rfl⟩
  have hfl : N ≤ 60 := by
    unfold fewA at hf; simp at hf; omega
  have hN := Lib.hid (fun W (hW : Below w.heap.size w W) => poolnew_ok a0 c0 w.heap.size n0 W (Nodes.keep w0 hW (Nat.le_refl _)) hW.size hok)
  have hFs := fsOk hok
  have hm16 : m ≤ 16 := by have := cluOk_len hok; omega
  rw [hm] at k0 hBa bS0 hR hN lc0 ⊢
  rw [hN1] at hF lc1 ⊢
  have Q := Lib.hid (And.intro hm (And.intro hN1 (And.intro w1 (And.intro q1 (And.intro q3 hFs)))))
  clear hok hf w0 w1 hRt hF0 hm hN1 hFs q1
  by_cases hneg : a2 < 0
  · have tn : decide (a2 < 0) = true := decide_eq_true hneg
    obtain ⟨sx, sy, sm, sc⟩ := s3
    simp only [slV] at *
    go_enter Try.func6, Try.ntmps6
    go_wp2_with (first
      | (go_at_call 9; refine (hA.out _).mono ?_; rintro e w2 ⟨rfl, hb2⟩; have hB2 := below_step hBa.out hb2; have k2 := (hb2.cell (p := ⟨w.heap.size, 0, none⟩) (by simp; omega)).trans k0; have s2 := hb2.size; simp at s2; have bS2 := Lib.hid ((hb2.block (w.heap.size + 1) (by simp)).trans bS0.out))
      | (go_at_call 12; refine (hR.out _ hB2).mono ?_; rintro e w3 ⟨rfl, hb3⟩; have hB3 := below_step hB2 hb3; have k3 := (hb3.cell (p := ⟨w.heap.size, 0, none⟩) (show w.heap.size < _ by omega)).trans k2; have s3' := hb3.size; have bS3 := Lib.hid ((hb3.block (w.heap.size + 1) (by omega)).trans bS2.out))
      | (go_at_call 10; refine (hF.out _ hB3).mono ?_; rintro e w' ⟨rfl, rfl⟩))
    go_ret
    exact ⟨rfl, hB3⟩
  obtain ⟨k, rfl⟩ := Int.eq_ofNat_of_zero_le (show 0 ≤ a2 by omega)
  have tn : decide ((k : Int) < 0) = false := decide_eq_false hneg
  by_cases hge : m ≤ k
  · have tg : decide (m ≤ k) = true := decide_eq_true hge
    obtain ⟨sx, sy, sm, sc⟩ := s3
    simp only [slV] at *
    go_enter Try.func6, Try.ntmps6
    go_wp2_with (first
      | (go_at_call 9; refine (hA.out _).mono ?_; rintro e w2 ⟨rfl, hb2⟩; have hB2 := below_step hBa.out hb2; have k2 := (hb2.cell (p := ⟨w.heap.size, 0, none⟩) (by simp; omega)).trans k0; have s2 := hb2.size; simp at s2; have bS2 := Lib.hid ((hb2.block (w.heap.size + 1) (by simp)).trans bS0.out))
      | (go_at_call 12; refine (hR.out _ hB2).mono ?_; rintro e w3 ⟨rfl, hb3⟩; have hB3 := below_step hB2 hb3; have k3 := (hb3.cell (p := ⟨w.heap.size, 0, none⟩) (show w.heap.size < _ by omega)).trans k2; have s3' := hb3.size; have bS3 := Lib.hid ((hb3.block (w.heap.size + 1) (by omega)).trans bS2.out))
      | (go_at_call 10; refine (hF.out _ hB3).mono ?_; rintro e w' ⟨rfl, rfl⟩))
    go_ret
    exact ⟨rfl, hB3⟩
  have hkm : k < m := by omega
  have tg : decide (m ≤ k) = false := decide_eq_false hge
  have kwf := w2
  obtain ⟨sx, sy, sm, sc⟩ := s3
  simp only [slV] at *
  go_enter Try.func6, Try.ntmps6
  go_wp2_with (first
      | (go_at_call 9; refine (hA.out _).mono ?_; rintro e w2 ⟨rfl, hb2⟩; have hB2 := below_step hBa.out hb2; have k2 := (hb2.cell (p := ⟨w.heap.size, 0, none⟩) (by simp; omega)).trans k0; have s2 := hb2.size; simp at s2; have bS2 := Lib.hid ((hb2.block (w.heap.size + 1) (by simp)).trans bS0.out))
      | (go_at_call 12; refine (hR.out _ hB2).mono ?_; rintro e w3 ⟨rfl, hb3⟩; have hB3 := below_step hB2 hb3; have k3 := (hb3.cell (p := ⟨w.heap.size, 0, none⟩) (show w.heap.size < _ by omega)).trans k2; have s3' := hb3.size; have bS3 := Lib.hid ((hb3.block (w.heap.size + 1) (by omega)).trans bS2.out))
      | (go_at_call 10; refine (hF.out _ hB3).mono ?_; rintro e w' ⟨rfl, rfl⟩)
      | (go_at_call 11; refine (hN.out _ hB3).mono ?_; rintro e w4 ⟨T, p, g, dm, rfl, hp, hb4, p1, g1, d1, o1⟩; have HP := Lib.hid hp; clear hp; have hB4 := below_step hB3 hb4; have s4 := hb4.size; have bS4 := Lib.hid ((hb4.block (w.heap.size + 1) (by omega)).trans bS3.out)))
  obtain ⟨S, hS⟩ : ∃ S, S = w.heap.size + 1 := ⟨_, rfl⟩
  rw [← hS] at bS4 ⊢
  obtain ⟨Fp, hFp⟩ : ∃ Fp : Nat → Prop, Fp = fun i => S < i := ⟨_, rfl⟩
  have hin7 : PoolIn w4 Fp p (frees n0) (PM.zero (frees n0), List.replicate m false) := ⟨T, g, dm, HP.out, by rw [hFp]; show S < _; omega, by rw [hFp]; show S < _; omega, by rw [hFp]; show S < _; omega, by rw [hFp]; exact fun i hi => by have := o1 i hi; show S < _; omega⟩
  have hFw : ∀ i, Fp i → S < i := by rw [hFp]; exact fun i h => h
  have hFy : ∀ W : World, w4.heap.size ≤ W.heap.size → ∀ i, W.heap.size ≤ i → Fp i := fun W hW i hi => by rw [hFp]; show S < _; omega
  have hw4 : w.heap.size ≤ w4.heap.size ∧ S < w4.heap.size ∧ w.heap.size < S := by omega
  have Z := Lib.hid (And.intro hB4 (And.intro hFw (And.intro hFy (And.intro hin7 bS4.out))))
  clear hFp hin7 hFw hFy hB4 hb4 hB3 hb3 hB2 hb2 hBa k0 k2 k3 s2 s3' s4 hA hR hF hN p1 g1 d1 o1 HP bS0 bS2 bS3 bS4 hS
  go_loopw [11] (fun i wr => ∃ j : Nat, i = .int .i64 j ∧ j ≤ N ∧ w4.heap.size ≤ wr.heap.size ∧ Hid (Foot Fp w4 wr ∧ ∃ st, PoolIn wr Fp p (frees n0) st ∧ st.2.length = m)) (fun i _ => N - (intOf i).toNat)
  case atStart => exact ⟨0, rfl, by omega, Nat.le_refl _, Lib.hid ⟨Foot.refl _ _, _, Z.out.2.2.2.1, by simp⟩⟩
  case round =>
    obtain ⟨j, rfl, hk, hsz, hin⟩ := hrel
    obtain ⟨hft, st, hpk, hsl⟩ := hin.out
    by_cases hlt : j < N
    · obtain ⟨hm, hN1, w1, q1, _⟩ := Q.out
      obtain ⟨hB7, hFw, hFy, _⟩ := Z.out
      obtain ⟨a, hx⟩ := get_lt (l := n1) (k := j) (by rw [hN1]; exact hlt)
      obtain ⟨b, off, rfl, hb, hc⟩ := w1.at_ hx
      have hBr : Below w.heap.size w wr := hB7.trans (hft.below (by omega) (fun i hi => by have := hFw i hi; omega))
      obtain ⟨As, cs, a0', a1', a2', hsl'⟩ := (hc j a hx).keep hb hBr
      have haok := q1 a (List.mem_of_getElem? hx)
      have hD := Lib.hid (do_in Fp p (frees n0) st As cs a wr hpk (hFy wr hsz) haok (hsl'.imp (by omega) fun _ _ _ _ h => h) (fun _ b' off' e hb' => by
        rcases hsl' with e0 | ⟨b2, o2, e2, hb2, _⟩
        · exact absurd e0 ‹_›
        · cases e.symm.trans e2; have := hFw _ hb'; omega))
      have t0 : decide (j < N) = true := by simpa using hlt
      obtain ⟨R, hR⟩ : ∃ R, R = act (frees n0) st a := ⟨_, rfl⟩
      have hRl : R.2.2.length = m := by rw [hR, act_len]; exact hsl
      have HX := Lib.hid (And.intro hft hRl)
      rw [← hR] at hD
      obtain ⟨kind, node, sl⟩ := a
      simp only at *
      obtain ⟨sn, hsn⟩ : ∃ sn, sn = sl.length := ⟨_, rfl⟩
      rw [← hsn] at a2' hD
      clear hm hN1 w1 q1 hB7 hFw hFy hx hc hBr hsl' haok hft hpk hin hR hsn hRl hsl
      go_wp2_with (go_at_call 14; refine hD.out.mono ?_; rintro e w8 ⟨rfl, hp8, hf8⟩; have HQ8 := Lib.hid (And.intro hp8 hf8); have s8 := hf8.size; clear hp8 hf8)
      go_roundw
      case rel => exact ⟨j + 1, by go_num, by omega, by omega, Lib.hid ⟨HX.out.1.trans HQ8.out.2 (fun i hi => .inl hi), R.2, HQ8.out.1, HX.out.2⟩⟩
      case measure => simp [intOf]; omega
    · obtain rfl : j = N := by omega
      obtain ⟨hm, hN1, w1, q1, q3, hFs⟩ := Q.out
      obtain ⟨hB7, hFw, hFy, _, bS4⟩ := Z.out
      obtain ⟨ts, dr⟩ := st
      obtain ⟨T5, g5, dm5, hP5, f1, f2, f3, f4⟩ := hpk
      simp only at hP5 hsl
      have hBr := Lib.hid (hB7.trans (hft.below (show w.heap.size ≤ w4.heap.size by omega) (fun i hi => by have := hFw i hi; omega)))
      have bSr := Lib.hid ((hft.block S hw4.2.1 (fun h => by have := hFw _ h; omega)).trans bS4)
      have hlow : S < p ∧ S < g5 ∧ S < dm5 := ⟨hFw _ f1, hFw _ f2, hFw _ f3⟩
      have hlowT := Lib.hid (fun i (hi : T5 i) => hFw i (f4 i hi))
      have hkd : k < dr.length := by omega
      have hkd1 : k < (dr.set k false).length := by rw [List.length_set]; exact hkd
      have hkd2 : k < ((dr.set k false).set k true).length := by rw [List.length_set, List.length_set]; exact hkd
      have hoff := Lib.hid (And.intro (turn_off hkd) (And.intro (turn_yes (b := true) hkd1 (by rw [isDr_self hkd]; rfl)) (And.intro (turn_no (b := true) hkd2 (isDr_self hkd1)) (And.intro (turn_yes (b := false) hkd2 (by rw [isDr_self hkd1]; rfl)) (And.intro (isDr_self (b := true) hkd1) (turn_no (b := false) hkd1 (isDr_self hkd)))))))
      have hdr3 : ((dr.set k false).set k true).set k false = dr.set k false := by rw [List.set_set, List.set_set]
      obtain ⟨dr1, hd1⟩ : ∃ d, d = dr.set k false := ⟨_, rfl⟩
      rw [← hd1] at hoff hdr3
      obtain ⟨dr2, hd2⟩ : ∃ d, d = dr1.set k true := ⟨_, rfl⟩
      rw [← hd2] at hoff hdr3
      rw [hdr3] at hoff
      have hdk2 : dr2[k]? = some true := by rw [hd2, List.getElem?_set_self (by rw [hd1]; exact hkd1)]
      have HD := Lib.hid (And.intro hd1 (And.intro hd2 hdk2))
      have HP5 := Lib.hid hP5
      have hU1 := undrain_any p g5 dm5 (frees n0) ts dr (k : Int) wr hP5 kwf
      rw [hoff.out.1] at hU1
      obtain ⟨E0, hE0⟩ : ∃ E0, E0 = (turn dr (k : Int) false).1 := ⟨_, rfl⟩
      rw [← hE0] at hU1
      have hU1 := Lib.hid hU1
      have hsr := hsz
      have q3' : SlOk ⟨(k : Int), sy, sm, sc⟩ := ⟨kwf, q3.d, q3.m, q3.c⟩
      have HS := Lib.hid q3'
      clear hlt hft hin hm hN1 w1 q1 hFs hB7 hFw hFy hP5 f1 f2 f3 f4 q3 bS4 hd1 hd2 hkd hkd1 hkd2 hdr3 hdk2 hE0 q3' hsl
      go_wp2_with fail
      refine hU1.out.mono ?_
      rintro e X1 ⟨rfl, hp1, hf1⟩
      have HP1 := Lib.hid hp1
      have s1 := hf1.size
      have bS1 := Lib.hid ((hf1.block S (by omega) (by omega)).trans bSr.out)
      have hB1 := Lib.hid (hBr.out.trans (hf1.below hBr.out.size (by rintro i rfl; omega)))
      have hV1 := view_new p g5 dm5 (frees n0) ts dr1 X1 hp1
      have hvl := Lib.hid ((hp1.ok.viewOk (dr := dr1) hp1.inv).1)
      obtain ⟨V, hV⟩ : ∃ V, V = PM.view (frees n0) ts dr1 := ⟨_, rfl⟩
      rw [← hV] at hV1 hvl
      have HV := Lib.hid hV
      have hV1 := Lib.hid hV1
      clear hV hp1 hf1 hU1
      go_wp2_with fail
      refine hV1.out.mono ?_
      rintro e X2 ⟨A2, c2, rfl, hr2, hy2, hb2⟩
      have s2 := hb2.size
      have HP2 := Lib.hid (HP1.out.keep hb2)
      have bS2' := (hb2.block S (by omega)).trans bS1.out
      have hB2 := hB1.out.trans (hb2.mono hB1.out.size)
      have HR2 := Lib.hid (And.intro hr2 hy2)
      have z0 : X2.frozen? ⟨S, 0, none⟩ = false := frozen_blk bS2'
      have z1 : X2.cell? ⟨S, 0, none⟩ = some (.int .i64 sx) := cell_blk (i := 0) bS2' rfl
      have z2 : X2.cell? ⟨S, 1, none⟩ = some (.int .i64 sy) := cell_blk (i := 1) bS2' rfl
      have z3 : X2.cell? ⟨S, 2, none⟩ = some (.int .u64 (sm : Nat)) := cell_blk (i := 2) bS2' rfl
      have z4 : X2.cell? ⟨S, 3, none⟩ = some (.int .i64 sc) := cell_blk (i := 3) bS2' rfl
      obtain ⟨X3, hX3⟩ : ∃ X3, X3 = X2.setCell ⟨S, 0, none⟩ (.int .i64 (k : Nat)) := ⟨_, rfl⟩
      have hf3 : Foot (· = S) X2 X3 := by rw [hX3]; refine Foot.setCell (F := (· = S)) (p := ⟨S, 0, none⟩) (Foot.refl _ _) (.inl ?_) _; rfl
      have HP3 := Lib.hid (HP2.out.foot hf3 (by rintro i rfl; exact ⟨fun h => by have := hlowT.out _ h; omega, by omega, by omega, by omega⟩))
      have bS3 := Lib.hid (show X3.heap[S]? = some (.cells #[.int .i64 (k : Nat), .int .i64 sy, .int .u64 (sm : Nat), .int .i64 sc] 59 (0, 0)) by rw [hX3]; exact blk_put (i := 0) _ bS2')
      have hB3 := Lib.hid (show Below w.heap.size w X3 by rw [hX3]; exact hB2.setCell (by show w.heap.size ≤ S; omega) _)
      have hy3 : ∀ b off, A2 = some ⟨b, off, none⟩ → S < b ∧ b ≠ p ∧ b ≠ g5 ∧ b ≠ dm5 ∧ b < X3.heap.size := fun b off e => by have := hy2 b off e; have h1 := HP1.out.lt; have := hf3.size; omega
      have HR3 := Lib.hid (Frees.off hr2 hf3.size fun b off e hb => hf3.block b hb (by have := hy3 b off e; omega))
      have HY := Lib.hid hy3
      have s3 := hf3.size
      have hs23 : X2.heap.size = X3.heap.size := by rw [hX3]; simp [World.setCell]
      have HS23 := Lib.hid hs23
      have HX3 := Lib.hid hX3
      clear hr2 hy2 hb2 bS2' hB2 hf3 hy3 hX3 hs23
      go_wp2_with fail
      rw [← HX3.out, HS23.out]
      clear z0 z1 z2 z3 z4
      obtain ⟨R1, hR1⟩ : ∃ R1, R1 = PM.one (frees n0) dr1 false ⟨(k : Int), sy, sm, sc⟩ ts := ⟨_, rfl⟩
      have hT1 := take_one' p g5 dm5 X3.heap.size (frees n0) ts dr1 ⟨(k : Int), sy, sm, sc⟩ (X3.alloc (.cells #[.int .i64 (k : Nat), .int .i64 sy, .int .u64 (sm : Nat), .int .i64 sc] 59)) (HP3.out.keep ((Below.refl _ _).alloc (Nat.le_refl _) _)) HS.out (heap_alloc_new X3 _) (Nat.ne_of_gt HP3.out.lt.2.1)
      rw [← hR1] at hT1
      obtain ⟨E1, ts1⟩ := R1
      simp only at hT1
      refine hT1.mono ?_
      rintro e X4 ⟨rfl, g6, hp4, hf4, hg4⟩
      have hl3 := HP3.out.lt
      simp at hg4
      have s4 := hf4.size
      simp at s4
      have HP4 := Lib.hid hp4
      have hgS : S < g6 := by omega
      have bS4 := Lib.hid ((hf4.block S (by simp; omega) (by omega)).trans ((Below.heap_alloc X3 _ _ (by omega)).trans bS3.out))
      have hB4 := Lib.hid ((hB3.out.alloc hB3.out.size _).trans (hf4.below (by have := hB3.out.size; simp; omega) (by rintro i (rfl | rfl) <;> omega)))
      have HR4 := Lib.hid (Frees.off (HR3.out.off (w' := X3.alloc (.cells #[.int .i64 (k : Nat), .int .i64 sy, .int .u64 (sm : Nat), .int .i64 sc] 59)) (by simp) fun b off e hb => Below.heap_alloc _ _ _ hb) hf4.size fun b off e hb => hf4.block b hb (by have := HY.out b off e; omega))
      have hone := PM.one_cases (frees n0) dr1 false ⟨(k : Int), sy, sm, sc⟩ ts HP3.out.inv
      rw [← hR1] at hone
      have hF1 : E1 ≠ 0 → ts1 = ts := fun h => by
        rcases hone with ⟨_, e⟩ | ⟨_, _, _, _, _, _, _, e, _⟩
        · exact e
        · exact absurd (Prod.mk.inj e).1 h
      have hF2a := PM.take_drained (dr := dr2) (s := ⟨(k : Int), sy, sm, sc⟩) hp4.inv (k := k) rfl HD.out.2.2
      have hF2 : PM.one (frees n0) dr2 false ⟨(k : Int), sy, sm, sc⟩ ts1 = ((PM.one (frees n0) dr2 false ⟨(k : Int), sy, sm, sc⟩ ts1).1, ts1) := by
        rcases PM.one_cases (frees n0) dr2 false ⟨(k : Int), sy, sm, sc⟩ ts1 hp4.inv with ⟨_, e⟩ | ⟨_, _, _, _, _, _, _, e, _⟩
        · exact Prod.ext rfl e
        · exact absurd (by rw [e]) hF2a
      have hF3 : E1 = 0 → PM.one (frees n0) dr2 true ⟨(k : Int), sy, sm, sc⟩ ts1 = (0, ts) := fun h => by subst h; exact PM.take_give HP3.out.inv hR1.symm
      obtain ⟨E2, hE2⟩ : ∃ E2, E2 = (PM.one (frees n0) dr2 false ⟨(k : Int), sy, sm, sc⟩ ts1).1 := ⟨_, rfl⟩
      rw [← hE2] at hF2 hF2a
      have HF := Lib.hid (And.intro hF1 (And.intro hF2 (And.intro hF2a hF3)))
      have hg6 := hp4.lt
      clear hp4 hf4 hone hF1 hF2 hF2a hF3 hE2 hR1 hT1
      by_cases hE : E1 = 0
      · have te : (E1 == 0) = true := beq_iff_eq.2 hE
        subst hE
        have hDr := drain_any p g6 dm5 (frees n0) ts1 dr1 (k : Int) X4 HP4.out kwf
        rw [hoff.out.2.1] at hDr
        go_wp2_with fail
        refine hDr.mono ?_
        rintro e X5 ⟨rfl, hp5, hf5⟩
        have HP5' := Lib.hid hp5
        have bS5 := Lib.hid ((hf5.block S (by omega) (by omega)).trans bS4.out)
        have hB5 := Lib.hid (hB4.out.trans (hf5.below hB4.out.size (by rintro i rfl; omega)))
        have HR5 := Lib.hid (Frees.off HR4.out hf5.size fun b off e hb => hf5.block b hb (by have := HY.out b off e; omega))
        have s5 := hf5.size
        clear hp5 hf5 hDr
        have hDr := drain_any p g6 dm5 (frees n0) ts1 dr2 (k : Int) X5 HP5'.out kwf
        rw [hoff.out.2.2.1] at hDr
        first | rw [if_pos trivial] at hDr | rw [if_pos rfl] at hDr
        go_wp2_with fail
        refine hDr.mono ?_
        rintro e X6 ⟨rfl, hp6, hf6⟩
        have HP6 := Lib.hid hp6
        have bS6 := Lib.hid ((hf6.block S (by omega) (by omega)).trans bS5.out)
        have hB6 := Lib.hid (hB5.out.trans (hf6.below hB5.out.size (by rintro i rfl; omega)))
        have HR6 := Lib.hid (Frees.off HR5.out hf6.size fun b off e hb => hf6.block b hb (by have := HY.out b off e; omega))
        have s6 := hf6.size
        clear hp6 hf6 hDr
        have hDd := drained_any p g6 dm5 (frees n0) ts1 dr2 (k : Int) X6 HP6.out kwf
        rw [hoff.out.2.2.2.2.1] at hDd
        go_wp2_with fail
        refine hDd.mono ?_
        rintro e X6' ⟨rfl, rfl⟩
        have hV2 := view_new p g6 dm5 (frees n0) ts1 dr2 X6 HP6.out
        have hvk : ∀ f ∈ PM.view (frees n0) ts1 dr2, f.n ≠ k := fun f hf e => by
          have := (List.mem_filter.1 hf).2
          rw [e, HD.out.2.2] at this
          simp at this
        have hvl2 := (HP6.out.ok.viewOk (dr := dr2) HP6.out.inv)
        obtain ⟨V2, hV2e⟩ : ∃ V2, V2 = PM.view (frees n0) ts1 dr2 := ⟨_, rfl⟩
        rw [← hV2e] at hV2 hvk hvl2
        obtain ⟨n2, hn2⟩ : ∃ n2, V2.length = n2 := ⟨_, rfl⟩
        rw [hn2] at hV2 hvl2
        go_wp2_with fail
        refine hV2.mono ?_
        rintro e X7 ⟨A7, c7, rfl, hr7, _, hb7⟩
        have s7 := hb7.size
        have HP7 := Lib.hid (HP6.out.keep hb7)
        have bS7 := Lib.hid ((hb7.block S (by omega)).trans bS6.out)
        have hB7 := Lib.hid (hB6.out.trans (hb7.mono hB6.out.size))
        have HR7 := Lib.hid (Frees.off HR6.out hb7.size fun b off e hb => hb7.block b hb)
        have H7 := Lib.hid (And.intro hr7 (And.intro hvk hn2))
        have hn27 := hvl2.1
        clear hr7 hb7 hV2 hV2e hvk hvl2 hn2 hDd
        go_wp2_with fail
        go_loop [15] (fun i => ∃ j : Nat, i = .int .i64 j ∧ j ≤ n2) (fun i => n2 - (intOf i).toNat)
        case atStart => exact ⟨0, rfl, by omega⟩
        case round =>
          obtain ⟨j, rfl, hj⟩ := hrel
          by_cases hjl : j < n2
          · obtain ⟨f, hx⟩ := get_lt (l := V2) (k := j) (by rw [H7.out.2.2]; exact hjl)
            obtain ⟨b, off, rfl, hb, hc⟩ := H7.out.1.at_ hx
            obtain ⟨x0, x1, x2, x3⟩ := hc j f hx
            have hne := H7.out.2.1 f (List.mem_of_getElem? hx)
            have tj : decide (j < n2) = true := decide_eq_true hjl
            have tk : ((f.n : Int) == (k : Int)) = false := beq_eq_false_iff_ne.2 (by omega)
            clear hx hc hne
            go_wp2
            go_round
            case rel => exact ⟨j + 1, by go_num, by omega⟩
            case measure => simp [intOf]; omega
          · obtain rfl : j = n2 := by omega
            clear hjl
            have bSx := bS7.out
            have z1 : X7.cell? ⟨S, 0, none⟩ = some (.int .i64 (k : Nat)) := cell_blk (i := 0) bSx rfl
            have z2 : X7.cell? ⟨S, 1, none⟩ = some (.int .i64 sy) := cell_blk (i := 1) bSx rfl
            have z3 : X7.cell? ⟨S, 2, none⟩ = some (.int .u64 (sm : Nat)) := cell_blk (i := 2) bSx rfl
            have z4 : X7.cell? ⟨S, 3, none⟩ = some (.int .i64 sc) := cell_blk (i := 3) bSx rfl
            clear bSx
            have hT2 := take_one' p g6 dm5 X7.heap.size (frees n0) ts1 dr2 ⟨(k : Int), sy, sm, sc⟩ (X7.alloc (.cells #[.int .i64 (k : Nat), .int .i64 sy, .int .u64 (sm : Nat), .int .i64 sc] 59)) (HP7.out.keep ((Below.refl _ _).alloc (Nat.le_refl _) _)) HS.out (heap_alloc_new X7 _) (Nat.ne_of_gt HP7.out.lt.2.1)
            rw [HF.out.2.1] at hT2
            go_wp2_with fail
            refine hT2.mono ?_
            rintro e X8 ⟨rfl, g8, hp8, hf8, hg8⟩
            simp at hg8
            have hl7 := HP7.out.lt
            have s8 := hf8.size
            simp at s8
            have HP8 := Lib.hid hp8
            have hgS8 : S < g8 := by omega
            have bS8 := Lib.hid ((hf8.block S (by simp; omega) (by omega)).trans ((Below.heap_alloc X7 _ _ (by omega)).trans bS7.out))
            have hB8 := Lib.hid ((hB7.out.alloc hB7.out.size _).trans (hf8.below (by have := hB7.out.size; simp; omega) (by rintro i (rfl | rfl) <;> omega)))
            have HR8 := Lib.hid (Frees.off (HR7.out.off (w' := X7.alloc (.cells #[.int .i64 (k : Nat), .int .i64 sy, .int .u64 (sm : Nat), .int .i64 sc] 59)) (by simp) fun b off e hb => Below.heap_alloc _ _ _ hb) hf8.size fun b off e hb => hf8.block b hb (by have := HY.out b off e; omega))
            have hl8 := hp8.lt
            have te2 : (E2 == 0) = false := beq_eq_false_iff_ne.2 HF.out.2.2.1
            clear z1 z2 z3 z4 hp8 hf8 hT2
            have bSx := bS8.out
            have z1 : X8.cell? ⟨S, 0, none⟩ = some (.int .i64 (k : Nat)) := cell_blk (i := 0) bSx rfl
            have z2 : X8.cell? ⟨S, 1, none⟩ = some (.int .i64 sy) := cell_blk (i := 1) bSx rfl
            have z3 : X8.cell? ⟨S, 2, none⟩ = some (.int .u64 (sm : Nat)) := cell_blk (i := 2) bSx rfl
            have z4 : X8.cell? ⟨S, 3, none⟩ = some (.int .i64 sc) := cell_blk (i := 3) bSx rfl
            clear bSx
            have hG2 := give_one' p g8 dm5 X8.heap.size (frees n0) ts1 dr2 ⟨(k : Int), sy, sm, sc⟩ (X8.alloc (.cells #[.int .i64 (k : Nat), .int .i64 sy, .int .u64 (sm : Nat), .int .i64 sc] 59)) (HP8.out.keep ((Below.refl _ _).alloc (Nat.le_refl _) _)) HS.out (heap_alloc_new X8 _) (Nat.ne_of_gt HP8.out.lt.2.1)
            rw [HF.out.2.2.2 (by first | rfl | trivial)] at hG2
            go_wp2_with fail
            refine hG2.mono ?_
            rintro e X9 ⟨rfl, g9, hp9, hf9, hg9⟩
            simp at hg9
            have s9 := hf9.size
            simp at s9
            have HP9 := Lib.hid hp9
            have hB9 := Lib.hid ((hB8.out.alloc hB8.out.size _).trans (hf9.below (by have := hB8.out.size; simp; omega) (by rintro i (rfl | rfl) <;> omega)))
            have HR9 := Lib.hid (Frees.off (HR8.out.off (w' := X8.alloc (.cells #[.int .i64 (k : Nat), .int .i64 sy, .int .u64 (sm : Nat), .int .i64 sc] 59)) (by simp) fun b off e hb => Below.heap_alloc _ _ _ hb) hf9.size fun b off e hb => hf9.block b hb (by have := HY.out b off e; omega))
            clear z1 z2 z3 z4 hp9 hf9 hG2
            have hU3 := undrain_any p g9 dm5 (frees n0) ts dr2 (k : Int) X9 HP9.out kwf
            rw [hoff.out.2.2.2.1] at hU3
            go_wp2_with fail
            refine hU3.mono ?_
            rintro e X10 ⟨rfl, hp10, hf10⟩
            have HP10 := Lib.hid hp10
            have hB10 := Lib.hid (hB9.out.trans (hf10.below hB9.out.size (by rintro i rfl; omega)))
            have HR10 := Lib.hid (Frees.off HR9.out hf10.size fun b off e hb => hf10.block b hb (by have := HY.out b off e; omega))
            have s10 := hf10.size
            clear hp10 hf10 hU3
            have hU4 := undrain_any p g9 dm5 (frees n0) ts dr1 (k : Int) X10 HP10.out kwf
            rw [hoff.out.2.2.2.2.2, if_neg (by simp)] at hU4
            go_wp2_with fail
            refine hU4.mono ?_
            rintro e X11 ⟨rfl, hp11, hf11⟩
            have HP11 := Lib.hid hp11
            have hB11 := Lib.hid (hB10.out.trans (hf11.below hB10.out.size (by rintro i rfl; omega)))
            have HR11 := Lib.hid (Frees.off HR10.out hf11.size fun b off e hb => hf11.block b hb (by have := HY.out b off e; omega))
            have s11 := hf11.size
            clear hp11 hf11 hU4
            have hV5 := view_new p g9 dm5 (frees n0) ts dr1 X11 HP11.out
            rw [← HV.out] at hV5
            go_wp2_with fail
            refine hV5.mono ?_
            rintro e X12 ⟨A12, c12, rfl, hr12, _, hb12⟩
            have HR12 := Lib.hid (And.intro hr12 (Frees.off HR11.out hb12.size fun b off e hb => hb12.block b hb))
            have hB12 := Lib.hid (hB11.out.trans (hb12.mono hB11.out.size))
            clear hr12 hb12 hV5
            go_wp2_with fail
            refine (same_any _ _ _ _ V X12 HR12.out.1 HR12.out.2 hvl.out).mono ?_
            rintro e X13 ⟨rfl, hb13⟩
            have hB13 := Lib.hid (below_step hB12.out hb13)
            clear hb13
            go_wp2
            go_ret
            exact ⟨rfl, hB13.out⟩

      · have te : (E1 == 0) = false := beq_eq_false_iff_ne.2 hE
        clear hE
        have hDr := drain_any p g6 dm5 (frees n0) ts1 dr1 (k : Int) X4 HP4.out kwf
        rw [hoff.out.2.1] at hDr
        go_wp2_with fail
        refine hDr.mono ?_
        rintro e X5 ⟨rfl, hp5, hf5⟩
        have HP5' := Lib.hid hp5
        have bS5 := Lib.hid ((hf5.block S (by omega) (by omega)).trans bS4.out)
        have hB5 := Lib.hid (hB4.out.trans (hf5.below hB4.out.size (by rintro i rfl; omega)))
        have HR5 := Lib.hid (Frees.off HR4.out hf5.size fun b off e hb => hf5.block b hb (by have := HY.out b off e; omega))
        have s5 := hf5.size
        clear hp5 hf5 hDr
        have hDr := drain_any p g6 dm5 (frees n0) ts1 dr2 (k : Int) X5 HP5'.out kwf
        rw [hoff.out.2.2.1] at hDr
        first | rw [if_pos trivial] at hDr | rw [if_pos rfl] at hDr
        go_wp2_with fail
        refine hDr.mono ?_
        rintro e X6 ⟨rfl, hp6, hf6⟩
        have HP6 := Lib.hid hp6
        have bS6 := Lib.hid ((hf6.block S (by omega) (by omega)).trans bS5.out)
        have hB6 := Lib.hid (hB5.out.trans (hf6.below hB5.out.size (by rintro i rfl; omega)))
        have HR6 := Lib.hid (Frees.off HR5.out hf6.size fun b off e hb => hf6.block b hb (by have := HY.out b off e; omega))
        have s6 := hf6.size
        clear hp6 hf6 hDr
        have hDd := drained_any p g6 dm5 (frees n0) ts1 dr2 (k : Int) X6 HP6.out kwf
        rw [hoff.out.2.2.2.2.1] at hDd
        go_wp2_with fail
        refine hDd.mono ?_
        rintro e X6' ⟨rfl, rfl⟩
        have hV2 := view_new p g6 dm5 (frees n0) ts1 dr2 X6 HP6.out
        have hvk : ∀ f ∈ PM.view (frees n0) ts1 dr2, f.n ≠ k := fun f hf e => by
          have := (List.mem_filter.1 hf).2
          rw [e, HD.out.2.2] at this
          simp at this
        have hvl2 := (HP6.out.ok.viewOk (dr := dr2) HP6.out.inv)
        obtain ⟨V2, hV2e⟩ : ∃ V2, V2 = PM.view (frees n0) ts1 dr2 := ⟨_, rfl⟩
        rw [← hV2e] at hV2 hvk hvl2
        obtain ⟨n2, hn2⟩ : ∃ n2, V2.length = n2 := ⟨_, rfl⟩
        rw [hn2] at hV2 hvl2
        go_wp2_with fail
        refine hV2.mono ?_
        rintro e X7 ⟨A7, c7, rfl, hr7, _, hb7⟩
        have s7 := hb7.size
        have HP7 := Lib.hid (HP6.out.keep hb7)
        have bS7 := Lib.hid ((hb7.block S (by omega)).trans bS6.out)
        have hB7 := Lib.hid (hB6.out.trans (hb7.mono hB6.out.size))
        have HR7 := Lib.hid (Frees.off HR6.out hb7.size fun b off e hb => hb7.block b hb)
        have H7 := Lib.hid (And.intro hr7 (And.intro hvk hn2))
        have hn27 := hvl2.1
        clear hr7 hb7 hV2 hV2e hvk hvl2 hn2 hDd
        go_wp2_with fail
        go_loop [15] (fun i => ∃ j : Nat, i = .int .i64 j ∧ j ≤ n2) (fun i => n2 - (intOf i).toNat)
        case atStart => exact ⟨0, rfl, by omega⟩
        case round =>
          obtain ⟨j, rfl, hj⟩ := hrel
          by_cases hjl : j < n2
          · obtain ⟨f, hx⟩ := get_lt (l := V2) (k := j) (by rw [H7.out.2.2]; exact hjl)
            obtain ⟨b, off, rfl, hb, hc⟩ := H7.out.1.at_ hx
            obtain ⟨x0, x1, x2, x3⟩ := hc j f hx
            have hne := H7.out.2.1 f (List.mem_of_getElem? hx)
            have tj : decide (j < n2) = true := decide_eq_true hjl
            have tk : ((f.n : Int) == (k : Int)) = false := beq_eq_false_iff_ne.2 (by omega)
            clear hx hc hne
            go_wp2
            go_round
            case rel => exact ⟨j + 1, by go_num, by omega⟩
            case measure => simp [intOf]; omega
          · obtain rfl : j = n2 := by omega
            clear hjl
            have bSx := bS7.out
            have z1 : X7.cell? ⟨S, 0, none⟩ = some (.int .i64 (k : Nat)) := cell_blk (i := 0) bSx rfl
            have z2 : X7.cell? ⟨S, 1, none⟩ = some (.int .i64 sy) := cell_blk (i := 1) bSx rfl
            have z3 : X7.cell? ⟨S, 2, none⟩ = some (.int .u64 (sm : Nat)) := cell_blk (i := 2) bSx rfl
            have z4 : X7.cell? ⟨S, 3, none⟩ = some (.int .i64 sc) := cell_blk (i := 3) bSx rfl
            clear bSx
            have hT2 := take_one' p g6 dm5 X7.heap.size (frees n0) ts1 dr2 ⟨(k : Int), sy, sm, sc⟩ (X7.alloc (.cells #[.int .i64 (k : Nat), .int .i64 sy, .int .u64 (sm : Nat), .int .i64 sc] 59)) (HP7.out.keep ((Below.refl _ _).alloc (Nat.le_refl _) _)) HS.out (heap_alloc_new X7 _) (Nat.ne_of_gt HP7.out.lt.2.1)
            rw [HF.out.2.1] at hT2
            go_wp2_with fail
            refine hT2.mono ?_
            rintro e X8 ⟨rfl, g8, hp8, hf8, hg8⟩
            simp at hg8
            have hl7 := HP7.out.lt
            have s8 := hf8.size
            simp at s8
            have HP8 := Lib.hid hp8
            have hgS8 : S < g8 := by omega
            have bS8 := Lib.hid ((hf8.block S (by simp; omega) (by omega)).trans ((Below.heap_alloc X7 _ _ (by omega)).trans bS7.out))
            have hB8 := Lib.hid ((hB7.out.alloc hB7.out.size _).trans (hf8.below (by have := hB7.out.size; simp; omega) (by rintro i (rfl | rfl) <;> omega)))
            have HR8 := Lib.hid (Frees.off (HR7.out.off (w' := X7.alloc (.cells #[.int .i64 (k : Nat), .int .i64 sy, .int .u64 (sm : Nat), .int .i64 sc] 59)) (by simp) fun b off e hb => Below.heap_alloc _ _ _ hb) hf8.size fun b off e hb => hf8.block b hb (by have := HY.out b off e; omega))
            have hl8 := hp8.lt
            have te2 : (E2 == 0) = false := beq_eq_false_iff_ne.2 HF.out.2.2.1
            clear z1 z2 z3 z4 hp8 hf8 hT2
            rw [HF.out.1 (fun h => by simp [h] at te)] at HP8
            have hU3 := undrain_any p g8 dm5 (frees n0) ts dr2 (k : Int) X8 HP8.out kwf
            rw [hoff.out.2.2.2.1] at hU3
            go_wp2_with fail
            refine hU3.mono ?_
            rintro e X10 ⟨rfl, hp10, hf10⟩
            have HP10 := Lib.hid hp10
            have hB10 := Lib.hid (hB8.out.trans (hf10.below hB8.out.size (by rintro i rfl; omega)))
            have HR10 := Lib.hid (Frees.off HR8.out hf10.size fun b off e hb => hf10.block b hb (by have := HY.out b off e; omega))
            have s10 := hf10.size
            clear hp10 hf10 hU3
            have hU4 := undrain_any p g8 dm5 (frees n0) ts dr1 (k : Int) X10 HP10.out kwf
            rw [hoff.out.2.2.2.2.2, if_neg (by simp)] at hU4
            go_wp2_with fail
            refine hU4.mono ?_
            rintro e X11 ⟨rfl, hp11, hf11⟩
            have HP11 := Lib.hid hp11
            have hB11 := Lib.hid (hB10.out.trans (hf11.below hB10.out.size (by rintro i rfl; omega)))
            have HR11 := Lib.hid (Frees.off HR10.out hf11.size fun b off e hb => hf11.block b hb (by have := HY.out b off e; omega))
            have s11 := hf11.size
            clear hp11 hf11 hU4
            have hV5 := view_new p g8 dm5 (frees n0) ts dr1 X11 HP11.out
            rw [← HV.out] at hV5
            go_wp2_with fail
            refine hV5.mono ?_
            rintro e X12 ⟨A12, c12, rfl, hr12, _, hb12⟩
            have HR12 := Lib.hid (And.intro hr12 (Frees.off HR11.out hb12.size fun b off e hb => hb12.block b hb))
            have hB12 := Lib.hid (hB11.out.trans (hb12.mono hB11.out.size))
            clear hr12 hb12 hV5
            go_wp2_with fail
            refine (same_any _ _ _ _ V X12 HR12.out.1 HR12.out.2 hvl.out).mono ?_
            rintro e X13 ⟨rfl, hb13⟩
            have hB13 := Lib.hid (below_step hB12.out hb13)
            clear hb13
            go_wp2
            go_ret
            exact ⟨rfl, hB13.out⟩

set_option maxRecDepth 100000 in
theorem lifted (os : Os) (started : os.Started) (H : Type) (enc : TypeId × Value → H) :
    ReturnsInHanded {} Try.checked os 6 .any (Rows.poolDrainsSpec.pre6 enc Try.prog Try.f6 Rows.poolDrainsRow.domain false) (Rows.poolDrainsSpec.post enc Try.prog Try.f6 false true false false) := by
  refine returnsInHanded_of_change (C := Try.checked) own started (by kernel_rfl) Try.func6
    (ChangeSpec.witness6 (enc := enc) (C := Try.checked) false ⟨#[], #[.agg #[.slice none 0 0], .slice none 0 0, .int .i64 0, .agg #[.int .i64 0, .int .i64 0, .int .u64 0, .int .i64 0]], []⟩ 8 (by kernel_rfl) (by kernel_rfl) (by kernel_rfl) (by kernel_rfl)) ?_
  intro W base args ds gs before hval0 hW _ _
  have hval : ∀ (j : Nat) t v, Try.f6.params[j]? = some t → args[j]? = some v → Value.okWide Try.prog W .any base t v := hval0
  have hW' := hW
  obtain ⟨p, q, hA0, hV, rfl, hfz, hnd⟩ := hW
  have hA : DataW.TrodAll enc Try.prog W 0 (fun _ => true) true Try.f6.params.toList args.toList ds p := hA0
  rw [Try.params6] at hA hval
  obtain ⟨v0, vs0, d0, ds0, p0, q0, hargs, rfl, rfl, h0, r0⟩ := trodAll_cons hA
  obtain ⟨v1, vs1, d1, ds1, p1, q1, rfl, rfl, rfl, h1, r1⟩ := trodAll_cons r0
  obtain ⟨v2, vs2, d2, ds2, p2, q2, rfl, rfl, rfl, h2, r2⟩ := trodAll_cons r1
  obtain ⟨v3, vs3, d3, ds3, p3, q3, rfl, rfl, rfl, h3, r3⟩ := trodAll_cons r2
  obtain ⟨rfl, rfl, rfl⟩ := trodAll_nil r3
  obtain rfl : args = #[v0, v1, v2, v3] := by cases args; simp_all
  obtain ⟨rfl, rfl⟩ := trodVars_none hV
  have k0 := h0
  have lt0 : ∀ x ∈ p0, x.block < W.heap.size := by obtain ⟨m, hm⟩ := k0; exact DataW.trod_lt m _ _ _ hm
  obtain ⟨a0, c0, n0, rfl, lc0, mc0, w0⟩ := clu_of (hval 0 24 v0 rfl rfl) h0
  have k1 := h1
  have lt1 : ∀ x ∈ p1, x.block < W.heap.size := by obtain ⟨m, hm⟩ := k1; exact DataW.trod_lt m _ _ _ hm
  obtain ⟨a1, c1, n1, rfl, lc1, mc1, w1, q1⟩ := acts_of (hval 1 25 v1 rfl rfl) h1
  have k2 := h2
  have lt2 : ∀ x ∈ p2, x.block < W.heap.size := by obtain ⟨m, hm⟩ := k2; exact DataW.trod_lt m _ _ _ hm
  obtain ⟨a2, rfl, _, _, w2⟩ := open_int Try.underlying3 (hval 2 3 v2 rfl rfl) h2
  have k3 := h3
  have lt3 : ∀ x ∈ p3, x.block < W.heap.size := by obtain ⟨m, hm⟩ := k3; exact DataW.trod_lt m _ _ _ hm
  obtain ⟨s3, rfl, q3⟩ := slot_of (hval 3 59 v3 rfl rfl) h3
  clear hA0 hval0
  refine (walk a0 c0 n0 a1 c1 n1 a2 s3 W w0 lc0 mc0 w1 q1 lc1 mc1 w2 q3).mono fun e W' ⟨he, bel⟩ => ?_
  subst he
  exact ⟨_, rfl, _, _, _, [], _, [], hW', trodAll_mk1 (shut_bool Try.underlying4 _), (trodAll_cons_mk (Below.trod laidOut (by kernel_rfl) (of_decide_eq_true (by kernel_rfl)) k0 bel lt0) (trodAll_cons_mk (Below.trod laidOut (by kernel_rfl) (of_decide_eq_true (by kernel_rfl)) k1 bel lt1) (trodAll_cons_mk (Below.trod laidOut (by kernel_rfl) (of_decide_eq_true (by kernel_rfl)) k2 bel lt2) (trodAll_cons_mk (Below.trod laidOut (by kernel_rfl) (of_decide_eq_true (by kernel_rfl)) k3 bel lt3) trodAll_mk0)))), rfl, bel.frame _, fun h => by cases h⟩

/-- THE STATEMENT. -/
theorem holds : Rows.PoolDrainsSaid :=
  OpenClaim.holds_of_wide 6 Try.f6 rfl rfl rfl rfl rfl rfl rfl ⟨rfl, rfl, rfl, rfl, rfl⟩ rfl rfl rfl rfl rfl (by kernel_rfl) Try.func6 (by kernel_rfl)
    (of_decide_eq_true (by kernel_rfl)) (by unfold Func.isWrapper; first | (rw [if_pos (by decide +kernel)]; kernel_rfl) | (rw [if_neg (by decide +kernel)]; exact ⟨rfl, rfl⟩))
    (fun os started H enc _ => lifted os started H enc)
end Go.Proofs.Ytcjkehmmkchapaa.poolDrains
