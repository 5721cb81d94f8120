/- What is taken of a pool, and given back, slot by slot or all at once, leaves all as it was: the law PoolBack answers true, at every input. -/
import Derived.Laws.StructEq
import Derived.Test.YtcjkehmmkchapaaPoolLaws
import Derived.Test.YtcjkehmmkchapaaTopoFrame
import Derived.Test.YtcjkehmmkchapaaTopoFrame
set_option linter.unusedVariables false
namespace Go.Proofs.Ytcjkehmmkchapaa.poolBack
open Go Go.ChangeShapes Go.WideShapes Go.ChangeAt Go.RowKit
set_option maxRecDepth 100000 in
set_option maxHeartbeats 4000000 in
theorem walk (a0 : Option Addr) (c0 : Nat) (n0 : List (List (Int × Int))) (a1 : Option Addr) (c1 : Nat) (n1 : List Ac) (a2 : Option Addr) (c2 : Nat) (n2 : List PM.Sl) (a3 : Bool) (w : World) (w0 : Nodes w w.heap.size a0 n0) (lc0 : n0.length ≤ c0) (mc0 : c0 ≤ maxLen)
    (w1 : Acts w w.heap.size a1 n1) (q1 : ∀ a ∈ n1, AcOk a) (lc1 : n1.length ≤ c1) (mc1 : c1 ≤ maxLen) (w2' : Slots w w.heap.size a2 n2) (q2 : ∀ s ∈ n2, SlOk s) (lc2 : n2.length ≤ c2) (mc2 : c2 ≤ maxLen) :
    Calls Try.prog 5 #[.agg #[.slice a0 n0.length c0], .slice a1 n1.length c1, .slice a2 n2.length c2, .bool a3] w fun e w' => e = .returned (.bool true) ∧ Below w.heap.size w w' := by
  have hA := Lib.hid awake_any
  have k0 : (w.alloc (.cells #[.slice a0 n0.length c0] 24)).cell? ⟨w.heap.size, 0, none⟩ = some (.slice a0 n0.length c0) := by go_simp
  have hBa := (Below.refl w.heap.size w).alloc (Nat.le_refl _) (.cells #[.slice a0 n0.length c0] 24)
  have hRt := Lib.hid (fun W (hW : Below w.heap.size w W) (r : Bool) (hr : cluOk n0 = r) => right_any a0 c0 w.heap.size n0 W (Nodes.keep w0 hW (Nat.le_refl _)) hW.size r hr)
  cases hok : cluOk n0
  · have hR := Lib.hid (fun W hW => hRt.out W hW false hok)
    clear hok w0 w1 w2' hRt
    go_enter Try.func5, Try.ntmps5
    go_wp2_with (first
      | (go_at_call 9; refine (hA.out _).mono ?_; rintro e w2 ⟨rfl, hb2⟩; have hB2 := below_step hBa hb2; have k2 := (hb2.cell (p := ⟨w.heap.size, 0, none⟩) (by simp)).trans k0; have s2 := hb2.size; simp at s2)
      | (go_at_call 12; refine (hR.out _ hB2).mono ?_; rintro e w3 ⟨rfl, hb3⟩; have hB3 := below_step hB2 hb3; have k3 := (hb3.cell (p := ⟨w.heap.size, 0, none⟩) (show w.heap.size < _ by omega)).trans k2; have s3 := hb3.size))
    go_ret
    exact ⟨rfl, hB3⟩
  have hR := Lib.hid (fun W hW => hRt.out W hW true hok)
  have hF0 := fun W (hW : Below w.heap.size w W) => fewacts_any a1 c1 w.heap.size n1 W (Acts.keep w1 hW) (by omega) (fun a ha => (q1 a ha).few)
  cases hf : fewA n1
  · rw [hf] at hF0
    have hF := Lib.hid hF0
    clear hok hf w0 w1 w2' hRt hF0
    go_enter Try.func5, Try.ntmps5
    go_wp2_with (first
      | (go_at_call 9; refine (hA.out _).mono ?_; rintro e w2 ⟨rfl, hb2⟩; have hB2 := below_step hBa hb2; have k2 := (hb2.cell (p := ⟨w.heap.size, 0, none⟩) (by simp)).trans k0; have s2 := hb2.size; simp at s2)
      | (go_at_call 12; refine (hR.out _ hB2).mono ?_; rintro e w3 ⟨rfl, hb3⟩; have hB3 := below_step hB2 hb3; have k3 := (hb3.cell (p := ⟨w.heap.size, 0, none⟩) (show w.heap.size < _ by omega)).trans k2; have s3 := hb3.size)
      | (go_at_call 10; refine (hF.out _ hB3).mono ?_; rintro e w' ⟨rfl, rfl⟩))
    go_ret
    exact ⟨rfl, hB3⟩
  rw [hf] at hF0
  have hF := Lib.hid hF0
  obtain ⟨m, hm⟩ : ∃ m, n0.length = m := ⟨_, rfl⟩
  obtain ⟨N, hN1⟩ : ∃ N, n1.length = N := ⟨_, rfl⟩
  obtain ⟨M, hM1⟩ : ∃ M, n2.length = M := ⟨_, rfl⟩
  have hfl : N ≤ 60 := by
    unfold fewA at hf; simp at hf; omega
  have hN := Lib.hid (fun W (hW : Below w.heap.size w W) => poolnew_ok a0 c0 w.heap.size n0 W (Nodes.keep w0 hW (Nat.le_refl _)) hW.size hok)
  have hFs := fsOk hok
  rw [hm] at k0 hBa hR hN lc0 ⊢
  rw [hN1] at hF lc1 ⊢
  rw [hM1] at lc2 ⊢
  have Q := Lib.hid (And.intro hm (And.intro hN1 (And.intro hM1 (And.intro w1 (And.intro q1 (And.intro w2' (And.intro q2 hFs)))))))
  clear hok hf w0 w1 w2' hRt hF0 hm hN1 hM1 hFs q1 q2
  unfold maxLen at mc2
  by_cases h40 : 40 < M
  · have t40 : decide (40 < (M : Int)) = true := by simp; omega
    go_enter Try.func5, Try.ntmps5
    go_wp2_with (first
      | (go_at_call 9; refine (hA.out _).mono ?_; rintro e w2 ⟨rfl, hb2⟩; have hB2 := below_step hBa hb2; have k2 := (hb2.cell (p := ⟨w.heap.size, 0, none⟩) (by simp)).trans k0; have s2 := hb2.size; simp at s2)
      | (go_at_call 12; refine (hR.out _ hB2).mono ?_; rintro e w3 ⟨rfl, hb3⟩; have hB3 := below_step hB2 hb3; have k3 := (hb3.cell (p := ⟨w.heap.size, 0, none⟩) (show w.heap.size < _ by omega)).trans k2; have s3 := hb3.size)
      | (go_at_call 10; refine (hF.out _ hB3).mono ?_; rintro e w' ⟨rfl, rfl⟩))
    go_ret
    exact ⟨rfl, hB3⟩
  have t40 : decide (40 < (M : Int)) = false := by simp; omega
  go_enter Try.func5, Try.ntmps5
  go_wp2_with (first
      | (go_at_call 9; refine (hA.out _).mono ?_; rintro e w2 ⟨rfl, hb2⟩; have hB2 := below_step hBa hb2; have k2 := (hb2.cell (p := ⟨w.heap.size, 0, none⟩) (by simp)).trans k0; have s2 := hb2.size; simp at s2)
      | (go_at_call 12; refine (hR.out _ hB2).mono ?_; rintro e w3 ⟨rfl, hb3⟩; have hB3 := below_step hB2 hb3; have k3 := (hb3.cell (p := ⟨w.heap.size, 0, none⟩) (show w.heap.size < _ by omega)).trans k2; have s3 := hb3.size)
      | (go_at_call 10; refine (hF.out _ hB3).mono ?_; rintro e w' ⟨rfl, rfl⟩)
      | (go_at_call 11; refine (hN.out _ hB3).mono ?_; rintro e w4 ⟨T, p, g, dm, rfl, hp, hb4, p1, g1, d1, o1⟩; have HP := Lib.hid hp; clear hp; have hB4 := below_step hB3 hb4; have k4 := (hb4.cell (p := ⟨w.heap.size, 0, none⟩) (show w.heap.size < _ by omega)).trans k3; have s4 := hb4.size))
  obtain ⟨Fp, hFp⟩ : ∃ Fp : Nat → Prop, Fp = fun i => w.heap.size ≤ i := ⟨_, rfl⟩
  have hin7 : PoolIn w4 Fp p (frees n0) (PM.zero (frees n0), List.replicate m false) := ⟨T, g, dm, HP.out, by rw [hFp]; show w.heap.size ≤ _; omega, by rw [hFp]; show w.heap.size ≤ _; omega, by rw [hFp]; show w.heap.size ≤ _; omega, by rw [hFp]; exact fun i hi => by have := o1 i hi; show w.heap.size ≤ _; omega⟩
  have hFw : ∀ i, Fp i → w.heap.size ≤ i := by rw [hFp]; exact fun i h => h
  have hFy : ∀ W : World, w4.heap.size ≤ W.heap.size → ∀ i, W.heap.size ≤ i → Fp i := fun W hW i hi => by rw [hFp]; show w.heap.size ≤ _; omega
  have hw4 : w.heap.size ≤ w4.heap.size := hB4.size
  have Z := Lib.hid (And.intro hB4 (And.intro hFw (And.intro hFy hin7)))
  clear hFp hin7 hFw hFy hB4 hb4 hB3 hb3 hB2 hb2 hBa k0 k2 k3 k4 s2 s3 s4 hA hR hF hN p1 g1 d1 o1 HP h40
  go_loopw [11] (fun i wr => ∃ k : Nat, i = .int .i64 k ∧ k ≤ N ∧ w4.heap.size ≤ wr.heap.size ∧ Hid (Foot Fp w4 wr ∧ ∃ st, PoolIn wr Fp p (frees n0) st)) (fun i _ => N - (intOf i).toNat)
  case atStart => exact ⟨0, rfl, by omega, Nat.le_refl _, Lib.hid ⟨Foot.refl _ _, _, Z.out.2.2.2⟩⟩
  case round =>
    obtain ⟨k, rfl, hk, hsz, hin⟩ := hrel
    obtain ⟨hft, st, hpk⟩ := hin.out
    by_cases hlt : k < N
    · obtain ⟨hm, hN1, hM1, w1, q1, _⟩ := Q.out
      obtain ⟨hB7, hFw, hFy, _⟩ := Z.out
      obtain ⟨a, hx⟩ := get_lt (l := n1) (k := k) (by rw [hN1]; exact hlt)
      obtain ⟨b, off, rfl, hb, hc⟩ := w1.at_ hx
      have hBr : Below w.heap.size w wr := hB7.trans (hft.below (by omega) hFw)
      obtain ⟨As, cs, a0', a1', a2', hsl⟩ := (hc k a hx).keep hb hBr
      have haok := q1 a (List.mem_of_getElem? hx)
      have hD := Lib.hid (do_in Fp p (frees n0) st As cs a wr hpk (hFy wr hsz) haok (hsl.imp (by omega) fun _ _ _ _ h => h) (fun _ b' off' e hb' => by
        rcases hsl with e0 | ⟨b2, o2, e2, hb2, _⟩
        · exact absurd e0 ‹_›
        · cases e.symm.trans e2; have := hFw _ hb'; omega))
      have t0 : decide (k < N) = true := by simpa using hlt
      have HX := Lib.hid hft
      obtain ⟨R, hR⟩ : ∃ R, R = act (frees n0) st a := ⟨_, rfl⟩
      rw [← hR] at hD
      obtain ⟨kind, node, sl⟩ := a
      simp only at *
      obtain ⟨sn, hsn⟩ : ∃ sn, sn = sl.length := ⟨_, rfl⟩
      rw [← hsn] at a2' hD
      clear hm hN1 hM1 w1 q1 hB7 hFw hFy hx hc hBr hsl haok hft hpk hin hR hsn
      go_wp2_with (go_at_call 14; refine hD.out.mono ?_; rintro e w8 ⟨rfl, hp8, hf8⟩; have HQ8 := Lib.hid (And.intro hp8 hf8); have s8 := hf8.size; clear hp8 hf8)
      go_roundw
      case rel => exact ⟨k + 1, by go_num, by omega, by omega, Lib.hid ⟨HX.out.trans HQ8.out.2 (fun i hi => .inl hi), R.2, HQ8.out.1⟩⟩
      case measure => simp [intOf]; omega
    · obtain rfl : k = N := by omega
      obtain ⟨hm, hN1, hM1, w1, q1, w2', q2, hFs⟩ := Q.out
      obtain ⟨hB7, hFw, hFy, _⟩ := Z.out
      obtain ⟨ts, dr⟩ := st
      obtain ⟨T5, g5, dm5, hP5, f1, f2, f3, f4⟩ := hpk
      simp only at hP5
      have hBr : Below w.heap.size w wr := hB7.trans (hft.below (by omega) hFw)
      have hinv := hP5.inv
      obtain ⟨L, hL⟩ : ∃ L, L = PM.free (frees n0) ts := ⟨_, rfl⟩
      obtain ⟨n, hn⟩ : ∃ n, L.length = n := ⟨_, rfl⟩
      obtain ⟨gT, hgT⟩ : ∃ x, x = gsum ts := ⟨_, rfl⟩
      obtain ⟨cT, hcT⟩ : ∃ x, x = csum ts := ⟨_, rfl⟩
      have hFr0 := fun g W (h : PoolAt W T5 p g dm5 (frees n0) ts dr) => free_row p g dm5 (frees n0) ts dr W h
      have hOt0 := fun g W (h : PoolAt W T5 p g dm5 (frees n0) ts dr) => out_any p g dm5 (frees n0) ts dr W h
      simp only [← hL, hn] at hFr0
      simp only [← hgT, ← hcT] at hOt0
      have hFr := Lib.hid hFr0
      have hOt := Lib.hid hOt0
      have hl5 := hP5.lt
      have hnpos : 0 < n := by rw [← hn, hL, PM.free_len hP5.inv]; exact hP5.ok.pos
      have hnfew : n ≤ 1000 := by rw [← hn, hL, PM.free_len hP5.inv]; exact hP5.ok.few
      have hSm0 := fun (A A' : Option Addr) (c c' : Nat) (W : World) (h : Frees W W.heap.size A L) (h' : Frees W W.heap.size A' L) => same_rows A A' c c' L W h h' (by rw [hn]; exact hnpos) (by rw [hn]; exact hnfew)
      simp only [hn] at hSm0
      have hSm := Lib.hid hSm0
      have HP5 := Lib.hid hP5
      have HBr := Lib.hid hBr
      have hsrow := Lib.hid (free_any p g5 dm5 (frees n0) ts dr wr hP5)
      rw [← hL, show (frees n0).length = n by rw [← hn, hL, PM.free_len hP5.inv]] at hsrow
      obtain ⟨R, hR⟩ : ∃ R, R = PM.whole (frees n0) dr false n2 ts := ⟨_, rfl⟩
      have hTk0 := fun W (hW : Below w.heap.size w W) (hPW : PoolAt W T5 p g5 dm5 (frees n0) ts dr) => take_any p g5 dm5 (frees n0) ts dr a2 c2 n2 W hPW q2 (Slots.keep w2' hW hW.size) (fun hne b off e => by
        rcases w2' with e0 | ⟨b2, o2, e2, hb2, _⟩
        · exact absurd e0 hne
        · cases e.symm.trans e2; have := hFw _ f2; omega) (by rw [hM1]; unfold maxLen; omega)
      rw [← hR, hM1] at hTk0
      have hTk := Lib.hid hTk0
      have HQ := Lib.hid (And.intro hm (And.intro hN1 (And.intro hM1 (And.intro q2 (And.intro w2' (And.intro hR (And.intro hL (And.intro hn hFs))))))))
      have hpw : w.heap.size ≤ p ∧ w.heap.size ≤ g5 ∧ w.heap.size ≤ dm5 := ⟨hFw _ f1, hFw _ f2, hFw _ f3⟩
      clear hlt hft hin hm hN1 hM1 w1 q1 w2' q2 hFs hB7 hFw hFy hP5 f1 f2 f3 f4 hBr hinv hL hn hgT hcT hFr0 hOt0 hSm0 hTk0 hR
      go_wp2_with (first
        | (go_at_call 17; refine hsrow.out.mono ?_; rintro e w9 ⟨rfl, hr9, hb9⟩; have HR9 := Lib.hid (And.intro hr9 hb9); have s9 := hb9.size; clear hr9 hb9)
        | (go_at_call 21; refine (hOt.out g5 _ (HP5.out.keep HR9.out.2)).mono ?_; rintro e w10 ⟨rfl, hb10⟩; have HB10 := Lib.hid hb10; have s10 := hb10.size; clear hb10))
      obtain ⟨w11, hw11⟩ : ∃ w11, w11 = w10.alloc (.cells #[.int .i64 (gT : Nat), .int .i64 (cT : Nat)] 44) := ⟨_, rfl⟩
      obtain ⟨O, hO⟩ : ∃ O, O = w10.heap.size := ⟨_, rfl⟩
      obtain ⟨B5, hB5⟩ : ∃ B5, B5 = wr.heap.size := ⟨_, rfl⟩
      have hb11 : Below wr.heap.size wr w11 := by rw [hw11]; exact (below_step HR9.out.2 HB10.out).alloc (by omega) _
      have bO : w11.heap[O]? = some (.cells #[.int .i64 (gT : Nat), .int .i64 (cT : Nat)] 44 (0, 0)) := by rw [hw11, hO]; exact heap_alloc_new w10 _
      have hB59 : B5 < w9.heap.size := by rw [hB5]; exact blk_lt HR9.out.1
      have bW : w11.heap[B5]? = some (rowBlk L) := by rw [hw11, hB5]; exact (Below.heap_alloc _ _ _ (by omega)).trans ((HB10.out.block _ (by omega)).trans HR9.out.1)
      have hn1 : O ≠ p ∧ O ≠ g5 ∧ B5 ≠ p ∧ B5 ≠ g5 := by omega
      have s11 : w11.heap.size = O + 1 := by rw [hw11, hO]; simp
      have hOB : O < w11.heap.size ∧ B5 < w11.heap.size ∧ B5 ≤ O := by omega
      rw [← hw11, ← hO, ← hB5]
      have HP11 := Lib.hid (HP5.out.keep hb11)
      have HB11 := Lib.hid (HBr.out.trans (hb11.mono HBr.out.size))
      have hw11s : w.heap.size ≤ w11.heap.size := HB11.out.size
      have HO := Lib.hid (And.intro bO bW)
      have hTk1 := Lib.hid (hTk.out w11 HB11.out HP11.out)
      clear hw11 hO hB5 hb11 bO bW hB59 s11 s9 s10 hsrow hl5
      by_cases hE : R.1 = 0
      · have hR := HQ.out.2.2.2.2.2.1
        obtain ⟨E, ts1⟩ := R
        simp only at hE
        subst hE
        have hmany := PM.many_of_whole hR.symm
        have hback := PM.take_give_many (dr' := dr) HP5.out.inv hmany
        have t0 : ((0 : Int) != 0) = false := rfl
        have hGv0 := fun (g : Nat) (W : World) (hW : Below w.heap.size w W) (hgw : w.heap.size ≤ g) (hPW : PoolAt W T5 p g dm5 (frees n0) ts1 dr) => give_any p g dm5 (frees n0) ts1 dr a2 c2 n2 W hPW HQ.out.2.2.2.1 (Slots.keep HQ.out.2.2.2.2.1 hW hW.size) (fun hne b off e => by
          rcases HQ.out.2.2.2.2.1 with e0 | ⟨b2, o2, e2, hb2, _⟩
          · exact absurd e0 hne
          · cases e.symm.trans e2; omega) (by rw [HQ.out.2.2.1]; unfold maxLen; omega)
        rw [PM.whole_of_many hback, HQ.out.2.2.1] at hGv0
        have hGv := Lib.hid hGv0
        have HM := Lib.hid (And.intro hmany hback)
        clear hR hmany hback hGv0
        cases a3
        · go_wp2_with (first
            | (go_at_call 25; refine hTk1.out.mono ?_; rintro e X1 ⟨rfl, g12, hp12, hf12, hg12⟩; have HP12 := Lib.hid hp12; have HF12 := Lib.hid hf12; have s12 := hf12.size; have bO12 := Lib.hid ((hf12.block O hOB.1 (by omega)).trans HO.out.1); have bW12 := Lib.hid ((hf12.block B5 hOB.2.1 (by omega)).trans HO.out.2); have hB12 := Lib.hid (HB11.out.trans (hf12.below hw11s (by rintro i (rfl | rfl) <;> omega))); clear hp12 hf12)
            | (go_at_call 26; refine (hGv.out g12 _ hB12.out (by omega) HP12.out).mono ?_; rintro e X2 ⟨rfl, g13, hp13, hf13, hg13⟩; have HP13 := Lib.hid hp13; have bW13 := (hf13.block B5 (by omega) (by omega)).trans bW12.out; have lB13 := blk_lt bW13; have HW13 := Lib.hid bW13; have hB13 := Lib.hid (hB12.out.trans (hf13.below hB12.out.size (by rintro i (rfl | rfl) <;> omega))); clear hp13 hf13 bW13)
            | (go_at_call 17; refine (hFr.out g13 _ HP13.out).mono ?_; rintro e w21 ⟨rfl, hr21, hb21⟩; have HR21 := Lib.hid (And.intro hr21 hb21); clear hr21 hb21)
            | (go_at_call 16; refine (hSm.out _ _ _ _ _ HR21.out.1 (blk_frees ((HR21.out.2.block B5 lB13).trans HW13.out))).mono ?_; rintro e w22 ⟨rfl, hb22⟩; have HB22 := Lib.hid (below_step (below_step hB13.out HR21.out.2) hb22)))
          go_ret
          exact ⟨rfl, HB22.out⟩
        · go_wp2_with (go_at_call 25; refine hTk1.out.mono ?_; rintro e X1 ⟨rfl, g12, hp12, hf12, hg12⟩; have HP12 := Lib.hid hp12; have HF12 := Lib.hid hf12; have s12 := hf12.size; have bO12 := Lib.hid ((hf12.block O hOB.1 (by omega)).trans HO.out.1); have bW12 := Lib.hid ((hf12.block B5 hOB.2.1 (by omega)).trans HO.out.2); have hB12 := Lib.hid (HB11.out.trans (hf12.below hw11s (by rintro i (rfl | rfl) <;> omega))); clear hp12 hf12)
          have s12' : w.heap.size ≤ X1.heap.size := by omega
          have hgw12 : w.heap.size ≤ g12 := by omega
          have hgO : O ≠ g12 ∧ B5 ≠ g12 := by omega
          have hOX : O < X1.heap.size ∧ B5 < X1.heap.size := by omega
          clear s12 hg12
          go_loopw [14] (fun i wr' => ∃ k : Nat, i = .int .i64 k ∧ k ≤ M ∧ X1.heap.size ≤ wr'.heap.size ∧ Hid (Below w.heap.size w wr' ∧ wr'.heap[O]? = some (.cells #[.int .i64 (gT : Nat), .int .i64 (cT : Nat)] 44 (0, 0)) ∧ wr'.heap[B5]? = some (rowBlk L) ∧ ∃ gk tk, PoolAt wr' T5 p gk dm5 (frees n0) tk dr ∧ PM.many (frees n0) dr true (n2.take k) ts1 = (0, tk) ∧ w.heap.size ≤ gk ∧ O ≠ gk ∧ B5 ≠ gk)) (fun i _ => M - (intOf i).toNat)
          case atStart => exact ⟨0, rfl, by omega, Nat.le_refl _, Lib.hid ⟨hB12.out, bO12.out, bW12.out, g12, ts1, HP12.out, rfl, hgw12, hgO⟩⟩
          case round =>
            obtain ⟨j, rfl, hj, hszj, hinj⟩ := hrel
            obtain ⟨hBj, bOj, bWj, gk, tk, hPk, hmk, hgk, hgk2⟩ := hinj.out
            by_cases hjl : j < M
            · obtain ⟨s, hx⟩ := get_lt (l := n2) (k := j) (by rw [HQ.out.2.2.1]; exact hjl)
              obtain ⟨b, off, rfl, hb, hc⟩ := HQ.out.2.2.2.2.1.at_ hx
              obtain ⟨z0, z1, z2, z3⟩ := (hc j s hx).keep hb hBj
              obtain ⟨e1, e2⟩ := many_ok_at hx hmk HM.out.2
              have hso := HQ.out.2.2.2.1 s (List.mem_of_getElem? hx)
              have hOne := give_one' p gk dm5 wr.heap.size (frees n0) tk dr s (wr.alloc (.cells #[.int .i64 s.n, .int .i64 s.d, .int .u64 (s.m : Nat), .int .i64 s.c] 59)) (hPk.keep ((Below.refl _ _).alloc (Nat.le_refl _) _)) hso (heap_alloc_new wr _) (Nat.ne_of_gt hPk.lt.2.1)
              rw [e1] at hOne
              have hO1 := Lib.hid hOne
              have tj : decide (j < M) = true := by simpa using hjl
              have HJ := Lib.hid (And.intro hBj (And.intro bOj (And.intro bWj (And.intro hgk (And.intro hgk2 (And.intro e2 hPk.lt))))))
              clear hx hc hBj bOj bWj hPk hmk hgk hgk2 hinj e1 e2 hso hOne
              obtain ⟨x, y, mm, c⟩ := s
              simp only at *
              go_wp2_with (go_at_call 26; refine hO1.out.mono ?_; rintro e w31 ⟨rfl, g31, hp31, hf31, hg31⟩; have HP31 := Lib.hid (And.intro hp31 hf31); have s31 := hf31.size; simp at s31 hg31; clear hp31 hf31)
              obtain ⟨j1, j2, j3, j4, j5, j6, j7⟩ := HJ.out
              have hBk := Lib.hid (show Below w.heap.size w w31 from (j1.alloc j1.size _).trans (HP31.out.2.below (by simp; omega) (by rintro i (rfl | rfl) <;> omega)))
              have bOk := Lib.hid ((HP31.out.2.block O (by simp; omega) (by omega)).trans ((Below.heap_alloc wr _ _ (by omega)).trans j2))
              have bWk := Lib.hid ((HP31.out.2.block B5 (by simp; omega) (by omega)).trans ((Below.heap_alloc wr _ _ (by omega)).trans j3))
              go_roundw
              case rel => exact ⟨j + 1, by go_num, by omega, by omega, Lib.hid ⟨hBk.out, bOk.out, bWk.out, g31, _, HP31.out.1, j6, by omega, by omega, by omega⟩⟩
              case measure => simp [intOf]; omega
            · obtain rfl : j = M := by omega
              rw [← HQ.out.2.2.1, List.take_length, HM.out.2] at hmk
              obtain rfl := (Prod.mk.inj hmk).2
              have HPx := Lib.hid hPk
              have hBx := Lib.hid hBj
              obtain ⟨gx, hgx⟩ : ∃ gx, gx = gk := ⟨_, rfl⟩
              rw [← hgx] at HPx
              have bOx := bOj
              have bWx := bWj
              clear hjl hPk hmk hgk hgk2 hBj bOj bWj hinj hgx
              go_wp2
              have y0 : wr.cell? ⟨O, 0, none⟩ = some (.int .i64 (gT : Nat)) := cell_blk (i := 0) bOx rfl
              have y1 : wr.cell? ⟨O, 1, none⟩ = some (.int .i64 (cT : Nat)) := cell_blk (i := 1) bOx rfl
              have lO := blk_lt bOx
              have lB := blk_lt bWx
              have HWx := Lib.hid bWx
              clear bOx bWx
              go_region_held3 (fun w' => w'.cell? ⟨O, 0, none⟩ = some (.int .i64 (gT : Nat)) ∧ w'.cell? ⟨O, 1, none⟩ = some (.int .i64 (cT : Nat)))
                (go_keep)
                (first
                  | (go_at_call 17; refine (hFr.out gx _ (HPx.out.keep (Below.refl wr.heap.size wr).drew)).mono ?_; rintro e w21 ⟨rfl, hr21, hb21⟩; have HR21 := Lib.hid hr21; have HB21 : Hid (Below wr.heap.size wr w21) := Lib.hid (below_step (Below.refl wr.heap.size wr).drew hb21); have l21 := HB21.out.size; have v0 := (HB21.out.cell (p := ⟨O, 0, none⟩) lO).trans y0; have v1 := (HB21.out.cell (p := ⟨O, 1, none⟩) lO).trans y1; clear hr21)
                  | (go_at_call 16; refine (hSm.out _ _ _ _ _ HR21.out (blk_frees ((HB21.out.block B5 lB).trans HWx.out))).mono ?_; rintro e w22 ⟨rfl, hb22⟩; have HB22 : Hid (Below wr.heap.size wr w22) := Lib.hid (below_step HB21.out hb22); have l22 := HB22.out.size; have t0 := (HB22.out.cell (p := ⟨O, 0, none⟩) lO).trans y0; have t1 := (HB22.out.cell (p := ⟨O, 1, none⟩) lO).trans y1)
                  | (go_at_call 21; refine (hOt.out gx _ (HPx.out.keep HB22.out)).mono ?_; rintro e w23 ⟨rfl, hb23⟩; have HB23 : Hid (Below wr.heap.size wr w23) := Lib.hid (below_step HB22.out hb23); have u0 := (HB23.out.cell (p := ⟨O, 0, none⟩) lO).trans y0; have u1 := (HB23.out.cell (p := ⟨O, 1, none⟩) lO).trans y1))
              all_goals
                go_wp2
                go_ret
                exact ⟨rfl, below_step hBx.out HB23.out⟩
      · have hR := HQ.out.2.2.2.2.2.1
        have hR2 : R.2 = ts := by rw [hR] at hE ⊢; exact PM.whole_err hE
        rw [hR2] at hTk1
        have t0 : (R.1 != 0) = true := by simpa using hE
        clear hE hR hR2
        go_wp2_with (go_at_call 25; refine hTk1.out.mono ?_; rintro e X ⟨rfl, gx, hpx, hfx, hgx⟩; have HPx := Lib.hid hpx; have bOx := (hfx.block O hOB.1 (by omega)).trans HO.out.1; have bWx := (hfx.block B5 hOB.2.1 (by omega)).trans HO.out.2; have hBx := Lib.hid (HB11.out.trans (hfx.below hw11s (by rintro i (rfl | rfl) <;> omega))); clear hpx hfx hgx)
        have y0 : X.cell? ⟨O, 0, none⟩ = some (.int .i64 (gT : Nat)) := cell_blk (i := 0) bOx rfl
        have y1 : X.cell? ⟨O, 1, none⟩ = some (.int .i64 (cT : Nat)) := cell_blk (i := 1) bOx rfl
        have lO := blk_lt bOx
        have lB := blk_lt bWx
        have HWx := Lib.hid bWx
        clear bOx bWx
        go_region_held3 (fun w' => w'.cell? ⟨O, 0, none⟩ = some (.int .i64 (gT : Nat)) ∧ w'.cell? ⟨O, 1, none⟩ = some (.int .i64 (cT : Nat)))
          (go_keep)
          (first
            | (go_at_call 17; refine (hFr.out gx _ (HPx.out.keep (Below.refl X.heap.size X).drew)).mono ?_; rintro e w21 ⟨rfl, hr21, hb21⟩; have HR21 := Lib.hid hr21; have HB21 : Hid (Below X.heap.size X w21) := Lib.hid (below_step (Below.refl X.heap.size X).drew hb21); have l21 := HB21.out.size; have v0 := (HB21.out.cell (p := ⟨O, 0, none⟩) lO).trans y0; have v1 := (HB21.out.cell (p := ⟨O, 1, none⟩) lO).trans y1; clear hr21)
            | (go_at_call 16; refine (hSm.out _ _ _ _ _ HR21.out (blk_frees ((HB21.out.block B5 lB).trans HWx.out))).mono ?_; rintro e w22 ⟨rfl, hb22⟩; have HB22 : Hid (Below X.heap.size X w22) := Lib.hid (below_step HB21.out hb22); have l22 := HB22.out.size; have t0 := (HB22.out.cell (p := ⟨O, 0, none⟩) lO).trans y0; have t1 := (HB22.out.cell (p := ⟨O, 1, none⟩) lO).trans y1)
            | (go_at_call 21; refine (hOt.out gx _ (HPx.out.keep HB22.out)).mono ?_; rintro e w23 ⟨rfl, hb23⟩; have HB23 : Hid (Below X.heap.size X w23) := Lib.hid (below_step HB22.out hb23); have u0 := (HB23.out.cell (p := ⟨O, 0, none⟩) lO).trans y0; have u1 := (HB23.out.cell (p := ⟨O, 1, none⟩) lO).trans y1))
        all_goals
          go_wp2
          go_ret
          exact ⟨rfl, below_step hBx.out HB23.out⟩

set_option maxRecDepth 100000 in
theorem lifted (os : Os) (started : os.Started) (H : Type) (enc : TypeId × Value → H) :
    ReturnsInHanded {} Try.checked os 5 .any (Rows.poolBackSpec.pre6 enc Try.prog Try.f5 Rows.poolBackRow.domain false) (Rows.poolBackSpec.post enc Try.prog Try.f5 false true false false) := by
  refine returnsInHanded_of_change (C := Try.checked) own started (by kernel_rfl) Try.func5
    (ChangeSpec.witness6 (enc := enc) (C := Try.checked) false ⟨#[], #[.agg #[.slice none 0 0], .slice none 0 0, .slice none 0 0, .bool false], []⟩ 8 (by kernel_rfl) (by kernel_rfl) (by kernel_rfl) (by kernel_rfl)) ?_
  intro W base args ds gs before hval0 hW _ _
  have hval : ∀ (j : Nat) t v, Try.f5.params[j]? = some t → args[j]? = some v → Value.okWide Try.prog W .any base t v := hval0
  have hW' := hW
  obtain ⟨p, q, hA0, hV, rfl, hfz, hnd⟩ := hW
  have hA : DataW.TrodAll enc Try.prog W 0 (fun _ => true) true Try.f5.params.toList args.toList ds p := hA0
  rw [Try.params5] at hA hval
  obtain ⟨v0, vs0, d0, ds0, p0, q0, hargs, rfl, rfl, h0, r0⟩ := trodAll_cons hA
  obtain ⟨v1, vs1, d1, ds1, p1, q1, rfl, rfl, rfl, h1, r1⟩ := trodAll_cons r0
  obtain ⟨v2, vs2, d2, ds2, p2, q2, rfl, rfl, rfl, h2, r2⟩ := trodAll_cons r1
  obtain ⟨v3, vs3, d3, ds3, p3, q3, rfl, rfl, rfl, h3, r3⟩ := trodAll_cons r2
  obtain ⟨rfl, rfl, rfl⟩ := trodAll_nil r3
  obtain rfl : args = #[v0, v1, v2, v3] := by cases args; simp_all
  obtain ⟨rfl, rfl⟩ := trodVars_none hV
  have k0 := h0
  have lt0 : ∀ x ∈ p0, x.block < W.heap.size := by obtain ⟨m, hm⟩ := k0; exact DataW.trod_lt m _ _ _ hm
  obtain ⟨a0, c0, n0, rfl, lc0, mc0, w0⟩ := clu_of (hval 0 24 v0 rfl rfl) h0
  have k1 := h1
  have lt1 : ∀ x ∈ p1, x.block < W.heap.size := by obtain ⟨m, hm⟩ := k1; exact DataW.trod_lt m _ _ _ hm
  obtain ⟨a1, c1, n1, rfl, lc1, mc1, w1, q1⟩ := acts_of (hval 1 25 v1 rfl rfl) h1
  have k2 := h2
  have lt2 : ∀ x ∈ p2, x.block < W.heap.size := by obtain ⟨m, hm⟩ := k2; exact DataW.trod_lt m _ _ _ hm
  obtain ⟨a2, c2, n2, rfl, lc2, mc2, w2, q2⟩ := slots_of (hval 2 36 v2 rfl rfl) h2
  have k3 := h3
  have lt3 : ∀ x ∈ p3, x.block < W.heap.size := by obtain ⟨m, hm⟩ := k3; exact DataW.trod_lt m _ _ _ hm
  obtain ⟨a3, rfl, _, _⟩ := open_bool Try.underlying4 (hval 3 4 v3 rfl rfl) h3
  clear hA0 hval0
  refine (walk a0 c0 n0 a1 c1 n1 a2 c2 n2 a3 W w0 lc0 mc0 w1 q1 lc1 mc1 w2 q2 lc2 mc2).mono fun e W' ⟨he, bel⟩ => ?_
  subst he
  exact ⟨_, rfl, _, _, _, [], _, [], hW', trodAll_mk1 (shut_bool Try.underlying4 _), (trodAll_cons_mk (Below.trod laidOut (by kernel_rfl) (of_decide_eq_true (by kernel_rfl)) k0 bel lt0) (trodAll_cons_mk (Below.trod laidOut (by kernel_rfl) (of_decide_eq_true (by kernel_rfl)) k1 bel lt1) (trodAll_cons_mk (Below.trod laidOut (by kernel_rfl) (of_decide_eq_true (by kernel_rfl)) k2 bel lt2) (trodAll_cons_mk (Below.trod laidOut (by kernel_rfl) (of_decide_eq_true (by kernel_rfl)) k3 bel lt3) trodAll_mk0)))), rfl, bel.frame _, fun h => by cases h⟩

/-- THE STATEMENT. -/
theorem holds : Rows.PoolBackSaid :=
  OpenClaim.holds_of_wide 5 Try.f5 rfl rfl rfl rfl rfl rfl rfl ⟨rfl, rfl, rfl, rfl, rfl⟩ rfl rfl rfl rfl rfl (by kernel_rfl) Try.func5 (by kernel_rfl)
    (of_decide_eq_true (by kernel_rfl)) (by unfold Func.isWrapper; first | (rw [if_pos (by decide +kernel)]; kernel_rfl) | (rw [if_neg (by decide +kernel)]; exact ⟨rfl, rfl⟩))
    (fun os started H enc _ => lifted os started H enc)
end Go.Proofs.Ytcjkehmmkchapaa.poolBack
