/- Slots taken all at once leave what they leave one by one, as long as each goes; what is taken of a spot changes no other one: the law PoolOne answers true, at every input. -/
import Derived.Laws.StructEq
import Derived.Deep.QuietTactic
import Derived.BigQuiet
import Derived.Test.YtcjkehmmkchapaaPoolTwo
import Derived.Test.YtcjkehmmkchapaaTopoFrame
import Derived.Test.YtcjkehmmkchapaaTopoFrame
set_option linter.unusedVariables false
namespace Go.Proofs.Ytcjkehmmkchapaa.poolOne
open Go Go.ChangeShapes Go.WideShapes Go.ChangeAt Go.RowKit
set_option maxRecDepth 100000 in
set_option maxHeartbeats 4000000 in
theorem walk (a0 : Option Addr) (c0 : Nat) (n0 : List (List (Int × Int))) (a1 : Option Addr) (c1 : Nat) (n1 : List Ac) (a2 : Option Addr) (c2 : Nat) (n2 : List PM.Sl) (w : World) (w0 : Nodes w w.heap.size a0 n0) (lc0 : n0.length ≤ c0) (mc0 : c0 ≤ maxLen)
    (w1 : Acts w w.heap.size a1 n1) (q1 : ∀ a ∈ n1, AcOk a) (lc1 : n1.length ≤ c1) (mc1 : c1 ≤ maxLen) (w2' : Slots w w.heap.size a2 n2) (q2 : ∀ s ∈ n2, SlOk s) (lc2 : n2.length ≤ c2) (mc2 : c2 ≤ maxLen) :
    Calls Try.prog 7 #[.agg #[.slice a0 n0.length c0], .slice a1 n1.length c1, .slice a2 n2.length c2] w fun e w' => e = .returned (.bool true) ∧ Below w.heap.size w w' := by
  have hA := Lib.hid awake_any
  have k0 : (w.alloc (.cells #[.slice a0 n0.length c0] 24)).cell? ⟨w.heap.size, 0, none⟩ = some (.slice a0 n0.length c0) := by go_simp
  have hBa := (Below.refl w.heap.size w).alloc (Nat.le_refl _) (.cells #[.slice a0 n0.length c0] 24)
  have hRt := Lib.hid (fun W (hW : Below w.heap.size w W) (r : Bool) (hr : cluOk n0 = r) => right_any a0 c0 w.heap.size n0 W (Nodes.keep w0 hW (Nat.le_refl _)) hW.size r hr)
  cases hok : cluOk n0
  · have hR := Lib.hid (fun W hW => hRt.out W hW false hok)
    clear hok w0 w1 w2' hRt
    go_enter Try.func7, Try.ntmps7
    go_wp2_with (first
      | (go_at_call 9; refine (hA.out _).mono ?_; rintro e w2 ⟨rfl, hb2⟩; have hB2 := below_step hBa hb2; have k2 := (hb2.cell (p := ⟨w.heap.size, 0, none⟩) (by simp)).trans k0; have s2 := hb2.size; simp at s2)
      | (go_at_call 12; refine (hR.out _ hB2).mono ?_; rintro e w3 ⟨rfl, hb3⟩; have hB3 := below_step hB2 hb3; have k3 := (hb3.cell (p := ⟨w.heap.size, 0, none⟩) (show w.heap.size < _ by omega)).trans k2; have s3 := hb3.size))
    go_ret
    exact ⟨rfl, hB3⟩
  have hR := Lib.hid (fun W hW => hRt.out W hW true hok)
  have hF0 := fun W (hW : Below w.heap.size w W) => fewacts_any a1 c1 w.heap.size n1 W (Acts.keep w1 hW) (by omega) (fun a ha => (q1 a ha).few)
  cases hf : fewA n1
  · rw [hf] at hF0
    have hF := Lib.hid hF0
    clear hok hf w0 w1 w2' hRt hF0
    go_enter Try.func7, Try.ntmps7
    go_wp2_with (first
      | (go_at_call 9; refine (hA.out _).mono ?_; rintro e w2 ⟨rfl, hb2⟩; have hB2 := below_step hBa hb2; have k2 := (hb2.cell (p := ⟨w.heap.size, 0, none⟩) (by simp)).trans k0; have s2 := hb2.size; simp at s2)
      | (go_at_call 12; refine (hR.out _ hB2).mono ?_; rintro e w3 ⟨rfl, hb3⟩; have hB3 := below_step hB2 hb3; have k3 := (hb3.cell (p := ⟨w.heap.size, 0, none⟩) (show w.heap.size < _ by omega)).trans k2; have s3 := hb3.size)
      | (go_at_call 10; refine (hF.out _ hB3).mono ?_; rintro e w' ⟨rfl, rfl⟩))
    go_ret
    exact ⟨rfl, hB3⟩
  rw [hf] at hF0
  have hF := Lib.hid hF0
  obtain ⟨m, hm⟩ : ∃ m, n0.length = m := ⟨_, rfl⟩
  obtain ⟨N, hN1⟩ : ∃ N, n1.length = N := ⟨_, rfl⟩
  obtain ⟨M, hM1⟩ : ∃ M, n2.length = M := ⟨_, rfl⟩
  have hfl : N ≤ 60 := by
    unfold fewA at hf; simp at hf; omega
  have hN := Lib.hid (fun W (hW : Below w.heap.size w W) => poolnew_ok a0 c0 w.heap.size n0 W (Nodes.keep w0 hW (Nat.le_refl _)) hW.size hok)
  have hFs := fsOk hok
  rw [hm] at k0 hBa hR hN hFs lc0 ⊢
  rw [hN1] at hF lc1 ⊢
  rw [hM1] at lc2 ⊢
  obtain ⟨fs, hfs⟩ : ∃ fs, fs = frees n0 := ⟨_, rfl⟩
  rw [← hfs] at hN hFs
  obtain ⟨n, hn⟩ : ∃ n, fs.length = n := ⟨_, rfl⟩
  have hnpos : 0 < n := by rw [← hn]; exact hFs.pos
  have hnfew : n ≤ 1000 := by rw [← hn]; exact hFs.few
  have Q := Lib.hid (And.intro hN1 (And.intro hM1 (And.intro w1 (And.intro q1 (And.intro w2' (And.intro q2 (And.intro hFs hn)))))))
  clear hok hf w0 w1 w2' hRt hF0 hm hN1 hM1 hFs q1 q2 hfs hn
  unfold maxLen at mc2
  by_cases h40 : 40 < M
  · have t40 : decide (40 < (M : Int)) = true := by simp; omega
    go_enter Try.func7, Try.ntmps7
    go_wp2_with (first
      | (go_at_call 9; refine (hA.out _).mono ?_; rintro e w2 ⟨rfl, hb2⟩; have hB2 := below_step hBa hb2; have k2 := (hb2.cell (p := ⟨w.heap.size, 0, none⟩) (by simp)).trans k0; have s2 := hb2.size; simp at s2)
      | (go_at_call 12; refine (hR.out _ hB2).mono ?_; rintro e w3 ⟨rfl, hb3⟩; have hB3 := below_step hB2 hb3; have k3 := (hb3.cell (p := ⟨w.heap.size, 0, none⟩) (show w.heap.size < _ by omega)).trans k2; have s3 := hb3.size)
      | (go_at_call 10; refine (hF.out _ hB3).mono ?_; rintro e w' ⟨rfl, rfl⟩))
    go_ret
    exact ⟨rfl, hB3⟩
  have t40 : decide (40 < (M : Int)) = false := by simp; omega
  go_enter Try.func7, Try.ntmps7
  go_wp2_with (first
      | (go_at_call 11; ((with_reducible refine (hN.out w4 hB4).mono ?_); rintro e w5 ⟨Tb, pb, gb, db, rfl, hpb, hb5, p2, g2, d2, o2⟩); have HPb := Lib.hid hpb; have HB5 := Lib.hid hb5; clear hpb hb5)
      | (go_at_call 9; refine (hA.out _).mono ?_; rintro e w2 ⟨rfl, hb2⟩; have hB2 := below_step hBa hb2; have k2 := (hb2.cell (p := ⟨w.heap.size, 0, none⟩) (by simp)).trans k0; have s2 := hb2.size; simp at s2)
      | (go_at_call 12; refine (hR.out _ hB2).mono ?_; rintro e w3 ⟨rfl, hb3⟩; have hB3 := below_step hB2 hb3; have k3 := (hb3.cell (p := ⟨w.heap.size, 0, none⟩) (show w.heap.size < _ by omega)).trans k2; have s3 := hb3.size)
      | (go_at_call 10; refine (hF.out _ hB3).mono ?_; rintro e w' ⟨rfl, rfl⟩)
      | (go_at_call 11; refine (hN.out _ hB3).mono ?_; rintro e w4 ⟨T, p, g, dm, rfl, hp, hb4, p1, g1, d1, o1⟩; have HP := Lib.hid hp; clear hp; have hB4 := below_step hB3 hb4; have k4 := (hb4.cell (p := ⟨w.heap.size, 0, none⟩) (show w.heap.size < _ by omega)).trans k3; have s4 := hb4.size))
  have hb45 := HB5.out
  have h2 := Lib.hid (Two.made (sa := (PM.zero fs, List.replicate m false)) (sb := (PM.zero fs, List.replicate m false)) HP.out (Below.refl _ _) HPb.out hb45 p2 g2 d2 o2)
  have hB5 := below_step hB4 hb45
  have hw45 : w.heap.size ≤ w4.heap.size ∧ w4.heap.size ≤ w5.heap.size := ⟨hB4.size, hb45.size⟩
  have hpw : w.heap.size ≤ p ∧ w.heap.size ≤ g ∧ w.heap.size ≤ dm ∧ w.heap.size ≤ pb ∧ w.heap.size ≤ gb ∧ w.heap.size ≤ db := by omega
  have Z := Lib.hid (And.intro hB5 h2.out)
  clear hb45 h2 hB5 p1 g1 d1 o1 p2 g2 d2 o2 HP HPb HB5 hB4 hb4 hB3 hb3 hB2 hb2 hBa k0 k2 k3 k4 s2 s3 s4 hA hR hF hN h40
  go_loopw [11] (fun i wr => ∃ k : Nat, i = .int .i64 k ∧ k ≤ N ∧ w5.heap.size ≤ wr.heap.size ∧ Hid (Below w.heap.size w wr ∧ ∃ ga' gb' st, Two wr T p ga' dm Tb pb gb' db fs st st ∧ w.heap.size ≤ ga' ∧ w.heap.size ≤ gb')) (fun i _ => N - (intOf i).toNat)
  case atStart => exact ⟨0, rfl, by omega, Nat.le_refl _, Lib.hid ⟨Z.out.1, g, gb, _, Z.out.2, by omega, by omega⟩⟩
  case round =>
    obtain ⟨k, rfl, hk, hsz, hin⟩ := hrel
    obtain ⟨hBr, ga, gb', st, h2, hga, hgb⟩ := hin.out
    by_cases hlt : k < N
    · obtain ⟨hN1, hM1, w1, q1, _⟩ := Q.out
      obtain ⟨a, hx⟩ := get_lt (l := n1) (k := k) (by rw [hN1]; exact hlt)
      obtain ⟨b, off, rfl, hb, hc⟩ := w1.at_ hx
      obtain ⟨As, cs, y0, y1, y2, hsl⟩ := hc k a hx
      have x0 := (hBr.cell (p := ⟨b, off + k * 3, none⟩) hb).trans y0
      have x1 := (hBr.cell (p := ⟨b, off + k * 3 + 1, none⟩) hb).trans y1
      have x2 := (hBr.cell (p := ⟨b, off + k * 3 + 2, none⟩) hb).trans y2
      have haok := q1 a (List.mem_of_getElem? hx)
      have hoff : ∀ g, w.heap.size ≤ g → a.sl ≠ [] → Off As (· = g) := fun g hg hne b' off' e hb' => by
        rcases hsl with e0 | ⟨b2, o2, e2, hb2, _⟩
        · exact hne e0
        · cases e.symm.trans e2; have h9 : b' = g := hb'; omega
      have hDa := Lib.hid (do_at p ga dm fs st.1 st.2 As cs a wr h2.a haok (Slots.keep hsl hBr hBr.size) (hoff ga hga))
      have hDb := Lib.hid (fun W (hW : Below w.heap.size w W) (h : PoolAt W Tb pb gb' db fs st.1 st.2) => do_at pb gb' db fs st.1 st.2 As cs a W h haok (Slots.keep hsl hW hW.size) (hoff gb' hgb))
      have t0 : decide (k < N) = true := by simpa using hlt
      obtain ⟨R, hR⟩ : ∃ R, R = act fs (st.1, st.2) a := ⟨_, rfl⟩
      rw [← hR] at hDa hDb
      have H2 := Lib.hid h2
      have HBr := Lib.hid hBr
      obtain ⟨kind, node, sl⟩ := a
      simp only at *
      obtain ⟨sn, hsn⟩ : ∃ sn, sn = sl.length := ⟨_, rfl⟩
      rw [← hsn] at x2 y2 hDa hDb
      have HY := Lib.hid (And.intro y0 (And.intro y1 y2))
      clear hN1 hM1 w1 q1 hx hc hsl haok hoff hin hR hsn h2 hBr y0 y1 y2
      go_wp2_with (first
        | (go_at_call 14; ((with_reducible refine (hDb.out w8 HB8.out H8.out.b).mono ?_); rintro e w9 ⟨rfl, gb9, hp9, hg9, hf9⟩); have H9 := Lib.hid (H8.out.symm.step (sa' := R.2) hp9 hf9 hg9); have s9 := hf9.size; have HB9 := Lib.hid (HB8.out.trans (hf9.below HB8.out.size (by rintro i (rfl | rfl | rfl) <;> omega))); have hgb9 : w.heap.size ≤ gb9 := (by have := HB8.out.size; omega); clear hp9 hf9)
        | (go_at_call 14; ((with_reducible refine hDa.out.mono ?_); rintro e w8 ⟨rfl, ga8, hp8, hg8, hf8⟩); have H8 := Lib.hid (H2.out.step (sa' := R.2) hp8 hf8 hg8); have s8 := hf8.size; have HB8 := Lib.hid (HBr.out.trans (hf8.below HBr.out.size (by rintro i (rfl | rfl | rfl) <;> omega))); have hga8 : w.heap.size ≤ ga8 := (by have := HBr.out.size; omega); have z0 := (HB8.out.cell (p := ⟨b, off + k * 3, none⟩) hb).trans HY.out.1; have z1 := (HB8.out.cell (p := ⟨b, off + k * 3 + 1, none⟩) hb).trans HY.out.2.1; have z2 := (HB8.out.cell (p := ⟨b, off + k * 3 + 2, none⟩) hb).trans HY.out.2.2; clear hp8 hf8))
      go_roundw
      case rel => exact ⟨k + 1, by go_num, by omega, by omega, Lib.hid ⟨HB9.out, ga8, gb9, R.2, H9.out.symm, hga8, hgb9⟩⟩
      case measure => simp [intOf]; omega
    · obtain rfl : k = N := by omega
      obtain ⟨hN1, hM1, w1, q1, w2', q2, hFs, hn⟩ := Q.out
      obtain ⟨ts, dr⟩ := st
      obtain ⟨R, hR⟩ : ∃ R, R = PM.whole fs dr false n2 ts := ⟨_, rfl⟩
      have hTa := take_any p ga dm fs ts dr a2 c2 n2 wr h2.a q2 (Slots.keep w2' hBr hBr.size) (fun hne b off e => by
        rcases w2' with e0 | ⟨b2, o2, e2, hb2, _⟩
        · exact absurd e0 hne
        · cases e.symm.trans e2; intro h9; have h8 : b = ga := h9; omega) (by rw [hM1]; unfold maxLen; omega)
      rw [← hR, hM1] at hTa
      have HTa := Lib.hid hTa
      have H2 := Lib.hid h2
      have HBr := Lib.hid hBr
      have HR := Lib.hid hR
      clear hN1 hM1 w1 q1 w2' q2 hFs hn hlt hin h2 hBr hTa hR
      go_wp2_with fail
      refine HTa.out.mono ?_
      rintro e w8 ⟨rfl, ga8, hp8, hf8, hg8⟩
      have h8 := H2.out.step (sa' := (R.2, dr)) hp8 (hf8.mono (fun i hi => by rcases hi with h | h; exact .inl h; exact .inr (.inl h))) hg8
      have s8 := hf8.size
      have HB8 := Lib.hid (HBr.out.trans (hf8.below HBr.out.size (by rintro i (rfl | rfl) <;> omega)))
      have hga8 : w.heap.size ≤ ga8 := by have := HBr.out.size; omega
      have H8 := Lib.hid h8
      have hw8 : w.heap.size ≤ w8.heap.size := HB8.out.size
      clear hp8 hf8 hg8 h8
      go_wp2_with fail
      go_loopw [13] (fun i wq => ∃ j : Nat, i = .int .i64 j ∧ j ≤ M ∧ w8.heap.size ≤ wq.heap.size ∧ Hid (Below w.heap.size w wq ∧ ∃ gq tk, Two wq T p ga8 dm Tb pb gq db fs (R.2, dr) (tk, dr) ∧ w.heap.size ≤ gq ∧ PM.many fs dr false (n2.take j) ts = (0, tk))) (fun i _ => M - (intOf i).toNat)
      case atStart => exact ⟨0, rfl, by omega, Nat.le_refl _, Lib.hid ⟨HB8.out, gb', ts, H8.out, hgb, rfl⟩⟩
      case round =>
        obtain ⟨j, rfl, hj, hszq, hin⟩ := hrel
        obtain ⟨hBq, gq, tk, h2q, hgq, hmk⟩ := hin.out
        by_cases hjl : j < M
        · obtain ⟨hN1, hM1, w1, q1, w2', q2, hFs, hn⟩ := Q.out
          obtain ⟨s, hx⟩ := get_lt (l := n2) (k := j) (by rw [hM1]; exact hjl)
          obtain ⟨b, off, rfl, hb, hc⟩ := w2'.at_ hx
          have hso := q2 s (List.mem_of_getElem? hx)
          have hma := many_at hx hmk
          obtain ⟨S1, hS1⟩ : ∃ S1, S1 = PM.one fs dr false s tk := ⟨_, rfl⟩
          have hfar := fun (i : Nat) (f : Fr) (hi : fs[i]? = some f) (hne : ¬ ((f.n : Int) = s.n ∧ (f.d : Int) = s.d)) => PM.one_far (dr := dr) (give := false) h2q.b.inv hi hne
          rw [← hS1] at hma hfar
          have hFr := free_any pb gq db fs tk dr wr h2q.b
          rw [hn] at hFr
          have hOne := fun W (hW : Below wr.heap.size wr W) => take_one' pb gq db W.heap.size fs tk dr s (W.alloc (.cells #[.int .i64 s.n, .int .i64 s.d, .int .u64 (s.m : Nat), .int .i64 s.c] 59)) (h2q.b.keep (hW.alloc hW.size _)) hso (heap_alloc_new W _) (by have := h2q.b.lt; have := hW.size; omega)
          rw [← hS1] at hOne
          have HOne := Lib.hid hOne
          have J := Lib.hid (And.intro hBq (And.intro h2q (And.intro hma (And.intro hfar (And.intro hFs (And.intro hn (And.intro hx (fun W (hW : Below w.heap.size w W) => (hc j s hx).keep hb hW))))))))
          have tj : decide (j < M) = true := decide_eq_true hjl
          have hbw := hb
          have hlq := h2q.b.lt
          clear hN1 hM1 w1 q1 w2' q2 hFs hn hx hc hso hma hfar hBq h2q hmk hin hOne hS1
          go_wp2_with fail
          refine hFr.mono ?_
          rintro e v1 ⟨rfl, hr1, hb1⟩
          obtain ⟨WB, hWB⟩ : ∃ WB, WB = wr.heap.size := ⟨_, rfl⟩
          have hW1 := blk_lt hr1
          rw [← hWB] at hr1 hW1 ⊢
          have HR1 := Lib.hid (And.intro hr1 hb1)
          have s1 := hb1.size
          have hBv1 := J.out.1.trans (hb1.mono J.out.1.size)
          obtain ⟨u0, u1, u2, u3⟩ := J.out.2.2.2.2.2.2.2 v1 hBv1
          have hO1 := HOne.out v1 hb1
          have hwb : WB ≤ wr.heap.size ∧ wr.heap.size ≤ WB := by omega
          clear hFr hr1 hb1 hWB
          obtain ⟨x, y, mm, c⟩ := s
          simp only at *
          go_wp2_with fail
          refine hO1.mono ?_
          rintro e v2 ⟨rfl, gv, hpv, hfv, hgv⟩
          simp at hgv
          have s2 := hfv.size
          simp at s2
          have hft2 : Foot (fun i => i = pb ∨ i = gq) wr v2 := (Foot.of_below (HR1.out.2.alloc HR1.out.2.size _)).trans hfv (fun i hi => .inl hi)
          have h22 := J.out.2.1.symm.step (sa' := (S1.2, dr)) hpv (hft2.mono (fun i hi => by rcases hi with h | h; exact .inl h; exact .inr (.inl h))) (by omega)
          have bW2 := Lib.hid ((hfv.block WB (by simp; omega) (by omega)).trans ((Below.heap_alloc v1 _ _ hW1).trans HR1.out.1))
          have H22 := Lib.hid h22
          have hB2 := Lib.hid (J.out.1.trans (hft2.below J.out.1.size (by rintro i (rfl | rfl) <;> omega)))
          clear hpv hfv hft2 h22 hO1 u0 u1 u2 u3
          by_cases hE : S1.1 = 0
          · have te : (S1.1 != 0) = false := by rw [hE]; rfl
            have hFr2 := free_any pb gv db fs S1.2 dr v2 H22.out.a
            rw [J.out.2.2.2.2.2.1] at hFr2
            have HM := Lib.hid (J.out.2.2.1.2 hE)
            have hgvw : w.heap.size ≤ gv := by have := J.out.1.size; omega
            clear hE
            go_wp2_with fail
            refine hFr2.mono ?_
            rintro e v3 ⟨rfl, hr3, hb3⟩
            obtain ⟨NB, hNB⟩ : ∃ NB, NB = v2.heap.size := ⟨_, rfl⟩
            have hN3 := blk_lt hr3
            have bW3 := (hb3.block WB (by omega)).trans bW2.out
            have hW3 : WB < v3.heap.size := by have := hb3.size; omega
            rw [← hNB] at hr3 hN3 ⊢
            have hfa : ∀ i f, (PM.free fs tk)[i]? = some f → FrAt v3 WB (i * 4) f := fun i f hf => by
              rcases blk_frees bW3 with e | ⟨b, off, e, _, hc⟩
              · rw [e] at hf; simp at hf
              · cases e; have := hc i f hf; rwa [Nat.zero_add] at this
            have hfb : ∀ i f, (PM.free fs S1.2)[i]? = some f → FrAt v3 NB (i * 4) f := fun i f hf => by
              rcases blk_frees hr3 with e | ⟨b, off, e, _, hc⟩
              · rw [e] at hf; simp at hf
              · cases e; have := hc i f hf; rwa [Nat.zero_add] at this
            have HF := Lib.hid (And.intro hfa hfb)
            have H23 := Lib.hid (H22.out.keep hb3)
            have hB3 := Lib.hid (below_step hB2.out hb3)
            have s3 := hb3.size
            have hbv3 : b < v3.heap.size := by omega
            clear hFr2 hr3 hb3 bW3 hfa hfb hNB
            go_wp2_with fail
            go_loopw [17] (fun i wz => ∃ l : Nat, i = .int .i64 l ∧ l ≤ n ∧ Below v3.heap.size v3 wz) (fun i _ => n - (intOf i).toNat)
            case atStart => exact ⟨0, rfl, by omega, Below.refl _ _⟩
            case round =>
              obtain ⟨l, rfl, hl, hBz⟩ := hrel
              by_cases hll : l < n
              · obtain ⟨f, hf⟩ := get_lt (l := fs) (k := l) (by rw [J.out.2.2.2.2.2.1]; exact hll)
                obtain ⟨t, ht⟩ := get_lt (l := tk) (k := l) (by rw [J.out.2.1.b.inv.1]; exact (List.getElem?_eq_some_iff.1 hf).1)
                obtain ⟨t', ht'⟩ := get_lt (l := S1.2) (k := l) (by rw [H23.out.a.inv.1]; exact (List.getElem?_eq_some_iff.1 hf).1)
                obtain ⟨e0, e1, e2, e3⟩ := (HF.out.1 l _ (PM.free_at hf ht)).keep hW3 hBz
                obtain ⟨g0, g1, g2, g3⟩ := (HF.out.2 l _ (PM.free_at hf ht')).keep hN3 hBz
                obtain ⟨u0, u1, u2, u3⟩ := J.out.2.2.2.2.2.2.2 wr (hB3.out.trans (hBz.mono hB3.out.size))
                have tl : decide (l < n) = true := decide_eq_true hll
                by_cases hsp : (f.n : Int) = x ∧ (f.d : Int) = y
                · have hc1 : ∀ W : World, (binOp .neq 56 (.agg #[.int .i64 (f.n : Nat), .int .i64 (f.d : Nat)]) (.agg #[.int .i64 x, .int .i64 y])).run Try.prog W = .ok (.bool false) W := fun W => by
                    rw [spot_neq, hsp.1, hsp.2]; simp
                  simp only [PM.freeOf] at e0 e1 e2 e3 g0 g1 g2 g3
                  clear hf ht ht' hsp e0 e1 e2 e3 g2 g3 u2 u3
                  go_wp2
                  go_quiet (fail)
                  go_wp2
                  go_roundw
                  case rel => exact ⟨l + 1, by go_num, by omega, below_drewN hBz _⟩
                  case measure => simp [intOf]; omega
                · have hc1 : ∀ W : World, (binOp .neq 56 (.agg #[.int .i64 (f.n : Nat), .int .i64 (f.d : Nat)]) (.agg #[.int .i64 x, .int .i64 y])).run Try.prog W = .ok (.bool true) W := fun W => by
                    have h : (((f.n : Int) == x) && ((f.d : Int) == y)) = false := Bool.eq_false_iff.2 (fun h => hsp (by simpa using h))
                    rw [spot_neq, h]; rfl
                  have htt : t' = t := by
                    have := J.out.2.2.2.1 l f hf hsp
                    rw [ht, ht'] at this
                    exact Option.some.inj this
                  subst htt
                  simp only [PM.freeOf] at e0 e1 e2 e3 g0 g1 g2 g3
                  obtain ⟨m9, hm9⟩ : ∃ m9, m9 = MM.sub f.m t'.m := ⟨_, rfl⟩
                  obtain ⟨c9, hc9⟩ : ∃ c9, c9 = f.c - t'.c := ⟨_, rfl⟩
                  rw [← hm9] at e2 g2
                  rw [← hc9] at e3 g3
                  have hc2 : ∀ W : World, (binOp .neq 62 (.agg #[.int .i64 (f.n : Nat), .int .i64 (f.d : Nat), .int .u64 (m9 : Nat), .int .i64 (c9 : Nat)]) (.agg #[.int .i64 (f.n : Nat), .int .i64 (f.d : Nat), .int .u64 (m9 : Nat), .int .i64 (c9 : Nat)])).run Try.prog W = .ok (.bool false) W := fun W => free_neq _ _ _ _ W
                  clear hf ht ht' hsp u2 u3 hm9 hc9
                  go_wp2
                  go_quiet (fail)
                  go_wp2
                  go_roundw
                  case rel => exact ⟨l + 1, by go_num, by omega, below_drewN hBz _⟩
                  case measure => simp [intOf]; omega
              · obtain rfl : l = n := by omega
                have HBz := Lib.hid hBz
                clear hll hBz
                go_wp2
                go_roundw
                case rel => exact ⟨j + 1, by go_num, by omega, by have := HBz.out.size; omega, Lib.hid ⟨hB3.out.trans (HBz.out.mono hB3.out.size), gv, S1.2, H23.out.symm.keep HBz.out, hgvw, HM.out⟩⟩
                case measure => simp [intOf]; omega
          · have te : (S1.1 != 0) = true := by simpa using hE
            have hR1 : R.1 = S1.1 := by rw [HR.out, J.out.2.2.1.1 hE]
            have tr : (R.1 == S1.1) = true := by rw [hR1]; simp
            clear hE hR1
            go_wp2
            go_ret
            exact ⟨rfl, hB2.out⟩
        · obtain rfl : j = M := by omega
          rw [← Q.out.2.1, List.take_length] at hmk
          have eR : R = (0, tk) := by rw [HR.out]; exact PM.whole_of_many hmk
          subst eR
          have H2q := Lib.hid h2q
          have HBq := Lib.hid hBq
          have hFa := free_any p ga8 dm fs tk dr wr h2q.a
          rw [Q.out.2.2.2.2.2.2.2] at hFa
          clear hjl hin hmk h2q hBq
          go_wp2_with fail
          refine hFa.mono ?_
          rintro e v1 ⟨rfl, hr1, hb1⟩
          have hFb := free_any pb gq db fs tk dr v1 (H2q.out.b.keep hb1)
          rw [Q.out.2.2.2.2.2.2.2] at hFb
          have HR1 := Lib.hid (And.intro hr1 hb1)
          have hl1 := blk_lt hr1
          clear hFa hr1 hb1
          go_wp2_with fail
          refine hFb.mono ?_
          rintro e v2 ⟨rfl, hr2, hb2⟩
          have hS := same_any (some ⟨wr.heap.size, 0, none⟩) (some ⟨v1.heap.size, 0, none⟩) n n (PM.free fs tk) v2 (blk_frees ((hb2.block _ hl1).trans HR1.out.1)) (blk_frees hr2) (by rw [PM.free_len H2q.out.a.inv, Q.out.2.2.2.2.2.2.2]; exact hnfew)
          rw [PM.free_len H2q.out.a.inv, Q.out.2.2.2.2.2.2.2] at hS
          have HB2 := Lib.hid (below_step (below_step HBq.out HR1.out.2) hb2)
          clear hFb hr2 hb2
          go_wp2_with fail
          refine hS.mono ?_
          rintro e v3 ⟨rfl, hb3⟩
          have HB3 := Lib.hid (below_step HB2.out hb3)
          clear hS hb3
          go_wp2
          go_ret
          exact ⟨rfl, HB3.out⟩

set_option maxRecDepth 100000 in
theorem lifted (os : Os) (started : os.Started) (H : Type) (enc : TypeId × Value → H) :
    ReturnsInHanded {} Try.checked os 7 .any (Rows.poolOneSpec.pre6 enc Try.prog Try.f7 Rows.poolOneRow.domain false) (Rows.poolOneSpec.post enc Try.prog Try.f7 false true false false) := by
  refine returnsInHanded_of_change (C := Try.checked) own started (by kernel_rfl) Try.func7
    (ChangeSpec.witness6 (enc := enc) (C := Try.checked) false ⟨#[], #[.agg #[.slice none 0 0], .slice none 0 0, .slice none 0 0], []⟩ 8 (by kernel_rfl) (by kernel_rfl) (by kernel_rfl) (by kernel_rfl)) ?_
  intro W base args ds gs before hval0 hW _ _
  have hval : ∀ (j : Nat) t v, Try.f7.params[j]? = some t → args[j]? = some v → Value.okWide Try.prog W .any base t v := hval0
  have hW' := hW
  obtain ⟨p, q, hA0, hV, rfl, hfz, hnd⟩ := hW
  have hA : DataW.TrodAll enc Try.prog W 0 (fun _ => true) true Try.f7.params.toList args.toList ds p := hA0
  rw [Try.params7] at hA hval
  obtain ⟨v0, vs0, d0, ds0, p0, q0, hargs, rfl, rfl, h0, r0⟩ := trodAll_cons hA
  obtain ⟨v1, vs1, d1, ds1, p1, q1, rfl, rfl, rfl, h1, r1⟩ := trodAll_cons r0
  obtain ⟨v2, vs2, d2, ds2, p2, q2, rfl, rfl, rfl, h2, r2⟩ := trodAll_cons r1
  obtain ⟨rfl, rfl, rfl⟩ := trodAll_nil r2
  obtain rfl : args = #[v0, v1, v2] := by cases args; simp_all
  obtain ⟨rfl, rfl⟩ := trodVars_none hV
  have k0 := h0
  have lt0 : ∀ x ∈ p0, x.block < W.heap.size := by obtain ⟨m, hm⟩ := k0; exact DataW.trod_lt m _ _ _ hm
  obtain ⟨a0, c0, n0, rfl, lc0, mc0, w0⟩ := clu_of (hval 0 24 v0 rfl rfl) h0
  have k1 := h1
  have lt1 : ∀ x ∈ p1, x.block < W.heap.size := by obtain ⟨m, hm⟩ := k1; exact DataW.trod_lt m _ _ _ hm
  obtain ⟨a1, c1, n1, rfl, lc1, mc1, w1, q1⟩ := acts_of (hval 1 25 v1 rfl rfl) h1
  have k2 := h2
  have lt2 : ∀ x ∈ p2, x.block < W.heap.size := by obtain ⟨m, hm⟩ := k2; exact DataW.trod_lt m _ _ _ hm
  obtain ⟨a2, c2, n2, rfl, lc2, mc2, w2, q2⟩ := slots_of (hval 2 36 v2 rfl rfl) h2
  clear hA0 hval0
  refine (walk a0 c0 n0 a1 c1 n1 a2 c2 n2 W w0 lc0 mc0 w1 q1 lc1 mc1 w2 q2 lc2 mc2).mono fun e W' ⟨he, bel⟩ => ?_
  subst he
  exact ⟨_, rfl, _, _, _, [], _, [], hW', trodAll_mk1 (shut_bool Try.underlying4 _), (trodAll_cons_mk (Below.trod laidOut (by kernel_rfl) (of_decide_eq_true (by kernel_rfl)) k0 bel lt0) (trodAll_cons_mk (Below.trod laidOut (by kernel_rfl) (of_decide_eq_true (by kernel_rfl)) k1 bel lt1) (trodAll_cons_mk (Below.trod laidOut (by kernel_rfl) (of_decide_eq_true (by kernel_rfl)) k2 bel lt2) trodAll_mk0))), rfl, bel.frame _, fun h => by cases h⟩

/-- THE STATEMENT. -/
theorem holds : Rows.PoolOneSaid :=
  OpenClaim.holds_of_wide 7 Try.f7 rfl rfl rfl rfl rfl rfl rfl ⟨rfl, rfl, rfl, rfl, rfl⟩ rfl rfl rfl rfl rfl (by kernel_rfl) Try.func7 (by kernel_rfl)
    (of_decide_eq_true (by kernel_rfl)) (by unfold Func.isWrapper; first | (rw [if_pos (by decide +kernel)]; kernel_rfl) | (rw [if_neg (by decide +kernel)]; exact ⟨rfl, rfl⟩))
    (fun os started H enc _ => lifted os started H enc)
end Go.Proofs.Ytcjkehmmkchapaa.poolOne
