/- Whatever is added, removed and asked for: each call is told just as the document says: the law QueuePlays answers true, at every input. -/
import Derived.Test.YtdeniikaddlifaaFrame
import Derived.Test.YtdeniikaddlifaaHeldOn
import Derived.Test.YtdeniikaddlifaaOrdSame
import Derived.Test.YtdeniikaddlifaaQuRef3
import Derived.Test.YtdeniikaddlifaaQuAwake
set_option linter.unusedVariables false
namespace Go.Proofs.Ytdeniikaddlifaa.queuePlays
open Go Go.ChangeShapes Go.WideShapes Go.ChangeAt Go.RowKit
set_option maxRecDepth 100000 in
set_option maxHeartbeats 8000000 in
theorem doL_len (R : List Int) (L : List Wt) (a : Qk) : (QL.doL R L a).length ≤ L.length + 1 := by
  unfold QL.doL QL.addL QL.dropI
  split
  · split
    · simp
    · omega
  · split
    · have := List.length_filter_le (fun x : Wt => !decide (x.id = a.x.id)) L; omega
    · omega
theorem doL_inv {R : List Int} {L : List Wt} (h : QL.Inv R L) (a : Qk) : QL.Inv R (QL.doL R L a) := by
  unfold QL.doL
  split
  · exact h.add _
  · split
    · exact h.drop _
    · exact h
set_option maxRecDepth 100000 in
set_option maxHeartbeats 8000000 in
theorem walk (A : Option Addr) (c : Nat) (R : List Int) (Al : Option Addr) (cl : Nat) (l : List Qk) (kq : Int) (w : World) (hv : Nums w w.heap.size A R) (hq : ∀ a ∈ R, (Lit.int .i64 a).wf = true) (lc : R.length ≤ c) (mc : c ≤ maxLen)
    (hvl : Qks w w.heap.size Al l) (hql : ∀ a ∈ l, QkW a) (lcl : l.length ≤ cl) (mcl : cl ≤ maxLen) (wk : (Lit.int .i64 kq).wf = true) :
    Calls Try.prog 3 #[.slice A R.length c, .slice Al l.length cl, .int .i64 kq] w fun e w' => e = .returned (.bool true) ∧ Below w.heap.size w w' := by
  have AW := Lib.hid (fun W => awake_q W)
  unfold maxLen at mc mcl
  obtain ⟨n, hn⟩ : ∃ n, n = R.length := ⟨_, rfl⟩
  obtain ⟨u, hu⟩ : ∃ u, u = l.length := ⟨_, rfl⟩
  have HRi := Lib.hid (fun W (hW : Below w.heap.size w W) => right_r A c R W (hv.keep hW hW.size) (by omega))
  have HNe := Lib.hid (fun W (hW : Below w.heap.size w W) (h : R.length ≤ 1000000) => new_i A c R w W hW (hv.keep hW hW.size) h)
  have H := Lib.hid (And.intro hv (And.intro hn (And.intro hvl (And.intro hu hql))))
  rw [← hn] at HRi HNe lc ⊢
  rw [← hu] at lcl ⊢
  clear hv hn hq hvl hu hql
  go_enter Try.func3, Try.ntmps3
  go_wp2_with fail
  refine (AW.out _).mono ?_
  rintro e w1 ⟨rfl, hb1⟩
  have HB1 := Lib.hid hb1
  clear hb1 AW
  by_cases hn100 : 100 < n
  · have t0 : decide ((100 : Int) < (n : Int)) = true := decide_eq_true (by omega)
    go_wp2
    go_ret
    exact ⟨by first | rfl | (simp; done), HB1.out⟩
  have t0 : decide ((100 : Int) < (n : Int)) = false := decide_eq_false (by omega)
  by_cases hu100 : 100 < u
  · have t1 : decide ((100 : Int) < (u : Int)) = true := decide_eq_true (by omega)
    go_wp2
    go_ret
    exact ⟨by first | rfl | (simp; done), HB1.out⟩
  have t1 : decide ((100 : Int) < (u : Int)) = false := decide_eq_false (by omega)
  have hNe := HNe.out w1 HB1.out (by have := H.out.2.1; omega)
  clear HNe
  go_wp2_with fail
  refine hNe.mono ?_
  rintro e w2 (⟨hbad, rfl, hb2⟩ | ⟨hgood, p, rfl, hQ⟩)
  · have hRi := HRi.out w2 hb2
    rw [hbad] at hRi
    have HB2 := Lib.hid hb2
    clear hb2 HRi hNe hbad
    go_wp2_with fail
    refine hRi.mono ?_
    rintro e w3 ⟨rfl, hb3⟩
    have HB3 := Lib.hid (below_step HB2.out hb3)
    clear hb3 hRi
    go_wp2
    go_ret
    exact ⟨by first | rfl | (simp; done), HB3.out⟩
  have hRi := HRi.out w2 hQ.b
  rw [hgood] at hRi
  have hRt := QL.right_iff.1 hgood
  have hn8 : n ≤ 8 := by rw [H.out.2.1]; exact hRt.hi
  have HRT := Lib.hid hRt
  have HQ := Lib.hid hQ
  clear HRi hNe hgood hQ hRt
  go_wp2_with fail
  refine hRi.mono ?_
  rintro e w3 ⟨rfl, hb3⟩
  have HQ3 := Lib.hid (HQ.out.keep hb3)
  clear hb3 hRi HQ
  have HB0 : Hid (QuBoth w (w3.alloc (.cells #[.slice A n c, .slice none 0 0] 33)) p w3.heap.size A c R [] []) := Lib.hid (by
    obtain ⟨F, h1, h2⟩ := HQ3.out.ex
    have hb := (Below.refl w3.heap.size w3).alloc (Nat.le_refl _) (.cells #[.slice A n c, .slice none 0 0] 33)
    refine ⟨⟨F, none, 0, h1.keep hb, ⟨by rw [← H.out.2.1]; exact heap_alloc_new w3 _, .inl rfl, Nat.le_refl _, by unfold maxLen; omega, fun b off e => (by cases e), by simp⟩, h2, fun i hi hB => ?_, HQ3.out.b.size⟩, below_step HQ3.out.b hb⟩
    rcases hB with rfl | ⟨e, _⟩
    · have := h1.lt _ hi; omega
    · exact e rfl)
  obtain ⟨r, hr⟩ : ∃ r, r = w3.heap.size := ⟨_, rfl⟩
  have HR0 := Lib.hid hr
  have HL0 : Hid (([] : List Wt).length ≤ 0) := Lib.hid (by simp)
  clear hr HQ3
  go_wp2
  rw [← HR0.out] at HB0 ⊢
  go_loopw [10] (fun vi wr => ∃ (i : Nat) (L : List Wt), vi = .int .i64 (i : Nat) ∧ i ≤ u ∧ Hid (L.length ≤ i) ∧ Hid (QuBoth w wr p r A c R L L)) (fun vi _ => u - (intOf vi).toNat)
  case atStart => exact ⟨0, [], rfl, by omega, HL0, HB0⟩
  case round =>
    clear HB0 HL0
    obtain ⟨i, L, rfl, hiu, hLn, HQ⟩ := hrel
    by_cases hlt : i < u
    · have t2 : decide (i < u) = true := decide_eq_true hlt
      obtain ⟨a, ha⟩ := get_lt (l := l) (k := i) (by rw [← H.out.2.2.2.1]; exact hlt)
      obtain ⟨b, off, rfl, hb, hcc⟩ := H.out.2.2.1.at_ ha
      have HAc := Lib.hid (fun W (hW : Below w.heap.size w W) => (hcc i a ha).keep hb hW)
      have hca := HAc.out wr HQ.out.b
      have a0 : wr.cell? ⟨b, off + i * 11, none⟩ = some (.int .i64 a.k) := hca 0 _ rfl
      have a1 : wr.cell? ⟨b, off + i * 11 + 1, none⟩ = some (.int .i64 a.x.id) := hca 1 _ rfl
      have a2 : wr.cell? ⟨b, off + i * 11 + 2, none⟩ = some (.int .i64 a.x.q) := hca 2 _ rfl
      have a3 : wr.cell? ⟨b, off + i * 11 + 3, none⟩ = some (.int .i64 a.x.p) := hca 3 _ rfl
      have a4 : wr.cell? ⟨b, off + i * 11 + 4, none⟩ = some (.int .i64 a.x.r) := hca 4 _ rfl
      have a5 : wr.cell? ⟨b, off + i * 11 + 5, none⟩ = some (.int .i64 a.x.g) := hca 5 _ rfl
      have a6 : wr.cell? ⟨b, off + i * 11 + 6, none⟩ = some (.int .i64 a.x.c) := hca 6 _ rfl
      have a7 : wr.cell? ⟨b, off + i * 11 + 7, none⟩ = some (.int .i64 a.x.mn) := hca 7 _ rfl
      have a8 : wr.cell? ⟨b, off + i * 11 + 8, none⟩ = some (.int .i64 a.x.mx) := hca 8 _ rfl
      have a9 : wr.cell? ⟨b, off + i * 11 + 9, none⟩ = some (.int .i64 a.x.s) := hca 9 _ rfl
      have a10 : wr.cell? ⟨b, off + i * 11 + 10, none⟩ = some (.int .i64 a.x.n) := hca 10 _ rfl
      have hA := do_b p r c A R L L a w wr HQ.out
      obtain ⟨y, hy⟩ : ∃ y, y = QL.doW L a := ⟨_, rfl⟩
      obtain ⟨e1, he1⟩ : ∃ e1, e1 = QL.doE R L a := ⟨_, rfl⟩
      rw [← hy, ← he1] at hA
      have HY := Lib.hid (And.intro hy he1)
      have HI0 := Lib.hid HQ.out.inq.inv
      simp only [wtV, wtA, qkV, qkA] at hA
      clear ha hcc hca hb HQ hy he1
      go_wp2_with fail
      refine hA.mono ?_
      rintro e w4 ⟨rfl, hQ4⟩
      have hB5 := (Below.refl w4.heap.size w4).alloc (Nat.le_refl _) (.cells #[.int .i64 y.id, .int .i64 y.q, .int .i64 y.p, .int .i64 y.r, .int .i64 y.g, .int .i64 y.c, .int .i64 y.mn, .int .i64 y.mx, .int .i64 y.s, .int .i64 y.n] 39)
      have hQ5 := hQ4.keep hB5
      have hca := HAc.out _ hQ5.b
      have d0 : (w4.alloc (.cells #[.int .i64 y.id, .int .i64 y.q, .int .i64 y.p, .int .i64 y.r, .int .i64 y.g, .int .i64 y.c, .int .i64 y.mn, .int .i64 y.mx, .int .i64 y.s, .int .i64 y.n] 39)).cell? ⟨b, off + i * 11, none⟩ = some (.int .i64 a.k) := hca 0 _ rfl
      have d1 : (w4.alloc (.cells #[.int .i64 y.id, .int .i64 y.q, .int .i64 y.p, .int .i64 y.r, .int .i64 y.g, .int .i64 y.c, .int .i64 y.mn, .int .i64 y.mx, .int .i64 y.s, .int .i64 y.n] 39)).cell? ⟨b, off + i * 11 + 1, none⟩ = some (.int .i64 a.x.id) := hca 1 _ rfl
      have d2 : (w4.alloc (.cells #[.int .i64 y.id, .int .i64 y.q, .int .i64 y.p, .int .i64 y.r, .int .i64 y.g, .int .i64 y.c, .int .i64 y.mn, .int .i64 y.mx, .int .i64 y.s, .int .i64 y.n] 39)).cell? ⟨b, off + i * 11 + 2, none⟩ = some (.int .i64 a.x.q) := hca 2 _ rfl
      have d3 : (w4.alloc (.cells #[.int .i64 y.id, .int .i64 y.q, .int .i64 y.p, .int .i64 y.r, .int .i64 y.g, .int .i64 y.c, .int .i64 y.mn, .int .i64 y.mx, .int .i64 y.s, .int .i64 y.n] 39)).cell? ⟨b, off + i * 11 + 3, none⟩ = some (.int .i64 a.x.p) := hca 3 _ rfl
      have d4 : (w4.alloc (.cells #[.int .i64 y.id, .int .i64 y.q, .int .i64 y.p, .int .i64 y.r, .int .i64 y.g, .int .i64 y.c, .int .i64 y.mn, .int .i64 y.mx, .int .i64 y.s, .int .i64 y.n] 39)).cell? ⟨b, off + i * 11 + 4, none⟩ = some (.int .i64 a.x.r) := hca 4 _ rfl
      have d5 : (w4.alloc (.cells #[.int .i64 y.id, .int .i64 y.q, .int .i64 y.p, .int .i64 y.r, .int .i64 y.g, .int .i64 y.c, .int .i64 y.mn, .int .i64 y.mx, .int .i64 y.s, .int .i64 y.n] 39)).cell? ⟨b, off + i * 11 + 5, none⟩ = some (.int .i64 a.x.g) := hca 5 _ rfl
      have d6 : (w4.alloc (.cells #[.int .i64 y.id, .int .i64 y.q, .int .i64 y.p, .int .i64 y.r, .int .i64 y.g, .int .i64 y.c, .int .i64 y.mn, .int .i64 y.mx, .int .i64 y.s, .int .i64 y.n] 39)).cell? ⟨b, off + i * 11 + 6, none⟩ = some (.int .i64 a.x.c) := hca 6 _ rfl
      have d7 : (w4.alloc (.cells #[.int .i64 y.id, .int .i64 y.q, .int .i64 y.p, .int .i64 y.r, .int .i64 y.g, .int .i64 y.c, .int .i64 y.mn, .int .i64 y.mx, .int .i64 y.s, .int .i64 y.n] 39)).cell? ⟨b, off + i * 11 + 7, none⟩ = some (.int .i64 a.x.mn) := hca 7 _ rfl
      have d8 : (w4.alloc (.cells #[.int .i64 y.id, .int .i64 y.q, .int .i64 y.p, .int .i64 y.r, .int .i64 y.g, .int .i64 y.c, .int .i64 y.mn, .int .i64 y.mx, .int .i64 y.s, .int .i64 y.n] 39)).cell? ⟨b, off + i * 11 + 8, none⟩ = some (.int .i64 a.x.mx) := hca 8 _ rfl
      have d9 : (w4.alloc (.cells #[.int .i64 y.id, .int .i64 y.q, .int .i64 y.p, .int .i64 y.r, .int .i64 y.g, .int .i64 y.c, .int .i64 y.mn, .int .i64 y.mx, .int .i64 y.s, .int .i64 y.n] 39)).cell? ⟨b, off + i * 11 + 9, none⟩ = some (.int .i64 a.x.s) := hca 9 _ rfl
      have d10 : (w4.alloc (.cells #[.int .i64 y.id, .int .i64 y.q, .int .i64 y.p, .int .i64 y.r, .int .i64 y.g, .int .i64 y.c, .int .i64 y.mn, .int .i64 y.mx, .int .i64 y.s, .int .i64 y.n] 39)).cell? ⟨b, off + i * 11 + 10, none⟩ = some (.int .i64 a.x.n) := hca 10 _ rfl
      have hr4 : r < w4.heap.size := by obtain ⟨_, _, h⟩ := hQ4.ref; exact blk_lt h.obj
      have hA2 := ask_b p r c A R (QL.doL R L a) L a w _ hQ5 H.out.1 HI0.out (by have := hLn.out; omega)
      rw [← HY.out.1, ← HY.out.2] at hA2
      have HX5 := Lib.hid (heap_alloc_new w4 (.cells #[.int .i64 y.id, .int .i64 y.q, .int .i64 y.p, .int .i64 y.r, .int .i64 y.g, .int .i64 y.c, .int .i64 y.mn, .int .i64 y.mx, .int .i64 y.s, .int .i64 y.n] 39))
      simp only [wtV, wtA, qkV, qkA] at hA2
      clear hQ4 hQ5 hB5 hA hca a0 a1 a2 a3 a4 a5 a6 a7 a8 a9 a10
      go_wp2_with fail
      refine hA2.mono ?_
      rintro e w6 ⟨rfl, hQ6, hf6⟩
      have h46 : w4.heap.size < w6.heap.size := Nat.lt_of_lt_of_le (by simp) hf6.size
      have hX6 := (hf6.block w4.heap.size (by simp) (by omega)).trans HX5.out
      have hB7 := (Below.refl w6.heap.size w6).alloc (Nat.le_refl _) (.cells #[.int .i64 y.id, .int .i64 y.q, .int .i64 y.p, .int .i64 y.r, .int .i64 y.g, .int .i64 y.c, .int .i64 y.mn, .int .i64 y.mx, .int .i64 y.s, .int .i64 y.n] 39)
      have HX7 := Lib.hid ((hB7.block _ h46).trans hX6)
      have HX8 := Lib.hid (heap_alloc_new w6 (.cells #[.int .i64 y.id, .int .i64 y.q, .int .i64 y.p, .int .i64 y.r, .int .i64 y.g, .int .i64 y.c, .int .i64 y.mn, .int .i64 y.mx, .int .i64 y.s, .int .i64 y.n] 39))
      obtain ⟨L', hL'⟩ : ∃ L', L' = QL.doL R L a := ⟨_, rfl⟩
      rw [← hL'] at hQ6
      have HLn : Hid (L'.length ≤ i + 1) := Lib.hid (by rw [hL']; have := doL_len R L a; have := hLn.out; omega)
      have HI : Hid (QL.Inv R L') := Lib.hid (by rw [hL']; exact doL_inv HI0.out a)
      have HQ7 := Lib.hid (hQ6.keep hB7)
      have hne := fun W => wt_ne y W
      simp only [wtA] at hne
      have hAl := all_i p R L' w _ HQ7.out.inq
      have hmm := HQ7.out.inq.inv.all
      obtain ⟨M, hM⟩ : ∃ M, M = QL.allL R.length L' := ⟨_, rfl⟩
      rw [← hM] at hAl hmm
      obtain ⟨v, hvv⟩ : ∃ v, v = M.length := ⟨_, rfl⟩
      rw [← hvv] at hAl hmm
      have HM := Lib.hid (And.intro hM hvv)
      clear hM hvv hL' hQ6 hf6 hX6 hB7 hA2 hLn HI0 HY HX5 d0 d1 d2 d3 d4 d5 d6 d7 d8 d9 d10
      go_wp2_with (first
        | (refine wpList_load_row rfl 39 _ rfl w4.heap.size rfl 39 #[.int .i64 y.id, .int .i64 y.q, .int .i64 y.p, .int .i64 y.r, .int .i64 y.g, .int .i64 y.c, .int .i64 y.mn, .int .i64 y.mx, .int .i64 y.s, .int .i64 y.n] (0, 0) _ HX7.out Try.underlying39 rfl (by kernel_rfl) ?_)
        | (refine wpList_load_row rfl 39 _ rfl w6.heap.size rfl 39 #[.int .i64 y.id, .int .i64 y.q, .int .i64 y.p, .int .i64 y.r, .int .i64 y.g, .int .i64 y.c, .int .i64 y.mn, .int .i64 y.mx, .int .i64 y.s, .int .i64 y.n] (0, 0) _ HX8.out Try.underlying39 rfl (by kernel_rfl) ?_))
      refine hAl.mono ?_
      rintro e w8 ⟨A8, c8, rfl, _, _, hw8, hb8⟩
      have HW8 := Lib.hid hw8
      have HQ8 := Lib.hid (HQ7.out.keep hb8)
      have hAr : ∃ AL cl, RqAt w8 r A c R.length AL cl L' := HQ8.out.ref
      obtain ⟨AL, cl, hR8⟩ := hAr
      have hAr := rall_q r c cl A AL R L' w8 hR8 HI.out
      rw [← HM.out.1, ← HM.out.2] at hAr
      clear hw8 hb8 hAl HQ7 HX7 HX8 hne hR8
      go_wp2_with fail
      refine hAr.mono ?_
      rintro e w9 ⟨A9, c9, rfl, hw9, hb9⟩
      have hSame := refsame_eq A8 A9 c8 c9 M w9 (HW8.out.keep hb9 hb9.size) hw9 (by rw [← HM.out.2]; omega)
      rw [← HM.out.2] at hSame
      have HQ9 := Lib.hid (HQ8.out.keep hb9)
      clear hw9 hb9 hAr HQ8 HW8
      go_wp2_with fail
      refine hSame.mono ?_
      rintro e w10 ⟨rfl, hb10⟩
      have HQ10 := Lib.hid (HQ9.out.keep hb10)
      have hRm := room_i p R L' kq w w10 HQ10.out.inq
      obtain ⟨ro, hro⟩ : ∃ ro, ro = QL.roomQ R L' kq := ⟨_, rfl⟩
      rw [← hro] at hRm
      have HRO := Lib.hid hro
      clear hb10 hSame HQ9 hro
      go_wp2_with fail
      refine hRm.mono ?_
      rintro e w11 ⟨rfl, hb11⟩
      have HQ11 := Lib.hid (HQ10.out.keep hb11)
      obtain ⟨AL2, cl2, hR11⟩ := HQ11.out.ref
      have hRr := rroom_q r c cl2 A AL2 R L' kq w11 hR11 (H.out.1.keep HQ11.out.b HQ11.out.b.size) HRT.out
      rw [← HRO.out] at hRr
      clear hb11 hRm HQ10 hR11
      go_wp2_with fail
      refine hRr.mono ?_
      rintro e w12 ⟨rfl, hb12⟩
      have HQ12 := Lib.hid (HQ11.out.keep hb12)
      obtain ⟨AL3, cl3, hR12⟩ := HQ12.out.ref
      have hLl := len_i p R L' kq w w12 HQ12.out.inq
      have hRl := rlen_q r c R.length cl3 A AL3 L' kq w12 hR12
      clear hb12 hRr HQ11 hR12
      by_cases k0 : 0 ≤ kq
      · have s0 : decide (0 ≤ kq) = true := decide_eq_true k0
        by_cases k1 : kq < (n : Int)
        · have s1 : decide (kq < (n : Int)) = true := decide_eq_true k1
          obtain ⟨k, rfl⟩ : ∃ k : Nat, kq = k := ⟨kq.toNat, by omega⟩
          rw [cntQ_row] at hRl
          unfold QL.lenQ at hLl
          rw [QL.hasQ_iff.2 ⟨by omega, by rw [← H.out.2.1]; exact k1⟩, if_pos rfl, Int.toNat_natCast] at hLl
          obtain ⟨z, hz⟩ : ∃ z, z = (QL.rowL L' k).length := ⟨_, rfl⟩
          rw [← hz] at hLl hRl
          clear hz
          go_wp2_with (first | (go_at_call 18; (with_reducible refine hRl.mono ?_); rintro e w' ⟨rfl, rfl⟩) | (go_at_call 19; (with_reducible refine hLl.mono ?_); rintro e w' ⟨rfl, rfl⟩))
          go_roundw
          case rel => exact ⟨i + 1, L', by go_num, by omega, HLn, HQ12⟩
          case measure => simp [intOf]; omega
        · have s1 : decide (kq < (n : Int)) = false := decide_eq_false k1
          unfold QL.lenQ at hLl
          rw [show QL.hasQ R kq = false by rw [← Bool.not_eq_true, QL.hasQ_iff, ← H.out.2.1]; omega, if_neg (by simp)] at hLl
          clear hRl
          go_wp2_with (go_at_call 19; (with_reducible refine hLl.mono ?_); rintro e w' ⟨rfl, rfl⟩)
          go_roundw
          case rel => exact ⟨i + 1, L', by go_num, by omega, HLn, HQ12⟩
          case measure => simp [intOf]; omega
      · have s0 : decide (0 ≤ kq) = false := decide_eq_false k0
        unfold QL.lenQ at hLl
        rw [show QL.hasQ R kq = false by rw [← Bool.not_eq_true, QL.hasQ_iff]; omega, if_neg (by simp)] at hLl
        clear hRl
        go_wp2_with (go_at_call 19; (with_reducible refine hLl.mono ?_); rintro e w' ⟨rfl, rfl⟩)
        go_roundw
        case rel => exact ⟨i + 1, L', by go_num, by omega, HLn, HQ12⟩
        case measure => simp [intOf]; omega
    · have t2 : decide (i < u) = false := decide_eq_false hlt
      have hAl := all_i p R L w _ HQ.out.inq
      have hmm := HQ.out.inq.inv.all
      have HI := Lib.hid HQ.out.inq.inv
      obtain ⟨M, hM⟩ : ∃ M, M = QL.allL R.length L := ⟨_, rfl⟩
      rw [← hM] at hAl hmm
      obtain ⟨v, hvv⟩ : ∃ v, v = M.length := ⟨_, rfl⟩
      rw [← hvv] at hAl hmm
      have HM := Lib.hid (And.intro hM hvv)
      clear hM hvv hlt
      go_wp2_with fail
      refine hAl.mono ?_
      rintro e w8 ⟨A8, c8, rfl, _, _, hw8, hb8⟩
      have HW8 := Lib.hid hw8
      have HQ8 := Lib.hid (HQ.out.keep hb8)
      obtain ⟨AL, cl, hR8⟩ := HQ8.out.ref
      have hAr := rall_q r c cl A AL R L w8 hR8 HI.out
      rw [← HM.out.1, ← HM.out.2] at hAr
      clear hw8 hb8 hAl HQ hR8
      go_wp2_with fail
      refine hAr.mono ?_
      rintro e w9 ⟨A9, c9, rfl, hw9, hb9⟩
      have hSame := refsame_eq A8 A9 c8 c9 M w9 (HW8.out.keep hb9 hb9.size) hw9 (by rw [← HM.out.2]; omega)
      rw [← HM.out.2] at hSame
      have HQ9 := Lib.hid (HQ8.out.keep hb9)
      clear hw9 hb9 hAr HQ8 HW8
      go_wp2_with fail
      refine hSame.mono ?_
      rintro e w10 ⟨rfl, hb10⟩
      have HB10 := Lib.hid (below_step HQ9.out.b hb10)
      clear hb10 hSame HQ9
      go_wp2
      go_ret
      exact ⟨by first | rfl | (simp; done), HB10.out⟩

set_option maxRecDepth 100000 in
set_option maxHeartbeats 1000000 in
theorem lifted (os : Os) (started : os.Started) (H : Type) (enc : TypeId × Value → H) :
    ReturnsInHanded {} Try.checked os 3 .any (Rows.queuePlaysSpec.pre6 enc Try.prog Try.f3 Rows.queuePlaysRow.domain false) (Rows.queuePlaysSpec.post enc Try.prog Try.f3 false true false false) := by
  refine returnsInHanded_of_change (C := Try.checked) own started (by kernel_rfl) Try.func3
    (ChangeSpec.witness6 (enc := enc) (C := Try.checked) false ⟨#[], #[.slice none 0 0, .slice none 0 0, .int .i64 0], []⟩ 8 (by kernel_rfl) (by kernel_rfl) (by kernel_rfl) (by kernel_rfl)) ?_
  intro W base args ds gs before hval0 hW _ _
  have hval : ∀ (j : Nat) t v, Try.f3.params[j]? = some t → args[j]? = some v → Value.okWide Try.prog W .any base t v := hval0
  have hW' := hW
  obtain ⟨p, q, hA0, hV, rfl, hfz, hnd⟩ := hW
  have hA : DataW.TrodAll enc Try.prog W 0 (fun _ => true) true Try.f3.params.toList args.toList ds p := hA0
  rw [Try.params3] at hA hval
  obtain ⟨v0, vs0, d0, ds0, p0, q0, hargs, rfl, rfl, h0, r0⟩ := trodAll_cons hA
  obtain ⟨v1, vs1, d1, ds1, p1, q1, rfl, rfl, rfl, h1, r1⟩ := trodAll_cons r0
  obtain ⟨v2, vs2, d2, ds2, p2, q2, rfl, rfl, rfl, h2, r2⟩ := trodAll_cons r1
  obtain ⟨rfl, rfl, rfl⟩ := trodAll_nil r2
  obtain rfl : args = #[v0, v1, v2] := by cases args; simp_all
  obtain ⟨rfl, rfl⟩ := trodVars_none hV
  have k0 := h0
  have lt0 : ∀ x ∈ p0, x.block < W.heap.size := by obtain ⟨m, hm⟩ := k0; exact DataW.trod_lt m _ _ _ hm
  obtain ⟨a0, c0, l0, rfl, lc0, mc0, v0, q0⟩ := nums_of (hval 0 22 v0 rfl rfl) h0
  have k1 := h1
  have lt1 : ∀ x ∈ p1, x.block < W.heap.size := by obtain ⟨m, hm⟩ := k1; exact DataW.trod_lt m _ _ _ hm
  obtain ⟨a1, c1, l1, rfl, lc1, mc1, v1, q1⟩ := qks_of (hval 1 23 v1 rfl rfl) h1
  have k2 := h2
  have lt2 : ∀ x ∈ p2, x.block < W.heap.size := by obtain ⟨m, hm⟩ := k2; exact DataW.trod_lt m _ _ _ hm
  obtain ⟨a2, rfl, _, _, w2⟩ := open_int Try.underlying3 (hval 2 3 v2 rfl rfl) h2
  clear hA0 hval0
  refine (walk a0 c0 l0 a1 c1 l1 a2 W v0 q0 lc0 mc0 v1 q1 lc1 mc1 w2).mono fun e W' ⟨he, bel⟩ => ?_
  subst he
  exact ⟨_, rfl, _, _, _, [], _, [], hW', trodAll_mk1 (shut_bool Try.underlying4 _), (trodAll_cons_mk (Below.trod laidOut (by kernel_rfl) (of_decide_eq_true (by kernel_rfl)) k0 bel lt0) (trodAll_cons_mk (Below.trod laidOut (by kernel_rfl) (of_decide_eq_true (by kernel_rfl)) k1 bel lt1) (trodAll_cons_mk (Below.trod laidOut (by kernel_rfl) (of_decide_eq_true (by kernel_rfl)) k2 bel lt2) trodAll_mk0))), rfl, bel.frame _, fun h => by cases h⟩

/-- THE STATEMENT. -/
theorem holds : Rows.QueuePlaysSaid :=
  OpenClaim.holds_of_wide 3 Try.f3 rfl rfl rfl rfl rfl rfl rfl ⟨rfl, rfl, rfl, rfl, rfl⟩ rfl rfl rfl rfl rfl (by kernel_rfl) Try.func3 (by kernel_rfl)
    (of_decide_eq_true (by kernel_rfl)) (by unfold Func.isWrapper; first | (rw [if_pos (by decide +kernel)]; kernel_rfl) | (rw [if_neg (by decide +kernel)]; exact ⟨rfl, rfl⟩))
    (fun os started H enc _ => lifted os started H enc)
end Go.Proofs.Ytdeniikaddlifaa.queuePlays
