/- A gang that is reserved and started runs from then on, for its Runtime; it is resized by one at a time; finished, it is over: the law GangStarts answers true, at every input. -/
import Derived.Test.YtbomdannlcclkaaFrame
import Derived.Test.YtbomdannlcclkaaGaArgs
set_option linter.unusedVariables false
namespace Go.Proofs.Ytbomdannlcclkaa.gangStarts
open Go Go.ChangeShapes Go.WideShapes Go.ChangeAt Go.RowKit
theorem one_pos {x : Rc} {id : Int} (h : x.id = id) : GL.pos [x] id = 0 := by
  unfold GL.pos; simp [List.findIdx_cons, h]
theorem one_ch {x : Rc} {id : Int} (h : x.id = id) (E : Rc → Int) (R : Rc → Rc) : GL.chE [x] id E = E x ∧ GL.chL [x] id E R = if E x = 0 then [R x] else [x] := by
  unfold GL.chE GL.chL
  rw [one_pos h]
  exact ⟨rfl, rfl⟩
theorem one_E {x : Rc} {id : Int} (h : x.id = id) (E : Rc → Int) : GL.chE [x] id E = E x := (one_ch h E (fun y => y)).1
theorem one_get {x : Rc} {id : Int} (h : x.id = id) : GL.getR [x] id = x ∧ GL.getE [x] id = 0 := by
  unfold GL.getR GL.getE GL.hasI
  rw [one_pos h]
  simp [h]
theorem rcO_zr : rcO GL.zr = .cells #[.int .i64 0, .int .i64 0, .int .i64 0, .int .i64 0, .int .i64 0, .int .i64 0, .int .i64 0, .int .i64 0, .int .i64 0, .int .i64 0, .int .i64 0, .int .i64 0, .int .i64 0, .int .i64 0, .int .i64 0, .int .i64 0] 42 := rfl
/-- A gang that runs, of so many members. -/
def run (j : Jb) (now n : Int) : Rc := ⟨j.id, j.q, j.p, j.r, j.g, j.c, j.mn, j.mx, 3, 0, 1, n, now, now + j.r, 0, 0⟩
def res (j : Jb) (m : Int) : Rc := ⟨j.id, j.q, j.p, j.r, j.g, j.c, j.mn, j.mx, 2, 0, 1, m, 0, 0, 3, 1⟩
def new (j : Jb) : Rc := ⟨j.id, j.q, j.p, j.r, j.g, j.c, j.mn, j.mx, 1, 0, 1, 0, 0, 0, 0, 0⟩
def fin (j : Jb) (now : Int) : Rc := ⟨j.id, j.q, j.p, j.r, j.g, j.c, j.mn, j.mx, 4, 0, 1, 0, now, now + j.r, 0, 0⟩
theorem add_new (j : Jb) : GL.addE [] j.id = 0 ∧ GL.addL [] j 0 = [new j] := by
  unfold GL.addL GL.addE GL.hasI
  exact ⟨rfl, rfl⟩
theorem res_new (j : Jb) (m : Int) (h : j.mn ≤ m ∧ m ≤ j.mx) : GL.resE (new j) m = 0 ∧ GL.resR (new j) m 3 1 = res j m := by
  have hf : GL.fitB (new j) m = true := GL.fit_iff.2 h
  unfold GL.resE GL.resR
  rw [show GL.nextE (new j).st 1 = 0 by show GL.nextE 1 1 = 0; decide, hf]
  exact ⟨rfl, rfl⟩
theorem sta_res (j : Jb) (m now : Int) (h : 0 ≤ now ∧ now ≤ 1073741824) (hr : 0 ≤ j.r ∧ j.r ≤ 1073741824) : GL.staE (res j m) now = 0 ∧ GL.staR (res j m) now = run j now m ∧ GL.staN [res j m] j.id now = now + j.r := by
  have he : GL.endT (res j m) now = now + j.r := by
    show IntKind.i64.wrap (now + j.r) = now + j.r
    exact IntWalk.i64_in _ (by omega)
  have h0 : GL.staE (res j m) now = 0 := by
    unfold GL.staE
    rw [show GL.nextE (res j m).st 2 = 0 by show GL.nextE 2 2 = 0; decide, if_neg (by simp), if_pos h]
  refine ⟨h0, ?_, ?_⟩
  · unfold GL.staR
    rw [he]
    rfl
  · unfold GL.staN
    rw [one_pos (x := res j m) (id := j.id) rfl]
    simp [h0, he]
theorem siz_run (j : Jb) (now n b : Int) (hb : b = 1 ∨ b = -1) (hn : -9223372036854775808 ≤ n + b ∧ n + b ≤ 9223372036854775807) : GL.sizE (run j now n) b = (if j.mn ≤ n + b ∧ n + b ≤ j.mx then 0 else 1) ∧ GL.sizR (run j now n) b = run j now (n + b) := by
  have hm : GL.sizM (run j now n) b = n + b := by
    show IntKind.i64.wrap (n + b) = n + b
    exact IntWalk.i64_in _ (by omega)
  constructor
  · unfold GL.sizE
    rw [if_neg (show ¬ (run j now n).st ≠ 3 by simp [run]), hm]
    have hf : GL.fitB (run j now n) (n + b) = (decide (j.mn ≤ n + b) && decide (n + b ≤ j.mx)) := rfl
    rw [hf]
    by_cases h : j.mn ≤ n + b ∧ n + b ≤ j.mx
    · rw [if_pos h, if_neg]
      rintro (e | e)
      · omega
      · simp [h.1, h.2] at e
    · rw [if_neg h, if_pos]
      refine .inr ?_
      cases hq : (decide (j.mn ≤ n + b) && decide (n + b ≤ j.mx))
      · rfl
      · simp at hq; exact absurd hq h
  · unfold GL.sizR
    rw [hm]
    rfl
theorem tur_run (j : Jb) (now n : Int) : GL.turE (run j now n) 4 = 0 ∧ GL.turR (run j now n) 4 = fin j now ∧ GL.turE (fin j now) 6 = 8 := by
  refine ⟨?_, ?_, ?_⟩
  · unfold GL.turE; rw [if_pos (by decide)]; show GL.nextE 3 4 = 0; decide
  · unfold GL.turR GL.ledR
    rw [show GL.nextS (run j now n).st 4 = 4 by show GL.nextS 3 4 = 4; decide]
    rfl
  · unfold GL.turE; rw [if_pos (by decide)]; show GL.nextE 4 6 = 8; decide
set_option maxRecDepth 100000 in
set_option maxHeartbeats 8000000 in
theorem walk (j : Jb) (m now : Int) (Au : Option Addr) (cu : Nat) (up : List Bool) (w : World) (wj : JbW j) (wm : (Lit.int .i64 m).wf = true) (wn : (Lit.int .i64 now).wf = true) (hvu : Bls w w.heap.size Au up) (hqu : ∀ a ∈ up, True) (lcu : up.length ≤ cu) (mcu : cu ≤ maxLen) :
    Calls Try.prog 8 #[jbV j, .int .i64 m, .int .i64 now, .slice Au up.length cu] w fun e w' => e = .returned (.bool true) ∧ Below w.heap.size w w' := by
  unfold maxLen at mcu
  obtain ⟨u, hu⟩ : ∃ u, u = up.length := ⟨_, rfl⟩
  have H := Lib.hid (And.intro hvu hu)
  obtain ⟨wa, hwa⟩ : ∃ wa, wa = w.alloc (.cells (jbA j) 40) := ⟨_, rfl⟩
  have hja : wa.heap[w.heap.size]? = some (.cells (jbA j) 40 (0, 0)) := by rw [hwa]; exact heap_alloc_new w _
  have hBa : Below w.heap.size w wa := by rw [hwa]; exact (Below.refl _ w).alloc (Nat.le_refl _) _
  have AW := Lib.hid (awake_any wa)
  have HJ := Lib.hid (And.intro hja hBa)
  rw [hwa] at AW HJ
  rw [← hu] at lcu ⊢
  clear hvu hqu hu hja hBa hwa wj
  simp only [jbV, jbA] at *
  go_enter Try.func8, Try.ntmps8
  go_wp2_with fail
  refine AW.out.mono ?_
  rintro e w1 ⟨rfl, hb1⟩
  have hj1 : w1.heap[w.heap.size]? = some (.cells #[.int .i64 j.id, .int .i64 j.q, .int .i64 j.p, .int .i64 j.r, .int .i64 j.g, .int .i64 j.c, .int .i64 j.mn, .int .i64 j.mx] 40 (0, 0)) := (hb1.block _ (blk_lt HJ.out.1)).trans HJ.out.1
  have HB1 := Lib.hid (And.intro hj1 (below_step HJ.out.2 hb1))
  have l1 : w.heap.size < w1.heap.size := blk_lt hj1
  have c0 : w1.cell? ⟨w.heap.size, 0, none⟩ = some (.int .i64 j.id) := cell_blk hj1 rfl
  have c3 : w1.cell? ⟨w.heap.size, 3, none⟩ = some (.int .i64 j.r) := cell_blk hj1 rfl
  have c4 : w1.cell? ⟨w.heap.size, 4, none⟩ = some (.int .i64 j.g) := cell_blk hj1 rfl
  have c5 : w1.cell? ⟨w.heap.size, 5, none⟩ = some (.int .i64 j.c) := cell_blk hj1 rfl
  have c6 : w1.cell? ⟨w.heap.size, 6, none⟩ = some (.int .i64 j.mn) := cell_blk hj1 rfl
  have c7 : w1.cell? ⟨w.heap.size, 7, none⟩ = some (.int .i64 j.mx) := cell_blk hj1 rfl
  have HBx := Lib.hid ((Below.refl w1.heap.size w1).alloc (Nat.le_refl _) (.cells #[.int .i64 j.g, .int .i64 j.c, .int .i64 j.mn, .int .i64 j.mx] 38))
  have HSx := Lib.hid (heap_alloc_new w1 (.cells #[.int .i64 j.g, .int .i64 j.c, .int .i64 j.mn, .int .i64 j.mx] 38))
  have HEnd := Lib.hid (below_step HB1.out.2 HBx.out)
  clear hj1 hb1 AW

  by_cases q0 : j.mn < 1
  · have t0 : decide (j.mn < 1) = true := decide_eq_true q0
    clear q0
    go_wp2
    go_ret
    exact ⟨by first | rfl | (simp; done), HEnd.out⟩
  have t0 : decide (j.mn < 1) = false := decide_eq_false q0
  by_cases q1 : 1000 < j.mx
  · have t1 : decide (1000 < j.mx) = true := decide_eq_true q1
    clear q1
    go_wp2
    go_ret
    exact ⟨by first | rfl | (simp; done), HEnd.out⟩
  have t1 : decide (1000 < j.mx) = false := decide_eq_false q1
  by_cases q2 : m < j.mn
  · have t2 : decide (m < j.mn) = true := decide_eq_true q2
    clear q2
    go_wp2
    go_ret
    exact ⟨by first | rfl | (simp; done), HEnd.out⟩
  have t2 : decide (m < j.mn) = false := decide_eq_false q2
  by_cases q3 : j.mx < m
  · have t3 : decide (j.mx < m) = true := decide_eq_true q3
    clear q3
    go_wp2
    go_ret
    exact ⟨by first | rfl | (simp; done), HEnd.out⟩
  have t3 : decide (j.mx < m) = false := decide_eq_false q3
  by_cases q4 : now < 0
  · have t4 : decide (now < 0) = true := decide_eq_true q4
    clear q4
    go_wp2
    go_ret
    exact ⟨by first | rfl | (simp; done), HEnd.out⟩
  have t4 : decide (now < 0) = false := decide_eq_false q4
  by_cases q5 : 1073741824 < now
  · have t5 : decide (1073741824 < now) = true := decide_eq_true q5
    clear q5
    go_wp2
    go_ret
    exact ⟨by first | rfl | (simp; done), HEnd.out⟩
  have t5 : decide (1073741824 < now) = false := decide_eq_false q5
  by_cases q6 : j.r < 0
  · have t6 : decide (j.r < 0) = true := decide_eq_true q6
    clear q6
    go_wp2
    go_ret
    exact ⟨by first | rfl | (simp; done), HEnd.out⟩
  have t6 : decide (j.r < 0) = false := decide_eq_false q6
  by_cases q7 : 1073741824 < j.r
  · have t7 : decide (1073741824 < j.r) = true := decide_eq_true q7
    clear q7
    go_wp2
    go_ret
    exact ⟨by first | rfl | (simp; done), HEnd.out⟩
  have t7 : decide (1073741824 < j.r) = false := decide_eq_false q7
  by_cases q8 : 60 < u
  · have t8 : decide (60 < (u : Int)) = true := decide_eq_true (by omega)
    clear q8
    go_wp2
    go_ret
    exact ⟨by first | rfl | (simp; done), HEnd.out⟩
  have t8 : decide (60 < (u : Int)) = false := decide_eq_false (by omega)
  have HQB : Hid (1 ≤ j.mn ∧ j.mx ≤ 1000) := Lib.hid (by omega)
  have HQ : Hid ((j.mn ≤ m ∧ m ≤ j.mx) ∧ (0 ≤ now ∧ now ≤ 1073741824) ∧ (0 ≤ j.r ∧ j.r ≤ 1073741824)) := Lib.hid (by omega)
  obtain ⟨w2, hw2⟩ : ∃ w2, w2 = w1.alloc (.cells #[.int .i64 j.g, .int .i64 j.c, .int .i64 j.mn, .int .i64 j.mx] 38) := ⟨_, rfl⟩
  have hz2 : w2.heap.size = w1.heap.size + 1 := by rw [hw2]; simp
  have HJc : Hid (∀ W, Below w2.heap.size w2 W → W.heap[w.heap.size]? = some (.cells #[.int .i64 j.id, .int .i64 j.q, .int .i64 j.p, .int .i64 j.r, .int .i64 j.g, .int .i64 j.c, .int .i64 j.mn, .int .i64 j.mx] 40 (0, 0)) ∧ W.heap[w1.heap.size]? = some (.cells #[.int .i64 j.g, .int .i64 j.c, .int .i64 j.mn, .int .i64 j.mx] 38 (0, 0)) ∧ Below w.heap.size w W) := Lib.hid (fun W hW => by
    have hB := HBx.out
    have hS := HSx.out
    rw [← hw2] at hB hS
    exact ⟨(hW.block _ (by omega)).trans ((hB.block _ l1).trans HB1.out.1), (hW.block _ (by omega)).trans hS, (below_step HB1.out.2 hB).trans (hW.mono (by have := (below_step HB1.out.2 hB).size; omega))⟩)
  have hNe := new_m (w0 := w2) (w := w2) (Below.refl _ _)
  have HW2 := Lib.hid hw2
  rw [hw2] at hNe
  clear hw2 hz2 HBx HSx HEnd HB1 q0 q1 q2 q3 q4 q5 q6 q7 q8
  go_wp2_with fail
  refine hNe.mono ?_
  rintro e w3 ⟨rfl, hm3⟩
  rw [← HW2.out] at hm3 ⊢
  clear hNe t0 t1 t2 t3 t4 t5 t6 t7 t8
  obtain ⟨p, hp⟩ : ∃ p, p = w2.heap.size := ⟨_, rfl⟩
  rw [← hp] at hm3 ⊢
  have HPE := Lib.hid hp
  have hJ3 : CellsAt w3 w.heap.size 0 (jbC j) := fun r v hr => by rw [Nat.zero_add]; exact cell_blk (HJc.out _ hm3.below).1 (by simpa [jbC] using hr)
  have HJ3 := Lib.hid hJ3
  have hAdd := add_m hm3 j 0
  rw [(add_new j).1, (add_new j).2] at hAdd
  clear hJ3 hm3 hp c0 c3 c4 c5 c6 c7
  simp only [jbV, jbA] at hAdd
  go_wp2_with (first
    | (refine wpList_load_jb rfl _ rfl w.heap.size 0 j rfl HJ3.out ?_)
    | fail)
  refine hAdd.mono ?_
  rintro e w4 ⟨rfl, hm4, _⟩
  obtain ⟨ra, hra⟩ : ∃ ra, ra = GL.addR [] j 0 := ⟨_, rfl⟩
  rw [← hra]
  have HZ4 := Lib.hid (rc_new w4 GL.zr)
  have hB4 : Below w4.heap.size w4 ((w4.alloc (rcO GL.zr)).setRow w4.heap.size (rcA ra)) := below_row ((Below.refl _ _).alloc (Nat.le_refl _) _) (Nat.le_refl _) _
  have hm5 := hm4.keep hB4
  have hRs := reserve_m hm5 j.id m 3 1
  rw [one_E (x := new j) (id := j.id) rfl _, (one_ch (x := new j) (id := j.id) rfl _ _).2, (res_new j m HQ.out.1).1, (res_new j m HQ.out.1).2, if_pos rfl] at hRs
  have e0 := cell_blk (i := 0) (u := .int .i64 j.id) (HJc.out _ hm5.below).1 rfl
  have hRs' := Lib.hid hRs
  clear hra hm4 hB4 hm5 hAdd hRs
  rw [rcO_zr] at HZ4 hRs' e0
  go_wp2_with (first
    | (refine wpList_store_rc rfl _ _ rfl w4.heap.size ra rfl rfl GL.zr HZ4.out ?_)
    | fail)
  refine hRs'.out.mono ?_
  rintro e w5 ⟨rfl, hm5, _⟩
  have hSt := start_m hm5 j.id now
  rw [(sta_res j m now HQ.out.2.1 HQ.out.2.2).2.2, one_E (x := res j m) (id := j.id) rfl _, (one_ch (x := res j m) (id := j.id) rfl _ _).2, (sta_res j m now HQ.out.2.1 HQ.out.2.2).1, (sta_res j m now HQ.out.2.1 HQ.out.2.2).2.1, if_pos rfl] at hSt
  have e5 := cell_blk (i := 0) (u := .int .i64 j.id) (HJc.out _ hm5.below).1 rfl
  clear hRs' e0 hm5 HZ4
  go_wp2_with fail
  refine hSt.mono ?_
  rintro e w6 ⟨rfl, hm6, _⟩
  have e6 := cell_blk (i := 3) (u := .int .i64 j.r) (HJc.out _ hm6.below).1 rfl
  have t9 : (now + j.r != now + j.r) = false := by simp
  have HM6 := Lib.hid hm6
  obtain ⟨en, hen⟩ : ∃ en, en = now + j.r := ⟨_, rfl⟩
  rw [← hen] at t9 ⊢
  have hwr : wrap64 (now + j.r) = en := by have := HQ.out; unfold wrap64; omega
  have HEN := Lib.hid hen
  clear hSt e5 hm6 hen
  go_wp2
  go_loopw [15, 16] (fun vn vi wr => ∃ (i : Nat) (n : Int), vn = .int .i64 n ∧ vi = .int .i64 i ∧ i ≤ u ∧ j.mn ≤ n ∧ n ≤ j.mx ∧ Hid (GaMade 68 w2 wr p [run j now n] (fun i => i < p))) (fun _ vi _ => match vi with | .int _ i => u - i.toNat | _ => 0)
  case atStart => exact ⟨0, m, rfl, rfl, by omega, HQ.out.1.1, HQ.out.1.2, HM6⟩
  case round =>
    clear HM6 e6 hwr t9
    obtain ⟨i, n, rfl, rfl, hi, hn1, hn2, hM⟩ := hrel
    have e0 := cell_blk (i := 0) (u := .int .i64 j.id) (HJc.out _ hM.out.below).1 rfl
    have f2 := cell_blk (i := 2) (u := .int .i64 j.mn) (HJc.out _ hM.out.below).2.1 rfl
    have f3 := cell_blk (i := 3) (u := .int .i64 j.mx) (HJc.out _ hM.out.below).2.1 rfl
    have hb1 := HQB.out.1
    have hb2 := HQB.out.2
    by_cases hlt : i < u
    · have t1 : decide (i < u) = true := decide_eq_true hlt
      obtain ⟨v, hv⟩ : ∃ v, up[i]? = some v := ⟨_, List.getElem?_eq_getElem (by rw [← H.out.2]; exact hlt)⟩
      obtain ⟨b, off, rfl, hb, hc⟩ := H.out.1.at_ hv
      have z0 : wr.cell? ⟨b, off + i, none⟩ = some (.bool v) := by
        have h0 := ((hc i v hv).keep hb (HJc.out _ hM.out.below).2.2) 0 _ rfl
        rwa [Nat.mul_one, Nat.add_zero] at h0
      clear hv hc
      cases v
      · have hRz := resize_m hM.out j.id (-1)
        have hs := siz_run j now n (-1) (.inr rfl) (by omega)
        rw [one_E (x := run j now n) (id := j.id) rfl _, (one_ch (x := run j now n) (id := j.id) rfl _ _).2, hs.1, hs.2] at hRz
        have hwn : wrap64 (n + -1) = n + -1 := by unfold wrap64; omega
        clear hs
        have HM0 := hM
        clear hM
        have g2 : n + -1 ≤ j.mx := by omega
        have s2 : decide (n + -1 ≤ j.mx) = true := decide_eq_true g2
        by_cases g1 : j.mn ≤ n + -1
        · have s1 : decide (j.mn ≤ n + -1) = true := decide_eq_true g1
          rw [if_pos ⟨g1, g2⟩, if_pos rfl] at hRz
          go_wp2_with fail
          refine hRz.mono ?_
          rintro e w7 ⟨rfl, hm7, _⟩
          have HM7 := Lib.hid hm7
          clear hRz hm7
          go_wp2
          go_roundw
          case rel => exact ⟨i + 1, n + -1, rfl, by go_num, by omega, g1, g2, HM7⟩
          case measure => simp; omega
        · have s1 : decide (j.mn ≤ n + -1) = false := decide_eq_false g1
          rw [if_neg (fun h => g1 h.1), if_neg (by decide)] at hRz
          go_wp2_with fail
          refine hRz.mono ?_
          rintro e w7 ⟨rfl, hm7, _⟩
          have HM7 := Lib.hid hm7
          clear hRz hm7
          go_wp2
          go_roundw
          case rel => exact ⟨i + 1, n, rfl, by go_num, by omega, hn1, hn2, HM7⟩
          case measure => simp; omega
      · have hRz := resize_m hM.out j.id 1
        have hs := siz_run j now n 1 (.inl rfl) (by omega)
        rw [one_E (x := run j now n) (id := j.id) rfl _, (one_ch (x := run j now n) (id := j.id) rfl _ _).2, hs.1, hs.2] at hRz
        have hwn : wrap64 (n + 1) = n + 1 := by unfold wrap64; omega
        clear hs
        have HM0 := hM
        clear hM
        have g1 : j.mn ≤ n + 1 := by omega
        have s1 : decide (j.mn ≤ n + 1) = true := decide_eq_true g1
        by_cases g2 : n + 1 ≤ j.mx
        · have s2 : decide (n + 1 ≤ j.mx) = true := decide_eq_true g2
          rw [if_pos ⟨g1, g2⟩, if_pos rfl] at hRz
          go_wp2_with fail
          refine hRz.mono ?_
          rintro e w7 ⟨rfl, hm7, _⟩
          have HM7 := Lib.hid hm7
          clear hRz hm7
          go_wp2
          go_roundw
          case rel => exact ⟨i + 1, n + 1, rfl, by go_num, by omega, g1, g2, HM7⟩
          case measure => simp; omega
        · have s2 : decide (n + 1 ≤ j.mx) = false := decide_eq_false g2
          rw [if_neg (fun h => g2 h.2), if_neg (by decide)] at hRz
          go_wp2_with fail
          refine hRz.mono ?_
          rintro e w7 ⟨rfl, hm7, _⟩
          have HM7 := Lib.hid hm7
          clear hRz hm7
          go_wp2
          go_roundw
          case rel => exact ⟨i + 1, n, rfl, by go_num, by omega, hn1, hn2, HM7⟩
          case measure => simp; omega
    · have t1 : decide (i < u) = false := decide_eq_false hlt
      have hGt := get_m hM.out j.id
      rw [(one_get (x := run j now n) (id := j.id) rfl).1, (one_get (x := run j now n) (id := j.id) rfl).2] at hGt
      have HM := hM
      clear hlt hM
      go_wp2_with fail
      refine hGt.mono ?_
      rintro e w7 ⟨rfl, hb7⟩
      have HZ7 := Lib.hid (rc_new w7 GL.zr)
      have hp7 : Hid (w2.heap.size ≤ w7.heap.size) := Lib.hid (Nat.le_trans HM.out.below.size hb7.size)
      obtain ⟨w8, hw8⟩ : ∃ w8, w8 = (w7.alloc (rcO GL.zr)).setRow w7.heap.size (rcA (run j now n)) := ⟨_, rfl⟩
      have hB8 : Below w7.heap.size w7 w8 := by rw [hw8]; exact below_row ((Below.refl _ _).alloc (Nat.le_refl _) _) (Nat.le_refl _) _
      have hx8 : w8.heap[w7.heap.size]? = some (rcO (run j now n)) := by rw [hw8]; exact setRow_rc (old := GL.zr) (rc_new w7 GL.zr)
      have hm8 := (HM.out.keep hb7).more hB8
      have HW8 := Lib.hid hw8
      have hTu := turn_m hm8 j.id 4
      rw [one_E (x := run j now n) (id := j.id) rfl _, (one_ch (x := run j now n) (id := j.id) rfl _ _).2, (tur_run j now n).1, (tur_run j now n).2.1, if_pos rfl] at hTu
      have HT8 := Lib.hid hTu
      have l8 : w7.heap.size < w8.heap.size := blk_lt hx8
      have e8 := Lib.hid (cell_blk (i := 0) (u := .int .i64 j.id) (HJc.out _ hm8.below).1 rfl)
      have x11 := Lib.hid (cell_blk (i := 11) (u := .int .i64 n) hx8 rfl)
      have x12 := Lib.hid (cell_blk (i := 12) (u := .int .i64 now) hx8 rfl)
      have x13 := Lib.hid (cell_blk (i := 13) (u := .int .i64 (now + j.r)) hx8 rfl)
      have x8 := Lib.hid (cell_blk (i := 8) (u := .int .i64 3) hx8 rfl)
      rw [← HEN.out] at x13
      have HX8 := Lib.hid hx8
      rw [hw8] at HT8 e8 x11 x12 x13 x8
      rw [rcO_zr] at HZ7 HT8 e8 x11 x12 x13 x8
      clear hGt hb7 hw8 hB8 hx8 hm8 hTu e0 f2 f3
      go_wp2_with (first
        | (refine wpList_store_rc rfl _ _ rfl w7.heap.size (run j now n) rfl rfl GL.zr HZ7.out ?_; have e8' := e8.out; have x11' := x11.out; have x12' := x12.out; have x13' := x13.out; have x8' := x8.out; have hx8' := HX8.out)
        | fail)
      rw [← rcO_zr, ← HW8.out] at HT8
      rw [← rcO_zr, ← HW8.out]
      refine HT8.out.mono ?_
      rintro e w9 ⟨rfl, hm9, hk9⟩
      have hx9 := (hk9 w7.heap.size (.inr ⟨Nat.le_refl _, l8⟩)).trans hx8'
      have HX9 := Lib.hid hx9
      have hGt := get_m hm9 j.id
      rw [(one_get (x := fin j now) (id := j.id) rfl).1, (one_get (x := fin j now) (id := j.id) rfl).2] at hGt
      have e9 := cell_blk (i := 0) (u := .int .i64 j.id) (HJc.out _ hm9.below).1 rfl
      have HM9 := Lib.hid hm9
      have l9 : w7.heap.size < w9.heap.size := blk_lt hx9
      clear HT8 hm9 hk9 hx9 e8 x11 x12 x13 x8 e8' x11' x12' x13' x8' hx8' HZ7
      go_wp2_with fail
      refine hGt.mono ?_
      rintro e w10 ⟨rfl, hb10⟩
      have HX10 := Lib.hid ((hb10.block _ l9).trans HX9.out)
      have l10 : w7.heap.size < w10.heap.size := blk_lt HX10.out
      obtain ⟨w11, hw11⟩ : ∃ w11, w11 = w10.setRow w7.heap.size (rcA (fin j now)) := ⟨_, rfl⟩
      have hx11 : w11.heap[w7.heap.size]? = some (rcO (fin j now)) := by rw [hw11]; exact setRow_rc (old := run j now n) HX10.out
      have hm10 := HM9.out.keep hb10
      obtain ⟨F, k1, k2, k3, k4⟩ := hm10
      have hFn : ¬ F w7.heap.size := (k4 _ (.inr ⟨Nat.le_refl _, l8⟩)).2
      have hm11 : GaMade 68 w2 w11 p [fin j now] (fun i => i < p ∧ ¬ F i) := by
        refine ⟨F, k1.of fun i hi => by rw [hw11]; exact setRow_other _ _ i _ (fun e => hFn (e ▸ hi)), ?_, k3, fun i hi => ⟨?_, hi.2⟩⟩
        · rw [hw11]; exact below_setRow k2 hp7.out _
        · have e1 : w11.heap.size = w10.heap.size := by rw [hw11]; simp
          have e2 := hp7.out
          have e3 := HPE.out
          have e4 := hi.1
          omega
      have e11 := Lib.hid (cell_blk (i := 0) (u := .int .i64 j.id) (HJc.out _ hm11.below).1 rfl)
      have y8 := Lib.hid (cell_blk (i := 8) (u := .int .i64 4) hx11 rfl)
      have y11 := Lib.hid (cell_blk (i := 11) (u := .int .i64 0) hx11 rfl)
      have hTu := turn_m hm11 j.id 6
      rw [one_E (x := fin j now) (id := j.id) rfl _, (one_ch (x := fin j now) (id := j.id) rfl _ _).2, (tur_run j now n).2.2, if_neg (by decide)] at hTu
      have HT := Lib.hid hTu
      have HO := Lib.hid (over_any 4 w11)
      have HEND : Hid (∀ W, Below w2.heap.size w2 W → Below w.heap.size w W) := Lib.hid (fun W hW => (HJc.out W hW).2.2)
      rw [hw11] at e11 y8 y11 HT HO
      clear hGt hb10 hw11 hx11 k1 k2 k3 k4 hFn hp7 hm11 hTu e9
      go_wp2_with (first
        | (refine wpList_store_rc rfl _ _ rfl w7.heap.size (fin j now) rfl rfl (run j now n) HX10.out ?_; have e11' := e11.out; have y8' := y8.out; have y11' := y11.out)
        | fail)
      refine HO.out.mono ?_
      rintro e w12 ⟨rfl, rfl⟩
      rw [show GL.overB 4 = true by decide]
      go_wp2_with fail
      refine HT.out.mono ?_
      rintro e w13 ⟨rfl, hm13, _⟩
      have HM13 := Lib.hid (HEND.out _ hm13.below)
      clear hm13 HT
      go_wp2
      go_ret
      exact ⟨by first | rfl | (simp; done), HM13.out⟩

set_option maxRecDepth 100000 in
set_option maxHeartbeats 1000000 in
theorem lifted (os : Os) (started : os.Started) (H : Type) (enc : TypeId × Value → H) :
    ReturnsInHanded {} Try.checked os 8 .any (Rows.gangStartsSpec.pre6 enc Try.prog Try.f8 Rows.gangStartsRow.domain false) (Rows.gangStartsSpec.post enc Try.prog Try.f8 false true false false) := by
  refine returnsInHanded_of_change (C := Try.checked) own started (by kernel_rfl) Try.func8
    (ChangeSpec.witness6 (enc := enc) (C := Try.checked) false ⟨#[], #[.agg #[.int .i64 0, .int .i64 0, .int .i64 0, .int .i64 0, .int .i64 0, .int .i64 0, .int .i64 0, .int .i64 0], .int .i64 0, .int .i64 0, .slice none 0 0], []⟩ 8 (by kernel_rfl) (by kernel_rfl) (by kernel_rfl) (by kernel_rfl)) ?_
  intro W base args ds gs before hval0 hW _ _
  have hval : ∀ (j : Nat) t v, Try.f8.params[j]? = some t → args[j]? = some v → Value.okWide Try.prog W .any base t v := hval0
  have hW' := hW
  obtain ⟨p, q, hA0, hV, rfl, hfz, hnd⟩ := hW
  have hA : DataW.TrodAll enc Try.prog W 0 (fun _ => true) true Try.f8.params.toList args.toList ds p := hA0
  rw [Try.params8] at hA hval
  obtain ⟨v0, vs0, d0, ds0, p0, q0, hargs, rfl, rfl, h0, r0⟩ := trodAll_cons hA
  obtain ⟨v1, vs1, d1, ds1, p1, q1, rfl, rfl, rfl, h1, r1⟩ := trodAll_cons r0
  obtain ⟨v2, vs2, d2, ds2, p2, q2, rfl, rfl, rfl, h2, r2⟩ := trodAll_cons r1
  obtain ⟨v3, vs3, d3, ds3, p3, q3, rfl, rfl, rfl, h3, r3⟩ := trodAll_cons r2
  obtain ⟨rfl, rfl, rfl⟩ := trodAll_nil r3
  obtain rfl : args = #[v0, v1, v2, v3] := by cases args; simp_all
  obtain ⟨rfl, rfl⟩ := trodVars_none hV
  have k0 := h0
  have lt0 : ∀ x ∈ p0, x.block < W.heap.size := by obtain ⟨m, hm⟩ := k0; exact DataW.trod_lt m _ _ _ hm
  obtain ⟨x0, rfl, w0⟩ := jb_of (hval 0 40 v0 rfl rfl) h0
  have k1 := h1
  have lt1 : ∀ x ∈ p1, x.block < W.heap.size := by obtain ⟨m, hm⟩ := k1; exact DataW.trod_lt m _ _ _ hm
  obtain ⟨a1, rfl, _, _, w1⟩ := open_int Try.underlying3 (hval 1 3 v1 rfl rfl) h1
  have k2 := h2
  have lt2 : ∀ x ∈ p2, x.block < W.heap.size := by obtain ⟨m, hm⟩ := k2; exact DataW.trod_lt m _ _ _ hm
  obtain ⟨a2, rfl, _, _, w2⟩ := open_int Try.underlying3 (hval 2 3 v2 rfl rfl) h2
  have k3 := h3
  have lt3 : ∀ x ∈ p3, x.block < W.heap.size := by obtain ⟨m, hm⟩ := k3; exact DataW.trod_lt m _ _ _ hm
  obtain ⟨a3, c3, l3, rfl, lc3, mc3, v3, q3⟩ := bools_of (hval 3 60 v3 rfl rfl) h3
  clear hA0 hval0
  refine (walk x0 a1 a2 a3 c3 l3 W w0 w1 w2 v3 q3 lc3 mc3).mono fun e W' ⟨he, bel⟩ => ?_
  subst he
  exact ⟨_, rfl, _, _, _, [], _, [], hW', trodAll_mk1 (shut_bool Try.underlying4 _), (trodAll_cons_mk (Below.trod laidOut (by kernel_rfl) (of_decide_eq_true (by kernel_rfl)) k0 bel lt0) (trodAll_cons_mk (Below.trod laidOut (by kernel_rfl) (of_decide_eq_true (by kernel_rfl)) k1 bel lt1) (trodAll_cons_mk (Below.trod laidOut (by kernel_rfl) (of_decide_eq_true (by kernel_rfl)) k2 bel lt2) (trodAll_cons_mk (Below.trod laidOut (by kernel_rfl) (of_decide_eq_true (by kernel_rfl)) k3 bel lt3) trodAll_mk0)))), rfl, bel.frame _, fun h => by cases h⟩

/-- THE STATEMENT. -/
theorem holds : Rows.GangStartsSaid :=
  OpenClaim.holds_of_wide 8 Try.f8 rfl rfl rfl rfl rfl rfl rfl ⟨rfl, rfl, rfl, rfl, rfl⟩ rfl rfl rfl rfl rfl (by kernel_rfl) Try.func8 (by kernel_rfl)
    (of_decide_eq_true (by kernel_rfl)) (by unfold Func.isWrapper; first | (rw [if_pos (by decide +kernel)]; kernel_rfl) | (rw [if_neg (by decide +kernel)]; exact ⟨rfl, rfl⟩))
    (fun os started H enc _ => lifted os started H enc)
end Go.Proofs.Ytbomdannlcclkaa.gangStarts
