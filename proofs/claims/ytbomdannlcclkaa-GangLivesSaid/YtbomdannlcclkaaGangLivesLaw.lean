/- A gang's states follow each other as the table says; one that is over never changes; Members are from Min to Max just while it is Reserved or Running, else 0; numbers rise: the law GangLives answers true, at every input. -/
import Derived.Test.YtbomdannlcclkaaFrame
import Derived.Test.YtbomdannlcclkaaHeldOn
import Derived.Test.YtbomdannlcclkaaGaSame
import Derived.Test.YtbomdannlcclkaaGaArgs
set_option linter.unusedVariables false
namespace Go.Proofs.Ytbomdannlcclkaa.gangLives
open Go Go.ChangeShapes Go.WideShapes Go.ChangeAt Go.RowKit
theorem rcO_zr : rcO GL.zr = .cells #[.int .i64 0, .int .i64 0, .int .i64 0, .int .i64 0, .int .i64 0, .int .i64 0, .int .i64 0, .int .i64 0, .int .i64 0, .int .i64 0, .int .i64 0, .int .i64 0, .int .i64 0, .int .i64 0, .int .i64 0, .int .i64 0] 42 := rfl
theorem jb_ne (j : Jb) (W : World) : (binOp .neq 40 (.agg #[.int .i64 j.id, .int .i64 j.q, .int .i64 j.p, .int .i64 j.r, .int .i64 j.g, .int .i64 j.c, .int .i64 j.mn, .int .i64 j.mx]) (.agg #[.int .i64 j.id, .int .i64 j.q, .int .i64 j.p, .int .i64 j.r, .int .i64 j.g, .int .i64 j.c, .int .i64 j.mn, .int .i64 j.mx])).run Try.prog W = .ok (.bool false) W := by
  go_simp
theorem rc_job {w : World} {b o : Nat} {x : Rc} (h : RcAt w b o x) : CellsAt w b o (jbC x.job) := fun r v hr => by
  refine h r v ?_
  have hl := (List.getElem?_eq_some_iff.1 hr).1
  simp [jbC] at hl
  obtain rfl | rfl | rfl | rfl | rfl | rfl | rfl | rfl : r = 0 ∨ r = 1 ∨ r = 2 ∨ r = 3 ∨ r = 4 ∨ r = 5 ∨ r = 6 ∨ r = 7 := by omega
  all_goals exact hr
theorem ga_job {w : World} {b o : Nat} {a : Ga} (h : CellsAt w b o (gaC a)) : CellsAt w b (o + 4) (jbC a.j) := fun r v hr => by
  have hl := (List.getElem?_eq_some_iff.1 hr).1
  simp [jbC] at hl
  have := h (4 + r) v (by
    obtain rfl | rfl | rfl | rfl | rfl | rfl | rfl | rfl : r = 0 ∨ r = 1 ∨ r = 2 ∨ r = 3 ∨ r = 4 ∨ r = 5 ∨ r = 6 ∨ r = 7 := by omega
    all_goals exact hr)
  rwa [show o + (4 + r) = o + 4 + r by omega] at this
theorem sub_i64 {a b : Int} (h : -9223372036854775808 ≤ a - b) (h2 : a - b ≤ 9223372036854775807) : IntKind.i64.wrap (a - b) = a - b := IntWalk.i64_in _ (by omega)
set_option maxRecDepth 100000 in
set_option maxHeartbeats 8000000 in
theorem walk (Aq : Option Addr) (cq : Nat) (l : List Ga) (w : World) (hvl : Gas w w.heap.size Aq l) (hql : ∀ a ∈ l, GaW a) (lcl : l.length ≤ cq) (mcl : cq ≤ maxLen) :
    Calls Try.prog 5 #[.slice Aq l.length cq] w fun e w' => e = .returned (.bool true) ∧ Below w.heap.size w w' := by
  have AW := Lib.hid (awake_any w)
  unfold maxLen at mcl
  obtain ⟨u, hu⟩ : ∃ u, u = l.length := ⟨_, rfl⟩
  have H := Lib.hid (And.intro hvl hu)
  rw [← hu] at lcl ⊢
  clear hvl hql hu
  go_enter Try.func5, Try.ntmps5
  go_wp2_with fail
  refine AW.out.mono ?_
  rintro e w1 ⟨rfl, hb1⟩
  have HB1 := Lib.hid hb1
  clear hb1 AW
  by_cases h100 : 100 < u
  · have t0 : decide (100 < (u : Int)) = true := decide_eq_true (by omega)
    clear h100
    go_wp2
    go_ret
    exact ⟨by first | rfl | (simp; done), HB1.out⟩
  have t0 : decide (100 < (u : Int)) = false := decide_eq_false (by omega)
  have hNe := new_m HB1.out
  go_wp2_with fail
  refine hNe.mono ?_
  rintro e w2 ⟨rfl, hm2⟩
  obtain ⟨p, hp⟩ : ∃ p, p = w1.heap.size := ⟨_, rfl⟩
  rw [← hp] at hm2 ⊢
  have HM2 := Lib.hid hm2
  clear hm2 hNe hp t0
  go_wp2
  go_loopw [4] (fun vi wr => ∃ i : Nat, vi = .int .i64 i ∧ i ≤ u ∧ Hid (∃ L, GL.Inv L ∧ L.length ≤ i ∧ GaMade 68 w wr p L (fun _ => False))) (fun vi _ => match vi with | .int _ i => u - i.toNat | _ => 0)
  case atStart => exact ⟨0, rfl, by omega, Lib.hid ⟨[], GL.Inv.nil, Nat.le_refl _, HM2.out.less (fun _ h => h.elim)⟩⟩
  case round =>
    clear HM2
    obtain ⟨i, rfl, hi, hM⟩ := hrel
    by_cases hlt : i < u
    · obtain ⟨L, hI, hL, hm⟩ := hM.out
      obtain ⟨a, ha⟩ : ∃ a, l[i]? = some a := ⟨_, List.getElem?_eq_getElem (by rw [← H.out.2]; exact hlt)⟩
      obtain ⟨b, off, rfl, hb, hc⟩ := H.out.1.at_ ha
      have t1 : decide (i < u) = true := decide_eq_true hlt
      have hll : L.length ≤ 100 := by omega
      have HX := Lib.hid (And.intro (hc i a ha) hb)
      have HI := Lib.hid (And.intro hI hL)
      have HM := Lib.hid hm
      obtain ⟨n, hn⟩ : ∃ n, n = L.length := ⟨_, rfl⟩
      have HN := Lib.hid hn
      have hA1 := all_m hm
      rw [← hn] at hA1 hll
      clear hM hm ha hc hb hI hL hn
      go_wp2_with fail
      refine hA1.mono ?_
      rintro e w3 ⟨A1, c1, rfl, k1, k2, hE1, hA1', hb3⟩
      have hm3 := HM.out.more hb3
      have HE1 := Lib.hid (And.intro hE1 hA1')
      have HXa := Lib.hid (HX.out.1.keep HX.out.2 hm3.below)
      have HM3 := Lib.hid hm3
      have hDo := do_m hm3 a
      have Hb3 := Lib.hid hb3
      clear hE1 hA1' hm3 hA1 hb3
      go_wp2_with (first
        | (refine wpList_load_ga rfl _ rfl b (off + i * 12) a rfl HXa.out ?_)
        | fail)
      refine hDo.mono ?_
      rintro e w4 ⟨rfl, hm4, hk4⟩
      have hat := GL.act_at L a
      have HAT := Lib.hid hat
      have hE1' : Els rcC 16 w4 w3.heap.size A1 L := HE1.out.1.off fun b off e _ => hk4 b (.inr ⟨(HE1.out.2 b off e).1, (HE1.out.2 b off e).2.1⟩)
      have HE4 := Lib.hid (And.intro hE1' (GaMade.below hm4).size)
      have hs34 : Hid (∀ b off, A1 = some ⟨b, off, none⟩ → b < w4.heap.size) := Lib.hid (fun b off e => by
        obtain ⟨F, h1, h2, h3, h4⟩ := hm4
        exact (h4 b (.inr ⟨(HE1.out.2 b off e).1, (HE1.out.2 b off e).2.1⟩)).1)
      have HM4 := Lib.hid (hm4.less (S' := fun _ => False) (fun _ h => h.elim))
      obtain ⟨n2, hn2⟩ : ∃ n2, n2 = (GL.actL L a).length := ⟨_, rfl⟩
      have hn12 : n ≤ n2 := by rw [hn2, HN.out]; exact hat.1
      have hn22 : n2 ≤ 101 := by rw [hn2]; have := hat.2.1; rw [← HN.out] at this; omega
      have HN2 := Lib.hid hn2
      have hA2 := all_m hm4
      rw [← hn2] at hA2
      clear hm4 hk4 hat hE1' hn2 hDo HXa
      go_wp2_with fail
      refine hA2.mono ?_
      rintro e w5 ⟨A2, c2, rfl, j1, j2, hE2, hA2', hb5⟩
      have HM5 := Lib.hid (HM4.out.keep hb5)
      have HE2 := Lib.hid (And.intro hE2 hA2')
      have HE5 : Hid (∀ k x, L[k]? = some x → ∃ b1, A1 = some ⟨b1, 0, none⟩ ∧ b1 < w5.heap.size ∧ RcAt w5 b1 (k * 16) x) := Lib.hid (fun k x hx => by
        obtain ⟨b1, e1, l1, r1⟩ := rcs_get HE4.out.1 (fun b off e => (HE1.out.2 b off e).2.2) hx
        exact ⟨b1, e1, Nat.lt_of_lt_of_le (hs34.out b1 0 e1) hb5.size, r1.keep (hs34.out b1 0 e1) hb5⟩)
      have HB0 := Lib.hid (Below.refl w5.heap.size w5)
      have t2 : decide (n2 < n) = false := decide_eq_false (by omega)
      have hn21 : n2 ≤ n + 1 := by rw [HN2.out, HN.out]; exact HAT.out.2.1
      have tw : wrap64 ((n : Int) + 1) = (n : Int) + 1 := by unfold wrap64; omega
      have t2b : decide ((n : Int) + 1 < (n2 : Int)) = false := decide_eq_false (by omega)
      have HIa := Lib.hid (HI.out.1.act a)
      clear hE2 hA2' hb5 hA2 HE4 hs34 HM3 HM4
      go_wp2
      go_loopw [7] (fun vk wx => ∃ k : Nat, vk = .int .i64 k ∧ k ≤ n2 ∧ Hid (Below w5.heap.size w5 wx)) (fun vk _ => match vk with | .int _ i => n2 - i.toNat | _ => 0)
      case atStart => exact ⟨0, rfl, by omega, HB0⟩
      case round =>
        clear HB0 tw t2 t2b
        obtain ⟨k, rfl, hk, hB⟩ := hrel
        by_cases hkn2 : k < n2
        · have t3 : decide (k < n2) = true := decide_eq_true hkn2
          obtain ⟨y, hy⟩ : ∃ y, (GL.actL L a)[k]? = some y := ⟨_, List.getElem?_eq_getElem (by rw [← HN2.out]; exact hkn2)⟩
          obtain ⟨b2, e2, lb2', r2'⟩ := rcs_get HE2.out.1 (fun b off e => (HE2.out.2 b off e).2.2) hy
          have HR2 := Lib.hid (r2'.keep lb2' hB.out)
          have HZ := Lib.hid (rc_new wr GL.zr)
          obtain ⟨v8, hv8⟩ : ∃ v8, v8 = (wr.alloc (rcO GL.zr)).setRow wr.heap.size (rcA y) := ⟨_, rfl⟩
          have hB8 : Below wr.heap.size wr v8 := by rw [hv8]; exact below_row ((Below.refl _ _).alloc (Nat.le_refl _) _) (Nat.le_refl _) _
          have hx8 : v8.heap[wr.heap.size]? = some (rcO y) := by rw [hv8]; exact setRow_rc (old := GL.zr) (rc_new wr GL.zr)
          have HV8 := Lib.hid hv8
          have HB8 := Lib.hid (hB.out.trans (hB8.mono hB.out.size))
          have HX8 := Lib.hid hx8
          have Hw5 := Lib.hid (Nat.lt_of_lt_of_le HX.out.2 HM5.out.below.size)
          have HCa := Lib.hid (HX.out.1.keep HX.out.2 (HM5.out.below.trans (HB8.out.mono HM5.out.below.size)))
          have hnu := HIa.out.nu k y hy
          have hok := HIa.out.ok y (List.mem_of_getElem? hy)
          have HOK := Lib.hid hok
          have HY := Lib.hid hy
          have y8 : v8.cell? ⟨wr.heap.size, 8, none⟩ = some (.int .i64 y.st) := cell_blk hx8 rfl
          have y10 : v8.cell? ⟨wr.heap.size, 10, none⟩ = some (.int .i64 y.nu) := cell_blk hx8 rfl
          have y11 : v8.cell? ⟨wr.heap.size, 11, none⟩ = some (.int .i64 y.me) := cell_blk hx8 rfl
          have y14 : v8.cell? ⟨wr.heap.size, 14, none⟩ = some (.int .i64 y.li) := cell_blk hx8 rfl
          have y15 : v8.cell? ⟨wr.heap.size, 15, none⟩ = some (.int .i64 y.wo) := cell_blk hx8 rfl
          have y6 : v8.cell? ⟨wr.heap.size, 6, none⟩ = some (.int .i64 y.mn) := cell_blk hx8 rfl
          have y7 : v8.cell? ⟨wr.heap.size, 7, none⟩ = some (.int .i64 y.mx) := cell_blk hx8 rfl
          have y0 : v8.cell? ⟨wr.heap.size, 0, none⟩ = some (.int .i64 y.id) := cell_blk hx8 rfl
          have Y := Lib.hid (And.intro y8 (And.intro y10 (And.intro y11 (And.intro y14 (And.intro y15 (And.intro y6 (And.intro y7 y0)))))))
          have lB8 : wr.heap.size < v8.heap.size := blk_lt hx8
          have wk : wrap64 ((k : Int) + 1) = (k : Int) + 1 := by unfold wrap64; omega
          have tn : (y.nu != (k : Int) + 1) = false := by simp [hnu]
          rw [rcO_zr] at HZ
          have ST := Lib.hid (show y.st = 2 ∨ y.st = 3 ∨ (y.st ≠ 2 ∧ y.st ≠ 3) by omega)
          subst e2
          clear hB8 hx8 hv8 hy y8 y10 y11 y14 y15 y6 y7 y0 r2' hnu
          rcases ST.out with h2 | h3 | ⟨h2, h3⟩
          · as_aux_lemma =>
            have p1 : (y.st == 2) = true := by simp [h2]
            have hh := hok.held (.inl h2)
            have m1 : decide (y.me < y.mn) = false := decide_eq_false (by omega)
            have m2 : decide (y.mx < y.me) = false := decide_eq_false (by omega)
            clear h2 hh hok
            by_cases hkn : k < n
            · have t4 : decide (n ≤ k) = false := decide_eq_false (Nat.not_le.2 hkn)
              obtain ⟨x, hx⟩ : ∃ x, L[k]? = some x := ⟨_, List.getElem?_eq_getElem (by rw [← HN.out]; exact hkn)⟩
              obtain ⟨b1, e1, lb1', r1'⟩ := HE5.out k x hx
              have hxy := HAT.out.2.2.1 k x y hx HY.out
              have hjob : y.job = x.job := by
                rcases hxy with e | e
                · rw [e]
                · exact e.2.job
              have rx : RcAt v8 b1 (k * 16) x := r1'.keep lb1' HB8.out
              have lb1 : b1 < v8.heap.size := Nat.lt_of_lt_of_le lb1' HB8.out.size
              have jx := rc_job rx
              have s1 : v8.cell? ⟨b1, k * 16 + 8, none⟩ = some (.int .i64 x.st) := rx 8 _ rfl
              have jy : CellsAt v8 wr.heap.size 0 (jbC x.job) := by rw [← hjob]; exact rc_job (rcAt_of HX8.out)
              have HXY := Lib.hid hxy
              have hjn := fun W => jb_ne x.job W
              have HF := Lib.hid (And.intro rx (And.intro jx (And.intro s1 jy)))
              subst e1
              clear hx r1' hxy hjob rx jx s1 jy hjn
              have HNum := Lib.hid (And.intro hk (And.intro hkn (And.intro hn12 (And.intro hn21 (And.intro hn22 lB8)))))
              clear hk hkn hn12 hn21 hn22 lB8
              obtain ⟨y8, y10, y11, y14, y15, y6, y7, y0⟩ := Y.out
              go_wp2_with (first
                | (have hr2 := HR2.out; refine wpList_load_rc rfl _ rfl b2 (k * 16) y rfl hr2 ?_; clear hr2 HR2)
                | (have hz2 := HZ.out; refine wpList_store_rc rfl _ _ rfl wr.heap.size y rfl rfl GL.zr hz2 ?_; rw [← rcO_zr, ← HV8.out]; clear hz2 HZ)
                | fail)
              clear y8 y10 y11 y14 y15 y6 y7 y0 t3 t4 tn wk p1 m1 m2
              obtain ⟨hk, hkn, hn12, hn21, hn22, lB8⟩ := HNum.out
              clear HNum
              obtain ⟨rx, jx, s1, jy⟩ := HF.out
              have hjn := fun W => jb_ne x.job W
              cases ho : GL.overB x.st
              · as_aux_lemma =>
                have HOv : Hid (∀ W, Calls Try.prog 12 #[.int .i64 x.st] W fun e w' => e = .returned (.bool false) ∧ W = w') := Lib.hid (fun W => by rw [← ho]; exact over_any x.st W)
                clear ho
                refine held_begin (fun w' : World => CellsAt w' wr.heap.size 0 (jbC x.job) ∧ CellsAt w' b1 (k * 16) (jbC x.job) ∧ w'.cell? ⟨b1, k * 16 + 8, none⟩ = some (.int .i64 x.st)) (by kernel_rfl) ?_
                have hBh0 : Below v8.heap.size v8 v8.drew := (Below.refl _ _).drew
                have hSh0 : (fun w' : World => CellsAt w' wr.heap.size 0 (jbC x.job) ∧ CellsAt w' b1 (k * 16) (jbC x.job) ∧ w'.cell? ⟨b1, k * 16 + 8, none⟩ = some (.int .i64 x.st)) v8.drew := ⟨jy, jx, s1⟩
                refine held_take (v := ?_) 0 131 rfl rfl (by kernel_rfl) (by kernel_rfl) (by kernel_rfl) (fun _ _ _ h => h) ⟨by rfl, ?_⟩ hSh0 ?_
                rotate_left
                · intro w' hw'; obtain ⟨x0, x1, x2⟩ := hw'; go_simp; (try with_reducible rfl)
                simp only [Act.put, List.setIfInBounds_toArray, List.set_cons_zero, List.set_cons_succ]
                refine held_take (v := ?_) 1 132 rfl rfl (by kernel_rfl) (by kernel_rfl) (by kernel_rfl) (fun _ _ _ h => h) ⟨by rfl, ?_⟩ hSh0 ?_
                rotate_left
                · intro w' hw'; obtain ⟨x0, x1, x2⟩ := hw'; refine Eq.trans (run_load_jb (by rfl) (by rfl) x0) ?_; (with_reducible rfl)
                simp only [Act.put, List.setIfInBounds_toArray, List.set_cons_zero, List.set_cons_succ]
                refine held_take (v := ?_) 2 133 rfl rfl (by kernel_rfl) (by kernel_rfl) (by kernel_rfl) (fun _ _ _ h => h) ⟨by rfl, ?_⟩ hSh0 ?_
                rotate_left
                · intro w' hw'; obtain ⟨x0, x1, x2⟩ := hw'; go_simp; (try with_reducible rfl)
                simp only [Act.put, List.setIfInBounds_toArray, List.set_cons_zero, List.set_cons_succ]
                refine held_take (v := ?_) 3 134 rfl rfl (by kernel_rfl) (by kernel_rfl) (by kernel_rfl) (fun _ _ _ h => h) ⟨by rfl, ?_⟩ hSh0 ?_
                rotate_left
                · intro w' hw'; obtain ⟨x0, x1, x2⟩ := hw'; go_simp; (try with_reducible rfl)
                simp only [Act.put, List.setIfInBounds_toArray, List.set_cons_zero, List.set_cons_succ]
                refine held_take (v := ?_) 4 135 rfl rfl (by kernel_rfl) (by kernel_rfl) (by kernel_rfl) (fun _ _ _ h => h) ⟨by rfl, ?_⟩ hSh0 ?_
                rotate_left
                · intro w' hw'; obtain ⟨x0, x1, x2⟩ := hw'; go_simp; (try with_reducible rfl)
                simp only [Act.put, List.setIfInBounds_toArray, List.set_cons_zero, List.set_cons_succ]
                refine held_take (v := ?_) 5 136 rfl rfl (by kernel_rfl) (by kernel_rfl) (by kernel_rfl) (fun _ _ _ h => h) ⟨by rfl, ?_⟩ hSh0 ?_
                rotate_left
                · intro w' hw'; obtain ⟨x0, x1, x2⟩ := hw'; go_simp; (try with_reducible rfl)
                simp only [Act.put, List.setIfInBounds_toArray, List.set_cons_zero, List.set_cons_succ]
                refine held_take (v := ?_) 6 137 rfl rfl (by kernel_rfl) (by kernel_rfl) (by kernel_rfl) (fun _ _ _ h => h) ⟨by rfl, ?_⟩ hSh0 ?_
                rotate_left
                · intro w' hw'; obtain ⟨x0, x1, x2⟩ := hw'; refine Eq.trans (run_load_jb (by rfl) (by rfl) x1) ?_; (with_reducible rfl)
                simp only [Act.put, List.setIfInBounds_toArray, List.set_cons_zero, List.set_cons_succ]
                refine held_take (v := ?_) 7 138 rfl rfl (by kernel_rfl) (by kernel_rfl) (by kernel_rfl) (fun _ _ _ h => h) ⟨by rfl, ?_⟩ hSh0 ?_
                rotate_left
                · intro w' hw'; obtain ⟨x0, x1, x2⟩ := hw'; go_simp; (try with_reducible rfl)
                simp only [Act.put, List.setIfInBounds_toArray, List.set_cons_zero, List.set_cons_succ]
                refine held_take (v := ?_) 8 139 rfl rfl (by kernel_rfl) (by kernel_rfl) (by kernel_rfl) (fun _ _ _ h => h) ⟨by rfl, ?_⟩ hSh0 ?_
                rotate_left
                · intro w' hw'; obtain ⟨x0, x1, x2⟩ := hw'; go_simp; (try with_reducible rfl)
                simp only [Act.put, List.setIfInBounds_toArray, List.set_cons_zero, List.set_cons_succ]
                refine held_take (v := ?_) 9 140 rfl rfl (by kernel_rfl) (by kernel_rfl) (by kernel_rfl) (fun _ _ _ h => h) ⟨by rfl, ?_⟩ hSh0 ?_
                rotate_left
                · intro w' hw'; obtain ⟨x0, x1, x2⟩ := hw'; go_simp; (try with_reducible rfl)
                simp only [Act.put, List.setIfInBounds_toArray, List.set_cons_zero, List.set_cons_succ]
                refine held_take (v := ?_) 10 141 rfl rfl (by kernel_rfl) (by kernel_rfl) (by kernel_rfl) (fun _ _ _ h => h) ⟨by rfl, ?_⟩ hSh0 ?_
                rotate_left
                · intro w' hw'; obtain ⟨x0, x1, x2⟩ := hw'; go_simp; (try with_reducible rfl)
                simp only [Act.put, List.setIfInBounds_toArray, List.set_cons_zero, List.set_cons_succ]
                refine held_take (v := ?_) 11 142 rfl rfl (by kernel_rfl) (by kernel_rfl) (by kernel_rfl) (fun _ _ _ h => h) ⟨by rfl, ?_⟩ hSh0 ?_
                rotate_left
                · intro w' hw'; obtain ⟨x0, x1, x2⟩ := hw'; go_simp; (try with_reducible rfl)
                simp only [Act.put, List.setIfInBounds_toArray, List.set_cons_zero, List.set_cons_succ]
                refine held_take (v := ?_) 12 143 rfl rfl (by kernel_rfl) (by kernel_rfl) (by kernel_rfl) (fun _ _ _ h => h) ⟨by rfl, ?_⟩ hSh0 ?_
                rotate_left
                · intro w' hw'; obtain ⟨x0, x1, x2⟩ := hw'; go_simp; (try with_reducible rfl)
                simp only [Act.put, List.setIfInBounds_toArray, List.set_cons_zero, List.set_cons_succ]
                refine held_take (v := ?_) 13 144 rfl rfl (by kernel_rfl) (by kernel_rfl) (by kernel_rfl) (fun _ _ _ h => h) ⟨by rfl, ?_⟩ hSh0 ?_
                rotate_left
                · intro w' hw'; obtain ⟨x0, x1, x2⟩ := hw'; go_simp; (try with_reducible rfl)
                simp only [Act.put, List.setIfInBounds_toArray, List.set_cons_zero, List.set_cons_succ]
                refine held_one 14 rfl (by kernel_rfl) (by rfl) (fun K hK => ?_)
                go_simp
                go_at_call 12
                refine (HOv.out v8.drew).mono ?_
                rintro e w' ⟨rfl, rfl⟩
                refine hK.out _ _ hSh0 ?_
                clear hK K
                refine held_take (v := ?_) 15 146 rfl rfl (by kernel_rfl) (by kernel_rfl) (by kernel_rfl) (fun _ _ _ h => h) ⟨by rfl, ?_⟩ hSh0 ?_
                rotate_left
                · intro w' hw'; obtain ⟨x0, x1, x2⟩ := hw'; go_simp; (try with_reducible rfl)
                simp only [Act.put, List.setIfInBounds_toArray, List.set_cons_zero, List.set_cons_succ]
                refine held_skip 16 147 rfl rfl (by kernel_rfl) (by kernel_rfl) (by kernel_rfl) (fun _ _ _ h => h) (by rfl) hSh0 ?_
                simp only [Act.put, List.setIfInBounds_toArray, List.set_cons_zero, List.set_cons_succ]
                refine held_skip 17 148 rfl rfl (by kernel_rfl) (by kernel_rfl) (by kernel_rfl) (fun _ _ _ h => h) (by rfl) hSh0 ?_
                simp only [Act.put, List.setIfInBounds_toArray, List.set_cons_zero, List.set_cons_succ]
                refine held_skip 18 149 rfl rfl (by kernel_rfl) (by kernel_rfl) (by kernel_rfl) (fun _ _ _ h => h) (by rfl) hSh0 ?_
                simp only [Act.put, List.setIfInBounds_toArray, List.set_cons_zero, List.set_cons_succ]
                refine held_skip 19 150 rfl rfl (by kernel_rfl) (by kernel_rfl) (by kernel_rfl) (fun _ _ _ h => h) (by rfl) hSh0 ?_
                simp only [Act.put, List.setIfInBounds_toArray, List.set_cons_zero, List.set_cons_succ]
                refine held_skip 20 151 rfl rfl (by kernel_rfl) (by kernel_rfl) (by kernel_rfl) (fun _ _ _ h => h) (by rfl) hSh0 ?_
                simp only [Act.put, List.setIfInBounds_toArray, List.set_cons_zero, List.set_cons_succ]
                refine held_skip 21 152 rfl rfl (by kernel_rfl) (by kernel_rfl) (by kernel_rfl) (fun _ _ _ h => h) (by rfl) hSh0 ?_
                simp only [Act.put, List.setIfInBounds_toArray, List.set_cons_zero, List.set_cons_succ]
                refine held_take (v := ?_) 22 153 rfl rfl (by kernel_rfl) (by kernel_rfl) (by kernel_rfl) (fun _ _ _ h => h) ⟨by rfl, ?_⟩ hSh0 ?_
                rotate_left
                · intro w' hw'; obtain ⟨x0, x1, x2⟩ := hw'; go_simp; (try with_reducible rfl)
                simp only [Act.put, List.setIfInBounds_toArray, List.set_cons_zero, List.set_cons_succ]
                refine held_take (v := ?_) 23 154 rfl rfl (by kernel_rfl) (by kernel_rfl) (by kernel_rfl) (fun _ _ _ h => h) ⟨by rfl, ?_⟩ hSh0 ?_
                rotate_left
                · intro w' hw'; obtain ⟨x0, x1, x2⟩ := hw'; go_simp; (try with_reducible rfl)
                simp only [Act.put, List.setIfInBounds_toArray, List.set_cons_zero, List.set_cons_succ]
                refine wpAnyH_done (by kernel_rfl) ?_ _
                have q8 : v8.drew.cell? ⟨wr.heap.size, 8, none⟩ = some (.int .i64 y.st) := (rcAt_of HX8.out) 8 _ rfl
                have q0 : v8.drew.cell? ⟨wr.heap.size, 0, none⟩ = some (.int .i64 y.id) := (rcAt_of HX8.out) 0 _ rfl
                have qx : v8.drew.cell? ⟨b1, k * 16 + 8, none⟩ = some (.int .i64 x.st) := s1
                have qa : v8.drew.cell? ⟨b, off + i * 12 + 4, none⟩ = some (.int .i64 a.j.id) := (ga_job HCa.out) 0 _ rfl
                have HBd := Lib.hid (show Below w5.heap.size w5 v8.drew from HB8.out.trans (Below.refl _ v8).drew)
                clear rx jx jy hjn
                generalize v8.drew = vd at q8 q0 qx qa HBd hSh0 hBh0 ⊢
                by_cases hst : y.st = x.st
                · have tS : (y.st != x.st) = false := by simp [hst]
                  clear hst
                  go_wp2
                  go_quiet (fail)
                  have HBq := Lib.hid (HBd.out.trans (below_drewN (Below.refl _ _) nq))
                  clear HBd q8 q0 qx qa
                  go_wp2
                  go_roundw
                  case rel => exact ⟨k + 1, by go_num, by omega, HBq⟩
                  case measure => simp; omega
                · have htu : GL.nextE x.st 0 ≠ 0 ∧ ∃ v : Int, 1 ≤ v ∧ v ≤ 6 ∧ GL.nextE x.st v = 0 ∧ GL.nextS x.st v = y.st := ⟨by unfold GL.nextE GL.may; simp, by
                    rcases HXY.out with e | e
                    · exact absurd (by rw [e]) hst
                    · rcases e.2.way with e2 | e2
                      · exact absurd e2 hst
                      · exact e2⟩
                  have hidd : y.id = a.j.id := by
                    rcases HXY.out with e | e
                    · exact absurd (by rw [e]) hst
                    · have := e.2.job
                      have h2 : y.job.id = x.job.id := by rw [this]
                      exact h2.trans e.1
                  have tS : (y.st != x.st) = true := by simpa using hst
                  have tI : (y.id != a.j.id) = false := by simp [hidd]
                  have HTU := Lib.hid htu.2
                  have HRN := Lib.hid (fun (v : Int) (W : World) => rnext_any x.st v W)
                  clear htu hidd hst
                  go_wp2
                  go_quiet (fail)
                  obtain ⟨vq, hvq⟩ : ∃ vq, vq = vd.drewN nq := ⟨_, rfl⟩
                  rw [← hvq]
                  have r8 : vq.cell? ⟨wr.heap.size, 8, none⟩ = some (.int .i64 y.st) := by rw [hvq]; exact q8
                  have r0 : vq.cell? ⟨wr.heap.size, 0, none⟩ = some (.int .i64 y.id) := by rw [hvq]; exact q0
                  have rxx : vq.cell? ⟨b1, k * 16 + 8, none⟩ = some (.int .i64 x.st) := by rw [hvq]; exact qx
                  have ra : vq.cell? ⟨b, off + i * 12 + 4, none⟩ = some (.int .i64 a.j.id) := by rw [hvq]; exact qa
                  have HBv := Lib.hid (show Below w5.heap.size w5 vq by rw [hvq]; exact HBd.out.trans (below_drewN (Below.refl _ _) nq))
                  obtain ⟨B8, hB8⟩ : ∃ B8, B8 = wr.heap.size := ⟨_, rfl⟩
                  rw [← hB8] at r8 r0 ⊢
                  clear hvq q8 q0 qx qa hB8 tS HBd
                  have HW0 : Hid (∀ v : Int, 1 ≤ v → v < ((1 : Nat) : Int) → GL.nextE x.st v = 0 → GL.nextS x.st v = y.st → false = true) := Lib.hid (fun v h1 h2 => by omega)
                  go_wp2
                  go_loopw [10, 11] (fun vo ve wz => ∃ (ev : Nat) (ok : Bool), vo = .bool ok ∧ ve = .int .i64 ev ∧ 1 ≤ ev ∧ ev ≤ 7 ∧ vq = wz ∧ Hid (∀ v : Int, 1 ≤ v → v < (ev : Int) → GL.nextE x.st v = 0 → GL.nextS x.st v = y.st → ok = true)) (fun _ ve _ => match ve with | .int _ i => 7 - i.toNat | _ => 0)
                  case atStart => exact ⟨1, false, rfl, rfl, by omega, by omega, rfl, HW0⟩
                  case round =>
                    clear HW0
                    obtain ⟨ev, ok, rfl, rfl, ev1, ev7, rfl, hW⟩ := hrel
                    by_cases he : ev ≤ 6
                    · have te : decide ((ev : Int) ≤ 6) = true := decide_eq_true (by exact_mod_cast he)
                      obtain ⟨a1, ha1⟩ : ∃ a1, a1 = GL.nextS x.st (ev : Int) := ⟨_, rfl⟩
                      obtain ⟨d1, hd1⟩ : ∃ d1, d1 = GL.nextE x.st (ev : Int) := ⟨_, rfl⟩
                      have hK := HRN.out (ev : Int) vq
                      rw [← ha1, ← hd1] at hK
                      have HAD := Lib.hid (And.intro ha1 hd1)
                      clear ha1 hd1
                      cases ok
                      · by_cases d0 : d1 = 0
                        · by_cases aa : a1 = y.st
                          · have u1 : (d1 == 0) = true := by simp [d0]
                            have u2 : (a1 == y.st) = true := by simp [aa]
                            clear hW d0 aa
                            go_wp2_with fail
                            refine hK.mono ?_
                            rintro e wz ⟨rfl, rfl⟩
                            go_wp2
                            go_roundw
                            case rel => exact ⟨ev + 1, true, by first | rfl | simp, by go_num, by omega, by omega, by first | rfl | trivial, Lib.hid (fun _ _ _ _ _ => rfl)⟩
                            case measure => simp; omega
                          · have u1 : (d1 == 0) = true := by simp [d0]
                            have u2 : (a1 == y.st) = false := by simpa using aa
                            have HN' : Hid (∀ v : Int, 1 ≤ v → v < ((ev + 1 : Nat) : Int) → GL.nextE x.st v = 0 → GL.nextS x.st v = y.st → false = true) := Lib.hid (fun v g1 g2 g3 g4 => by
                              by_cases ee : v = (ev : Int)
                              · subst ee; exact absurd (HAD.out.1.trans g4) aa
                              · exact hW.out v g1 (by omega) g3 g4)
                            clear hW d0 aa
                            go_wp2_with fail
                            refine hK.mono ?_
                            rintro e wz ⟨rfl, rfl⟩
                            go_wp2
                            go_roundw
                            case rel => exact ⟨ev + 1, false, by first | rfl | simp, by go_num, by omega, by omega, by first | rfl | trivial, HN'⟩
                            case measure => simp; omega
                        · have u1 : (d1 == 0) = false := by simpa using d0
                          have HN' : Hid (∀ v : Int, 1 ≤ v → v < ((ev + 1 : Nat) : Int) → GL.nextE x.st v = 0 → GL.nextS x.st v = y.st → false = true) := Lib.hid (fun v g1 g2 g3 g4 => by
                            by_cases ee : v = (ev : Int)
                            · subst ee; exact absurd (HAD.out.2.trans g3) d0
                            · exact hW.out v g1 (by omega) g3 g4)
                          clear hW d0
                          go_wp2_with fail
                          refine hK.mono ?_
                          rintro e wz ⟨rfl, rfl⟩
                          go_wp2
                          go_roundw
                          case rel => exact ⟨ev + 1, false, by first | rfl | simp, by go_num, by omega, by omega, by first | rfl | trivial, HN'⟩
                          case measure => simp; omega
                      · clear hW
                        go_wp2_with fail
                        refine hK.mono ?_
                        rintro e wz ⟨rfl, rfl⟩
                        go_wp2
                        go_roundw
                        case rel => exact ⟨ev + 1, true, by first | rfl | simp, by go_num, by omega, by omega, by first | rfl | trivial, Lib.hid (fun _ _ _ _ _ => rfl)⟩
                        case measure => simp; omega
                    · have te : decide ((ev : Int) ≤ 6) = false := decide_eq_false (by exact_mod_cast he)
                      obtain rfl : ok = true := by
                        obtain ⟨v, g1, g2, g3, g4⟩ := HTU.out
                        exact hW.out v g1 (by omega) g3 g4
                      clear hW he
                      go_wp2
                      go_quiet (fail)
                      have HBq := Lib.hid (HBv.out.trans (below_drewN (Below.refl _ _) nq))
                      clear HBv
                      go_wp2
                      go_roundw
                      case rel => exact ⟨k + 1, by go_num, by omega, HBq⟩
                      case measure => simp; omega
              · as_aux_lemma =>
                have HOv : Hid (∀ W, Calls Try.prog 12 #[.int .i64 x.st] W fun e w' => e = .returned (.bool true) ∧ W = w') := Lib.hid (fun W => by rw [← ho]; exact over_any x.st W)
                obtain rfl : x = y := by
                  rcases HXY.out with e | e
                  · exact e.symm
                  · have := e.2.alive
                    unfold GL.overB at ho
                    simp at ho
                    omega
                have ry : RcAt v8 wr.heap.size 0 x := rcAt_of HX8.out
                have hrn := fun W => rc_ne x W
                clear ho
                refine held_begin (fun w' : World => CellsAt w' wr.heap.size 0 (jbC x.job) ∧ CellsAt w' b1 (k * 16) (jbC x.job) ∧ w'.cell? ⟨b1, k * 16 + 8, none⟩ = some (.int .i64 x.st) ∧ RcAt w' wr.heap.size 0 x ∧ RcAt w' b1 (k * 16) x) (by kernel_rfl) ?_
                have hBh0 : Below v8.heap.size v8 v8.drew := (Below.refl _ _).drew
                have hSh0 : (fun w' : World => CellsAt w' wr.heap.size 0 (jbC x.job) ∧ CellsAt w' b1 (k * 16) (jbC x.job) ∧ w'.cell? ⟨b1, k * 16 + 8, none⟩ = some (.int .i64 x.st) ∧ RcAt w' wr.heap.size 0 x ∧ RcAt w' b1 (k * 16) x) v8.drew := ⟨jy, jx, s1, ry, rx⟩
                refine held_take (v := ?_) 0 131 rfl rfl (by kernel_rfl) (by kernel_rfl) (by kernel_rfl) (fun _ _ _ h => h) ⟨by rfl, ?_⟩ hSh0 ?_
                rotate_left
                · intro w' hw'; obtain ⟨x0, x1, x2, x3, x4⟩ := hw'; go_simp; (try with_reducible rfl)
                simp only [Act.put, List.setIfInBounds_toArray, List.set_cons_zero, List.set_cons_succ]
                refine held_take (v := ?_) 1 132 rfl rfl (by kernel_rfl) (by kernel_rfl) (by kernel_rfl) (fun _ _ _ h => h) ⟨by rfl, ?_⟩ hSh0 ?_
                rotate_left
                · intro w' hw'; obtain ⟨x0, x1, x2, x3, x4⟩ := hw'; refine Eq.trans (run_load_jb (by rfl) (by rfl) x0) ?_; (with_reducible rfl)
                simp only [Act.put, List.setIfInBounds_toArray, List.set_cons_zero, List.set_cons_succ]
                refine held_take (v := ?_) 2 133 rfl rfl (by kernel_rfl) (by kernel_rfl) (by kernel_rfl) (fun _ _ _ h => h) ⟨by rfl, ?_⟩ hSh0 ?_
                rotate_left
                · intro w' hw'; obtain ⟨x0, x1, x2, x3, x4⟩ := hw'; go_simp; (try with_reducible rfl)
                simp only [Act.put, List.setIfInBounds_toArray, List.set_cons_zero, List.set_cons_succ]
                refine held_take (v := ?_) 3 134 rfl rfl (by kernel_rfl) (by kernel_rfl) (by kernel_rfl) (fun _ _ _ h => h) ⟨by rfl, ?_⟩ hSh0 ?_
                rotate_left
                · intro w' hw'; obtain ⟨x0, x1, x2, x3, x4⟩ := hw'; go_simp; (try with_reducible rfl)
                simp only [Act.put, List.setIfInBounds_toArray, List.set_cons_zero, List.set_cons_succ]
                refine held_take (v := ?_) 4 135 rfl rfl (by kernel_rfl) (by kernel_rfl) (by kernel_rfl) (fun _ _ _ h => h) ⟨by rfl, ?_⟩ hSh0 ?_
                rotate_left
                · intro w' hw'; obtain ⟨x0, x1, x2, x3, x4⟩ := hw'; go_simp; (try with_reducible rfl)
                simp only [Act.put, List.setIfInBounds_toArray, List.set_cons_zero, List.set_cons_succ]
                refine held_take (v := ?_) 5 136 rfl rfl (by kernel_rfl) (by kernel_rfl) (by kernel_rfl) (fun _ _ _ h => h) ⟨by rfl, ?_⟩ hSh0 ?_
                rotate_left
                · intro w' hw'; obtain ⟨x0, x1, x2, x3, x4⟩ := hw'; go_simp; (try with_reducible rfl)
                simp only [Act.put, List.setIfInBounds_toArray, List.set_cons_zero, List.set_cons_succ]
                refine held_take (v := ?_) 6 137 rfl rfl (by kernel_rfl) (by kernel_rfl) (by kernel_rfl) (fun _ _ _ h => h) ⟨by rfl, ?_⟩ hSh0 ?_
                rotate_left
                · intro w' hw'; obtain ⟨x0, x1, x2, x3, x4⟩ := hw'; refine Eq.trans (run_load_jb (by rfl) (by rfl) x1) ?_; (with_reducible rfl)
                simp only [Act.put, List.setIfInBounds_toArray, List.set_cons_zero, List.set_cons_succ]
                refine held_take (v := ?_) 7 138 rfl rfl (by kernel_rfl) (by kernel_rfl) (by kernel_rfl) (fun _ _ _ h => h) ⟨by rfl, ?_⟩ hSh0 ?_
                rotate_left
                · intro w' hw'; obtain ⟨x0, x1, x2, x3, x4⟩ := hw'; go_simp; (try with_reducible rfl)
                simp only [Act.put, List.setIfInBounds_toArray, List.set_cons_zero, List.set_cons_succ]
                refine held_take (v := ?_) 8 139 rfl rfl (by kernel_rfl) (by kernel_rfl) (by kernel_rfl) (fun _ _ _ h => h) ⟨by rfl, ?_⟩ hSh0 ?_
                rotate_left
                · intro w' hw'; obtain ⟨x0, x1, x2, x3, x4⟩ := hw'; go_simp; (try with_reducible rfl)
                simp only [Act.put, List.setIfInBounds_toArray, List.set_cons_zero, List.set_cons_succ]
                refine held_take (v := ?_) 9 140 rfl rfl (by kernel_rfl) (by kernel_rfl) (by kernel_rfl) (fun _ _ _ h => h) ⟨by rfl, ?_⟩ hSh0 ?_
                rotate_left
                · intro w' hw'; obtain ⟨x0, x1, x2, x3, x4⟩ := hw'; go_simp; (try with_reducible rfl)
                simp only [Act.put, List.setIfInBounds_toArray, List.set_cons_zero, List.set_cons_succ]
                refine held_take (v := ?_) 10 141 rfl rfl (by kernel_rfl) (by kernel_rfl) (by kernel_rfl) (fun _ _ _ h => h) ⟨by rfl, ?_⟩ hSh0 ?_
                rotate_left
                · intro w' hw'; obtain ⟨x0, x1, x2, x3, x4⟩ := hw'; go_simp; (try with_reducible rfl)
                simp only [Act.put, List.setIfInBounds_toArray, List.set_cons_zero, List.set_cons_succ]
                refine held_take (v := ?_) 11 142 rfl rfl (by kernel_rfl) (by kernel_rfl) (by kernel_rfl) (fun _ _ _ h => h) ⟨by rfl, ?_⟩ hSh0 ?_
                rotate_left
                · intro w' hw'; obtain ⟨x0, x1, x2, x3, x4⟩ := hw'; go_simp; (try with_reducible rfl)
                simp only [Act.put, List.setIfInBounds_toArray, List.set_cons_zero, List.set_cons_succ]
                refine held_take (v := ?_) 12 143 rfl rfl (by kernel_rfl) (by kernel_rfl) (by kernel_rfl) (fun _ _ _ h => h) ⟨by rfl, ?_⟩ hSh0 ?_
                rotate_left
                · intro w' hw'; obtain ⟨x0, x1, x2, x3, x4⟩ := hw'; go_simp; (try with_reducible rfl)
                simp only [Act.put, List.setIfInBounds_toArray, List.set_cons_zero, List.set_cons_succ]
                refine held_take (v := ?_) 13 144 rfl rfl (by kernel_rfl) (by kernel_rfl) (by kernel_rfl) (fun _ _ _ h => h) ⟨by rfl, ?_⟩ hSh0 ?_
                rotate_left
                · intro w' hw'; obtain ⟨x0, x1, x2, x3, x4⟩ := hw'; go_simp; (try with_reducible rfl)
                simp only [Act.put, List.setIfInBounds_toArray, List.set_cons_zero, List.set_cons_succ]
                refine held_one 14 rfl (by kernel_rfl) (by rfl) (fun K hK => ?_)
                go_simp
                go_at_call 12
                refine (HOv.out v8.drew).mono ?_
                rintro e w' ⟨rfl, rfl⟩
                refine hK.out _ _ hSh0 ?_
                clear hK K
                refine held_take (v := ?_) 15 146 rfl rfl (by kernel_rfl) (by kernel_rfl) (by kernel_rfl) (fun _ _ _ h => h) ⟨by rfl, ?_⟩ hSh0 ?_
                rotate_left
                · intro w' hw'; obtain ⟨x0, x1, x2, x3, x4⟩ := hw'; go_simp; (try with_reducible rfl)
                simp only [Act.put, List.setIfInBounds_toArray, List.set_cons_zero, List.set_cons_succ]
                refine held_take (v := ?_) 16 147 rfl rfl (by kernel_rfl) (by kernel_rfl) (by kernel_rfl) (fun _ _ _ h => h) ⟨by rfl, ?_⟩ hSh0 ?_
                rotate_left
                · intro w' hw'; obtain ⟨x0, x1, x2, x3, x4⟩ := hw'; refine Eq.trans (run_load_rc (by rfl) (by rfl) x3) ?_; (with_reducible rfl)
                simp only [Act.put, List.setIfInBounds_toArray, List.set_cons_zero, List.set_cons_succ]
                refine held_take (v := ?_) 17 148 rfl rfl (by kernel_rfl) (by kernel_rfl) (by kernel_rfl) (fun _ _ _ h => h) ⟨by rfl, ?_⟩ hSh0 ?_
                rotate_left
                · intro w' hw'; obtain ⟨x0, x1, x2, x3, x4⟩ := hw'; go_simp; (try with_reducible rfl)
                simp only [Act.put, List.setIfInBounds_toArray, List.set_cons_zero, List.set_cons_succ]
                refine held_take (v := ?_) 18 149 rfl rfl (by kernel_rfl) (by kernel_rfl) (by kernel_rfl) (fun _ _ _ h => h) ⟨by rfl, ?_⟩ hSh0 ?_
                rotate_left
                · intro w' hw'; obtain ⟨x0, x1, x2, x3, x4⟩ := hw'; go_simp; (try with_reducible rfl)
                simp only [Act.put, List.setIfInBounds_toArray, List.set_cons_zero, List.set_cons_succ]
                refine held_take (v := ?_) 19 150 rfl rfl (by kernel_rfl) (by kernel_rfl) (by kernel_rfl) (fun _ _ _ h => h) ⟨by rfl, ?_⟩ hSh0 ?_
                rotate_left
                · intro w' hw'; obtain ⟨x0, x1, x2, x3, x4⟩ := hw'; go_simp; (try with_reducible rfl)
                simp only [Act.put, List.setIfInBounds_toArray, List.set_cons_zero, List.set_cons_succ]
                refine held_take (v := ?_) 20 151 rfl rfl (by kernel_rfl) (by kernel_rfl) (by kernel_rfl) (fun _ _ _ h => h) ⟨by rfl, ?_⟩ hSh0 ?_
                rotate_left
                · intro w' hw'; obtain ⟨x0, x1, x2, x3, x4⟩ := hw'; refine Eq.trans (run_load_rc (by rfl) (by rfl) x4) ?_; (with_reducible rfl)
                simp only [Act.put, List.setIfInBounds_toArray, List.set_cons_zero, List.set_cons_succ]
                refine held_take (v := ?_) 21 152 rfl rfl (by kernel_rfl) (by kernel_rfl) (by kernel_rfl) (fun _ _ _ h => h) ⟨by rfl, ?_⟩ hSh0 ?_
                rotate_left
                · intro w' hw'; obtain ⟨x0, x1, x2, x3, x4⟩ := hw'; go_simp; (try with_reducible rfl)
                simp only [Act.put, List.setIfInBounds_toArray, List.set_cons_zero, List.set_cons_succ]
                refine held_take (v := ?_) 22 153 rfl rfl (by kernel_rfl) (by kernel_rfl) (by kernel_rfl) (fun _ _ _ h => h) ⟨by rfl, ?_⟩ hSh0 ?_
                rotate_left
                · intro w' hw'; obtain ⟨x0, x1, x2, x3, x4⟩ := hw'; go_simp; (try with_reducible rfl)
                simp only [Act.put, List.setIfInBounds_toArray, List.set_cons_zero, List.set_cons_succ]
                refine held_take (v := ?_) 23 154 rfl rfl (by kernel_rfl) (by kernel_rfl) (by kernel_rfl) (fun _ _ _ h => h) ⟨by rfl, ?_⟩ hSh0 ?_
                rotate_left
                · intro w' hw'; obtain ⟨x0, x1, x2, x3, x4⟩ := hw'; go_simp; (try with_reducible rfl)
                simp only [Act.put, List.setIfInBounds_toArray, List.set_cons_zero, List.set_cons_succ]
                refine wpAnyH_done (by kernel_rfl) ?_ _
                have q8 : v8.drew.cell? ⟨wr.heap.size, 8, none⟩ = some (.int .i64 x.st) := (rcAt_of HX8.out) 8 _ rfl
                have q0 : v8.drew.cell? ⟨wr.heap.size, 0, none⟩ = some (.int .i64 x.id) := (rcAt_of HX8.out) 0 _ rfl
                have qx : v8.drew.cell? ⟨b1, k * 16 + 8, none⟩ = some (.int .i64 x.st) := s1
                have qa : v8.drew.cell? ⟨b, off + i * 12 + 4, none⟩ = some (.int .i64 a.j.id) := (ga_job HCa.out) 0 _ rfl
                have HBd := Lib.hid (show Below w5.heap.size w5 v8.drew from HB8.out.trans (Below.refl _ v8).drew)
                clear rx jx jy hjn ry hrn
                generalize v8.drew = vd at q8 q0 qx qa HBd hSh0 hBh0 ⊢
                have tS : (x.st != x.st) = false := by simp
                go_wp2
                go_quiet (fail)
                have HBq := Lib.hid (HBd.out.trans (below_drewN (Below.refl _ _) nq))
                clear HBd q8 q0 qx qa
                go_wp2
                go_roundw
                case rel => exact ⟨k + 1, by go_num, by omega, HBq⟩
                case measure => simp; omega
            · exfalso
              have hnew := HAT.out.2.2.2 k y (by rw [← HN.out]; exact Nat.not_lt.1 hkn) HY.out
              rw [hnew.1] at p1
              exact absurd p1 (by decide)
          · as_aux_lemma =>
            have p1 : (y.st == 2) = false := by simp [h3]
            have p2 : (y.st == 3) = true := by simp [h3]
            have hh := hok.held (.inr h3)
            have m1 : decide (y.me < y.mn) = false := decide_eq_false (by omega)
            have m2 : decide (y.mx < y.me) = false := decide_eq_false (by omega)
            clear h3 hh hok
            by_cases hkn : k < n
            · have t4 : decide (n ≤ k) = false := decide_eq_false (Nat.not_le.2 hkn)
              obtain ⟨x, hx⟩ : ∃ x, L[k]? = some x := ⟨_, List.getElem?_eq_getElem (by rw [← HN.out]; exact hkn)⟩
              obtain ⟨b1, e1, lb1', r1'⟩ := HE5.out k x hx
              have hxy := HAT.out.2.2.1 k x y hx HY.out
              have hjob : y.job = x.job := by
                rcases hxy with e | e
                · rw [e]
                · exact e.2.job
              have rx : RcAt v8 b1 (k * 16) x := r1'.keep lb1' HB8.out
              have lb1 : b1 < v8.heap.size := Nat.lt_of_lt_of_le lb1' HB8.out.size
              have jx := rc_job rx
              have s1 : v8.cell? ⟨b1, k * 16 + 8, none⟩ = some (.int .i64 x.st) := rx 8 _ rfl
              have jy : CellsAt v8 wr.heap.size 0 (jbC x.job) := by rw [← hjob]; exact rc_job (rcAt_of HX8.out)
              have HXY := Lib.hid hxy
              have hjn := fun W => jb_ne x.job W
              have HF := Lib.hid (And.intro rx (And.intro jx (And.intro s1 jy)))
              subst e1
              clear hx r1' hxy hjob rx jx s1 jy hjn
              have HNum := Lib.hid (And.intro hk (And.intro hkn (And.intro hn12 (And.intro hn21 (And.intro hn22 lB8)))))
              clear hk hkn hn12 hn21 hn22 lB8
              obtain ⟨y8, y10, y11, y14, y15, y6, y7, y0⟩ := Y.out
              go_wp2_with (first
                | (have hr2 := HR2.out; refine wpList_load_rc rfl _ rfl b2 (k * 16) y rfl hr2 ?_; clear hr2 HR2)
                | (have hz2 := HZ.out; refine wpList_store_rc rfl _ _ rfl wr.heap.size y rfl rfl GL.zr hz2 ?_; rw [← rcO_zr, ← HV8.out]; clear hz2 HZ)
                | fail)
              clear y8 y10 y11 y14 y15 y6 y7 y0 t3 t4 tn wk p1 p2 m1 m2
              obtain ⟨hk, hkn, hn12, hn21, hn22, lB8⟩ := HNum.out
              clear HNum
              obtain ⟨rx, jx, s1, jy⟩ := HF.out
              have hjn := fun W => jb_ne x.job W
              cases ho : GL.overB x.st
              · as_aux_lemma =>
                have HOv : Hid (∀ W, Calls Try.prog 12 #[.int .i64 x.st] W fun e w' => e = .returned (.bool false) ∧ W = w') := Lib.hid (fun W => by rw [← ho]; exact over_any x.st W)
                clear ho
                refine held_begin (fun w' : World => CellsAt w' wr.heap.size 0 (jbC x.job) ∧ CellsAt w' b1 (k * 16) (jbC x.job) ∧ w'.cell? ⟨b1, k * 16 + 8, none⟩ = some (.int .i64 x.st)) (by kernel_rfl) ?_
                have hBh0 : Below v8.heap.size v8 v8.drew := (Below.refl _ _).drew
                have hSh0 : (fun w' : World => CellsAt w' wr.heap.size 0 (jbC x.job) ∧ CellsAt w' b1 (k * 16) (jbC x.job) ∧ w'.cell? ⟨b1, k * 16 + 8, none⟩ = some (.int .i64 x.st)) v8.drew := ⟨jy, jx, s1⟩
                refine held_take (v := ?_) 0 131 rfl rfl (by kernel_rfl) (by kernel_rfl) (by kernel_rfl) (fun _ _ _ h => h) ⟨by rfl, ?_⟩ hSh0 ?_
                rotate_left
                · intro w' hw'; obtain ⟨x0, x1, x2⟩ := hw'; go_simp; (try with_reducible rfl)
                simp only [Act.put, List.setIfInBounds_toArray, List.set_cons_zero, List.set_cons_succ]
                refine held_take (v := ?_) 1 132 rfl rfl (by kernel_rfl) (by kernel_rfl) (by kernel_rfl) (fun _ _ _ h => h) ⟨by rfl, ?_⟩ hSh0 ?_
                rotate_left
                · intro w' hw'; obtain ⟨x0, x1, x2⟩ := hw'; refine Eq.trans (run_load_jb (by rfl) (by rfl) x0) ?_; (with_reducible rfl)
                simp only [Act.put, List.setIfInBounds_toArray, List.set_cons_zero, List.set_cons_succ]
                refine held_take (v := ?_) 2 133 rfl rfl (by kernel_rfl) (by kernel_rfl) (by kernel_rfl) (fun _ _ _ h => h) ⟨by rfl, ?_⟩ hSh0 ?_
                rotate_left
                · intro w' hw'; obtain ⟨x0, x1, x2⟩ := hw'; go_simp; (try with_reducible rfl)
                simp only [Act.put, List.setIfInBounds_toArray, List.set_cons_zero, List.set_cons_succ]
                refine held_take (v := ?_) 3 134 rfl rfl (by kernel_rfl) (by kernel_rfl) (by kernel_rfl) (fun _ _ _ h => h) ⟨by rfl, ?_⟩ hSh0 ?_
                rotate_left
                · intro w' hw'; obtain ⟨x0, x1, x2⟩ := hw'; go_simp; (try with_reducible rfl)
                simp only [Act.put, List.setIfInBounds_toArray, List.set_cons_zero, List.set_cons_succ]
                refine held_take (v := ?_) 4 135 rfl rfl (by kernel_rfl) (by kernel_rfl) (by kernel_rfl) (fun _ _ _ h => h) ⟨by rfl, ?_⟩ hSh0 ?_
                rotate_left
                · intro w' hw'; obtain ⟨x0, x1, x2⟩ := hw'; go_simp; (try with_reducible rfl)
                simp only [Act.put, List.setIfInBounds_toArray, List.set_cons_zero, List.set_cons_succ]
                refine held_take (v := ?_) 5 136 rfl rfl (by kernel_rfl) (by kernel_rfl) (by kernel_rfl) (fun _ _ _ h => h) ⟨by rfl, ?_⟩ hSh0 ?_
                rotate_left
                · intro w' hw'; obtain ⟨x0, x1, x2⟩ := hw'; go_simp; (try with_reducible rfl)
                simp only [Act.put, List.setIfInBounds_toArray, List.set_cons_zero, List.set_cons_succ]
                refine held_take (v := ?_) 6 137 rfl rfl (by kernel_rfl) (by kernel_rfl) (by kernel_rfl) (fun _ _ _ h => h) ⟨by rfl, ?_⟩ hSh0 ?_
                rotate_left
                · intro w' hw'; obtain ⟨x0, x1, x2⟩ := hw'; refine Eq.trans (run_load_jb (by rfl) (by rfl) x1) ?_; (with_reducible rfl)
                simp only [Act.put, List.setIfInBounds_toArray, List.set_cons_zero, List.set_cons_succ]
                refine held_take (v := ?_) 7 138 rfl rfl (by kernel_rfl) (by kernel_rfl) (by kernel_rfl) (fun _ _ _ h => h) ⟨by rfl, ?_⟩ hSh0 ?_
                rotate_left
                · intro w' hw'; obtain ⟨x0, x1, x2⟩ := hw'; go_simp; (try with_reducible rfl)
                simp only [Act.put, List.setIfInBounds_toArray, List.set_cons_zero, List.set_cons_succ]
                refine held_take (v := ?_) 8 139 rfl rfl (by kernel_rfl) (by kernel_rfl) (by kernel_rfl) (fun _ _ _ h => h) ⟨by rfl, ?_⟩ hSh0 ?_
                rotate_left
                · intro w' hw'; obtain ⟨x0, x1, x2⟩ := hw'; go_simp; (try with_reducible rfl)
                simp only [Act.put, List.setIfInBounds_toArray, List.set_cons_zero, List.set_cons_succ]
                refine held_take (v := ?_) 9 140 rfl rfl (by kernel_rfl) (by kernel_rfl) (by kernel_rfl) (fun _ _ _ h => h) ⟨by rfl, ?_⟩ hSh0 ?_
                rotate_left
                · intro w' hw'; obtain ⟨x0, x1, x2⟩ := hw'; go_simp; (try with_reducible rfl)
                simp only [Act.put, List.setIfInBounds_toArray, List.set_cons_zero, List.set_cons_succ]
                refine held_take (v := ?_) 10 141 rfl rfl (by kernel_rfl) (by kernel_rfl) (by kernel_rfl) (fun _ _ _ h => h) ⟨by rfl, ?_⟩ hSh0 ?_
                rotate_left
                · intro w' hw'; obtain ⟨x0, x1, x2⟩ := hw'; go_simp; (try with_reducible rfl)
                simp only [Act.put, List.setIfInBounds_toArray, List.set_cons_zero, List.set_cons_succ]
                refine held_take (v := ?_) 11 142 rfl rfl (by kernel_rfl) (by kernel_rfl) (by kernel_rfl) (fun _ _ _ h => h) ⟨by rfl, ?_⟩ hSh0 ?_
                rotate_left
                · intro w' hw'; obtain ⟨x0, x1, x2⟩ := hw'; go_simp; (try with_reducible rfl)
                simp only [Act.put, List.setIfInBounds_toArray, List.set_cons_zero, List.set_cons_succ]
                refine held_take (v := ?_) 12 143 rfl rfl (by kernel_rfl) (by kernel_rfl) (by kernel_rfl) (fun _ _ _ h => h) ⟨by rfl, ?_⟩ hSh0 ?_
                rotate_left
                · intro w' hw'; obtain ⟨x0, x1, x2⟩ := hw'; go_simp; (try with_reducible rfl)
                simp only [Act.put, List.setIfInBounds_toArray, List.set_cons_zero, List.set_cons_succ]
                refine held_take (v := ?_) 13 144 rfl rfl (by kernel_rfl) (by kernel_rfl) (by kernel_rfl) (fun _ _ _ h => h) ⟨by rfl, ?_⟩ hSh0 ?_
                rotate_left
                · intro w' hw'; obtain ⟨x0, x1, x2⟩ := hw'; go_simp; (try with_reducible rfl)
                simp only [Act.put, List.setIfInBounds_toArray, List.set_cons_zero, List.set_cons_succ]
                refine held_one 14 rfl (by kernel_rfl) (by rfl) (fun K hK => ?_)
                go_simp
                go_at_call 12
                refine (HOv.out v8.drew).mono ?_
                rintro e w' ⟨rfl, rfl⟩
                refine hK.out _ _ hSh0 ?_
                clear hK K
                refine held_take (v := ?_) 15 146 rfl rfl (by kernel_rfl) (by kernel_rfl) (by kernel_rfl) (fun _ _ _ h => h) ⟨by rfl, ?_⟩ hSh0 ?_
                rotate_left
                · intro w' hw'; obtain ⟨x0, x1, x2⟩ := hw'; go_simp; (try with_reducible rfl)
                simp only [Act.put, List.setIfInBounds_toArray, List.set_cons_zero, List.set_cons_succ]
                refine held_skip 16 147 rfl rfl (by kernel_rfl) (by kernel_rfl) (by kernel_rfl) (fun _ _ _ h => h) (by rfl) hSh0 ?_
                simp only [Act.put, List.setIfInBounds_toArray, List.set_cons_zero, List.set_cons_succ]
                refine held_skip 17 148 rfl rfl (by kernel_rfl) (by kernel_rfl) (by kernel_rfl) (fun _ _ _ h => h) (by rfl) hSh0 ?_
                simp only [Act.put, List.setIfInBounds_toArray, List.set_cons_zero, List.set_cons_succ]
                refine held_skip 18 149 rfl rfl (by kernel_rfl) (by kernel_rfl) (by kernel_rfl) (fun _ _ _ h => h) (by rfl) hSh0 ?_
                simp only [Act.put, List.setIfInBounds_toArray, List.set_cons_zero, List.set_cons_succ]
                refine held_skip 19 150 rfl rfl (by kernel_rfl) (by kernel_rfl) (by kernel_rfl) (fun _ _ _ h => h) (by rfl) hSh0 ?_
                simp only [Act.put, List.setIfInBounds_toArray, List.set_cons_zero, List.set_cons_succ]
                refine held_skip 20 151 rfl rfl (by kernel_rfl) (by kernel_rfl) (by kernel_rfl) (fun _ _ _ h => h) (by rfl) hSh0 ?_
                simp only [Act.put, List.setIfInBounds_toArray, List.set_cons_zero, List.set_cons_succ]
                refine held_skip 21 152 rfl rfl (by kernel_rfl) (by kernel_rfl) (by kernel_rfl) (fun _ _ _ h => h) (by rfl) hSh0 ?_
                simp only [Act.put, List.setIfInBounds_toArray, List.set_cons_zero, List.set_cons_succ]
                refine held_take (v := ?_) 22 153 rfl rfl (by kernel_rfl) (by kernel_rfl) (by kernel_rfl) (fun _ _ _ h => h) ⟨by rfl, ?_⟩ hSh0 ?_
                rotate_left
                · intro w' hw'; obtain ⟨x0, x1, x2⟩ := hw'; go_simp; (try with_reducible rfl)
                simp only [Act.put, List.setIfInBounds_toArray, List.set_cons_zero, List.set_cons_succ]
                refine held_take (v := ?_) 23 154 rfl rfl (by kernel_rfl) (by kernel_rfl) (by kernel_rfl) (fun _ _ _ h => h) ⟨by rfl, ?_⟩ hSh0 ?_
                rotate_left
                · intro w' hw'; obtain ⟨x0, x1, x2⟩ := hw'; go_simp; (try with_reducible rfl)
                simp only [Act.put, List.setIfInBounds_toArray, List.set_cons_zero, List.set_cons_succ]
                refine wpAnyH_done (by kernel_rfl) ?_ _
                have q8 : v8.drew.cell? ⟨wr.heap.size, 8, none⟩ = some (.int .i64 y.st) := (rcAt_of HX8.out) 8 _ rfl
                have q0 : v8.drew.cell? ⟨wr.heap.size, 0, none⟩ = some (.int .i64 y.id) := (rcAt_of HX8.out) 0 _ rfl
                have qx : v8.drew.cell? ⟨b1, k * 16 + 8, none⟩ = some (.int .i64 x.st) := s1
                have qa : v8.drew.cell? ⟨b, off + i * 12 + 4, none⟩ = some (.int .i64 a.j.id) := (ga_job HCa.out) 0 _ rfl
                have HBd := Lib.hid (show Below w5.heap.size w5 v8.drew from HB8.out.trans (Below.refl _ v8).drew)
                clear rx jx jy hjn
                generalize v8.drew = vd at q8 q0 qx qa HBd hSh0 hBh0 ⊢
                by_cases hst : y.st = x.st
                · have tS : (y.st != x.st) = false := by simp [hst]
                  clear hst
                  go_wp2
                  go_quiet (fail)
                  have HBq := Lib.hid (HBd.out.trans (below_drewN (Below.refl _ _) nq))
                  clear HBd q8 q0 qx qa
                  go_wp2
                  go_roundw
                  case rel => exact ⟨k + 1, by go_num, by omega, HBq⟩
                  case measure => simp; omega
                · have htu : GL.nextE x.st 0 ≠ 0 ∧ ∃ v : Int, 1 ≤ v ∧ v ≤ 6 ∧ GL.nextE x.st v = 0 ∧ GL.nextS x.st v = y.st := ⟨by unfold GL.nextE GL.may; simp, by
                    rcases HXY.out with e | e
                    · exact absurd (by rw [e]) hst
                    · rcases e.2.way with e2 | e2
                      · exact absurd e2 hst
                      · exact e2⟩
                  have hidd : y.id = a.j.id := by
                    rcases HXY.out with e | e
                    · exact absurd (by rw [e]) hst
                    · have := e.2.job
                      have h2 : y.job.id = x.job.id := by rw [this]
                      exact h2.trans e.1
                  have tS : (y.st != x.st) = true := by simpa using hst
                  have tI : (y.id != a.j.id) = false := by simp [hidd]
                  have HTU := Lib.hid htu.2
                  have HRN := Lib.hid (fun (v : Int) (W : World) => rnext_any x.st v W)
                  clear htu hidd hst
                  go_wp2
                  go_quiet (fail)
                  obtain ⟨vq, hvq⟩ : ∃ vq, vq = vd.drewN nq := ⟨_, rfl⟩
                  rw [← hvq]
                  have r8 : vq.cell? ⟨wr.heap.size, 8, none⟩ = some (.int .i64 y.st) := by rw [hvq]; exact q8
                  have r0 : vq.cell? ⟨wr.heap.size, 0, none⟩ = some (.int .i64 y.id) := by rw [hvq]; exact q0
                  have rxx : vq.cell? ⟨b1, k * 16 + 8, none⟩ = some (.int .i64 x.st) := by rw [hvq]; exact qx
                  have ra : vq.cell? ⟨b, off + i * 12 + 4, none⟩ = some (.int .i64 a.j.id) := by rw [hvq]; exact qa
                  have HBv := Lib.hid (show Below w5.heap.size w5 vq by rw [hvq]; exact HBd.out.trans (below_drewN (Below.refl _ _) nq))
                  obtain ⟨B8, hB8⟩ : ∃ B8, B8 = wr.heap.size := ⟨_, rfl⟩
                  rw [← hB8] at r8 r0 ⊢
                  clear hvq q8 q0 qx qa hB8 tS HBd
                  have HW0 : Hid (∀ v : Int, 1 ≤ v → v < ((1 : Nat) : Int) → GL.nextE x.st v = 0 → GL.nextS x.st v = y.st → false = true) := Lib.hid (fun v h1 h2 => by omega)
                  go_wp2
                  go_loopw [10, 11] (fun vo ve wz => ∃ (ev : Nat) (ok : Bool), vo = .bool ok ∧ ve = .int .i64 ev ∧ 1 ≤ ev ∧ ev ≤ 7 ∧ vq = wz ∧ Hid (∀ v : Int, 1 ≤ v → v < (ev : Int) → GL.nextE x.st v = 0 → GL.nextS x.st v = y.st → ok = true)) (fun _ ve _ => match ve with | .int _ i => 7 - i.toNat | _ => 0)
                  case atStart => exact ⟨1, false, rfl, rfl, by omega, by omega, rfl, HW0⟩
                  case round =>
                    clear HW0
                    obtain ⟨ev, ok, rfl, rfl, ev1, ev7, rfl, hW⟩ := hrel
                    by_cases he : ev ≤ 6
                    · have te : decide ((ev : Int) ≤ 6) = true := decide_eq_true (by exact_mod_cast he)
                      obtain ⟨a1, ha1⟩ : ∃ a1, a1 = GL.nextS x.st (ev : Int) := ⟨_, rfl⟩
                      obtain ⟨d1, hd1⟩ : ∃ d1, d1 = GL.nextE x.st (ev : Int) := ⟨_, rfl⟩
                      have hK := HRN.out (ev : Int) vq
                      rw [← ha1, ← hd1] at hK
                      have HAD := Lib.hid (And.intro ha1 hd1)
                      clear ha1 hd1
                      cases ok
                      · by_cases d0 : d1 = 0
                        · by_cases aa : a1 = y.st
                          · have u1 : (d1 == 0) = true := by simp [d0]
                            have u2 : (a1 == y.st) = true := by simp [aa]
                            clear hW d0 aa
                            go_wp2_with fail
                            refine hK.mono ?_
                            rintro e wz ⟨rfl, rfl⟩
                            go_wp2
                            go_roundw
                            case rel => exact ⟨ev + 1, true, by first | rfl | simp, by go_num, by omega, by omega, by first | rfl | trivial, Lib.hid (fun _ _ _ _ _ => rfl)⟩
                            case measure => simp; omega
                          · have u1 : (d1 == 0) = true := by simp [d0]
                            have u2 : (a1 == y.st) = false := by simpa using aa
                            have HN' : Hid (∀ v : Int, 1 ≤ v → v < ((ev + 1 : Nat) : Int) → GL.nextE x.st v = 0 → GL.nextS x.st v = y.st → false = true) := Lib.hid (fun v g1 g2 g3 g4 => by
                              by_cases ee : v = (ev : Int)
                              · subst ee; exact absurd (HAD.out.1.trans g4) aa
                              · exact hW.out v g1 (by omega) g3 g4)
                            clear hW d0 aa
                            go_wp2_with fail
                            refine hK.mono ?_
                            rintro e wz ⟨rfl, rfl⟩
                            go_wp2
                            go_roundw
                            case rel => exact ⟨ev + 1, false, by first | rfl | simp, by go_num, by omega, by omega, by first | rfl | trivial, HN'⟩
                            case measure => simp; omega
                        · have u1 : (d1 == 0) = false := by simpa using d0
                          have HN' : Hid (∀ v : Int, 1 ≤ v → v < ((ev + 1 : Nat) : Int) → GL.nextE x.st v = 0 → GL.nextS x.st v = y.st → false = true) := Lib.hid (fun v g1 g2 g3 g4 => by
                            by_cases ee : v = (ev : Int)
                            · subst ee; exact absurd (HAD.out.2.trans g3) d0
                            · exact hW.out v g1 (by omega) g3 g4)
                          clear hW d0
                          go_wp2_with fail
                          refine hK.mono ?_
                          rintro e wz ⟨rfl, rfl⟩
                          go_wp2
                          go_roundw
                          case rel => exact ⟨ev + 1, false, by first | rfl | simp, by go_num, by omega, by omega, by first | rfl | trivial, HN'⟩
                          case measure => simp; omega
                      · clear hW
                        go_wp2_with fail
                        refine hK.mono ?_
                        rintro e wz ⟨rfl, rfl⟩
                        go_wp2
                        go_roundw
                        case rel => exact ⟨ev + 1, true, by first | rfl | simp, by go_num, by omega, by omega, by first | rfl | trivial, Lib.hid (fun _ _ _ _ _ => rfl)⟩
                        case measure => simp; omega
                    · have te : decide ((ev : Int) ≤ 6) = false := decide_eq_false (by exact_mod_cast he)
                      obtain rfl : ok = true := by
                        obtain ⟨v, g1, g2, g3, g4⟩ := HTU.out
                        exact hW.out v g1 (by omega) g3 g4
                      clear hW he
                      go_wp2
                      go_quiet (fail)
                      have HBq := Lib.hid (HBv.out.trans (below_drewN (Below.refl _ _) nq))
                      clear HBv
                      go_wp2
                      go_roundw
                      case rel => exact ⟨k + 1, by go_num, by omega, HBq⟩
                      case measure => simp; omega
              · as_aux_lemma =>
                have HOv : Hid (∀ W, Calls Try.prog 12 #[.int .i64 x.st] W fun e w' => e = .returned (.bool true) ∧ W = w') := Lib.hid (fun W => by rw [← ho]; exact over_any x.st W)
                obtain rfl : x = y := by
                  rcases HXY.out with e | e
                  · exact e.symm
                  · have := e.2.alive
                    unfold GL.overB at ho
                    simp at ho
                    omega
                have ry : RcAt v8 wr.heap.size 0 x := rcAt_of HX8.out
                have hrn := fun W => rc_ne x W
                clear ho
                refine held_begin (fun w' : World => CellsAt w' wr.heap.size 0 (jbC x.job) ∧ CellsAt w' b1 (k * 16) (jbC x.job) ∧ w'.cell? ⟨b1, k * 16 + 8, none⟩ = some (.int .i64 x.st) ∧ RcAt w' wr.heap.size 0 x ∧ RcAt w' b1 (k * 16) x) (by kernel_rfl) ?_
                have hBh0 : Below v8.heap.size v8 v8.drew := (Below.refl _ _).drew
                have hSh0 : (fun w' : World => CellsAt w' wr.heap.size 0 (jbC x.job) ∧ CellsAt w' b1 (k * 16) (jbC x.job) ∧ w'.cell? ⟨b1, k * 16 + 8, none⟩ = some (.int .i64 x.st) ∧ RcAt w' wr.heap.size 0 x ∧ RcAt w' b1 (k * 16) x) v8.drew := ⟨jy, jx, s1, ry, rx⟩
                refine held_take (v := ?_) 0 131 rfl rfl (by kernel_rfl) (by kernel_rfl) (by kernel_rfl) (fun _ _ _ h => h) ⟨by rfl, ?_⟩ hSh0 ?_
                rotate_left
                · intro w' hw'; obtain ⟨x0, x1, x2, x3, x4⟩ := hw'; go_simp; (try with_reducible rfl)
                simp only [Act.put, List.setIfInBounds_toArray, List.set_cons_zero, List.set_cons_succ]
                refine held_take (v := ?_) 1 132 rfl rfl (by kernel_rfl) (by kernel_rfl) (by kernel_rfl) (fun _ _ _ h => h) ⟨by rfl, ?_⟩ hSh0 ?_
                rotate_left
                · intro w' hw'; obtain ⟨x0, x1, x2, x3, x4⟩ := hw'; refine Eq.trans (run_load_jb (by rfl) (by rfl) x0) ?_; (with_reducible rfl)
                simp only [Act.put, List.setIfInBounds_toArray, List.set_cons_zero, List.set_cons_succ]
                refine held_take (v := ?_) 2 133 rfl rfl (by kernel_rfl) (by kernel_rfl) (by kernel_rfl) (fun _ _ _ h => h) ⟨by rfl, ?_⟩ hSh0 ?_
                rotate_left
                · intro w' hw'; obtain ⟨x0, x1, x2, x3, x4⟩ := hw'; go_simp; (try with_reducible rfl)
                simp only [Act.put, List.setIfInBounds_toArray, List.set_cons_zero, List.set_cons_succ]
                refine held_take (v := ?_) 3 134 rfl rfl (by kernel_rfl) (by kernel_rfl) (by kernel_rfl) (fun _ _ _ h => h) ⟨by rfl, ?_⟩ hSh0 ?_
                rotate_left
                · intro w' hw'; obtain ⟨x0, x1, x2, x3, x4⟩ := hw'; go_simp; (try with_reducible rfl)
                simp only [Act.put, List.setIfInBounds_toArray, List.set_cons_zero, List.set_cons_succ]
                refine held_take (v := ?_) 4 135 rfl rfl (by kernel_rfl) (by kernel_rfl) (by kernel_rfl) (fun _ _ _ h => h) ⟨by rfl, ?_⟩ hSh0 ?_
                rotate_left
                · intro w' hw'; obtain ⟨x0, x1, x2, x3, x4⟩ := hw'; go_simp; (try with_reducible rfl)
                simp only [Act.put, List.setIfInBounds_toArray, List.set_cons_zero, List.set_cons_succ]
                refine held_take (v := ?_) 5 136 rfl rfl (by kernel_rfl) (by kernel_rfl) (by kernel_rfl) (fun _ _ _ h => h) ⟨by rfl, ?_⟩ hSh0 ?_
                rotate_left
                · intro w' hw'; obtain ⟨x0, x1, x2, x3, x4⟩ := hw'; go_simp; (try with_reducible rfl)
                simp only [Act.put, List.setIfInBounds_toArray, List.set_cons_zero, List.set_cons_succ]
                refine held_take (v := ?_) 6 137 rfl rfl (by kernel_rfl) (by kernel_rfl) (by kernel_rfl) (fun _ _ _ h => h) ⟨by rfl, ?_⟩ hSh0 ?_
                rotate_left
                · intro w' hw'; obtain ⟨x0, x1, x2, x3, x4⟩ := hw'; refine Eq.trans (run_load_jb (by rfl) (by rfl) x1) ?_; (with_reducible rfl)
                simp only [Act.put, List.setIfInBounds_toArray, List.set_cons_zero, List.set_cons_succ]
                refine held_take (v := ?_) 7 138 rfl rfl (by kernel_rfl) (by kernel_rfl) (by kernel_rfl) (fun _ _ _ h => h) ⟨by rfl, ?_⟩ hSh0 ?_
                rotate_left
                · intro w' hw'; obtain ⟨x0, x1, x2, x3, x4⟩ := hw'; go_simp; (try with_reducible rfl)
                simp only [Act.put, List.setIfInBounds_toArray, List.set_cons_zero, List.set_cons_succ]
                refine held_take (v := ?_) 8 139 rfl rfl (by kernel_rfl) (by kernel_rfl) (by kernel_rfl) (fun _ _ _ h => h) ⟨by rfl, ?_⟩ hSh0 ?_
                rotate_left
                · intro w' hw'; obtain ⟨x0, x1, x2, x3, x4⟩ := hw'; go_simp; (try with_reducible rfl)
                simp only [Act.put, List.setIfInBounds_toArray, List.set_cons_zero, List.set_cons_succ]
                refine held_take (v := ?_) 9 140 rfl rfl (by kernel_rfl) (by kernel_rfl) (by kernel_rfl) (fun _ _ _ h => h) ⟨by rfl, ?_⟩ hSh0 ?_
                rotate_left
                · intro w' hw'; obtain ⟨x0, x1, x2, x3, x4⟩ := hw'; go_simp; (try with_reducible rfl)
                simp only [Act.put, List.setIfInBounds_toArray, List.set_cons_zero, List.set_cons_succ]
                refine held_take (v := ?_) 10 141 rfl rfl (by kernel_rfl) (by kernel_rfl) (by kernel_rfl) (fun _ _ _ h => h) ⟨by rfl, ?_⟩ hSh0 ?_
                rotate_left
                · intro w' hw'; obtain ⟨x0, x1, x2, x3, x4⟩ := hw'; go_simp; (try with_reducible rfl)
                simp only [Act.put, List.setIfInBounds_toArray, List.set_cons_zero, List.set_cons_succ]
                refine held_take (v := ?_) 11 142 rfl rfl (by kernel_rfl) (by kernel_rfl) (by kernel_rfl) (fun _ _ _ h => h) ⟨by rfl, ?_⟩ hSh0 ?_
                rotate_left
                · intro w' hw'; obtain ⟨x0, x1, x2, x3, x4⟩ := hw'; go_simp; (try with_reducible rfl)
                simp only [Act.put, List.setIfInBounds_toArray, List.set_cons_zero, List.set_cons_succ]
                refine held_take (v := ?_) 12 143 rfl rfl (by kernel_rfl) (by kernel_rfl) (by kernel_rfl) (fun _ _ _ h => h) ⟨by rfl, ?_⟩ hSh0 ?_
                rotate_left
                · intro w' hw'; obtain ⟨x0, x1, x2, x3, x4⟩ := hw'; go_simp; (try with_reducible rfl)
                simp only [Act.put, List.setIfInBounds_toArray, List.set_cons_zero, List.set_cons_succ]
                refine held_take (v := ?_) 13 144 rfl rfl (by kernel_rfl) (by kernel_rfl) (by kernel_rfl) (fun _ _ _ h => h) ⟨by rfl, ?_⟩ hSh0 ?_
                rotate_left
                · intro w' hw'; obtain ⟨x0, x1, x2, x3, x4⟩ := hw'; go_simp; (try with_reducible rfl)
                simp only [Act.put, List.setIfInBounds_toArray, List.set_cons_zero, List.set_cons_succ]
                refine held_one 14 rfl (by kernel_rfl) (by rfl) (fun K hK => ?_)
                go_simp
                go_at_call 12
                refine (HOv.out v8.drew).mono ?_
                rintro e w' ⟨rfl, rfl⟩
                refine hK.out _ _ hSh0 ?_
                clear hK K
                refine held_take (v := ?_) 15 146 rfl rfl (by kernel_rfl) (by kernel_rfl) (by kernel_rfl) (fun _ _ _ h => h) ⟨by rfl, ?_⟩ hSh0 ?_
                rotate_left
                · intro w' hw'; obtain ⟨x0, x1, x2, x3, x4⟩ := hw'; go_simp; (try with_reducible rfl)
                simp only [Act.put, List.setIfInBounds_toArray, List.set_cons_zero, List.set_cons_succ]
                refine held_take (v := ?_) 16 147 rfl rfl (by kernel_rfl) (by kernel_rfl) (by kernel_rfl) (fun _ _ _ h => h) ⟨by rfl, ?_⟩ hSh0 ?_
                rotate_left
                · intro w' hw'; obtain ⟨x0, x1, x2, x3, x4⟩ := hw'; refine Eq.trans (run_load_rc (by rfl) (by rfl) x3) ?_; (with_reducible rfl)
                simp only [Act.put, List.setIfInBounds_toArray, List.set_cons_zero, List.set_cons_succ]
                refine held_take (v := ?_) 17 148 rfl rfl (by kernel_rfl) (by kernel_rfl) (by kernel_rfl) (fun _ _ _ h => h) ⟨by rfl, ?_⟩ hSh0 ?_
                rotate_left
                · intro w' hw'; obtain ⟨x0, x1, x2, x3, x4⟩ := hw'; go_simp; (try with_reducible rfl)
                simp only [Act.put, List.setIfInBounds_toArray, List.set_cons_zero, List.set_cons_succ]
                refine held_take (v := ?_) 18 149 rfl rfl (by kernel_rfl) (by kernel_rfl) (by kernel_rfl) (fun _ _ _ h => h) ⟨by rfl, ?_⟩ hSh0 ?_
                rotate_left
                · intro w' hw'; obtain ⟨x0, x1, x2, x3, x4⟩ := hw'; go_simp; (try with_reducible rfl)
                simp only [Act.put, List.setIfInBounds_toArray, List.set_cons_zero, List.set_cons_succ]
                refine held_take (v := ?_) 19 150 rfl rfl (by kernel_rfl) (by kernel_rfl) (by kernel_rfl) (fun _ _ _ h => h) ⟨by rfl, ?_⟩ hSh0 ?_
                rotate_left
                · intro w' hw'; obtain ⟨x0, x1, x2, x3, x4⟩ := hw'; go_simp; (try with_reducible rfl)
                simp only [Act.put, List.setIfInBounds_toArray, List.set_cons_zero, List.set_cons_succ]
                refine held_take (v := ?_) 20 151 rfl rfl (by kernel_rfl) (by kernel_rfl) (by kernel_rfl) (fun _ _ _ h => h) ⟨by rfl, ?_⟩ hSh0 ?_
                rotate_left
                · intro w' hw'; obtain ⟨x0, x1, x2, x3, x4⟩ := hw'; refine Eq.trans (run_load_rc (by rfl) (by rfl) x4) ?_; (with_reducible rfl)
                simp only [Act.put, List.setIfInBounds_toArray, List.set_cons_zero, List.set_cons_succ]
                refine held_take (v := ?_) 21 152 rfl rfl (by kernel_rfl) (by kernel_rfl) (by kernel_rfl) (fun _ _ _ h => h) ⟨by rfl, ?_⟩ hSh0 ?_
                rotate_left
                · intro w' hw'; obtain ⟨x0, x1, x2, x3, x4⟩ := hw'; go_simp; (try with_reducible rfl)
                simp only [Act.put, List.setIfInBounds_toArray, List.set_cons_zero, List.set_cons_succ]
                refine held_take (v := ?_) 22 153 rfl rfl (by kernel_rfl) (by kernel_rfl) (by kernel_rfl) (fun _ _ _ h => h) ⟨by rfl, ?_⟩ hSh0 ?_
                rotate_left
                · intro w' hw'; obtain ⟨x0, x1, x2, x3, x4⟩ := hw'; go_simp; (try with_reducible rfl)
                simp only [Act.put, List.setIfInBounds_toArray, List.set_cons_zero, List.set_cons_succ]
                refine held_take (v := ?_) 23 154 rfl rfl (by kernel_rfl) (by kernel_rfl) (by kernel_rfl) (fun _ _ _ h => h) ⟨by rfl, ?_⟩ hSh0 ?_
                rotate_left
                · intro w' hw'; obtain ⟨x0, x1, x2, x3, x4⟩ := hw'; go_simp; (try with_reducible rfl)
                simp only [Act.put, List.setIfInBounds_toArray, List.set_cons_zero, List.set_cons_succ]
                refine wpAnyH_done (by kernel_rfl) ?_ _
                have q8 : v8.drew.cell? ⟨wr.heap.size, 8, none⟩ = some (.int .i64 x.st) := (rcAt_of HX8.out) 8 _ rfl
                have q0 : v8.drew.cell? ⟨wr.heap.size, 0, none⟩ = some (.int .i64 x.id) := (rcAt_of HX8.out) 0 _ rfl
                have qx : v8.drew.cell? ⟨b1, k * 16 + 8, none⟩ = some (.int .i64 x.st) := s1
                have qa : v8.drew.cell? ⟨b, off + i * 12 + 4, none⟩ = some (.int .i64 a.j.id) := (ga_job HCa.out) 0 _ rfl
                have HBd := Lib.hid (show Below w5.heap.size w5 v8.drew from HB8.out.trans (Below.refl _ v8).drew)
                clear rx jx jy hjn ry hrn
                generalize v8.drew = vd at q8 q0 qx qa HBd hSh0 hBh0 ⊢
                have tS : (x.st != x.st) = false := by simp
                go_wp2
                go_quiet (fail)
                have HBq := Lib.hid (HBd.out.trans (below_drewN (Below.refl _ _) nq))
                clear HBd q8 q0 qx qa
                go_wp2
                go_roundw
                case rel => exact ⟨k + 1, by go_num, by omega, HBq⟩
                case measure => simp; omega
            · exfalso
              have hnew := HAT.out.2.2.2 k y (by rw [← HN.out]; exact Nat.not_lt.1 hkn) HY.out
              rw [hnew.1] at p2
              exact absurd p2 (by decide)
          · as_aux_lemma =>
            have p1 : (y.st == 2) = false := by simpa using h2
            have p2 : (y.st == 3) = false := by simpa using h3
            have m1 : (y.me != 0) = false := by simp [hok.free h2 h3]
            have m2 : (y.li != 0) = false := by simp [(hok.rest h2).1]
            have m3 : (y.wo != 0) = false := by simp [(hok.rest h2).2]
            clear h2 h3 hok
            by_cases hkn : k < n
            · have t4 : decide (n ≤ k) = false := decide_eq_false (Nat.not_le.2 hkn)
              obtain ⟨x, hx⟩ : ∃ x, L[k]? = some x := ⟨_, List.getElem?_eq_getElem (by rw [← HN.out]; exact hkn)⟩
              obtain ⟨b1, e1, lb1', r1'⟩ := HE5.out k x hx
              have hxy := HAT.out.2.2.1 k x y hx HY.out
              have hjob : y.job = x.job := by
                rcases hxy with e | e
                · rw [e]
                · exact e.2.job
              have rx : RcAt v8 b1 (k * 16) x := r1'.keep lb1' HB8.out
              have lb1 : b1 < v8.heap.size := Nat.lt_of_lt_of_le lb1' HB8.out.size
              have jx := rc_job rx
              have s1 : v8.cell? ⟨b1, k * 16 + 8, none⟩ = some (.int .i64 x.st) := rx 8 _ rfl
              have jy : CellsAt v8 wr.heap.size 0 (jbC x.job) := by rw [← hjob]; exact rc_job (rcAt_of HX8.out)
              have HXY := Lib.hid hxy
              have hjn := fun W => jb_ne x.job W
              have HF := Lib.hid (And.intro rx (And.intro jx (And.intro s1 jy)))
              subst e1
              clear hx r1' hxy hjob rx jx s1 jy hjn
              have HNum := Lib.hid (And.intro hk (And.intro hkn (And.intro hn12 (And.intro hn21 (And.intro hn22 lB8)))))
              clear hk hkn hn12 hn21 hn22 lB8
              obtain ⟨y8, y10, y11, y14, y15, y6, y7, y0⟩ := Y.out
              go_wp2_with (first
                | (have hr2 := HR2.out; refine wpList_load_rc rfl _ rfl b2 (k * 16) y rfl hr2 ?_; clear hr2 HR2)
                | (have hz2 := HZ.out; refine wpList_store_rc rfl _ _ rfl wr.heap.size y rfl rfl GL.zr hz2 ?_; rw [← rcO_zr, ← HV8.out]; clear hz2 HZ)
                | fail)
              clear y8 y10 y11 y14 y15 y6 y7 y0 t3 t4 tn wk p1 p2 m1 m2 m3
              obtain ⟨hk, hkn, hn12, hn21, hn22, lB8⟩ := HNum.out
              clear HNum
              obtain ⟨rx, jx, s1, jy⟩ := HF.out
              have hjn := fun W => jb_ne x.job W
              cases ho : GL.overB x.st
              · as_aux_lemma =>
                have HOv : Hid (∀ W, Calls Try.prog 12 #[.int .i64 x.st] W fun e w' => e = .returned (.bool false) ∧ W = w') := Lib.hid (fun W => by rw [← ho]; exact over_any x.st W)
                clear ho
                refine held_begin (fun w' : World => CellsAt w' wr.heap.size 0 (jbC x.job) ∧ CellsAt w' b1 (k * 16) (jbC x.job) ∧ w'.cell? ⟨b1, k * 16 + 8, none⟩ = some (.int .i64 x.st)) (by kernel_rfl) ?_
                have hBh0 : Below v8.heap.size v8 v8.drew := (Below.refl _ _).drew
                have hSh0 : (fun w' : World => CellsAt w' wr.heap.size 0 (jbC x.job) ∧ CellsAt w' b1 (k * 16) (jbC x.job) ∧ w'.cell? ⟨b1, k * 16 + 8, none⟩ = some (.int .i64 x.st)) v8.drew := ⟨jy, jx, s1⟩
                refine held_take (v := ?_) 0 131 rfl rfl (by kernel_rfl) (by kernel_rfl) (by kernel_rfl) (fun _ _ _ h => h) ⟨by rfl, ?_⟩ hSh0 ?_
                rotate_left
                · intro w' hw'; obtain ⟨x0, x1, x2⟩ := hw'; go_simp; (try with_reducible rfl)
                simp only [Act.put, List.setIfInBounds_toArray, List.set_cons_zero, List.set_cons_succ]
                refine held_take (v := ?_) 1 132 rfl rfl (by kernel_rfl) (by kernel_rfl) (by kernel_rfl) (fun _ _ _ h => h) ⟨by rfl, ?_⟩ hSh0 ?_
                rotate_left
                · intro w' hw'; obtain ⟨x0, x1, x2⟩ := hw'; refine Eq.trans (run_load_jb (by rfl) (by rfl) x0) ?_; (with_reducible rfl)
                simp only [Act.put, List.setIfInBounds_toArray, List.set_cons_zero, List.set_cons_succ]
                refine held_take (v := ?_) 2 133 rfl rfl (by kernel_rfl) (by kernel_rfl) (by kernel_rfl) (fun _ _ _ h => h) ⟨by rfl, ?_⟩ hSh0 ?_
                rotate_left
                · intro w' hw'; obtain ⟨x0, x1, x2⟩ := hw'; go_simp; (try with_reducible rfl)
                simp only [Act.put, List.setIfInBounds_toArray, List.set_cons_zero, List.set_cons_succ]
                refine held_take (v := ?_) 3 134 rfl rfl (by kernel_rfl) (by kernel_rfl) (by kernel_rfl) (fun _ _ _ h => h) ⟨by rfl, ?_⟩ hSh0 ?_
                rotate_left
                · intro w' hw'; obtain ⟨x0, x1, x2⟩ := hw'; go_simp; (try with_reducible rfl)
                simp only [Act.put, List.setIfInBounds_toArray, List.set_cons_zero, List.set_cons_succ]
                refine held_take (v := ?_) 4 135 rfl rfl (by kernel_rfl) (by kernel_rfl) (by kernel_rfl) (fun _ _ _ h => h) ⟨by rfl, ?_⟩ hSh0 ?_
                rotate_left
                · intro w' hw'; obtain ⟨x0, x1, x2⟩ := hw'; go_simp; (try with_reducible rfl)
                simp only [Act.put, List.setIfInBounds_toArray, List.set_cons_zero, List.set_cons_succ]
                refine held_take (v := ?_) 5 136 rfl rfl (by kernel_rfl) (by kernel_rfl) (by kernel_rfl) (fun _ _ _ h => h) ⟨by rfl, ?_⟩ hSh0 ?_
                rotate_left
                · intro w' hw'; obtain ⟨x0, x1, x2⟩ := hw'; go_simp; (try with_reducible rfl)
                simp only [Act.put, List.setIfInBounds_toArray, List.set_cons_zero, List.set_cons_succ]
                refine held_take (v := ?_) 6 137 rfl rfl (by kernel_rfl) (by kernel_rfl) (by kernel_rfl) (fun _ _ _ h => h) ⟨by rfl, ?_⟩ hSh0 ?_
                rotate_left
                · intro w' hw'; obtain ⟨x0, x1, x2⟩ := hw'; refine Eq.trans (run_load_jb (by rfl) (by rfl) x1) ?_; (with_reducible rfl)
                simp only [Act.put, List.setIfInBounds_toArray, List.set_cons_zero, List.set_cons_succ]
                refine held_take (v := ?_) 7 138 rfl rfl (by kernel_rfl) (by kernel_rfl) (by kernel_rfl) (fun _ _ _ h => h) ⟨by rfl, ?_⟩ hSh0 ?_
                rotate_left
                · intro w' hw'; obtain ⟨x0, x1, x2⟩ := hw'; go_simp; (try with_reducible rfl)
                simp only [Act.put, List.setIfInBounds_toArray, List.set_cons_zero, List.set_cons_succ]
                refine held_take (v := ?_) 8 139 rfl rfl (by kernel_rfl) (by kernel_rfl) (by kernel_rfl) (fun _ _ _ h => h) ⟨by rfl, ?_⟩ hSh0 ?_
                rotate_left
                · intro w' hw'; obtain ⟨x0, x1, x2⟩ := hw'; go_simp; (try with_reducible rfl)
                simp only [Act.put, List.setIfInBounds_toArray, List.set_cons_zero, List.set_cons_succ]
                refine held_take (v := ?_) 9 140 rfl rfl (by kernel_rfl) (by kernel_rfl) (by kernel_rfl) (fun _ _ _ h => h) ⟨by rfl, ?_⟩ hSh0 ?_
                rotate_left
                · intro w' hw'; obtain ⟨x0, x1, x2⟩ := hw'; go_simp; (try with_reducible rfl)
                simp only [Act.put, List.setIfInBounds_toArray, List.set_cons_zero, List.set_cons_succ]
                refine held_take (v := ?_) 10 141 rfl rfl (by kernel_rfl) (by kernel_rfl) (by kernel_rfl) (fun _ _ _ h => h) ⟨by rfl, ?_⟩ hSh0 ?_
                rotate_left
                · intro w' hw'; obtain ⟨x0, x1, x2⟩ := hw'; go_simp; (try with_reducible rfl)
                simp only [Act.put, List.setIfInBounds_toArray, List.set_cons_zero, List.set_cons_succ]
                refine held_take (v := ?_) 11 142 rfl rfl (by kernel_rfl) (by kernel_rfl) (by kernel_rfl) (fun _ _ _ h => h) ⟨by rfl, ?_⟩ hSh0 ?_
                rotate_left
                · intro w' hw'; obtain ⟨x0, x1, x2⟩ := hw'; go_simp; (try with_reducible rfl)
                simp only [Act.put, List.setIfInBounds_toArray, List.set_cons_zero, List.set_cons_succ]
                refine held_take (v := ?_) 12 143 rfl rfl (by kernel_rfl) (by kernel_rfl) (by kernel_rfl) (fun _ _ _ h => h) ⟨by rfl, ?_⟩ hSh0 ?_
                rotate_left
                · intro w' hw'; obtain ⟨x0, x1, x2⟩ := hw'; go_simp; (try with_reducible rfl)
                simp only [Act.put, List.setIfInBounds_toArray, List.set_cons_zero, List.set_cons_succ]
                refine held_take (v := ?_) 13 144 rfl rfl (by kernel_rfl) (by kernel_rfl) (by kernel_rfl) (fun _ _ _ h => h) ⟨by rfl, ?_⟩ hSh0 ?_
                rotate_left
                · intro w' hw'; obtain ⟨x0, x1, x2⟩ := hw'; go_simp; (try with_reducible rfl)
                simp only [Act.put, List.setIfInBounds_toArray, List.set_cons_zero, List.set_cons_succ]
                refine held_one 14 rfl (by kernel_rfl) (by rfl) (fun K hK => ?_)
                go_simp
                go_at_call 12
                refine (HOv.out v8.drew).mono ?_
                rintro e w' ⟨rfl, rfl⟩
                refine hK.out _ _ hSh0 ?_
                clear hK K
                refine held_take (v := ?_) 15 146 rfl rfl (by kernel_rfl) (by kernel_rfl) (by kernel_rfl) (fun _ _ _ h => h) ⟨by rfl, ?_⟩ hSh0 ?_
                rotate_left
                · intro w' hw'; obtain ⟨x0, x1, x2⟩ := hw'; go_simp; (try with_reducible rfl)
                simp only [Act.put, List.setIfInBounds_toArray, List.set_cons_zero, List.set_cons_succ]
                refine held_skip 16 147 rfl rfl (by kernel_rfl) (by kernel_rfl) (by kernel_rfl) (fun _ _ _ h => h) (by rfl) hSh0 ?_
                simp only [Act.put, List.setIfInBounds_toArray, List.set_cons_zero, List.set_cons_succ]
                refine held_skip 17 148 rfl rfl (by kernel_rfl) (by kernel_rfl) (by kernel_rfl) (fun _ _ _ h => h) (by rfl) hSh0 ?_
                simp only [Act.put, List.setIfInBounds_toArray, List.set_cons_zero, List.set_cons_succ]
                refine held_skip 18 149 rfl rfl (by kernel_rfl) (by kernel_rfl) (by kernel_rfl) (fun _ _ _ h => h) (by rfl) hSh0 ?_
                simp only [Act.put, List.setIfInBounds_toArray, List.set_cons_zero, List.set_cons_succ]
                refine held_skip 19 150 rfl rfl (by kernel_rfl) (by kernel_rfl) (by kernel_rfl) (fun _ _ _ h => h) (by rfl) hSh0 ?_
                simp only [Act.put, List.setIfInBounds_toArray, List.set_cons_zero, List.set_cons_succ]
                refine held_skip 20 151 rfl rfl (by kernel_rfl) (by kernel_rfl) (by kernel_rfl) (fun _ _ _ h => h) (by rfl) hSh0 ?_
                simp only [Act.put, List.setIfInBounds_toArray, List.set_cons_zero, List.set_cons_succ]
                refine held_skip 21 152 rfl rfl (by kernel_rfl) (by kernel_rfl) (by kernel_rfl) (fun _ _ _ h => h) (by rfl) hSh0 ?_
                simp only [Act.put, List.setIfInBounds_toArray, List.set_cons_zero, List.set_cons_succ]
                refine held_take (v := ?_) 22 153 rfl rfl (by kernel_rfl) (by kernel_rfl) (by kernel_rfl) (fun _ _ _ h => h) ⟨by rfl, ?_⟩ hSh0 ?_
                rotate_left
                · intro w' hw'; obtain ⟨x0, x1, x2⟩ := hw'; go_simp; (try with_reducible rfl)
                simp only [Act.put, List.setIfInBounds_toArray, List.set_cons_zero, List.set_cons_succ]
                refine held_take (v := ?_) 23 154 rfl rfl (by kernel_rfl) (by kernel_rfl) (by kernel_rfl) (fun _ _ _ h => h) ⟨by rfl, ?_⟩ hSh0 ?_
                rotate_left
                · intro w' hw'; obtain ⟨x0, x1, x2⟩ := hw'; go_simp; (try with_reducible rfl)
                simp only [Act.put, List.setIfInBounds_toArray, List.set_cons_zero, List.set_cons_succ]
                refine wpAnyH_done (by kernel_rfl) ?_ _
                have q8 : v8.drew.cell? ⟨wr.heap.size, 8, none⟩ = some (.int .i64 y.st) := (rcAt_of HX8.out) 8 _ rfl
                have q0 : v8.drew.cell? ⟨wr.heap.size, 0, none⟩ = some (.int .i64 y.id) := (rcAt_of HX8.out) 0 _ rfl
                have qx : v8.drew.cell? ⟨b1, k * 16 + 8, none⟩ = some (.int .i64 x.st) := s1
                have qa : v8.drew.cell? ⟨b, off + i * 12 + 4, none⟩ = some (.int .i64 a.j.id) := (ga_job HCa.out) 0 _ rfl
                have HBd := Lib.hid (show Below w5.heap.size w5 v8.drew from HB8.out.trans (Below.refl _ v8).drew)
                clear rx jx jy hjn
                generalize v8.drew = vd at q8 q0 qx qa HBd hSh0 hBh0 ⊢
                by_cases hst : y.st = x.st
                · have tS : (y.st != x.st) = false := by simp [hst]
                  clear hst
                  go_wp2
                  go_quiet (fail)
                  have HBq := Lib.hid (HBd.out.trans (below_drewN (Below.refl _ _) nq))
                  clear HBd q8 q0 qx qa
                  go_wp2
                  go_roundw
                  case rel => exact ⟨k + 1, by go_num, by omega, HBq⟩
                  case measure => simp; omega
                · have htu : GL.nextE x.st 0 ≠ 0 ∧ ∃ v : Int, 1 ≤ v ∧ v ≤ 6 ∧ GL.nextE x.st v = 0 ∧ GL.nextS x.st v = y.st := ⟨by unfold GL.nextE GL.may; simp, by
                    rcases HXY.out with e | e
                    · exact absurd (by rw [e]) hst
                    · rcases e.2.way with e2 | e2
                      · exact absurd e2 hst
                      · exact e2⟩
                  have hidd : y.id = a.j.id := by
                    rcases HXY.out with e | e
                    · exact absurd (by rw [e]) hst
                    · have := e.2.job
                      have h2 : y.job.id = x.job.id := by rw [this]
                      exact h2.trans e.1
                  have tS : (y.st != x.st) = true := by simpa using hst
                  have tI : (y.id != a.j.id) = false := by simp [hidd]
                  have HTU := Lib.hid htu.2
                  have HRN := Lib.hid (fun (v : Int) (W : World) => rnext_any x.st v W)
                  clear htu hidd hst
                  go_wp2
                  go_quiet (fail)
                  obtain ⟨vq, hvq⟩ : ∃ vq, vq = vd.drewN nq := ⟨_, rfl⟩
                  rw [← hvq]
                  have r8 : vq.cell? ⟨wr.heap.size, 8, none⟩ = some (.int .i64 y.st) := by rw [hvq]; exact q8
                  have r0 : vq.cell? ⟨wr.heap.size, 0, none⟩ = some (.int .i64 y.id) := by rw [hvq]; exact q0
                  have rxx : vq.cell? ⟨b1, k * 16 + 8, none⟩ = some (.int .i64 x.st) := by rw [hvq]; exact qx
                  have ra : vq.cell? ⟨b, off + i * 12 + 4, none⟩ = some (.int .i64 a.j.id) := by rw [hvq]; exact qa
                  have HBv := Lib.hid (show Below w5.heap.size w5 vq by rw [hvq]; exact HBd.out.trans (below_drewN (Below.refl _ _) nq))
                  obtain ⟨B8, hB8⟩ : ∃ B8, B8 = wr.heap.size := ⟨_, rfl⟩
                  rw [← hB8] at r8 r0 ⊢
                  clear hvq q8 q0 qx qa hB8 tS HBd
                  have HW0 : Hid (∀ v : Int, 1 ≤ v → v < ((1 : Nat) : Int) → GL.nextE x.st v = 0 → GL.nextS x.st v = y.st → false = true) := Lib.hid (fun v h1 h2 => by omega)
                  go_wp2
                  go_loopw [10, 11] (fun vo ve wz => ∃ (ev : Nat) (ok : Bool), vo = .bool ok ∧ ve = .int .i64 ev ∧ 1 ≤ ev ∧ ev ≤ 7 ∧ vq = wz ∧ Hid (∀ v : Int, 1 ≤ v → v < (ev : Int) → GL.nextE x.st v = 0 → GL.nextS x.st v = y.st → ok = true)) (fun _ ve _ => match ve with | .int _ i => 7 - i.toNat | _ => 0)
                  case atStart => exact ⟨1, false, rfl, rfl, by omega, by omega, rfl, HW0⟩
                  case round =>
                    clear HW0
                    obtain ⟨ev, ok, rfl, rfl, ev1, ev7, rfl, hW⟩ := hrel
                    by_cases he : ev ≤ 6
                    · have te : decide ((ev : Int) ≤ 6) = true := decide_eq_true (by exact_mod_cast he)
                      obtain ⟨a1, ha1⟩ : ∃ a1, a1 = GL.nextS x.st (ev : Int) := ⟨_, rfl⟩
                      obtain ⟨d1, hd1⟩ : ∃ d1, d1 = GL.nextE x.st (ev : Int) := ⟨_, rfl⟩
                      have hK := HRN.out (ev : Int) vq
                      rw [← ha1, ← hd1] at hK
                      have HAD := Lib.hid (And.intro ha1 hd1)
                      clear ha1 hd1
                      cases ok
                      · by_cases d0 : d1 = 0
                        · by_cases aa : a1 = y.st
                          · have u1 : (d1 == 0) = true := by simp [d0]
                            have u2 : (a1 == y.st) = true := by simp [aa]
                            clear hW d0 aa
                            go_wp2_with fail
                            refine hK.mono ?_
                            rintro e wz ⟨rfl, rfl⟩
                            go_wp2
                            go_roundw
                            case rel => exact ⟨ev + 1, true, by first | rfl | simp, by go_num, by omega, by omega, by first | rfl | trivial, Lib.hid (fun _ _ _ _ _ => rfl)⟩
                            case measure => simp; omega
                          · have u1 : (d1 == 0) = true := by simp [d0]
                            have u2 : (a1 == y.st) = false := by simpa using aa
                            have HN' : Hid (∀ v : Int, 1 ≤ v → v < ((ev + 1 : Nat) : Int) → GL.nextE x.st v = 0 → GL.nextS x.st v = y.st → false = true) := Lib.hid (fun v g1 g2 g3 g4 => by
                              by_cases ee : v = (ev : Int)
                              · subst ee; exact absurd (HAD.out.1.trans g4) aa
                              · exact hW.out v g1 (by omega) g3 g4)
                            clear hW d0 aa
                            go_wp2_with fail
                            refine hK.mono ?_
                            rintro e wz ⟨rfl, rfl⟩
                            go_wp2
                            go_roundw
                            case rel => exact ⟨ev + 1, false, by first | rfl | simp, by go_num, by omega, by omega, by first | rfl | trivial, HN'⟩
                            case measure => simp; omega
                        · have u1 : (d1 == 0) = false := by simpa using d0
                          have HN' : Hid (∀ v : Int, 1 ≤ v → v < ((ev + 1 : Nat) : Int) → GL.nextE x.st v = 0 → GL.nextS x.st v = y.st → false = true) := Lib.hid (fun v g1 g2 g3 g4 => by
                            by_cases ee : v = (ev : Int)
                            · subst ee; exact absurd (HAD.out.2.trans g3) d0
                            · exact hW.out v g1 (by omega) g3 g4)
                          clear hW d0
                          go_wp2_with fail
                          refine hK.mono ?_
                          rintro e wz ⟨rfl, rfl⟩
                          go_wp2
                          go_roundw
                          case rel => exact ⟨ev + 1, false, by first | rfl | simp, by go_num, by omega, by omega, by first | rfl | trivial, HN'⟩
                          case measure => simp; omega
                      · clear hW
                        go_wp2_with fail
                        refine hK.mono ?_
                        rintro e wz ⟨rfl, rfl⟩
                        go_wp2
                        go_roundw
                        case rel => exact ⟨ev + 1, true, by first | rfl | simp, by go_num, by omega, by omega, by first | rfl | trivial, Lib.hid (fun _ _ _ _ _ => rfl)⟩
                        case measure => simp; omega
                    · have te : decide ((ev : Int) ≤ 6) = false := decide_eq_false (by exact_mod_cast he)
                      obtain rfl : ok = true := by
                        obtain ⟨v, g1, g2, g3, g4⟩ := HTU.out
                        exact hW.out v g1 (by omega) g3 g4
                      clear hW he
                      go_wp2
                      go_quiet (fail)
                      have HBq := Lib.hid (HBv.out.trans (below_drewN (Below.refl _ _) nq))
                      clear HBv
                      go_wp2
                      go_roundw
                      case rel => exact ⟨k + 1, by go_num, by omega, HBq⟩
                      case measure => simp; omega
              · as_aux_lemma =>
                have HOv : Hid (∀ W, Calls Try.prog 12 #[.int .i64 x.st] W fun e w' => e = .returned (.bool true) ∧ W = w') := Lib.hid (fun W => by rw [← ho]; exact over_any x.st W)
                obtain rfl : x = y := by
                  rcases HXY.out with e | e
                  · exact e.symm
                  · have := e.2.alive
                    unfold GL.overB at ho
                    simp at ho
                    omega
                have ry : RcAt v8 wr.heap.size 0 x := rcAt_of HX8.out
                have hrn := fun W => rc_ne x W
                clear ho
                refine held_begin (fun w' : World => CellsAt w' wr.heap.size 0 (jbC x.job) ∧ CellsAt w' b1 (k * 16) (jbC x.job) ∧ w'.cell? ⟨b1, k * 16 + 8, none⟩ = some (.int .i64 x.st) ∧ RcAt w' wr.heap.size 0 x ∧ RcAt w' b1 (k * 16) x) (by kernel_rfl) ?_
                have hBh0 : Below v8.heap.size v8 v8.drew := (Below.refl _ _).drew
                have hSh0 : (fun w' : World => CellsAt w' wr.heap.size 0 (jbC x.job) ∧ CellsAt w' b1 (k * 16) (jbC x.job) ∧ w'.cell? ⟨b1, k * 16 + 8, none⟩ = some (.int .i64 x.st) ∧ RcAt w' wr.heap.size 0 x ∧ RcAt w' b1 (k * 16) x) v8.drew := ⟨jy, jx, s1, ry, rx⟩
                refine held_take (v := ?_) 0 131 rfl rfl (by kernel_rfl) (by kernel_rfl) (by kernel_rfl) (fun _ _ _ h => h) ⟨by rfl, ?_⟩ hSh0 ?_
                rotate_left
                · intro w' hw'; obtain ⟨x0, x1, x2, x3, x4⟩ := hw'; go_simp; (try with_reducible rfl)
                simp only [Act.put, List.setIfInBounds_toArray, List.set_cons_zero, List.set_cons_succ]
                refine held_take (v := ?_) 1 132 rfl rfl (by kernel_rfl) (by kernel_rfl) (by kernel_rfl) (fun _ _ _ h => h) ⟨by rfl, ?_⟩ hSh0 ?_
                rotate_left
                · intro w' hw'; obtain ⟨x0, x1, x2, x3, x4⟩ := hw'; refine Eq.trans (run_load_jb (by rfl) (by rfl) x0) ?_; (with_reducible rfl)
                simp only [Act.put, List.setIfInBounds_toArray, List.set_cons_zero, List.set_cons_succ]
                refine held_take (v := ?_) 2 133 rfl rfl (by kernel_rfl) (by kernel_rfl) (by kernel_rfl) (fun _ _ _ h => h) ⟨by rfl, ?_⟩ hSh0 ?_
                rotate_left
                · intro w' hw'; obtain ⟨x0, x1, x2, x3, x4⟩ := hw'; go_simp; (try with_reducible rfl)
                simp only [Act.put, List.setIfInBounds_toArray, List.set_cons_zero, List.set_cons_succ]
                refine held_take (v := ?_) 3 134 rfl rfl (by kernel_rfl) (by kernel_rfl) (by kernel_rfl) (fun _ _ _ h => h) ⟨by rfl, ?_⟩ hSh0 ?_
                rotate_left
                · intro w' hw'; obtain ⟨x0, x1, x2, x3, x4⟩ := hw'; go_simp; (try with_reducible rfl)
                simp only [Act.put, List.setIfInBounds_toArray, List.set_cons_zero, List.set_cons_succ]
                refine held_take (v := ?_) 4 135 rfl rfl (by kernel_rfl) (by kernel_rfl) (by kernel_rfl) (fun _ _ _ h => h) ⟨by rfl, ?_⟩ hSh0 ?_
                rotate_left
                · intro w' hw'; obtain ⟨x0, x1, x2, x3, x4⟩ := hw'; go_simp; (try with_reducible rfl)
                simp only [Act.put, List.setIfInBounds_toArray, List.set_cons_zero, List.set_cons_succ]
                refine held_take (v := ?_) 5 136 rfl rfl (by kernel_rfl) (by kernel_rfl) (by kernel_rfl) (fun _ _ _ h => h) ⟨by rfl, ?_⟩ hSh0 ?_
                rotate_left
                · intro w' hw'; obtain ⟨x0, x1, x2, x3, x4⟩ := hw'; go_simp; (try with_reducible rfl)
                simp only [Act.put, List.setIfInBounds_toArray, List.set_cons_zero, List.set_cons_succ]
                refine held_take (v := ?_) 6 137 rfl rfl (by kernel_rfl) (by kernel_rfl) (by kernel_rfl) (fun _ _ _ h => h) ⟨by rfl, ?_⟩ hSh0 ?_
                rotate_left
                · intro w' hw'; obtain ⟨x0, x1, x2, x3, x4⟩ := hw'; refine Eq.trans (run_load_jb (by rfl) (by rfl) x1) ?_; (with_reducible rfl)
                simp only [Act.put, List.setIfInBounds_toArray, List.set_cons_zero, List.set_cons_succ]
                refine held_take (v := ?_) 7 138 rfl rfl (by kernel_rfl) (by kernel_rfl) (by kernel_rfl) (fun _ _ _ h => h) ⟨by rfl, ?_⟩ hSh0 ?_
                rotate_left
                · intro w' hw'; obtain ⟨x0, x1, x2, x3, x4⟩ := hw'; go_simp; (try with_reducible rfl)
                simp only [Act.put, List.setIfInBounds_toArray, List.set_cons_zero, List.set_cons_succ]
                refine held_take (v := ?_) 8 139 rfl rfl (by kernel_rfl) (by kernel_rfl) (by kernel_rfl) (fun _ _ _ h => h) ⟨by rfl, ?_⟩ hSh0 ?_
                rotate_left
                · intro w' hw'; obtain ⟨x0, x1, x2, x3, x4⟩ := hw'; go_simp; (try with_reducible rfl)
                simp only [Act.put, List.setIfInBounds_toArray, List.set_cons_zero, List.set_cons_succ]
                refine held_take (v := ?_) 9 140 rfl rfl (by kernel_rfl) (by kernel_rfl) (by kernel_rfl) (fun _ _ _ h => h) ⟨by rfl, ?_⟩ hSh0 ?_
                rotate_left
                · intro w' hw'; obtain ⟨x0, x1, x2, x3, x4⟩ := hw'; go_simp; (try with_reducible rfl)
                simp only [Act.put, List.setIfInBounds_toArray, List.set_cons_zero, List.set_cons_succ]
                refine held_take (v := ?_) 10 141 rfl rfl (by kernel_rfl) (by kernel_rfl) (by kernel_rfl) (fun _ _ _ h => h) ⟨by rfl, ?_⟩ hSh0 ?_
                rotate_left
                · intro w' hw'; obtain ⟨x0, x1, x2, x3, x4⟩ := hw'; go_simp; (try with_reducible rfl)
                simp only [Act.put, List.setIfInBounds_toArray, List.set_cons_zero, List.set_cons_succ]
                refine held_take (v := ?_) 11 142 rfl rfl (by kernel_rfl) (by kernel_rfl) (by kernel_rfl) (fun _ _ _ h => h) ⟨by rfl, ?_⟩ hSh0 ?_
                rotate_left
                · intro w' hw'; obtain ⟨x0, x1, x2, x3, x4⟩ := hw'; go_simp; (try with_reducible rfl)
                simp only [Act.put, List.setIfInBounds_toArray, List.set_cons_zero, List.set_cons_succ]
                refine held_take (v := ?_) 12 143 rfl rfl (by kernel_rfl) (by kernel_rfl) (by kernel_rfl) (fun _ _ _ h => h) ⟨by rfl, ?_⟩ hSh0 ?_
                rotate_left
                · intro w' hw'; obtain ⟨x0, x1, x2, x3, x4⟩ := hw'; go_simp; (try with_reducible rfl)
                simp only [Act.put, List.setIfInBounds_toArray, List.set_cons_zero, List.set_cons_succ]
                refine held_take (v := ?_) 13 144 rfl rfl (by kernel_rfl) (by kernel_rfl) (by kernel_rfl) (fun _ _ _ h => h) ⟨by rfl, ?_⟩ hSh0 ?_
                rotate_left
                · intro w' hw'; obtain ⟨x0, x1, x2, x3, x4⟩ := hw'; go_simp; (try with_reducible rfl)
                simp only [Act.put, List.setIfInBounds_toArray, List.set_cons_zero, List.set_cons_succ]
                refine held_one 14 rfl (by kernel_rfl) (by rfl) (fun K hK => ?_)
                go_simp
                go_at_call 12
                refine (HOv.out v8.drew).mono ?_
                rintro e w' ⟨rfl, rfl⟩
                refine hK.out _ _ hSh0 ?_
                clear hK K
                refine held_take (v := ?_) 15 146 rfl rfl (by kernel_rfl) (by kernel_rfl) (by kernel_rfl) (fun _ _ _ h => h) ⟨by rfl, ?_⟩ hSh0 ?_
                rotate_left
                · intro w' hw'; obtain ⟨x0, x1, x2, x3, x4⟩ := hw'; go_simp; (try with_reducible rfl)
                simp only [Act.put, List.setIfInBounds_toArray, List.set_cons_zero, List.set_cons_succ]
                refine held_take (v := ?_) 16 147 rfl rfl (by kernel_rfl) (by kernel_rfl) (by kernel_rfl) (fun _ _ _ h => h) ⟨by rfl, ?_⟩ hSh0 ?_
                rotate_left
                · intro w' hw'; obtain ⟨x0, x1, x2, x3, x4⟩ := hw'; refine Eq.trans (run_load_rc (by rfl) (by rfl) x3) ?_; (with_reducible rfl)
                simp only [Act.put, List.setIfInBounds_toArray, List.set_cons_zero, List.set_cons_succ]
                refine held_take (v := ?_) 17 148 rfl rfl (by kernel_rfl) (by kernel_rfl) (by kernel_rfl) (fun _ _ _ h => h) ⟨by rfl, ?_⟩ hSh0 ?_
                rotate_left
                · intro w' hw'; obtain ⟨x0, x1, x2, x3, x4⟩ := hw'; go_simp; (try with_reducible rfl)
                simp only [Act.put, List.setIfInBounds_toArray, List.set_cons_zero, List.set_cons_succ]
                refine held_take (v := ?_) 18 149 rfl rfl (by kernel_rfl) (by kernel_rfl) (by kernel_rfl) (fun _ _ _ h => h) ⟨by rfl, ?_⟩ hSh0 ?_
                rotate_left
                · intro w' hw'; obtain ⟨x0, x1, x2, x3, x4⟩ := hw'; go_simp; (try with_reducible rfl)
                simp only [Act.put, List.setIfInBounds_toArray, List.set_cons_zero, List.set_cons_succ]
                refine held_take (v := ?_) 19 150 rfl rfl (by kernel_rfl) (by kernel_rfl) (by kernel_rfl) (fun _ _ _ h => h) ⟨by rfl, ?_⟩ hSh0 ?_
                rotate_left
                · intro w' hw'; obtain ⟨x0, x1, x2, x3, x4⟩ := hw'; go_simp; (try with_reducible rfl)
                simp only [Act.put, List.setIfInBounds_toArray, List.set_cons_zero, List.set_cons_succ]
                refine held_take (v := ?_) 20 151 rfl rfl (by kernel_rfl) (by kernel_rfl) (by kernel_rfl) (fun _ _ _ h => h) ⟨by rfl, ?_⟩ hSh0 ?_
                rotate_left
                · intro w' hw'; obtain ⟨x0, x1, x2, x3, x4⟩ := hw'; refine Eq.trans (run_load_rc (by rfl) (by rfl) x4) ?_; (with_reducible rfl)
                simp only [Act.put, List.setIfInBounds_toArray, List.set_cons_zero, List.set_cons_succ]
                refine held_take (v := ?_) 21 152 rfl rfl (by kernel_rfl) (by kernel_rfl) (by kernel_rfl) (fun _ _ _ h => h) ⟨by rfl, ?_⟩ hSh0 ?_
                rotate_left
                · intro w' hw'; obtain ⟨x0, x1, x2, x3, x4⟩ := hw'; go_simp; (try with_reducible rfl)
                simp only [Act.put, List.setIfInBounds_toArray, List.set_cons_zero, List.set_cons_succ]
                refine held_take (v := ?_) 22 153 rfl rfl (by kernel_rfl) (by kernel_rfl) (by kernel_rfl) (fun _ _ _ h => h) ⟨by rfl, ?_⟩ hSh0 ?_
                rotate_left
                · intro w' hw'; obtain ⟨x0, x1, x2, x3, x4⟩ := hw'; go_simp; (try with_reducible rfl)
                simp only [Act.put, List.setIfInBounds_toArray, List.set_cons_zero, List.set_cons_succ]
                refine held_take (v := ?_) 23 154 rfl rfl (by kernel_rfl) (by kernel_rfl) (by kernel_rfl) (fun _ _ _ h => h) ⟨by rfl, ?_⟩ hSh0 ?_
                rotate_left
                · intro w' hw'; obtain ⟨x0, x1, x2, x3, x4⟩ := hw'; go_simp; (try with_reducible rfl)
                simp only [Act.put, List.setIfInBounds_toArray, List.set_cons_zero, List.set_cons_succ]
                refine wpAnyH_done (by kernel_rfl) ?_ _
                have q8 : v8.drew.cell? ⟨wr.heap.size, 8, none⟩ = some (.int .i64 x.st) := (rcAt_of HX8.out) 8 _ rfl
                have q0 : v8.drew.cell? ⟨wr.heap.size, 0, none⟩ = some (.int .i64 x.id) := (rcAt_of HX8.out) 0 _ rfl
                have qx : v8.drew.cell? ⟨b1, k * 16 + 8, none⟩ = some (.int .i64 x.st) := s1
                have qa : v8.drew.cell? ⟨b, off + i * 12 + 4, none⟩ = some (.int .i64 a.j.id) := (ga_job HCa.out) 0 _ rfl
                have HBd := Lib.hid (show Below w5.heap.size w5 v8.drew from HB8.out.trans (Below.refl _ v8).drew)
                clear rx jx jy hjn ry hrn
                generalize v8.drew = vd at q8 q0 qx qa HBd hSh0 hBh0 ⊢
                have tS : (x.st != x.st) = false := by simp
                go_wp2
                go_quiet (fail)
                have HBq := Lib.hid (HBd.out.trans (below_drewN (Below.refl _ _) nq))
                clear HBd q8 q0 qx qa
                go_wp2
                go_roundw
                case rel => exact ⟨k + 1, by go_num, by omega, HBq⟩
                case measure => simp; omega
            · have t4 : decide (n ≤ k) = true := decide_eq_true (Nat.not_lt.1 hkn)
              have hnew := HAT.out.2.2.2 k y (by rw [← HN.out]; exact Nat.not_lt.1 hkn) HY.out
              have z8 : v8.cell? ⟨wr.heap.size, 8, none⟩ = some (.int .i64 1) := by rw [← hnew.1]; exact (rcAt_of HX8.out) 8 _ rfl
              have jy : CellsAt v8 wr.heap.size 0 (jbC a.j) := by rw [← hnew.2]; exact rc_job (rcAt_of HX8.out)
              have ja := ga_job HCa.out
              have HF := Lib.hid (And.intro z8 (And.intro jy ja))
              clear hnew z8 jy ja
              have HNum := Lib.hid (And.intro hk (And.intro hkn (And.intro hn12 (And.intro hn21 (And.intro hn22 lB8)))))
              clear hk hkn hn12 hn21 hn22 lB8
              obtain ⟨y8, y10, y11, y14, y15, y6, y7, y0⟩ := Y.out
              go_wp2_with (first
                | (have hr2 := HR2.out; refine wpList_load_rc rfl _ rfl b2 (k * 16) y rfl hr2 ?_; clear hr2 HR2)
                | (have hz2 := HZ.out; refine wpList_store_rc rfl _ _ rfl wr.heap.size y rfl rfl GL.zr hz2 ?_; rw [← rcO_zr, ← HV8.out]; clear hz2 HZ)
                | fail)
              clear y8 y10 y11 y14 y15 y6 y7 y0 t3 t4 tn wk p1 p2 m1 m2 m3
              obtain ⟨hk, hkn, hn12, hn21, hn22, lB8⟩ := HNum.out
              clear HNum
              obtain ⟨z8, jy, ja⟩ := HF.out
              have hjn := fun W => jb_ne a.j W
              refine held_begin (fun w' : World => w'.cell? ⟨wr.heap.size, 8, none⟩ = some (.int .i64 1) ∧ CellsAt w' wr.heap.size 0 (jbC a.j) ∧ CellsAt w' b (off + i * 12 + 4) (jbC a.j)) (by kernel_rfl) ?_
              have hBh0 : Below v8.heap.size v8 v8.drew := (Below.refl _ _).drew
              have hSh0 : (fun w' : World => w'.cell? ⟨wr.heap.size, 8, none⟩ = some (.int .i64 1) ∧ CellsAt w' wr.heap.size 0 (jbC a.j) ∧ CellsAt w' b (off + i * 12 + 4) (jbC a.j)) v8.drew := ⟨z8, jy, ja⟩
              refine held_take (v := ?_) 0 118 rfl rfl (by kernel_rfl) (by kernel_rfl) (by kernel_rfl) (fun _ _ _ h => h) ⟨by rfl, ?_⟩ hSh0 ?_
              rotate_left
              · intro w' hw'; obtain ⟨x0, x1, x2⟩ := hw'; go_simp; (try with_reducible rfl)
              simp only [Act.put, List.setIfInBounds_toArray, List.set_cons_zero, List.set_cons_succ]
              refine held_take (v := ?_) 1 119 rfl rfl (by kernel_rfl) (by kernel_rfl) (by kernel_rfl) (fun _ _ _ h => h) ⟨by rfl, ?_⟩ hSh0 ?_
              rotate_left
              · intro w' hw'; obtain ⟨x0, x1, x2⟩ := hw'; go_simp; (try with_reducible rfl)
              simp only [Act.put, List.setIfInBounds_toArray, List.set_cons_zero, List.set_cons_succ]
              refine held_take (v := ?_) 2 120 rfl rfl (by kernel_rfl) (by kernel_rfl) (by kernel_rfl) (fun _ _ _ h => h) ⟨by rfl, ?_⟩ hSh0 ?_
              rotate_left
              · intro w' hw'; obtain ⟨x0, x1, x2⟩ := hw'; go_simp; (try with_reducible rfl)
              simp only [Act.put, List.setIfInBounds_toArray, List.set_cons_zero, List.set_cons_succ]
              refine held_take (v := ?_) 3 121 rfl rfl (by kernel_rfl) (by kernel_rfl) (by kernel_rfl) (fun _ _ _ h => h) ⟨by rfl, ?_⟩ hSh0 ?_
              rotate_left
              · intro w' hw'; obtain ⟨x0, x1, x2⟩ := hw'; go_simp; (try with_reducible rfl)
              simp only [Act.put, List.setIfInBounds_toArray, List.set_cons_zero, List.set_cons_succ]
              refine held_take (v := ?_) 4 122 rfl rfl (by kernel_rfl) (by kernel_rfl) (by kernel_rfl) (fun _ _ _ h => h) ⟨by rfl, ?_⟩ hSh0 ?_
              rotate_left
              · intro w' hw'; obtain ⟨x0, x1, x2⟩ := hw'; go_simp; (try with_reducible rfl)
              simp only [Act.put, List.setIfInBounds_toArray, List.set_cons_zero, List.set_cons_succ]
              refine held_take (v := ?_) 5 123 rfl rfl (by kernel_rfl) (by kernel_rfl) (by kernel_rfl) (fun _ _ _ h => h) ⟨by rfl, ?_⟩ hSh0 ?_
              rotate_left
              · intro w' hw'; obtain ⟨x0, x1, x2⟩ := hw'; refine Eq.trans (run_load_jb (by rfl) (by rfl) x1) ?_; (with_reducible rfl)
              simp only [Act.put, List.setIfInBounds_toArray, List.set_cons_zero, List.set_cons_succ]
              refine held_take (v := ?_) 6 124 rfl rfl (by kernel_rfl) (by kernel_rfl) (by kernel_rfl) (fun _ _ _ h => h) ⟨by rfl, ?_⟩ hSh0 ?_
              rotate_left
              · intro w' hw'; obtain ⟨x0, x1, x2⟩ := hw'; go_simp; (try with_reducible rfl)
              simp only [Act.put, List.setIfInBounds_toArray, List.set_cons_zero, List.set_cons_succ]
              refine held_take (v := ?_) 7 125 rfl rfl (by kernel_rfl) (by kernel_rfl) (by kernel_rfl) (fun _ _ _ h => h) ⟨by rfl, ?_⟩ hSh0 ?_
              rotate_left
              · intro w' hw'; obtain ⟨x0, x1, x2⟩ := hw'; go_simp; (try with_reducible rfl)
              simp only [Act.put, List.setIfInBounds_toArray, List.set_cons_zero, List.set_cons_succ]
              refine held_take (v := ?_) 8 126 rfl rfl (by kernel_rfl) (by kernel_rfl) (by kernel_rfl) (fun _ _ _ h => h) ⟨by rfl, ?_⟩ hSh0 ?_
              rotate_left
              · intro w' hw'; obtain ⟨x0, x1, x2⟩ := hw'; go_simp; (try with_reducible rfl)
              simp only [Act.put, List.setIfInBounds_toArray, List.set_cons_zero, List.set_cons_succ]
              refine held_take (v := ?_) 9 127 rfl rfl (by kernel_rfl) (by kernel_rfl) (by kernel_rfl) (fun _ _ _ h => h) ⟨by rfl, ?_⟩ hSh0 ?_
              rotate_left
              · intro w' hw'; obtain ⟨x0, x1, x2⟩ := hw'; go_simp; (try with_reducible rfl)
              simp only [Act.put, List.setIfInBounds_toArray, List.set_cons_zero, List.set_cons_succ]
              refine held_take (v := ?_) 10 128 rfl rfl (by kernel_rfl) (by kernel_rfl) (by kernel_rfl) (fun _ _ _ h => h) ⟨by rfl, ?_⟩ hSh0 ?_
              rotate_left
              · intro w' hw'; obtain ⟨x0, x1, x2⟩ := hw'; refine Eq.trans (run_load_jb (by rfl) (by rfl) x2) ?_; (with_reducible rfl)
              simp only [Act.put, List.setIfInBounds_toArray, List.set_cons_zero, List.set_cons_succ]
              refine held_take (v := ?_) 11 129 rfl rfl (by kernel_rfl) (by kernel_rfl) (by kernel_rfl) (fun _ _ _ h => h) ⟨by rfl, ?_⟩ hSh0 ?_
              rotate_left
              · intro w' hw'; obtain ⟨x0, x1, x2⟩ := hw'; go_simp; (try with_reducible rfl)
              simp only [Act.put, List.setIfInBounds_toArray, List.set_cons_zero, List.set_cons_succ]
              refine held_take (v := ?_) 12 130 rfl rfl (by kernel_rfl) (by kernel_rfl) (by kernel_rfl) (fun _ _ _ h => h) ⟨by rfl, ?_⟩ hSh0 ?_
              rotate_left
              · intro w' hw'; obtain ⟨x0, x1, x2⟩ := hw'; go_simp; (try with_reducible rfl)
              simp only [Act.put, List.setIfInBounds_toArray, List.set_cons_zero, List.set_cons_succ]
              refine wpAnyH_done (by kernel_rfl) ?_ _
              have HBq := Lib.hid (show Below w5.heap.size w5 v8.drew from HB8.out.trans (Below.refl _ v8).drew)
              clear z8 jy ja hjn
              generalize v8.drew = vd at HBq hSh0 hBh0 ⊢
              go_wp2
              go_roundw
              case rel => exact ⟨k + 1, by go_num, by omega, HBq⟩
              case measure => simp; omega
        · have t3 : decide (k < n2) = false := decide_eq_false hkn2
          have HMz := Lib.hid (show ∃ L, GL.Inv L ∧ L.length ≤ i + 1 ∧ GaMade 68 w wr p L (fun _ => False) from ⟨_, HIa.out, GL.act_len (a := a) HI.out.2, HM5.out.keep hB.out⟩)
          clear hkn2 hB
          go_wp2
          go_roundw
          case rel => exact ⟨i + 1, by go_num, by omega, HMz⟩
          case measure => simp; omega
    · have t1 : decide (i < u) = false := decide_eq_false hlt
      obtain ⟨L, hI, hL, hm⟩ := hM.out
      have HE := Lib.hid hm.below
      clear hM hm hlt
      go_wp2
      go_ret
      exact ⟨by first | rfl | (simp; done), HE.out⟩

set_option maxRecDepth 100000 in
set_option maxHeartbeats 1000000 in
theorem lifted (os : Os) (started : os.Started) (H : Type) (enc : TypeId × Value → H) :
    ReturnsInHanded {} Try.checked os 5 .any (Rows.gangLivesSpec.pre6 enc Try.prog Try.f5 Rows.gangLivesRow.domain false) (Rows.gangLivesSpec.post enc Try.prog Try.f5 false true false false) := by
  refine returnsInHanded_of_change (C := Try.checked) own started (by kernel_rfl) Try.func5
    (ChangeSpec.witness6 (enc := enc) (C := Try.checked) false ⟨#[], #[.slice none 0 0], []⟩ 8 (by kernel_rfl) (by kernel_rfl) (by kernel_rfl) (by kernel_rfl)) ?_
  intro W base args ds gs before hval0 hW _ _
  have hval : ∀ (j : Nat) t v, Try.f5.params[j]? = some t → args[j]? = some v → Value.okWide Try.prog W .any base t v := hval0
  have hW' := hW
  obtain ⟨p, q, hA0, hV, rfl, hfz, hnd⟩ := hW
  have hA : DataW.TrodAll enc Try.prog W 0 (fun _ => true) true Try.f5.params.toList args.toList ds p := hA0
  rw [Try.params5] at hA hval
  obtain ⟨v0, vs0, d0, ds0, p0, q0, hargs, rfl, rfl, h0, r0⟩ := trodAll_cons hA
  obtain ⟨rfl, rfl, rfl⟩ := trodAll_nil r0
  obtain rfl : args = #[v0] := by cases args; simp_all
  obtain ⟨rfl, rfl⟩ := trodVars_none hV
  have k0 := h0
  have lt0 : ∀ x ∈ p0, x.block < W.heap.size := by obtain ⟨m, hm⟩ := k0; exact DataW.trod_lt m _ _ _ hm
  obtain ⟨a0, c0, l0, rfl, lc0, mc0, v0, q0⟩ := gas_of (hval 0 30 v0 rfl rfl) h0
  clear hA0 hval0
  refine (walk a0 c0 l0 W v0 q0 lc0 mc0).mono fun e W' ⟨he, bel⟩ => ?_
  subst he
  exact ⟨_, rfl, _, _, _, [], _, [], hW', trodAll_mk1 (shut_bool Try.underlying4 _), (trodAll_cons_mk (Below.trod laidOut (by kernel_rfl) (of_decide_eq_true (by kernel_rfl)) k0 bel lt0) trodAll_mk0), rfl, bel.frame _, fun h => by cases h⟩

/-- THE STATEMENT. -/
theorem holds : Rows.GangLivesSaid :=
  OpenClaim.holds_of_wide 5 Try.f5 rfl rfl rfl rfl rfl rfl rfl ⟨rfl, rfl, rfl, rfl, rfl⟩ rfl rfl rfl rfl rfl (by kernel_rfl) Try.func5 (by kernel_rfl)
    (of_decide_eq_true (by kernel_rfl)) (by unfold Func.isWrapper; first | (rw [if_pos (by decide +kernel)]; kernel_rfl) | (rw [if_neg (by decide +kernel)]; exact ⟨rfl, rfl⟩))
    (fun os started H enc _ => lifted os started H enc)
end Go.Proofs.Ytbomdannlcclkaa.gangLives
