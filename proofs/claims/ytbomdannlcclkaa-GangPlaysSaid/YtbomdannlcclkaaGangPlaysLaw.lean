/- Whatever happens to whatever gangs, in whatever order: each call is told just as the document says; so are all records, any one, and those of any state, behind it: the law GangPlays answers true, at every input. -/
import Derived.Test.YtbomdannlcclkaaFrame
import Derived.Test.YtbomdannlcclkaaHeldOn
import Derived.Test.YtbomdannlcclkaaGaTwo
import Derived.Test.YtbomdannlcclkaaGaArgs
set_option linter.unusedVariables false
namespace Go.Proofs.Ytbomdannlcclkaa.gangPlays
open Go Go.ChangeShapes Go.WideShapes Go.ChangeAt Go.RowKit
theorem rcO_zr : rcO GL.zr = .cells #[.int .i64 0, .int .i64 0, .int .i64 0, .int .i64 0, .int .i64 0, .int .i64 0, .int .i64 0, .int .i64 0, .int .i64 0, .int .i64 0, .int .i64 0, .int .i64 0, .int .i64 0, .int .i64 0, .int .i64 0, .int .i64 0] 42 := rfl
theorem sub_i64 {a b : Int} (h : -9223372036854775808 ≤ a - b) (h2 : a - b ≤ 9223372036854775807) : IntKind.i64.wrap (a - b) = a - b := IntWalk.i64_in _ (by omega)
set_option maxRecDepth 100000 in
set_option maxHeartbeats 8000000 in
theorem walk (Aq : Option Addr) (cq : Nat) (l : List Ga) (id s : Int) (w : World) (hvl : Gas w w.heap.size Aq l) (hql : ∀ a ∈ l, GaW a) (lcl : l.length ≤ cq) (mcl : cq ≤ maxLen) (wid : (Lit.int .i64 id).wf = true) (ws : (Lit.int .i64 s).wf = true) :
    Calls Try.prog 4 #[.slice Aq l.length cq, .int .i64 id, .int .i64 s] w fun e w' => e = .returned (.bool true) ∧ Below w.heap.size w w' := by
  have AW := Lib.hid (awake_any w)
  unfold maxLen at mcl
  obtain ⟨u, hu⟩ : ∃ u, u = l.length := ⟨_, rfl⟩
  have H := Lib.hid (And.intro hvl hu)
  rw [← hu] at lcl ⊢
  clear hvl hql hu
  go_enter Try.func4, Try.ntmps4
  go_wp2_with fail
  refine AW.out.mono ?_
  rintro e w1 ⟨rfl, hb1⟩
  have HB1 := Lib.hid hb1
  clear hb1 AW
  by_cases h100 : 100 < u
  · have t0 : decide (100 < (u : Int)) = true := decide_eq_true (by omega)
    clear h100
    go_wp2
    go_ret
    exact ⟨by first | rfl | (simp; done), HB1.out⟩
  have t0 : decide (100 < (u : Int)) = false := decide_eq_false (by omega)
  have hNe := new_m HB1.out
  go_wp2_with fail
  refine hNe.mono ?_
  rintro e w2 ⟨rfl, hm2⟩
  obtain ⟨p, hp⟩ : ∃ p, p = w1.heap.size := ⟨_, rfl⟩
  rw [← hp] at hm2 ⊢
  have HM2 := Lib.hid hm2
  clear hm2 hNe hp t0
  have hT3 := GaTwo.made HM2.out
  obtain ⟨w3, hw3⟩ : ∃ w3, w3 = w2.alloc (.cells #[.slice none 0 0] 36) := ⟨_, rfl⟩
  rw [← hw3] at hT3
  obtain ⟨r, hr⟩ : ∃ r, r = w2.heap.size := ⟨_, rfl⟩
  rw [← hr] at hT3
  have HT3 := Lib.hid hT3
  have HW3 := Lib.hid (And.intro hw3 hr)
  clear hT3 HM2 hw3 hr
  go_wp2
  rw [← HW3.out.1, ← HW3.out.2]
  go_loopw [9] (fun vi wr => ∃ i : Nat, vi = .int .i64 i ∧ i ≤ u ∧ Hid (∃ L, GL.Inv L ∧ L.length ≤ i ∧ GaTwo w wr p r L L (fun _ => False))) (fun vi _ => match vi with | .int _ i => u - i.toNat | _ => 0)
  case atStart => exact ⟨0, rfl, by omega, Lib.hid ⟨[], GL.Inv.nil, Nat.le_refl _, HT3.out⟩⟩
  case round =>
    clear HT3
    obtain ⟨i, rfl, hi, hM⟩ := hrel
    by_cases hlt : i < u
    · obtain ⟨L, hI, hL, hm⟩ := hM.out
      obtain ⟨a, ha⟩ : ∃ a, l[i]? = some a := ⟨_, List.getElem?_eq_getElem (by rw [← H.out.2]; exact hlt)⟩
      obtain ⟨b, off, rfl, hb, hc⟩ := H.out.1.at_ ha
      have t1 : decide (i < u) = true := decide_eq_true hlt
      have hll : L.length ≤ 100 := by omega
      have HX := Lib.hid (And.intro (hc i a ha) hb)
      have HI := Lib.hid (And.intro hI hL)
      have HXa := Lib.hid ((hc i a ha).keep hb hm.below)
      have hDo := do_t hm a
      obtain ⟨an, han⟩ : ∃ an, an = GL.actN L a := ⟨_, rfl⟩
      obtain ⟨x, hx⟩ : ∃ x, x = GL.actR L a := ⟨_, rfl⟩
      obtain ⟨ae, hae⟩ : ∃ ae, ae = GL.actE L a := ⟨_, rfl⟩
      rw [← han, ← hx, ← hae] at hDo
      have HAC := Lib.hid (And.intro han (And.intro hx hae))
      clear hM hm ha hc hb hI hL han hx hae
      go_wp2_with (first
        | (refine wpList_load_ga rfl _ rfl b (off + i * 12) a rfl HXa.out ?_)
        | fail)
      refine hDo.mono ?_
      rintro e w4 ⟨rfl, hm4, _⟩
      obtain ⟨hmB4, hxB4, hBB4⟩ := GaTwo.box (hm4) x
      have HZ4 := Lib.hid (rc_new w4 GL.zr)
      obtain ⟨v4, hv4⟩ : ∃ v, v = (w4.alloc (rcO GL.zr)).setRow w4.heap.size (rcA x) := ⟨_, rfl⟩
      rw [← hv4] at hmB4 hxB4 hBB4
      have HV4 := Lib.hid hv4
      rw [rcO_zr] at HZ4
      have hDo2 := rdo_t hmB4 HI.out.1 a
      rw [← HAC.out.1, ← HAC.out.2.1, ← HAC.out.2.2] at hDo2
      have HX4 := Lib.hid hxB4
      have HDo2 := Lib.hid hDo2
      have HXb : Hid (CellsAt v4 b (off + i * 12) (gaC a)) := Lib.hid (HX.out.1.keep HX.out.2 hmB4.below)
      have HXb' := HXb
      rw [hv4, rcO_zr] at HXb
      clear hDo hm4 hmB4 hxB4 hBB4 hv4 hDo2 HXa
      go_wp2_with (first
        | (refine wpList_store_rc rfl _ _ rfl w4.heap.size x rfl rfl GL.zr HZ4.out ?_)
        | (refine wpList_load_ga rfl _ rfl b (off + i * 12) a rfl HXb.out ?_)
        | fail)
      rw [← rcO_zr, ← HV4.out]
      refine HDo2.out.mono ?_
      rintro e w6 ⟨rfl, hm6, hk6⟩
      have HX6 := Lib.hid ((hk6 w4.heap.size (.inr rfl)).trans HX4.out)
      have l6 : w4.heap.size < w6.heap.size := blk_lt HX6.out
      obtain ⟨hmB6, hxB6, hBB6⟩ := GaTwo.box (hm6.less (S' := fun _ => False) (fun _ h => h.elim)) x
      have HZ6 := Lib.hid (rc_new w6 GL.zr)
      obtain ⟨v6, hv6⟩ : ∃ v, v = (w6.alloc (rcO GL.zr)).setRow w6.heap.size (rcA x) := ⟨_, rfl⟩
      rw [← hv6] at hmB6 hxB6 hBB6
      have HV6 := Lib.hid hv6
      rw [rcO_zr] at HZ6
      have HX7 := Lib.hid ((hBB6.block _ l6).trans HX6.out)
      obtain ⟨L2, hL2⟩ : ∃ L2, L2 = GL.actL L a := ⟨_, rfl⟩
      rw [← hL2] at hmB6
      have HI2 := Lib.hid (show GL.Inv L2 ∧ L2.length ≤ i + 1 from ⟨by rw [hL2]; exact HI.out.1.act a, by rw [hL2]; exact GL.act_len (a := a) HI.out.2⟩)
      have HM := Lib.hid (hmB6.less (S' := fun _ => False) (fun _ h => h.elim))
      have HXB := Lib.hid hxB6
      clear HDo2 hm6 hk6 hmB6 hxB6 hBB6 hL2 HXb HXb' HZ4 HX6
      go_wp2_with (first
        | (refine wpList_store_rc rfl _ _ rfl w6.heap.size x rfl rfl GL.zr HZ6.out ?_)
        | fail)
      rw [← rcO_zr, ← HV6.out]
      obtain ⟨w8, hw8⟩ : ∃ w8, w8 = v6 := ⟨_, rfl⟩
      rw [← hw8] at HX7 HM HXB ⊢
      clear hv6 hw8
      obtain ⟨B1, hB1⟩ : ∃ B1, B1 = w4.heap.size := ⟨_, rfl⟩
      obtain ⟨B2, hB2⟩ : ∃ B2, B2 = w6.heap.size := ⟨_, rfl⟩
      rw [← hB1] at HX7
      rw [← hB2] at HXB
      rw [← hB1, ← hB2]
      clear hB1 hB2 l6
      obtain ⟨Am, cm, c0, hEm, lr⟩ := HM.out.recs
      obtain ⟨n2, hn2⟩ : ∃ n2, n2 = L2.length := ⟨_, rfl⟩
      have hn100 : L2.length ≤ 101 := by have := HI2.out.2; omega
      have r1 : RcAt w8 B1 0 x := rcAt_of HX7.out
      have r2 : RcAt w8 B2 0 x := rcAt_of HXB.out
      have lB1 : B1 < w8.heap.size := blk_lt HX7.out
      have lB2 : B2 < w8.heap.size := blk_lt HXB.out
      have HAl : Hid (∀ W, Below w8.heap.size w8 W → _) := Lib.hid (fun W hW => all_m (HM.out.keep hW).first)
      have HIn : Hid (∀ W, Below w8.heap.size w8 W → _) := Lib.hid (fun W hW => in_m (HM.out.keep hW).first s)
      have HRi : Hid (∀ W, Below w8.heap.size w8 W → _) := Lib.hid (fun W hW => rin_t (HM.out.keep hW) s)
      have HMl : Hid (∀ W, Below w8.heap.size w8 W → Els rcC 16 W W.heap.size Am L2) := Lib.hid (fun W hW => hEm.keep hW hW.size)
      have HS1 := Lib.hid (fun W A1 k1 (h1 : Els rcC 16 W W.heap.size A1 L2) (h2 : Els rcC 16 W W.heap.size Am L2) => refsame_eq A1 Am k1 cm L2 W h1 h2 (by omega))
      have hli : (GL.inL L2 s).length ≤ 101 := Nat.le_trans (GL.inL_len L2 s) hn100
      have HS2 := Lib.hid (fun W A1 A2 k1 k2 (h1 : Els rcC 16 W W.heap.size A1 (GL.inL L2 s)) (h2 : Els rcC 16 W W.heap.size A2 (GL.inL L2 s)) => refsame_eq A1 A2 k1 k2 (GL.inL L2 s) W h1 h2 (by omega))
      obtain ⟨n3, hn3⟩ : ∃ n3, n3 = (GL.inL L2 s).length := ⟨_, rfl⟩
      rw [← hn2] at c0 HAl HS1
      rw [← hn3] at HIn HRi HS2
      have hne := fun W => rc_ne x W
      have e1 : (an != an) = false := by simp
      have e2 : (ae != ae) = false := by simp
      clear hEm hn2 hn3 hn100 hli HX7 HXB
      go_wp2_with fail
      refine held_begin (fun w' : World => RcAt w' B1 0 x ∧ RcAt w' B2 0 x ∧ w'.cell? ⟨r, 0, none⟩ = some (.slice Am n2 cm)) (by kernel_rfl) ?_
      have hBh0 : Below w8.heap.size w8 w8.drew := (Below.refl _ _).drew
      have hSh0 : (fun w' : World => RcAt w' B1 0 x ∧ RcAt w' B2 0 x ∧ w'.cell? ⟨r, 0, none⟩ = some (.slice Am n2 cm)) w8.drew := ⟨r1, r2, c0⟩
      refine held_take (v := ?_) 0 56 rfl rfl (by kernel_rfl) (by kernel_rfl) (by kernel_rfl) (fun _ _ _ h => h) ⟨by rfl, ?_⟩ hSh0 ?_
      rotate_left
      · intro w' hw'; obtain ⟨x0, x1, x2⟩ := hw'; go_simp; (try with_reducible rfl)
      simp only [Act.put, List.setIfInBounds_toArray, List.set_cons_zero, List.set_cons_succ]
      refine held_take (v := ?_) 1 57 rfl rfl (by kernel_rfl) (by kernel_rfl) (by kernel_rfl) (fun _ _ _ h => h) ⟨by rfl, ?_⟩ hSh0 ?_
      rotate_left
      · intro w' hw'; obtain ⟨x0, x1, x2⟩ := hw'; go_simp; (try with_reducible rfl)
      simp only [Act.put, List.setIfInBounds_toArray, List.set_cons_zero, List.set_cons_succ]
      refine held_take (v := ?_) 2 58 rfl rfl (by kernel_rfl) (by kernel_rfl) (by kernel_rfl) (fun _ _ _ h => h) ⟨by rfl, ?_⟩ hSh0 ?_
      rotate_left
      · intro w' hw'; obtain ⟨x0, x1, x2⟩ := hw'; go_simp; (try with_reducible rfl)
      simp only [Act.put, List.setIfInBounds_toArray, List.set_cons_zero, List.set_cons_succ]
      refine held_take (v := ?_) 3 59 rfl rfl (by kernel_rfl) (by kernel_rfl) (by kernel_rfl) (fun _ _ _ h => h) ⟨by rfl, ?_⟩ hSh0 ?_
      rotate_left
      · intro w' hw'; obtain ⟨x0, x1, x2⟩ := hw'; go_simp; (try with_reducible rfl)
      simp only [Act.put, List.setIfInBounds_toArray, List.set_cons_zero, List.set_cons_succ]
      refine held_take (v := ?_) 4 60 rfl rfl (by kernel_rfl) (by kernel_rfl) (by kernel_rfl) (fun _ _ _ h => h) ⟨by rfl, ?_⟩ hSh0 ?_
      rotate_left
      · intro w' hw'; obtain ⟨x0, x1, x2⟩ := hw'; refine Eq.trans (run_load_rc (by rfl) (by rfl) x0) ?_; (with_reducible rfl)
      simp only [Act.put, List.setIfInBounds_toArray, List.set_cons_zero, List.set_cons_succ]
      refine held_take (v := ?_) 5 61 rfl rfl (by kernel_rfl) (by kernel_rfl) (by kernel_rfl) (fun _ _ _ h => h) ⟨by rfl, ?_⟩ hSh0 ?_
      rotate_left
      · intro w' hw'; obtain ⟨x0, x1, x2⟩ := hw'; refine Eq.trans (run_load_rc (by rfl) (by rfl) x1) ?_; (with_reducible rfl)
      simp only [Act.put, List.setIfInBounds_toArray, List.set_cons_zero, List.set_cons_succ]
      refine held_take (v := ?_) 6 62 rfl rfl (by kernel_rfl) (by kernel_rfl) (by kernel_rfl) (fun _ _ _ h => h) ⟨by rfl, ?_⟩ hSh0 ?_
      rotate_left
      · intro w' hw'; obtain ⟨x0, x1, x2⟩ := hw'; go_simp; (try with_reducible rfl)
      simp only [Act.put, List.setIfInBounds_toArray, List.set_cons_zero, List.set_cons_succ]
      refine held_take (v := ?_) 7 63 rfl rfl (by kernel_rfl) (by kernel_rfl) (by kernel_rfl) (fun _ _ _ h => h) ⟨by rfl, ?_⟩ hSh0 ?_
      rotate_left
      · intro w' hw'; obtain ⟨x0, x1, x2⟩ := hw'; go_simp; (try with_reducible rfl)
      simp only [Act.put, List.setIfInBounds_toArray, List.set_cons_zero, List.set_cons_succ]
      refine held_take (v := ?_) 8 64 rfl rfl (by kernel_rfl) (by kernel_rfl) (by kernel_rfl) (fun _ _ _ h => h) ⟨by rfl, ?_⟩ hSh0 ?_
      rotate_left
      · intro w' hw'; obtain ⟨x0, x1, x2⟩ := hw'; go_simp; (try with_reducible rfl)
      simp only [Act.put, List.setIfInBounds_toArray, List.set_cons_zero, List.set_cons_succ]
      refine held_take (v := ?_) 9 65 rfl rfl (by kernel_rfl) (by kernel_rfl) (by kernel_rfl) (fun _ _ _ h => h) ⟨by rfl, ?_⟩ hSh0 ?_
      rotate_left
      · intro w' hw'; obtain ⟨x0, x1, x2⟩ := hw'; go_simp; (try with_reducible rfl)
      simp only [Act.put, List.setIfInBounds_toArray, List.set_cons_zero, List.set_cons_succ]
      refine held_take (v := ?_) 10 66 rfl rfl (by kernel_rfl) (by kernel_rfl) (by kernel_rfl) (fun _ _ _ h => h) ⟨by rfl, ?_⟩ hSh0 ?_
      rotate_left
      · intro w' hw'; obtain ⟨x0, x1, x2⟩ := hw'; go_simp; (try with_reducible rfl)
      simp only [Act.put, List.setIfInBounds_toArray, List.set_cons_zero, List.set_cons_succ]
      refine held_take (v := ?_) 11 67 rfl rfl (by kernel_rfl) (by kernel_rfl) (by kernel_rfl) (fun _ _ _ h => h) ⟨by rfl, ?_⟩ hSh0 ?_
      rotate_left
      · intro w' hw'; obtain ⟨x0, x1, x2⟩ := hw'; go_simp; (try with_reducible rfl)
      simp only [Act.put, List.setIfInBounds_toArray, List.set_cons_zero, List.set_cons_succ]
      refine held_take (v := ?_) 12 68 rfl rfl (by kernel_rfl) (by kernel_rfl) (by kernel_rfl) (fun _ _ _ h => h) ⟨by rfl, ?_⟩ hSh0 ?_
      rotate_left
      · intro w' hw'; obtain ⟨x0, x1, x2⟩ := hw'; go_simp; (try with_reducible rfl)
      simp only [Act.put, List.setIfInBounds_toArray, List.set_cons_zero, List.set_cons_succ]
      refine held_take (v := ?_) 13 69 rfl rfl (by kernel_rfl) (by kernel_rfl) (by kernel_rfl) (fun _ _ _ h => h) ⟨by rfl, ?_⟩ hSh0 ?_
      rotate_left
      · intro w' hw'; obtain ⟨x0, x1, x2⟩ := hw'; go_simp; (try with_reducible rfl)
      simp only [Act.put, List.setIfInBounds_toArray, List.set_cons_zero, List.set_cons_succ]
      refine held_take (v := ?_) 14 70 rfl rfl (by kernel_rfl) (by kernel_rfl) (by kernel_rfl) (fun _ _ _ h => h) ⟨by rfl, ?_⟩ hSh0 ?_
      rotate_left
      · intro w' hw'; obtain ⟨x0, x1, x2⟩ := hw'; go_simp; (try with_reducible rfl)
      simp only [Act.put, List.setIfInBounds_toArray, List.set_cons_zero, List.set_cons_succ]
      refine held_take (v := ?_) 16 72 rfl rfl (by kernel_rfl) (by kernel_rfl) (by kernel_rfl) (fun _ _ _ h => h) ⟨by rfl, ?_⟩ hSh0 ?_
      rotate_left
      · intro w' hw'; obtain ⟨x0, x1, x2⟩ := hw'; go_simp; (try with_reducible rfl)
      simp only [Act.put, List.setIfInBounds_toArray, List.set_cons_zero, List.set_cons_succ]
      refine held_take (v := ?_) 17 73 rfl rfl (by kernel_rfl) (by kernel_rfl) (by kernel_rfl) (fun _ _ _ h => h) ⟨by rfl, ?_⟩ hSh0 ?_
      rotate_left
      · intro w' hw'; obtain ⟨x0, x1, x2⟩ := hw'; go_simp; (try with_reducible rfl)
      simp only [Act.put, List.setIfInBounds_toArray, List.set_cons_zero, List.set_cons_succ]
      refine held_take (v := ?_) 18 74 rfl rfl (by kernel_rfl) (by kernel_rfl) (by kernel_rfl) (fun _ _ _ h => h) ⟨by rfl, ?_⟩ hSh0 ?_
      rotate_left
      · intro w' hw'; obtain ⟨x0, x1, x2⟩ := hw'; go_simp; (try with_reducible rfl)
      simp only [Act.put, List.setIfInBounds_toArray, List.set_cons_zero, List.set_cons_succ]
      refine held_take (v := ?_) 19 75 rfl rfl (by kernel_rfl) (by kernel_rfl) (by kernel_rfl) (fun _ _ _ h => h) ⟨by rfl, ?_⟩ hSh0 ?_
      rotate_left
      · intro w' hw'; obtain ⟨x0, x1, x2⟩ := hw'; go_simp; (try with_reducible rfl)
      simp only [Act.put, List.setIfInBounds_toArray, List.set_cons_zero, List.set_cons_succ]
      refine held_one 15 rfl (by kernel_rfl) (by rfl) (fun K hK => ?_)
      go_simp
      go_at_call 17
      refine (HAl.out w8.drew hBh0).mono ?_
      rintro e wh1 ⟨A1, k1, rfl, q1, q2, hE1, q3, hbh1⟩
      have hBh1 : Below w8.heap.size w8 wh1 := below_step hBh0 hbh1
      have hSh1 : (fun w' : World => RcAt w' B1 0 x ∧ RcAt w' B2 0 x ∧ w'.cell? ⟨r, 0, none⟩ = some (.slice Am n2 cm)) wh1 := ⟨r1.keep lB1 hBh1, r2.keep lB2 hBh1, (hBh1.cell (p := ⟨r, 0, none⟩) (lr)).trans c0⟩
      have HE1 := Lib.hid hE1
      clear hE1 q1 q2 q3
      refine hK.out _ _ hSh1 ?_
      clear hK K
      refine held_one 20 rfl (by kernel_rfl) (by rfl) (fun K hK => ?_)
      go_simp
      go_at_call 16
      refine (HS1.out wh1 A1 k1 HE1.out (HMl.out wh1 hBh1)).mono ?_
      rintro e wh2 ⟨rfl, hbh2⟩
      have hBh2 : Below w8.heap.size w8 wh2 := below_step hBh1 hbh2
      have hSh2 : (fun w' : World => RcAt w' B1 0 x ∧ RcAt w' B2 0 x ∧ w'.cell? ⟨r, 0, none⟩ = some (.slice Am n2 cm)) wh2 := ⟨r1.keep lB1 hBh2, r2.keep lB2 hBh2, (hBh2.cell (p := ⟨r, 0, none⟩) (lr)).trans c0⟩
      clear HE1
      refine hK.out _ _ hSh2 ?_
      clear hK K
      refine held_take (v := ?_) 21 77 rfl rfl (by kernel_rfl) (by kernel_rfl) (by kernel_rfl) (fun _ _ _ h => h) ⟨by rfl, ?_⟩ hSh2 ?_
      rotate_left
      · intro w' hw'; obtain ⟨x0, x1, x2⟩ := hw'; go_simp; (try with_reducible rfl)
      simp only [Act.put, List.setIfInBounds_toArray, List.set_cons_zero, List.set_cons_succ]
      refine held_take (v := ?_) 22 78 rfl rfl (by kernel_rfl) (by kernel_rfl) (by kernel_rfl) (fun _ _ _ h => h) ⟨by rfl, ?_⟩ hSh2 ?_
      rotate_left
      · intro w' hw'; obtain ⟨x0, x1, x2⟩ := hw'; go_simp; (try with_reducible rfl)
      simp only [Act.put, List.setIfInBounds_toArray, List.set_cons_zero, List.set_cons_succ]
      refine held_take (v := ?_) 23 79 rfl rfl (by kernel_rfl) (by kernel_rfl) (by kernel_rfl) (fun _ _ _ h => h) ⟨by rfl, ?_⟩ hSh2 ?_
      rotate_left
      · intro w' hw'; obtain ⟨x0, x1, x2⟩ := hw'; go_simp; (try with_reducible rfl)
      simp only [Act.put, List.setIfInBounds_toArray, List.set_cons_zero, List.set_cons_succ]
      refine held_take (v := ?_) 24 80 rfl rfl (by kernel_rfl) (by kernel_rfl) (by kernel_rfl) (fun _ _ _ h => h) ⟨by rfl, ?_⟩ hSh2 ?_
      rotate_left
      · intro w' hw'; obtain ⟨x0, x1, x2⟩ := hw'; go_simp; (try with_reducible rfl)
      simp only [Act.put, List.setIfInBounds_toArray, List.set_cons_zero, List.set_cons_succ]
      refine held_take (v := ?_) 25 81 rfl rfl (by kernel_rfl) (by kernel_rfl) (by kernel_rfl) (fun _ _ _ h => h) ⟨by rfl, ?_⟩ hSh2 ?_
      rotate_left
      · intro w' hw'; obtain ⟨x0, x1, x2⟩ := hw'; go_simp; (try with_reducible rfl)
      simp only [Act.put, List.setIfInBounds_toArray, List.set_cons_zero, List.set_cons_succ]
      refine held_take (v := ?_) 27 83 rfl rfl (by kernel_rfl) (by kernel_rfl) (by kernel_rfl) (fun _ _ _ h => h) ⟨by rfl, ?_⟩ hSh2 ?_
      rotate_left
      · intro w' hw'; obtain ⟨x0, x1, x2⟩ := hw'; go_simp; (try with_reducible rfl)
      simp only [Act.put, List.setIfInBounds_toArray, List.set_cons_zero, List.set_cons_succ]
      refine held_take (v := ?_) 28 84 rfl rfl (by kernel_rfl) (by kernel_rfl) (by kernel_rfl) (fun _ _ _ h => h) ⟨by rfl, ?_⟩ hSh2 ?_
      rotate_left
      · intro w' hw'; obtain ⟨x0, x1, x2⟩ := hw'; go_simp; (try with_reducible rfl)
      simp only [Act.put, List.setIfInBounds_toArray, List.set_cons_zero, List.set_cons_succ]
      refine held_one 26 rfl (by kernel_rfl) (by rfl) (fun K hK => ?_)
      go_simp
      go_at_call 18
      refine (HIn.out wh2 hBh2).mono ?_
      rintro e wh3 ⟨A2, k2, rfl, q4, q5, hE2, q6, hbh3⟩
      have hBh3 : Below w8.heap.size w8 wh3 := below_step hBh2 hbh3
      have hSh3 : (fun w' : World => RcAt w' B1 0 x ∧ RcAt w' B2 0 x ∧ w'.cell? ⟨r, 0, none⟩ = some (.slice Am n2 cm)) wh3 := ⟨r1.keep lB1 hBh3, r2.keep lB2 hBh3, (hBh3.cell (p := ⟨r, 0, none⟩) (lr)).trans c0⟩
      have HE2 := Lib.hid hE2
      clear hE2 q4 q5 q6
      refine hK.out _ _ hSh3 ?_
      clear hK K
      refine held_one 29 rfl (by kernel_rfl) (by rfl) (fun K hK => ?_)
      go_simp
      go_at_call 19
      refine (HRi.out wh3 hBh3).mono ?_
      rintro e wh4 ⟨A3, k3, rfl, hE3, hbh4⟩
      have hBh4 : Below w8.heap.size w8 wh4 := below_step hBh3 hbh4
      have hSh4 : (fun w' : World => RcAt w' B1 0 x ∧ RcAt w' B2 0 x ∧ w'.cell? ⟨r, 0, none⟩ = some (.slice Am n2 cm)) wh4 := ⟨r1.keep lB1 hBh4, r2.keep lB2 hBh4, (hBh4.cell (p := ⟨r, 0, none⟩) (lr)).trans c0⟩
      have HE3 := Lib.hid hE3
      have HE2 := Lib.hid (HE2.out.keep hbh4 hbh4.size)
      clear hE3
      refine hK.out _ _ hSh4 ?_
      clear hK K
      refine held_one 30 rfl (by kernel_rfl) (by rfl) (fun K hK => ?_)
      go_simp
      go_at_call 16
      refine (HS2.out wh4 A2 A3 k2 k3 HE2.out HE3.out).mono ?_
      rintro e wh5 ⟨rfl, hbh5⟩
      have hBh5 : Below w8.heap.size w8 wh5 := below_step hBh4 hbh5
      have hSh5 : (fun w' : World => RcAt w' B1 0 x ∧ RcAt w' B2 0 x ∧ w'.cell? ⟨r, 0, none⟩ = some (.slice Am n2 cm)) wh5 := ⟨r1.keep lB1 hBh5, r2.keep lB2 hBh5, (hBh5.cell (p := ⟨r, 0, none⟩) (lr)).trans c0⟩
      refine hK.out _ _ hSh5 ?_
      clear hK K
      refine held_take (v := ?_) 31 87 rfl rfl (by kernel_rfl) (by kernel_rfl) (by kernel_rfl) (fun _ _ _ h => h) ⟨by rfl, ?_⟩ hSh5 ?_
      rotate_left
      · intro w' hw'; obtain ⟨x0, x1, x2⟩ := hw'; go_simp; (try with_reducible rfl)
      simp only [Act.put, List.setIfInBounds_toArray, List.set_cons_zero, List.set_cons_succ]
      refine held_take (v := ?_) 32 88 rfl rfl (by kernel_rfl) (by kernel_rfl) (by kernel_rfl) (fun _ _ _ h => h) ⟨by rfl, ?_⟩ hSh5 ?_
      rotate_left
      · intro w' hw'; obtain ⟨x0, x1, x2⟩ := hw'; go_simp; (try with_reducible rfl)
      simp only [Act.put, List.setIfInBounds_toArray, List.set_cons_zero, List.set_cons_succ]
      refine wpAnyH_done (by kernel_rfl) ?_ _
      have HMz := Lib.hid (HM.out.keep hBh5)
      clear hBh5 c0 r1 r2 HAl HIn HRi HMl HS1 HS2
      obtain ⟨y, hy⟩ : ∃ y, y = GL.getR L2 id := ⟨_, rfl⟩
      obtain ⟨ge, hge⟩ : ∃ ge, ge = GL.getE L2 id := ⟨_, rfl⟩
      have hGt := get_m HMz.out.first id
      rw [← hy, ← hge] at hGt
      have HRG := Lib.hid (And.intro hy hge)
      have hney := fun W => rc_ne y W
      have e3 : (ge != ge) = false := by simp
      clear hy hge hne e1 e2 HM lB1 lB2
      go_wp2_with fail
      refine hGt.mono ?_
      rintro e w9 ⟨rfl, hb9⟩
      obtain ⟨hmB9, hxB9, hBB9⟩ := GaTwo.box (HMz.out.keep hb9) y
      have HZ9 := Lib.hid (rc_new w9 GL.zr)
      obtain ⟨v9, hv9⟩ : ∃ v, v = (w9.alloc (rcO GL.zr)).setRow w9.heap.size (rcA y) := ⟨_, rfl⟩
      rw [← hv9] at hmB9 hxB9 hBB9
      have HV9 := Lib.hid hv9
      rw [rcO_zr] at HZ9
      have hRg := rget_t hmB9 id
      rw [← HRG.out.1, ← HRG.out.2] at hRg
      have HRg := Lib.hid hRg
      have HM9 := Lib.hid hmB9
      have HX9 := Lib.hid hxB9
      clear hGt hb9 hmB9 hxB9 hBB9 hv9 hRg
      go_wp2_with (first
        | (refine wpList_store_rc rfl _ _ rfl w9.heap.size y rfl rfl GL.zr HZ9.out ?_)
        | fail)
      rw [← rcO_zr, ← HV9.out]
      refine HRg.out.mono ?_
      rintro e w10 ⟨rfl, hb10⟩
      obtain ⟨hmB10, hxB10, hBB10⟩ := GaTwo.box (HM9.out.keep hb10) y
      have HZ10 := Lib.hid (rc_new w10 GL.zr)
      obtain ⟨v10, hv10⟩ : ∃ v, v = (w10.alloc (rcO GL.zr)).setRow w10.heap.size (rcA y) := ⟨_, rfl⟩
      rw [← hv10] at hmB10 hxB10 hBB10
      have HV10 := Lib.hid hv10
      rw [rcO_zr] at HZ10
      have HXA := Lib.hid (rcAt_of ((hBB10.block _ (Nat.lt_of_lt_of_le (blk_lt HX9.out) hb10.size)).trans ((hb10.block _ (blk_lt HX9.out)).trans HX9.out)))
      have HXB := Lib.hid (rcAt_of hxB10)
      have HF := Lib.hid (show ∃ L, GL.Inv L ∧ L.length ≤ i + 1 ∧ GaTwo w v10 p r L L (fun _ => False) from ⟨L2, HI2.out.1, HI2.out.2, hmB10.less (fun _ h => h.elim)⟩)
      rw [hv10, rcO_zr] at HXA HXB
      have HF' := HF
      rw [hv10] at HF'
      clear HRg hb10 hmB10 hxB10 hBB10 hv10
      go_wp2_with (first
        | (refine wpList_store_rc rfl _ _ rfl w10.heap.size y rfl rfl GL.zr HZ10.out ?_)
        | (refine wpList_load_rc rfl _ rfl w10.heap.size 0 y rfl HXB.out ?_)
        | (refine wpList_load_rc rfl _ rfl w9.heap.size 0 y rfl HXA.out ?_))
      go_roundw
      case rel => exact ⟨i + 1, by go_num, by omega, HF'⟩
      case measure => simp; omega
    · have t1 : decide (i < u) = false := decide_eq_false hlt
      obtain ⟨L, hI, hL, hm⟩ := hM.out
      have HE := Lib.hid hm.below
      clear hM hm hlt
      go_wp2
      go_ret
      exact ⟨by first | rfl | (simp; done), HE.out⟩

set_option maxRecDepth 100000 in
set_option maxHeartbeats 1000000 in
theorem lifted (os : Os) (started : os.Started) (H : Type) (enc : TypeId × Value → H) :
    ReturnsInHanded {} Try.checked os 4 .any (Rows.gangPlaysSpec.pre6 enc Try.prog Try.f4 Rows.gangPlaysRow.domain false) (Rows.gangPlaysSpec.post enc Try.prog Try.f4 false true false false) := by
  refine returnsInHanded_of_change (C := Try.checked) own started (by kernel_rfl) Try.func4
    (ChangeSpec.witness6 (enc := enc) (C := Try.checked) false ⟨#[], #[.slice none 0 0, .int .i64 0, .int .i64 0], []⟩ 8 (by kernel_rfl) (by kernel_rfl) (by kernel_rfl) (by kernel_rfl)) ?_
  intro W base args ds gs before hval0 hW _ _
  have hval : ∀ (j : Nat) t v, Try.f4.params[j]? = some t → args[j]? = some v → Value.okWide Try.prog W .any base t v := hval0
  have hW' := hW
  obtain ⟨p, q, hA0, hV, rfl, hfz, hnd⟩ := hW
  have hA : DataW.TrodAll enc Try.prog W 0 (fun _ => true) true Try.f4.params.toList args.toList ds p := hA0
  rw [Try.params4] at hA hval
  obtain ⟨v0, vs0, d0, ds0, p0, q0, hargs, rfl, rfl, h0, r0⟩ := trodAll_cons hA
  obtain ⟨v1, vs1, d1, ds1, p1, q1, rfl, rfl, rfl, h1, r1⟩ := trodAll_cons r0
  obtain ⟨v2, vs2, d2, ds2, p2, q2, rfl, rfl, rfl, h2, r2⟩ := trodAll_cons r1
  obtain ⟨rfl, rfl, rfl⟩ := trodAll_nil r2
  obtain rfl : args = #[v0, v1, v2] := by cases args; simp_all
  obtain ⟨rfl, rfl⟩ := trodVars_none hV
  have k0 := h0
  have lt0 : ∀ x ∈ p0, x.block < W.heap.size := by obtain ⟨m, hm⟩ := k0; exact DataW.trod_lt m _ _ _ hm
  obtain ⟨a0, c0, l0, rfl, lc0, mc0, v0, q0⟩ := gas_of (hval 0 30 v0 rfl rfl) h0
  have k1 := h1
  have lt1 : ∀ x ∈ p1, x.block < W.heap.size := by obtain ⟨m, hm⟩ := k1; exact DataW.trod_lt m _ _ _ hm
  obtain ⟨a1, rfl, _, _, w1⟩ := open_int Try.underlying3 (hval 1 3 v1 rfl rfl) h1
  have k2 := h2
  have lt2 : ∀ x ∈ p2, x.block < W.heap.size := by obtain ⟨m, hm⟩ := k2; exact DataW.trod_lt m _ _ _ hm
  obtain ⟨a2, rfl, _, _, w2⟩ := open_int Try.underlying3 (hval 2 3 v2 rfl rfl) h2
  clear hA0 hval0
  refine (walk a0 c0 l0 a1 a2 W v0 q0 lc0 mc0 w1 w2).mono fun e W' ⟨he, bel⟩ => ?_
  subst he
  exact ⟨_, rfl, _, _, _, [], _, [], hW', trodAll_mk1 (shut_bool Try.underlying4 _), (trodAll_cons_mk (Below.trod laidOut (by kernel_rfl) (of_decide_eq_true (by kernel_rfl)) k0 bel lt0) (trodAll_cons_mk (Below.trod laidOut (by kernel_rfl) (of_decide_eq_true (by kernel_rfl)) k1 bel lt1) (trodAll_cons_mk (Below.trod laidOut (by kernel_rfl) (of_decide_eq_true (by kernel_rfl)) k2 bel lt2) trodAll_mk0))), rfl, bel.frame _, fun h => by cases h⟩

/-- THE STATEMENT. -/
theorem holds : Rows.GangPlaysSaid :=
  OpenClaim.holds_of_wide 4 Try.f4 rfl rfl rfl rfl rfl rfl rfl ⟨rfl, rfl, rfl, rfl, rfl⟩ rfl rfl rfl rfl rfl (by kernel_rfl) Try.func4 (by kernel_rfl)
    (of_decide_eq_true (by kernel_rfl)) (by unfold Func.isWrapper; first | (rw [if_pos (by decide +kernel)]; kernel_rfl) | (rw [if_neg (by decide +kernel)]; exact ⟨rfl, rfl⟩))
    (fun os started H enc _ => lifted os started H enc)
end Go.Proofs.Ytbomdannlcclkaa.gangPlays
