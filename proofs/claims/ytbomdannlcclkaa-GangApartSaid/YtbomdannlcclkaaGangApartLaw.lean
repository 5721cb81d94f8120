/- What happens to one gang changes no other one's record; an expiry leaves it as it was ahead of its reservation: the law GangApart answers true, at every input. -/
import Derived.Test.YtbomdannlcclkaaFrame
import Derived.Test.YtbomdannlcclkaaHeldOn
import Derived.Test.YtbomdannlcclkaaGaSame
import Derived.Test.YtbomdannlcclkaaGaArgs
set_option linter.unusedVariables false
namespace Go.Proofs.Ytbomdannlcclkaa.gangApart
open Go Go.ChangeShapes Go.WideShapes Go.ChangeAt Go.RowKit
theorem rcO_zr : rcO GL.zr = .cells #[.int .i64 0, .int .i64 0, .int .i64 0, .int .i64 0, .int .i64 0, .int .i64 0, .int .i64 0, .int .i64 0, .int .i64 0, .int .i64 0, .int .i64 0, .int .i64 0, .int .i64 0, .int .i64 0, .int .i64 0, .int .i64 0] 42 := rfl
theorem rc_eq (x : Rc) (W : World) : (binOp .eql 42 (.agg (rcA x)) (.agg (rcA x))).run Try.prog W = .ok (.bool true) W := by
  unfold rcA
  go_simp
theorem set_pos {L : List Rc} {id : Int} {x y : Rc} (hx : L[GL.pos L id]? = some x) (hy : y.id = id) : GL.pos (L.set (GL.pos L id) y) id = GL.pos L id ∧ GL.hasI (L.set (GL.pos L id) y) id = true ∧ (L.set (GL.pos L id) y)[GL.pos L id]? = some y := by
  have hg := set_get y hx
  refine ⟨GL.pos_at hg hy fun j z hj hz => ?_, GL.hasI_true.2 ⟨y, List.mem_of_getElem? hg, hy⟩, hg⟩
  rw [List.getElem?_set_ne (by omega)] at hz
  obtain ⟨u, hu, hne⟩ := GL.pos_first hj
  rw [hu] at hz; cases hz; exact hne
theorem ch_same {L : List Rc} {id : Int} {E : Rc → Int} (R : Rc → Rc) (h : GL.chE L id E ≠ 0) : GL.chL L id E R = L := by
  cases hh : GL.hasI L id
  · exact (GL.ch_no hh E R).2
  · obtain ⟨x, hx, _, _⟩ := GL.pos_yes hh
    have := GL.ch_yes hx E R
    rw [this.2, if_neg (by rw [← this.1]; exact h)]
theorem wpList_load_rcg {ops : Array Oper} {rest : List Oper} {o : Oper} {a : Act} {w : World} {Q : Exit → Act → World → Prop} (hw : Region.wanted o (yielded ops a.tmps) = true) (y : Operand) (ho : o.op = .load 42 y)
    (g off : Nat) (x : Rc) (hy : a.eval y = .pointer (some ⟨g, off, none⟩)) (hx : RcAt w g off x) (h : wpList Try.prog ops Q rest (a.put o.dst (.agg (rcA x))) w) : wpList Try.prog ops Q (o :: rest) a w := by
  refine wpList_step fun K hK => ?_
  rw [if_pos hw]
  unfold Oper.wp
  rw [run_load_rc ho hy hx]
  exact hK _ _ h
/-- A reservation that is told to go: what lies behind it, and behind its expiry. -/
theorem res_goes {L : List Rc} {id m li wk : Int} (hI : GL.Inv L) (h : GL.chE L id (GL.resE · m) = 0) : ∃ x, GL.getR L id = x ∧ GL.getE L id = 0 ∧
    GL.getR (GL.chL L id (GL.resE · m) (GL.resR · m li wk)) id = GL.resR x m li wk ∧ GL.getE (GL.chL L id (GL.resE · m) (GL.resR · m li wk)) id = 0 ∧ (GL.resR x m li wk).st = 2 ∧
    GL.chE (GL.chL L id (GL.resE · m) (GL.resR · m li wk)) id (GL.turE · 3) = 0 ∧ GL.chL (GL.chL L id (GL.resE · m) (GL.resR · m li wk)) id (GL.turE · 3) (GL.turR · 3) = L := by
  cases hh : GL.hasI L id
  · rw [(GL.ch_no hh _ (fun y => y)).1] at h; cases h
  · obtain ⟨x, hx, hxi, _⟩ := GL.pos_yes hh
    have hc := GL.ch_yes hx (GL.resE · m) (GL.resR · m li wk)
    have hE : GL.resE x m = 0 := by rw [← hc.1]; exact h
    have hL1 : GL.chL L id (GL.resE · m) (GL.resR · m li wk) = L.set (GL.pos L id) (GL.resR x m li wk) := by rw [hc.2, if_pos hE]
    have hok := hI.ok x (List.mem_of_getElem? hx)
    have hst : x.st = 1 := by
      rw [GL.resE_of hok] at hE
      by_cases e : x.st = 1
      · exact e
      · rw [if_pos e] at hE; cases hE
    have hR := GL.resR_of hst m li wk
    obtain ⟨s1, s2, s3⟩ := set_pos (y := GL.resR x m li wk) hx (by rw [hR]; exact hxi)
    have hg := GL.get_yes hx hh
    have hg1 := GL.get_yes (L := L.set (GL.pos L id) (GL.resR x m li wk)) (id := id) (x := GL.resR x m li wk) (by rw [s1]; exact s3) s2
    have hc1 := GL.ch_yes (L := L.set (GL.pos L id) (GL.resR x m li wk)) (id := id) (x := GL.resR x m li wk) (by rw [s1]; exact s3) (GL.turE · 3) (GL.turR · 3)
    have hst2 : (GL.resR x m li wk).st = 2 := by rw [hR]
    have hE2 : GL.turE (GL.resR x m li wk) 3 = 0 := by
      rw [GL.turE_of, hst2]; decide
    refine ⟨x, hg.1, hg.2, ?_, ?_, hst2, ?_, ?_⟩
    · rw [hL1]; exact hg1.1
    · rw [hL1]; exact hg1.2
    · rw [hL1, hc1.1]; exact hE2
    · rw [hL1, hc1.2, if_pos hE2, s1, List.set_set]
      have hback : GL.turR (GL.resR x m li wk) 3 = x := by
        have f1 := hok.free (by omega) (by omega)
        have f2 := hok.rest (by omega)
        have e1 : GL.nextS (GL.resR x m li wk).st 3 = 1 := by rw [hst2]; decide
        unfold GL.turR GL.ledR
        rw [e1, hR]
        cases x
        simp at f1 f2 hst ⊢
        simp [f1, f2, hst]
      rw [hback]
      have hl := (List.getElem?_eq_some_iff.1 hx)
      rw [← hl.2]
      exact List.set_getElem_self hl.1
theorem GaMade.box {T : TypeId} {w0 w : World} {p : Nat} {L : List Rc} {S : Nat → Prop} (h : GaMade T w0 w p L S) (x : Rc) :
    GaMade T w0 ((w.alloc (rcO GL.zr)).setRow w.heap.size (rcA x)) p L (fun i => S i ∨ i = w.heap.size) ∧ ((w.alloc (rcO GL.zr)).setRow w.heap.size (rcA x)).heap[w.heap.size]? = some (rcO x) ∧ Below w.heap.size w ((w.alloc (rcO GL.zr)).setRow w.heap.size (rcA x)) := by
  have hB : Below w.heap.size w ((w.alloc (rcO GL.zr)).setRow w.heap.size (rcA x)) := below_row ((Below.refl _ _).alloc (Nat.le_refl _) _) (Nat.le_refl _) _
  have hx : ((w.alloc (rcO GL.zr)).setRow w.heap.size (rcA x)).heap[w.heap.size]? = some (rcO x) := setRow_rc (old := GL.zr) (rc_new w GL.zr)
  refine ⟨(h.more hB).less fun i hi => ?_, hx, hB⟩
  rcases hi with hi | rfl
  · exact .inl hi
  · exact .inr ⟨Nat.le_refl _, blk_lt hx⟩
theorem sub_i64 {a b : Int} (h : -9223372036854775808 ≤ a - b) (h2 : a - b ≤ 9223372036854775807) : IntKind.i64.wrap (a - b) = a - b := IntWalk.i64_in _ (by omega)
set_option maxRecDepth 100000 in
set_option maxHeartbeats 8000000 in
theorem walk (Aq : Option Addr) (cq : Nat) (l : List Ga) (id m li wk : Int) (w : World) (hvl : Gas w w.heap.size Aq l) (hql : ∀ a ∈ l, GaW a) (lcl : l.length ≤ cq) (mcl : cq ≤ maxLen) (wid : (Lit.int .i64 id).wf = true) (wm : (Lit.int .i64 m).wf = true) (wli : (Lit.int .i64 li).wf = true) (wwk : (Lit.int .i64 wk).wf = true) :
    Calls Try.prog 6 #[.slice Aq l.length cq, .int .i64 id, .int .i64 m, .int .i64 li, .int .i64 wk] w fun e w' => e = .returned (.bool true) ∧ Below w.heap.size w w' := by
  have AW := Lib.hid (awake_any w)
  unfold maxLen at mcl
  obtain ⟨u, hu⟩ : ∃ u, u = l.length := ⟨_, rfl⟩
  have H := Lib.hid (And.intro hvl hu)
  rw [← hu] at lcl ⊢
  clear hvl hql hu
  go_enter Try.func6, Try.ntmps6
  go_wp2_with fail
  refine AW.out.mono ?_
  rintro e w1 ⟨rfl, hb1⟩
  have HB1 := Lib.hid hb1
  clear hb1 AW
  by_cases h100 : 100 < u
  · have t0 : decide (100 < (u : Int)) = true := decide_eq_true (by omega)
    clear h100
    go_wp2
    go_ret
    exact ⟨by first | rfl | (simp; done), HB1.out⟩
  have t0 : decide (100 < (u : Int)) = false := decide_eq_false (by omega)
  have hNe := new_m HB1.out
  go_wp2_with fail
  refine hNe.mono ?_
  rintro e w2 ⟨rfl, hm2⟩
  obtain ⟨p, hp⟩ : ∃ p, p = w1.heap.size := ⟨_, rfl⟩
  rw [← hp] at hm2 ⊢
  have HM2 := Lib.hid hm2
  clear hm2 hNe hp t0
  go_wp2
  go_loopw [12] (fun vi wr => ∃ i : Nat, vi = .int .i64 i ∧ i ≤ u ∧ Hid (∃ L, GL.Inv L ∧ L.length ≤ i ∧ GaMade 68 w wr p L (fun _ => False))) (fun vi _ => match vi with | .int _ i => u - i.toNat | _ => 0)
  case atStart => exact ⟨0, rfl, by omega, Lib.hid ⟨[], GL.Inv.nil, Nat.le_refl _, HM2.out.less (fun _ h => h.elim)⟩⟩
  case round =>
    clear HM2
    obtain ⟨i, rfl, hi, hM⟩ := hrel
    by_cases hlt : i < u
    · obtain ⟨L, hI, hL, hm⟩ := hM.out
      obtain ⟨a, ha⟩ : ∃ a, l[i]? = some a := ⟨_, List.getElem?_eq_getElem (by rw [← H.out.2]; exact hlt)⟩
      obtain ⟨b, off, rfl, hb, hc⟩ := H.out.1.at_ ha
      have t1 : decide (i < u) = true := decide_eq_true hlt
      have hll : L.length ≤ 100 := by omega
      have HX := Lib.hid (And.intro (hc i a ha) hb)
      have HI := Lib.hid (And.intro hI hL)
      have HM := Lib.hid hm
      obtain ⟨n, hn⟩ : ∃ n, n = L.length := ⟨_, rfl⟩
      have HN := Lib.hid hn
      have hA1 := all_m hm
      rw [← hn] at hA1 hll
      clear hM hm ha hc hb hI hL hn
      go_wp2_with fail
      refine hA1.mono ?_
      rintro e w3 ⟨A1, c1, rfl, k1, k2, hE1, hA1', hb3⟩
      have hm3 := HM.out.more hb3
      have HE1 := Lib.hid (And.intro hE1 hA1')
      have HXa := Lib.hid (HX.out.1.keep HX.out.2 hm3.below)
      have HM3 := Lib.hid hm3
      have hDo := do_m hm3 a
      have Hb3 := Lib.hid hb3
      clear hE1 hA1' hm3 hA1 hb3
      go_wp2_with (first
        | (refine wpList_load_ga rfl _ rfl b (off + i * 12) a rfl HXa.out ?_)
        | fail)
      refine hDo.mono ?_
      rintro e w4 ⟨rfl, hm4, hk4⟩
      have hat := GL.act_at L a
      have HAT := Lib.hid hat
      have hE1' : Els rcC 16 w4 w3.heap.size A1 L := HE1.out.1.off fun b off e _ => hk4 b (.inr ⟨(HE1.out.2 b off e).1, (HE1.out.2 b off e).2.1⟩)
      have HE4 := Lib.hid (And.intro hE1' (GaMade.below hm4).size)
      have hs34 : Hid (∀ b off, A1 = some ⟨b, off, none⟩ → b < w4.heap.size) := Lib.hid (fun b off e => by
        obtain ⟨F, h1, h2, h3, h4⟩ := hm4
        exact (h4 b (.inr ⟨(HE1.out.2 b off e).1, (HE1.out.2 b off e).2.1⟩)).1)
      have HM4 := Lib.hid (hm4.less (S' := fun _ => False) (fun _ h => h.elim))
      obtain ⟨n2, hn2⟩ : ∃ n2, n2 = (GL.actL L a).length := ⟨_, rfl⟩
      have hn12 : n ≤ n2 := by rw [hn2, HN.out]; exact hat.1
      have hn22 : n2 ≤ 101 := by rw [hn2]; have := hat.2.1; rw [← HN.out] at this; omega
      have HN2 := Lib.hid hn2
      have hA2 := all_m hm4
      rw [← hn2] at hA2
      clear hm4 hk4 hat hE1' hn2 hDo HXa
      go_wp2_with fail
      refine hA2.mono ?_
      rintro e w5 ⟨A2, c2, rfl, j1, j2, hE2, hA2', hb5⟩
      have HM5 := Lib.hid (HM4.out.keep hb5)
      have HE2 := Lib.hid (And.intro hE2 hA2')
      have HE5 : Hid (∀ k x, L[k]? = some x → ∃ b1, A1 = some ⟨b1, 0, none⟩ ∧ b1 < w5.heap.size ∧ RcAt w5 b1 (k * 16) x) := Lib.hid (fun k x hx => by
        obtain ⟨b1, e1, l1, r1⟩ := rcs_get HE4.out.1 (fun b off e => (HE1.out.2 b off e).2.2) hx
        exact ⟨b1, e1, Nat.lt_of_lt_of_le (hs34.out b1 0 e1) hb5.size, r1.keep (hs34.out b1 0 e1) hb5⟩)
      have HB0 := Lib.hid (Below.refl w5.heap.size w5)
      have t2 : decide (n2 < n) = false := decide_eq_false (by omega)
      clear hE2 hA2' hb5 hA2 HE4 hs34 HM3 HM4
      go_wp2
      go_loopw [15] (fun vk wx => ∃ k : Nat, vk = .int .i64 k ∧ k ≤ n ∧ Hid (Below w5.heap.size w5 wx)) (fun vk _ => match vk with | .int _ i => n - i.toNat | _ => 0)
      case atStart => exact ⟨0, rfl, by omega, HB0⟩
      case round =>
        clear HB0
        obtain ⟨k, rfl, hk, hB⟩ := hrel
        by_cases hkn : k < n
        · have t3 : decide (k < n) = true := decide_eq_true hkn
          obtain ⟨x, hx⟩ : ∃ x, L[k]? = some x := ⟨_, List.getElem?_eq_getElem (by rw [← HN.out]; exact hkn)⟩
          obtain ⟨y, hy⟩ : ∃ y, (GL.actL L a)[k]? = some y := ⟨_, List.getElem?_eq_getElem (by rw [← HN2.out]; omega)⟩
          obtain ⟨b1, e1, lb1', r1'⟩ := HE5.out k x hx
          obtain ⟨b2, e2, lb2', r2'⟩ := rcs_get HE2.out.1 (fun b off e => (HE2.out.2 b off e).2.2) hy
          have hxy := HAT.out.2.2.1 k x y hx hy
          have r1 : RcAt wr b1 (k * 16) x := r1'.keep lb1' hB.out
          have r2y : RcAt wr b2 (k * 16) y := r2'.keep lb2' hB.out
          have c1 : wr.cell? ⟨b1, k * 16, none⟩ = some (.int .i64 x.id) := r1 0 _ rfl
          have lbw : b < wr.heap.size := Nat.lt_of_lt_of_le HX.out.2 (Nat.le_trans HM5.out.below.size hB.out.size)
          have c2 : wr.cell? ⟨b, off + i * 12 + 4, none⟩ = some (.int .i64 a.j.id) := (HX.out.1.keep HX.out.2 (HM5.out.below.trans (hB.out.mono HM5.out.below.size))) 4 _ rfl
          have hk2 : k < n2 := by omega
          subst e1
          subst e2
          by_cases hid : x.id = a.j.id
          · have t4 : (x.id != a.j.id) = false := by simp [hid]
            clear r1 r2y r1' r2' hx hy hxy hid
            go_wp2_with fail
            refine held_begin (fun w' : World => w'.cell? ⟨b1, k * 16, none⟩ = some (.int .i64 x.id) ∧ w'.cell? ⟨b, off + i * 12 + 4, none⟩ = some (.int .i64 a.j.id)) (by kernel_rfl) ?_
            have hBh0 : Below wr.heap.size wr wr.drew := (Below.refl _ _).drew
            have hSh0 : (fun w' : World => w'.cell? ⟨b1, k * 16, none⟩ = some (.int .i64 x.id) ∧ w'.cell? ⟨b, off + i * 12 + 4, none⟩ = some (.int .i64 a.j.id)) wr.drew := ⟨c1, c2⟩
            refine held_take (v := ?_) 0 60 rfl rfl (by kernel_rfl) (by kernel_rfl) (by kernel_rfl) (fun _ _ _ h => h) ⟨by rfl, ?_⟩ hSh0 ?_
            rotate_left
            · intro w' hw'; obtain ⟨x0, x1⟩ := hw'; go_simp; (try with_reducible rfl)
            simp only [Act.put, List.setIfInBounds_toArray, List.set_cons_zero, List.set_cons_succ]
            refine held_take (v := ?_) 1 61 rfl rfl (by kernel_rfl) (by kernel_rfl) (by kernel_rfl) (fun _ _ _ h => h) ⟨by rfl, ?_⟩ hSh0 ?_
            rotate_left
            · intro w' hw'; obtain ⟨x0, x1⟩ := hw'; go_simp; (try with_reducible rfl)
            simp only [Act.put, List.setIfInBounds_toArray, List.set_cons_zero, List.set_cons_succ]
            refine held_take (v := ?_) 2 62 rfl rfl (by kernel_rfl) (by kernel_rfl) (by kernel_rfl) (fun _ _ _ h => h) ⟨by rfl, ?_⟩ hSh0 ?_
            rotate_left
            · intro w' hw'; obtain ⟨x0, x1⟩ := hw'; go_simp; (try with_reducible rfl)
            simp only [Act.put, List.setIfInBounds_toArray, List.set_cons_zero, List.set_cons_succ]
            refine held_take (v := ?_) 3 63 rfl rfl (by kernel_rfl) (by kernel_rfl) (by kernel_rfl) (fun _ _ _ h => h) ⟨by rfl, ?_⟩ hSh0 ?_
            rotate_left
            · intro w' hw'; obtain ⟨x0, x1⟩ := hw'; go_simp; (try with_reducible rfl)
            simp only [Act.put, List.setIfInBounds_toArray, List.set_cons_zero, List.set_cons_succ]
            refine held_take (v := ?_) 4 64 rfl rfl (by kernel_rfl) (by kernel_rfl) (by kernel_rfl) (fun _ _ _ h => h) ⟨by rfl, ?_⟩ hSh0 ?_
            rotate_left
            · intro w' hw'; obtain ⟨x0, x1⟩ := hw'; go_simp; (try with_reducible rfl)
            simp only [Act.put, List.setIfInBounds_toArray, List.set_cons_zero, List.set_cons_succ]
            refine held_take (v := ?_) 5 65 rfl rfl (by kernel_rfl) (by kernel_rfl) (by kernel_rfl) (fun _ _ _ h => h) ⟨by rfl, ?_⟩ hSh0 ?_
            rotate_left
            · intro w' hw'; obtain ⟨x0, x1⟩ := hw'; go_simp; (try with_reducible rfl)
            simp only [Act.put, List.setIfInBounds_toArray, List.set_cons_zero, List.set_cons_succ]
            refine held_take (v := ?_) 6 66 rfl rfl (by kernel_rfl) (by kernel_rfl) (by kernel_rfl) (fun _ _ _ h => h) ⟨by rfl, ?_⟩ hSh0 ?_
            rotate_left
            · intro w' hw'; obtain ⟨x0, x1⟩ := hw'; go_simp; (try with_reducible rfl)
            simp only [Act.put, List.setIfInBounds_toArray, List.set_cons_zero, List.set_cons_succ]
            refine held_take (v := ?_) 7 67 rfl rfl (by kernel_rfl) (by kernel_rfl) (by kernel_rfl) (fun _ _ _ h => h) ⟨by rfl, ?_⟩ hSh0 ?_
            rotate_left
            · intro w' hw'; obtain ⟨x0, x1⟩ := hw'; go_simp; (try with_reducible rfl)
            simp only [Act.put, List.setIfInBounds_toArray, List.set_cons_zero, List.set_cons_succ]
            refine held_take (v := ?_) 8 68 rfl rfl (by kernel_rfl) (by kernel_rfl) (by kernel_rfl) (fun _ _ _ h => h) ⟨by rfl, ?_⟩ hSh0 ?_
            rotate_left
            · intro w' hw'; obtain ⟨x0, x1⟩ := hw'; go_simp; (try with_reducible rfl)
            simp only [Act.put, List.setIfInBounds_toArray, List.set_cons_zero, List.set_cons_succ]
            refine held_take (v := ?_) 9 69 rfl rfl (by kernel_rfl) (by kernel_rfl) (by kernel_rfl) (fun _ _ _ h => h) ⟨by rfl, ?_⟩ hSh0 ?_
            rotate_left
            · intro w' hw'; obtain ⟨x0, x1⟩ := hw'; go_simp; (try with_reducible rfl)
            simp only [Act.put, List.setIfInBounds_toArray, List.set_cons_zero, List.set_cons_succ]
            refine held_take (v := ?_) 10 70 rfl rfl (by kernel_rfl) (by kernel_rfl) (by kernel_rfl) (fun _ _ _ h => h) ⟨by rfl, ?_⟩ hSh0 ?_
            rotate_left
            · intro w' hw'; obtain ⟨x0, x1⟩ := hw'; go_simp; (try with_reducible rfl)
            simp only [Act.put, List.setIfInBounds_toArray, List.set_cons_zero, List.set_cons_succ]
            refine held_take (v := ?_) 11 71 rfl rfl (by kernel_rfl) (by kernel_rfl) (by kernel_rfl) (fun _ _ _ h => h) ⟨by rfl, ?_⟩ hSh0 ?_
            rotate_left
            · intro w' hw'; obtain ⟨x0, x1⟩ := hw'; go_simp; (try with_reducible rfl)
            simp only [Act.put, List.setIfInBounds_toArray, List.set_cons_zero, List.set_cons_succ]
            refine held_take (v := ?_) 12 72 rfl rfl (by kernel_rfl) (by kernel_rfl) (by kernel_rfl) (fun _ _ _ h => h) ⟨by rfl, ?_⟩ hSh0 ?_
            rotate_left
            · intro w' hw'; obtain ⟨x0, x1⟩ := hw'; go_simp; (try with_reducible rfl)
            simp only [Act.put, List.setIfInBounds_toArray, List.set_cons_zero, List.set_cons_succ]
            refine held_take (v := ?_) 13 73 rfl rfl (by kernel_rfl) (by kernel_rfl) (by kernel_rfl) (fun _ _ _ h => h) ⟨by rfl, ?_⟩ hSh0 ?_
            rotate_left
            · intro w' hw'; obtain ⟨x0, x1⟩ := hw'; go_simp; (try with_reducible rfl)
            simp only [Act.put, List.setIfInBounds_toArray, List.set_cons_zero, List.set_cons_succ]
            refine held_skip 14 74 rfl rfl (by kernel_rfl) (by kernel_rfl) (by kernel_rfl) (fun _ _ _ h => h) (by rfl) hSh0 ?_
            simp only [Act.put, List.setIfInBounds_toArray, List.set_cons_zero, List.set_cons_succ]
            refine held_skip 15 75 rfl rfl (by kernel_rfl) (by kernel_rfl) (by kernel_rfl) (fun _ _ _ h => h) (by rfl) hSh0 ?_
            simp only [Act.put, List.setIfInBounds_toArray, List.set_cons_zero, List.set_cons_succ]
            refine held_skip 16 76 rfl rfl (by kernel_rfl) (by kernel_rfl) (by kernel_rfl) (fun _ _ _ h => h) (by rfl) hSh0 ?_
            simp only [Act.put, List.setIfInBounds_toArray, List.set_cons_zero, List.set_cons_succ]
            refine held_skip 17 77 rfl rfl (by kernel_rfl) (by kernel_rfl) (by kernel_rfl) (fun _ _ _ h => h) (by rfl) hSh0 ?_
            simp only [Act.put, List.setIfInBounds_toArray, List.set_cons_zero, List.set_cons_succ]
            refine held_skip 18 78 rfl rfl (by kernel_rfl) (by kernel_rfl) (by kernel_rfl) (fun _ _ _ h => h) (by rfl) hSh0 ?_
            simp only [Act.put, List.setIfInBounds_toArray, List.set_cons_zero, List.set_cons_succ]
            refine held_skip 19 79 rfl rfl (by kernel_rfl) (by kernel_rfl) (by kernel_rfl) (fun _ _ _ h => h) (by rfl) hSh0 ?_
            simp only [Act.put, List.setIfInBounds_toArray, List.set_cons_zero, List.set_cons_succ]
            refine held_skip 20 80 rfl rfl (by kernel_rfl) (by kernel_rfl) (by kernel_rfl) (fun _ _ _ h => h) (by rfl) hSh0 ?_
            simp only [Act.put, List.setIfInBounds_toArray, List.set_cons_zero, List.set_cons_succ]
            refine held_skip 21 81 rfl rfl (by kernel_rfl) (by kernel_rfl) (by kernel_rfl) (fun _ _ _ h => h) (by rfl) hSh0 ?_
            simp only [Act.put, List.setIfInBounds_toArray, List.set_cons_zero, List.set_cons_succ]
            refine held_skip 22 82 rfl rfl (by kernel_rfl) (by kernel_rfl) (by kernel_rfl) (fun _ _ _ h => h) (by rfl) hSh0 ?_
            simp only [Act.put, List.setIfInBounds_toArray, List.set_cons_zero, List.set_cons_succ]
            refine held_take (v := ?_) 23 83 rfl rfl (by kernel_rfl) (by kernel_rfl) (by kernel_rfl) (fun _ _ _ h => h) ⟨by rfl, ?_⟩ hSh0 ?_
            rotate_left
            · intro w' hw'; obtain ⟨x0, x1⟩ := hw'; go_simp; (try with_reducible rfl)
            simp only [Act.put, List.setIfInBounds_toArray, List.set_cons_zero, List.set_cons_succ]
            refine wpAnyH_done (by kernel_rfl) ?_ _
            have HBq := Lib.hid (hB.out.trans (Below.refl _ wr).drew)
            clear hB c1 c2
            first
              | generalize wr.drew = wq at *
              | skip
            go_wp2
            go_roundw
            case rel => exact ⟨k + 1, by go_num, by omega, HBq⟩
            case measure => simp; omega
          · have t4 : (x.id != a.j.id) = true := by simpa using hid
            obtain rfl : x = y := by
              rcases hxy with e | e
              · exact e.symm
              · exact absurd e.1 hid
            have r2 := r2y
            have hne := fun W => rc_ne x W
            clear r2y r1' r2' hx hy hxy hid
            go_wp2_with fail
            refine held_begin (fun w' : World => w'.cell? ⟨b1, k * 16, none⟩ = some (.int .i64 x.id) ∧ w'.cell? ⟨b, off + i * 12 + 4, none⟩ = some (.int .i64 a.j.id) ∧ RcAt w' b1 (k * 16) x ∧ RcAt w' b2 (k * 16) x) (by kernel_rfl) ?_
            have hBh0 : Below wr.heap.size wr wr.drew := (Below.refl _ _).drew
            have hSh0 : (fun w' : World => w'.cell? ⟨b1, k * 16, none⟩ = some (.int .i64 x.id) ∧ w'.cell? ⟨b, off + i * 12 + 4, none⟩ = some (.int .i64 a.j.id) ∧ RcAt w' b1 (k * 16) x ∧ RcAt w' b2 (k * 16) x) wr.drew := ⟨c1, c2, r1, r2⟩
            refine held_take (v := ?_) 0 60 rfl rfl (by kernel_rfl) (by kernel_rfl) (by kernel_rfl) (fun _ _ _ h => h) ⟨by rfl, ?_⟩ hSh0 ?_
            rotate_left
            · intro w' hw'; obtain ⟨x0, x1, x2, x3⟩ := hw'; go_simp; (try with_reducible rfl)
            simp only [Act.put, List.setIfInBounds_toArray, List.set_cons_zero, List.set_cons_succ]
            refine held_take (v := ?_) 1 61 rfl rfl (by kernel_rfl) (by kernel_rfl) (by kernel_rfl) (fun _ _ _ h => h) ⟨by rfl, ?_⟩ hSh0 ?_
            rotate_left
            · intro w' hw'; obtain ⟨x0, x1, x2, x3⟩ := hw'; go_simp; (try with_reducible rfl)
            simp only [Act.put, List.setIfInBounds_toArray, List.set_cons_zero, List.set_cons_succ]
            refine held_take (v := ?_) 2 62 rfl rfl (by kernel_rfl) (by kernel_rfl) (by kernel_rfl) (fun _ _ _ h => h) ⟨by rfl, ?_⟩ hSh0 ?_
            rotate_left
            · intro w' hw'; obtain ⟨x0, x1, x2, x3⟩ := hw'; go_simp; (try with_reducible rfl)
            simp only [Act.put, List.setIfInBounds_toArray, List.set_cons_zero, List.set_cons_succ]
            refine held_take (v := ?_) 3 63 rfl rfl (by kernel_rfl) (by kernel_rfl) (by kernel_rfl) (fun _ _ _ h => h) ⟨by rfl, ?_⟩ hSh0 ?_
            rotate_left
            · intro w' hw'; obtain ⟨x0, x1, x2, x3⟩ := hw'; go_simp; (try with_reducible rfl)
            simp only [Act.put, List.setIfInBounds_toArray, List.set_cons_zero, List.set_cons_succ]
            refine held_take (v := ?_) 4 64 rfl rfl (by kernel_rfl) (by kernel_rfl) (by kernel_rfl) (fun _ _ _ h => h) ⟨by rfl, ?_⟩ hSh0 ?_
            rotate_left
            · intro w' hw'; obtain ⟨x0, x1, x2, x3⟩ := hw'; go_simp; (try with_reducible rfl)
            simp only [Act.put, List.setIfInBounds_toArray, List.set_cons_zero, List.set_cons_succ]
            refine held_take (v := ?_) 5 65 rfl rfl (by kernel_rfl) (by kernel_rfl) (by kernel_rfl) (fun _ _ _ h => h) ⟨by rfl, ?_⟩ hSh0 ?_
            rotate_left
            · intro w' hw'; obtain ⟨x0, x1, x2, x3⟩ := hw'; go_simp; (try with_reducible rfl)
            simp only [Act.put, List.setIfInBounds_toArray, List.set_cons_zero, List.set_cons_succ]
            refine held_take (v := ?_) 6 66 rfl rfl (by kernel_rfl) (by kernel_rfl) (by kernel_rfl) (fun _ _ _ h => h) ⟨by rfl, ?_⟩ hSh0 ?_
            rotate_left
            · intro w' hw'; obtain ⟨x0, x1, x2, x3⟩ := hw'; go_simp; (try with_reducible rfl)
            simp only [Act.put, List.setIfInBounds_toArray, List.set_cons_zero, List.set_cons_succ]
            refine held_take (v := ?_) 7 67 rfl rfl (by kernel_rfl) (by kernel_rfl) (by kernel_rfl) (fun _ _ _ h => h) ⟨by rfl, ?_⟩ hSh0 ?_
            rotate_left
            · intro w' hw'; obtain ⟨x0, x1, x2, x3⟩ := hw'; go_simp; (try with_reducible rfl)
            simp only [Act.put, List.setIfInBounds_toArray, List.set_cons_zero, List.set_cons_succ]
            refine held_take (v := ?_) 8 68 rfl rfl (by kernel_rfl) (by kernel_rfl) (by kernel_rfl) (fun _ _ _ h => h) ⟨by rfl, ?_⟩ hSh0 ?_
            rotate_left
            · intro w' hw'; obtain ⟨x0, x1, x2, x3⟩ := hw'; go_simp; (try with_reducible rfl)
            simp only [Act.put, List.setIfInBounds_toArray, List.set_cons_zero, List.set_cons_succ]
            refine held_take (v := ?_) 9 69 rfl rfl (by kernel_rfl) (by kernel_rfl) (by kernel_rfl) (fun _ _ _ h => h) ⟨by rfl, ?_⟩ hSh0 ?_
            rotate_left
            · intro w' hw'; obtain ⟨x0, x1, x2, x3⟩ := hw'; go_simp; (try with_reducible rfl)
            simp only [Act.put, List.setIfInBounds_toArray, List.set_cons_zero, List.set_cons_succ]
            refine held_take (v := ?_) 10 70 rfl rfl (by kernel_rfl) (by kernel_rfl) (by kernel_rfl) (fun _ _ _ h => h) ⟨by rfl, ?_⟩ hSh0 ?_
            rotate_left
            · intro w' hw'; obtain ⟨x0, x1, x2, x3⟩ := hw'; go_simp; (try with_reducible rfl)
            simp only [Act.put, List.setIfInBounds_toArray, List.set_cons_zero, List.set_cons_succ]
            refine held_take (v := ?_) 11 71 rfl rfl (by kernel_rfl) (by kernel_rfl) (by kernel_rfl) (fun _ _ _ h => h) ⟨by rfl, ?_⟩ hSh0 ?_
            rotate_left
            · intro w' hw'; obtain ⟨x0, x1, x2, x3⟩ := hw'; go_simp; (try with_reducible rfl)
            simp only [Act.put, List.setIfInBounds_toArray, List.set_cons_zero, List.set_cons_succ]
            refine held_take (v := ?_) 12 72 rfl rfl (by kernel_rfl) (by kernel_rfl) (by kernel_rfl) (fun _ _ _ h => h) ⟨by rfl, ?_⟩ hSh0 ?_
            rotate_left
            · intro w' hw'; obtain ⟨x0, x1, x2, x3⟩ := hw'; go_simp; (try with_reducible rfl)
            simp only [Act.put, List.setIfInBounds_toArray, List.set_cons_zero, List.set_cons_succ]
            refine held_take (v := ?_) 13 73 rfl rfl (by kernel_rfl) (by kernel_rfl) (by kernel_rfl) (fun _ _ _ h => h) ⟨by rfl, ?_⟩ hSh0 ?_
            rotate_left
            · intro w' hw'; obtain ⟨x0, x1, x2, x3⟩ := hw'; go_simp; (try with_reducible rfl)
            simp only [Act.put, List.setIfInBounds_toArray, List.set_cons_zero, List.set_cons_succ]
            refine held_take (v := ?_) 14 74 rfl rfl (by kernel_rfl) (by kernel_rfl) (by kernel_rfl) (fun _ _ _ h => h) ⟨by rfl, ?_⟩ hSh0 ?_
            rotate_left
            · intro w' hw'; obtain ⟨x0, x1, x2, x3⟩ := hw'; go_simp; (try with_reducible rfl)
            simp only [Act.put, List.setIfInBounds_toArray, List.set_cons_zero, List.set_cons_succ]
            refine held_take (v := ?_) 15 75 rfl rfl (by kernel_rfl) (by kernel_rfl) (by kernel_rfl) (fun _ _ _ h => h) ⟨by rfl, ?_⟩ hSh0 ?_
            rotate_left
            · intro w' hw'; obtain ⟨x0, x1, x2, x3⟩ := hw'; go_simp; (try with_reducible rfl)
            simp only [Act.put, List.setIfInBounds_toArray, List.set_cons_zero, List.set_cons_succ]
            refine held_take (v := ?_) 16 76 rfl rfl (by kernel_rfl) (by kernel_rfl) (by kernel_rfl) (fun _ _ _ h => h) ⟨by rfl, ?_⟩ hSh0 ?_
            rotate_left
            · intro w' hw'; obtain ⟨x0, x1, x2, x3⟩ := hw'; go_simp; (try with_reducible rfl)
            simp only [Act.put, List.setIfInBounds_toArray, List.set_cons_zero, List.set_cons_succ]
            refine held_take (v := ?_) 17 77 rfl rfl (by kernel_rfl) (by kernel_rfl) (by kernel_rfl) (fun _ _ _ h => h) ⟨by rfl, ?_⟩ hSh0 ?_
            rotate_left
            · intro w' hw'; obtain ⟨x0, x1, x2, x3⟩ := hw'; refine Eq.trans (run_load_rc (by rfl) (by rfl) x2) ?_; (with_reducible rfl)
            simp only [Act.put, List.setIfInBounds_toArray, List.set_cons_zero, List.set_cons_succ]
            refine held_take (v := ?_) 18 78 rfl rfl (by kernel_rfl) (by kernel_rfl) (by kernel_rfl) (fun _ _ _ h => h) ⟨by rfl, ?_⟩ hSh0 ?_
            rotate_left
            · intro w' hw'; obtain ⟨x0, x1, x2, x3⟩ := hw'; go_simp; (try with_reducible rfl)
            simp only [Act.put, List.setIfInBounds_toArray, List.set_cons_zero, List.set_cons_succ]
            refine held_take (v := ?_) 19 79 rfl rfl (by kernel_rfl) (by kernel_rfl) (by kernel_rfl) (fun _ _ _ h => h) ⟨by rfl, ?_⟩ hSh0 ?_
            rotate_left
            · intro w' hw'; obtain ⟨x0, x1, x2, x3⟩ := hw'; go_simp; (try with_reducible rfl)
            simp only [Act.put, List.setIfInBounds_toArray, List.set_cons_zero, List.set_cons_succ]
            refine held_take (v := ?_) 20 80 rfl rfl (by kernel_rfl) (by kernel_rfl) (by kernel_rfl) (fun _ _ _ h => h) ⟨by rfl, ?_⟩ hSh0 ?_
            rotate_left
            · intro w' hw'; obtain ⟨x0, x1, x2, x3⟩ := hw'; go_simp; (try with_reducible rfl)
            simp only [Act.put, List.setIfInBounds_toArray, List.set_cons_zero, List.set_cons_succ]
            refine held_take (v := ?_) 21 81 rfl rfl (by kernel_rfl) (by kernel_rfl) (by kernel_rfl) (fun _ _ _ h => h) ⟨by rfl, ?_⟩ hSh0 ?_
            rotate_left
            · intro w' hw'; obtain ⟨x0, x1, x2, x3⟩ := hw'; refine Eq.trans (run_load_rc (by rfl) (by rfl) x3) ?_; (with_reducible rfl)
            simp only [Act.put, List.setIfInBounds_toArray, List.set_cons_zero, List.set_cons_succ]
            refine held_take (v := ?_) 22 82 rfl rfl (by kernel_rfl) (by kernel_rfl) (by kernel_rfl) (fun _ _ _ h => h) ⟨by rfl, ?_⟩ hSh0 ?_
            rotate_left
            · intro w' hw'; obtain ⟨x0, x1, x2, x3⟩ := hw'; go_simp; (try with_reducible rfl)
            simp only [Act.put, List.setIfInBounds_toArray, List.set_cons_zero, List.set_cons_succ]
            refine held_take (v := ?_) 23 83 rfl rfl (by kernel_rfl) (by kernel_rfl) (by kernel_rfl) (fun _ _ _ h => h) ⟨by rfl, ?_⟩ hSh0 ?_
            rotate_left
            · intro w' hw'; obtain ⟨x0, x1, x2, x3⟩ := hw'; go_simp; (try with_reducible rfl)
            simp only [Act.put, List.setIfInBounds_toArray, List.set_cons_zero, List.set_cons_succ]
            refine wpAnyH_done (by kernel_rfl) ?_ _
            have HBq := Lib.hid (hB.out.trans (Below.refl _ wr).drew)
            clear hB c1 c2 r1 r2 hne
            first
              | generalize wr.drew = wq at *
              | skip
            go_wp2
            go_roundw
            case rel => exact ⟨k + 1, by go_num, by omega, HBq⟩
            case measure => simp; omega
        · have t3 : decide (k < n) = false := decide_eq_false hkn
          have HMz := Lib.hid (show ∃ L, GL.Inv L ∧ L.length ≤ i + 1 ∧ GaMade 68 w wr p L (fun _ => False) from ⟨_, HI.out.1.act a, GL.act_len (a := a) HI.out.2, HM5.out.keep hB.out⟩)
          clear hkn hB
          go_wp2
          go_roundw
          case rel => exact ⟨i + 1, by go_num, by omega, HMz⟩
          case measure => simp; omega
    · have t1 : decide (i < u) = false := decide_eq_false hlt
      obtain ⟨L, hI, hL, hm⟩ := hM.out
      have HI := Lib.hid hI
      have HM := Lib.hid hm
      obtain ⟨r, hr⟩ : ∃ r, r = GL.getR L id := ⟨_, rfl⟩
      obtain ⟨ge, hge⟩ : ∃ ge, ge = GL.getE L id := ⟨_, rfl⟩
      have hGt := get_m hm id
      rw [← hr, ← hge] at hGt
      have HRG := Lib.hid (And.intro hr hge)
      have heq : ∀ W, _ := fun W => rc_eq r W
      clear hM hI hL hm hlt hr hge
      go_wp2_with fail
      refine hGt.mono ?_
      rintro e w3 ⟨rfl, hb3⟩
      obtain ⟨hmB3, hxB3, hBB3⟩ := GaMade.box (HM.out.keep hb3) r
      have HZ3 := Lib.hid (rc_new w3 GL.zr)
      obtain ⟨v3, hv3⟩ : ∃ v, v = (w3.alloc (rcO GL.zr)).setRow w3.heap.size (rcA r) := ⟨_, rfl⟩
      rw [← hv3] at hmB3 hxB3 hBB3
      have HV3 := Lib.hid hv3
      rw [rcO_zr] at HZ3
      have HRs := Lib.hid (reserve_m hmB3 id m li wk)
      have HX3 := Lib.hid hxB3
      clear hGt hb3 hmB3 hxB3 hBB3 hv3
      go_wp2_with (first
        | (refine wpList_store_rc rfl _ _ rfl w3.heap.size r rfl rfl GL.zr HZ3.out ?_)
        | fail)
      rw [← rcO_zr, ← HV3.out]
      refine HRs.out.mono ?_
      rintro e w5 ⟨rfl, hm5, hk5⟩
      have HX5 := Lib.hid ((hk5 _ (.inr rfl)).trans HX3.out)
      have l5 : w3.heap.size < w5.heap.size := blk_lt HX5.out
      obtain ⟨d, hd⟩ : ∃ d, d = GL.chE L id (GL.resE · m) := ⟨_, rfl⟩
      rw [← hd]
      have HD := Lib.hid hd
      by_cases h0 : d = 0
      · have hrg := res_goes (m := m) (li := li) (wk := wk) HI.out (id := id) (by rw [← hd]; exact h0)
        obtain ⟨x, q1, q2, q3, q4, q5, q6, q7⟩ := hrg
        rw [← HRG.out.1] at q1
        rw [← HRG.out.2] at q2
        obtain ⟨L1, hL1⟩ : ∃ L1, L1 = GL.chL L id (GL.resE · m) (GL.resR · m li wk) := ⟨_, rfl⟩
        rw [← hL1] at hm5 q3 q4 q6 q7
        have hGt := get_m hm5 id
        obtain ⟨y, hy⟩ : ∃ y, y = GL.resR x m li wk := ⟨_, rfl⟩
        rw [q3, q4, ← hy] at hGt
        rw [← hy] at q5
        have hy1 : y.me = m ∧ y.li = li ∧ y.wo = wk := by rw [hy]; exact ⟨rfl, rfl, rfl⟩
        have HQ := Lib.hid (And.intro q6 q7)
        have HG2 := Lib.hid q2
        have HM5 := Lib.hid hm5
        subst h0
        clear hk5 hm5 q1 q2 q3 q4 q6 q7 hy HRs hL1 hd
        go_wp2_with fail
        refine hGt.mono ?_
        rintro e w6 ⟨rfl, hb6⟩
        have HX6 := Lib.hid ((hb6.block _ l5).trans HX5.out)
        have l6 : w3.heap.size < w6.heap.size := blk_lt HX6.out
        obtain ⟨hmB6, hxB6, hBB6⟩ := GaMade.box (HM5.out.keep hb6) y
        have HZ6 := Lib.hid (rc_new w6 GL.zr)
        obtain ⟨v6, hv6⟩ : ∃ v, v = (w6.alloc (rcO GL.zr)).setRow w6.heap.size (rcA y) := ⟨_, rfl⟩
        rw [← hv6] at hmB6 hxB6 hBB6
        have HV6 := Lib.hid hv6
        rw [rcO_zr] at HZ6
        have HX7 := Lib.hid ((hBB6.block _ l6).trans HX6.out)
        have z8 : v6.cell? ⟨w6.heap.size, 8, none⟩ = some (.int .i64 y.st) := cell_blk hxB6 rfl
        have z11 : v6.cell? ⟨w6.heap.size, 11, none⟩ = some (.int .i64 y.me) := cell_blk hxB6 rfl
        have z14 : v6.cell? ⟨w6.heap.size, 14, none⟩ = some (.int .i64 y.li) := cell_blk hxB6 rfl
        have z15 : v6.cell? ⟨w6.heap.size, 15, none⟩ = some (.int .i64 y.wo) := cell_blk hxB6 rfl
        rw [q5] at z8
        rw [hy1.1] at z11
        rw [hy1.2.1] at z14
        rw [hy1.2.2] at z15
        have hTu := turn_m hmB6 id 3
        rw [HQ.out.1, HQ.out.2] at hTu
        have HTu := Lib.hid hTu
        have l7 : w3.heap.size < v6.heap.size := blk_lt HX7.out
        have Z8 := Lib.hid z8
        have Z11 := Lib.hid z11
        have Z14 := Lib.hid z14
        have Z15 := Lib.hid z15
        rw [hv6, rcO_zr] at Z8 Z11 Z14 Z15
        clear hGt hb6 hmB6 hxB6 hBB6 hv6 hTu z8 z11 z14 z15 q5 hy1
        go_wp2_with (first
          | (refine wpList_store_rc rfl _ _ rfl w6.heap.size y rfl rfl GL.zr HZ6.out ?_; have z8' := Z8.out; have z11' := Z11.out; have z14' := Z14.out; have z15' := Z15.out)
          | fail)
        rw [← rcO_zr, ← HV6.out]
        refine HTu.out.mono ?_
        rintro e w8 ⟨rfl, hm8, hk8⟩
        have HX8 := Lib.hid ((hk8 w3.heap.size (.inl (.inr rfl))).trans HX7.out)
        have l8 : w3.heap.size < w8.heap.size := blk_lt HX8.out
        have hGt := get_m hm8 id
        rw [← HRG.out.1, ← HRG.out.2, HG2.out] at hGt
        have HM8 := Lib.hid hm8
        clear hm8 hk8 HTu z8' z11' z14' z15' Z8 Z11 Z14 Z15
        go_wp2_with fail
        refine hGt.mono ?_
        rintro e w9 ⟨rfl, hb9⟩
        have HX9 := Lib.hid ((hb9.block _ l8).trans HX8.out)
        have l9 : w3.heap.size < w9.heap.size := blk_lt HX9.out
        obtain ⟨hmB9, hxB9, hBB9⟩ := GaMade.box (HM8.out.keep hb9) r
        have HZ9 := Lib.hid (rc_new w9 GL.zr)
        obtain ⟨v9, hv9⟩ : ∃ v, v = (w9.alloc (rcO GL.zr)).setRow w9.heap.size (rcA r) := ⟨_, rfl⟩
        rw [← hv9] at hmB9 hxB9 hBB9
        have HV9 := Lib.hid hv9
        rw [rcO_zr] at HZ9
        have HXA := Lib.hid (rcAt_of ((hBB9.block _ l9).trans HX9.out))
        have HXB := Lib.hid (rcAt_of hxB9)
        have HEND := Lib.hid hmB9.below
        rw [hv9, rcO_zr] at HXA HXB HEND
        clear hGt hb9 hmB9 hxB9 hBB9 hv9
        go_wp2_with (first
          | (refine wpList_store_rc rfl _ _ rfl w9.heap.size r rfl rfl GL.zr HZ9.out ?_)
          | (refine wpList_load_rcg (by rfl) _ rfl w9.heap.size 0 r rfl HXB.out ?_)
          | (refine wpList_load_rcg (by rfl) _ rfl w3.heap.size 0 r rfl HXA.out ?_))
        go_ret
        exact ⟨by first | rfl | (simp; done), HEND.out⟩
      · have t2 : (d != 0) = true := by simpa using h0
        have hsm := ch_same (L := L) (id := id) (E := (GL.resE · m)) (GL.resR · m li wk) (by rw [← hd]; exact h0)
        rw [hsm] at hm5
        have hGt := get_m hm5 id
        rw [← HRG.out.1, ← HRG.out.2] at hGt
        have HM5 := Lib.hid hm5
        clear hsm hm5 hk5 HRs h0 hd
        go_wp2_with fail
        refine hGt.mono ?_
        rintro e w6 ⟨rfl, hb6⟩
        have HX6 := Lib.hid ((hb6.block _ l5).trans HX5.out)
        have l6 : w3.heap.size < w6.heap.size := blk_lt HX6.out
        obtain ⟨hmB6, hxB6, hBB6⟩ := GaMade.box (HM5.out.keep hb6) r
        have HZ6 := Lib.hid (rc_new w6 GL.zr)
        obtain ⟨v6, hv6⟩ : ∃ v, v = (w6.alloc (rcO GL.zr)).setRow w6.heap.size (rcA r) := ⟨_, rfl⟩
        rw [← hv6] at hmB6 hxB6 hBB6
        have HV6 := Lib.hid hv6
        rw [rcO_zr] at HZ6
        have HXA := Lib.hid (rcAt_of ((hBB6.block _ l6).trans HX6.out))
        have HXB := Lib.hid (rcAt_of hxB6)
        have HEND := Lib.hid hmB6.below
        rw [hv6, rcO_zr] at HXA HXB HEND
        clear hGt hb6 hmB6 hxB6 hBB6 hv6
        go_wp2_with (first
          | (refine wpList_store_rc rfl _ _ rfl w6.heap.size r rfl rfl GL.zr HZ6.out ?_)
          | (refine wpList_load_rcg (by rfl) _ rfl w6.heap.size 0 r rfl HXB.out ?_)
          | (refine wpList_load_rcg (by rfl) _ rfl w3.heap.size 0 r rfl HXA.out ?_))
        go_ret
        exact ⟨by first | rfl | (simp; done), HEND.out⟩

set_option maxRecDepth 100000 in
set_option maxHeartbeats 1000000 in
theorem lifted (os : Os) (started : os.Started) (H : Type) (enc : TypeId × Value → H) :
    ReturnsInHanded {} Try.checked os 6 .any (Rows.gangApartSpec.pre6 enc Try.prog Try.f6 Rows.gangApartRow.domain false) (Rows.gangApartSpec.post enc Try.prog Try.f6 false true false false) := by
  refine returnsInHanded_of_change (C := Try.checked) own started (by kernel_rfl) Try.func6
    (ChangeSpec.witness6 (enc := enc) (C := Try.checked) false ⟨#[], #[.slice none 0 0, .int .i64 0, .int .i64 0, .int .i64 0, .int .i64 0], []⟩ 8 (by kernel_rfl) (by kernel_rfl) (by kernel_rfl) (by kernel_rfl)) ?_
  intro W base args ds gs before hval0 hW _ _
  have hval : ∀ (j : Nat) t v, Try.f6.params[j]? = some t → args[j]? = some v → Value.okWide Try.prog W .any base t v := hval0
  have hW' := hW
  obtain ⟨p, q, hA0, hV, rfl, hfz, hnd⟩ := hW
  have hA : DataW.TrodAll enc Try.prog W 0 (fun _ => true) true Try.f6.params.toList args.toList ds p := hA0
  rw [Try.params6] at hA hval
  obtain ⟨v0, vs0, d0, ds0, p0, q0, hargs, rfl, rfl, h0, r0⟩ := trodAll_cons hA
  obtain ⟨v1, vs1, d1, ds1, p1, q1, rfl, rfl, rfl, h1, r1⟩ := trodAll_cons r0
  obtain ⟨v2, vs2, d2, ds2, p2, q2, rfl, rfl, rfl, h2, r2⟩ := trodAll_cons r1
  obtain ⟨v3, vs3, d3, ds3, p3, q3, rfl, rfl, rfl, h3, r3⟩ := trodAll_cons r2
  obtain ⟨v4, vs4, d4, ds4, p4, q4, rfl, rfl, rfl, h4, r4⟩ := trodAll_cons r3
  obtain ⟨rfl, rfl, rfl⟩ := trodAll_nil r4
  obtain rfl : args = #[v0, v1, v2, v3, v4] := by cases args; simp_all
  obtain ⟨rfl, rfl⟩ := trodVars_none hV
  have k0 := h0
  have lt0 : ∀ x ∈ p0, x.block < W.heap.size := by obtain ⟨m, hm⟩ := k0; exact DataW.trod_lt m _ _ _ hm
  obtain ⟨a0, c0, l0, rfl, lc0, mc0, v0, q0⟩ := gas_of (hval 0 30 v0 rfl rfl) h0
  have k1 := h1
  have lt1 : ∀ x ∈ p1, x.block < W.heap.size := by obtain ⟨m, hm⟩ := k1; exact DataW.trod_lt m _ _ _ hm
  obtain ⟨a1, rfl, _, _, w1⟩ := open_int Try.underlying3 (hval 1 3 v1 rfl rfl) h1
  have k2 := h2
  have lt2 : ∀ x ∈ p2, x.block < W.heap.size := by obtain ⟨m, hm⟩ := k2; exact DataW.trod_lt m _ _ _ hm
  obtain ⟨a2, rfl, _, _, w2⟩ := open_int Try.underlying3 (hval 2 3 v2 rfl rfl) h2
  have k3 := h3
  have lt3 : ∀ x ∈ p3, x.block < W.heap.size := by obtain ⟨m, hm⟩ := k3; exact DataW.trod_lt m _ _ _ hm
  obtain ⟨a3, rfl, _, _, w3⟩ := open_int Try.underlying3 (hval 3 3 v3 rfl rfl) h3
  have k4 := h4
  have lt4 : ∀ x ∈ p4, x.block < W.heap.size := by obtain ⟨m, hm⟩ := k4; exact DataW.trod_lt m _ _ _ hm
  obtain ⟨a4, rfl, _, _, w4⟩ := open_int Try.underlying3 (hval 4 3 v4 rfl rfl) h4
  clear hA0 hval0
  refine (walk a0 c0 l0 a1 a2 a3 a4 W v0 q0 lc0 mc0 w1 w2 w3 w4).mono fun e W' ⟨he, bel⟩ => ?_
  subst he
  exact ⟨_, rfl, _, _, _, [], _, [], hW', trodAll_mk1 (shut_bool Try.underlying4 _), (trodAll_cons_mk (Below.trod laidOut (by kernel_rfl) (of_decide_eq_true (by kernel_rfl)) k0 bel lt0) (trodAll_cons_mk (Below.trod laidOut (by kernel_rfl) (of_decide_eq_true (by kernel_rfl)) k1 bel lt1) (trodAll_cons_mk (Below.trod laidOut (by kernel_rfl) (of_decide_eq_true (by kernel_rfl)) k2 bel lt2) (trodAll_cons_mk (Below.trod laidOut (by kernel_rfl) (of_decide_eq_true (by kernel_rfl)) k3 bel lt3) (trodAll_cons_mk (Below.trod laidOut (by kernel_rfl) (of_decide_eq_true (by kernel_rfl)) k4 bel lt4) trodAll_mk0))))), rfl, bel.frame _, fun h => by cases h⟩

/-- THE STATEMENT. -/
theorem holds : Rows.GangApartSaid :=
  OpenClaim.holds_of_wide 6 Try.f6 rfl rfl rfl rfl rfl rfl rfl ⟨rfl, rfl, rfl, rfl, rfl⟩ rfl rfl rfl rfl rfl (by kernel_rfl) Try.func6 (by kernel_rfl)
    (of_decide_eq_true (by kernel_rfl)) (by unfold Func.isWrapper; first | (rw [if_pos (by decide +kernel)]; kernel_rfl) | (rw [if_neg (by decide +kernel)]; exact ⟨rfl, rfl⟩))
    (fun os started H enc _ => lifted os started H enc)
end Go.Proofs.Ytbomdannlcclkaa.gangApart
