/- Waits of unlike Numbers are sorted alike, in whatever order they are handed in; each one is ahead of the next: the law OrderTurns answers true, at every input. -/
import Derived.Test.YtbknkfpgejkmoaaFrame
import Derived.Test.YtbknkfpgejkmoaaOrdIn
import Derived.Test.YtbknkfpgejkmoaaOrdAwake
import Derived.Test.YtbknkfpgejkmoaaOrdRefS
import Derived.Test.YtbknkfpgejkmoaaOrdSame
set_option linter.unusedVariables false
namespace Go.Proofs.Ytbknkfpgejkmoaa.orderTurns
open Go Go.ChangeShapes Go.WideShapes Go.ChangeAt Go.RowKit
theorem wait_unique {t a : Int} : ∀ {L M : List Wt}, L.Perm M → L.Pairwise (fun x y => aheadF t a x y = true) → M.Pairwise (fun x y => aheadF t a x y = true) → L = M
  | [], M, hp, _, _ => hp.nil_eq
  | x :: L, [], hp, _, _ => hp.eq_nil
  | x :: L, y :: M, hp, h1, h2 => by
    obtain ⟨p1, p2⟩ := List.pairwise_cons.1 h1
    obtain ⟨q1, q2⟩ := List.pairwise_cons.1 h2
    have e : x = y := by
      rcases List.mem_cons.1 (hp.mem_iff.1 (List.mem_cons_self ..)) with e | e
      · exact e
      · rcases List.mem_cons.1 (hp.mem_iff.2 (List.mem_cons_self ..)) with e' | e'
        · exact e'.symm
        · have h3 := p1 y e'
          have h4 := q1 x e
          rw [OW.ahead_iff] at h3 h4
          omega
    subst e
    rw [wait_unique ((List.perm_cons x).1 hp) p2 q2]
/-- What a sort leaves rises, where Numbers are unlike. -/
theorem rises {t a : Int} {l : List Wt} {D : List Nat} (hp : D.Perm (List.range l.length)) (hb : D.Pairwise (OW.bef t a (eW l))) (hn : (l.map (·.n)).Nodup) : (D.map (eW l)).Perm l ∧ (D.map (eW l)).Pairwise (fun x y => aheadF t a x y = true) := by
  have h1 : (D.map (eW l)).Perm l := by
    have := hp.map (eW l)
    rwa [eW_all] at this
  refine ⟨h1, ?_⟩
  have h2 : ((D.map (eW l)).map (·.n)).Nodup := (h1.map (·.n)).nodup_iff.2 hn
  rw [List.map_map] at h2
  rw [List.pairwise_map]
  rw [List.Nodup, List.pairwise_map] at h2
  refine (hb.and h2).imp fun {x y} hxy => ?_
  obtain ⟨h3, h4⟩ := hxy
  have h4 : (eW l x).n ≠ (eW l y).n := h4
  unfold OW.bef at h3
  rw [OW.ahead_iff, OW.ahead_no] at h3
  rw [OW.ahead_iff]
  omega
set_option maxRecDepth 100000 in
set_option maxHeartbeats 4000000 in
theorem walk (A : Option Addr) (c : Nat) (l : List Wt) (now age turn : Int) (w : World) (hv : Wts w w.heap.size A l) (hq : ∀ a ∈ l, WtW a) (lc : l.length ≤ c) (mc : c ≤ maxLen) (wn : (Lit.int .i64 now).wf = true) (wa : (Lit.int .i64 age).wf = true) (wt : (Lit.int .i64 turn).wf = true) :
    Calls Try.prog 7 #[.slice A l.length c, .int .i64 now, .int .i64 age, .int .i64 turn] w fun e w' => e = .returned (.bool true) ∧ Below w.heap.size w w' := by
  have AW := Lib.hid (fun W => awake_o W)
  obtain ⟨n, hl⟩ : ∃ n, n = l.length := ⟨_, rfl⟩
  have HP := Lib.hid (fun W (hW : Below w.heap.size w W) (h60 : n ≤ 60) => psort_any A c l now age W (hv.keep hW hW.size) (by omega))
  have HL := Lib.hid (And.intro hl hv)
  obtain ⟨i0, hi, hz0, hz1, hz2⟩ := info_parts info_wt
  rw [← hl] at HP lc ⊢
  unfold maxLen at mc
  clear hl hv hq wn wa wt
  by_cases h60 : 60 < n ∨ turn < 0 ∨ (n : Int) < turn
  · have t0 : decide ((60 : Int) < (n : Int)) = true ∨ (decide ((60 : Int) < (n : Int)) = false ∧ decide (turn < 0) = true) ∨ (decide ((60 : Int) < (n : Int)) = false ∧ decide (turn < 0) = false ∧ decide ((n : Int) < turn) = true) := by
      simp only [decide_eq_true_eq, decide_eq_false_iff_not]
      omega
    clear HP h60
    rcases t0 with t0 | ⟨t0, t1⟩ | ⟨t0, t1, t2⟩ <;>
    · go_enter Try.func7, Try.ntmps7
      go_wp2_with fail
      refine (AW.out _).mono ?_
      rintro e w1 ⟨rfl, hb1⟩
      go_wp2
      go_ret
      exact ⟨by first | rfl | (simp; done), hb1⟩
  · obtain ⟨t, rfl⟩ : ∃ t : Nat, turn = (t : Int) := ⟨turn.toNat, by omega⟩
    have htn : t ≤ n := by omega
    have t0 : decide ((60 : Int) < (n : Int)) = false := decide_eq_false (by omega)
    have t1 : decide ((t : Int) < 0) = false := decide_eq_false (by omega)
    have t2 : decide (n < t) = false := decide_eq_false (by omega)
    have t2' : decide ((n : Int) < (t : Int)) = false := decide_eq_false (by omega)
    have h60' : n ≤ 60 := by omega
    have t3 : (n != n) = false := by simp
    clear h60
    go_enter Try.func7, Try.ntmps7
    go_wp2_with fail
    refine (AW.out _).mono ?_
    rintro e w1 ⟨rfl, hb1⟩
    have HB1 := Lib.hid hb1
    have hP := HP.out w1 hb1 h60'
    clear hb1 HP
    go_wp2_with fail
    refine hP.mono ?_
    rintro e w2 ⟨hb2, (⟨hm, rfl⟩ | ⟨hm, v, D, rfl, hS⟩)⟩
    · have HBw := Lib.hid (below_step HB1.out hb2)
      clear hP hb2 hm
      go_wp2
      go_ret
      exact ⟨by first | rfl | (simp; done), HBw.out⟩
    · have HBw := Lib.hid (below_step HB1.out hb2)
      have HM := Lib.hid hm
      obtain ⟨A', c', rfl, hw', _⟩ := hS.row
      have hDl : D.length = n := by have := hS.perm.length_eq; rw [List.length_range] at this; rw [this, ← HL.out.1]
      rw [← HL.out.1]
      have HS := Lib.hid (And.intro hS (And.intro hw' hDl))
      clear hP hb2 hm hS hw' hDl
      have HB3 := Lib.hid (Below.refl w2.heap.size w2)
      go_wp2
      go_loopw [11, 12, 13] (fun vi v12 v13 wr => ∃ i : Nat, vi = .int .i64 (i : Nat) ∧ i ≤ n ∧ Hid (Below w2.heap.size w2 wr)) (fun vi _ _ _ => n - (intOf vi).toNat)
      case atStart => exact ⟨0, rfl, by omega, HB3⟩
      case round =>
        clear HB3
        obtain ⟨i, rfl, hin, hB⟩ := hrel
        by_cases hlt : i + 1 < n
        · obtain ⟨hS, hw', hDl⟩ := HS.out
          obtain ⟨i1, hi1⟩ : ∃ q, q = i + 1 := ⟨_, rfl⟩
          obtain ⟨p, hp⟩ := get_lt (l := D) (k := i) (by omega)
          obtain ⟨q, hq⟩ := get_lt (l := D) (k := i1) (by omega)
          have hpr : p < l.length := by have := List.mem_range.1 (hS.perm.mem_iff.1 (List.mem_of_getElem? hp)); exact this
          have hqr : q < l.length := by have := List.mem_range.1 (hS.perm.mem_iff.1 (List.mem_of_getElem? hq)); exact this
          obtain ⟨x, hx⟩ : ∃ x, x = eW l p := ⟨_, rfl⟩
          obtain ⟨y, hy⟩ : ∃ y, y = eW l q := ⟨_, rfl⟩
          have hxD : (D.map (eW l))[i]? = some x := by rw [List.getElem?_map, hp, hx]; rfl
          have hyD : (D.map (eW l))[i1]? = some y := by rw [List.getElem?_map, hq, hy]; rfl
          obtain ⟨g, go, rfl, hgb, hgc⟩ := hw'.at_ hxD
          have c1 : WtAt wr g (go + i1 * 10) y := (hgc i1 y hyD).keep hgb hB.out
          have c2 : WtAt wr g (go + i * 10) x := (hgc i x hxD).keep hgb hB.out
          have lg : g < wr.heap.size := by have := hB.out.size; omega
          have hA0 : Hid (∀ W, Calls Try.prog 12 #[wtV y, wtV x, .int .i64 now, .int .i64 age] W fun e w' => e = .returned (.tuple #[.bool false, .int .i64 0]) ∧ Below W.heap.size W w') := Lib.hid (fun W => by
            have hok := HM.out
            rw [Bool.and_eq_true] at hok
            have hmx : mayW x = true := by rw [hx]; exact eW_may hok.2 hpr
            have hmy : mayW y = true := by rw [hy]; exact eW_may hok.2 hqr
            have hno : aheadF now age y x = false := by
              obtain ⟨l1, e1⟩ := List.getElem?_eq_some_iff.1 hp
              obtain ⟨l2, e2⟩ := List.getElem?_eq_some_iff.1 hq
              have hb := List.pairwise_iff_getElem.1 hS.bef i i1 l1 l2 (by omega)
              rw [e1, e2] at hb
              unfold OW.bef at hb
              rw [OW.ahead_iff, OW.ahead_no, ← hx, ← hy] at hb
              rw [OW.ahead_no]
              omega
            have := pahead_any y x now age W
            rwa [hok.1, hmx, hmy, hno] at this)
          have HA := hA0
          simp only [wtV] at HA
          have e1 : IntKind.i64.wrap ((i : Int) + 1) = (i1 : Int) := by rw [IntWalk.i64_in _ (by omega)]; omega
          have t5 : decide (i1 < n) = true := decide_eq_true (by omega)
          have t6 : decide ((i1 : Int) < (n : Int)) = true := decide_eq_true (by omega)
          have li : i < n := by omega
          have li1 : i1 < n := by omega
          have Hi1 := Lib.hid hi1
          clear hS hw' hDl hp hq hpr hqr hx hy hxD hyD hgc hA0 hi1
          go_wp2_with fail
          refine held_begin (fun w' : World => WtAt w' g (go + i1 * 10) y ∧ WtAt w' g (go + i * 10) x) (by kernel_rfl) ?_
          have hBq0 : Below wr.heap.size wr wr.drew := (Below.refl _ _).drew
          have hSq0 : (fun w' : World => WtAt w' g (go + i1 * 10) y ∧ WtAt w' g (go + i * 10) x) wr.drew := ⟨c1, c2⟩
          refine held_take (v := ?_) 0 59 rfl rfl (by kernel_rfl) (by kernel_rfl) (by kernel_rfl) (fun _ _ _ h => h) ⟨by rfl, ?_⟩ hSq0 ?_
          rotate_left
          · intro w' hw'; obtain ⟨x0, x1⟩ := hw'; go_simp; (try with_reducible rfl)
          simp only [Act.put, List.setIfInBounds_toArray, List.set_cons_zero, List.set_cons_succ]
          refine held_take (v := ?_) 1 60 rfl rfl (by kernel_rfl) (by kernel_rfl) (by kernel_rfl) (fun _ _ _ h => h) ⟨by rfl, ?_⟩ hSq0 ?_
          rotate_left
          · intro w' hw'; obtain ⟨x0, x1⟩ := hw'; go_simp; (try with_reducible rfl)
          simp only [Act.put, List.setIfInBounds_toArray, List.set_cons_zero, List.set_cons_succ]
          refine held_take (v := ?_) 2 61 rfl rfl (by kernel_rfl) (by kernel_rfl) (by kernel_rfl) (fun _ _ _ h => h) ⟨by rfl, ?_⟩ hSq0 ?_
          rotate_left
          · intro w' hw'; obtain ⟨x0, x1⟩ := hw'; go_simp; (try with_reducible rfl)
          simp only [Act.put, List.setIfInBounds_toArray, List.set_cons_zero, List.set_cons_succ]
          refine held_take (v := ?_) 3 62 rfl rfl (by kernel_rfl) (by kernel_rfl) (by kernel_rfl) (fun _ _ _ h => h) ⟨by rfl, ?_⟩ hSq0 ?_
          rotate_left
          · intro w' hw'; obtain ⟨x0, x1⟩ := hw'; go_simp; (try with_reducible rfl)
          simp only [Act.put, List.setIfInBounds_toArray, List.set_cons_zero, List.set_cons_succ]
          refine held_take (v := ?_) 4 63 rfl rfl (by kernel_rfl) (by kernel_rfl) (by kernel_rfl) (fun _ _ _ h => h) ⟨by rfl, ?_⟩ hSq0 ?_
          rotate_left
          · intro w' hw'; obtain ⟨x0, x1⟩ := hw'; refine Eq.trans (run_load_wt (by rfl) (by rfl) x0) ?_; (with_reducible rfl)
          simp only [Act.put, List.setIfInBounds_toArray, List.set_cons_zero, List.set_cons_succ]
          refine held_take (v := ?_) 5 64 rfl rfl (by kernel_rfl) (by kernel_rfl) (by kernel_rfl) (fun _ _ _ h => h) ⟨by rfl, ?_⟩ hSq0 ?_
          rotate_left
          · intro w' hw'; obtain ⟨x0, x1⟩ := hw'; go_simp; (try with_reducible rfl)
          simp only [Act.put, List.setIfInBounds_toArray, List.set_cons_zero, List.set_cons_succ]
          refine held_take (v := ?_) 6 65 rfl rfl (by kernel_rfl) (by kernel_rfl) (by kernel_rfl) (fun _ _ _ h => h) ⟨by rfl, ?_⟩ hSq0 ?_
          rotate_left
          · intro w' hw'; obtain ⟨x0, x1⟩ := hw'; go_simp; (try with_reducible rfl)
          simp only [Act.put, List.setIfInBounds_toArray, List.set_cons_zero, List.set_cons_succ]
          refine held_take (v := ?_) 7 66 rfl rfl (by kernel_rfl) (by kernel_rfl) (by kernel_rfl) (fun _ _ _ h => h) ⟨by rfl, ?_⟩ hSq0 ?_
          rotate_left
          · intro w' hw'; obtain ⟨x0, x1⟩ := hw'; go_simp; (try with_reducible rfl)
          simp only [Act.put, List.setIfInBounds_toArray, List.set_cons_zero, List.set_cons_succ]
          refine held_take (v := ?_) 8 67 rfl rfl (by kernel_rfl) (by kernel_rfl) (by kernel_rfl) (fun _ _ _ h => h) ⟨by rfl, ?_⟩ hSq0 ?_
          rotate_left
          · intro w' hw'; obtain ⟨x0, x1⟩ := hw'; refine Eq.trans (run_load_wt (by rfl) (by rfl) x1) ?_; (with_reducible rfl)
          simp only [Act.put, List.setIfInBounds_toArray, List.set_cons_zero, List.set_cons_succ]
          refine held_take (v := ?_) 9 68 rfl rfl (by kernel_rfl) (by kernel_rfl) (by kernel_rfl) (fun _ _ _ h => h) ⟨by rfl, ?_⟩ hSq0 ?_
          rotate_left
          · intro w' hw'; obtain ⟨x0, x1⟩ := hw'; go_simp; (try with_reducible rfl)
          simp only [Act.put, List.setIfInBounds_toArray, List.set_cons_zero, List.set_cons_succ]
          refine held_take (v := ?_) 10 69 rfl rfl (by kernel_rfl) (by kernel_rfl) (by kernel_rfl) (fun _ _ _ h => h) ⟨by rfl, ?_⟩ hSq0 ?_
          rotate_left
          · intro w' hw'; obtain ⟨x0, x1⟩ := hw'; go_simp; (try with_reducible rfl)
          simp only [Act.put, List.setIfInBounds_toArray, List.set_cons_zero, List.set_cons_succ]
          refine held_one 11 rfl (by kernel_rfl) (by rfl) (fun K hK => ?_)
          go_simp
          go_at_call 12
          refine (HA.out wr.drew).mono ?_
          rintro e wq1 ⟨rfl, hbq1⟩
          have hBq1 : Below wr.heap.size wr wq1 := below_step hBq0 hbq1
          have hSq1 : (fun w' : World => WtAt w' g (go + i1 * 10) y ∧ WtAt w' g (go + i * 10) x) wq1 := ⟨c1.keep lg hBq1, c2.keep lg hBq1⟩
          refine hK.out _ _ hSq1 ?_
          clear hK K
          refine held_take (v := ?_) 12 58 rfl rfl (by kernel_rfl) (by kernel_rfl) (by kernel_rfl) (fun _ _ _ h => h) ⟨by rfl, ?_⟩ hSq1 ?_
          rotate_left
          · intro w' hw'; obtain ⟨x0, x1⟩ := hw'; go_simp; (try with_reducible rfl)
          simp only [Act.put, List.setIfInBounds_toArray, List.set_cons_zero, List.set_cons_succ]
          refine held_take (v := ?_) 13 71 rfl rfl (by kernel_rfl) (by kernel_rfl) (by kernel_rfl) (fun _ _ _ h => h) ⟨by rfl, ?_⟩ hSq1 ?_
          rotate_left
          · intro w' hw'; obtain ⟨x0, x1⟩ := hw'; go_simp; (try with_reducible rfl)
          simp only [Act.put, List.setIfInBounds_toArray, List.set_cons_zero, List.set_cons_succ]
          refine held_take (v := ?_) 14 72 rfl rfl (by kernel_rfl) (by kernel_rfl) (by kernel_rfl) (fun _ _ _ h => h) ⟨by rfl, ?_⟩ hSq1 ?_
          rotate_left
          · intro w' hw'; obtain ⟨x0, x1⟩ := hw'; go_simp; (try with_reducible rfl)
          simp only [Act.put, List.setIfInBounds_toArray, List.set_cons_zero, List.set_cons_succ]
          refine held_take (v := ?_) 15 12 rfl rfl (by kernel_rfl) (by kernel_rfl) (by kernel_rfl) (fun _ _ _ h => h) ⟨by rfl, ?_⟩ hSq1 ?_
          rotate_left
          · intro w' hw'; obtain ⟨x0, x1⟩ := hw'; go_simp; (try with_reducible rfl)
          simp only [Act.put, List.setIfInBounds_toArray, List.set_cons_zero, List.set_cons_succ]
          refine held_take (v := ?_) 16 13 rfl rfl (by kernel_rfl) (by kernel_rfl) (by kernel_rfl) (fun _ _ _ h => h) ⟨by rfl, ?_⟩ hSq1 ?_
          rotate_left
          · intro w' hw'; obtain ⟨x0, x1⟩ := hw'; go_simp; (try with_reducible rfl)
          simp only [Act.put, List.setIfInBounds_toArray, List.set_cons_zero, List.set_cons_succ]
          refine wpAnyH_done (by kernel_rfl) ?_ _
          have HB4 := Lib.hid (below_step hB.out hBq1)
          clear hB c1 c2 lg HA hBq0 hSq0 hbq1 hBq1 hSq1
          generalize wq1 = W at HB4 ⊢
          go_wp2
          go_roundw
          case rel => exact ⟨i1, rfl, by omega, HB4⟩
          case measure => have := Hi1.out; simp [intOf]; omega
        · have t5 : decide ((i : Int) + 1 < (n : Int)) = false := decide_eq_false (by omega)
          have t5' : decide (i + 1 < n) = false := decide_eq_false (by omega)
          have HB3 := hB
          have HN0 : Hid (((l.take 0).map (·.n)).Nodup) := Lib.hid (by simp)
          clear hB
          go_wp2
          go_loopw [14, 15] (fun vi v15 wr => ∃ i : Nat, vi = .int .i64 (i : Nat) ∧ i ≤ n ∧ Hid (Below w2.heap.size w2 wr) ∧ Hid (((l.take i).map (·.n)).Nodup)) (fun vi _ _ => n - (intOf vi).toNat)
          case atStart => exact ⟨0, rfl, by omega, HB3, HN0⟩
          case round =>
            clear HB3 HN0 t5 t5'
            obtain ⟨i, rfl, hin, hB, hN⟩ := hrel
            by_cases hlt : i < n
            · obtain ⟨x, hx⟩ := get_lt (l := l) (k := i) (by rw [← HL.out.1]; exact hlt)
              have t5 : decide (i < n) = true := decide_eq_true hlt
              have HX := Lib.hid hx
              have HB3 := hB
              have HI0 : Hid (∀ (j : Nat) z, j < 0 → l[j]? = some z → z.n ≠ x.n) := Lib.hid (fun j z h => by omega)
              clear hx hB
              go_wp2
              go_loopw [15] (fun vk wr => ∃ k : Nat, vk = .int .i64 (k : Nat) ∧ k ≤ i ∧ Hid (Below w2.heap.size w2 wr) ∧ Hid (∀ (j : Nat) z, j < k → l[j]? = some z → z.n ≠ x.n)) (fun vk _ => i - (intOf vk).toNat)
              case atStart => exact ⟨0, rfl, by omega, HB3, HI0⟩
              case round =>
                clear HB3 HI0
                obtain ⟨k, rfl, hki, hB, hI⟩ := hrel
                by_cases hk : k < i
                · obtain ⟨y, hy⟩ := get_lt (l := l) (k := k) (by rw [← HL.out.1]; omega)
                  obtain ⟨b, off, rfl, hb, hc⟩ := HL.out.2.at_ HX.out
                  have hBw : Below w.heap.size w wr := HBw.out.trans (hB.out.mono HBw.out.size)
                  have c1 : wr.cell? ⟨b, off + i * 10 + 9, none⟩ = some (.int .i64 x.n) := ((hc i x HX.out).keep hb hBw) 9 _ rfl
                  have c2 : wr.cell? ⟨b, off + k * 10 + 9, none⟩ = some (.int .i64 y.n) := ((hc k y hy).keep hb hBw) 9 _ rfl
                  have lb : b < wr.heap.size := by have := hBw.size; omega
                  have t6 : decide (k < i) = true := decide_eq_true hk
                  have lk : k < n := by omega
                  have Hy := Lib.hid hy
                  clear hy hc hb
                  by_cases he : x.n = y.n
                  · have t7 : (x.n == y.n) = true := by simpa using he
                    clear he
                    go_wp2_with fail
                    refine held_begin (fun w' : World => w'.cell? ⟨b, off + i * 10 + 9, none⟩ = some (.int .i64 x.n) ∧ w'.cell? ⟨b, off + k * 10 + 9, none⟩ = some (.int .i64 y.n)) (by kernel_rfl) ?_
                    have hBr0 : Below wr.heap.size wr wr.drew := (Below.refl _ _).drew
                    have hSr0 : (fun w' : World => w'.cell? ⟨b, off + i * 10 + 9, none⟩ = some (.int .i64 x.n) ∧ w'.cell? ⟨b, off + k * 10 + 9, none⟩ = some (.int .i64 y.n)) wr.drew := ⟨c1, c2⟩
                    refine held_take (v := ?_) 0 89 rfl rfl (by kernel_rfl) (by kernel_rfl) (by kernel_rfl) (fun _ _ _ h => h) ⟨by rfl, ?_⟩ hSr0 ?_
                    rotate_left
                    · intro w' hw'; obtain ⟨x0, x1⟩ := hw'; go_simp; (try with_reducible rfl)
                    simp only [Act.put, List.setIfInBounds_toArray, List.set_cons_zero, List.set_cons_succ]
                    refine held_take (v := ?_) 1 90 rfl rfl (by kernel_rfl) (by kernel_rfl) (by kernel_rfl) (fun _ _ _ h => h) ⟨by rfl, ?_⟩ hSr0 ?_
                    rotate_left
                    · intro w' hw'; obtain ⟨x0, x1⟩ := hw'; go_simp; (try with_reducible rfl)
                    simp only [Act.put, List.setIfInBounds_toArray, List.set_cons_zero, List.set_cons_succ]
                    refine held_take (v := ?_) 2 91 rfl rfl (by kernel_rfl) (by kernel_rfl) (by kernel_rfl) (fun _ _ _ h => h) ⟨by rfl, ?_⟩ hSr0 ?_
                    rotate_left
                    · intro w' hw'; obtain ⟨x0, x1⟩ := hw'; go_simp; (try with_reducible rfl)
                    simp only [Act.put, List.setIfInBounds_toArray, List.set_cons_zero, List.set_cons_succ]
                    refine held_take (v := ?_) 3 92 rfl rfl (by kernel_rfl) (by kernel_rfl) (by kernel_rfl) (fun _ _ _ h => h) ⟨by rfl, ?_⟩ hSr0 ?_
                    rotate_left
                    · intro w' hw'; obtain ⟨x0, x1⟩ := hw'; go_simp; (try with_reducible rfl)
                    simp only [Act.put, List.setIfInBounds_toArray, List.set_cons_zero, List.set_cons_succ]
                    refine held_take (v := ?_) 4 93 rfl rfl (by kernel_rfl) (by kernel_rfl) (by kernel_rfl) (fun _ _ _ h => h) ⟨by rfl, ?_⟩ hSr0 ?_
                    rotate_left
                    · intro w' hw'; obtain ⟨x0, x1⟩ := hw'; go_simp; (try with_reducible rfl)
                    simp only [Act.put, List.setIfInBounds_toArray, List.set_cons_zero, List.set_cons_succ]
                    refine held_take (v := ?_) 5 94 rfl rfl (by kernel_rfl) (by kernel_rfl) (by kernel_rfl) (fun _ _ _ h => h) ⟨by rfl, ?_⟩ hSr0 ?_
                    rotate_left
                    · intro w' hw'; obtain ⟨x0, x1⟩ := hw'; go_simp; (try with_reducible rfl)
                    simp only [Act.put, List.setIfInBounds_toArray, List.set_cons_zero, List.set_cons_succ]
                    refine held_take (v := ?_) 6 95 rfl rfl (by kernel_rfl) (by kernel_rfl) (by kernel_rfl) (fun _ _ _ h => h) ⟨by rfl, ?_⟩ hSr0 ?_
                    rotate_left
                    · intro w' hw'; obtain ⟨x0, x1⟩ := hw'; go_simp; (try with_reducible rfl)
                    simp only [Act.put, List.setIfInBounds_toArray, List.set_cons_zero, List.set_cons_succ]
                    refine held_take (v := ?_) 7 96 rfl rfl (by kernel_rfl) (by kernel_rfl) (by kernel_rfl) (fun _ _ _ h => h) ⟨by rfl, ?_⟩ hSr0 ?_
                    rotate_left
                    · intro w' hw'; obtain ⟨x0, x1⟩ := hw'; go_simp; (try with_reducible rfl)
                    simp only [Act.put, List.setIfInBounds_toArray, List.set_cons_zero, List.set_cons_succ]
                    refine held_take (v := ?_) 8 97 rfl rfl (by kernel_rfl) (by kernel_rfl) (by kernel_rfl) (fun _ _ _ h => h) ⟨by rfl, ?_⟩ hSr0 ?_
                    rotate_left
                    · intro w' hw'; obtain ⟨x0, x1⟩ := hw'; go_simp; (try with_reducible rfl)
                    simp only [Act.put, List.setIfInBounds_toArray, List.set_cons_zero, List.set_cons_succ]
                    refine held_take (v := ?_) 9 98 rfl rfl (by kernel_rfl) (by kernel_rfl) (by kernel_rfl) (fun _ _ _ h => h) ⟨by rfl, ?_⟩ hSr0 ?_
                    rotate_left
                    · intro w' hw'; obtain ⟨x0, x1⟩ := hw'; go_simp; (try with_reducible rfl)
                    simp only [Act.put, List.setIfInBounds_toArray, List.set_cons_zero, List.set_cons_succ]
                    refine held_take (v := ?_) 10 99 rfl rfl (by kernel_rfl) (by kernel_rfl) (by kernel_rfl) (fun _ _ _ h => h) ⟨by rfl, ?_⟩ hSr0 ?_
                    rotate_left
                    · intro w' hw'; obtain ⟨x0, x1⟩ := hw'; go_simp; (try with_reducible rfl)
                    simp only [Act.put, List.setIfInBounds_toArray, List.set_cons_zero, List.set_cons_succ]
                    refine wpAnyH_done (by kernel_rfl) ?_ _
                    have HB4 := Lib.hid hBw.drew
                    clear c1 c2 lb hB hBr0 hSr0 hBw
                    generalize wr.drew = W at HB4 ⊢
                    go_wp2
                    (try simp only [Exit.inBlock, Exit.then])
                    refine bodyPost_ret (v := .bool true) (by simp [results, Try.results7, go_sem]) rfl ?_
                    exact ⟨by first | rfl | (simp; done), HB4.out⟩
                  · have t7 : (x.n == y.n) = false := by simpa using he
                    have HI1 : Hid (∀ (j : Nat) z, j < k + 1 → l[j]? = some z → z.n ≠ x.n) := Lib.hid (fun j z hj hz => by
                      by_cases e : j = k
                      · subst e
                        have := Hy.out.symm.trans hz
                        cases this
                        exact fun e => he e.symm
                      · exact hI.out j z (by omega) hz)
                    clear he hI
                    go_wp2_with fail
                    refine held_begin (fun w' : World => w'.cell? ⟨b, off + i * 10 + 9, none⟩ = some (.int .i64 x.n) ∧ w'.cell? ⟨b, off + k * 10 + 9, none⟩ = some (.int .i64 y.n)) (by kernel_rfl) ?_
                    have hBr0 : Below wr.heap.size wr wr.drew := (Below.refl _ _).drew
                    have hSr0 : (fun w' : World => w'.cell? ⟨b, off + i * 10 + 9, none⟩ = some (.int .i64 x.n) ∧ w'.cell? ⟨b, off + k * 10 + 9, none⟩ = some (.int .i64 y.n)) wr.drew := ⟨c1, c2⟩
                    refine held_take (v := ?_) 0 89 rfl rfl (by kernel_rfl) (by kernel_rfl) (by kernel_rfl) (fun _ _ _ h => h) ⟨by rfl, ?_⟩ hSr0 ?_
                    rotate_left
                    · intro w' hw'; obtain ⟨x0, x1⟩ := hw'; go_simp; (try with_reducible rfl)
                    simp only [Act.put, List.setIfInBounds_toArray, List.set_cons_zero, List.set_cons_succ]
                    refine held_take (v := ?_) 1 90 rfl rfl (by kernel_rfl) (by kernel_rfl) (by kernel_rfl) (fun _ _ _ h => h) ⟨by rfl, ?_⟩ hSr0 ?_
                    rotate_left
                    · intro w' hw'; obtain ⟨x0, x1⟩ := hw'; go_simp; (try with_reducible rfl)
                    simp only [Act.put, List.setIfInBounds_toArray, List.set_cons_zero, List.set_cons_succ]
                    refine held_take (v := ?_) 2 91 rfl rfl (by kernel_rfl) (by kernel_rfl) (by kernel_rfl) (fun _ _ _ h => h) ⟨by rfl, ?_⟩ hSr0 ?_
                    rotate_left
                    · intro w' hw'; obtain ⟨x0, x1⟩ := hw'; go_simp; (try with_reducible rfl)
                    simp only [Act.put, List.setIfInBounds_toArray, List.set_cons_zero, List.set_cons_succ]
                    refine held_take (v := ?_) 3 92 rfl rfl (by kernel_rfl) (by kernel_rfl) (by kernel_rfl) (fun _ _ _ h => h) ⟨by rfl, ?_⟩ hSr0 ?_
                    rotate_left
                    · intro w' hw'; obtain ⟨x0, x1⟩ := hw'; go_simp; (try with_reducible rfl)
                    simp only [Act.put, List.setIfInBounds_toArray, List.set_cons_zero, List.set_cons_succ]
                    refine held_take (v := ?_) 4 93 rfl rfl (by kernel_rfl) (by kernel_rfl) (by kernel_rfl) (fun _ _ _ h => h) ⟨by rfl, ?_⟩ hSr0 ?_
                    rotate_left
                    · intro w' hw'; obtain ⟨x0, x1⟩ := hw'; go_simp; (try with_reducible rfl)
                    simp only [Act.put, List.setIfInBounds_toArray, List.set_cons_zero, List.set_cons_succ]
                    refine held_take (v := ?_) 5 94 rfl rfl (by kernel_rfl) (by kernel_rfl) (by kernel_rfl) (fun _ _ _ h => h) ⟨by rfl, ?_⟩ hSr0 ?_
                    rotate_left
                    · intro w' hw'; obtain ⟨x0, x1⟩ := hw'; go_simp; (try with_reducible rfl)
                    simp only [Act.put, List.setIfInBounds_toArray, List.set_cons_zero, List.set_cons_succ]
                    refine held_take (v := ?_) 6 95 rfl rfl (by kernel_rfl) (by kernel_rfl) (by kernel_rfl) (fun _ _ _ h => h) ⟨by rfl, ?_⟩ hSr0 ?_
                    rotate_left
                    · intro w' hw'; obtain ⟨x0, x1⟩ := hw'; go_simp; (try with_reducible rfl)
                    simp only [Act.put, List.setIfInBounds_toArray, List.set_cons_zero, List.set_cons_succ]
                    refine held_take (v := ?_) 7 96 rfl rfl (by kernel_rfl) (by kernel_rfl) (by kernel_rfl) (fun _ _ _ h => h) ⟨by rfl, ?_⟩ hSr0 ?_
                    rotate_left
                    · intro w' hw'; obtain ⟨x0, x1⟩ := hw'; go_simp; (try with_reducible rfl)
                    simp only [Act.put, List.setIfInBounds_toArray, List.set_cons_zero, List.set_cons_succ]
                    refine held_take (v := ?_) 8 97 rfl rfl (by kernel_rfl) (by kernel_rfl) (by kernel_rfl) (fun _ _ _ h => h) ⟨by rfl, ?_⟩ hSr0 ?_
                    rotate_left
                    · intro w' hw'; obtain ⟨x0, x1⟩ := hw'; go_simp; (try with_reducible rfl)
                    simp only [Act.put, List.setIfInBounds_toArray, List.set_cons_zero, List.set_cons_succ]
                    refine held_take (v := ?_) 9 98 rfl rfl (by kernel_rfl) (by kernel_rfl) (by kernel_rfl) (fun _ _ _ h => h) ⟨by rfl, ?_⟩ hSr0 ?_
                    rotate_left
                    · intro w' hw'; obtain ⟨x0, x1⟩ := hw'; go_simp; (try with_reducible rfl)
                    simp only [Act.put, List.setIfInBounds_toArray, List.set_cons_zero, List.set_cons_succ]
                    refine held_take (v := ?_) 10 99 rfl rfl (by kernel_rfl) (by kernel_rfl) (by kernel_rfl) (fun _ _ _ h => h) ⟨by rfl, ?_⟩ hSr0 ?_
                    rotate_left
                    · intro w' hw'; obtain ⟨x0, x1⟩ := hw'; go_simp; (try with_reducible rfl)
                    simp only [Act.put, List.setIfInBounds_toArray, List.set_cons_zero, List.set_cons_succ]
                    refine wpAnyH_done (by kernel_rfl) ?_ _
                    have HB4 := Lib.hid hB.out.drew
                    clear c1 c2 lb hB hBr0 hSr0 hBw
                    generalize wr.drew = W at HB4 ⊢
                    go_wp2
                    go_roundw
                    case rel => exact ⟨k + 1, by go_num, by omega, HB4, HI1⟩
                    case measure => simp [intOf]; omega
                · obtain rfl : k = i := by omega
                  have t6 : decide (k < k) = false := decide_eq_false hk
                  have HN1 : Hid (((l.take (k + 1)).map (·.n)).Nodup) := Lib.hid (by
                    rw [take_next HX.out, List.map_append]
                    refine List.nodup_append.2 ⟨hN.out, by simp, fun a ha b hb => ?_⟩
                    have : b = x.n := by simpa using hb
                    subst this
                    obtain ⟨z, hz, rfl⟩ := List.mem_map.1 ha
                    obtain ⟨j, hj⟩ := List.mem_iff_getElem?.1 hz
                    rw [List.getElem?_take] at hj
                    split at hj
                    · exact hI.out j z ‹_› hj
                    · cases hj)
                  clear hI hk
                  go_wp2
                  go_roundw
                  case rel => exact ⟨k + 1, by go_num, by omega, hB, HN1⟩
                  case measure => simp [intOf]; omega
            · obtain rfl : i = n := by omega
              have t5 : decide (i < i) = false := decide_eq_false hlt
              have HND : Hid ((l.map (·.n)).Nodup) := Lib.hid (by have := hN.out; rwa [HL.out.1, List.take_length] at this)
              obtain ⟨n, hn⟩ : ∃ n, n = i := ⟨_, rfl⟩
              obtain ⟨wq, hwq⟩ : ∃ x, x = wr := ⟨_, rfl⟩
              have HBq : Hid (Below w.heap.size w wq) := Lib.hid (by rw [hwq]; exact HBw.out.trans (hB.out.mono HBw.out.size))
              have HQ2 : Hid (Below w2.heap.size w2 wq) := Lib.hid (by rw [hwq]; exact hB.out)
              rw [← hn] at HL HS lc htn h60' t5 ⊢
              rw [← hwq]
              clear hn hwq
              have Hwq := Lib.hid HBq.out.size
              obtain ⟨Lt, hLt⟩ : ∃ L, L = l.take t := ⟨_, rfl⟩
              obtain ⟨Ld, hLd⟩ : ∃ L, L = l.drop t := ⟨_, rfl⟩
              have hlt' : Lt.length = t := by rw [hLt, List.length_take, ← HL.out.1]; omega
              have hld : Ld.length = n - t := by rw [hLd, List.length_drop, ← HL.out.1]
              have elq : Wts wq wq.heap.size A l := HL.out.2.keep HBq.out HBq.out.size
              have ht := Lib.hid (hLt ▸ wts_to elq t c (by rw [← HL.out.1]; exact lc))
              have hd := Lib.hid (hLd ▸ wts_from elq t c (by rw [← HL.out.1]; exact lc))
              have hperm : (Ld ++ Lt).Perm l := by
                rw [hLt, hLd]
                refine List.perm_append_comm.trans ?_
                rw [List.take_append_drop]
              have HPm := Lib.hid hperm
              have HAll : Hid ((mayA now age && (Ld ++ Lt).all mayW) = true) := Lib.hid (by
                have hok := HM.out
                rw [Bool.and_eq_true] at hok ⊢
                refine ⟨hok.1, List.all_eq_true.2 fun z hz => List.all_eq_true.1 hok.2 z (hperm.mem_iff.1 hz)⟩)
              have htc : t ≤ c := by omega
              clear hN hlt hB hin hLt hLd elq hperm t1 t2 t2' t3
              go_wp2_with fail
              refine held_begin (fun _ => True) (by kernel_rfl) ?_
              have hB0 : Below wq.heap.size wq wq.drew := (Below.refl _ _).drew
              generalize wq.drew = wd at hB0 ⊢
              have sd := hB0.size
              refine held_take (v := ?_) 1 102 rfl rfl (by kernel_rfl) (by kernel_rfl) (by kernel_rfl) (fun _ _ _ h => h) ⟨by rfl, ?_⟩ trivial ?_
              rotate_left
              · intro w' _; go_simp; (try with_reducible rfl)
              simp only [Act.put, List.setIfInBounds_toArray, List.set_cons_zero, List.set_cons_succ]
              refine held_take (v := ?_) 2 103 rfl rfl (by kernel_rfl) (by kernel_rfl) (by kernel_rfl) (fun _ _ _ h => h) ⟨by rfl, ?_⟩ trivial ?_
              rotate_left
              · intro w' _; go_simp; (try with_reducible rfl)
              simp only [Act.put, List.setIfInBounds_toArray, List.set_cons_zero, List.set_cons_succ]
              refine held_take (v := ?_) 3 104 rfl rfl (by kernel_rfl) (by kernel_rfl) (by kernel_rfl) (fun _ _ _ h => h) ⟨by rfl, ?_⟩ trivial ?_
              rotate_left
              · intro w' _; refine Eq.trans (run_slice_from (k := t) (by rfl) (by rfl) (by rfl) htn) ?_; (with_reducible rfl)
              simp only [Act.put, List.setIfInBounds_toArray, List.set_cons_zero, List.set_cons_succ]
              refine held_take (v := ?_) 5 106 rfl rfl (by kernel_rfl) (by kernel_rfl) (by kernel_rfl) (fun _ _ _ h => h) ⟨by rfl, ?_⟩ trivial ?_
              rotate_left
              · intro w' _; go_simp; (try with_reducible rfl)
              simp only [Act.put, List.setIfInBounds_toArray, List.set_cons_zero, List.set_cons_succ]
              refine held_take (v := ?_) 6 107 rfl rfl (by kernel_rfl) (by kernel_rfl) (by kernel_rfl) (fun _ _ _ h => h) ⟨by rfl, ?_⟩ trivial ?_
              rotate_left
              · intro w' _; go_simp; (try with_reducible rfl)
              simp only [Act.put, List.setIfInBounds_toArray, List.set_cons_zero, List.set_cons_succ]
              refine held_take (v := ?_) 7 108 rfl rfl (by kernel_rfl) (by kernel_rfl) (by kernel_rfl) (fun _ _ _ h => h) ⟨by rfl, ?_⟩ trivial ?_
              rotate_left
              · intro w' _; refine Eq.trans (run_slice_to (k := t) (by rfl) (by rfl) (by rfl) htc) ?_; (with_reducible rfl)
              simp only [Act.put, List.setIfInBounds_toArray, List.set_cons_zero, List.set_cons_succ]
              refine held_take (v := ?_) 9 110 rfl rfl (by kernel_rfl) (by kernel_rfl) (by kernel_rfl) (fun _ _ _ h => h) ⟨by rfl, ?_⟩ trivial ?_
              rotate_left
              · intro w' _; go_simp; (try with_reducible rfl)
              simp only [Act.put, List.setIfInBounds_toArray, List.set_cons_zero, List.set_cons_succ]
              refine held_take (v := ?_) 10 111 rfl rfl (by kernel_rfl) (by kernel_rfl) (by kernel_rfl) (fun _ _ _ h => h) ⟨by rfl, ?_⟩ trivial ?_
              rotate_left
              · intro w' _; go_simp; (try with_reducible rfl)
              simp only [Act.put, List.setIfInBounds_toArray, List.set_cons_zero, List.set_cons_succ]
              refine held_one 0 rfl (by kernel_rfl) (by rfl) (fun K hK => ?_)
              go_simp
              obtain ⟨wa, hwa⟩ : ∃ x, x = wd.alloc (.cells #[] 27) := ⟨_, rfl⟩
              have ownE : wa.ownsRow wq.heap.size 27 10 (.slice (some ⟨wd.heap.size, 0, none⟩) 0 0) 0 [] := by rw [hwa]; exact World.ownsRow_lit wd #[] 0 (by omega) (by unfold maxLen; omega) rfl
              have hBa : Below wq.heap.size wq wa := by rw [hwa]; exact hB0.alloc hB0.size _
              have swa : wd.heap.size < wa.heap.size := by rw [hwa]; simp
              rw [← hwa]
              refine hK.out _ _ trivial ?_
              clear hK K hwa
              try simp only [Act.put, List.setIfInBounds_toArray, List.set_cons_zero, List.set_cons_succ]
              refine held_one 4 rfl (by kernel_rfl) (by rfl) (fun K hK => ?_)
              simp only [Go.wp_at_zero, Go.wp_at_succ]
              refine wp_append_els (C := wtC) (k := 10) _ _ _ 38 rfl wq.heap.size 27 i0 _ 80 Try.underlying38 hi hz0 hz1 hz2 rfl (by decide) (.slice (some ⟨wd.heap.size, 0, none⟩) 0 0) 0 [] rfl ownE wq.heap.size (atA A t c) (c - t) (n - t) Ld rfl (hd.out.keep hBa (Nat.le_refl _)) hld.symm wtC_len wtC_one (by unfold maxLen; omega) (by omega) (by omega) ?_
              intro A5 c5 wb own5 gwb kwb
              rw [Nat.zero_add] at own5 ⊢
              rw [List.nil_append] at own5
              have hob : ∀ j, (Value.slice (some ⟨wd.heap.size, 0, none⟩) 0 0).ownBlock = some j → j = wd.heap.size := fun j hj => by simpa [Value.ownBlock] using hj.symm
              have hBb : Below wq.heap.size wq wb := hBa.grown gwb (by omega) (fun j hj => by have := hob j hj; omega)
              have swb := gwb.size
              refine hK.out _ _ trivial ?_
              clear hK K
              try simp only [Act.put, List.setIfInBounds_toArray, List.set_cons_zero, List.set_cons_succ]
              refine held_one 8 rfl (by kernel_rfl) (by rfl) (fun K hK => ?_)
              simp only [Go.wp_at_zero, Go.wp_at_succ]
              refine wp_append_els (C := wtC) (k := 10) _ _ _ 38 rfl wq.heap.size 27 i0 _ 80 Try.underlying38 hi hz0 hz1 hz2 rfl (by decide) (.slice A5 (n - t) c5) (n - t) _ rfl own5 wq.heap.size (atA A 0 c) c t Lt rfl (ht.out.keep hBb (Nat.le_refl _)) hlt'.symm wtC_len wtC_one (by unfold maxLen; omega) (by omega) (by omega) ?_
              intro A7 c7 wc own7 gwc kwc
              have hob5 : ∀ j, (Value.slice A5 (n - t) c5).ownBlock = some j → wq.heap.size ≤ j := fun j hj => (own5.lt j hj).1
              have hBc : Below wq.heap.size wq wc := hBb.grown gwc (by omega) (fun j hj => by have := hob5 j hj; omega)
              refine hK.out _ _ trivial ?_
              clear hK K
              try simp only [Act.put, List.setIfInBounds_toArray, List.set_cons_zero, List.set_cons_succ]
              refine held_one 11 rfl (by kernel_rfl) (by rfl) (fun K hK => ?_)
              have hP2 : Hid (Calls Try.prog 19 #[.slice A7 n c7, .int .i64 now, .int .i64 age] wc fun e w' => ∃ (A9 : Option Addr) (c9 : Nat) (D2 : List Nat), e = .returned (.tuple #[.slice A9 n c9, .int .i64 0]) ∧ Below wc.heap.size wc w' ∧ Wts w' w'.heap.size A9 (D2.map (eW (Ld ++ Lt))) ∧ D2.Perm (List.range (Ld ++ Lt).length) ∧ D2.Pairwise (OW.bef now age (eW (Ld ++ Lt)))) := Lib.hid (by
                have e0 : n - t + t = n := by omega
                have hlen : (Ld ++ Lt).length = n := by rw [List.length_append, hld, hlt']; omega
                have h1 := own7
                rw [e0, ← List.flatMap_append] at h1
                have hps := psort_any A7 c7 (Ld ++ Lt) now age wc (els_own wtC_len h1 hlen).1 (by omega)
                rw [hlen] at hps
                refine hps.mono ?_
                rintro e w' ⟨hb, (⟨hno, _⟩ | ⟨_, v9, D9, rfl, hS9⟩)⟩
                · rw [HAll.out] at hno; cases hno
                · obtain ⟨A9, c9, rfl, h9, _⟩ := hS9.row
                  exact ⟨A9, c9, D9, by rw [hlen], hb, h9, hS9.perm, hS9.bef⟩)
              have ek : n - t + t = n := by omega
              rw [ek]
              clear ek own7 own5 gwb gwc kwb kwc ownE hob hob5 swb swa sd hBa hBb
              go_simp
              go_at_call 19
              refine hP2.out.mono ?_
              rintro e we ⟨A9, c9, D2, rfl, hbe, hw9, hd9, hs9⟩
              have HBe := Lib.hid (HBq.out.trans ((hBc.trans (hbe.mono hBc.size)).mono Hwq.out))
              have HW9 := Lib.hid (And.intro hw9 (And.intro hd9 (And.intro hs9 (And.intro (hBc.trans (hbe.mono hBc.size)) trivial))))
              refine hK.out _ _ trivial ?_
              clear hK K hP2 hbe hw9 hd9 hs9
              try simp only [Act.put, List.setIfInBounds_toArray, List.set_cons_zero, List.set_cons_succ]
              refine held_take (v := ?_) 12 100 rfl rfl (by kernel_rfl) (by kernel_rfl) (by kernel_rfl) (fun _ _ _ h => h) ⟨by rfl, ?_⟩ trivial ?_
              rotate_left
              · intro w' _; go_simp; (try with_reducible rfl)
              simp only [Act.put, List.setIfInBounds_toArray, List.set_cons_zero, List.set_cons_succ]
              refine held_take (v := ?_) 13 113 rfl rfl (by kernel_rfl) (by kernel_rfl) (by kernel_rfl) (fun _ _ _ h => h) ⟨by rfl, ?_⟩ trivial ?_
              rotate_left
              · intro w' _; go_simp; (try with_reducible rfl)
              simp only [Act.put, List.setIfInBounds_toArray, List.set_cons_zero, List.set_cons_succ]
              refine held_take (v := ?_) 14 114 rfl rfl (by kernel_rfl) (by kernel_rfl) (by kernel_rfl) (fun _ _ _ h => h) ⟨by rfl, ?_⟩ trivial ?_
              rotate_left
              · intro w' _; go_simp; (try with_reducible rfl)
              simp only [Act.put, List.setIfInBounds_toArray, List.set_cons_zero, List.set_cons_succ]
              refine held_take (v := ?_) 15 16 rfl rfl (by kernel_rfl) (by kernel_rfl) (by kernel_rfl) (fun _ _ _ h => h) ⟨by rfl, ?_⟩ trivial ?_
              rotate_left
              · intro w' _; go_simp; (try with_reducible rfl)
              simp only [Act.put, List.setIfInBounds_toArray, List.set_cons_zero, List.set_cons_succ]
              refine held_take (v := ?_) 16 17 rfl rfl (by kernel_rfl) (by kernel_rfl) (by kernel_rfl) (fun _ _ _ h => h) ⟨by rfl, ?_⟩ trivial ?_
              rotate_left
              · intro w' _; go_simp; (try with_reducible rfl)
              simp only [Act.put, List.setIfInBounds_toArray, List.set_cons_zero, List.set_cons_succ]
              refine wpAnyH_done (by kernel_rfl) ?_ _

              have HF : Hid (D2.map (eW (Ld ++ Lt)) = D.map (eW l)) := Lib.hid (by
                have hnd : ((Ld ++ Lt).map (·.n)).Nodup := (HPm.out.map (·.n)).nodup_iff.2 HND.out
                obtain ⟨a1, a2⟩ := rises HW9.out.2.1 HW9.out.2.2.1 hnd
                obtain ⟨b1, b2⟩ := rises HS.out.1.perm HS.out.1.bef HND.out
                exact wait_unique ((a1.trans HPm.out).trans b1.symm) a2 b2)
              have hSame := refsame_eq A' A9 c' c9 (D.map (eW l)) we (HS.out.2.1.keep (HQ2.out.trans (HW9.out.2.2.2.1.mono HQ2.out.size)) (Nat.le_trans HQ2.out.size HW9.out.2.2.2.1.size)) (by rw [← HF.out]; exact HW9.out.1) (by rw [List.length_map, HS.out.2.2]; omega)
              rw [List.length_map, HS.out.2.2] at hSame
              clear HF HW9 HAll ht hd hlt' hld htc htn
              go_wp2_with fail
              refine hSame.mono ?_
              rintro e w6 ⟨rfl, hb6⟩
              have HB6 := Lib.hid (below_step HBe.out hb6)
              clear hb6 hSame
              go_wp2
              go_ret
              exact ⟨by first | rfl | (simp; done), HB6.out⟩

set_option maxRecDepth 100000 in
set_option maxHeartbeats 1000000 in
theorem lifted (os : Os) (started : os.Started) (H : Type) (enc : TypeId × Value → H) :
    ReturnsInHanded {} Try.checked os 7 .any (Rows.orderTurnsSpec.pre6 enc Try.prog Try.f7 Rows.orderTurnsRow.domain false) (Rows.orderTurnsSpec.post enc Try.prog Try.f7 false true false false) := by
  refine returnsInHanded_of_change (C := Try.checked) own started (by kernel_rfl) Try.func7
    (ChangeSpec.witness6 (enc := enc) (C := Try.checked) false ⟨#[], #[.slice none 0 0, .int .i64 0, .int .i64 0, .int .i64 0], []⟩ 8 (by kernel_rfl) (by kernel_rfl) (by kernel_rfl) (by kernel_rfl)) ?_
  intro W base args ds gs before hval0 hW _ _
  have hval : ∀ (j : Nat) t v, Try.f7.params[j]? = some t → args[j]? = some v → Value.okWide Try.prog W .any base t v := hval0
  have hW' := hW
  obtain ⟨p, q, hA0, hV, rfl, hfz, hnd⟩ := hW
  have hA : DataW.TrodAll enc Try.prog W 0 (fun _ => true) true Try.f7.params.toList args.toList ds p := hA0
  rw [Try.params7] at hA hval
  obtain ⟨v0, vs0, d0, ds0, p0, q0, hargs, rfl, rfl, h0, r0⟩ := trodAll_cons hA
  obtain ⟨v1, vs1, d1, ds1, p1, q1, rfl, rfl, rfl, h1, r1⟩ := trodAll_cons r0
  obtain ⟨v2, vs2, d2, ds2, p2, q2, rfl, rfl, rfl, h2, r2⟩ := trodAll_cons r1
  obtain ⟨v3, vs3, d3, ds3, p3, q3, rfl, rfl, rfl, h3, r3⟩ := trodAll_cons r2
  obtain ⟨rfl, rfl, rfl⟩ := trodAll_nil r3
  obtain rfl : args = #[v0, v1, v2, v3] := by cases args; simp_all
  obtain ⟨rfl, rfl⟩ := trodVars_none hV
  have k0 := h0
  have lt0 : ∀ x ∈ p0, x.block < W.heap.size := by obtain ⟨m, hm⟩ := k0; exact DataW.trod_lt m _ _ _ hm
  obtain ⟨a0, c0, l0, rfl, lc0, mc0, v0, q0⟩ := wts_of (hval 0 38 v0 rfl rfl) h0
  have k1 := h1
  have lt1 : ∀ x ∈ p1, x.block < W.heap.size := by obtain ⟨m, hm⟩ := k1; exact DataW.trod_lt m _ _ _ hm
  obtain ⟨a1, rfl, _, _, w1⟩ := open_int Try.underlying3 (hval 1 3 v1 rfl rfl) h1
  have k2 := h2
  have lt2 : ∀ x ∈ p2, x.block < W.heap.size := by obtain ⟨m, hm⟩ := k2; exact DataW.trod_lt m _ _ _ hm
  obtain ⟨a2, rfl, _, _, w2⟩ := open_int Try.underlying3 (hval 2 3 v2 rfl rfl) h2
  have k3 := h3
  have lt3 : ∀ x ∈ p3, x.block < W.heap.size := by obtain ⟨m, hm⟩ := k3; exact DataW.trod_lt m _ _ _ hm
  obtain ⟨a3, rfl, _, _, w3⟩ := open_int Try.underlying3 (hval 3 3 v3 rfl rfl) h3
  clear hA0 hval0
  refine (walk a0 c0 l0 a1 a2 a3 W v0 q0 lc0 mc0 w1 w2 w3).mono fun e W' ⟨he, bel⟩ => ?_
  subst he
  exact ⟨_, rfl, _, _, _, [], _, [], hW', trodAll_mk1 (shut_bool Try.underlying4 _), (trodAll_cons_mk (Below.trod laidOut (by kernel_rfl) (of_decide_eq_true (by kernel_rfl)) k0 bel lt0) (trodAll_cons_mk (Below.trod laidOut (by kernel_rfl) (of_decide_eq_true (by kernel_rfl)) k1 bel lt1) (trodAll_cons_mk (Below.trod laidOut (by kernel_rfl) (of_decide_eq_true (by kernel_rfl)) k2 bel lt2) (trodAll_cons_mk (Below.trod laidOut (by kernel_rfl) (of_decide_eq_true (by kernel_rfl)) k3 bel lt3) trodAll_mk0)))), rfl, bel.frame _, fun h => by cases h⟩

/-- THE STATEMENT. -/
theorem holds : Rows.OrderTurnsSaid :=
  OpenClaim.holds_of_wide 7 Try.f7 rfl rfl rfl rfl rfl rfl rfl ⟨rfl, rfl, rfl, rfl, rfl⟩ rfl rfl rfl rfl rfl (by kernel_rfl) Try.func7 (by kernel_rfl)
    (of_decide_eq_true (by kernel_rfl)) (by unfold Func.isWrapper; first | (rw [if_pos (by decide +kernel)]; kernel_rfl) | (rw [if_neg (by decide +kernel)]; exact ⟨rfl, rfl⟩))
    (fun os started H enc _ => lifted os started H enc)
end Go.Proofs.Ytbknkfpgejkmoaa.orderTurns
