/- Whatever is added and taken away: each call is told just as the document says, and so is what stands behind it: the law QuotaPlays answers true, at every input. -/
import Derived.Test.YtfbmjpihdjcedaaFrame
import Derived.Test.YtfbmjpihdjcedaaQuotaRef2
set_option linter.unusedVariables false
namespace Go.Proofs.Ytfbmjpihdjcedaa.quotaPlays
open Go Go.ChangeShapes Go.WideShapes Go.ChangeAt Go.RowKit
theorem qDo_len (L : List Qa) (x : Qc) : (qDo L x).2.length = L.length := by
  have := congrArg List.length (qDo_m L x)
  simpa using this
theorem qDo_small (L : List Qa) (x : Qc) : 0 ≤ (qDo L x).1 ∧ (qDo L x).1 ≤ 13 := by
  unfold qDo qAdd qSub
  repeat' split
  all_goals simp
theorem qLeft_small (L : List Qa) (q : Int) : (qLeft L q).2 = 0 ∨ (qLeft L q).2 = 3 := by
  unfold qLeft
  repeat' split
  all_goals simp
set_option maxRecDepth 100000 in
set_option maxHeartbeats 4000000 in
theorem walk (a0 : Option Addr) (c0 : Nat) (l0 : List Un) (a1 : Option Addr) (c1 : Nat) (l1 : List Qc) (q : Int) (w : World) (v0 : Uns w w.heap.size a0 l0) (q0 : ∀ a ∈ l0, UnW a) (lc0 : l0.length ≤ c0) (mc0 : c0 ≤ maxLen) (v1 : Qcs w w.heap.size a1 l1) (q1 : ∀ a ∈ l1, QcOk a) (lc1 : l1.length ≤ c1) (mc1 : c1 ≤ maxLen) (wq : (Lit.int .i64 q).wf = true) :
    Calls Try.prog 3 #[.slice a0 l0.length c0, .slice a1 l1.length c1, .int .i64 q] w fun e w' => e = .returned (.bool true) ∧ Below w.heap.size w w' := by
  obtain ⟨n, hn⟩ : ∃ n, n = l0.length := ⟨_, rfl⟩
  obtain ⟨m, hm⟩ : ∃ m, m = l1.length := ⟨_, rfl⟩
  have hA := Lib.hid (fun W => awake_q W)
  have hBb : Below w.heap.size w w := Below.refl _ _
  have hsb := hBb.size
  have HNew := Lib.hid (fun W (hW : Below w.heap.size w W) => new_q a0 c0 w.heap.size l0 W (v0.keep (hBb.trans (hW.mono hsb)) (Nat.le_refl _)) (by have := hW.size; omega))
  have HBb := Lib.hid hBb
  rw [← hn] at HNew ⊢
  rw [← hm]
  unfold maxLen at mc0 mc1
  rw [← hn] at lc0
  rw [← hm] at lc1
  have HRt := Lib.hid (fun W (hW : Below w.heap.size w W) => right_q a0 c0 w.heap.size l0 W (v0.keep hW (Nat.le_refl _)) hW.size)
  have HRn := Lib.hid (fun W (hW : Below w.heap.size w W) (hok : quotasOk l0 = true) => rnew_q a0 c0 l0 W (v0.keep hW hW.size) hok)
  rw [← hn] at HRt HRn
  have HV := Lib.hid (And.intro v0 (And.intro v1 (And.intro hn hm)))
  clear hBb v0 v1 hn hm
  have hbr := Lib.hid (Below.refl w.heap.size w)
  by_cases h100 : 100 < n ∨ 100 < m
  · have t0 : decide ((100 : Int) < (n : Int)) = true ∨ (decide ((100 : Int) < (n : Int)) = false ∧ decide ((100 : Int) < (m : Int)) = true) := by
      by_cases h : 100 < n
      · exact .inl (decide_eq_true (by omega))
      · exact .inr ⟨decide_eq_false (by omega), decide_eq_true (by omega)⟩
    clear h100
    rcases t0 with t0 | ⟨t0, t1⟩
    all_goals
      go_enter Try.func3, Try.ntmps3
      go_wp2_with (go_at_call 8; refine (hA.out _).mono ?_; rintro e w2 ⟨rfl, hb2⟩)
      go_ret
      skip
      exact ⟨rfl, HBb.out.trans (hb2.mono hsb)⟩
  have t0 : decide ((100 : Int) < (n : Int)) = false := decide_eq_false (by omega)
  have t1 : decide ((100 : Int) < (m : Int)) = false := decide_eq_false (by omega)
  have hn100 : n ≤ 100 := by omega
  have hm100 : m ≤ 100 := by omega
  clear h100
  go_enter Try.func3, Try.ntmps3
  go_wp2_with fail
  refine (hA.out _).mono ?_
  rintro e w2 ⟨rfl, hb2⟩
  go_wp2_with fail
  refine (HNew.out _ hb2).mono ?_
  rintro e w3 hq3
  have hb3 := hb2.trans (hq3.1.mono hb2.size)
  rcases hq3 with ⟨_, ⟨hq, rfl⟩ | ⟨hq, p, g, c, rfl, hQ, hp, hg⟩⟩
  · have HRt3 := HRt.out _ hb3
    rw [hq] at HRt3
    clear hq
    go_wp2_with fail
    refine HRt3.mono ?_
    rintro e w4 ⟨rfl, hb4⟩
    go_wp2
    go_ret
    exact ⟨by simp, hb3.trans (hb4.mono hb3.size)⟩
  have hs2 := hb2.size
  have HQ := Lib.hid (show QIn w w3 p g c (newL l0) from ⟨hQ, by omega, by omega, hb3⟩)
  have hlen := (quotasOk_iff.1 hq).2.1
  have HRt3 := HRt.out _ hb3
  rw [hq] at HRt3
  have Hq := Lib.hid hq
  clear hb2 hQ hp hg hq hb3
  go_wp2_with fail
  refine HRt3.mono ?_
  rintro e w4 ⟨rfl, hb4⟩
  have HQ4 := Lib.hid (HQ.out.keep hb4)
  clear hb4 HRt3
  go_wp2_with fail
  refine (HRn.out _ HQ4.out.bel Hq.out).mono ?_
  rintro e w5 ⟨r, a, b, ca, cb, rfl, hR, hr, ha, hb', hb5⟩
  have hpg := HQ4.out.at_.lt
  have hs4 := HQ4.out.bel.size
  have HQ5 := Lib.hid (HQ4.out.keep hb5)
  have HR5 := Lib.hid hR
  have hne1 : g ≠ r ∧ g ≠ a ∧ g ≠ b := by omega
  have hne2 : b ≠ p ∧ b ≠ g := by omega
  have hrw : w.heap.size ≤ r ∧ w.heap.size ≤ a ∧ w.heap.size ≤ b := by omega
  clear hb5 hR hr ha hb' hpg hs4
  go_wp2_with fail
  go_loopw [10] (fun i wr => ∃ k : Nat, i = .int .i64 k ∧ k ≤ m ∧ Hid (∃ L, QIn w wr p g c L ∧ RQAt wr r a b ca cb L ∧ L.map (·.m) = l0)) (fun i _ => m - (intOf i).toNat)
  case atStart => exact ⟨0, rfl, by omega, Lib.hid ⟨newL l0, HQ5.out, HR5.out, newL_m l0⟩⟩
  case round =>
    obtain ⟨k, rfl, hk, hin⟩ := hrel
    obtain ⟨L, hQ, hR, hLm⟩ := hin.out
    by_cases hlt : k < m
    · obtain ⟨x, hx⟩ := get_lt (l := l1) (k := k) (by rw [← HV.out.2.2.2]; exact hlt)
      obtain ⟨b1, off, rfl, hb, hc⟩ := HV.out.2.1.at_ hx
      have hbel := HBb.out.trans (hQ.bel.mono hsb)
      have hcx := (hc k _ hx).keep hb hbel
      have z0 : wr.cell? ⟨b1, off + k * 4, none⟩ = some (.bool x.sub) := hcx 0 _ rfl
      have z1 : wr.cell? ⟨b1, off + k * 4 + 1, none⟩ = some (.int .i64 x.q) := hcx 1 _ rfl
      have z2 : wr.cell? ⟨b1, off + k * 4 + 2, none⟩ = some (.int .i64 x.u.g) := hcx 2 _ rfl
      have z3 : wr.cell? ⟨b1, off + k * 4 + 3, none⟩ = some (.int .i64 x.u.c) := hcx 3 _ rfl
      have t2 : decide (k < m) = true := decide_eq_true hlt
      have HD := Lib.hid (fun W (h : QAt W p g c L) => do_q p g c L x W h)
      have hxok := q1 x (List.mem_of_getElem? hx)
      have HA := Lib.hid (fun W (h : RQAt W r a b ca cb L) => ract_q r a b ca cb L x W h hxok)
      have hLn : L.length = n := by rw [HV.out.2.2.1, ← hLm, List.length_map]
      have HX := Lib.hid (And.intro hQ (And.intro hR hLm))
      have Hx := Lib.hid hx
      have z4 := hR.heads.2
      rw [hLn] at z4
      obtain ⟨E, hE⟩ : ∃ E, E = qDo L x := ⟨_, rfl⟩
      have hEn : E.2.length = n := by rw [hE, qDo_len]; exact hLn
      have hE1 := qDo_small L x
      have hEm : E.2.map (·.m) = l0 := by rw [hE]; exact (qDo_m L x).trans hLm
      rw [← hE] at HD HA hE1
      have HU := fun W (h : QAt W p g c E.2) => used_q p g c E.2 W h
      simp only [hEn] at HU
      have HU := Lib.hid HU
      have hbw : b1 < wr.heap.size := lt_of_cell z0
      have hrl := hR.lt.1
      have hF1 : ¬ (b1 = g ∨ b1 = b) := by have := hQ.hg; omega
      have hF2 : ¬ (r = g ∨ r = b) := by have := hR.ne; omega
      have HEm := Lib.hid (And.intro hEm hEn)
      have hQ4 := hQ.at_.keep (Below.refl wr.heap.size wr).drew
      have hR4 := hR.keep (Below.refl wr.heap.size wr).drew
      have HQR := Lib.hid (And.intro hQ4 hR4)
      have hwl := hQ.bel.size
      clear hx hc hcx hbel hQ hR hLm hin hE hEm hxok hQ4 hR4 hb
      unfold qcV at HD HA
      have tE : (E.1 != E.1) = false := by simp
      have hE2 := hE1.1
      have hE3 := hE1.2
      clear hE1
      go_wp2
      refine held_begin (fun w' : World => w'.cell? ⟨b1, off + k * 4, none⟩ = some (.bool x.sub) ∧ w'.cell? ⟨b1, off + k * 4 + 1, none⟩ = some (.int .i64 x.q) ∧ w'.cell? ⟨b1, off + k * 4 + 2, none⟩ = some (.int .i64 x.u.g) ∧ w'.cell? ⟨b1, off + k * 4 + 3, none⟩ = some (.int .i64 x.u.c) ∧ w'.cell? ⟨r, 1, none⟩ = some (.slice (some ⟨b, 0, none⟩) n cb)) (by kernel_rfl) ?_
      have hBh0 : Foot (fun i => i = g ∨ i = b) wr wr.drew := (Foot.refl _ _).drew
      have hSh0 : (fun w' : World => w'.cell? ⟨b1, off + k * 4, none⟩ = some (.bool x.sub) ∧ w'.cell? ⟨b1, off + k * 4 + 1, none⟩ = some (.int .i64 x.q) ∧ w'.cell? ⟨b1, off + k * 4 + 2, none⟩ = some (.int .i64 x.u.g) ∧ w'.cell? ⟨b1, off + k * 4 + 3, none⟩ = some (.int .i64 x.u.c) ∧ w'.cell? ⟨r, 1, none⟩ = some (.slice (some ⟨b, 0, none⟩) n cb)) wr.drew := ⟨z0, z1, z2, z3, z4⟩
      refine held_take (v := ?_) 0 53 rfl rfl (by kernel_rfl) (by kernel_rfl) (by kernel_rfl) (fun _ _ _ h => h) ⟨by rfl, ?_⟩ hSh0 ?_
      rotate_left
      · intro w' hw'; obtain ⟨x0, x1, x2, x3, x4⟩ := hw'; go_simp; (try with_reducible rfl)
      simp only [Act.put, List.setIfInBounds_toArray, List.set_cons_zero, List.set_cons_succ]
      refine held_take (v := ?_) 1 54 rfl rfl (by kernel_rfl) (by kernel_rfl) (by kernel_rfl) (fun _ _ _ h => h) ⟨by rfl, ?_⟩ hSh0 ?_
      rotate_left
      · intro w' hw'; obtain ⟨x0, x1, x2, x3, x4⟩ := hw'; go_simp; (try with_reducible rfl)
      simp only [Act.put, List.setIfInBounds_toArray, List.set_cons_zero, List.set_cons_succ]
      refine held_take (v := ?_) 2 55 rfl rfl (by kernel_rfl) (by kernel_rfl) (by kernel_rfl) (fun _ _ _ h => h) ⟨by rfl, ?_⟩ hSh0 ?_
      rotate_left
      · intro w' hw'; obtain ⟨x0, x1, x2, x3, x4⟩ := hw'; go_simp; (try with_reducible rfl)
      simp only [Act.put, List.setIfInBounds_toArray, List.set_cons_zero, List.set_cons_succ]
      refine held_take (v := ?_) 3 56 rfl rfl (by kernel_rfl) (by kernel_rfl) (by kernel_rfl) (fun _ _ _ h => h) ⟨by rfl, ?_⟩ hSh0 ?_
      rotate_left
      · intro w' hw'; obtain ⟨x0, x1, x2, x3, x4⟩ := hw'; go_simp; (try with_reducible rfl)
      simp only [Act.put, List.setIfInBounds_toArray, List.set_cons_zero, List.set_cons_succ]
      refine held_take (v := ?_) 4 57 rfl rfl (by kernel_rfl) (by kernel_rfl) (by kernel_rfl) (fun _ _ _ h => h) ⟨by rfl, ?_⟩ hSh0 ?_
      rotate_left
      · intro w' hw'; obtain ⟨x0, x1, x2, x3, x4⟩ := hw'; go_simp; (try with_reducible rfl)
      simp only [Act.put, List.setIfInBounds_toArray, List.set_cons_zero, List.set_cons_succ]
      refine held_take (v := ?_) 6 59 rfl rfl (by kernel_rfl) (by kernel_rfl) (by kernel_rfl) (fun _ _ _ h => h) ⟨by rfl, ?_⟩ hSh0 ?_
      rotate_left
      · intro w' hw'; obtain ⟨x0, x1, x2, x3, x4⟩ := hw'; go_simp; (try with_reducible rfl)
      simp only [Act.put, List.setIfInBounds_toArray, List.set_cons_zero, List.set_cons_succ]
      refine held_take (v := ?_) 7 60 rfl rfl (by kernel_rfl) (by kernel_rfl) (by kernel_rfl) (fun _ _ _ h => h) ⟨by rfl, ?_⟩ hSh0 ?_
      rotate_left
      · intro w' hw'; obtain ⟨x0, x1, x2, x3, x4⟩ := hw'; go_simp; (try with_reducible rfl)
      simp only [Act.put, List.setIfInBounds_toArray, List.set_cons_zero, List.set_cons_succ]
      refine held_take (v := ?_) 8 61 rfl rfl (by kernel_rfl) (by kernel_rfl) (by kernel_rfl) (fun _ _ _ h => h) ⟨by rfl, ?_⟩ hSh0 ?_
      rotate_left
      · intro w' hw'; obtain ⟨x0, x1, x2, x3, x4⟩ := hw'; go_simp; (try with_reducible rfl)
      simp only [Act.put, List.setIfInBounds_toArray, List.set_cons_zero, List.set_cons_succ]
      refine held_take (v := ?_) 9 62 rfl rfl (by kernel_rfl) (by kernel_rfl) (by kernel_rfl) (fun _ _ _ h => h) ⟨by rfl, ?_⟩ hSh0 ?_
      rotate_left
      · intro w' hw'; obtain ⟨x0, x1, x2, x3, x4⟩ := hw'; go_simp; (try with_reducible rfl)
      simp only [Act.put, List.setIfInBounds_toArray, List.set_cons_zero, List.set_cons_succ]
      refine held_take (v := ?_) 10 63 rfl rfl (by kernel_rfl) (by kernel_rfl) (by kernel_rfl) (fun _ _ _ h => h) ⟨by rfl, ?_⟩ hSh0 ?_
      rotate_left
      · intro w' hw'; obtain ⟨x0, x1, x2, x3, x4⟩ := hw'; go_simp; (try with_reducible rfl)
      simp only [Act.put, List.setIfInBounds_toArray, List.set_cons_zero, List.set_cons_succ]
      refine held_one 5 rfl (by kernel_rfl) (by rfl) (fun K hK => ?_)
      go_simp
      go_at_call 12
      refine (HD.out _ HQR.out.1).mono ?_
      rintro e wh1 ⟨rfl, hq5, hbh1⟩
      have hBh1 : Foot (fun i => i = g ∨ i = b) wr wh1 := hBh0.trans hbh1 (fun i hi => .inl (.inl hi))
      have hSh1 : (fun w' : World => w'.cell? ⟨b1, off + k * 4, none⟩ = some (.bool x.sub) ∧ w'.cell? ⟨b1, off + k * 4 + 1, none⟩ = some (.int .i64 x.q) ∧ w'.cell? ⟨b1, off + k * 4 + 2, none⟩ = some (.int .i64 x.u.g) ∧ w'.cell? ⟨b1, off + k * 4 + 3, none⟩ = some (.int .i64 x.u.c) ∧ w'.cell? ⟨r, 1, none⟩ = some (.slice (some ⟨b, 0, none⟩) n cb)) wh1 := ⟨(hBh1.cell (p := ⟨b1, off + k * 4, none⟩) (show b1 < wr.heap.size by omega) (hF1)).trans z0, (hBh1.cell (p := ⟨b1, off + k * 4 + 1, none⟩) (show b1 < wr.heap.size by omega) (hF1)).trans z1, (hBh1.cell (p := ⟨b1, off + k * 4 + 2, none⟩) (show b1 < wr.heap.size by omega) (hF1)).trans z2, (hBh1.cell (p := ⟨b1, off + k * 4 + 3, none⟩) (show b1 < wr.heap.size by omega) (hF1)).trans z3, (hBh1.cell (p := ⟨r, 1, none⟩) (show r < wr.heap.size by omega) (hF2)).trans z4⟩
      have HR1 := HQR.out.2.foot hbh1 (by rintro i rfl; exact hne1)
      refine hK.out _ _ hSh1 ?_
      clear hK K
      refine held_one 11 rfl (by kernel_rfl) (by rfl) (fun K hK => ?_)
      go_simp
      go_at_call 13
      refine (HA.out _ HR1).mono ?_
      rintro e wh2 ⟨rfl, hq6, hbh2⟩
      have hBh2 : Foot (fun i => i = g ∨ i = b) wr wh2 := hBh1.trans hbh2 (fun i hi => .inl (.inr hi))
      have hSh2 : (fun w' : World => w'.cell? ⟨b1, off + k * 4, none⟩ = some (.bool x.sub) ∧ w'.cell? ⟨b1, off + k * 4 + 1, none⟩ = some (.int .i64 x.q) ∧ w'.cell? ⟨b1, off + k * 4 + 2, none⟩ = some (.int .i64 x.u.g) ∧ w'.cell? ⟨b1, off + k * 4 + 3, none⟩ = some (.int .i64 x.u.c) ∧ w'.cell? ⟨r, 1, none⟩ = some (.slice (some ⟨b, 0, none⟩) n cb)) wh2 := ⟨(hBh2.cell (p := ⟨b1, off + k * 4, none⟩) (show b1 < wr.heap.size by omega) (hF1)).trans z0, (hBh2.cell (p := ⟨b1, off + k * 4 + 1, none⟩) (show b1 < wr.heap.size by omega) (hF1)).trans z1, (hBh2.cell (p := ⟨b1, off + k * 4 + 2, none⟩) (show b1 < wr.heap.size by omega) (hF1)).trans z2, (hBh2.cell (p := ⟨b1, off + k * 4 + 3, none⟩) (show b1 < wr.heap.size by omega) (hF1)).trans z3, (hBh2.cell (p := ⟨r, 1, none⟩) (show r < wr.heap.size by omega) (hF2)).trans z4⟩
      have HQ2 := hq5.foot hbh2 (by rintro i rfl; exact hne2)
      refine hK.out _ _ hSh2 ?_
      clear hK K
      refine held_take (v := ?_) 12 65 rfl rfl (by kernel_rfl) (by kernel_rfl) (by kernel_rfl) (fun _ _ _ h => h) ⟨by rfl, ?_⟩ hSh2 ?_
      rotate_left
      · intro w' hw'; obtain ⟨x0, x1, x2, x3, x4⟩ := hw'; go_simp; (try with_reducible rfl)
      simp only [Act.put, List.setIfInBounds_toArray, List.set_cons_zero, List.set_cons_succ]
      refine held_take (v := ?_) 13 66 rfl rfl (by kernel_rfl) (by kernel_rfl) (by kernel_rfl) (fun _ _ _ h => h) ⟨by rfl, ?_⟩ hSh2 ?_
      rotate_left
      · intro w' hw'; obtain ⟨x0, x1, x2, x3, x4⟩ := hw'; go_simp; (try with_reducible rfl)
      simp only [Act.put, List.setIfInBounds_toArray, List.set_cons_zero, List.set_cons_succ]
      refine held_take (v := ?_) 14 67 rfl rfl (by kernel_rfl) (by kernel_rfl) (by kernel_rfl) (fun _ _ _ h => h) ⟨by rfl, ?_⟩ hSh2 ?_
      rotate_left
      · intro w' hw'; obtain ⟨x0, x1, x2, x3, x4⟩ := hw'; go_simp; (try with_reducible rfl)
      simp only [Act.put, List.setIfInBounds_toArray, List.set_cons_zero, List.set_cons_succ]
      refine held_take (v := ?_) 16 69 rfl rfl (by kernel_rfl) (by kernel_rfl) (by kernel_rfl) (fun _ _ _ h => h) ⟨by rfl, ?_⟩ hSh2 ?_
      rotate_left
      · intro w' hw'; obtain ⟨x0, x1, x2, x3, x4⟩ := hw'; go_simp; (try with_reducible rfl)
      simp only [Act.put, List.setIfInBounds_toArray, List.set_cons_zero, List.set_cons_succ]
      refine held_take (v := ?_) 17 70 rfl rfl (by kernel_rfl) (by kernel_rfl) (by kernel_rfl) (fun _ _ _ h => h) ⟨by rfl, ?_⟩ hSh2 ?_
      rotate_left
      · intro w' hw'; obtain ⟨x0, x1, x2, x3, x4⟩ := hw'; go_simp; (try with_reducible rfl)
      simp only [Act.put, List.setIfInBounds_toArray, List.set_cons_zero, List.set_cons_succ]
      refine held_take (v := ?_) 18 71 rfl rfl (by kernel_rfl) (by kernel_rfl) (by kernel_rfl) (fun _ _ _ h => h) ⟨by rfl, ?_⟩ hSh2 ?_
      rotate_left
      · intro w' hw'; obtain ⟨x0, x1, x2, x3, x4⟩ := hw'; go_simp; (try with_reducible rfl)
      simp only [Act.put, List.setIfInBounds_toArray, List.set_cons_zero, List.set_cons_succ]
      refine held_take (v := ?_) 19 72 rfl rfl (by kernel_rfl) (by kernel_rfl) (by kernel_rfl) (fun _ _ _ h => h) ⟨by rfl, ?_⟩ hSh2 ?_
      rotate_left
      · intro w' hw'; obtain ⟨x0, x1, x2, x3, x4⟩ := hw'; go_simp; (try with_reducible rfl)
      simp only [Act.put, List.setIfInBounds_toArray, List.set_cons_zero, List.set_cons_succ]
      refine held_one 15 rfl (by kernel_rfl) (by rfl) (fun K hK => ?_)
      go_simp
      go_at_call 15
      refine (HU.out _ HQ2).mono ?_
      rintro e wh3 ⟨A7, c7, rfl, hu7, hA7, hbh3⟩
      have hBh3 : Foot (fun i => i = g ∨ i = b) wr wh3 := hBh2.trans (Foot.of_below (F := fun _ => False) hbh3) (fun i hi => hi.elim)
      have hSh3 : (fun w' : World => w'.cell? ⟨b1, off + k * 4, none⟩ = some (.bool x.sub) ∧ w'.cell? ⟨b1, off + k * 4 + 1, none⟩ = some (.int .i64 x.q) ∧ w'.cell? ⟨b1, off + k * 4 + 2, none⟩ = some (.int .i64 x.u.g) ∧ w'.cell? ⟨b1, off + k * 4 + 3, none⟩ = some (.int .i64 x.u.c) ∧ w'.cell? ⟨r, 1, none⟩ = some (.slice (some ⟨b, 0, none⟩) n cb)) wh3 := ⟨(hBh3.cell (p := ⟨b1, off + k * 4, none⟩) (show b1 < wr.heap.size by omega) (hF1)).trans z0, (hBh3.cell (p := ⟨b1, off + k * 4 + 1, none⟩) (show b1 < wr.heap.size by omega) (hF1)).trans z1, (hBh3.cell (p := ⟨b1, off + k * 4 + 2, none⟩) (show b1 < wr.heap.size by omega) (hF1)).trans z2, (hBh3.cell (p := ⟨b1, off + k * 4 + 3, none⟩) (show b1 < wr.heap.size by omega) (hF1)).trans z3, (hBh3.cell (p := ⟨r, 1, none⟩) (show r < wr.heap.size by omega) (hF2)).trans z4⟩
      have HS := same_u A7 (some ⟨b, 0, none⟩) c7 cb (E.2.map (·.u)) (E.2.map (·.u)) _ hu7 (hq6.keep hbh3).uns (by rw [List.length_map, HEm.out.2]; omega)
      rw [decide_eq_true rfl, List.length_map, HEm.out.2] at HS
      have HQ7 := HQ2.keep hbh3
      have HR7 := hq6.keep hbh3
      refine hK.out _ _ hSh3 ?_
      clear hK K
      refine held_one 20 rfl (by kernel_rfl) (by rfl) (fun K hK => ?_)
      go_simp
      go_at_call 14
      refine (HS).mono ?_
      rintro e wh4 ⟨rfl, hbh4⟩
      have hBh4 : Foot (fun i => i = g ∨ i = b) wr wh4 := hBh3.trans (Foot.of_below (F := fun _ => False) hbh4) (fun i hi => hi.elim)
      have hSh4 : (fun w' : World => w'.cell? ⟨b1, off + k * 4, none⟩ = some (.bool x.sub) ∧ w'.cell? ⟨b1, off + k * 4 + 1, none⟩ = some (.int .i64 x.q) ∧ w'.cell? ⟨b1, off + k * 4 + 2, none⟩ = some (.int .i64 x.u.g) ∧ w'.cell? ⟨b1, off + k * 4 + 3, none⟩ = some (.int .i64 x.u.c) ∧ w'.cell? ⟨r, 1, none⟩ = some (.slice (some ⟨b, 0, none⟩) n cb)) wh4 := ⟨(hBh4.cell (p := ⟨b1, off + k * 4, none⟩) (show b1 < wr.heap.size by omega) (hF1)).trans z0, (hBh4.cell (p := ⟨b1, off + k * 4 + 1, none⟩) (show b1 < wr.heap.size by omega) (hF1)).trans z1, (hBh4.cell (p := ⟨b1, off + k * 4 + 2, none⟩) (show b1 < wr.heap.size by omega) (hF1)).trans z2, (hBh4.cell (p := ⟨b1, off + k * 4 + 3, none⟩) (show b1 < wr.heap.size by omega) (hF1)).trans z3, (hBh4.cell (p := ⟨r, 1, none⟩) (show r < wr.heap.size by omega) (hF2)).trans z4⟩
      have HQ8 := HQ7.keep hbh4
      have HR8 := HR7.keep hbh4
      refine hK.out _ _ hSh4 ?_
      clear hK K
      refine held_take (v := ?_) 21 74 rfl rfl (by kernel_rfl) (by kernel_rfl) (by kernel_rfl) (fun _ _ _ h => h) ⟨by rfl, ?_⟩ hSh4 ?_
      rotate_left
      · intro w' hw'; obtain ⟨x0, x1, x2, x3, x4⟩ := hw'; go_simp; (try with_reducible rfl)
      simp only [Act.put, List.setIfInBounds_toArray, List.set_cons_zero, List.set_cons_succ]
      refine held_take (v := ?_) 22 75 rfl rfl (by kernel_rfl) (by kernel_rfl) (by kernel_rfl) (fun _ _ _ h => h) ⟨by rfl, ?_⟩ hSh4 ?_
      rotate_left
      · intro w' hw'; obtain ⟨x0, x1, x2, x3, x4⟩ := hw'; go_simp; (try with_reducible rfl)
      simp only [Act.put, List.setIfInBounds_toArray, List.set_cons_zero, List.set_cons_succ]
      refine wpAnyH_done (by kernel_rfl) ?_ _
      have hB8 : Below w.heap.size w wh4 := HX.out.1.bel.trans (hBh4.below hwl (by rintro i (rfl | rfl); exact HX.out.1.hg; exact hrw.2.2))
      have H8 := Lib.hid (show QIn w wh4 p g c E.2 ∧ RQAt wh4 r a b ca cb E.2 from ⟨⟨HQ8, HX.out.1.hp, HX.out.1.hg, hB8⟩, HR8⟩)
      clear HQ8 HR8 HQ7 HR7 HS hB8 HQ2 HR1 hq5 hq6 hu7 hA7 hBh0 hBh1 hBh2 hBh3 hBh4 hSh0 hSh1 hSh2 hSh3 hSh4 hbh1 hbh2 hbh3 hbh4 z0 z1 z2 z3 z4
      have HL1 := Lib.hid (left_q p g c E.2 q wh4 H8.out.1.at_)
      have HL2 := Lib.hid (fun W (h : RQAt W r a b ca cb E.2) => rleft_q r a b ca cb E.2 q W h)
      have hz := qLeft_small E.2 q
      obtain ⟨⟨⟨xg, xc⟩, f⟩, hZ⟩ : ∃ Z, Z = qLeft E.2 q := ⟨_, rfl⟩
      rw [← hZ] at HL1 HL2 hz
      simp only [unV] at HL1 HL2 hz
      clear hZ
      go_wp2_with fail
      refine HL1.out.mono ?_
      rintro e w9 ⟨rfl, hb9⟩
      obtain ⟨w10, hw10⟩ : ∃ x, x = w9.alloc (.cells #[.int .i64 xg, .int .i64 xc] 34) := ⟨_, rfl⟩
      have hb10 : Below wh4.heap.size wh4 w10 := by rw [hw10]; exact hb9.alloc hb9.size _
      have bl10 : w10.heap[w9.heap.size]? = some (.cells #[.int .i64 xg, .int .i64 xc] 34 (0, 0)) := by rw [hw10]; exact heap_alloc_new w9 _
      have H10 := Lib.hid (And.intro (H8.out.1.keep hb10) (H8.out.2.keep hb10))
      have HW10 := Lib.hid hw10
      clear hw10 hb10 hb9
      go_wp2_with fail
      rw [← HW10.out]
      refine (HL2.out _ H10.out.2).mono ?_
      rintro e w11 ⟨rfl, hb11⟩
      have bl11 := (hb11.block _ (blk_lt bl10)).trans bl10
      obtain ⟨s0, s1, _, _, hl11⟩ := pair_at bl11
      have H11 := Lib.hid (And.intro (H10.out.1.keep hb11) (H10.out.2.keep hb11))
      have H12 := Lib.hid (show QIn w (w11.alloc (.cells #[.int .i64 xg, .int .i64 xc] 34)) p g c E.2 ∧ RQAt (w11.alloc (.cells #[.int .i64 xg, .int .i64 xc] 34)) r a b ca cb E.2 from
        ⟨H11.out.1.keep ((Below.refl _ _).alloc (Nat.le_refl _) _), H11.out.2.keep ((Below.refl _ _).alloc (Nat.le_refl _) _)⟩)
      have hne := unV_ne ⟨xg, xc⟩ ⟨xg, xc⟩
      rw [decide_eq_true rfl] at hne
      simp only [Bool.not_true] at hne
      have tf : (f != f) = false := by simp
      clear bl10 bl11 hb11
      rcases hz with rfl | rfl
      all_goals
        go_wp2
        go_roundw
        case rel => exact ⟨k + 1, by go_num, by omega, Lib.hid ⟨E.2, H12.out.1, H12.out.2, HEm.out.1⟩⟩
        case measure => simp [intOf]; omega
    · obtain rfl : k = m := by omega
      have hLn := Lib.hid (show L.length = n by rw [HV.out.2.2.1, ← hLm, List.length_map])
      have z4 := hR.heads.2
      rw [hLn.out] at z4
      have hrl := hR.lt.1
      have HU := fun W (h : QAt W p g c L) => used_q p g c L W h
      simp only [hLn.out] at HU
      have HU := Lib.hid HU
      have HQu := fun W (h : QAt W p g c L) => queues_any p g c L W h
      simp only [hLn.out] at HQu
      have HQu := Lib.hid HQu
      have HQR := Lib.hid (And.intro (hQ.at_.keep (Below.refl wr.heap.size wr).drew) (hR.keep (Below.refl wr.heap.size wr).drew))
      have HBl := Lib.hid hQ.bel
      have tn : ((n : Int) == (n : Int)) = true := by simp
      clear hQ hR hLm hin hlt
      go_wp2
      refine held_begin (fun w' : World => w'.cell? ⟨r, 1, none⟩ = some (.slice (some ⟨b, 0, none⟩) n cb)) (by kernel_rfl) ?_
      have hBf0 : Below wr.heap.size wr wr.drew := (Below.refl _ _).drew
      have hSf0 : (fun w' : World => w'.cell? ⟨r, 1, none⟩ = some (.slice (some ⟨b, 0, none⟩) n cb)) wr.drew := z4
      refine held_take (v := ?_) 0 96 rfl rfl (by kernel_rfl) (by kernel_rfl) (by kernel_rfl) (fun _ _ _ h => h) ⟨by rfl, ?_⟩ hSf0 ?_
      rotate_left
      · intro w' hw'; obtain x0 := hw'; go_simp; (try with_reducible rfl)
      simp only [Act.put, List.setIfInBounds_toArray, List.set_cons_zero, List.set_cons_succ]
      refine held_take (v := ?_) 2 98 rfl rfl (by kernel_rfl) (by kernel_rfl) (by kernel_rfl) (fun _ _ _ h => h) ⟨by rfl, ?_⟩ hSf0 ?_
      rotate_left
      · intro w' hw'; obtain x0 := hw'; go_simp; (try with_reducible rfl)
      simp only [Act.put, List.setIfInBounds_toArray, List.set_cons_zero, List.set_cons_succ]
      refine held_take (v := ?_) 3 99 rfl rfl (by kernel_rfl) (by kernel_rfl) (by kernel_rfl) (fun _ _ _ h => h) ⟨by rfl, ?_⟩ hSf0 ?_
      rotate_left
      · intro w' hw'; obtain x0 := hw'; go_simp; (try with_reducible rfl)
      simp only [Act.put, List.setIfInBounds_toArray, List.set_cons_zero, List.set_cons_succ]
      refine held_one 1 rfl (by kernel_rfl) (by rfl) (fun K hK => ?_)
      go_simp
      go_at_call 18
      refine (HQu.out _ HQR.out.1).mono ?_
      rintro e w' ⟨rfl, rfl⟩
      refine hK.out _ _ hSf0 ?_
      clear hK K
      refine held_take (v := ?_) 4 100 rfl rfl (by kernel_rfl) (by kernel_rfl) (by kernel_rfl) (fun _ _ _ h => h) ⟨by rfl, ?_⟩ hSf0 ?_
      rotate_left
      · intro w' hw'; obtain x0 := hw'; go_simp; (try with_reducible rfl)
      simp only [Act.put, List.setIfInBounds_toArray, List.set_cons_zero, List.set_cons_succ]
      refine held_take (v := ?_) 5 101 rfl rfl (by kernel_rfl) (by kernel_rfl) (by kernel_rfl) (fun _ _ _ h => h) ⟨by rfl, ?_⟩ hSf0 ?_
      rotate_left
      · intro w' hw'; obtain x0 := hw'; go_simp; (try with_reducible rfl)
      simp only [Act.put, List.setIfInBounds_toArray, List.set_cons_zero, List.set_cons_succ]
      refine held_take (v := ?_) 6 102 rfl rfl (by kernel_rfl) (by kernel_rfl) (by kernel_rfl) (fun _ _ _ h => h) ⟨by rfl, ?_⟩ hSf0 ?_
      rotate_left
      · intro w' hw'; obtain x0 := hw'; go_simp; (try with_reducible rfl)
      simp only [Act.put, List.setIfInBounds_toArray, List.set_cons_zero, List.set_cons_succ]
      refine held_take (v := ?_) 8 104 rfl rfl (by kernel_rfl) (by kernel_rfl) (by kernel_rfl) (fun _ _ _ h => h) ⟨by rfl, ?_⟩ hSf0 ?_
      rotate_left
      · intro w' hw'; obtain x0 := hw'; go_simp; (try with_reducible rfl)
      simp only [Act.put, List.setIfInBounds_toArray, List.set_cons_zero, List.set_cons_succ]
      refine held_take (v := ?_) 9 105 rfl rfl (by kernel_rfl) (by kernel_rfl) (by kernel_rfl) (fun _ _ _ h => h) ⟨by rfl, ?_⟩ hSf0 ?_
      rotate_left
      · intro w' hw'; obtain x0 := hw'; go_simp; (try with_reducible rfl)
      simp only [Act.put, List.setIfInBounds_toArray, List.set_cons_zero, List.set_cons_succ]
      refine held_take (v := ?_) 10 106 rfl rfl (by kernel_rfl) (by kernel_rfl) (by kernel_rfl) (fun _ _ _ h => h) ⟨by rfl, ?_⟩ hSf0 ?_
      rotate_left
      · intro w' hw'; obtain x0 := hw'; go_simp; (try with_reducible rfl)
      simp only [Act.put, List.setIfInBounds_toArray, List.set_cons_zero, List.set_cons_succ]
      refine held_take (v := ?_) 11 107 rfl rfl (by kernel_rfl) (by kernel_rfl) (by kernel_rfl) (fun _ _ _ h => h) ⟨by rfl, ?_⟩ hSf0 ?_
      rotate_left
      · intro w' hw'; obtain x0 := hw'; go_simp; (try with_reducible rfl)
      simp only [Act.put, List.setIfInBounds_toArray, List.set_cons_zero, List.set_cons_succ]
      refine held_one 7 rfl (by kernel_rfl) (by rfl) (fun K hK => ?_)
      go_simp
      go_at_call 15
      refine (HU.out _ HQR.out.1).mono ?_
      rintro e wf1 ⟨A7, c7, rfl, hu7, hA7, hbf1⟩
      have hBf1 : Below wr.heap.size wr wf1 := below_step hBf0 hbf1
      have hSf1 : (fun w' : World => w'.cell? ⟨r, 1, none⟩ = some (.slice (some ⟨b, 0, none⟩) n cb)) wf1 := (hBf1.cell (p := ⟨r, 1, none⟩) (show r < wr.heap.size by omega)).trans z4
      have HS := same_u A7 (some ⟨b, 0, none⟩) c7 cb (L.map (·.u)) (L.map (·.u)) _ hu7 (HQR.out.2.keep hbf1).uns (by rw [List.length_map, hLn.out]; omega)
      rw [decide_eq_true rfl, List.length_map, hLn.out] at HS
      refine hK.out _ _ hSf1 ?_
      clear hK K
      refine held_one 12 rfl (by kernel_rfl) (by rfl) (fun K hK => ?_)
      go_simp
      go_at_call 14
      refine (HS).mono ?_
      rintro e wf2 ⟨rfl, hbf2⟩
      have hBf2 : Below wr.heap.size wr wf2 := below_step hBf1 hbf2
      have hSf2 : (fun w' : World => w'.cell? ⟨r, 1, none⟩ = some (.slice (some ⟨b, 0, none⟩) n cb)) wf2 := (hBf2.cell (p := ⟨r, 1, none⟩) (show r < wr.heap.size by omega)).trans z4
      refine hK.out _ _ hSf2 ?_
      clear hK K
      refine held_take (v := ?_) 13 109 rfl rfl (by kernel_rfl) (by kernel_rfl) (by kernel_rfl) (fun _ _ _ h => h) ⟨by rfl, ?_⟩ hSf2 ?_
      rotate_left
      · intro w' hw'; obtain x0 := hw'; go_simp; (try with_reducible rfl)
      simp only [Act.put, List.setIfInBounds_toArray, List.set_cons_zero, List.set_cons_succ]
      refine held_take (v := ?_) 14 6 rfl rfl (by kernel_rfl) (by kernel_rfl) (by kernel_rfl) (fun _ _ _ h => h) ⟨by rfl, ?_⟩ hSf2 ?_
      rotate_left
      · intro w' hw'; obtain x0 := hw'; go_simp; (try with_reducible rfl)
      simp only [Act.put, List.setIfInBounds_toArray, List.set_cons_zero, List.set_cons_succ]
      refine wpAnyH_done (by kernel_rfl) ?_ _
      go_wp2
      go_ret
      exact ⟨by simp, HBl.out.trans (hBf2.mono HBl.out.size)⟩

set_option maxRecDepth 100000 in
set_option maxHeartbeats 1000000 in
theorem lifted (os : Os) (started : os.Started) (H : Type) (enc : TypeId × Value → H) :
    ReturnsInHanded {} Try.checked os 3 .any (Rows.quotaPlaysSpec.pre6 enc Try.prog Try.f3 Rows.quotaPlaysRow.domain false) (Rows.quotaPlaysSpec.post enc Try.prog Try.f3 false true false false) := by
  refine returnsInHanded_of_change (C := Try.checked) own started (by kernel_rfl) Try.func3
    (ChangeSpec.witness6 (enc := enc) (C := Try.checked) false ⟨#[], #[.slice none 0 0, .slice none 0 0, .int .i64 0], []⟩ 8 (by kernel_rfl) (by kernel_rfl) (by kernel_rfl) (by kernel_rfl)) ?_
  intro W base args ds gs before hval0 hW _ _
  have hval : ∀ (j : Nat) t v, Try.f3.params[j]? = some t → args[j]? = some v → Value.okWide Try.prog W .any base t v := hval0
  have hW' := hW
  obtain ⟨p, q, hA0, hV, rfl, hfz, hnd⟩ := hW
  have hA : DataW.TrodAll enc Try.prog W 0 (fun _ => true) true Try.f3.params.toList args.toList ds p := hA0
  rw [Try.params3] at hA hval
  obtain ⟨v0, vs0, d0, ds0, p0, q0, hargs, rfl, rfl, h0, r0⟩ := trodAll_cons hA
  obtain ⟨v1, vs1, d1, ds1, p1, q1, rfl, rfl, rfl, h1, r1⟩ := trodAll_cons r0
  obtain ⟨v2, vs2, d2, ds2, p2, q2, rfl, rfl, rfl, h2, r2⟩ := trodAll_cons r1
  obtain ⟨rfl, rfl, rfl⟩ := trodAll_nil r2
  obtain rfl : args = #[v0, v1, v2] := by cases args; simp_all
  obtain ⟨rfl, rfl⟩ := trodVars_none hV
  have k0 := h0
  have lt0 : ∀ x ∈ p0, x.block < W.heap.size := by obtain ⟨m, hm⟩ := k0; exact DataW.trod_lt m _ _ _ hm
  obtain ⟨a0, c0, l0, rfl, lc0, mc0, v0, q0⟩ := uns_of (hval 0 22 v0 rfl rfl) h0
  have k1 := h1
  have lt1 : ∀ x ∈ p1, x.block < W.heap.size := by obtain ⟨m, hm⟩ := k1; exact DataW.trod_lt m _ _ _ hm
  obtain ⟨a1, c1, l1, rfl, lc1, mc1, v1, q1⟩ := qcs_of (hval 1 23 v1 rfl rfl) h1
  have k2 := h2
  have lt2 : ∀ x ∈ p2, x.block < W.heap.size := by obtain ⟨m, hm⟩ := k2; exact DataW.trod_lt m _ _ _ hm
  obtain ⟨a2, rfl, _, _, w2⟩ := open_int Try.underlying3 (hval 2 3 v2 rfl rfl) h2
  clear hA0 hval0
  refine (walk a0 c0 l0 a1 c1 l1 a2 W v0 q0 lc0 mc0 v1 q1 lc1 mc1 w2).mono fun e W' ⟨he, bel⟩ => ?_
  subst he
  exact ⟨_, rfl, _, _, _, [], _, [], hW', trodAll_mk1 (shut_bool Try.underlying4 _), (trodAll_cons_mk (Below.trod laidOut (by kernel_rfl) (of_decide_eq_true (by kernel_rfl)) k0 bel lt0) (trodAll_cons_mk (Below.trod laidOut (by kernel_rfl) (of_decide_eq_true (by kernel_rfl)) k1 bel lt1) (trodAll_cons_mk (Below.trod laidOut (by kernel_rfl) (of_decide_eq_true (by kernel_rfl)) k2 bel lt2) trodAll_mk0))), rfl, bel.frame _, fun h => by cases h⟩

/-- THE STATEMENT. -/
theorem holds : Rows.QuotaPlaysSaid :=
  OpenClaim.holds_of_wide 3 Try.f3 rfl rfl rfl rfl rfl rfl rfl ⟨rfl, rfl, rfl, rfl, rfl⟩ rfl rfl rfl rfl rfl (by kernel_rfl) Try.func3 (by kernel_rfl)
    (of_decide_eq_true (by kernel_rfl)) (by unfold Func.isWrapper; first | (rw [if_pos (by decide +kernel)]; kernel_rfl) | (rw [if_neg (by decide +kernel)]; exact ⟨rfl, rfl⟩))
    (fun os started H enc _ => lifted os started H enc)
end Go.Proofs.Ytfbmjpihdjcedaa.quotaPlays
