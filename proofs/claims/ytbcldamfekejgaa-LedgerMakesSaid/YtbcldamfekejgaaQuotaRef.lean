/- The document's accounts: what may be, Right, Left, Add, Sub, Act. -/
import Derived.Test.YtbcldamfekejgaaHeldTwo
import Derived.Test.YtbcldamfekejgaaQuotaAwake
set_option linter.unusedVariables false
set_option maxRecDepth 100000
namespace Go.Proofs.Ytbcldamfekejgaa
open Go.RowKit

set_option maxHeartbeats 1000000 in
theorem refmay_any (u : Un) (w : World) : Calls Try.prog 14 #[unV u] w fun e w' => e = .returned (.bool (mayU u)) ∧ Below w.heap.size w w' := by
  have hB := (Below.refl w.heap.size w).alloc (Nat.le_refl _) (.cells #[.int .i64 u.g, .int .i64 u.c] 44)
  unfold mayU
  obtain ⟨a, b⟩ := u
  simp only [unV] at *
  rcases Bool.eq_false_or_eq_true (decide (0 ≤ a)) with t0 | t0
  rotate_left
  · go_enter Try.func14, Try.ntmps14
    go_wp2
    go_ret
    exact ⟨by simp [t0], hB⟩
  rcases Bool.eq_false_or_eq_true (decide (a ≤ 1048576)) with t1 | t1
  rotate_left
  · go_enter Try.func14, Try.ntmps14
    go_wp2
    go_ret
    exact ⟨by simp [t0, t1], hB⟩
  rcases Bool.eq_false_or_eq_true (decide (0 ≤ b)) with t2 | t2
  rotate_left
  · go_enter Try.func14, Try.ntmps14
    go_wp2
    go_ret
    exact ⟨by simp [t0, t1, t2], hB⟩
  rcases Bool.eq_false_or_eq_true (decide (b ≤ 1048576)) with t3 | t3
  rotate_left
  · go_enter Try.func14, Try.ntmps14
    go_wp2
    go_ret
    exact ⟨by simp [t0, t1, t2, t3], hB⟩
  go_enter Try.func14, Try.ntmps14
  go_wp2
  go_ret
  exact ⟨by simp [t0, t1, t2, t3], hB⟩
set_option maxRecDepth 100000 in
set_option maxHeartbeats 1000000 in
theorem right_q (A : Option Addr) (c B : Nat) (l : List Un) (w : World) (h : Uns w B A l) (hB : B ≤ w.heap.size) :
    Calls Try.prog 7 #[.slice A l.length c] w fun e w' => e = .returned (.bool (quotasOk l)) ∧ Below w.heap.size w w' := by
  obtain ⟨R, hR⟩ : ∃ R, R = quotasOk l := ⟨_, rfl⟩
  rw [← hR]
  obtain ⟨n, hn⟩ : ∃ n, n = l.length := ⟨_, rfl⟩
  have H := Lib.hid (And.intro hR (And.intro h hn))
  rw [← hn]
  by_cases h1 : n < 1
  · have t0 : decide (n < 1) = true := decide_eq_true h1
    have e : R = false := by rw [hR]; unfold quotasOk; rw [decide_eq_false (by omega)]; rfl
    subst e
    clear h hn hR
    go_enter Try.func7, Try.ntmps7
    go_wp2
    go_ret
    exact ⟨rfl, Below.refl _ _⟩
  have t0 : decide (n < 1) = false := decide_eq_false h1
  by_cases h8 : 8 < n
  · have t1 : decide (8 < n) = true := decide_eq_true h8
    have e : R = false := by rw [hR]; unfold quotasOk; rw [decide_eq_false (show ¬ l.length ≤ 8 by omega)]; simp
    subst e
    clear h hn hR
    go_enter Try.func7, Try.ntmps7
    go_wp2
    go_ret
    exact ⟨rfl, Below.refl _ _⟩
  have t1 : decide (8 < n) = false := decide_eq_false h8
  have hM := Lib.hid (fun u W => refmay_any u W)
  clear h hn hR
  go_enter Try.func7, Try.ntmps7
  go_wp2
  go_loopw [3] (fun i wr => ∃ k : Nat, i = .int .i64 k ∧ k ≤ n ∧ Below w.heap.size w wr ∧ Hid ((l.take k).all mayU = true)) (fun i _ => n - (intOf i).toNat)
  case atStart => exact ⟨0, rfl, by omega, Below.refl _ _, Lib.hid rfl⟩
  case round =>
    obtain ⟨k, rfl, hk, hBl, hall⟩ := hrel
    by_cases hlt : k < n
    · obtain ⟨⟨ug, uc⟩, hx⟩ := get_lt (l := l) (k := k) (by rw [← H.out.2.2]; exact hlt)
      obtain ⟨b, off, rfl, hb, hc⟩ := H.out.2.1.at_ hx
      have hcx := (hc k _ hx).keep hb (hBl.mono hB)
      have z0 : wr.cell? ⟨b, off + k * 2, none⟩ = some (.int .i64 ug) := hcx 0 _ rfl
      have z1 : wr.cell? ⟨b, off + k * 2 + 1, none⟩ = some (.int .i64 uc) := hcx 1 _ rfl
      have hMx := hM.out ⟨ug, uc⟩
      have t2 : decide (k < n) = true := decide_eq_true hlt
      obtain ⟨m, hm⟩ : ∃ m, m = mayU ⟨ug, uc⟩ := ⟨_, rfl⟩
      rw [← hm] at hMx
      have HMx := Lib.hid hMx
      simp only [unV] at HMx
      have HB := Lib.hid hBl
      cases m
      · have e : R = false := by rw [H.out.1]; unfold quotasOk; rw [all_no hx hm.symm]; simp
        subst e
        clear hcx hc hx hMx hm hBl
        go_wp2_with fail
        refine (HMx.out _).mono ?_
        rintro e w2 ⟨rfl, hb2⟩
        go_wp2
        go_ret
        exact ⟨rfl, below_step HB.out hb2⟩
      · have HN := Lib.hid (all_next hx hall.out hm.symm)
        clear hcx hc hx hMx hm hBl
        go_wp2_with fail
        refine (HMx.out _).mono ?_
        rintro e w2 ⟨rfl, hb2⟩
        go_wp2
        go_roundw
        case rel => exact ⟨k + 1, by go_num, by omega, below_step HB.out hb2, HN⟩
        case measure => simp [intOf]; omega
    · obtain rfl : k = n := by omega
      have e : R = true := by
        have h2 := hall.out
        rw [H.out.2.2, List.take_length] at h2
        rw [H.out.1]
        exact quotasOk_iff.2 ⟨by rw [← H.out.2.2]; omega, by rw [← H.out.2.2]; omega, h2⟩
      subst e
      have HB := Lib.hid hBl
      clear hlt hBl
      go_wp2
      go_ret
      exact ⟨rfl, HB.out⟩
section
variable {w w' : World} {r a b ca cb : Nat} {l : List Qa}
end
theorem un_set : ∀ {l : List Un} {k : Nat} (u : Un), k < l.length → (l.set k u).flatMap uC = ((l.flatMap uC).set (k * 2) (.int .i64 u.g)).set (k * 2 + 1) (.int .i64 u.c)
  | [], _, _, h => by simp at h
  | y :: l, 0, u, h => by simp [uC]
  | y :: l, k + 1, u, h => by
    have ih := un_set u (l := l) (k := k) (by simpa using h)
    rw [List.set_cons_succ, List.flatMap_cons, ih, List.flatMap_cons, show (k + 1) * 2 + 1 = k * 2 + 1 + 2 by omega, show (k + 1) * 2 = k * 2 + 2 by omega]
    simp [uC]
end Go.Proofs.Ytbcldamfekejgaa
