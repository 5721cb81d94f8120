/- Ahead for ever: as at the other one's Since; the document's search through two steps of age. -/
import Derived.RegionTactic
import Derived.BigRegion
import Derived.Deep.QuietTactic
import Derived.BigQuiet
import Derived.Deep.RegionWith
import Derived.Test.YtbknkfpgejkmoaaOrdRef
namespace Go.Proofs.Ytbknkfpgejkmoaa
open Go.RowKit
/-- Ranks apart, at a tick: never less than at the other's Since; as there, where whole steps of age lie between. -/
theorem apart_ge (t xs ys a : Int) (ha : 1 ≤ a) : (ys - xs) / a ≤ (t - xs) / a - (t - ys) / a := by
  have h0 : t - xs = ((t - ys) % a + (ys - xs)) + (t - ys) / a * a := by
    have := Int.mul_ediv_add_emod (t - ys) a
    rw [Int.mul_comm] at this
    omega
  have h1 : (t - xs) / a = ((t - ys) % a + (ys - xs)) / a + (t - ys) / a := by
    conv => lhs; rw [h0]
    rw [Int.add_mul_ediv_right _ _ (by omega)]
  have h2 := Int.emod_nonneg (t - ys) (show a ≠ 0 by omega)
  have h3 : (ys - xs) / a ≤ ((t - ys) % a + (ys - xs)) / a := Int.ediv_le_ediv (by omega) (by omega)
  omega
theorem apart_eq (t xs ys a : Int) (ha : 1 ≤ a) (hm : (t - ys) % a = 0) : (t - xs) / a - (t - ys) / a = (ys - xs) / a := by
  have h0 : t - xs = (ys - xs) + (t - ys) / a * a := by
    have := Int.mul_ediv_add_emod (t - ys) a
    rw [Int.mul_comm] at this
    omega
  have h1 : (t - xs) / a = (ys - xs) / a + (t - ys) / a := by
    conv => lhs; rw [h0]
    rw [Int.add_mul_ediv_right _ _ (by omega)]
  omega
theorem ahead_mono {t u a : Int} {x y : Wt} (h : rankF x t a - rankF y t a ≤ rankF x u a - rankF y u a) (hx : aheadF t a x y = true) : aheadF u a x y = true := by
  unfold aheadF at *
  simp only [decide_eq_true_eq] at *
  omega
theorem ahead_since (t a : Int) (x y : Wt) (ha : 1 ≤ a) (h : aheadF y.s a x y = true) : aheadF t a x y = true := by
  refine ahead_mono ?_ h
  have := apart_ge t x.s y.s a ha
  unfold rankF
  rw [Int.sub_self, Int.zero_ediv]
  omega
theorem since_ahead (n a : Int) (x y : Wt) (ha : 1 ≤ a) (h : ∀ k : Int, 0 ≤ k → k < a → aheadF (n + k) a x y = true) : aheadF y.s a x y = true := by
  have h1 := Int.emod_nonneg (y.s - n) (show a ≠ 0 by omega)
  have h2 := Int.emod_lt_of_pos (y.s - n) (show 0 < a by omega)
  have h3 := h _ h1 h2
  refine ahead_mono ?_ h3
  have h4 : (n + (y.s - n) % a - y.s) % a = 0 := by
    have := Int.mul_ediv_add_emod (y.s - n) a
    have e : n + (y.s - n) % a - y.s = a * (-((y.s - n) / a)) := by rw [Int.mul_neg]; omega
    rw [e, Int.mul_emod_right]
  have := apart_eq (n + (y.s - n) % a) x.s y.s a ha h4
  unfold rankF
  rw [Int.sub_self, Int.zero_ediv]
  omega
set_option maxRecDepth 100000 in
set_option maxHeartbeats 4000000 in
theorem refsure_any (x y : Wt) (now age : Int) (w : World) (h1 : 0 ≤ now) (h2 : now ≤ 1073741824) (h3 : 1 ≤ age) (h4 : age ≤ 1024) (hx : mayW x = true) (hy : mayW y = true) :
    Calls Try.prog 18 #[wtV x, wtV y, .int .i64 now, .int .i64 age] w fun e w' => e = .returned (.bool (aheadF y.s age x y)) ∧ Below w.heap.size w w' := by
  have HA := Lib.hid (fun (k : Int) W (hk : 0 ≤ k ∧ k < 2048) => refahead_any x y (now + k) age W (by omega) (by omega) h3 h4 hx hy)
  have HQ0 := Lib.hid (box2 w x y)
  obtain ⟨R, hR⟩ : ∃ R, R = aheadF y.s age x y := ⟨_, rfl⟩
  rw [← hR]
  have HR := Lib.hid hR
  have e1 : IntKind.i64.wrap (2 * age) = 2 * age := IntWalk.i64_in _ (by omega)
  clear hx hy hR
  simp only [wtV] at HA ⊢
  go_enter Try.func18, Try.ntmps18
  go_wp2_with fail
  obtain ⟨U, hUe⟩ : ∃ U, U = (w.alloc (wtO x)).alloc (wtO y) := ⟨_, rfl⟩
  obtain ⟨B, hBe⟩ : ∃ B, B = w.heap.size + 1 := ⟨_, rfl⟩
  obtain ⟨A, hAe⟩ : ∃ A, A = w.heap.size := ⟨_, rfl⟩
  have HQ := HQ0.out
  rw [← hUe, ← hBe, ← hAe] at HQ
  rw [← hUe, ← hBe, ← hAe]
  clear HQ0 hUe hBe hAe
  have HQ := Lib.hid HQ
  go_loopw [9] (fun i wr => ∃ k : Int, i = .int .i64 k ∧ 0 ≤ k ∧ k ≤ 2 * age ∧ Hid (Box2 w wr A B x y) ∧ Hid (∀ j : Int, 0 ≤ j → j < k → aheadF (now + j) age x y = true)) (fun i _ => (2 * age).toNat - (intOf i).toNat)
  case atStart => exact ⟨0, rfl, by omega, by omega, HQ, Lib.hid fun j a b => by omega⟩
  case round =>
    clear HQ
    obtain ⟨k, rfl, hk0, hk, hQ, hI⟩ := hrel
    by_cases hlt : k < 2 * age
    · have t1 : decide (k < 2 * age) = true := decide_eq_true hlt
      have hC := Lib.hid (HA.out k wr ⟨hk0, by omega⟩)
      have a0 : wr.cell? ⟨A, 0, none⟩ = some (.int .i64 x.id) := hQ.out.x 0 _ rfl
      have a1 : wr.cell? ⟨A, 1, none⟩ = some (.int .i64 x.q) := hQ.out.x 1 _ rfl
      have a2 : wr.cell? ⟨A, 2, none⟩ = some (.int .i64 x.p) := hQ.out.x 2 _ rfl
      have a3 : wr.cell? ⟨A, 3, none⟩ = some (.int .i64 x.r) := hQ.out.x 3 _ rfl
      have a4 : wr.cell? ⟨A, 4, none⟩ = some (.int .i64 x.g) := hQ.out.x 4 _ rfl
      have a5 : wr.cell? ⟨A, 5, none⟩ = some (.int .i64 x.c) := hQ.out.x 5 _ rfl
      have a6 : wr.cell? ⟨A, 6, none⟩ = some (.int .i64 x.mn) := hQ.out.x 6 _ rfl
      have a7 : wr.cell? ⟨A, 7, none⟩ = some (.int .i64 x.mx) := hQ.out.x 7 _ rfl
      have a8 : wr.cell? ⟨A, 8, none⟩ = some (.int .i64 x.s) := hQ.out.x 8 _ rfl
      have a9 : wr.cell? ⟨A, 9, none⟩ = some (.int .i64 x.n) := hQ.out.x 9 _ rfl
      have b0 : wr.cell? ⟨B, 0, none⟩ = some (.int .i64 y.id) := hQ.out.y 0 _ rfl
      have b1 : wr.cell? ⟨B, 1, none⟩ = some (.int .i64 y.q) := hQ.out.y 1 _ rfl
      have b2 : wr.cell? ⟨B, 2, none⟩ = some (.int .i64 y.p) := hQ.out.y 2 _ rfl
      have b3 : wr.cell? ⟨B, 3, none⟩ = some (.int .i64 y.r) := hQ.out.y 3 _ rfl
      have b4 : wr.cell? ⟨B, 4, none⟩ = some (.int .i64 y.g) := hQ.out.y 4 _ rfl
      have b5 : wr.cell? ⟨B, 5, none⟩ = some (.int .i64 y.c) := hQ.out.y 5 _ rfl
      have b6 : wr.cell? ⟨B, 6, none⟩ = some (.int .i64 y.mn) := hQ.out.y 6 _ rfl
      have b7 : wr.cell? ⟨B, 7, none⟩ = some (.int .i64 y.mx) := hQ.out.y 7 _ rfl
      have b8 : wr.cell? ⟨B, 8, none⟩ = some (.int .i64 y.s) := hQ.out.y 8 _ rfl
      have b9 : wr.cell? ⟨B, 9, none⟩ = some (.int .i64 y.n) := hQ.out.y 9 _ rfl
      obtain ⟨m, hm⟩ : ∃ m, m = aheadF (now + k) age x y := ⟨_, rfl⟩
      rw [← hm] at hC
      simp only [wtA] at hC
      cases m
      · have HE : Hid (false = R) := Lib.hid (by
          rw [HR.out]
          cases hc : aheadF y.s age x y
          · rfl
          · rw [ahead_since (now + k) age x y h3 hc] at hm; exact hm)
        clear hI hm hlt
        go_wp2_with fail
        refine hC.out.mono ?_
        rintro e w1 ⟨rfl, hb1⟩
        have hQ1 := Lib.hid (hQ.out.keep hb1)
        clear hb1
        go_wp2
        go_ret
        exact ⟨by rw [← HE.out]; first | rfl | (simp; done), hQ1.out.b⟩
      · have HN : Hid (∀ j : Int, 0 ≤ j → j < k + 1 → aheadF (now + j) age x y = true) := Lib.hid (fun j a b => by
          by_cases e : j = k
          · subst e; exact hm.symm
          · exact hI.out j a (by omega))
        clear hI hm
        go_wp2_with fail
        refine hC.out.mono ?_
        rintro e w1 ⟨rfl, hb1⟩
        have hQ1 := Lib.hid (hQ.out.keep hb1)
        clear hb1 hC hQ a0 a1 a2 a3 a4 a5 a6 a7 a8 a9 b0 b1 b2 b3 b4 b5 b6 b7 b8 b9
        go_wp2
        go_roundw
        case rel => exact ⟨k + 1, by go_num, by omega, by omega, hQ1, HN⟩
        case measure => simp [intOf]; omega
    · obtain rfl : k = 2 * age := by omega
      have t1 : decide (2 * age < 2 * age) = false := decide_eq_false hlt
      have HE : Hid (true = R) := Lib.hid (by
        rw [HR.out]
        exact (since_ahead now age x y h3 fun j a b => hI.out j a (by omega)).symm)
      clear hI hlt
      go_wp2
      go_ret
      exact ⟨by rw [← HE.out]; first | rfl | (simp; done), hQ.out.b⟩
end Go.Proofs.Ytbknkfpgejkmoaa
