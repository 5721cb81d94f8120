/- What may be: one wait, any waits, a tick and a step of age. -/
import Derived.RegionTactic
import Derived.BigRegion
import Derived.Deep.QuietTactic
import Derived.BigQuiet
import Derived.Deep.RegionWith
import Derived.Test.YtdeniikaddlifaaOrdRank
namespace Go.Proofs.Ytdeniikaddlifaa
open Go.RowKit
/-- A slice of waits, below block B. -/
abbrev Wts (w : World) (B : Nat) (A : Option Addr) (l : List Wt) : Prop := Els wtC 10 w B A l
set_option maxRecDepth 100000 in
set_option maxHeartbeats 2000000 in
theorem nomay_cl (x : Wt) (w : World) : Calls Try.prog 45 #[wtV x] w fun e w' => e = .returned (.bool (!mayW x)) ∧ Below w.heap.size w w' := by
  have hb := wt_new w x
  have hB := Lib.hid ((Below.refl w.heap.size w).alloc (Nat.le_refl _) (wtO x))
  have a2 : (w.alloc (wtO x)).cell? ⟨w.heap.size, 2, none⟩ = some (.int .i64 x.p) := cell_blk (i := 2) hb rfl
  have a8 : (w.alloc (wtO x)).cell? ⟨w.heap.size, 8, none⟩ = some (.int .i64 x.s) := cell_blk (i := 8) hb rfl
  have hT := Lib.hid (fun W => istick_any x.s W)
  clear hb
  have e0 : (!mayW x) = (decide (x.p < 0) || decide (15 < x.p) || !mayT x.s) := by
    unfold mayW
    have e1 : decide (0 ≤ x.p) = !decide (x.p < 0) := by rw [← decide_not]; exact decide_eq_decide.2 (by omega)
    have e2 : decide (x.p ≤ 15) = !decide (15 < x.p) := by rw [← decide_not]; exact decide_eq_decide.2 (by omega)
    rw [e1, e2]
    cases decide (x.p < 0) <;> cases decide (15 < x.p) <;> cases mayT x.s <;> rfl
  rw [e0]
  simp only [wtV]
  cases h1 : decide (x.p < 0)
  · cases h2 : decide (15 < x.p)
    · go_enter Try.func45, Try.ntmps45
      go_wp2_with (go_at_call 43; refine (hT.out _).mono ?_; rintro e w' ⟨rfl, rfl⟩)
      go_ret
      exact ⟨by first | rfl | simp, hB.out⟩
    · go_enter Try.func45, Try.ntmps45
      go_wp2_with fail
      go_ret
      exact ⟨by first | rfl | simp, hB.out⟩
  · go_enter Try.func45, Try.ntmps45
    go_wp2_with fail
    go_ret
    exact ⟨by first | rfl | simp, hB.out⟩
/-- Where the first one lies that may not be. -/
def indexNo (l : List Wt) : Int := if l.all mayW = true then -1 else (l.findIdx (fun x => !mayW x) : Nat)
theorem indexNo_pos (l : List Wt) : decide (0 ≤ indexNo l) = !(l.all mayW) := by
  unfold indexNo
  cases l.all mayW <;> simp <;> omega
set_option maxRecDepth 100000 in
set_option maxHeartbeats 4000000 in
theorem index_any (A : Option Addr) (c : Nat) (l : List Wt) (w : World) (h : Wts w w.heap.size A l) (hl : l.length ≤ 1000000) :
    Calls Try.prog 53 #[.slice A l.length c, .func (.func 45) #[] #[]] w fun e w' => ∃ n : Int, e = .returned (.int .i64 n) ∧ decide (0 ≤ n) = !(l.all mayW) ∧ Below w.heap.size w w' := by
  obtain ⟨n, hn⟩ : ∃ n, n = l.length := ⟨_, rfl⟩
  rw [← hn] at hl ⊢
  have H := Lib.hid (And.intro h hn)
  have HC := Lib.hid (fun x W => nomay_cl x W)
  clear h hn
  have HB0 := Lib.hid (Below.refl w.heap.size w)
  have HI0 : Hid ((l.take 0).all mayW = true) := Lib.hid rfl
  go_enter Try.func53, Try.ntmps53
  go_wp2
  go_loopw [8] (fun i wr => ∃ k : Nat, i = .int .i64 k ∧ k ≤ n ∧ Hid (Below w.heap.size w wr) ∧ Hid ((l.take k).all mayW = true)) (fun i _ => n - (intOf i).toNat)
  case atStart => exact ⟨0, rfl, by omega, HB0, HI0⟩
  case round =>
    clear HB0 HI0
    obtain ⟨k, rfl, hk, hB, hI⟩ := hrel
    by_cases hlt : k < n
    · obtain ⟨x, hx⟩ := get_lt (l := l) (k := k) (by rw [← H.out.2]; exact hlt)
      obtain ⟨b, off, rfl, hb, hc⟩ := H.out.1.at_ hx
      have hcx := (hc k _ hx).keep hb hB.out
      have a0 : wr.cell? ⟨b, off + k * 10, none⟩ = some (.int .i64 x.id) := hcx 0 _ rfl
      have a1 : wr.cell? ⟨b, off + k * 10 + 1, none⟩ = some (.int .i64 x.q) := hcx 1 _ rfl
      have a2 : wr.cell? ⟨b, off + k * 10 + 2, none⟩ = some (.int .i64 x.p) := hcx 2 _ rfl
      have a3 : wr.cell? ⟨b, off + k * 10 + 3, none⟩ = some (.int .i64 x.r) := hcx 3 _ rfl
      have a4 : wr.cell? ⟨b, off + k * 10 + 4, none⟩ = some (.int .i64 x.g) := hcx 4 _ rfl
      have a5 : wr.cell? ⟨b, off + k * 10 + 5, none⟩ = some (.int .i64 x.c) := hcx 5 _ rfl
      have a6 : wr.cell? ⟨b, off + k * 10 + 6, none⟩ = some (.int .i64 x.mn) := hcx 6 _ rfl
      have a7 : wr.cell? ⟨b, off + k * 10 + 7, none⟩ = some (.int .i64 x.mx) := hcx 7 _ rfl
      have a8 : wr.cell? ⟨b, off + k * 10 + 8, none⟩ = some (.int .i64 x.s) := hcx 8 _ rfl
      have a9 : wr.cell? ⟨b, off + k * 10 + 9, none⟩ = some (.int .i64 x.n) := hcx 9 _ rfl
      have t2 : decide (k < n) = true := decide_eq_true hlt
      have hC := Lib.hid (HC.out x wr)
      obtain ⟨m, hm⟩ : ∃ m, m = mayW x := ⟨_, rfl⟩
      rw [← hm] at hC
      simp only [wtV, wtA] at hC
      cases m
      · have HR : Hid (decide ((0 : Int) ≤ (k : Int)) = !(l.all mayW)) := Lib.hid (by rw [all_no hx hm.symm]; simp)
        have HB1 := hB
        clear hcx hc hb hx hI hB hm
        go_wp2_with fail
        refine hC.out.mono ?_
        rintro e w1 ⟨rfl, hb1⟩
        have HB2 := Lib.hid (below_step HB1.out hb1)
        clear HB1 hb1
        go_wp2
        go_ret
        exact ⟨_, rfl, HR.out, HB2.out⟩
      · have HN : Hid ((l.take (k + 1)).all mayW = true) := Lib.hid (all_next hx hI.out hm.symm)
        have HB1 := hB
        clear hcx hc hb hx hI hB hm
        go_wp2_with fail
        refine hC.out.mono ?_
        rintro e w1 ⟨rfl, hb1⟩
        have HB2 := Lib.hid (below_step HB1.out hb1)
        clear HB1 hb1 hC
        go_wp2
        go_roundw
        case rel => exact ⟨k + 1, by go_num, by omega, HB2, HN⟩
        case measure => simp [intOf]; omega
    · obtain rfl : k = n := by omega
      have HR : Hid (decide ((0 : Int) ≤ (-1 : Int)) = !(l.all mayW)) := Lib.hid (by have := hI.out; rw [H.out.2] at this; rw [all_end this]; rfl)
      have HB1 := hB
      clear hI hB hlt
      go_wp2
      go_ret
      exact ⟨_, rfl, HR.out, HB1.out⟩
set_option maxRecDepth 100000 in
set_option maxHeartbeats 2000000 in
theorem contains_any (A : Option Addr) (c : Nat) (l : List Wt) (w : World) (h : Wts w w.heap.size A l) (hl : l.length ≤ 1000000) :
    Calls Try.prog 44 #[.slice A l.length c, .func (.func 45) #[] #[]] w fun e w' => e = .returned (.bool (!(l.all mayW))) ∧ Below w.heap.size w w' := by
  have hI := Lib.hid (index_any A c l w h hl)
  clear h
  go_enter Try.func44, Try.ntmps44
  go_wp2_with fail
  go_at_call 53
  refine hI.out.mono ?_
  rintro e w1 ⟨n, rfl, hn, hb1⟩
  have Hn := Lib.hid hn
  clear hn
  go_wp2
  go_ret
  exact ⟨by rw [← Hn.out]; first | rfl | simp, hb1⟩
set_option maxRecDepth 100000 in
set_option maxHeartbeats 2000000 in
theorem maybe_any (now age : Int) (A : Option Addr) (c : Nat) (l : List Wt) (w : World) (h : Wts w w.heap.size A l) (hl : l.length ≤ 1000000) :
    Calls Try.prog 37 #[.int .i64 now, .int .i64 age, .slice A l.length c] w fun e w' => e = .returned (.bool (mayA now age && l.all mayW)) ∧ Below w.heap.size w w' := by
  have hC := Lib.hid (contains_any A c l w h hl)
  have hT := Lib.hid (fun W => istick_any now W)
  clear h
  unfold mayA
  obtain ⟨u, hu⟩ : ∃ u, u = mayT now := ⟨_, rfl⟩
  obtain ⟨v, hv⟩ : ∃ v, v = l.all mayW := ⟨_, rfl⟩
  rw [← hu] at hT ⊢
  rw [← hv] at hC ⊢
  clear hu hv
  cases u
  · go_enter Try.func37, Try.ntmps37
    go_wp2_with (go_at_call 43; refine (hT.out _).mono ?_; rintro e w' ⟨rfl, rfl⟩)
    go_ret
    exact ⟨by first | rfl | simp, Below.refl _ _⟩
  · by_cases h1 : age < 1
    · have t1 : decide (age < 1) = true := decide_eq_true h1
      have t2 : decide (1 ≤ age) = false := decide_eq_false (by omega)
      rw [t2]
      clear h1 t2
      go_enter Try.func37, Try.ntmps37
      go_wp2_with (go_at_call 43; refine (hT.out _).mono ?_; rintro e w' ⟨rfl, rfl⟩)
      go_ret
      exact ⟨by first | rfl | simp, Below.refl _ _⟩
    · have t1 : decide (age < 1) = false := decide_eq_false h1
      have t2 : decide (1 ≤ age) = true := decide_eq_true (by omega)
      rw [t2]
      clear h1 t2
      by_cases h3 : 1024 < age
      · have t3 : decide (1024 < age) = true := decide_eq_true h3
        have t4 : decide (age ≤ 1024) = false := decide_eq_false (by omega)
        rw [t4]
        clear h3 t4
        go_enter Try.func37, Try.ntmps37
        go_wp2_with (go_at_call 43; refine (hT.out _).mono ?_; rintro e w' ⟨rfl, rfl⟩)
        go_ret
        exact ⟨by first | rfl | simp, Below.refl _ _⟩
      · have t3 : decide (1024 < age) = false := decide_eq_false h3
        have t4 : decide (age ≤ 1024) = true := decide_eq_true (by omega)
        rw [t4]
        clear h3 t4
        go_enter Try.func37, Try.ntmps37
        go_wp2_with (first | (go_at_call 43; (with_reducible refine (hT.out _).mono ?_); rintro e w' ⟨rfl, rfl⟩) | (go_at_call 44; (with_reducible refine (hC.out).mono ?_); rintro e w1 ⟨rfl, hb1⟩))
        go_ret
        exact ⟨by first | rfl | simp, hb1⟩
end Go.Proofs.Ytdeniikaddlifaa
