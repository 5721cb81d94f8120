/- The document's example; the document's Right. -/
import Derived.RegionTactic
import Derived.BigRegion
import Derived.Test.YtdeniikaddlifaaQuIn
set_option linter.unusedVariables false
set_option maxRecDepth 100000
namespace Go.Proofs.Ytdeniikaddlifaa
open Go.RowKit
theorem right_none {R : List Int} {k : Nat} {x : Int} (hx : R[k]? = some x) (h : x < 0 ∨ 16 < x) : QL.right R = false := by
  rw [← Bool.not_eq_true, QL.right_iff]; intro hh; have := hh.room k x hx; omega
set_option maxHeartbeats 4000000 in
theorem right_r (A : Option Addr) (c : Nat) (R : List Int) (w : World) (h : Nums w w.heap.size A R) (hc : R.length ≤ 9223372036854775807) :
    Calls Try.prog 10 #[.slice A R.length c] w fun e w' => e = .returned (.bool (QL.right R)) ∧ Below w.heap.size w w' := by
  obtain ⟨n, hn⟩ : ∃ n, n = R.length := ⟨_, rfl⟩
  have H := Lib.hid (And.intro h hn)
  rw [← hn] at hc ⊢
  clear h hn
  by_cases h1 : n < 1
  · obtain rfl : n = 0 := by omega
    have HE : Hid (QL.right R = false) := Lib.hid (by unfold QL.right; rw [← H.out.2]; simp)
    go_enter Try.func10, Try.ntmps10
    go_wp2
    go_ret
    exact ⟨by rw [HE.out]; rfl, Below.refl _ _⟩
  by_cases h2 : 8 < n
  · have t2 : decide ((8 : Int) < (n : Int)) = true := decide_eq_true (by omega)
    have t1 : decide ((n : Int) < 1) = false := decide_eq_false (by omega)
    have HE : Hid (QL.right R = false) := Lib.hid (by unfold QL.right; rw [← H.out.2, decide_eq_false (p := n ≤ 8) (by omega)]; simp)
    go_enter Try.func10, Try.ntmps10
    go_wp2
    go_ret
    exact ⟨by rw [HE.out]; rfl, Below.refl _ _⟩
  have t2 : decide ((8 : Int) < (n : Int)) = false := decide_eq_false (by omega)
  have t1 : decide ((n : Int) < 1) = false := decide_eq_false (by omega)
  have HB0 := Lib.hid (And.intro (Below.refl w.heap.size w) (show ∀ j r, j < 0 → R[j]? = some r → 0 ≤ r ∧ r ≤ 16 from fun j r hj => by omega))
  go_enter Try.func10, Try.ntmps10
  go_wp2
  go_loopw [3] (fun vi wr => ∃ k : Nat, vi = .int .i64 k ∧ k ≤ n ∧ Hid (Below w.heap.size w wr ∧ ∀ j r, j < k → R[j]? = some r → 0 ≤ r ∧ r ≤ 16)) (fun vi _ => n - (intOf vi).toNat)
  case atStart => exact ⟨0, rfl, by omega, HB0⟩
  case round =>
    clear HB0
    obtain ⟨k, rfl, hkn, hB⟩ := hrel
    by_cases hlt : k < n
    · obtain ⟨x, hx⟩ := get_lt (l := R) (k := k) (by rw [← H.out.2]; exact hlt)
      obtain ⟨b, off, rfl, hb, hcc⟩ := H.out.1.at_ hx
      have t3 : decide (k < n) = true := decide_eq_true hlt
      have a0 : wr.cell? ⟨b, off + k, none⟩ = some (.int .i64 x) := by
        have := (hcc k x hx).keep hb hB.out.1 0 _ rfl
        rwa [Nat.mul_one] at this
      have HX := Lib.hid hx
      clear hx hcc hb
      by_cases h0 : x < 0
      · have t4 : decide (x < 0) = true := decide_eq_true h0
        have HE : Hid (QL.right R = false) := Lib.hid (right_none HX.out (.inl h0))
        go_wp2
        go_ret
        exact ⟨by rw [HE.out]; rfl, hB.out.1⟩
      have t4 : decide (x < 0) = false := decide_eq_false h0
      by_cases h16 : 16 < x
      · have t5 : decide (16 < x) = true := decide_eq_true h16
        have HE : Hid (QL.right R = false) := Lib.hid (right_none HX.out (.inr h16))
        go_wp2
        go_ret
        exact ⟨by rw [HE.out]; rfl, hB.out.1⟩
      have t5 : decide (16 < x) = false := decide_eq_false h16
      have HN : Hid (Below w.heap.size w wr ∧ ∀ j r, j < k + 1 → R[j]? = some r → 0 ≤ r ∧ r ≤ 16) := Lib.hid ⟨hB.out.1, fun j r hj hr => by
        by_cases e : j = k
        · subst e; rw [HX.out] at hr; injection hr with hr; subst hr; omega
        · exact hB.out.2 j r (by omega) hr⟩
      clear hB h0 h16
      go_wp2
      go_roundw
      case rel => exact ⟨k + 1, by go_num, by omega, HN⟩
      case measure => simp [intOf]; omega
    · obtain rfl : k = n := by omega
      have t3 : decide (k < k) = false := decide_eq_false hlt
      have HE : Hid (QL.right R = true) := Lib.hid (by
        rw [QL.right_iff]
        have := H.out.2
        exact ⟨by omega, by omega, fun j r hr => by
          have hj := (List.getElem?_eq_some_iff.1 hr).1
          exact hB.out.2 j r (by omega) hr⟩)
      go_wp2
      go_ret
      exact ⟨by rw [HE.out]; rfl, hB.out.1⟩
set_option maxHeartbeats 4000000 in
theorem awake_q (w : World) : Calls Try.prog 8 #[] w fun e w' => e = .returned (.bool true) ∧ Below w.heap.size w w' := by
  have hN := new_i (some ⟨w.heap.size, 0, none⟩) 2 [1, 2] w (w.alloc (.cells #[.int .i64 1, .int .i64 2] 3)) ((Below.refl _ _).alloc (Nat.le_refl _) _)
    (els_blk intC_len (heap_alloc_new w _) (fun j v hj => by simpa [intC] using hj)) (by simp)
  simp only [List.length_cons, List.length_nil, Nat.zero_add, Nat.reduceAdd] at hN
  have HN := Lib.hid hN
  have A1 := Lib.hid (fun p W (h : QuIn w W p [1, 2] []) => by
    have := add_i p [1, 2] [] ⟨5, 0, 0, 0, 0, 0, 0, 0, 0, 0⟩ w W h
    rw [show QL.addE [1, 2] [] ⟨5, 0, 0, 0, 0, 0, 0, 0, 0, 0⟩ = 0 by decide, show QL.addL [1, 2] [] ⟨5, 0, 0, 0, 0, 0, 0, 0, 0, 0⟩ = [⟨5, 0, 0, 0, 0, 0, 0, 0, 0, 0⟩] by decide] at this
    exact this)
  have A2 := Lib.hid (fun p W (h : QuIn w W p [1, 2] [⟨5, 0, 0, 0, 0, 0, 0, 0, 0, 0⟩]) => by
    have := add_i p [1, 2] [⟨5, 0, 0, 0, 0, 0, 0, 0, 0, 0⟩] ⟨6, 0, 0, 0, 0, 0, 0, 0, 0, 0⟩ w W h
    rw [show QL.addE [1, 2] [⟨5, 0, 0, 0, 0, 0, 0, 0, 0, 0⟩] ⟨6, 0, 0, 0, 0, 0, 0, 0, 0, 0⟩ = 2 by decide, show QL.addL [1, 2] [⟨5, 0, 0, 0, 0, 0, 0, 0, 0, 0⟩] ⟨6, 0, 0, 0, 0, 0, 0, 0, 0, 0⟩ = [⟨5, 0, 0, 0, 0, 0, 0, 0, 0, 0⟩] by decide] at this
    exact this)
  have A3 := Lib.hid (fun p W (h : QuIn w W p [1, 2] [⟨5, 0, 0, 0, 0, 0, 0, 0, 0, 0⟩]) => by
    have := add_i p [1, 2] [⟨5, 0, 0, 0, 0, 0, 0, 0, 0, 0⟩] ⟨5, 1, 0, 0, 0, 0, 0, 0, 0, 0⟩ w W h
    rw [show QL.addE [1, 2] [⟨5, 0, 0, 0, 0, 0, 0, 0, 0, 0⟩] ⟨5, 1, 0, 0, 0, 0, 0, 0, 0, 0⟩ = 4 by decide, show QL.addL [1, 2] [⟨5, 0, 0, 0, 0, 0, 0, 0, 0, 0⟩] ⟨5, 1, 0, 0, 0, 0, 0, 0, 0, 0⟩ = [⟨5, 0, 0, 0, 0, 0, 0, 0, 0, 0⟩] by decide] at this
    exact this)
  have L1 := Lib.hid (fun p W (h : QuIn w W p [1, 2] [⟨5, 0, 0, 0, 0, 0, 0, 0, 0, 0⟩]) => by
    have := len_i p [1, 2] [⟨5, 0, 0, 0, 0, 0, 0, 0, 0, 0⟩] 0 w W h
    rw [show QL.lenQ [1, 2] [⟨5, 0, 0, 0, 0, 0, 0, 0, 0, 0⟩] 0 = 1 by decide] at this
    exact this)
  have R1 := Lib.hid (fun p W (h : QuIn w W p [1, 2] [⟨5, 0, 0, 0, 0, 0, 0, 0, 0, 0⟩]) => by
    have := room_i p [1, 2] [⟨5, 0, 0, 0, 0, 0, 0, 0, 0, 0⟩] 1 w W h
    rw [show QL.roomQ [1, 2] [⟨5, 0, 0, 0, 0, 0, 0, 0, 0, 0⟩] 1 = 2 by decide] at this
    exact this)
  clear hN
  simp only [wtV, wtA] at A1 A2 A3
  go_enter Try.func8, Try.ntmps8
  go_wp2_with fail
  refine HN.out.mono ?_
  rintro e w1 (⟨h0, rfl, _⟩ | ⟨_, p, rfl, h1⟩)
  · exact absurd h0 (by decide)
  have hA1 := Lib.hid (A1.out p w1 h1)
  clear h1 HN A1
  go_wp2_with fail
  refine hA1.out.mono ?_
  rintro e w2 ⟨rfl, h2⟩
  have hA2 := Lib.hid (A2.out p w2 h2)
  clear h2 hA1 A2
  go_wp2_with fail
  refine hA2.out.mono ?_
  rintro e w3 ⟨rfl, h3⟩
  have hA3 := Lib.hid (A3.out p w3 h3)
  clear h3 hA2 A3
  go_wp2_with fail
  refine hA3.out.mono ?_
  rintro e w4 ⟨rfl, h4⟩
  have hL := Lib.hid (L1.out p w4 h4)
  have hR := Lib.hid (R1.out p w4 h4)
  have H4 := Lib.hid h4
  clear h4 hA3 L1 R1
  go_wp2_with (first | (go_at_call 19; (with_reducible refine hL.out.mono ?_); rintro e w' ⟨rfl, rfl⟩) | (go_at_call 16; (with_reducible refine hR.out.mono ?_); rintro e w5 ⟨rfl, hb5⟩))
  go_ret
  exact ⟨by first | rfl | (simp; done), below_step H4.out.b hb5⟩
/-- The same, with what it leaves of the blocks that were there. -/
theorem add_f (p : Nat) (R : List Int) (L : List Wt) (x : Wt) (w0 w : World) (h : QuIn w0 w p R L) :
    Calls Try.prog 25 #[.pointer (some ⟨p, 0, none⟩), wtV x] w fun e w' => e = .returned (.int .i64 (QL.addE R L x)) ∧ QuIn w0 w' p R (QL.addL R L x) ∧ Foot (fun i => w0.heap.size ≤ i) w w' := by
  obtain ⟨F, h1, h2⟩ := h.ex
  refine (add_q p F R L x w h1).mono ?_
  rintro e w' ⟨rfl, F', h3, h4, h5⟩
  exact ⟨rfl, QuIn.foot h.b h2 h3 h4 h5, h4.mono h2⟩
theorem QuIn.footed {w0 w w' : World} {p : Nat} {R : List Int} {L : List Wt} (h : QuIn w0 w p R L) (hf : Below w.heap.size w w') : Foot (fun i => w0.heap.size ≤ i) w w' := Foot.of_below hf
end Go.Proofs.Ytdeniikaddlifaa
