/- Queues: New, All, Sorted. -/
import Derived.Laws.OwnMore
import Derived.OwnWalk
import Derived.Test.YtdeniikaddlifaaQuAdd
import Derived.Test.YtdeniikaddlifaaQuTake
import Derived.Test.YtdeniikaddlifaaOrdSorts
set_option linter.unusedVariables false
namespace Go.Proofs.Ytdeniikaddlifaa
open Go.RowKit
def intC (x : Int) : List Value := [.int .i64 x]
theorem intC_len (x : Int) : (intC x).length = 1 := rfl
theorem intC_one (x : Int) : ∀ v ∈ intC x, v.oneCell' = true := by simp [intC, Value.oneCell']
abbrev Nums (w : World) (B : Nat) (A : Option Addr) (l : List Int) : Prop := Els intC 1 w B A l
theorem info_row : (Try.prog.info? 63).map (fun i => (i.zero, i.size, i.bytes)) = some (some (.agg #[.int .i64 0, .slice none 0 0]), 2, 32) := by kernel_rfl
theorem made_row {n j : Nat} (h : j < n) : (madeCells (Value.agg #[.int .i64 0, .slice none 0 0]).cells (n * 2))[j * 2]? = some (.int .i64 0) ∧ (madeCells (Value.agg #[.int .i64 0, .slice none 0 0]).cells (n * 2))[j * 2 + 1]? = some (.slice none 0 0) := by
  have hz : (Value.agg #[.int .i64 0, .slice none 0 0]).cells = #[.int .i64 0, .slice none 0 0] := by simp [Value.cells]
  rw [hz]
  constructor
  · rw [Array.getElem?_eq_getElem (by rw [size_madeCells]; omega)]
    simp [madeCells, Nat.mul_mod_left]
  · rw [Array.getElem?_eq_getElem (by rw [size_madeCells]; omega)]
    simp [madeCells, Nat.mul_add_mod_self_right]
/-- Rows, of which the first k have got their rooms. -/
structure Rowed (w : World) (g n k : Nat) (R : List Int) : Prop where
  ex : ∃ cur, w.heap[g]? = some (.cells cur 63 (0, 0)) ∧ (∀ j, j < n → (∃ r, cur[j * 2]? = some (.int .i64 r)) ∧ cur[j * 2 + 1]? = some (.slice none 0 0)) ∧ ∀ j r, j < k → R[j]? = some r → cur[j * 2]? = some (.int .i64 r) ∧ 0 ≤ r ∧ r ≤ 16
theorem Rowed.next {w : World} {g n k : Nat} {R : List Int} {x : Int} (h : Rowed w g n k R) (hk : k < n) (hx : R[k]? = some x) (h0 : 0 ≤ x) (h1 : x ≤ 16) : Rowed (w.setCell ⟨g, k * 2, none⟩ (.int .i64 x)) g n (k + 1) R := by
  obtain ⟨cur, h2, h3, h4⟩ := h.ex
  have hs : k * 2 < cur.size := by obtain ⟨⟨r, e⟩, _⟩ := h3 k hk; exact (Array.getElem?_eq_some_iff.1 e).1
  refine ⟨_, blk_put _ h2, fun j hj => ?_, fun j r hj hr => ?_⟩
  · refine ⟨?_, by rw [Array.getElem?_setIfInBounds_ne (by omega)]; exact (h3 j hj).2⟩
    by_cases e : k = j
    · subst e; exact ⟨x, Array.getElem?_setIfInBounds_self_of_lt hs⟩
    · rw [Array.getElem?_setIfInBounds_ne (by omega)]; exact (h3 j hj).1
  · by_cases e : k = j
    · subst e
      rw [hx] at hr; injection hr with hr; subst hr
      exact ⟨Array.getElem?_setIfInBounds_self_of_lt hs, h0, h1⟩
    · rw [Array.getElem?_setIfInBounds_ne (by omega)]; exact h4 j r (by omega) hr
/-- What New tells. -/
def NewQu (R : List Int) (w : World) (e : Ending) (w' : World) : Prop :=
  (QL.right R = false ∧ e = .returned (.tuple #[.pointer none, .int .i64 1])) ∨ (QL.right R = true ∧ ∃ p F, e = .returned (.tuple #[.pointer (some ⟨p, 0, none⟩), .int .i64 0]) ∧ QuObj w' p F R [] ∧ ∀ i, F i → w.heap.size ≤ i)
set_option maxRecDepth 100000 in
set_option maxHeartbeats 4000000 in
theorem new_q (A : Option Addr) (c : Nat) (R : List Int) (w : World) (h : Nums w w.heap.size A R) (hc : R.length ≤ 1000000) :
    Calls Try.prog 9 #[.slice A R.length c] w fun e w' => NewQu R w e w' ∧ Below w.heap.size w w' := by
  obtain ⟨i0, hi, hz0, hz1, hz2⟩ := info_parts info_row
  obtain ⟨n, hn⟩ : ∃ n, n = R.length := ⟨_, rfl⟩
  have H := Lib.hid (And.intro h hn)
  rw [← hn] at hc ⊢
  clear h hn
  by_cases h1 : n < 1
  · have t1 : decide (n < 1) = true := decide_eq_true h1
    obtain rfl : n = 0 := by omega
    have HE : Hid (QL.right R = false) := Lib.hid (by unfold QL.right; rw [← H.out.2]; simp)
    go_enter Try.func9, Try.ntmps9
    go_wp2
    refine bodyPost_ret (v := .tuple #[.pointer none, .int .i64 1]) (by simp [results, Try.results9, go_sem]) rfl ?_
    exact ⟨.inl ⟨HE.out, rfl⟩, Below.refl _ _⟩
  by_cases h2 : 8 < n
  · have t2 : decide ((8 : Int) < (n : Int)) = true := decide_eq_true (by omega)
    have t1 : decide ((n : Int) < 1) = false := decide_eq_false (by omega)
    have HE : Hid (QL.right R = false) := Lib.hid (by unfold QL.right; rw [← H.out.2, decide_eq_false (p := n ≤ 8) (by omega)]; simp)
    go_enter Try.func9, Try.ntmps9
    go_wp2
    refine bodyPost_ret (v := .tuple #[.pointer none, .int .i64 1]) (by simp [results, Try.results9, go_sem]) rfl ?_
    exact ⟨.inl ⟨HE.out, rfl⟩, Below.refl _ _⟩
  have t2 : decide ((8 : Int) < (n : Int)) = false := decide_eq_false (by omega)
  have t1 : decide ((n : Int) < 1) = false := decide_eq_false (by omega)
  go_enter Try.func9, Try.ntmps9
  go_wp2_with (at_make; refine wpList_make_full _ rfl _ _ 61 rfl w.heap.size 63 i0 (.agg #[.int .i64 0, .slice none 0 0]) 2 Try.underlying61 hi hz0 hz1 .i64 .i64 (n : Int) (n : Int) n rfl rfl rfl rfl (by rw [hz2]; omega) (by unfold maxLen; omega) (Nat.le_refl _) ?_; intro w1 hown1 hg1)
  have HB1 : Hid (Below w.heap.size w w1) := Lib.hid ((Below.refl _ _).grown hg1 (Nat.le_refl _) (by simp))
  have HR1 : Hid (Rowed w1 w.heap.size n 0 R) := Lib.hid (by
    rcases hown1.2 with ⟨e, _⟩ | ⟨g, cap, cur, e, _, hg, _, _, _, ht⟩
    · cases e
    · injection e with e0 _ e3
      injection e0 with e0
      injection e0 with e0
      subst e0 e3
      refine ⟨cur, hg, fun j hj => ?_, fun j r hj => by omega⟩
      have hm := made_row hj
      have hget : ∀ k, k < n * 2 → cur[k]? = (madeCells (Value.agg #[.int .i64 0, .slice none 0 0]).cells (n * 2))[k]? := fun k hk => by
        have := congrArg (fun x : List Value => x[k]?) ht
        rw [List.getElem?_take_of_lt hk, Array.getElem?_toList] at this
        rw [this, Array.getElem?_toList]
      exact ⟨⟨0, by rw [hget _ (by omega)]; exact hm.1⟩, by rw [hget _ (by omega)]; exact hm.2⟩)
  clear hown1 hg1
  go_loopw [20] (fun vi wr => ∃ k : Nat, vi = .int .i64 k ∧ k ≤ n ∧ Hid (Below w.heap.size w wr) ∧ Hid (Rowed wr w.heap.size n k R)) (fun vi _ => n - (intOf vi).toNat)
  case atStart => exact ⟨0, rfl, by omega, HB1, HR1⟩
  case round =>
    clear HB1 HR1
    obtain ⟨k, rfl, hkn, hB, hR⟩ := hrel
    by_cases hlt : k < n
    · obtain ⟨x, hx⟩ := get_lt (l := R) (k := k) (by rw [← H.out.2]; exact hlt)
      obtain ⟨b, off, rfl, hb, hcc⟩ := H.out.1.at_ hx
      have t3 : decide (k < n) = true := decide_eq_true hlt
      have a0 : wr.cell? ⟨b, off + k, none⟩ = some (.int .i64 x) := by
        have := (hcc k x hx).keep hb hB.out 0 _ rfl
        rwa [Nat.mul_one] at this
      have HX := Lib.hid hx
      clear hx hcc hb
      by_cases h0 : x < 0
      · have t4 : decide (x < 0) = true := decide_eq_true h0
        have HE : Hid (QL.right R = false) := Lib.hid (by
          rw [← Bool.not_eq_true, QL.right_iff]; intro h; have := (h.room k x HX.out).1; omega)
        go_wp2
        refine bodyPost_ret (v := .tuple #[.pointer none, .int .i64 1]) (by simp [results, Try.results9, go_sem]) rfl ?_
        exact ⟨.inl ⟨HE.out, rfl⟩, hB.out⟩
      have t4 : decide (x < 0) = false := decide_eq_false h0
      by_cases h16 : 16 < x
      · have t5 : decide (16 < x) = true := decide_eq_true h16
        have HE : Hid (QL.right R = false) := Lib.hid (by
          rw [← Bool.not_eq_true, QL.right_iff]; intro h; have := (h.room k x HX.out).2; omega)
        go_wp2
        refine bodyPost_ret (v := .tuple #[.pointer none, .int .i64 1]) (by simp [results, Try.results9, go_sem]) rfl ?_
        exact ⟨.inl ⟨HE.out, rfl⟩, hB.out⟩
      have t5 : decide (16 < x) = false := decide_eq_false h16
      obtain ⟨cur, e1, e2, _⟩ := hR.out.ex
      obtain ⟨⟨r0, e3⟩, _⟩ := e2 k hlt
      have c1 : wr.cell? ⟨w.heap.size, k * 2, none⟩ = some (.int .i64 r0) := cell_blk e1 e3
      have f1 : wr.frozen? ⟨w.heap.size, k * 2, none⟩ = false := frozen_blk e1
      have HN := Lib.hid (hR.out.next hlt HX.out (by omega) (by omega))
      have HB2 := Lib.hid (hB.out.setCell (p := ⟨w.heap.size, k * 2, none⟩) (Nat.le_refl _) (.int .i64 x))
      clear e1 e2 e3 hR hB h0 h16
      go_wp2
      go_roundw
      case rel => exact ⟨k + 1, by go_num, by omega, HB2, HN⟩
      case measure => simp [intOf]; omega
    · obtain rfl : k = n := by omega
      have t3 : decide (k < k) = false := decide_eq_false hlt
      have HE : Hid (QL.right R = true) := Lib.hid (by
        rw [QL.right_iff]
        obtain ⟨cur, _, _, e4⟩ := hR.out.ex
        have := H.out.2
        exact ⟨by omega, by omega, fun j r hr => by
          have hj := (List.getElem?_eq_some_iff.1 hr).1
          exact (e4 j r (by omega) hr).2⟩)
      have HP : Hid (QuObj (wr.alloc (.cells #[.slice (some ⟨w.heap.size, 0, none⟩) k k] 65)) wr.heap.size (QuB R wr.heap.size w.heap.size fun _ => .slice none 0 0) R []) := Lib.hid (by
        obtain ⟨cur, e1, e2, e4⟩ := hR.out.ex
        have hl := blk_lt e1
        have hk := H.out.2
        refine ⟨w.heap.size, k, fun _ => .slice none 0 0, ⟨QL.Inv.nil (QL.right_iff.1 HE.out), by rw [← hk]; exact heap_alloc_new wr _, ⟨cur, (Below.heap_alloc wr _ _ hl).trans e1, fun j hj => ?_⟩, fun j hj => World.ownsRow_nil _ _ _ _, by omega, fun j b _ hb => by simp [Value.ownBlock] at hb, fun i j b _ _ _ hb => by simp [Value.ownBlock] at hb⟩, fun i => Iff.rfl⟩
        have hr := ((QL.right_iff.1 HE.out).of R j hj).2.2
        exact ⟨(e4 j _ (by omega) hr).1, (e2 j (by omega)).2⟩)
      have HB2 := Lib.hid (hB.out.alloc hB.out.size (.cells #[.slice (some ⟨w.heap.size, 0, none⟩) k k] 65))
      have hsz := hB.out.size
      clear hR hB
      go_wp2
      refine bodyPost_ret (v := .tuple #[.pointer (some ⟨wr.heap.size, 0, none⟩), .int .i64 0]) (by simp [results, Try.results9, go_sem]) rfl ?_
      refine ⟨.inr ⟨HE.out, _, _, rfl, HP.out, ?_⟩, HB2.out⟩
      rintro i (rfl | rfl | ⟨k, _, e⟩)
      · exact hsz
      · exact Nat.le_refl _
      · simp [Value.ownBlock] at e
set_option maxRecDepth 100000 in
set_option maxHeartbeats 4000000 in
theorem all_q (p : Nat) (F : Nat → Prop) (R : List Int) (L : List Wt) (w : World) (h : QuObj w p F R L) :
    Calls Try.prog 14 #[.pointer (some ⟨p, 0, none⟩)] w fun e w' => ∃ A c, e = .returned (.slice A (QL.allL R.length L).length c) ∧ w'.ownsRow w.heap.size 39 10 (.slice A (QL.allL R.length L).length c) (QL.allL R.length L).length ((QL.allL R.length L).flatMap wtC) ∧ Below w.heap.size w w' := by
  obtain ⟨g, cc, V, hQ, _⟩ := h.ex
  obtain ⟨i0, hi, hz0, hz1, hz2⟩ := info_parts info_wt
  have c0 := hQ.head
  have hr := hQ.inv.r.hi
  have hall : ∀ k, (QL.allL k L).length ≤ k * 16 := fun k => by
    induction k with
    | zero => simp [QL.allL]
    | succ k ih => rw [QL.allL_next, List.length_append]; have := hQ.inv.room k; omega
  obtain ⟨n, hn⟩ : ∃ n, n = R.length := ⟨_, rfl⟩
  have H := Lib.hid (And.intro hQ (And.intro hn hall))
  rw [← hn] at c0 hr ⊢
  have HB0 := Lib.hid (And.intro (Below.refl w.heap.size w) (show w.ownsRow w.heap.size 39 10 (.slice none 0 0) 0 ((QL.allL 0 L).flatMap wtC) from World.ownsRow_nil _ _ _ _))
  clear h hQ hn hall
  go_enter Try.func14, Try.ntmps14
  go_wp2
  go_loopw [3, 11] (fun v vi wr => ∃ (k u : Nat) (A : Option Addr) (cp : Nat), vi = .int .i64 k ∧ v = .slice A u cp ∧ k ≤ n ∧ u = (QL.allL k L).length ∧ Hid (Below w.heap.size w wr ∧ wr.ownsRow w.heap.size 39 10 (.slice A u cp) u ((QL.allL k L).flatMap wtC))) (fun _ vi _ => n - (intOf vi).toNat)
  case atStart => exact ⟨0, 0, none, 0, rfl, rfl, by omega, rfl, HB0⟩
  case round =>
    clear HB0
    obtain ⟨k, u, A, cp, rfl, rfl, hkn, hu, hB⟩ := hrel
    by_cases hlt : k < n
    · have t1 : decide (k < n) = true := decide_eq_true hlt
      have hkR : k < R.length := by have := H.out.2.1; omega
      have hq := H.out.1.keep hB.out.1
      obtain ⟨c1, c2, A2, m, hV, h1, h2, h3, h4⟩ := hq.at_ hkR
      rw [hV] at c2
      have hu16 := H.out.1.inv.room k
      have hall := H.out.2.2 k
      obtain ⟨ro, hro⟩ : ∃ ro, ro = QL.roomOf R k := ⟨_, rfl⟩
      obtain ⟨v, hv⟩ : ∃ v, v = (QL.rowL L k).length := ⟨_, rfl⟩
      rw [← hro] at c1
      rw [← hv] at c2 h1 hu16
      have HV := Lib.hid (And.intro hv (And.intro h3 (And.intro hu hB.out)))
      have hsz := hB.out.1.size
      have hn1 : Hid (u + v = (QL.allL (k + 1) L).length) := Lib.hid (by rw [QL.allL_next, List.length_append, ← hu, ← hv])
      have HO := Lib.hid (fun o => hB.out.2.alloc o)
      have HE := Lib.hid (fun o => h3.keep (B' := (wr.alloc o).heap.size) ((Below.refl wr.heap.size wr).alloc (Nat.le_refl _) o) (by simp))
      rw [← hu] at hall
      clear hro hv hu hV h3 h4 hq hB
      go_wp2_with (at_builtin; refine wpList_append_els (C := wtC) (k := 10) _ rfl _ _ 31 rfl w.heap.size 39 i0 _ 80 Try.underlying31 hi hz0 hz1 hz2 rfl (by decide) (.slice A u cp) u ((QL.allL k L).flatMap wtC) rfl (HO.out _) _ A2 m v (QL.rowL L k) rfl (HE.out _) HV.out.1 wtC_len wtC_one (by unfold maxLen; omega) (by omega) (by simp; omega) ?_; intro A5 c5 w5 own5 g5 k5)
      have HN : Hid (Below w.heap.size w w5 ∧ w5.ownsRow w.heap.size 39 10 (.slice A5 (u + v) c5) (u + v) ((QL.allL (k + 1) L).flatMap wtC)) := Lib.hid ⟨(HV.out.2.2.2.1.alloc hsz _).grown g5 (by simp; omega) (fun i e => (HV.out.2.2.2.2.lt i e).1), by rw [QL.allL_next, List.flatMap_append]; exact own5⟩
      clear own5 g5 k5 HO HE
      go_wp2
      go_roundw
      case rel => exact ⟨k + 1, u + v, A5, c5, by go_num, rfl, by omega, hn1.out, HN⟩
      case measure => simp [intOf]; omega
    · obtain rfl : k = n := by omega
      have t1 : decide (k < k) = false := decide_eq_false hlt
      have HU := Lib.hid hu
      clear hu
      go_wp2
      go_ret
      rw [← HU.out]
      exact ⟨A, cp, rfl, hB.out.2, hB.out.1⟩
end Go.Proofs.Ytdeniikaddlifaa
