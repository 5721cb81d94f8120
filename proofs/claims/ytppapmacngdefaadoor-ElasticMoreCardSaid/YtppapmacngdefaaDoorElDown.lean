/- downwards of package elastic: from most to least, for whatever is done with each. -/
import Derived.RangeFuncNested
import Derived.RangeFuncBound
import Derived.RangeFuncCalls
import Derived.RangeFuncLeaves
import Derived.RangeFuncBox
import Derived.Shelf.Abstract
import Derived.Shelf.RegionOpen
import Derived.WalkKit
import Derived.OwnWalkIn
import Derived.TacticsInMore
import Derived.LoopNIn
import Derived.LoopIn
import Derived.Test.YtppapmacngdefaaDoorElAsk
set_option linter.unusedVariables false
namespace Go.Proofs.YtppapmacngdefaaDoor
open Go.RowKit Go.Shelf
attribute [local go_sem] Oper.semAt_some
/-- A number from least to most. -/
abbrev Yd (lo hi : Nat) : Type := { k : Nat // lo ≤ k ∧ k ≤ hi }
def ydL {lo hi : Nat} (l : List (Yd lo hi)) : List Nat := l.map (·.1)
theorem ydL_snoc {lo hi : Nat} (l : List (Yd lo hi)) (k : Yd lo hi) : ydL (l ++ [k]) = ydL l ++ [k.1] := by simp [ydL]
theorem ydL_len {lo hi : Nat} (l : List (Yd lo hi)) : (ydL l).length = l.length := by simp [ydL]
/-- All of them, the most first. -/
def downs (lo hi : Nat) : List Nat := (List.range (hi + 1 - lo)).map (fun i => hi - i)
theorem downs_len (lo hi : Nat) : (downs lo hi).length = hi + 1 - lo := by simp [downs]
theorem downs_at {lo hi k : Nat} (h1 : lo ≤ k) (h2 : k ≤ hi) : (downs lo hi)[hi - k]? = some k := by
  unfold downs
  rw [List.getElem?_map, List.getElem?_range (by omega)]
  simp; omega
theorem downs_mem {lo hi k : Nat} : k ∈ downs lo hi ↔ lo ≤ k ∧ k ≤ hi := by
  unfold downs
  rw [List.mem_map]
  constructor
  · rintro ⟨i, hi1, rfl⟩
    rw [List.mem_range] at hi1
    omega
  · rintro ⟨h1, h2⟩
    exact ⟨hi - k, by rw [List.mem_range]; omega, by omega⟩
/-- What came ahead of one is more. -/
theorem downs_ahead {lo hi k : Nat} {p : List Nat} (h : p ++ [k] <+: downs lo hi) : ∀ m, k < m → m ≤ hi → m ∈ p := by
  intro m h1 h2
  have hl : p.length < hi + 1 - lo := by
    have := h.length_le
    rw [downs_len, List.length_append] at this
    simp at this; omega
  have hpk : (downs lo hi)[p.length]? = some k := by
    obtain ⟨t, ht⟩ := h
    rw [← ht]; simp
  have hk : hi - p.length = k := by
    unfold downs at hpk
    rw [List.getElem?_map, List.getElem?_range hl] at hpk
    simpa using hpk
  have hm : (downs lo hi)[hi - m]? = some m := downs_at (by omega) h2
  have hlt : hi - m < p.length := by omega
  obtain ⟨t, ht⟩ := h
  rw [← ht, List.append_assoc, List.getElem?_append_left hlt] at hm
  exact List.mem_of_getElem? hm
def intN : Value → Nat
  | .int _ n => n.toNat
  | _ => 0
/-- A block stays. -/
def Stays1 (b : Nat) (A B : World) : Prop := B.heap[b]? = A.heap[b]?
set_option maxRecDepth 100000 in
set_option maxHeartbeats 2000000 in
theorem downs_in (n : Nat) (hn : 1 ≤ n) (l Bn lo hi : Nat) (hlo : 1 ≤ lo) (hlh : lo ≤ hi) (hhi : hi ≤ 1000) (J Jx : List (Yd lo hi) → World → Prop)
    (hY : ∀ pre (y : Yd lo hi) W, J pre W → pre.length < hi + 1 - lo → YieldAt Fence.wide (n - 1) Tryd.prog l #[.int .i64 (y.1 : Nat)] W fun e W' =>
      (e = .returned (.bool true) ∧ J (pre ++ [y]) W' ∧ Stays1 (Bn + 1) W W') ∨ (e = .returned (.bool false) ∧ Jx (pre ++ [y]) W'))
    (W : World) (c0 : W.cell? ⟨Bn, 0, none⟩ = some (.int .i64 (hi : Nat))) (c1 : W.cell? ⟨Bn + 1, 0, none⟩ = some (.int .i64 (lo : Nat))) (h0 : J [] W) :
    CallsIn Fence.wide n Tryd.prog 39 #[.func (.yield l) #[] #[], .pointer (some ⟨Bn, 0, none⟩), .pointer (some ⟨Bn + 1, 0, none⟩)] W fun e W' => (∃ v, e = .returned v) ∧
      ((∃ ys, ydL ys = downs lo hi ∧ J ys W') ∨ (∃ pre, ydL pre <+: downs lo hi ∧ Jx pre W')) := by
  have HB0 : Hid (Stays1 (Bn + 1) W W) := Lib.hid rfl
  have HC1 := Lib.hid c1
  have HJ0 := Lib.hid h0
  have HL0 := Lib.hid (show ydL ([] : List (Yd lo hi)) = (downs lo hi).take (hi - hi) by simp [ydL])
  clear h0
  refine callsIn_of_wp Tryd.func39 rfl trivial ?_ rfl
  simp only [Tryd.ntmps39, List.size_toArray, List.length_cons, List.length_nil, Nat.reduceAdd, Nat.reduceSub, Array.replicate_succ, Array.replicate_zero, List.push_toArray, List.append_toArray, List.nil_append, List.cons_append]
  gi_wp2
  gi_loopw [4] (fun p wr => ∃ (k : Nat) (pre : List (Yd lo hi)), p = .int .i64 (k : Nat) ∧ lo ≤ k + 1 ∧ k ≤ hi ∧ Hid (ydL pre = (downs lo hi).take (hi - k)) ∧ Hid (Stays1 (Bn + 1) W wr) ∧ Hid (J pre wr)) (fun p _ => intN p)
  case atStart =>
    exact ⟨hi, [], rfl, by omega, Nat.le_refl _, HL0, HB0, HJ0⟩
  case round =>
    clear HB0 HJ0 HL0 c0 c1
    obtain ⟨k, pre, rfl, hk1, hk2, hL, hB, hJs⟩ := hrel
    have c1 := (World.cell?_of_block (a := ⟨Bn + 1, 0, none⟩) hB.out).trans HC1.out
    by_cases hk : lo ≤ k
    · have t1 : decide (lo ≤ k) = true := decide_eq_true hk
      have hlen : pre.length < hi + 1 - lo := by rw [← ydL_len, hL.out, List.length_take, downs_len]; omega
      obtain ⟨y, hyk⟩ : ∃ y : Yd lo hi, y.1 = k := ⟨⟨k, hk, hk2⟩, rfl⟩
      obtain ⟨fn, tmps, assign, body, hy, hR⟩ := hY pre y wr hJs.out hlen
      rw [hyk] at hy
      have hsub : (k : Int) - 1 = ((k - 1 : Nat) : Int) := by omega
      have HS := Lib.hid hsub
      have HN := Lib.hid (show ydL (pre ++ [y]) = (downs lo hi).take (hi - (k - 1)) by
        rw [ydL_snoc, hL.out, hyk, show hi - (k - 1) = (hi - k) + 1 by omega, List.take_add_one, downs_at hk hk2]; rfl)
      have HK := Lib.hid (And.intro hk (And.intro hk1 hk2))
      clear hlen hsub hk hk1 hk2 hyk
      gi_wp2
      refine hR.mono ?_
      rintro e W3 (⟨rfl, hJ3, hk3⟩ | ⟨rfl, hJx3⟩)
      · have HJ3 := Lib.hid hJ3
        have HB3 := Lib.hid (show Stays1 (Bn + 1) W W3 from Eq.trans hk3 hB.out)
        clear hJ3 hk3
        gi_wp2
        rw [HS.out, show wrap64 ((k - 1 : Nat) : Int) = ((k - 1 : Nat) : Int) from IntWalk.wrap64_in _ (by have := HK.out; omega)]
        refine ⟨⟨k - 1, pre ++ [y], rfl, by have := HK.out; omega, by have := HK.out; omega, HN, HB3, HJ3⟩, ?_⟩
        have := HK.out
        simp only [intN, Int.toNat_natCast]
        omega
      · have HJ3 := Lib.hid hJx3
        clear hJx3
        gi_wp2
        refine bodyPost_ret (results_none rfl _ _ _) rfl ?_
        exact ⟨⟨_, rfl⟩, .inr ⟨_, by rw [HN.out]; exact List.take_prefix _ _, HJ3.out⟩⟩
    · have t1 : decide (lo ≤ k) = false := decide_eq_false hk
      have HE := Lib.hid (show ydL pre = downs lo hi by rw [hL.out, List.take_of_length_le (by rw [downs_len]; omega)])
      clear hk hk1 hk2
      gi_wp2
      go_end0
      exact ⟨⟨_, rfl⟩, .inl ⟨pre, HE.out, hJs.out⟩⟩
set_option maxHeartbeats 2000000 in
theorem downw_any (hi lo : Int) (w : World) : Calls Tryd.prog 28 #[.int .i64 hi, .int .i64 lo] w fun e w' =>
    e = .returned (.func (.func 39) #[] #[.pointer (some ⟨w.heap.size, 0, none⟩), .pointer (some ⟨w.heap.size + 1, 0, none⟩)]) ∧
      w'.heap.size = w.heap.size + 2 ∧ w'.cell? ⟨w.heap.size, 0, none⟩ = some (.int .i64 hi) ∧ w'.cell? ⟨w.heap.size + 1, 0, none⟩ = some (.int .i64 lo) ∧ Below w.heap.size w w' := by
  go_enter Tryd.func28, Tryd.ntmps28
  go_wp2
  go_ret
  have e0 : ∀ (W : World) (o : Obj), (W.alloc o).heap.size = W.heap.size + 1 := fun W o => by simp
  have b0 := heap_alloc_new w (.cells #[.int .i64 hi] 3)
  have b1 := heap_alloc_new (w.alloc (.cells #[.int .i64 hi] 3)) (.cells #[.int .i64 lo] 3)
  rw [e0] at b1
  have f0 := (Below.heap_alloc (w.alloc (.cells #[.int .i64 hi] 3)) (.cells #[.int .i64 lo] 3) w.heap.size (by rw [e0]; omega)).trans b0
  exact ⟨rfl, by rw [e0, e0], cell_blk (i := 0) f0 rfl, cell_blk (i := 0) b1 rfl, ((Below.refl w.heap.size w).alloc (Nat.le_refl _) _).alloc (by simp) _⟩
end Go.Proofs.YtppapmacngdefaaDoor
