/- Gangs: the records of which a thing is so, one by one. -/
import Derived.RangeFuncNested
import Derived.RangeFuncBound
import Derived.RangeFuncCalls
import Derived.RangeFuncLeaves
import Derived.RangeFuncBox
import Derived.Shelf.Abstract
import Derived.Shelf.RegionOpen
import Derived.WalkKit
import Derived.OwnWalkIn
import Derived.TacticsInMore
import Derived.LoopNIn
import Derived.LoopIn
import Derived.Maps.AppendAt
import Derived.Test.YtbomdannlcclkaaGaBase
set_option linter.unusedVariables false
namespace Go.Proofs.Ytbomdannlcclkaa
open Go.RowKit Go.Shelf
attribute [local go_sem] Oper.semAt_some
/-- Of each. -/
def anyR (_ : Rc) : Bool := true
/-- The records' slice. -/
def RsAt (w : World) (A : Option Addr) (g : Nat) (L : List Rc) : Prop := ∀ (k : Nat) x, L[k]? = some x → A = some ⟨g, 0, none⟩ ∧ g < w.heap.size ∧ RcAt w g (k * 16) x
theorem RsAt.keep {w w' : World} {A : Option Addr} {g B : Nat} {L : List Rc} (h : RsAt w A g L) (hb : Below B w w') (hg : g < B) : RsAt w' A g L := fun k x hx => by
  obtain ⟨h1, h2, h3⟩ := h k x hx
  exact ⟨h1, Nat.lt_of_lt_of_le h2 hb.size, h3.keep hg hb⟩
/-- Places of those of which a thing is so, ahead of a place. -/
def plc (P : Rc → Bool) (L : List Rc) (k : Nat) : List Nat := (List.range k).filter fun j => match L[j]? with | some x => P x | none => false
theorem plc_succ {P : Rc → Bool} {L : List Rc} {k : Nat} {x : Rc} (h : L[k]? = some x) : plc P L (k + 1) = if P x then plc P L k ++ [k] else plc P L k := by
  unfold plc
  rw [List.range_succ, List.filter_append]
  cases hp : P x <;> simp [h, hp]
theorem plc_mono {P : Rc → Bool} {L : List Rc} {k n : Nat} (h : k ≤ n) : plc P L k <+: plc P L n := by
  unfold plc
  obtain ⟨d, rfl⟩ := Nat.exists_eq_add_of_le h
  rw [List.range_add, List.filter_append]
  exact List.prefix_append _ _
theorem plc_len {P : Rc → Bool} {L : List Rc} (k : Nat) : (plc P L k).length ≤ k := by
  unfold plc
  exact Nat.le_trans (List.length_filter_le _ _) (by simp)
/-- The records themselves. -/
def rcp (P : Rc → Bool) (L : List Rc) (k : Nat) : List Rc := (L.take k).filter P
theorem rcp_succ {P : Rc → Bool} {L : List Rc} {k : Nat} {x : Rc} (h : L[k]? = some x) : rcp P L (k + 1) = if P x then rcp P L k ++ [x] else rcp P L k := by
  unfold rcp
  rw [List.take_add_one, h, List.filter_append]
  cases hp : P x <;> simp [hp]
theorem rcp_mono {P : Rc → Bool} {L : List Rc} {k n : Nat} (h : k ≤ n) : rcp P L k <+: rcp P L n := by
  unfold rcp
  obtain ⟨t, ht⟩ := List.take_prefix_take_left (l := L) h
  rw [← ht, List.filter_append]
  exact List.prefix_append _ _
theorem rcp_len {P : Rc → Bool} {L : List Rc} (k : Nat) : (rcp P L k).length ≤ k := by
  unfold rcp
  exact Nat.le_trans (List.length_filter_le _ _) (by rw [List.length_take]; omega)
theorem below_grown {w w' : World} (h : Below w.heap.size w w') : w.grownBy w' none := ⟨h.os, h.tape, h.output, h.size, fun k hk _ => h.block k hk⟩


set_option maxRecDepth 100000 in
set_option maxHeartbeats 4000000 in
theorem ask_find (n : Nat) (hn : 1 ≤ n) (l Bn n₀ S : Nat) (id : Int) (L : List Rc) (A : Option Addr) (g c : Nat) (hL : L.length ≤ 4096) (J Jx : List Nat → World → Prop) (w0 W : World)
    (hJ : AbidesFrom W.heap.size J)
    (hY : ∀ pre (y : Nat) W, J pre W → pre.length < L.length → YieldAt Fence.wide (n - 1) Try.prog l #[.pointer (some ⟨g, y * 16, none⟩)] W fun e W' =>
      (e = .returned (.bool true) ∧ J (pre ++ [y]) W' ∧ Below n₀ W W') ∨ (e = .returned (.bool false) ∧ Jx (pre ++ [y]) W'))
    (hW : n₀ ≤ W.heap.size) (hR : RsAt W A g L) (hg : g < n₀) (hBn : Bn + 2 < n₀) (hSn : S < n₀) (hS : W.cell? ⟨S, 0, none⟩ = some (.int .i64 id))
    (c0 : W.cell? ⟨Bn, 0, none⟩ = some (.slice A L.length c)) (c1 : W.cell? ⟨Bn + 1, 0, none⟩ = some (.func (.func 50) #[] #[.pointer (some ⟨S, 0, none⟩)])) (c2 : W.cell? ⟨Bn + 2, 0, none⟩ = some (.func (.func 52) #[] #[])) (h0 : J [] W) :
    CallsIn Fence.wide n Try.prog 54 #[.func (.yield l) #[] #[], .pointer (some ⟨Bn, 0, none⟩), .pointer (some ⟨Bn + 1, 0, none⟩), .pointer (some ⟨Bn + 2, 0, none⟩)] W fun e W' => (∃ v, e = .returned v) ∧
      ((∃ ys, ys = plc (fun x => decide (x.id = id)) L L.length ∧ J ys W') ∨ (∃ pre, pre <+: plc (fun x => decide (x.id = id)) L L.length ∧ Jx pre W')) := by
  obtain ⟨N, hN⟩ : ∃ N, N = L.length := ⟨_, rfl⟩
  rw [← hN] at c0 hL
  have HN := Lib.hid hN
  have HW := Lib.hid (And.intro hW (And.intro hR (And.intro c1 c2)))
  have HB0 := Lib.hid (Below.refl n₀ W)
  have HG0 := Lib.hid (fun (_ : Unit) => h0)
  have HC0 := Lib.hid c0
  clear hN hW hR
  refine callsIn_of_wp Try.func54 rfl trivial ?_ rfl
  simp only [Try.ntmps54, List.size_toArray, List.length_cons, List.length_nil, Nat.reduceAdd, Nat.reduceSub, Array.replicate_succ, Array.replicate_zero, List.push_toArray, List.append_toArray, List.nil_append, List.cons_append]
  gi_wp2
  gi_loopw [9] (fun p wr => ∃ (k : Nat), p = .int .i64 k ∧ k ≤ N ∧ Hid (Below n₀ W wr) ∧ Hid (W.heap.size ≤ wr.heap.size) ∧ Hid (J (plc (fun x => decide (x.id = id)) L k) wr))
    (fun p _ => match p with | .int _ i => N - i.toNat | _ => 0)
  case atStart =>
    exact ⟨0, rfl, Nat.zero_le _, HB0, Lib.hid (Nat.le_refl _), Lib.hid (HG0.out ())⟩
  case round =>
    clear HB0 HG0 c0 c1 c2
    obtain ⟨k, rfl, hkN, hB, hZ, hJs⟩ := hrel
    have c0 := (hB.out.cell (p := ⟨Bn, 0, none⟩) (by show Bn < n₀; omega)).trans HC0.out
    have c1 := (hB.out.cell (p := ⟨Bn + 1, 0, none⟩) (by show Bn + 1 < n₀; omega)).trans HW.out.2.2.1
    have c2 := (hB.out.cell (p := ⟨Bn + 2, 0, none⟩) (by show Bn + 2 < n₀; omega)).trans HW.out.2.2.2
    by_cases hk : k < N
    · obtain ⟨x, hx⟩ : ∃ x, L[k]? = some x := ⟨_, List.getElem?_eq_getElem (by rw [← HN.out]; exact hk)⟩
      obtain ⟨hA, hgw, hr⟩ := HW.out.2.1 k x hx
      have t1 : decide (k < N) = true := decide_eq_true hk
      have hr1 : RcAt wr g (k * 16) x := hr.keep hg hB.out
      have hS1 := (hB.out.cell (p := ⟨S, 0, none⟩) (by show S < n₀; omega)).trans hS
      subst hA
      have HX := Lib.hid hx
      have HK := Lib.hid hk
      have HR := Lib.hid hr1
      have l0 : wr.heap.size ≤ wr.heap.size := Nat.le_refl _
      have hso : Calls Try.prog 50 #[.pointer (some ⟨g, k * 16, none⟩), .pointer (some ⟨S, 0, none⟩)] wr fun e w' => e = .returned (.bool ((fun x => decide (x.id = id)) x)) ∧ Below wr.heap.size wr w' := findcl_any S id g (k * 16) x wr hS1 hr1
      obtain ⟨q, hq⟩ : ∃ q, q = (fun x => decide (x.id = id)) x := ⟨_, rfl⟩
      rw [← hq] at hso
      have Hso := Lib.hid hso
      have HQ := Lib.hid hq
      clear hx hgw hr hr1 hso hq
      cases q
      · gi_wp2_with fail
        refine ⟨trivial, ?_⟩
        refine (callsIn_wide.2 Hso.out).mono ?_
        rintro e w1 ⟨rfl, hb1⟩
        have hn1 : n₀ ≤ wr.heap.size := Nat.le_trans HW.out.1 hZ.out
        have HB1 := Lib.hid (hB.out.trans (hb1.mono hn1))
        have HZ1 := Lib.hid (Nat.le_trans hZ.out hb1.size)
        have HJ1 := Lib.hid (hJ _ _ _ none hJs.out (below_grown hb1) (fun r e => by cases e))
        clear hb1 c0 c1 c2
        gi_wp2_with fail
        all_goals (
          refine ⟨fun _ h => (by cases h), ?_⟩
          gi_wp2
          refine ⟨⟨k + 1, by first | rfl | simp, by have := HK.out; omega, HB1, HZ1, Lib.hid (by rw [plc_succ HX.out, ← HQ.out]; exact HJ1.out)⟩, ?_⟩
          have := HK.out
          simp only [Int.toNat_natCast]
          omega)
      · gi_wp2_with fail
        refine ⟨trivial, ?_⟩
        refine (callsIn_wide.2 Hso.out).mono ?_
        rintro e w1 ⟨rfl, hb1⟩
        have hn1 : n₀ ≤ wr.heap.size := Nat.le_trans HW.out.1 hZ.out
        have HB1 := Lib.hid (hB.out.trans (hb1.mono hn1))
        have HZ1 := Lib.hid (Nat.le_trans hZ.out hb1.size)
        have HJ1 := Lib.hid (hJ _ _ _ none hJs.out (below_grown hb1) (fun r e => by cases e))
        have HR1 := Lib.hid (HR.out.keep (Nat.lt_of_lt_of_le hg hn1) hb1)
        have d2 := (hb1.cell (p := ⟨Bn + 2, 0, none⟩) (by show Bn + 2 < wr.heap.size; omega)).trans c2
        clear hb1 c0 c1 c2
        gi_wp2_with fail
        refine ⟨trivial, ?_⟩
        refine (callsIn_wide.2 (itself_any _ w1)).mono ?_
        rintro e w2 ⟨rfl, rfl⟩
        have HB2 := HB1
        have HZ2 := HZ1
        have HJ2 := HJ1
        have hlen : (plc (fun x => decide (x.id = id)) L k).length < L.length := Nat.lt_of_le_of_lt (plc_len k) (by rw [← HN.out]; exact HK.out)
        obtain ⟨fn, tmps, assign, body, hy, hRn⟩ := hY _ k w1 HJ2.out hlen
        try dsimp only at hy
        clear hlen
        gi_wp2
        refine hRn.mono ?_
        rintro e W3 (⟨rfl, hJ3, hk3⟩ | ⟨rfl, hJx3⟩)
        · have HB3 := Lib.hid (HB2.out.trans hk3)
          have HZ3 := Lib.hid (Nat.le_trans HZ2.out hk3.size)
          have HJ3 := Lib.hid hJ3
          clear hJ3 hk3 hRn
          gi_wp2
          refine ⟨⟨k + 1, by first | rfl | simp, by have := HK.out; omega, HB3, HZ3, Lib.hid (by rw [plc_succ HX.out, ← HQ.out]; exact HJ3.out)⟩, ?_⟩
          have := HK.out
          simp only [Int.toNat_natCast]
          omega
        · have HJx := Lib.hid hJx3
          clear hJx3 hRn
          gi_wp2
          refine bodyPost_ret (results_none rfl _ _ _) rfl ?_
          refine ⟨⟨_, rfl⟩, .inr ⟨_, ?_, HJx.out⟩⟩
          have e2 := plc_succ (P := (fun x => decide (x.id = id))) HX.out
          rw [← HQ.out] at e2
          rw [if_pos rfl] at e2
          rw [← e2, ← HN.out]
          exact plc_mono HK.out
    · have t1 : decide (k < N) = false := decide_eq_false hk
      have hkN2 : k = N := by omega
      have HE := Lib.hid hkN2
      clear hkN2 hk
      gi_wp2
      go_end0
      exact ⟨⟨_, rfl⟩, .inl ⟨_, by rw [← HN.out, ← HE.out], hJs.out⟩⟩

set_option maxRecDepth 100000 in
set_option maxHeartbeats 4000000 in
theorem ask_in (n : Nat) (hn : 1 ≤ n) (l Bn n₀ S : Nat) (s : Int) (L : List Rc) (A : Option Addr) (g c : Nat) (hL : L.length ≤ 4096) (J Jx : List Rc → World → Prop) (w0 W : World)
    (hJ : AbidesFrom W.heap.size J)
    (hY : ∀ pre (y : Rc) W, J pre W → pre.length < L.length → YieldAt Fence.wide (n - 1) Try.prog l #[rcV y] W fun e W' =>
      (e = .returned (.bool true) ∧ J (pre ++ [y]) W' ∧ Below n₀ W W') ∨ (e = .returned (.bool false) ∧ Jx (pre ++ [y]) W'))
    (hW : n₀ ≤ W.heap.size) (hR : RsAt W A g L) (hg : g < n₀) (hBn : Bn + 2 < n₀) (hSn : S < n₀) (hS : W.cell? ⟨S, 0, none⟩ = some (.int .i64 s))
    (c0 : W.cell? ⟨Bn, 0, none⟩ = some (.slice A L.length c)) (c1 : W.cell? ⟨Bn + 1, 0, none⟩ = some (.func (.func 37) #[] #[.pointer (some ⟨S, 0, none⟩)])) (c2 : W.cell? ⟨Bn + 2, 0, none⟩ = some (.func (.func 36) #[] #[])) (h0 : J [] W) :
    CallsIn Fence.wide n Try.prog 49 #[.func (.yield l) #[] #[], .pointer (some ⟨Bn, 0, none⟩), .pointer (some ⟨Bn + 1, 0, none⟩), .pointer (some ⟨Bn + 2, 0, none⟩)] W fun e W' => (∃ v, e = .returned v) ∧
      ((∃ ys, ys = rcp (fun x => decide (x.st = s)) L L.length ∧ J ys W') ∨ (∃ pre, pre <+: rcp (fun x => decide (x.st = s)) L L.length ∧ Jx pre W')) := by
  obtain ⟨N, hN⟩ : ∃ N, N = L.length := ⟨_, rfl⟩
  rw [← hN] at c0 hL
  have HN := Lib.hid hN
  have HW := Lib.hid (And.intro hW (And.intro hR (And.intro c1 c2)))
  have HB0 := Lib.hid (Below.refl n₀ W)
  have HG0 := Lib.hid (fun (_ : Unit) => h0)
  have HC0 := Lib.hid c0
  clear hN hW hR
  refine callsIn_of_wp Try.func49 rfl trivial ?_ rfl
  simp only [Try.ntmps49, List.size_toArray, List.length_cons, List.length_nil, Nat.reduceAdd, Nat.reduceSub, Array.replicate_succ, Array.replicate_zero, List.push_toArray, List.append_toArray, List.nil_append, List.cons_append]
  gi_wp2
  gi_loopw [9] (fun p wr => ∃ (k : Nat), p = .int .i64 k ∧ k ≤ N ∧ Hid (Below n₀ W wr) ∧ Hid (W.heap.size ≤ wr.heap.size) ∧ Hid (J (rcp (fun x => decide (x.st = s)) L k) wr))
    (fun p _ => match p with | .int _ i => N - i.toNat | _ => 0)
  case atStart =>
    exact ⟨0, rfl, Nat.zero_le _, HB0, Lib.hid (Nat.le_refl _), Lib.hid (HG0.out ())⟩
  case round =>
    clear HB0 HG0 c0 c1 c2
    obtain ⟨k, rfl, hkN, hB, hZ, hJs⟩ := hrel
    have c0 := (hB.out.cell (p := ⟨Bn, 0, none⟩) (by show Bn < n₀; omega)).trans HC0.out
    have c1 := (hB.out.cell (p := ⟨Bn + 1, 0, none⟩) (by show Bn + 1 < n₀; omega)).trans HW.out.2.2.1
    have c2 := (hB.out.cell (p := ⟨Bn + 2, 0, none⟩) (by show Bn + 2 < n₀; omega)).trans HW.out.2.2.2
    by_cases hk : k < N
    · obtain ⟨x, hx⟩ : ∃ x, L[k]? = some x := ⟨_, List.getElem?_eq_getElem (by rw [← HN.out]; exact hk)⟩
      obtain ⟨hA, hgw, hr⟩ := HW.out.2.1 k x hx
      have t1 : decide (k < N) = true := decide_eq_true hk
      have hr1 : RcAt wr g (k * 16) x := hr.keep hg hB.out
      have hS1 := (hB.out.cell (p := ⟨S, 0, none⟩) (by show S < n₀; omega)).trans hS
      subst hA
      have HX := Lib.hid hx
      have HK := Lib.hid hk
      have HR := Lib.hid hr1
      have l0 : wr.heap.size ≤ wr.heap.size := Nat.le_refl _
      have hso : Calls Try.prog 37 #[.pointer (some ⟨g, k * 16, none⟩), .pointer (some ⟨S, 0, none⟩)] wr fun e w' => e = .returned (.bool ((fun x => decide (x.st = s)) x)) ∧ Below wr.heap.size wr w' := incl_any S s g (k * 16) x wr hS1 hr1
      obtain ⟨q, hq⟩ : ∃ q, q = (fun x => decide (x.st = s)) x := ⟨_, rfl⟩
      rw [← hq] at hso
      have Hso := Lib.hid hso
      have HQ := Lib.hid hq
      clear hx hgw hr hr1 hso hq
      cases q
      · gi_wp2_with fail
        refine ⟨trivial, ?_⟩
        refine (callsIn_wide.2 Hso.out).mono ?_
        rintro e w1 ⟨rfl, hb1⟩
        have hn1 : n₀ ≤ wr.heap.size := Nat.le_trans HW.out.1 hZ.out
        have HB1 := Lib.hid (hB.out.trans (hb1.mono hn1))
        have HZ1 := Lib.hid (Nat.le_trans hZ.out hb1.size)
        have HJ1 := Lib.hid (hJ _ _ _ none hJs.out (below_grown hb1) (fun r e => by cases e))
        clear hb1 c0 c1 c2
        gi_wp2_with fail
        all_goals (
          refine ⟨fun _ h => (by cases h), ?_⟩
          gi_wp2
          refine ⟨⟨k + 1, by first | rfl | simp, by have := HK.out; omega, HB1, HZ1, Lib.hid (by rw [rcp_succ HX.out, ← HQ.out]; exact HJ1.out)⟩, ?_⟩
          have := HK.out
          simp only [Int.toNat_natCast]
          omega)
      · gi_wp2_with fail
        refine ⟨trivial, ?_⟩
        refine (callsIn_wide.2 Hso.out).mono ?_
        rintro e w1 ⟨rfl, hb1⟩
        have hn1 : n₀ ≤ wr.heap.size := Nat.le_trans HW.out.1 hZ.out
        have HB1 := Lib.hid (hB.out.trans (hb1.mono hn1))
        have HZ1 := Lib.hid (Nat.le_trans hZ.out hb1.size)
        have HJ1 := Lib.hid (hJ _ _ _ none hJs.out (below_grown hb1) (fun r e => by cases e))
        have HR1 := Lib.hid (HR.out.keep (Nat.lt_of_lt_of_le hg hn1) hb1)
        have d2 := (hb1.cell (p := ⟨Bn + 2, 0, none⟩) (by show Bn + 2 < wr.heap.size; omega)).trans c2
        clear hb1 c0 c1 c2
        gi_wp2_with fail
        refine ⟨trivial, ?_⟩
        refine (callsIn_wide.2 (copied_any g (k * 16) x w1 HR1.out)).mono ?_
        rintro e w2 ⟨rfl, hb2⟩
        have hn2 : n₀ ≤ w1.heap.size := Nat.le_trans HW.out.1 HZ1.out
        have HB2 := Lib.hid (HB1.out.trans (hb2.mono hn2))
        have HZ2 := Lib.hid (Nat.le_trans HZ1.out hb2.size)
        have HJ2 := Lib.hid (hJ _ _ _ none HJ1.out (below_grown hb2) (fun r e => by cases e))
        clear hb2
        have hlen : (rcp (fun x => decide (x.st = s)) L k).length < L.length := Nat.lt_of_le_of_lt (rcp_len k) (by rw [← HN.out]; exact HK.out)
        obtain ⟨fn, tmps, assign, body, hy, hRn⟩ := hY _ x w2 HJ2.out hlen
        try dsimp only at hy
        clear hlen
        gi_wp2
        refine hRn.mono ?_
        rintro e W3 (⟨rfl, hJ3, hk3⟩ | ⟨rfl, hJx3⟩)
        · have HB3 := Lib.hid (HB2.out.trans hk3)
          have HZ3 := Lib.hid (Nat.le_trans HZ2.out hk3.size)
          have HJ3 := Lib.hid hJ3
          clear hJ3 hk3 hRn
          gi_wp2
          refine ⟨⟨k + 1, by first | rfl | simp, by have := HK.out; omega, HB3, HZ3, Lib.hid (by rw [rcp_succ HX.out, ← HQ.out]; exact HJ3.out)⟩, ?_⟩
          have := HK.out
          simp only [Int.toNat_natCast]
          omega
        · have HJx := Lib.hid hJx3
          clear hJx3 hRn
          gi_wp2
          refine bodyPost_ret (results_none rfl _ _ _) rfl ?_
          refine ⟨⟨_, rfl⟩, .inr ⟨_, ?_, HJx.out⟩⟩
          have e2 := rcp_succ (P := (fun x => decide (x.st = s))) HX.out
          rw [← HQ.out] at e2
          rw [if_pos rfl] at e2
          rw [← e2, ← HN.out]
          exact rcp_mono HK.out
    · have t1 : decide (k < N) = false := decide_eq_false hk
      have hkN2 : k = N := by omega
      have HE := Lib.hid hkN2
      clear hkN2 hk
      gi_wp2
      go_end0
      exact ⟨⟨_, rfl⟩, .inl ⟨_, by rw [← HN.out, ← HE.out], hJs.out⟩⟩

set_option maxRecDepth 100000 in
set_option maxHeartbeats 4000000 in
theorem ask_all (n : Nat) (hn : 1 ≤ n) (l Bn n₀ S : Nat) (s : Int) (L : List Rc) (A : Option Addr) (g c : Nat) (hL : L.length ≤ 4096) (J Jx : List Rc → World → Prop) (w0 W : World)
    (hJ : AbidesFrom W.heap.size J)
    (hY : ∀ pre (y : Rc) W, J pre W → pre.length < L.length → YieldAt Fence.wide (n - 1) Try.prog l #[rcV y] W fun e W' =>
      (e = .returned (.bool true) ∧ J (pre ++ [y]) W' ∧ Below n₀ W W') ∨ (e = .returned (.bool false) ∧ Jx (pre ++ [y]) W'))
    (hW : n₀ ≤ W.heap.size) (hR : RsAt W A g L) (hg : g < n₀) (hBn : Bn + 2 < n₀) 
    (c0 : W.cell? ⟨Bn, 0, none⟩ = some (.slice A L.length c)) (c1 : W.cell? ⟨Bn + 1, 0, none⟩ = some (.func (.func 33) #[] #[])) (c2 : W.cell? ⟨Bn + 2, 0, none⟩ = some (.func (.func 36) #[] #[])) (h0 : J [] W) :
    CallsIn Fence.wide n Try.prog 49 #[.func (.yield l) #[] #[], .pointer (some ⟨Bn, 0, none⟩), .pointer (some ⟨Bn + 1, 0, none⟩), .pointer (some ⟨Bn + 2, 0, none⟩)] W fun e W' => (∃ v, e = .returned v) ∧
      ((∃ ys, ys = rcp anyR L L.length ∧ J ys W') ∨ (∃ pre, pre <+: rcp anyR L L.length ∧ Jx pre W')) := by
  obtain ⟨N, hN⟩ : ∃ N, N = L.length := ⟨_, rfl⟩
  rw [← hN] at c0 hL
  have HN := Lib.hid hN
  have HW := Lib.hid (And.intro hW (And.intro hR (And.intro c1 c2)))
  have HB0 := Lib.hid (Below.refl n₀ W)
  have HG0 := Lib.hid (fun (_ : Unit) => h0)
  have HC0 := Lib.hid c0
  clear hN hW hR
  refine callsIn_of_wp Try.func49 rfl trivial ?_ rfl
  simp only [Try.ntmps49, List.size_toArray, List.length_cons, List.length_nil, Nat.reduceAdd, Nat.reduceSub, Array.replicate_succ, Array.replicate_zero, List.push_toArray, List.append_toArray, List.nil_append, List.cons_append]
  gi_wp2
  gi_loopw [9] (fun p wr => ∃ (k : Nat), p = .int .i64 k ∧ k ≤ N ∧ Hid (Below n₀ W wr) ∧ Hid (W.heap.size ≤ wr.heap.size) ∧ Hid (J (rcp anyR L k) wr))
    (fun p _ => match p with | .int _ i => N - i.toNat | _ => 0)
  case atStart =>
    exact ⟨0, rfl, Nat.zero_le _, HB0, Lib.hid (Nat.le_refl _), Lib.hid (HG0.out ())⟩
  case round =>
    clear HB0 HG0 c0 c1 c2
    obtain ⟨k, rfl, hkN, hB, hZ, hJs⟩ := hrel
    have c0 := (hB.out.cell (p := ⟨Bn, 0, none⟩) (by show Bn < n₀; omega)).trans HC0.out
    have c1 := (hB.out.cell (p := ⟨Bn + 1, 0, none⟩) (by show Bn + 1 < n₀; omega)).trans HW.out.2.2.1
    have c2 := (hB.out.cell (p := ⟨Bn + 2, 0, none⟩) (by show Bn + 2 < n₀; omega)).trans HW.out.2.2.2
    by_cases hk : k < N
    · obtain ⟨x, hx⟩ : ∃ x, L[k]? = some x := ⟨_, List.getElem?_eq_getElem (by rw [← HN.out]; exact hk)⟩
      obtain ⟨hA, hgw, hr⟩ := HW.out.2.1 k x hx
      have t1 : decide (k < N) = true := decide_eq_true hk
      have hr1 : RcAt wr g (k * 16) x := hr.keep hg hB.out
      have hZ := hZ
      subst hA
      have HX := Lib.hid hx
      have HK := Lib.hid hk
      have HR := Lib.hid hr1
      have l0 : wr.heap.size ≤ wr.heap.size := Nat.le_refl _
      have hso : Calls Try.prog 33 #[.pointer (some ⟨g, k * 16, none⟩)] wr fun e w' => e = .returned (.bool (anyR x)) ∧ Below wr.heap.size wr w' := allcl_any _ wr
      obtain ⟨q, hq⟩ : ∃ q, q = anyR x := ⟨_, rfl⟩
      rw [← hq] at hso
      have Hso := Lib.hid hso
      have HQ := Lib.hid hq
      clear hx hgw hr hr1 hso hq
      cases q
      · gi_wp2_with fail
        refine ⟨trivial, ?_⟩
        refine (callsIn_wide.2 Hso.out).mono ?_
        rintro e w1 ⟨rfl, hb1⟩
        have hn1 : n₀ ≤ wr.heap.size := Nat.le_trans HW.out.1 hZ.out
        have HB1 := Lib.hid (hB.out.trans (hb1.mono hn1))
        have HZ1 := Lib.hid (Nat.le_trans hZ.out hb1.size)
        have HJ1 := Lib.hid (hJ _ _ _ none hJs.out (below_grown hb1) (fun r e => by cases e))
        clear hb1 c0 c1 c2
        gi_wp2_with fail
        all_goals (
          refine ⟨fun _ h => (by cases h), ?_⟩
          gi_wp2
          refine ⟨⟨k + 1, by first | rfl | simp, by have := HK.out; omega, HB1, HZ1, Lib.hid (by rw [rcp_succ HX.out, ← HQ.out]; exact HJ1.out)⟩, ?_⟩
          have := HK.out
          simp only [Int.toNat_natCast]
          omega)
      · gi_wp2_with fail
        refine ⟨trivial, ?_⟩
        refine (callsIn_wide.2 Hso.out).mono ?_
        rintro e w1 ⟨rfl, hb1⟩
        have hn1 : n₀ ≤ wr.heap.size := Nat.le_trans HW.out.1 hZ.out
        have HB1 := Lib.hid (hB.out.trans (hb1.mono hn1))
        have HZ1 := Lib.hid (Nat.le_trans hZ.out hb1.size)
        have HJ1 := Lib.hid (hJ _ _ _ none hJs.out (below_grown hb1) (fun r e => by cases e))
        have HR1 := Lib.hid (HR.out.keep (Nat.lt_of_lt_of_le hg hn1) hb1)
        have d2 := (hb1.cell (p := ⟨Bn + 2, 0, none⟩) (by show Bn + 2 < wr.heap.size; omega)).trans c2
        clear hb1 c0 c1 c2
        gi_wp2_with fail
        refine ⟨trivial, ?_⟩
        refine (callsIn_wide.2 (copied_any g (k * 16) x w1 HR1.out)).mono ?_
        rintro e w2 ⟨rfl, hb2⟩
        have hn2 : n₀ ≤ w1.heap.size := Nat.le_trans HW.out.1 HZ1.out
        have HB2 := Lib.hid (HB1.out.trans (hb2.mono hn2))
        have HZ2 := Lib.hid (Nat.le_trans HZ1.out hb2.size)
        have HJ2 := Lib.hid (hJ _ _ _ none HJ1.out (below_grown hb2) (fun r e => by cases e))
        clear hb2
        have hlen : (rcp anyR L k).length < L.length := Nat.lt_of_le_of_lt (rcp_len k) (by rw [← HN.out]; exact HK.out)
        obtain ⟨fn, tmps, assign, body, hy, hRn⟩ := hY _ x w2 HJ2.out hlen
        try dsimp only at hy
        clear hlen
        gi_wp2
        refine hRn.mono ?_
        rintro e W3 (⟨rfl, hJ3, hk3⟩ | ⟨rfl, hJx3⟩)
        · have HB3 := Lib.hid (HB2.out.trans hk3)
          have HZ3 := Lib.hid (Nat.le_trans HZ2.out hk3.size)
          have HJ3 := Lib.hid hJ3
          clear hJ3 hk3 hRn
          gi_wp2
          refine ⟨⟨k + 1, by first | rfl | simp, by have := HK.out; omega, HB3, HZ3, Lib.hid (by rw [rcp_succ HX.out, ← HQ.out]; exact HJ3.out)⟩, ?_⟩
          have := HK.out
          simp only [Int.toNat_natCast]
          omega
        · have HJx := Lib.hid hJx3
          clear hJx3 hRn
          gi_wp2
          refine bodyPost_ret (results_none rfl _ _ _) rfl ?_
          refine ⟨⟨_, rfl⟩, .inr ⟨_, ?_, HJx.out⟩⟩
          have e2 := rcp_succ (P := anyR) HX.out
          rw [← HQ.out] at e2
          rw [if_pos rfl] at e2
          rw [← e2, ← HN.out]
          exact rcp_mono HK.out
    · have t1 : decide (k < N) = false := decide_eq_false hk
      have hkN2 : k = N := by omega
      have HE := Lib.hid hkN2
      clear hkN2 hk
      gi_wp2
      go_end0
      exact ⟨⟨_, rfl⟩, .inl ⟨_, by rw [← HN.out, ← HE.out], hJs.out⟩⟩
end Go.Proofs.Ytbomdannlcclkaa
