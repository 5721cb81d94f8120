/- The units of a mask are gone through in rising order; Lowest and Units are ranges over that iterator. -/
import Derived.RangeFuncNested
import Derived.RangeFuncBound
import Derived.RangeFuncCalls
import Derived.RangeFuncLeaves
import Derived.RangeFuncBox
import Derived.Shelf.Abstract
import Derived.Shelf.RegionOpen
import Derived.WalkKit
import Derived.OwnWalkIn
import Derived.TacticsInMore
import Derived.LoopNIn
import Derived.LoopIn
import Derived.Maps.AppendAt
import Derived.Test.YteflblcbmkcidaaDoorMaskWalks
namespace Go.Proofs.YteflblcbmkcidaaDoor
open Go.RowKit Go.Shelf
attribute [local go_sem] Oper.semAt_some

theorem Tab.below {n₀ : Nat} {A B : World} (h : Below n₀ A B) (h0 : 0 < n₀) (hT : Tab A) : Tab B :=
  fun j hj => (h.cell (p := ⟨0, j, none⟩) h0).trans (hT j hj)

/-- The next rest. -/
theorem rest_key (x : Nat) (h0 : x ≠ 0) (hx : x < 18446744073709551616) : bits BinOp.and IntKind.u64 (x : Int) ((x : Int) - 1) = ((x &&& (x - 1) : Nat) : Int) := by
  have e : (x : Int) - 1 = ((x - 1 : Nat) : Int) := by omega
  rw [e]
  exact and_u64 _ _ hx (by omega)

set_option maxHeartbeats 1000000 in
theorem rising_any (x n : Nat) (w : World) :
    CallsIn Fence.wide n Tryd.prog 40 #[.int .u64 x] w fun e w' => e = .returned (.func (.func 45) #[] #[.pointer (some ⟨w.heap.size, 0, none⟩)]) ∧ w.alloc (.cells #[.int .u64 x] 36) = w' := by
  refine callsIn_of_wp Tryd.func40 rfl trivial ?_ rfl
  simp only [Tryd.ntmps40, List.size_toArray, List.length_cons, List.length_nil, Nat.reduceAdd, Nat.reduceSub, Array.replicate_succ, Array.replicate_zero, List.push_toArray, List.append_toArray, List.nil_append, List.cons_append]
  gi_wp2
  go_ret
  exact ⟨rfl, rfl⟩

/-- A unit: what the iterator hands to a round. -/
abbrev U : Type := { k : Nat // k < 64 }
def vals (l : List U) : List Nat := l.map (·.1)
theorem vals_snoc (l : List U) (k : U) : vals (l ++ [k]) = vals l ++ [k.1] := by simp [vals]
theorem vals_len (l : List U) : (vals l).length = l.length := by simp [vals]
theorem vals_lt {l : List U} : ∀ j ∈ vals l, j < 64 := fun j hj => by
  obtain ⟨a, _, rfl⟩ := List.mem_map.1 hj
  exact a.2

/-- What is still to come, read off the rest. -/
def left (v : Value) : Nat := match v with | .int _ n => MM.cnt n.toNat | _ => 0
theorem left_nat (r : Nat) : left (.int .u64 r) = MM.cnt r := by simp [left]

set_option maxRecDepth 100000 in
set_option maxHeartbeats 1000000 in
/-- The iterator: for every loop body that keeps what lay below n₀. -/
theorem rise_in (n : Nat) (hn : 1 ≤ n) (l Bn n₀ : Nat) (hn₀ : 0 < n₀) (x : Nat) (hx : x < 18446744073709551616) (J Jx : List U → World → Prop)
    (hY : ∀ pre (k : U) W, J pre W → pre.length < (MM.units x).length → YieldAt Fence.wide (n - 1) Tryd.prog l #[.int .i64 (k.1 : Nat)] W fun e W' =>
      (e = .returned (.bool true) ∧ J (pre ++ [k]) W' ∧ Below n₀ W W') ∨ (e = .returned (.bool false) ∧ Jx (pre ++ [k]) W'))
    (W : World) (hBn : W.cell? ⟨Bn, 0, none⟩ = some (.int .u64 x)) (hT : Tab W) (h0 : J [] W) :
    CallsIn Fence.wide n Tryd.prog 45 #[.func (.yield l) #[] #[], .pointer (some ⟨Bn, 0, none⟩)] W fun e W' => (∃ v, e = .returned v) ∧
      ((∃ ys, vals ys = MM.units x ∧ J ys W') ∨ (∃ pre, vals pre <+: MM.units x ∧ Jx pre W')) := by
  refine callsIn_of_wp Tryd.func45 rfl trivial ?_ rfl
  simp only [Tryd.ntmps45, List.size_toArray, List.length_cons, List.length_nil, Nat.reduceAdd, Nat.reduceSub, Array.replicate_succ, Array.replicate_zero, List.push_toArray, List.append_toArray, List.nil_append, List.cons_append]
  gi_wp2
  gi_loopw [3] (fun p wr => ∃ (pre : List U) (r : Nat), p = .int .u64 (r : Nat) ∧ r < 18446744073709551616 ∧ MM.units x = vals pre ++ MM.units r ∧ Tab wr ∧ J pre wr)
    (fun p _ => left p)
  case atStart =>
    exact ⟨[], x, rfl, hx, rfl, hT, h0⟩
  case round =>
    obtain ⟨pre, r, rfl, hr, hpre, hTr, hJs⟩ := hrel
    by_cases hr0 : r = 0
    · subst hr0
      have hpre' := Lib.hid hpre
      clear hpre
      gi_wp2
      go_end0
      refine ⟨⟨_, rfl⟩, .inl ⟨pre, ?_, hJs⟩⟩
      rw [hpre'.out, MM.units_zero, List.append_nil]
    · have hst := MM.units_step hr0 hr
      have hlen : pre.length < (MM.units x).length := by rw [hpre, hst, List.length_append, vals_len]; simp
      obtain ⟨fn, tmps, assign, body, hy, hR⟩ := hY pre ⟨Lib.ctz 64 r, MM.ctz_lt hr0 hr⟩ wr hJs hlen
      dsimp only at hy
      have hne : (((r : Int)) != 0) = true := by simp; omega
      have hk := rest_key r hr0 hr
      have hst' := Lib.hid hst
      have hpre' := Lib.hid hpre
      have hk' := Lib.hid hk
      clear hst hpre hk hlen
      have htz := Lib.hid (tz_any r hr0 hr wr hTr)
      gi_wp2_with (refine ⟨trivial, ?_⟩; gi_at_call 36; refine (callsIn_wide.2 htz.out).mono ?_; rintro e w' ⟨rfl, rfl⟩)
      refine hR.mono ?_
      rintro e W3 (⟨rfl, hJ3, hk3⟩ | ⟨rfl, hJx3⟩)
      · have hT3 : Tab W3 := hTr.below hk3 hn₀
        gi_wp2
        rw [hk'.out]
        refine ⟨⟨pre ++ [⟨Lib.ctz 64 r, MM.ctz_lt hr0 hr⟩], r &&& (r - 1), rfl, MM.and_lt _ _ hr, by rw [hpre'.out, hst'.out, vals_snoc]; simp, hT3, hJ3⟩, ?_⟩
        have e1 : MM.cnt r = MM.cnt (r &&& (r - 1)) + 1 := by unfold MM.cnt; rw [hst'.out]; simp
        rw [left_nat r, left_nat (r &&& (r - 1))]
        omega
      · gi_wp2
        refine bodyPost_ret (results_none rfl _ _ _) rfl ?_
        refine ⟨⟨_, rfl⟩, .inr ⟨pre ++ [⟨Lib.ctz 64 r, MM.ctz_lt hr0 hr⟩], ?_, hJx3⟩⟩
        rw [hpre'.out, hst'.out, vals_snoc]
        exact ⟨MM.units (r &&& (r - 1)), by simp⟩

theorem rise_stops (n : Nat) (hn : 1 ≤ n) (Bn n₀ : Nat) (h0 : 0 < n₀) (x : Nat) (hx : x < 18446744073709551616) (w : World) (hBn : Bn < w.heap.size)
    (hc : w.cell? ⟨Bn, 0, none⟩ = some (.int .u64 x)) (hT : Tab w) :
    SeqStopsK Fence.wide n Tryd.prog 45 #[.pointer (some ⟨Bn, 0, none⟩)] (fun k : U => #[Value.int .i64 ((k.1 : Nat) : Int)]) (Below n₀) (fun ys => vals ys = MM.units x) (fun pre => vals pre <+: MM.units x) (MM.units x).length w := fun l J Jx W hW _ _ hY hJ =>
  rise_in n hn l Bn n₀ h0 x hx J Jx hY W ((hW.cell (p := ⟨Bn, 0, none⟩) hBn).trans hc) (hT.below hW (by omega)) hJ
end Go.Proofs.YteflblcbmkcidaaDoor
