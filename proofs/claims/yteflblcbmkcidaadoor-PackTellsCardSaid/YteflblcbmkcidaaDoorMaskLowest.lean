/- Lowest, at every mask and every count. -/
import Derived.Test.YteflblcbmkcidaaDoorMaskRise
namespace Go.Proofs.YteflblcbmkcidaaDoor
open Go.RowKit Go.Shelf
attribute [local go_sem] Oper.semAt_some

theorem Below.drewN {B : Nat} {a w : World} (h : Below B a w) (q : Nat) : Below B a (w.drewN q) := ⟨h.os, h.tape, h.output, h.size, h.block⟩

set_option maxRecDepth 100000 in
set_option maxHeartbeats 2000000 in
theorem lowest_low (x : Nat) (n : Int) (hn : n < 0) (w : World) :
    Calls Tryd.prog 32 #[.int .u64 x, .int .i64 n] w fun e w' => e = .returned (.tuple #[.int .u64 0, .int .i64 1]) ∧ Below w.heap.size w w' := by
  go_enter Tryd.func32, Tryd.ntmps32
  go_wp2
  go_ret2
  exact ⟨rfl, (Below.refl _ w).alloc (Nat.le_refl _) _⟩

set_option maxRecDepth 100000 in
set_option maxHeartbeats 2000000 in
theorem lowest_full (x : Nat) (hx : x < 18446744073709551616) (k : Nat) (hk : MM.cnt x < k) (w : World) :
    Calls Tryd.prog 32 #[.int .u64 x, .int .i64 k] w fun e w' => e = .returned (.tuple #[.int .u64 0, .int .i64 2]) ∧ Below w.heap.size w w' := by
  have hd : decide ((MM.cnt x : Int) < (k : Int)) = true := by simpa using hk
  have hc : ∀ w, Calls Tryd.prog 39 #[.int .u64 x] w fun e w' => e = .returned (.int .i64 (MM.cnt x)) ∧ w' = w := fun w => (count_any x hx w).mono fun e w' h => ⟨h.1, h.2.symm⟩
  go_enter Tryd.func32, Tryd.ntmps32
  go_wp2
  go_quiet ((go_at_call 39; exact Calls.quiet_of_same (hc _)))
  go_wp2
  go_ret2
  exact ⟨rfl, Below.drewN ((Below.refl _ w).alloc (Nat.le_refl _) _) _⟩

set_option maxRecDepth 100000 in
set_option maxHeartbeats 2000000 in
theorem lowest_any (x : Nat) (hx : x < 18446744073709551616) (k : Nat) (hk : k ≤ MM.cnt x) (w : World) (hT : Tab w) (h0 : 0 < w.heap.size) :
    Calls Tryd.prog 32 #[.int .u64 x, .int .i64 k] w fun e w' => e = .returned (.tuple #[.int .u64 (MM.low x k), .int .i64 0]) ∧ Below w.heap.size w w' := by
  have h64 := MM.cnt_le x
  have h1 : (1 : Nat) ≤ 8 := by omega
  have h1' : (1 : Nat) ≤ 8 - 1 := by omega
  have hd : decide ((MM.cnt x : Int) < (k : Int)) = false := by simpa using hk
  have hfn : ∀ f, Fence.wide.fn f := fun _ => trivial
  have hc : ∀ w, Calls Tryd.prog 39 #[.int .u64 x] w fun e w' => e = .returned (.int .i64 (MM.cnt x)) ∧ w' = w := fun w => (count_any x hx w).mono fun e w' h => ⟨h.1, h.2.symm⟩
  have hmx : Tryd.prog.follows .mixedOrders = true := by kernel_rfl
  refine (callsIn_wide (n := 8)).1 ?_
  refine callsIn_of_wp_marks Tryd.func32 rfl trivial ?_ rfl
  simp only [Tryd.ntmps32, List.size_toArray, List.length_cons, List.length_nil, Nat.reduceAdd, Nat.reduceSub, Array.replicate_succ, Array.replicate_zero, List.push_toArray, List.append_toArray, List.nil_append, List.cons_append]
  gi_wp2
  gi_quiet ((gi_at_call 39; exact CallsIn.quiet_of_same (callsIn_wide.2 (hc _))))
  all_goals gi_wp2_with (gi_at_call 40; refine (rising_any _ _ _).mono ?_; rintro e w' ⟨rfl, rfl⟩)
  all_goals (try go_bits)
  have hW0 : ∃ W0, ((((w.alloc (Obj.cells #[Value.int IntKind.i64 (k : Int)] 3)).drewN nq).alloc (Obj.cells #[Value.int IntKind.u64 0] 36)).alloc (Obj.cells #[Value.int IntKind.u64 (x : Int)] 36)) = W0 := ⟨_, rfl⟩
  obtain ⟨W0, hW0⟩ := hW0
  have b0 : Boxed W0 w.heap.size 3 (.int .i64 (k : Int)) := by
    rw [← hW0]; exact Boxed.alloc (Boxed.alloc (show Boxed ((w.alloc _).drewN nq) w.heap.size _ _ from Boxed.new w _ _) _) _
  have b1 : Boxed W0 (w.heap.size + 1) 36 (.int .u64 0) := by
    rw [← hW0]
    have := Boxed.new ((w.alloc (Obj.cells #[Value.int IntKind.i64 (k : Int)] 3)).drewN nq) 36 (.int .u64 0)
    rw [World.heap_drewN, World.size_alloc] at this
    exact this.alloc _
  have b2 : Boxed W0 (w.heap.size + 1 + 1) 36 (.int .u64 (x : Int)) := by
    rw [← hW0]
    have := Boxed.new (((w.alloc (Obj.cells #[Value.int IntKind.i64 (k : Int)] 3)).drewN nq).alloc (Obj.cells #[Value.int IntKind.u64 0] 36)) 36 (.int .u64 (x : Int))
    rw [World.size_alloc, World.heap_drewN, World.size_alloc] at this
    exact this
  have hB0 : Below w.heap.size w W0 := by
    rw [← hW0]
    exact ((Below.drewN ((Below.refl _ w).alloc (Nat.le_refl _) _) nq).alloc (by simp) _).alloc (by simp; omega) _
  have hz : W0.heap.size = w.heap.size + 1 + 1 + 1 := by
    rw [← hW0, World.size_alloc, World.size_alloc, World.heap_drewN, World.size_alloc]
  have hT0 : Tab W0 := hT.below hB0 h0
  rw [hW0]
  clear hW0
  refine wpIn_rangeFunc_ownF rfl h1 (gf := 45) (lb := #[.pointer (some ⟨w.heap.size + 1 + 1, 0, none⟩)]) rfl trivial (enters_of Tryd.func45 (by kernel_rfl) rfl)
    (rise_stops (8 - 1) h1' (w.heap.size + 1 + 1) w.heap.size h0 x hx W0 (by omega) b2.cell hT0) belowK_t (belowK_b (by omega)) (Below.refl _ _) (fun _ => rfl)
    (fun (pre : List U) W => (pre.length ≤ k ∧ Boxed W w.heap.size 3 (.int .i64 ((k - pre.length : Nat) : Int)) ∧ Boxed W (w.heap.size + 1) 36 (.int .u64 (MM.ofu (vals pre)))) ∧ Below w.heap.size w W)
    (fun c pre W => (c = .exit 0 ∧ ∃ p y, pre = p ++ [y] ∧ p.length = k ∧ Boxed W (w.heap.size + 1) 36 (.int .u64 (MM.ofu (vals p)))) ∧ Below w.heap.size w W)
    (OwnFrom.and (Own.from (fun s A B row hs hg hr => ⟨hs.1, boxed_own _ _ _ _ _ _ _ hs.2.1 hg hr, boxed_own _ _ _ _ _ _ _ hs.2.2 hg hr⟩) _) (ownFrom_below (Nat.le_refl _) (by omega)))
    (fun c => OwnFrom.and (Own.from (fun s A B row hs hg hr => by
      obtain ⟨hc, p, y, hp, hl, hb⟩ := hs
      exact ⟨hc, p, y, hp, hl, boxed_own _ _ _ _ _ _ _ hb hg hr⟩) _) (ownFrom_below (Nat.le_refl _) (by omega)))
    ⟨⟨Nat.zero_le _, b0, b1⟩, hB0⟩
    (fun (y : U) => { tmps := #[.int .u64 x, .int .i64 k, undef, .pointer (some ⟨w.heap.size, 0, none⟩), .int .u64 0, .int .i64 0, .pointer (some ⟨w.heap.size + 1, 0, none⟩), .int .i64 (y.1 : Nat), .int .i64 k, .bool (decide ((k : Int) < 0)), .int .u64 x, .int .i64 (MM.cnt x), .int .i64 k, .bool false, .int .u64 x,
      .func (.func 45) #[] #[.pointer (some ⟨w.heap.size + 1 + 1, 0, none⟩)], .int .i64 (y.1 : Nat), undef, undef, undef, undef, undef, undef, undef, undef, undef], defers := [] }) ?assign ?body ?done ?stop
  case assign =>
    intro l y W K hK
    gi_wp2
    exact hK
  case body =>
    rintro l pre y W ⟨⟨hle, hb0, hb1⟩, hB⟩ _
    have hc0 := hb0.cell
    have hf0 := hb0.frozen
    have hc1 := hb1.cell
    have hf1 := hb1.frozen
    by_cases he : pre.length = k
    · have ht : (((k - pre.length : Nat) : Int) == 0) = true := by rw [he]; simp
      have hb1' := Lib.hid hb1
      have hB' := Lib.hid hB
      clear hb0 hb1 hB hle hfn hmx hd hc
      have he' := Lib.hid he
      clear he
      gi_wp2
      exact ⟨KeepsOthers.refl _, ⟨rfl, pre, y, rfl, he'.out, hb1'.out⟩, hB'.out⟩
    · have hlt : pre.length < k := by omega
      have ht : (((k - pre.length : Nat) : Int) == 0) = false := by simp; omega
      have hsub : ((k - pre.length : Nat) : Int) - 1 = ((k - (pre.length + 1) : Nat) : Int) := by omega
      have hor : bits BinOp.or IntKind.u64 (MM.ofu (vals pre) : Int) (2 ^ y.1) = ((MM.ofu (vals (pre ++ [y])) : Nat) : Int) := by
        rw [vals_snoc, MM.ofu_snoc, ← or_u64 (MM.ofu (vals pre)) (2 ^ y.1) (MM.ofu_lt vals_lt) (pow_lt y.2)]
        congr 1
      have hH := Lib.hid (And.intro hsub (And.intro hor hlt))
      have hb := Lib.hid (And.intro hb0 (And.intro hb1 hB))
      have hcb := Lib.hid (bit_any y.1 y.2)
      clear hb0 hb1 hB hle hd hc hsub hor he hlt
      have h5 : 1 ≤ 8 - 1 - 1 := by omega
      gi_wp2
      gi_region_with_o (gi_at_call 41; refine (CallsIn.inRound l (callsIn_wide.2 (hcb.out _))).mono ?_; rintro e w' ⟨rfl, rfl⟩)
      all_goals gi_wp2
      all_goals (
        obtain ⟨hsub, hor, hlt⟩ := hH.out
        obtain ⟨hb0, hb1, hB⟩ := hb.out
        rw [hsub, hor]
        refine ⟨((KeepsOthers.setCell _ _ _).trans (KeepsOthers.setCell _ _ _)).trans (KeepsOthers.drew _), (((Below.refl w.heap.size W).setCell (p := ⟨w.heap.size + 1, 0, none⟩) (by simp) _).setCell (p := ⟨w.heap.size, 0, none⟩) (Nat.le_refl _) _).drew, ⟨by simp; omega, ?_, ?_⟩, ((hB.setCell (p := ⟨w.heap.size + 1, 0, none⟩) (by simp) _).setCell (p := ⟨w.heap.size, 0, none⟩) (Nat.le_refl _) _).drew⟩
        · have := (hb0.other (B' := w.heap.size + 1) (by omega) (.int .u64 (MM.ofu (vals (pre ++ [y])) : Nat))).set (.int .i64 ((k - (pre.length + 1) : Nat) : Int))
          rw [List.length_append]
          exact this
        · exact (hb1.set (.int .u64 (MM.ofu (vals (pre ++ [y])) : Nat))).other (by omega) _)
  case done =>
    rintro D ys W hD hys ⟨⟨hle, hb0, hb1⟩, hB⟩ hK
    have hc1 := hb1.cell
    have hys' := Lib.hid hys
    have hb := Lib.hid (And.intro hle (And.intro hb1 hB))
    clear hys hb0 hb1 hB hle hd hc
    gi_wp2
    refine ⟨by simp, .inl ⟨_, _, rfl, run_takeDeferred hK, ?_⟩⟩
    obtain ⟨hle, hb1, hB⟩ := hb.out
    have hys := hys'.out
    have e : MM.ofu (vals ys) = MM.low x k := by
      have hl : (MM.units x).length ≤ k := by rw [← hys, vals_len]; exact hle
      unfold MM.low
      rw [List.take_of_length_le hl, hys]
    rw [e]
    refine ⟨.tuple #[.int .u64 (MM.low x k), .int .i64 0], by simp [results, Tryd.f32, go_sem], rfl, hB.trans (belowK_b (w := w) (Nat.le_refl _) W D _ _ (by omega) hK rfl rfl)⟩
  case stop =>
    rintro D c pre W hD hpre ⟨⟨rfl, p, y, rfl, hp, hb1⟩, hB⟩ hK
    have hc1 := hb1.cell
    have hpre' := Lib.hid hpre
    have hb := Lib.hid (And.intro hp (And.intro hb1 hB))
    clear hpre hb1 hB hp hd hc
    gi_wp2
    refine ⟨by simp, .inl ⟨_, _, rfl, run_takeDeferred hK, ?_⟩⟩
    obtain ⟨hp, hb1, hB⟩ := hb.out
    have hpre := hpre'.out
    have e : MM.ofu (vals p) = MM.low x k := by
      obtain ⟨t, ht⟩ := hpre
      unfold MM.low
      rw [← ht, vals_snoc, List.append_assoc, List.take_append_of_le_length (by rw [vals_len]; omega), List.take_of_length_le (by rw [vals_len]; omega)]
    rw [e]
    refine ⟨.tuple #[.int .u64 (MM.low x k), .int .i64 0], by simp [results, Tryd.f32, go_sem], rfl, hB.trans (belowK_b (w := w) (Nat.le_refl _) W D _ _ (by omega) hK rfl rfl)⟩
end Go.Proofs.YteflblcbmkcidaaDoor
