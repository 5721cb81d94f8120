/- slices.Concat at holds: two slices of holds, one behind the other, in a row of their own. -/
import Derived.Laws.EntriesVeiled
import Derived.Lib.SliceRun
import Derived.Lib.AppendZeros
import Derived.LoopN
import Derived.Test.YtppapmacngdefaaDoorProSort
set_option maxRecDepth 100000
set_option linter.unusedVariables false
namespace Go.Proofs.YtppapmacngdefaaDoor
open Go.RowKit
set_option maxHeartbeats 2000000 in
theorem grow_h (n : Nat) (h0 : 0 < n) (hn : n ≤ 100000) (w : World) :
    Calls Tryd.prog 81 #[.slice none 0 0, .int .i64 (n : Nat)] w fun e w' => ∃ c, e = .returned (.slice (some ⟨w.heap.size, 0, none⟩) 0 c) ∧
      w'.ownsRow w.heap.size 55 5 (.slice (some ⟨w.heap.size, 0, none⟩) 0 c) 0 [] ∧ Below w.heap.size w w' := by
  obtain ⟨i0, hi, hz0, hz1, hz2⟩ := info_parts info_ho
  have hr := fun ty => Lib.run_append_nil_zeros (P := Tryd.prog) w 24 3 ty 55 i0 _ .i64 .i64 Tryd.underlying24 Tryd.underlying3 hi hz0 n h0 (by rw [hz1]; decide) (by omega) (by rw [hz2]; omega)
  have hc : grownCap w n 0 55 ≤ maxLen := grownCap_le_maxLen w n 0 _ (by unfold maxLen; omega)
  have hge : n ≤ grownCap w n 0 55 := grownCap_ge w _ _ _
  obtain ⟨cap, hcap⟩ : ∃ cap, cap = grownCap w n 0 55 := ⟨_, rfl⟩
  rw [← hcap] at hr hc hge
  obtain ⟨cur, hcur⟩ : ∃ cur, cur = Builtin.zeroCells (Value.agg #[.int .i64 0, .int .i64 0, .int .i64 0, .bool false, .slice none 0 0]).cells n ++ Builtin.zeroCells (Value.agg #[.int .i64 0, .int .i64 0, .int .i64 0, .bool false, .slice none 0 0]).cells (cap - n) := ⟨_, rfl⟩
  have hcs : cur.size = cap * 5 := by
    rw [hcur, Array.size_append, size_zeroCells, size_zeroCells]
    show n * 5 + (cap - n) * 5 = cap * 5
    omega
  rw [← hcur] at hr
  have hO := Lib.hid (World.ownsRow_made (w := w.drew) (base := w.heap.size) (e := 55) (size := 5) cur cap (Nat.le_refl _) hc hcs)
  have hB := Lib.hid ((Below.refl w.heap.size w).drew.alloc (Nat.le_refl _) (.cells cur 55))
  have h1 : decide ((n : Int) < 0) = false := decide_eq_false (by omega)
  have h2 : decide (0 < n) = true := decide_eq_true h0
  have h3 : decide (0 < (n : Int)) = true := decide_eq_true (by omega)
  clear hcur hcs hcap
  go_enter Tryd.func81, Tryd.ntmps81
  go_wp2_with (at_builtin; refine Lib.wpList_append_run _ rfl _ _ _ _ rfl _ _ rfl rfl _ _ (hr _) ?_)
  go_ret
  exact ⟨cap, rfl, hO.out, hB.out⟩
theorem own_hos {w : World} {B n c : Nat} {A : Option Addr} {l : List Ho} (h : w.ownsRow B 55 5 (.slice A n c) n (l.flatMap hoC)) (hn : l.length = n) : Hos w w.heap.size A l := (els_own hoC_len h hn).1
set_option maxHeartbeats 4000000 in
theorem concat_h (P : Nat) (A2 : Option Addr) (c2 : Nat) (l2 : List Ho) (A3 : Option Addr) (c3 : Nat) (l3 : List Ho) (w : World) (hP : w.heap[P]? = some (.cells #[.slice A2 l2.length c2, .slice A3 l3.length c3] 24 (0, 0)))
    (h2 : Hos w w.heap.size A2 l2) (h3 : Hos w w.heap.size A3 l3) (hn2 : l2.length ≤ 10000) (hn3 : l3.length ≤ 10000) (h0 : 0 < l3.length) :
    Calls Tryd.prog 68 #[.slice (some ⟨P, 0, none⟩) 2 2] w fun e w' => ∃ r c, e = .returned (.slice (some ⟨r, 0, none⟩) (l2.length + l3.length) c) ∧ Hid (Hos w' w'.heap.size (some ⟨r, 0, none⟩) (l2 ++ l3) ∧ w.heap.size ≤ r) ∧ Below w.heap.size w w' := by
  obtain ⟨i0, hi, hz0, hz1, hz2⟩ := info_parts info_ho
  obtain ⟨n, hn⟩ : ∃ n, n = l2.length := ⟨_, rfl⟩
  obtain ⟨m, hm⟩ : ∃ m, m = l3.length := ⟨_, rfl⟩
  rw [← hn, ← hm] at hP
  rw [← hn] at hn2
  rw [← hm] at hn3 h0
  have lP := blk_lt hP
  have p0 : w.cell? ⟨P, 0, none⟩ = some (.slice A2 n c2) := cell_blk (i := 0) hP rfl
  have p1 : w.cell? ⟨P, 1, none⟩ = some (.slice A3 m c3) := cell_blk (i := 1) hP rfl
  have HG := Lib.hid (fun W => grow_h (n + m) (by omega) (by omega) W)
  have HE := Lib.hid (And.intro hn (And.intro hm (And.intro h2 (And.intro h3 hP))))
  have k0 : decide (n + m < 0) = false := decide_eq_false (by omega)
  have k1 : decide ((n : Int) < 0) = false := decide_eq_false (by omega)
  rw [← hn, ← hm]
  clear hn hm h2 h3 hP
  go_enter Tryd.func68, Tryd.ntmps68
  go_wp2
  refine wp_loop_rounds 3 ?_
  rw [rounds_succ]
  go_wp2
  rw [rounds_succ]
  go_wp2
  rw [rounds_succ]
  go_wp2_with fail
  refine (HG.out _).mono ?_
  rintro e w1 ⟨c, rfl, hO, hB⟩
  have q0 : w1.cell? ⟨P, 0, none⟩ = some (.slice A2 n c2) := (hB.cell (p := ⟨P, 0, none⟩) lP).trans p0
  have q1 : w1.cell? ⟨P, 1, none⟩ = some (.slice A3 m c3) := (hB.cell (p := ⟨P, 1, none⟩) lP).trans p1
  have hs1 := hB.size
  have HO := Lib.hid hO
  have HB := Lib.hid hB
  clear hO hB HG p0 p1 k0 k1
  go_wp2
  refine wp_loop_rounds 3 ?_
  rw [rounds_succ]
  go_wp2_with (at_builtin; refine wpList_append_els (C := hoC) (k := 5) _ rfl _ _ 24 rfl w.heap.size 55 i0 _ 56 Tryd.underlying24 hi hz0 hz1 hz2 rfl (by decide) (.slice (some ⟨w.heap.size, 0, none⟩) 0 c) 0 [] rfl HO.out w.heap.size A2 c2 n l2 rfl (Els.keep HE.out.2.2.1 HB.out (Nat.le_refl _)) HE.out.1 hoC_len hoC_one (by unfold maxLen; omega) (by omega) hs1 ?_; intro A5 c5 w5 own5 g5 k5; rw [Nat.zero_add] at own5 k5 ⊢; rw [List.nil_append] at own5)
  have hb5 : Below w.heap.size w w5 := HB.out.grown g5 hs1 (fun i e => by have := e; simp [Value.ownBlock] at this; omega)
  have q1 : w5.cell? ⟨P, 1, none⟩ = some (.slice A3 m c3) := by
    have h9 := (hb5.block P lP).trans HE.out.2.2.2.2
    exact cell_blk (i := 1) h9 rfl
  have hs5 := hb5.size
  have HO5 := Lib.hid own5
  have HB5 := Lib.hid hb5
  clear own5 g5 k5 hb5 HO HB q0 hs1
  rw [rounds_succ]
  go_wp2_with (at_builtin; refine wpList_append_els (C := hoC) (k := 5) _ rfl _ _ 24 rfl w.heap.size 55 i0 _ 56 Tryd.underlying24 hi hz0 hz1 hz2 rfl (by decide) (.slice A5 n c5) n (l2.flatMap hoC) rfl HO5.out w.heap.size A3 c3 m l3 rfl (Els.keep HE.out.2.2.2.1 HB5.out (Nat.le_refl _)) HE.out.2.1 hoC_len hoC_one (by unfold maxLen; omega) (by omega) hs5 ?_; intro A6 c6 w6 own6 g6 k6; rw [← List.flatMap_append] at own6)
  have hb6 : Below w.heap.size w w6 := HB5.out.grown g6 hs5 (fun i e => (HO5.out.lt i e).1)
  have HO6 := Lib.hid own6
  have HB6 := Lib.hid hb6
  clear own6 g6 k6 hb6 HO5 HB5
  rw [rounds_succ]
  go_wp2
  go_ret
  have hl6 : (l2 ++ l3).length = n + m := by rw [List.length_append, ← HE.out.1, ← HE.out.2.1]
  rcases HO6.out.2 with ⟨e, h9⟩ | ⟨r, cap, cur, e, hr, _⟩
  · omega
  · injection e with e1 _ _
    subst e1
    exact ⟨r, c6, rfl, Lib.hid ⟨own_hos HO6.out hl6, hr⟩, HB6.out⟩
end Go.Proofs.YtppapmacngdefaaDoor
