/- Units, at every mask: a new slice that holds the units, rising. -/
import Derived.Test.YtldameiggeibnaaDoorMaskLowest
namespace Go.Proofs.YtldameiggeibnaaDoor
open Go.RowKit Go.Shelf
attribute [local go_sem] Oper.semAt_some

theorem info_int : (Tryd.prog.info? 3).map (fun i => (i.zero, i.size, i.bytes)) = some (some (.int .i64 0), 1, 8) := by kernel_rfl

/-- The cells of a list of numbers. -/
def ints (l : List Nat) : List Value := l.map fun k => .int .i64 (k : Nat)

set_option maxRecDepth 100000 in
set_option maxHeartbeats 2000000 in
theorem units_any (x : Nat) (hx : x < 18446744073709551616) (w : World) (hT : Tab w) (h0 : 0 < w.heap.size) :
    Calls Tryd.prog 20 #[.int .u64 x] w fun e w' => ∃ v, e = .returned v ∧ w'.ownsRow w.heap.size 3 1 v (MM.cnt x) (ints (MM.units x)) ∧ Below w.heap.size w w' := by
  have h64 := MM.cnt_le x
  have h1 : (1 : Nat) ≤ 8 := by omega
  have h1' : (1 : Nat) ≤ 8 - 1 := by omega
  have hfn : ∀ f, Fence.wide.fn f := fun _ => trivial
  have hc : ∀ w, Calls Tryd.prog 17 #[.int .u64 x] w fun e w' => e = .returned (.int .i64 (MM.cnt x)) ∧ w = w' := fun w => count_any x hx w
  obtain ⟨i0, hi, hz0, hz1, hz2⟩ := info_parts info_int
  refine (callsIn_wide (n := 8)).1 ?_
  refine callsIn_of_wp_marks Tryd.func20 rfl trivial ?_ rfl
  simp only [Tryd.ntmps20, List.size_toArray, List.length_cons, List.length_nil, Nat.reduceAdd, Nat.reduceSub, Array.replicate_succ, Array.replicate_zero, List.push_toArray, List.append_toArray, List.nil_append, List.cons_append]
  gi_wp2_with (first
    | (gi_at_call 17; refine (callsIn_wide.2 (hc _)).mono ?_; rintro e w' ⟨rfl, rfl⟩)
    | (gi_at_make; refine wpListIn_make_own _ rfl _ _ 23 rfl w.heap.size 3 i0 (.int .i64 0) 1 Tryd.underlying23 hi hz0 hz1 .i64 .i64 (MM.cnt x : Int) (MM.cnt x) rfl rfl rfl (by rw [hz2]; omega) (by unfold maxLen; omega) (Nat.le_refl _) ?_; intro wm hown hgrow)
    | (gi_at_call 21; refine (rising_any _ _ _).mono ?_; rintro e w' ⟨rfl, rfl⟩))
  obtain ⟨B, hBe⟩ : ∃ B, wm.heap.size = B := ⟨_, rfl⟩
  have hbm : Below w.heap.size w wm := (Below.refl _ w).grown hgrow (Nat.le_refl _) (fun j e => by cases e)
  have hSB : w.heap.size ≤ B := by rw [← hBe]; exact hbm.size
  have bO : Boxed (wm.alloc (Obj.cells #[Value.slice (some { block := w.heap.size, off := 0 }) 0 (MM.cnt x)] 23)) B 23 (.slice (some ⟨w.heap.size, 0, none⟩) 0 (MM.cnt x)) := by
    rw [← hBe]; exact Boxed.new wm _ _
  obtain ⟨W0, hW0⟩ : ∃ W0, ((wm.alloc (Obj.cells #[Value.slice (some { block := w.heap.size, off := 0 }) 0 (MM.cnt x)] 23)).alloc (Obj.cells #[Value.int IntKind.u64 (x : Int)] 22)) = W0 := ⟨_, rfl⟩
  have bO : Boxed W0 B 23 (.slice (some ⟨w.heap.size, 0, none⟩) 0 (MM.cnt x)) := by rw [← hW0]; exact bO.alloc _
  have bM : Boxed W0 (B + 1) 22 (.int .u64 (x : Int)) := by
    rw [← hW0, ← hBe]
    have := Boxed.new (wm.alloc (Obj.cells #[Value.slice (some { block := w.heap.size, off := 0 }) 0 (MM.cnt x)] 23)) 22 (.int .u64 (x : Int))
    rw [World.size_alloc] at this
    exact this
  have hB0 : Below w.heap.size w W0 := by rw [← hW0]; exact (hbm.alloc hbm.size _).alloc (by simp; have := hbm.size; omega) _
  have hrow0 : W0.ownsRow w.heap.size 3 1 (.slice (some ⟨w.heap.size, 0, none⟩) 0 (MM.cnt x)) 0 [] := by rw [← hW0]; exact (hown.alloc _).alloc _
  have hz : W0.heap.size = B + 1 + 1 := by rw [← hW0, World.size_alloc, World.size_alloc, hBe]
  have hT0 : Tab W0 := hT.below hB0 h0
  rw [hW0, hBe]
  clear hW0 hown hgrow hBe hbm
  refine wpIn_rangeFunc_ownG rfl h1 (gf := 26) (lb := #[.pointer (some ⟨B + 1, 0, none⟩)]) rfl trivial (enters_of Tryd.func26 (by kernel_rfl) rfl)
    (rise_stops (8 - 1) h1' (B + 1) w.heap.size h0 x hx W0 (by omega) bM.cell hT0) belowK_t (belowK_b (by omega)) (Below.refl _ _) (fun _ => rfl)
    (fun (pre : List U) W => (∃ v, Boxed W B 23 v ∧ W.ownsRow w.heap.size 3 1 v pre.length (ints (vals pre)) ∧ True) ∧ Below w.heap.size w W)
    (fun _ _ _ => False)
    (OwnFrom.and (Own.from (holdsRow_own w.heap.size B 23 3 1 (fun (pre : List U) => pre.length) (fun pre => ints (vals pre)) (fun _ _ => True)) _) (ownFrom_below (Nat.le_refl _) (by omega)))
    (fun _ _ _ _ _ hs _ _ => hs)
    ⟨⟨_, bO, hrow0, trivial⟩, hB0⟩
    (fun (y : U) => { tmps := #[.int .u64 x, undef, .slice none 0 0, .pointer (some ⟨B, 0, none⟩), .int .i64 (y.1 : Nat), .int .u64 x, .int .i64 (MM.cnt x), .slice (some ⟨w.heap.size, 0, none⟩) 0 (MM.cnt x), .int .u64 x,
      .func (.func 26) #[] #[.pointer (some ⟨B + 1, 0, none⟩)], .int .i64 (y.1 : Nat), undef, undef, undef, undef, undef], defers := [] }) ?assign ?body ?done ?stop
  case assign =>
    intro l y W K hK
    gi_wp2
    exact hK
  case body =>
    rintro l pre y W ⟨⟨v, hv, hrow, _⟩, hB⟩ hlt
    have hlt' : pre.length < 64 := Nat.lt_of_lt_of_le hlt h64
    have hc0 := hv.cell
    have hBs := hB.size
    clear hlt hc
    gi_wp2_with (gi_at_builtin; refine wpListIn_append_own _ rfl _ _ 23 rfl w.heap.size 3 i0 (.int .i64 0) 1 8 Tryd.underlying23 hi hz0 hz1 hz2 rfl (by decide) _ _ _ rfl (hrow.alloc _) ⟨W.heap.size, 0, none⟩ 1 1 [.int .i64 (y.1 : Nat)] rfl rfl (cell_one_new _ _ _) (by simp [Value.oneCell']) (by unfold maxLen; omega) (by omega) (by simp; omega) ?_; intro v' w1 hown' hgrow _; obtain ⟨g', cap', rfl⟩ := ownsRow_succ hown'; obtain ⟨hv1, hv2, hr2, hk2, hb2⟩ := hv.appended (by decide) hrow hBs hSB hown' hgrow; have hc1 := hv1.cell; have hf1 := hv1.frozen)
    exact ⟨hk2.from _, hb2, ⟨_, hv2, by rw [vals_snoc]; simpa [ints] using hr2, trivial⟩, hB.trans hb2⟩
  case done =>
    rintro D ys W hD hys ⟨⟨v, hv, hrow, _⟩, hB⟩ hK
    have hc0 := hv.cell
    have hys' := Lib.hid hys
    clear hys hc
    gi_wp2
    refine ⟨by simp, .inl ⟨_, _, rfl, run_takeDeferred hK, ?_⟩⟩
    have hn : ys.length = MM.cnt x := by rw [← vals_len, hys'.out]; rfl
    rw [hys'.out, hn] at hrow
    exact ⟨_, results_tmp rfl _ _ _, v, rfl, ownsRow_putObj hrow _ hK rfl, hB.trans (belowK_b (w := w) (Nat.le_refl _) W D _ _ (by omega) hK rfl rfl)⟩
  case stop =>
    rintro D c pre W _ _ h _
    exact h.elim
end Go.Proofs.YtldameiggeibnaaDoor
