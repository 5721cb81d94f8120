/- Fits of package shape: how often what a member needs is in what is free, the least of some numbers. -/
import Derived.Test.YteflblcbmkcidaaDoorHeldOn
import Derived.Test.YteflblcbmkcidaaDoorShapeSize
namespace Go.Proofs.YteflblcbmkcidaaDoor
open Go.RowKit

def tms (need free : Nat) : Nat := if need = 0 then 16 else free / need
/-- How many members fit, of so many units and so many Cpus. -/
def fitN (g c m k : Nat) : Nat := min (min 16 (tms g m)) (tms c k)
theorem tms_le (need free : Nat) (h : free ≤ 9223372036854775807) : tms need free ≤ 9223372036854775807 := by
  unfold tms; split
  · omega
  · exact Nat.le_trans (Nat.div_le_self _ _) h
theorem times_any (need free : Nat) (hn : need ≤ 1024) (hf : free ≤ 9223372036854775807) (w : World) :
    Calls Tryd.prog 28 #[.int .i64 need, .int .i64 free] w fun e w' => e = .returned (.int .i64 (tms need free : Nat)) ∧ w = w' := by
  by_cases h0 : need = 0
  · subst h0
    have e : tms 0 free = 16 := rfl
    rw [e]
    clear e
    go_enter Tryd.func28, Tryd.ntmps28
    go_wp2
    go_ret
    exact ⟨rfl, rfl⟩
  · have hpos : 0 < need := by omega
    have t0 : ((need : Int) == 0) = false := by simp; omega
    have e : ((tms need free : Nat) : Int) = (free : Int) / (need : Int) := by unfold tms; rw [if_neg h0]; simp
    have H := Lib.hid e
    clear e h0
    go_enter Tryd.func28, Tryd.ntmps28
    go_wp2
    go_ret
    refine ⟨?_, rfl⟩
    rw [H.out]
    show Ending.returned (.int .i64 (wrap64 ((free : Int) / (need : Int)))) = _
    have h1 := tms_le need free hf
    rw [IntWalk.wrap64_in _ (by rw [← H.out]; omega)]
set_option maxHeartbeats 1000000 in
theorem least_any (b x y : Nat) (w : World) (hx : x ≤ 9223372036854775807) (hy : y ≤ 9223372036854775807) (h0 : w.cell? ⟨b, 0, none⟩ = some (.int .i64 x)) (h1 : w.cell? ⟨b, 1, none⟩ = some (.int .i64 y)) :
    Calls Tryd.prog 27 #[.int .i64 16, .slice (some ⟨b, 0, none⟩) 2 2] w fun e w' => e = .returned (.int .i64 (min (min 16 x) y : Nat)) ∧ w = w' := by
  obtain ⟨R, hR⟩ : ∃ R, R = min (min 16 x) y := ⟨_, rfl⟩
  rw [← hR]
  have HR := Lib.hid hR
  clear hR
  go_enter Tryd.func27, Tryd.ntmps27
  go_wp2
  go_loop [0, 9] (fun n i => ∃ k q : Nat, i = .int .i64 (k : Int) ∧ n = .int .i64 (q : Int) ∧ k ≤ 2 ∧ q ≤ 16 ∧ Hid (q = if k = 0 then 16 else if k = 1 then min 16 x else min (min 16 x) y)) (fun _ i => 2 - (intOf i).toNat)
  case atStart => exact ⟨0, 16, rfl, rfl, by omega, by omega, Lib.hid rfl⟩
  case round =>
    obtain ⟨k, q, rfl, rfl, hk, hq, hQ⟩ := hrel
    rcases (show k = 0 ∨ k = 1 ∨ k = 2 by omega) with rfl | rfl | rfl
    · go_wp2
      refine ⟨⟨1, if x < q then x else q, rfl, by split <;> rfl, by omega, by split <;> omega, Lib.hid ?_⟩, by simp [intOf]⟩
      have := hQ.out; simp at this; subst this; simp; split <;> omega
    · go_wp2
      refine ⟨⟨2, if y < q then y else q, rfl, by split <;> rfl, by omega, by split <;> omega, Lib.hid ?_⟩, by simp [intOf]⟩
      have := hQ.out; simp at this; subst this; simp; split <;> omega
    · have e : R = q := by have := hQ.out; have := HR.out; simp at *; omega
      subst e
      clear hQ
      go_wp2
      go_ret
      exact ⟨rfl, rfl⟩
theorem fit_le (g c m k : Nat) : fitN g c m k ≤ 16 := by unfold fitN; omega
theorem check_ok (g c mn mx : Int) (w : World) (hw : Shp.Wf ⟨g, c, mn, mx⟩) (h : Shp.ok ⟨g, c, mn, mx⟩ = true) :
    Calls Tryd.prog 12 #[.agg #[.int .i64 g, .int .i64 c, .int .i64 mn, .int .i64 mx]] w fun e w' => e = .returned (.int .i64 0) ∧ Below w.heap.size w w' := by
  have := check_any g c mn mx w hw.g hw.c hw.mn hw.mx; rw [h] at this; exact this
theorem check_no (g c mn mx : Int) (w : World) (hw : Shp.Wf ⟨g, c, mn, mx⟩) (h : Shp.ok ⟨g, c, mn, mx⟩ = false) :
    Calls Tryd.prog 12 #[.agg #[.int .i64 g, .int .i64 c, .int .i64 mn, .int .i64 mx]] w fun e w' => e = .returned (.int .i64 1) ∧ Below w.heap.size w w' := by
  have := check_any g c mn mx w hw.g hw.c hw.mn hw.mx; rw [h] at this; exact this
theorem Shp.nat {g c mn mx : Int} (h : Shp.ok ⟨g, c, mn, mx⟩ = true) : ∃ a b : Nat, g = a ∧ c = b ∧ a ≤ 16 ∧ b ≤ 1024 ∧ 0 < a + b := by
  unfold Shp.ok at h; simp at h
  exact ⟨g.toNat, c.toNat, by omega, by omega, by omega, by omega, by omega⟩

set_option maxRecDepth 100000 in
set_option maxHeartbeats 1000000 in
theorem fits_bad (g c mn mx n d : Int) (m : Nat) (k : Int) (w : World) (hw : Shp.Wf ⟨g, c, mn, mx⟩) (h : Shp.ok ⟨g, c, mn, mx⟩ = false) :
    Calls Tryd.prog 21 #[.agg #[.int .i64 g, .int .i64 c, .int .i64 mn, .int .i64 mx], .agg #[.int .i64 n, .int .i64 d, .int .u64 (m : Nat), .int .i64 k]] w fun e w' => e = .returned (.int .i64 0) ∧ Below w.heap.size w w' := by
  have bS := heap_alloc_new w (.cells #[.int .i64 g, .int .i64 c, .int .i64 mn, .int .i64 mx] 24)
  have bF := heap_alloc_new (w.alloc (.cells #[.int .i64 g, .int .i64 c, .int .i64 mn, .int .i64 mx] 24)) (.cells #[.int .i64 n, .int .i64 d, .int .u64 (m : Nat), .int .i64 k] 40)
  have hB1 := (Below.refl w.heap.size w).alloc (Nat.le_refl _) (.cells #[.int .i64 g, .int .i64 c, .int .i64 mn, .int .i64 mx] 24)
  have hB2 := hB1.alloc (by simp) (.cells #[.int .i64 n, .int .i64 d, .int .u64 (m : Nat), .int .i64 k] 40)
  have bS2 := (Below.heap_alloc (w.alloc (.cells #[.int .i64 g, .int .i64 c, .int .i64 mn, .int .i64 mx] 24)) (.cells #[.int .i64 n, .int .i64 d, .int .u64 (m : Nat), .int .i64 k] 40) _ (blk_lt bS)).trans bS
  rw [World.size_alloc] at bF
  have hC := Lib.hid (fun W => check_no g c mn mx W hw h)
  have HB := Lib.hid hB2
  clear hw h bS bF hB1 bS2 hB2
  go_enter Tryd.func21, Tryd.ntmps21
  go_wp2_with (go_at_call 12; refine (hC.out _).mono ?_; rintro e w1 ⟨rfl, hb1⟩)
  go_ret
  exact ⟨rfl, below_step HB.out hb1⟩

set_option maxRecDepth 100000 in
set_option maxHeartbeats 1000000 in
theorem fits_neg (g c mn mx n d : Int) (m : Nat) (k : Int) (w : World) (hw : Shp.Wf ⟨g, c, mn, mx⟩) (h : Shp.ok ⟨g, c, mn, mx⟩ = true) (hk : k < 0) :
    Calls Tryd.prog 21 #[.agg #[.int .i64 g, .int .i64 c, .int .i64 mn, .int .i64 mx], .agg #[.int .i64 n, .int .i64 d, .int .u64 (m : Nat), .int .i64 k]] w fun e w' => e = .returned (.int .i64 0) ∧ Below w.heap.size w w' := by
  have bS := heap_alloc_new w (.cells #[.int .i64 g, .int .i64 c, .int .i64 mn, .int .i64 mx] 24)
  have bF := heap_alloc_new (w.alloc (.cells #[.int .i64 g, .int .i64 c, .int .i64 mn, .int .i64 mx] 24)) (.cells #[.int .i64 n, .int .i64 d, .int .u64 (m : Nat), .int .i64 k] 40)
  have hB1 := (Below.refl w.heap.size w).alloc (Nat.le_refl _) (.cells #[.int .i64 g, .int .i64 c, .int .i64 mn, .int .i64 mx] 24)
  have hB2 := hB1.alloc (by simp) (.cells #[.int .i64 n, .int .i64 d, .int .u64 (m : Nat), .int .i64 k] 40)
  have bS2 := (Below.heap_alloc (w.alloc (.cells #[.int .i64 g, .int .i64 c, .int .i64 mn, .int .i64 mx] 24)) (.cells #[.int .i64 n, .int .i64 d, .int .u64 (m : Nat), .int .i64 k] 40) _ (blk_lt bS)).trans bS
  rw [World.size_alloc] at bF
  have hC := Lib.hid (fun W => check_ok g c mn mx W hw h)
  have HB := Lib.hid hB2
  have HF := Lib.hid bF
  have t0 : decide (k < 0) = true := decide_eq_true hk
  clear hw h bS bF hB1 bS2 hB2 hk
  go_enter Tryd.func21, Tryd.ntmps21
  go_wp2_with (go_at_call 12; refine (hC.out _).mono ?_; rintro e w1 ⟨rfl, hb1⟩; have k3 : w1.cell? ⟨w.heap.size + 1, 2 + 1, none⟩ = some (.int .i64 k) := (hb1.cell (p := ⟨w.heap.size + 1, 2 + 1, none⟩) (by simp)).trans (cell_blk (i := 3) HF.out rfl))
  go_ret
  exact ⟨rfl, below_step HB.out hb1⟩

set_option maxRecDepth 100000 in
set_option maxHeartbeats 1000000 in
theorem fits_ok (g c : Nat) (mn mx n d : Int) (m k : Nat) (w : World) (hw : Shp.Wf ⟨g, c, mn, mx⟩) (h : Shp.ok ⟨g, c, mn, mx⟩ = true) (hm : m < 18446744073709551616) (hk : k ≤ 9223372036854775807) (hT : Tab w) :
    Calls Tryd.prog 21 #[.agg #[.int .i64 (g : Int), .int .i64 (c : Int), .int .i64 mn, .int .i64 mx], .agg #[.int .i64 n, .int .i64 d, .int .u64 (m : Nat), .int .i64 (k : Int)]] w fun e w' => e = .returned (.int .i64 (fitN g c (MM.cnt m) k : Nat)) ∧ Below w.heap.size w w' := by
  have bS := heap_alloc_new w (.cells #[.int .i64 (g : Int), .int .i64 (c : Int), .int .i64 mn, .int .i64 mx] 24)
  have bF := heap_alloc_new (w.alloc (.cells #[.int .i64 (g : Int), .int .i64 (c : Int), .int .i64 mn, .int .i64 mx] 24)) (.cells #[.int .i64 n, .int .i64 d, .int .u64 (m : Nat), .int .i64 (k : Int)] 40)
  have hB1 := (Below.refl w.heap.size w).alloc (Nat.le_refl _) (.cells #[.int .i64 (g : Int), .int .i64 (c : Int), .int .i64 mn, .int .i64 mx] 24)
  have hB2 := hB1.alloc (by simp) (.cells #[.int .i64 n, .int .i64 d, .int .u64 (m : Nat), .int .i64 (k : Int)] 40)
  have bS2 := (Below.heap_alloc (w.alloc (.cells #[.int .i64 (g : Int), .int .i64 (c : Int), .int .i64 mn, .int .i64 mx] 24)) (.cells #[.int .i64 n, .int .i64 d, .int .u64 (m : Nat), .int .i64 (k : Int)] 40) _ (blk_lt bS)).trans bS
  rw [World.size_alloc] at bF
  have hC := Lib.hid (fun W => check_ok g c mn mx W hw h)
  have HB := Lib.hid hB2
  have HT := Lib.hid hT
  have HF := Lib.hid (And.intro bS2 bF)
  obtain ⟨a, b, ha, hb, ha2, hb2, _⟩ := Shp.nat h
  have hg16 : g ≤ 16 := by omega
  have hc16 : c ≤ 1024 := by omega
  have t0 : decide ((k : Int) < 0) = false := by simp
  have hS := Lib.hid (fun W hW => size_any m hm W hW)
  obtain ⟨u, hu⟩ : ∃ u, MM.cnt m = u := ⟨_, rfl⟩
  have hu64 : u ≤ 64 := by rw [← hu]; exact MM.cnt_le m
  rw [hu] at hS ⊢
  have hT1 := Lib.hid (fun W => times_any g u (by omega) (by omega) W)
  have hT2 := Lib.hid (fun W => times_any c k (by omega) hk W)
  obtain ⟨q, hq⟩ : ∃ q, q = fitN g c u k := ⟨_, rfl⟩
  obtain ⟨x, hx⟩ : ∃ x, x = tms g u := ⟨_, rfl⟩
  obtain ⟨y, hy⟩ : ∃ y, y = tms c k := ⟨_, rfl⟩
  have hxl : x ≤ 9223372036854775807 := by rw [hx]; exact tms_le _ _ (by omega)
  have hyl : y ≤ 9223372036854775807 := by rw [hy]; exact tms_le _ _ hk
  rw [← hq]
  rw [← hx] at hT1
  rw [← hy] at hT2
  have HQ := Lib.hid (show q = min (min 16 x) y by rw [hq, hx, hy]; rfl)
  clear hw h bS bF hB1 bS2 hB2 hT hu hq hx hy ha hb
  go_enter Tryd.func21, Tryd.ntmps21
  go_wp2_with fail
  refine (hC.out _).mono ?_
  rintro e w1 ⟨rfl, hb1⟩
  have hs1 : w.heap.size + 1 + 1 ≤ w1.heap.size := by have := hb1.size; simpa using this
  have s0 : w1.cell? ⟨w.heap.size, 0, none⟩ = some (.int .i64 (g : Int)) := (hb1.cell (p := ⟨w.heap.size, 0, none⟩) (by simp <;> omega)).trans (cell_blk (i := 0) HF.out.1 rfl)
  have s1 : w1.cell? ⟨w.heap.size, 1, none⟩ = some (.int .i64 (c : Int)) := (hb1.cell (p := ⟨w.heap.size, 1, none⟩) (by simp <;> omega)).trans (cell_blk (i := 1) HF.out.1 rfl)
  have f2 : w1.cell? ⟨w.heap.size + 1, 2, none⟩ = some (.int .u64 (m : Nat)) := (hb1.cell (p := ⟨w.heap.size + 1, 2, none⟩) (by simp <;> omega)).trans (cell_blk (i := 2) HF.out.2 rfl)
  have f3 : w1.cell? ⟨w.heap.size + 1, 3, none⟩ = some (.int .i64 (k : Int)) := (hb1.cell (p := ⟨w.heap.size + 1, 3, none⟩) (by simp <;> omega)).trans (cell_blk (i := 3) HF.out.2 rfl)
  have HT1 := Lib.hid ((HT.out.below HB.out HT.out.size).below (hb1.mono HB.out.size) (by have := HT.out.size; have := HB.out.size; omega))
  go_wp2_with fail
  refine held_begin (fun w' : World => w'.cell? ⟨w.heap.size, 0, none⟩ = some (.int .i64 (g : Int)) ∧ w'.cell? ⟨w.heap.size, 1, none⟩ = some (.int .i64 (c : Int)) ∧ w'.cell? ⟨w.heap.size + 1, 2, none⟩ = some (.int .u64 (m : Nat)) ∧ w'.cell? ⟨w.heap.size + 1, 3, none⟩ = some (.int .i64 (k : Int))) (by kernel_rfl) ?_
  have hBh0 : Below w1.heap.size w1 w1.drew := (Below.refl _ _).drew
  have hSh0 : (fun w' : World => w'.cell? ⟨w.heap.size, 0, none⟩ = some (.int .i64 (g : Int)) ∧ w'.cell? ⟨w.heap.size, 1, none⟩ = some (.int .i64 (c : Int)) ∧ w'.cell? ⟨w.heap.size + 1, 2, none⟩ = some (.int .u64 (m : Nat)) ∧ w'.cell? ⟨w.heap.size + 1, 3, none⟩ = some (.int .i64 (k : Int))) w1.drew := ⟨s0, s1, f2, f3⟩
  refine held_take (v := ?_) 0 13 rfl rfl (by kernel_rfl) (by kernel_rfl) (by kernel_rfl) (fun _ _ _ h => h) ⟨by rfl, ?_⟩ hSh0 ?_
  rotate_left
  · intro w' hw'; obtain ⟨x0, x1, x2, x3⟩ := hw'; go_simp; (try with_reducible rfl)
  simp only [Act.put, List.setIfInBounds_toArray, List.set_cons_zero, List.set_cons_succ]
  refine held_take (v := ?_) 1 14 rfl rfl (by kernel_rfl) (by kernel_rfl) (by kernel_rfl) (fun _ _ _ h => h) ⟨by rfl, ?_⟩ hSh0 ?_
  rotate_left
  · intro w' hw'; obtain ⟨x0, x1, x2, x3⟩ := hw'; go_simp; (try with_reducible rfl)
  simp only [Act.put, List.setIfInBounds_toArray, List.set_cons_zero, List.set_cons_succ]
  refine held_take (v := ?_) 2 15 rfl rfl (by kernel_rfl) (by kernel_rfl) (by kernel_rfl) (fun _ _ _ h => h) ⟨by rfl, ?_⟩ hSh0 ?_
  rotate_left
  · intro w' hw'; obtain ⟨x0, x1, x2, x3⟩ := hw'; go_simp; (try with_reducible rfl)
  simp only [Act.put, List.setIfInBounds_toArray, List.set_cons_zero, List.set_cons_succ]
  refine held_take (v := ?_) 3 16 rfl rfl (by kernel_rfl) (by kernel_rfl) (by kernel_rfl) (fun _ _ _ h => h) ⟨by rfl, ?_⟩ hSh0 ?_
  rotate_left
  · intro w' hw'; obtain ⟨x0, x1, x2, x3⟩ := hw'; go_simp; (try with_reducible rfl)
  simp only [Act.put, List.setIfInBounds_toArray, List.set_cons_zero, List.set_cons_succ]
  refine held_take (v := ?_) 6 19 rfl rfl (by kernel_rfl) (by kernel_rfl) (by kernel_rfl) (fun _ _ _ h => h) ⟨by rfl, ?_⟩ hSh0 ?_
  rotate_left
  · intro w' hw'; obtain ⟨x0, x1, x2, x3⟩ := hw'; go_simp; (try with_reducible rfl)
  simp only [Act.put, List.setIfInBounds_toArray, List.set_cons_zero, List.set_cons_succ]
  refine held_take (v := ?_) 7 20 rfl rfl (by kernel_rfl) (by kernel_rfl) (by kernel_rfl) (fun _ _ _ h => h) ⟨by rfl, ?_⟩ hSh0 ?_
  rotate_left
  · intro w' hw'; obtain ⟨x0, x1, x2, x3⟩ := hw'; go_simp; (try with_reducible rfl)
  simp only [Act.put, List.setIfInBounds_toArray, List.set_cons_zero, List.set_cons_succ]
  refine held_take (v := ?_) 8 21 rfl rfl (by kernel_rfl) (by kernel_rfl) (by kernel_rfl) (fun _ _ _ h => h) ⟨by rfl, ?_⟩ hSh0 ?_
  rotate_left
  · intro w' hw'; obtain ⟨x0, x1, x2, x3⟩ := hw'; go_simp; (try with_reducible rfl)
  simp only [Act.put, List.setIfInBounds_toArray, List.set_cons_zero, List.set_cons_succ]
  refine held_take (v := ?_) 9 22 rfl rfl (by kernel_rfl) (by kernel_rfl) (by kernel_rfl) (fun _ _ _ h => h) ⟨by rfl, ?_⟩ hSh0 ?_
  rotate_left
  · intro w' hw'; obtain ⟨x0, x1, x2, x3⟩ := hw'; go_simp; (try with_reducible rfl)
  simp only [Act.put, List.setIfInBounds_toArray, List.set_cons_zero, List.set_cons_succ]
  refine held_one 4 rfl (by kernel_rfl) (by rfl) (fun K hK => ?_)
  go_simp
  go_at_call 29
  refine (hS.out w1.drew (HT1.out.below hBh0 HT1.out.size)).mono ?_
  rintro e wh1 ⟨rfl, hbh1⟩
  have hBh1 : Below w1.heap.size w1 wh1 := below_step hBh0 hbh1
  have hSh1 : (fun w' : World => w'.cell? ⟨w.heap.size, 0, none⟩ = some (.int .i64 (g : Int)) ∧ w'.cell? ⟨w.heap.size, 1, none⟩ = some (.int .i64 (c : Int)) ∧ w'.cell? ⟨w.heap.size + 1, 2, none⟩ = some (.int .u64 (m : Nat)) ∧ w'.cell? ⟨w.heap.size + 1, 3, none⟩ = some (.int .i64 (k : Int))) wh1 := ⟨(hBh1.cell (p := ⟨w.heap.size, 0, none⟩) (show w.heap.size < w1.heap.size by omega)).trans s0, (hBh1.cell (p := ⟨w.heap.size, 1, none⟩) (show w.heap.size < w1.heap.size by omega)).trans s1, (hBh1.cell (p := ⟨w.heap.size + 1, 2, none⟩) (show w.heap.size + 1 < w1.heap.size by omega)).trans f2, (hBh1.cell (p := ⟨w.heap.size + 1, 3, none⟩) (show w.heap.size + 1 < w1.heap.size by omega)).trans f3⟩
  refine hK.out _ _ hSh1 ?_
  clear hK K
  refine held_one 5 rfl (by kernel_rfl) (by rfl) (fun K hK => ?_)
  go_simp
  go_at_call 28
  refine (hT1.out _).mono ?_
  rintro e w' ⟨rfl, rfl⟩
  refine hK.out _ _ hSh1 ?_
  clear hK K
  refine held_one 10 rfl (by kernel_rfl) (by rfl) (fun K hK => ?_)
  go_simp
  go_at_call 28
  refine (hT2.out _).mono ?_
  rintro e w' ⟨rfl, rfl⟩
  refine hK.out _ _ hSh1 ?_
  clear hK K
  refine held_one 11 rfl (by kernel_rfl) (by rfl) (fun K hK => ?_)
  go_simp
  obtain ⟨wh2, hwh2⟩ : ∃ wld, wld = wh1.alloc (.cells #[.int .i64 (x : Nat), .int .i64 (y : Nat)] 3) := ⟨_, rfl⟩
  have hBh2 : Below w1.heap.size w1 wh2 := by rw [hwh2]; exact hBh1.alloc hBh1.size _
  have hSh2 : (fun w' : World => w'.cell? ⟨w.heap.size, 0, none⟩ = some (.int .i64 (g : Int)) ∧ w'.cell? ⟨w.heap.size, 1, none⟩ = some (.int .i64 (c : Int)) ∧ w'.cell? ⟨w.heap.size + 1, 2, none⟩ = some (.int .u64 (m : Nat)) ∧ w'.cell? ⟨w.heap.size + 1, 3, none⟩ = some (.int .i64 (k : Int))) wh2 := ⟨(hBh2.cell (p := ⟨w.heap.size, 0, none⟩) (show w.heap.size < w1.heap.size by omega)).trans s0, (hBh2.cell (p := ⟨w.heap.size, 1, none⟩) (show w.heap.size < w1.heap.size by omega)).trans s1, (hBh2.cell (p := ⟨w.heap.size + 1, 2, none⟩) (show w.heap.size + 1 < w1.heap.size by omega)).trans f2, (hBh2.cell (p := ⟨w.heap.size + 1, 3, none⟩) (show w.heap.size + 1 < w1.heap.size by omega)).trans f3⟩
  refine hK.out _ _ (show _ from by rw [← hwh2]; exact hSh2) ?_
  clear hK K
  try simp only [Act.put, List.setIfInBounds_toArray, List.set_cons_zero, List.set_cons_succ]
  rw [← hwh2]
  have Hwh2 := Lib.hid hwh2
  clear hwh2
  refine held_one 12 rfl (by kernel_rfl) (by rfl) (fun K hK => ?_)
  go_simp
  go_at_call 27
  refine (show Calls _ _ _ wh2 (fun e w2 => e = .returned (.int .i64 (q : Nat)) ∧ wh2 = w2) from (by have h9 := least_any wh1.heap.size x y wh2 hxl hyl (by rw [Hwh2.out]; go_simp) (by rw [Hwh2.out]; go_simp); rw [← HQ.out] at h9; exact h9)).mono ?_
  rintro e w' ⟨rfl, rfl⟩
  refine hK.out _ _ hSh2 ?_
  clear hK K
  refine held_take (v := ?_) 13 4 rfl rfl (by kernel_rfl) (by kernel_rfl) (by kernel_rfl) (fun _ _ _ h => h) ⟨by rfl, ?_⟩ hSh2 ?_
  rotate_left
  · intro w' hw'; obtain ⟨x0, x1, x2, x3⟩ := hw'; go_simp; (try with_reducible rfl)
  simp only [Act.put, List.setIfInBounds_toArray, List.set_cons_zero, List.set_cons_succ]
  refine wpAnyH_done (by kernel_rfl) ?_ _
  go_wp2
  go_ret
  exact ⟨rfl, (below_step HB.out hb1).trans (hBh2.mono (by have := HB.out.size; have := hb1.size; omega))⟩
end Go.Proofs.YteflblcbmkcidaaDoor
