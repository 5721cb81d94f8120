/- Piece of package shape: a member's slot, cut out of what is free. -/
import Derived.RegionTactic
import Derived.BigRegion
import Derived.Test.YteflblcbmkcidaaDoorShapeFits
namespace Go.Proofs.YteflblcbmkcidaaDoor
open Go.RowKit

/-- A block that a call finds stays as it was. -/
theorem chain_new {w W : World} {cs : Array Value} {t : TypeId} (h : W = w.alloc (.cells cs t)) : W.heap[w.heap.size]? = some (.cells cs t (0, 0)) ∧ W.heap.size = w.heap.size + 1 ∧ Below w.heap.size w W := by
  subst h; exact ⟨heap_alloc_new w _, by simp, (Below.refl _ w).alloc (Nat.le_refl _) _⟩
theorem fit_pos {g c m k : Nat} (h : 0 < fitN g c m k) : g ≤ m ∧ c ≤ k := by
  unfold fitN tms at h
  constructor
  · by_cases e : g = 0
    · omega
    · rw [if_neg e] at h
      rcases Nat.lt_or_ge m g with h2 | h2
      · rw [Nat.div_eq_of_lt h2] at h; omega
      · exact h2
  · by_cases e : c = 0
    · omega
    · rw [if_neg e] at h
      rcases Nat.lt_or_ge k c with h2 | h2
      · rw [Nat.div_eq_of_lt h2] at h; omega
      · exact h2
set_option maxRecDepth 100000 in
set_option maxHeartbeats 2000000 in
theorem piece_bad (g c mn mx n d : Int) (m : Nat) (k : Int) (w : World) (hw : Shp.Wf ⟨g, c, mn, mx⟩) (h : Shp.ok ⟨g, c, mn, mx⟩ = false) :
    Calls Tryd.prog 25 #[.agg #[.int .i64 g, .int .i64 c, .int .i64 mn, .int .i64 mx], .agg #[.int .i64 n, .int .i64 d, .int .u64 (m : Nat), .int .i64 k]] w fun e w' => e = .returned (.tuple #[.agg #[.int .i64 0, .int .i64 0, .int .u64 0, .int .i64 0], .agg #[.int .i64 0, .int .i64 0, .int .u64 0, .int .i64 0], .int .i64 1]) ∧ Below w.heap.size w w' := by
  have hC := Lib.hid (fun W => check_no g c mn mx W hw h)
  obtain ⟨W4, hW4⟩ : ∃ W, W = (((w.alloc (.cells #[.int .i64 g, .int .i64 c, .int .i64 mn, .int .i64 mx] 24)).alloc (.cells #[.int .i64 n, .int .i64 d, .int .u64 (m : Nat), .int .i64 k] 40)).alloc (.cells #[.int .i64 0, .int .i64 0, .int .u64 0, .int .i64 0] 41)).alloc (.cells #[.int .i64 0, .int .i64 0, .int .u64 0, .int .i64 0] 40) := ⟨_, rfl⟩
  have hB4 : Below w.heap.size w W4 := by rw [hW4]; exact ((((Below.refl w.heap.size w).alloc (Nat.le_refl _) _).alloc (by simp) _).alloc (by simp <;> omega) _).alloc (by simp <;> omega) _
  have hz4 : W4.heap.size = w.heap.size + 1 + 1 + 1 + 1 := by rw [hW4]; simp
  have b0 : W4.heap[w.heap.size]? = some (.cells #[.int .i64 g, .int .i64 c, .int .i64 mn, .int .i64 mx] 24 (0, 0)) := by
    rw [hW4]; exact (Below.heap_alloc _ _ _ (by simp <;> omega)).trans ((Below.heap_alloc _ _ _ (by simp <;> omega)).trans ((Below.heap_alloc _ _ _ (by simp)).trans (heap_alloc_new w _)))
  have b1 : W4.heap[w.heap.size + 1]? = some (.cells #[.int .i64 n, .int .i64 d, .int .u64 (m : Nat), .int .i64 k] 40 (0, 0)) := by
    have := heap_alloc_new (w.alloc (.cells #[.int .i64 g, .int .i64 c, .int .i64 mn, .int .i64 mx] 24)) (.cells #[.int .i64 n, .int .i64 d, .int .u64 (m : Nat), .int .i64 k] 40)
    rw [World.size_alloc] at this
    rw [hW4]; exact (Below.heap_alloc _ _ _ (by simp <;> omega)).trans ((Below.heap_alloc _ _ _ (by simp)).trans this)
  have b2 : W4.heap[w.heap.size + 1 + 1]? = some (.cells #[.int .i64 0, .int .i64 0, .int .u64 0, .int .i64 0] 41 (0, 0)) := by
    have := heap_alloc_new ((w.alloc (.cells #[.int .i64 g, .int .i64 c, .int .i64 mn, .int .i64 mx] 24)).alloc (.cells #[.int .i64 n, .int .i64 d, .int .u64 (m : Nat), .int .i64 k] 40)) (.cells #[.int .i64 0, .int .i64 0, .int .u64 0, .int .i64 0] 41)
    rw [World.size_alloc, World.size_alloc] at this
    rw [hW4]; exact (Below.heap_alloc _ _ _ (by simp)).trans this
  have b3 : W4.heap[w.heap.size + 1 + 1 + 1]? = some (.cells #[.int .i64 0, .int .i64 0, .int .u64 0, .int .i64 0] 40 (0, 0)) := by
    have := heap_alloc_new (((w.alloc (.cells #[.int .i64 g, .int .i64 c, .int .i64 mn, .int .i64 mx] 24)).alloc (.cells #[.int .i64 n, .int .i64 d, .int .u64 (m : Nat), .int .i64 k] 40)).alloc (.cells #[.int .i64 0, .int .i64 0, .int .u64 0, .int .i64 0] 41)) (.cells #[.int .i64 0, .int .i64 0, .int .u64 0, .int .i64 0] 40)
    rw [World.size_alloc, World.size_alloc, World.size_alloc] at this
    rw [hW4]; exact this
  have HX := Lib.hid (And.intro hB4 (And.intro b0 (And.intro b1 (And.intro b2 b3))))
  have HW4 := Lib.hid hW4
  have hw4 : w.heap.size + 1 + 1 + 1 + 1 ≤ W4.heap.size := by omega
  clear hw h
  clear hW4 hB4 hz4 b0 b1 b2 b3
  go_enter Tryd.func25, Tryd.ntmps25
  go_wp2_with fail
  rw [← HW4.out]
  refine (hC.out _).mono ?_
  rintro e w1 ⟨rfl, hb1⟩
  have hs1 := hb1.size
  have pB := (hb1.block _ (show w.heap.size + 1 + 1 < W4.heap.size by omega)).trans HX.out.2.2.2.1
  have p0 : w1.cell? ⟨w.heap.size + 1 + 1, 0, none⟩ = _ := cell_blk (i := 0) pB rfl
  have pz0 : w1.frozen? ⟨w.heap.size + 1 + 1, 0, none⟩ = _ := frozen_blk pB
  have p1 : w1.cell? ⟨w.heap.size + 1 + 1, 1, none⟩ = _ := cell_blk (i := 1) pB rfl
  have pz1 : w1.frozen? ⟨w.heap.size + 1 + 1, 1, none⟩ = _ := frozen_blk pB
  have p2 : w1.cell? ⟨w.heap.size + 1 + 1, 2, none⟩ = _ := cell_blk (i := 2) pB rfl
  have pz2 : w1.frozen? ⟨w.heap.size + 1 + 1, 2, none⟩ = _ := frozen_blk pB
  have p3 : w1.cell? ⟨w.heap.size + 1 + 1, 3, none⟩ = _ := cell_blk (i := 3) pB rfl
  have pz3 : w1.frozen? ⟨w.heap.size + 1 + 1, 3, none⟩ = _ := frozen_blk pB
  clear pB
  have rB := (hb1.block _ (show w.heap.size + 1 + 1 + 1 < W4.heap.size by omega)).trans HX.out.2.2.2.2
  have r0 : w1.cell? ⟨w.heap.size + 1 + 1 + 1, 0, none⟩ = _ := cell_blk (i := 0) rB rfl
  have rz0 : w1.frozen? ⟨w.heap.size + 1 + 1 + 1, 0, none⟩ = _ := frozen_blk rB
  have r1 : w1.cell? ⟨w.heap.size + 1 + 1 + 1, 1, none⟩ = _ := cell_blk (i := 1) rB rfl
  have rz1 : w1.frozen? ⟨w.heap.size + 1 + 1 + 1, 1, none⟩ = _ := frozen_blk rB
  have r2 : w1.cell? ⟨w.heap.size + 1 + 1 + 1, 2, none⟩ = _ := cell_blk (i := 2) rB rfl
  have rz2 : w1.frozen? ⟨w.heap.size + 1 + 1 + 1, 2, none⟩ = _ := frozen_blk rB
  have r3 : w1.cell? ⟨w.heap.size + 1 + 1 + 1, 3, none⟩ = _ := cell_blk (i := 3) rB rfl
  have rz3 : w1.frozen? ⟨w.heap.size + 1 + 1 + 1, 3, none⟩ = _ := frozen_blk rB
  clear rB
  go_wp2
  refine bodyPost_ret (v := .tuple #[.agg #[.int .i64 0, .int .i64 0, .int .u64 0, .int .i64 0], .agg #[.int .i64 0, .int .i64 0, .int .u64 0, .int .i64 0], .int .i64 1]) (by simp [results, Tryd.results25, go_sem, p0, p1, p2, p3, r0, r1, r2, r3]) rfl ?_
  exact ⟨rfl, ((((((((HX.out.1.trans (hb1.mono (by omega))).setCell (by simp <;> omega) _).setCell (by simp <;> omega) _).setCell (by simp <;> omega) _).setCell (by simp <;> omega) _).setCell (by simp <;> omega) _).setCell (by simp <;> omega) _).setCell (by simp <;> omega) _).setCell (by simp <;> omega) _⟩
set_option maxRecDepth 100000 in
set_option maxHeartbeats 2000000 in
theorem piece_full (g c mn mx n d : Int) (m : Nat) (k : Int) (w : World) (hw : Shp.Wf ⟨g, c, mn, mx⟩) (h : Shp.ok ⟨g, c, mn, mx⟩ = true)
    (hF : ∀ W, Below w.heap.size w W → Calls Tryd.prog 21 #[.agg #[.int .i64 g, .int .i64 c, .int .i64 mn, .int .i64 mx], .agg #[.int .i64 n, .int .i64 d, .int .u64 (m : Nat), .int .i64 k]] W fun e w' => e = .returned (.int .i64 0) ∧ Below W.heap.size W w') :
    Calls Tryd.prog 25 #[.agg #[.int .i64 g, .int .i64 c, .int .i64 mn, .int .i64 mx], .agg #[.int .i64 n, .int .i64 d, .int .u64 (m : Nat), .int .i64 k]] w fun e w' => e = .returned (.tuple #[.agg #[.int .i64 0, .int .i64 0, .int .u64 0, .int .i64 0], .agg #[.int .i64 0, .int .i64 0, .int .u64 0, .int .i64 0], .int .i64 7]) ∧ Below w.heap.size w w' := by
  have hC := Lib.hid (fun W => check_ok g c mn mx W hw h)
  have HF := Lib.hid hF
  obtain ⟨W4, hW4⟩ : ∃ W, W = (((w.alloc (.cells #[.int .i64 g, .int .i64 c, .int .i64 mn, .int .i64 mx] 24)).alloc (.cells #[.int .i64 n, .int .i64 d, .int .u64 (m : Nat), .int .i64 k] 40)).alloc (.cells #[.int .i64 0, .int .i64 0, .int .u64 0, .int .i64 0] 41)).alloc (.cells #[.int .i64 0, .int .i64 0, .int .u64 0, .int .i64 0] 40) := ⟨_, rfl⟩
  have hB4 : Below w.heap.size w W4 := by rw [hW4]; exact ((((Below.refl w.heap.size w).alloc (Nat.le_refl _) _).alloc (by simp) _).alloc (by simp <;> omega) _).alloc (by simp <;> omega) _
  have hz4 : W4.heap.size = w.heap.size + 1 + 1 + 1 + 1 := by rw [hW4]; simp
  have b0 : W4.heap[w.heap.size]? = some (.cells #[.int .i64 g, .int .i64 c, .int .i64 mn, .int .i64 mx] 24 (0, 0)) := by
    rw [hW4]; exact (Below.heap_alloc _ _ _ (by simp <;> omega)).trans ((Below.heap_alloc _ _ _ (by simp <;> omega)).trans ((Below.heap_alloc _ _ _ (by simp)).trans (heap_alloc_new w _)))
  have b1 : W4.heap[w.heap.size + 1]? = some (.cells #[.int .i64 n, .int .i64 d, .int .u64 (m : Nat), .int .i64 k] 40 (0, 0)) := by
    have := heap_alloc_new (w.alloc (.cells #[.int .i64 g, .int .i64 c, .int .i64 mn, .int .i64 mx] 24)) (.cells #[.int .i64 n, .int .i64 d, .int .u64 (m : Nat), .int .i64 k] 40)
    rw [World.size_alloc] at this
    rw [hW4]; exact (Below.heap_alloc _ _ _ (by simp <;> omega)).trans ((Below.heap_alloc _ _ _ (by simp)).trans this)
  have b2 : W4.heap[w.heap.size + 1 + 1]? = some (.cells #[.int .i64 0, .int .i64 0, .int .u64 0, .int .i64 0] 41 (0, 0)) := by
    have := heap_alloc_new ((w.alloc (.cells #[.int .i64 g, .int .i64 c, .int .i64 mn, .int .i64 mx] 24)).alloc (.cells #[.int .i64 n, .int .i64 d, .int .u64 (m : Nat), .int .i64 k] 40)) (.cells #[.int .i64 0, .int .i64 0, .int .u64 0, .int .i64 0] 41)
    rw [World.size_alloc, World.size_alloc] at this
    rw [hW4]; exact (Below.heap_alloc _ _ _ (by simp)).trans this
  have b3 : W4.heap[w.heap.size + 1 + 1 + 1]? = some (.cells #[.int .i64 0, .int .i64 0, .int .u64 0, .int .i64 0] 40 (0, 0)) := by
    have := heap_alloc_new (((w.alloc (.cells #[.int .i64 g, .int .i64 c, .int .i64 mn, .int .i64 mx] 24)).alloc (.cells #[.int .i64 n, .int .i64 d, .int .u64 (m : Nat), .int .i64 k] 40)).alloc (.cells #[.int .i64 0, .int .i64 0, .int .u64 0, .int .i64 0] 41)) (.cells #[.int .i64 0, .int .i64 0, .int .u64 0, .int .i64 0] 40)
    rw [World.size_alloc, World.size_alloc, World.size_alloc] at this
    rw [hW4]; exact this
  have HX := Lib.hid (And.intro hB4 (And.intro b0 (And.intro b1 (And.intro b2 b3))))
  have HW4 := Lib.hid hW4
  have hw4 : w.heap.size + 1 + 1 + 1 + 1 ≤ W4.heap.size := by omega
  clear hw h hF
  clear hW4 hB4 hz4 b0 b1 b2 b3
  go_enter Tryd.func25, Tryd.ntmps25
  go_wp2_with fail
  rw [← HW4.out]
  refine (hC.out _).mono ?_
  rintro e w1 ⟨rfl, hb1⟩
  have hs1 := hb1.size
  have hB1 := HX.out.1.trans (hb1.mono (by omega))
  have sB := (hb1.block _ (show w.heap.size < W4.heap.size by omega)).trans HX.out.2.1
  have s0 : w1.cell? ⟨w.heap.size, 0, none⟩ = _ := cell_blk (i := 0) sB rfl
  have s1 : w1.cell? ⟨w.heap.size, 1, none⟩ = _ := cell_blk (i := 1) sB rfl
  have s2 : w1.cell? ⟨w.heap.size, 2, none⟩ = _ := cell_blk (i := 2) sB rfl
  have s3 : w1.cell? ⟨w.heap.size, 3, none⟩ = _ := cell_blk (i := 3) sB rfl
  clear sB
  have fB := (hb1.block _ (show w.heap.size + 1 < W4.heap.size by omega)).trans HX.out.2.2.1
  have f0 : w1.cell? ⟨w.heap.size + 1, 0, none⟩ = _ := cell_blk (i := 0) fB rfl
  have f1 : w1.cell? ⟨w.heap.size + 1, 1, none⟩ = _ := cell_blk (i := 1) fB rfl
  have f2 : w1.cell? ⟨w.heap.size + 1, 2, none⟩ = _ := cell_blk (i := 2) fB rfl
  have f3 : w1.cell? ⟨w.heap.size + 1, 3, none⟩ = _ := cell_blk (i := 3) fB rfl
  clear fB
  go_wp2_with fail
  refine (HF.out w1 hB1).mono ?_
  rintro e w2 ⟨rfl, hb2⟩
  have hs2 := hb2.size
  have hb12 : Below W4.heap.size W4 w2 := hb1.trans (hb2.mono hb1.size)
  clear s0 s1 s2 s3 f0 f1 f2 f3
  have pB := (hb12.block _ (show w.heap.size + 1 + 1 < W4.heap.size by omega)).trans HX.out.2.2.2.1
  have p0 : w2.cell? ⟨w.heap.size + 1 + 1, 0, none⟩ = _ := cell_blk (i := 0) pB rfl
  have pz0 : w2.frozen? ⟨w.heap.size + 1 + 1, 0, none⟩ = _ := frozen_blk pB
  have p1 : w2.cell? ⟨w.heap.size + 1 + 1, 1, none⟩ = _ := cell_blk (i := 1) pB rfl
  have pz1 : w2.frozen? ⟨w.heap.size + 1 + 1, 1, none⟩ = _ := frozen_blk pB
  have p2 : w2.cell? ⟨w.heap.size + 1 + 1, 2, none⟩ = _ := cell_blk (i := 2) pB rfl
  have pz2 : w2.frozen? ⟨w.heap.size + 1 + 1, 2, none⟩ = _ := frozen_blk pB
  have p3 : w2.cell? ⟨w.heap.size + 1 + 1, 3, none⟩ = _ := cell_blk (i := 3) pB rfl
  have pz3 : w2.frozen? ⟨w.heap.size + 1 + 1, 3, none⟩ = _ := frozen_blk pB
  clear pB
  have rB := (hb12.block _ (show w.heap.size + 1 + 1 + 1 < W4.heap.size by omega)).trans HX.out.2.2.2.2
  have r0 : w2.cell? ⟨w.heap.size + 1 + 1 + 1, 0, none⟩ = _ := cell_blk (i := 0) rB rfl
  have rz0 : w2.frozen? ⟨w.heap.size + 1 + 1 + 1, 0, none⟩ = _ := frozen_blk rB
  have r1 : w2.cell? ⟨w.heap.size + 1 + 1 + 1, 1, none⟩ = _ := cell_blk (i := 1) rB rfl
  have rz1 : w2.frozen? ⟨w.heap.size + 1 + 1 + 1, 1, none⟩ = _ := frozen_blk rB
  have r2 : w2.cell? ⟨w.heap.size + 1 + 1 + 1, 2, none⟩ = _ := cell_blk (i := 2) rB rfl
  have rz2 : w2.frozen? ⟨w.heap.size + 1 + 1 + 1, 2, none⟩ = _ := frozen_blk rB
  have r3 : w2.cell? ⟨w.heap.size + 1 + 1 + 1, 3, none⟩ = _ := cell_blk (i := 3) rB rfl
  have rz3 : w2.frozen? ⟨w.heap.size + 1 + 1 + 1, 3, none⟩ = _ := frozen_blk rB
  clear rB
  go_wp2
  refine bodyPost_ret (v := .tuple #[.agg #[.int .i64 0, .int .i64 0, .int .u64 0, .int .i64 0], .agg #[.int .i64 0, .int .i64 0, .int .u64 0, .int .i64 0], .int .i64 7]) (by simp [results, Tryd.results25, go_sem, p0, p1, p2, p3, r0, r1, r2, r3]) rfl ?_
  exact ⟨rfl, ((((((((HX.out.1.trans (hb12.mono (by omega))).setCell (by simp <;> omega) _).setCell (by simp <;> omega) _).setCell (by simp <;> omega) _).setCell (by simp <;> omega) _).setCell (by simp <;> omega) _).setCell (by simp <;> omega) _).setCell (by simp <;> omega) _).setCell (by simp <;> omega) _⟩
set_option maxRecDepth 100000 in
set_option maxHeartbeats 2000000 in
theorem piece_ok (g c : Nat) (mn mx n d : Int) (m k : Nat) (w : World) (hw : Shp.Wf ⟨g, c, mn, mx⟩) (h : Shp.ok ⟨g, c, mn, mx⟩ = true) (hm : m < 18446744073709551616) (hk : k ≤ 9223372036854775807) (hT : Tab w) (hfit : 0 < fitN g c (MM.cnt m) k) :
    Calls Tryd.prog 25 #[.agg #[.int .i64 (g : Int), .int .i64 (c : Int), .int .i64 mn, .int .i64 mx], .agg #[.int .i64 n, .int .i64 d, .int .u64 (m : Nat), .int .i64 (k : Int)]] w fun e w' => e = .returned (.tuple #[.agg #[.int .i64 n, .int .i64 d, .int .u64 (MM.low m g : Nat), .int .i64 (c : Int)], .agg #[.int .i64 n, .int .i64 d, .int .u64 (MM.sub m (MM.low m g) : Nat), .int .i64 ((k - c : Nat) : Int)], .int .i64 0]) ∧ Below w.heap.size w w' := by
  obtain ⟨hgm, hck⟩ := fit_pos hfit
  obtain ⟨a, b, ha, hb, ha2, hb2, _⟩ := Shp.nat h
  have hg16 : g ≤ 16 := by omega
  have hc16 : c ≤ 1024 := by omega
  have hC := Lib.hid (fun W => check_ok g c mn mx W hw h)
  have HF := Lib.hid (fun W (hW : Below w.heap.size w W) => fits_ok g c mn mx n d m k W hw h hm hk (hT.below hW hT.size))
  have HL := Lib.hid (fun W (hW : Below w.heap.size w W) => lowest_t m hm g hgm W (hT.below hW hT.size))
  have hsub := not_u64 m (MM.low m g) hm (MM.low_lt m g)
  obtain ⟨q, hq⟩ : ∃ q, q = fitN g c (MM.cnt m) k := ⟨_, rfl⟩
  obtain ⟨lo, hlo⟩ : ∃ lo, lo = MM.low m g := ⟨_, rfl⟩
  obtain ⟨re, hre⟩ : ∃ re, re = MM.sub m lo := ⟨_, rfl⟩
  rw [← hlo] at hsub HL
  rw [← hre] at hsub
  rw [← hq] at HF hfit
  rw [← hlo, ← hre]
  have hq16 : q ≤ 16 := by rw [hq]; exact fit_le _ _ _ _
  have tq : ((q : Int) == 0) = false := by simp; omega
  have hkc : (k : Int) - (c : Int) = ((k - c : Nat) : Int) := by omega
  have Hkc := Lib.hid (And.intro hkc hsub)
  obtain ⟨W4, hW4⟩ : ∃ W, W = (((w.alloc (.cells #[.int .i64 (g : Int), .int .i64 (c : Int), .int .i64 mn, .int .i64 mx] 24)).alloc (.cells #[.int .i64 n, .int .i64 d, .int .u64 (m : Nat), .int .i64 (k : Int)] 40)).alloc (.cells #[.int .i64 0, .int .i64 0, .int .u64 0, .int .i64 0] 41)).alloc (.cells #[.int .i64 0, .int .i64 0, .int .u64 0, .int .i64 0] 40) := ⟨_, rfl⟩
  have hB4 : Below w.heap.size w W4 := by rw [hW4]; exact ((((Below.refl w.heap.size w).alloc (Nat.le_refl _) _).alloc (by simp) _).alloc (by simp <;> omega) _).alloc (by simp <;> omega) _
  have hz4 : W4.heap.size = w.heap.size + 1 + 1 + 1 + 1 := by rw [hW4]; simp
  have b0 : W4.heap[w.heap.size]? = some (.cells #[.int .i64 (g : Int), .int .i64 (c : Int), .int .i64 mn, .int .i64 mx] 24 (0, 0)) := by
    rw [hW4]; exact (Below.heap_alloc _ _ _ (by simp <;> omega)).trans ((Below.heap_alloc _ _ _ (by simp <;> omega)).trans ((Below.heap_alloc _ _ _ (by simp)).trans (heap_alloc_new w _)))
  have b1 : W4.heap[w.heap.size + 1]? = some (.cells #[.int .i64 n, .int .i64 d, .int .u64 (m : Nat), .int .i64 (k : Int)] 40 (0, 0)) := by
    have := heap_alloc_new (w.alloc (.cells #[.int .i64 (g : Int), .int .i64 (c : Int), .int .i64 mn, .int .i64 mx] 24)) (.cells #[.int .i64 n, .int .i64 d, .int .u64 (m : Nat), .int .i64 (k : Int)] 40)
    rw [World.size_alloc] at this
    rw [hW4]; exact (Below.heap_alloc _ _ _ (by simp <;> omega)).trans ((Below.heap_alloc _ _ _ (by simp)).trans this)
  have b2 : W4.heap[w.heap.size + 1 + 1]? = some (.cells #[.int .i64 0, .int .i64 0, .int .u64 0, .int .i64 0] 41 (0, 0)) := by
    have := heap_alloc_new ((w.alloc (.cells #[.int .i64 (g : Int), .int .i64 (c : Int), .int .i64 mn, .int .i64 mx] 24)).alloc (.cells #[.int .i64 n, .int .i64 d, .int .u64 (m : Nat), .int .i64 (k : Int)] 40)) (.cells #[.int .i64 0, .int .i64 0, .int .u64 0, .int .i64 0] 41)
    rw [World.size_alloc, World.size_alloc] at this
    rw [hW4]; exact (Below.heap_alloc _ _ _ (by simp)).trans this
  have b3 : W4.heap[w.heap.size + 1 + 1 + 1]? = some (.cells #[.int .i64 0, .int .i64 0, .int .u64 0, .int .i64 0] 40 (0, 0)) := by
    have := heap_alloc_new (((w.alloc (.cells #[.int .i64 (g : Int), .int .i64 (c : Int), .int .i64 mn, .int .i64 mx] 24)).alloc (.cells #[.int .i64 n, .int .i64 d, .int .u64 (m : Nat), .int .i64 (k : Int)] 40)).alloc (.cells #[.int .i64 0, .int .i64 0, .int .u64 0, .int .i64 0] 41)) (.cells #[.int .i64 0, .int .i64 0, .int .u64 0, .int .i64 0] 40)
    rw [World.size_alloc, World.size_alloc, World.size_alloc] at this
    rw [hW4]; exact this
  have HX := Lib.hid (And.intro hB4 (And.intro b0 (And.intro b1 (And.intro b2 b3))))
  have HW4 := Lib.hid hW4
  have hw4 : w.heap.size + 1 + 1 + 1 + 1 ≤ W4.heap.size := by omega
  clear hw h hT hq hlo hre hgm hck ha hb hkc hsub hfit
  clear hW4 hB4 hz4 b0 b1 b2 b3
  go_enter Tryd.func25, Tryd.ntmps25
  go_wp2_with fail
  rw [← HW4.out]
  refine (hC.out _).mono ?_
  rintro e w1 ⟨rfl, hb1⟩
  have hs1 := hb1.size
  have hB1 := HX.out.1.trans (hb1.mono (by omega))
  have sB := (hb1.block _ (show w.heap.size < W4.heap.size by omega)).trans HX.out.2.1
  have s0 : w1.cell? ⟨w.heap.size, 0, none⟩ = _ := cell_blk (i := 0) sB rfl
  have s1 : w1.cell? ⟨w.heap.size, 1, none⟩ = _ := cell_blk (i := 1) sB rfl
  have s2 : w1.cell? ⟨w.heap.size, 2, none⟩ = _ := cell_blk (i := 2) sB rfl
  have s3 : w1.cell? ⟨w.heap.size, 3, none⟩ = _ := cell_blk (i := 3) sB rfl
  clear sB
  have fB := (hb1.block _ (show w.heap.size + 1 < W4.heap.size by omega)).trans HX.out.2.2.1
  have f0 : w1.cell? ⟨w.heap.size + 1, 0, none⟩ = _ := cell_blk (i := 0) fB rfl
  have f1 : w1.cell? ⟨w.heap.size + 1, 1, none⟩ = _ := cell_blk (i := 1) fB rfl
  have f2 : w1.cell? ⟨w.heap.size + 1, 2, none⟩ = _ := cell_blk (i := 2) fB rfl
  have f3 : w1.cell? ⟨w.heap.size + 1, 3, none⟩ = _ := cell_blk (i := 3) fB rfl
  clear fB
  go_wp2_with fail
  refine (HF.out w1 hB1).mono ?_
  rintro e w2 ⟨rfl, hb2⟩
  have hs2 := hb2.size
  have hb12 : Below W4.heap.size W4 w2 := hb1.trans (hb2.mono hb1.size)
  have hB2 := HX.out.1.trans (hb12.mono (by omega))
  clear s0 s1 s2 s3 f0 f1 f2 f3
  have sB := (hb12.block _ (show w.heap.size < W4.heap.size by omega)).trans HX.out.2.1
  have s0 : w2.cell? ⟨w.heap.size, 0, none⟩ = _ := cell_blk (i := 0) sB rfl
  have s1 : w2.cell? ⟨w.heap.size, 1, none⟩ = _ := cell_blk (i := 1) sB rfl
  have s2 : w2.cell? ⟨w.heap.size, 2, none⟩ = _ := cell_blk (i := 2) sB rfl
  have s3 : w2.cell? ⟨w.heap.size, 3, none⟩ = _ := cell_blk (i := 3) sB rfl
  clear sB
  have fB := (hb12.block _ (show w.heap.size + 1 < W4.heap.size by omega)).trans HX.out.2.2.1
  have f0 : w2.cell? ⟨w.heap.size + 1, 0, none⟩ = _ := cell_blk (i := 0) fB rfl
  have f1 : w2.cell? ⟨w.heap.size + 1, 1, none⟩ = _ := cell_blk (i := 1) fB rfl
  have f2 : w2.cell? ⟨w.heap.size + 1, 2, none⟩ = _ := cell_blk (i := 2) fB rfl
  have f3 : w2.cell? ⟨w.heap.size + 1, 3, none⟩ = _ := cell_blk (i := 3) fB rfl
  clear fB
  go_wp2_with fail
  refine (HL.out w2 hB2).mono ?_
  rintro e w3 ⟨rfl, hst3, _⟩
  have hb3 := hst3.below
  have hs3 := hb3.size
  have hb13 : Below W4.heap.size W4 w3 := hb12.trans (hb3.mono hb12.size)
  clear s0 s1 s2 s3 f0 f1 f2 f3
  have sB := (hb13.block _ (show w.heap.size < W4.heap.size by omega)).trans HX.out.2.1
  have s0 : w3.cell? ⟨w.heap.size, 0, none⟩ = _ := cell_blk (i := 0) sB rfl
  have s1 : w3.cell? ⟨w.heap.size, 1, none⟩ = _ := cell_blk (i := 1) sB rfl
  have s2 : w3.cell? ⟨w.heap.size, 2, none⟩ = _ := cell_blk (i := 2) sB rfl
  have s3 : w3.cell? ⟨w.heap.size, 3, none⟩ = _ := cell_blk (i := 3) sB rfl
  clear sB
  have fB := (hb13.block _ (show w.heap.size + 1 < W4.heap.size by omega)).trans HX.out.2.2.1
  have f0 : w3.cell? ⟨w.heap.size + 1, 0, none⟩ = _ := cell_blk (i := 0) fB rfl
  have f1 : w3.cell? ⟨w.heap.size + 1, 1, none⟩ = _ := cell_blk (i := 1) fB rfl
  have f2 : w3.cell? ⟨w.heap.size + 1, 2, none⟩ = _ := cell_blk (i := 2) fB rfl
  have f3 : w3.cell? ⟨w.heap.size + 1, 3, none⟩ = _ := cell_blk (i := 3) fB rfl
  clear fB
  have l0 : w.heap.size < w3.heap.size := by omega
  have l1 : w.heap.size + 1 < w3.heap.size := by omega
  have l2 : w.heap.size + 1 + 1 < w3.heap.size := by omega
  have l3 : w.heap.size + 1 + 1 + 1 < w3.heap.size := by omega
  have m0 : w.heap.size < w3.heap.size + 1 := by omega
  have m1 : w.heap.size + 1 < w3.heap.size + 1 := by omega
  go_wp2_with fail
  have e44 := Hkc.out
  simp only [e44.1, e44.2]
  clear e44
  generalize hW9 : ((w3.alloc _).alloc _) = W9
  have bA : W9.heap[w3.heap.size]? = some (.cells #[.int .i64 n, .int .i64 d, .int .u64 (lo : Nat), .int .i64 (c : Int)] 41 (0, 0)) := by
    rw [← hW9]; exact (Below.heap_alloc _ _ _ (by simp)).trans (heap_alloc_new w3 _)
  have bD : W9.heap[w3.heap.size + 1]? = some (.cells #[.int .i64 n, .int .i64 d, .int .u64 (re : Nat), .int .i64 ((k - c : Nat) : Int)] 40 (0, 0)) := by
    rw [← hW9]; have := heap_alloc_new (w3.alloc (.cells #[.int .i64 n, .int .i64 d, .int .u64 (lo : Nat), .int .i64 (c : Int)] 41)) (.cells #[.int .i64 n, .int .i64 d, .int .u64 (re : Nat), .int .i64 ((k - c : Nat) : Int)] 40)
    rwa [World.size_alloc] at this
  have hb9 : Below W4.heap.size W4 W9 := by rw [← hW9]; exact (hb13.alloc (by omega) _).alloc (by simp <;> omega) _
  clear s0 s1 s2 s3 f0 f1 f2 f3
  have pB := (hb9.block _ (show w.heap.size + 1 + 1 < W4.heap.size by omega)).trans HX.out.2.2.2.1
  have p0 : W9.cell? ⟨w.heap.size + 1 + 1, 0, none⟩ = _ := cell_blk (i := 0) pB rfl
  have pz0 : W9.frozen? ⟨w.heap.size + 1 + 1, 0, none⟩ = _ := frozen_blk pB
  have p1 : W9.cell? ⟨w.heap.size + 1 + 1, 1, none⟩ = _ := cell_blk (i := 1) pB rfl
  have pz1 : W9.frozen? ⟨w.heap.size + 1 + 1, 1, none⟩ = _ := frozen_blk pB
  have p2 : W9.cell? ⟨w.heap.size + 1 + 1, 2, none⟩ = _ := cell_blk (i := 2) pB rfl
  have pz2 : W9.frozen? ⟨w.heap.size + 1 + 1, 2, none⟩ = _ := frozen_blk pB
  have p3 : W9.cell? ⟨w.heap.size + 1 + 1, 3, none⟩ = _ := cell_blk (i := 3) pB rfl
  have pz3 : W9.frozen? ⟨w.heap.size + 1 + 1, 3, none⟩ = _ := frozen_blk pB
  clear pB
  have rB := (hb9.block _ (show w.heap.size + 1 + 1 + 1 < W4.heap.size by omega)).trans HX.out.2.2.2.2
  have r0 : W9.cell? ⟨w.heap.size + 1 + 1 + 1, 0, none⟩ = _ := cell_blk (i := 0) rB rfl
  have rz0 : W9.frozen? ⟨w.heap.size + 1 + 1 + 1, 0, none⟩ = _ := frozen_blk rB
  have r1 : W9.cell? ⟨w.heap.size + 1 + 1 + 1, 1, none⟩ = _ := cell_blk (i := 1) rB rfl
  have rz1 : W9.frozen? ⟨w.heap.size + 1 + 1 + 1, 1, none⟩ = _ := frozen_blk rB
  have r2 : W9.cell? ⟨w.heap.size + 1 + 1 + 1, 2, none⟩ = _ := cell_blk (i := 2) rB rfl
  have rz2 : W9.frozen? ⟨w.heap.size + 1 + 1 + 1, 2, none⟩ = _ := frozen_blk rB
  have r3 : W9.cell? ⟨w.heap.size + 1 + 1 + 1, 3, none⟩ = _ := cell_blk (i := 3) rB rfl
  have rz3 : W9.frozen? ⟨w.heap.size + 1 + 1 + 1, 3, none⟩ = _ := frozen_blk rB
  clear rB
  have A0 : W9.cell? ⟨w3.heap.size, 0, none⟩ = _ := cell_blk (i := 0) bA rfl
  have A1 : W9.cell? ⟨w3.heap.size, 1, none⟩ = _ := cell_blk (i := 1) bA rfl
  have A2 : W9.cell? ⟨w3.heap.size, 2, none⟩ = _ := cell_blk (i := 2) bA rfl
  have A3 : W9.cell? ⟨w3.heap.size, 3, none⟩ = _ := cell_blk (i := 3) bA rfl
  have D0 : W9.cell? ⟨w3.heap.size + 1, 0, none⟩ = _ := cell_blk (i := 0) bD rfl
  have D1 : W9.cell? ⟨w3.heap.size + 1, 1, none⟩ = _ := cell_blk (i := 1) bD rfl
  have D2 : W9.cell? ⟨w3.heap.size + 1, 2, none⟩ = _ := cell_blk (i := 2) bD rfl
  have D3 : W9.cell? ⟨w3.heap.size + 1, 3, none⟩ = _ := cell_blk (i := 3) bD rfl
  have hB9 := HX.out.1.trans (hb9.mono (by omega))
  clear hW9 bA bD hb9 hb13 hb12 hb3 hb2 hb1 hst3 hB1 hB2 l0 l1 l2 l3 m0 m1
  obtain ⟨N3, hN3⟩ : ∃ N3, N3 = w3.heap.size := ⟨_, rfl⟩
  have h3N : w.heap.size + 1 + 1 + 1 < N3 := by omega
  rw [← hN3] at A0 A1 A2 A3 D0 D1 D2 D3 ⊢
  clear hN3
  go_region
  go_wp2
  refine bodyPost_ret (v := .tuple #[.agg #[.int .i64 n, .int .i64 d, .int .u64 (lo : Nat), .int .i64 (c : Int)], .agg #[.int .i64 n, .int .i64 d, .int .u64 (re : Nat), .int .i64 ((k - c : Nat) : Int)], .int .i64 0]) (by simp [results, Tryd.results25, go_sem, p0, p1, p2, p3, r0, r1, r2, r3]) rfl ?_
  exact ⟨rfl, ((((((((hB9.setCell (by simp <;> omega) _).setCell (by simp <;> omega) _).setCell (by simp <;> omega) _).setCell (by simp <;> omega) _).setCell (by simp <;> omega) _).setCell (by simp <;> omega) _).setCell (by simp <;> omega) _).setCell (by simp <;> omega) _).drew⟩
end Go.Proofs.YteflblcbmkcidaaDoor
