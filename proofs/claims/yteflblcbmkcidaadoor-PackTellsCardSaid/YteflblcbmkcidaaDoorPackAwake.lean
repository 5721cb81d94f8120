/- The document's example for layer 5, which each law asks first. -/
import Derived.Test.YteflblcbmkcidaaDoorSame
import Derived.Test.YteflblcbmkcidaaDoorPackPlace
namespace Go.Proofs.YteflblcbmkcidaaDoor
open Go.RowKit
open PK
def exS : Shp := ⟨1, 0, 1, 3⟩
def exL : List Fe := [⟨0, 0, 1, 0⟩, ⟨1, 0, 7, 0⟩]
theorem ex_fits : fitsL exS exL = [1, 3] := by decide +kernel
theorem ex_order {Z : List Nat} (hp : Z.Perm (List.range exL.length)) (ha : Asc (keyL (fitsL exS exL)) Z) : Z = [1, 0] := by
  refine order_unique (n := 2) (L := fitsL exS exL) (by rw [ex_fits]; rfl) hp (by decide) ha ?_
  rw [ex_fits]
  decide +kernel
theorem ex_place : placeL exS exL [1, 0] 4 = [⟨1, 0, 1, 0⟩, ⟨1, 0, 2, 0⟩, ⟨1, 0, 4, 0⟩, ⟨0, 0, 1, 0⟩] := by
  have h1 : fitF exS ⟨1, 0, 7, 0⟩ = 3 := by decide +kernel
  have h2 : fitF exS ⟨0, 0, 1, 0⟩ = 1 := by decide +kernel
  have p1 : pieces exS ⟨1, 0, 7, 0⟩ 3 = [⟨1, 0, 1, 0⟩, ⟨1, 0, 2, 0⟩, ⟨1, 0, 4, 0⟩] := by
    have a : MM.low 7 1 = 1 := by decide +kernel
    have b : MM.low 6 1 = 2 := by decide +kernel
    have c : MM.low 4 1 = 4 := by decide +kernel
    have d : MM.sub 7 1 = 6 := by decide +kernel
    have e : MM.sub 6 2 = 4 := by decide +kernel
    simp [pieces, slotF, restF, exS, a, b, c, d, e]
  have p2 : pieces exS ⟨0, 0, 1, 0⟩ 1 = [⟨0, 0, 1, 0⟩] := by
    have a : MM.low 1 1 = 1 := by decide +kernel
    simp [pieces, slotF, exS, a]
  simp [placeL, exL, h1, h2, p1, p2]
set_option maxRecDepth 100000 in
set_option maxHeartbeats 4000000 in
theorem awake_p (w : World) (hT : Tab w) : Calls Tryd.prog 4 #[] w fun e w' => e = .returned (.bool true) ∧ Below w.heap.size w w' := by
  obtain ⟨w2, hw2⟩ : ∃ W, W = (w.alloc (.cells #[.int .i64 1, .int .i64 0, .int .i64 1, .int .i64 3] 24)).alloc (.cells #[.int .i64 0, .int .i64 0, .int .u64 1, .int .i64 0, .int .i64 1, .int .i64 0, .int .u64 7, .int .i64 0] 40) := ⟨_, rfl⟩
  have hB2 : Below w.heap.size w w2 := by rw [hw2]; exact ((Below.refl w.heap.size w).alloc (Nat.le_refl _) _).alloc (by simp) _
  have bV : w2.heap[w.heap.size + 1]? = some (.cells #[.int .i64 0, .int .i64 0, .int .u64 1, .int .i64 0, .int .i64 1, .int .i64 0, .int .u64 7, .int .i64 0] 40 (0, 0)) := by
    have h9 := heap_alloc_new (w.alloc (.cells #[.int .i64 1, .int .i64 0, .int .i64 1, .int .i64 3] 24)) (.cells #[.int .i64 0, .int .i64 0, .int .u64 1, .int .i64 0, .int .i64 1, .int .i64 0, .int .u64 7, .int .i64 0] 40)
    rw [World.size_alloc] at h9
    rw [hw2]; exact h9
  have hV : Fes w2 w2.heap.size (some ⟨w.heap.size + 1, 0, none⟩) exL := fe_blk (cs := exL.flatMap feC) bV (fun _ _ h => h) (blk_lt bV)
  have hP := place_ok (some ⟨w.heap.size + 1, 0, none⟩) 2 w2.heap.size exL exS 4 w2 hV (Nat.le_refl _) (by decide) ⟨by decide, by decide, by decide, by decide⟩ (by
    intro f hf
    simp [exL] at hf
    rcases hf with rfl | rfl <;> exact ⟨by decide, by decide, by decide, by decide⟩) (hT.below hB2 hT.size) (by decide) (by decide) (by decide) (by unfold roomF; rw [ex_fits]; decide)
  have hP : Calls Tryd.prog 6 #[.slice (some ⟨w.heap.size + 1, 0, none⟩) 2 2, .agg #[.int .i64 1, .int .i64 0, .int .i64 1, .int .i64 3], .int .i64 4] w2 fun e w' => ∃ b off cap', e = .returned (.tuple #[.slice (some ⟨b, off, none⟩) 4 cap', .int .i64 0]) ∧ Below w2.heap.size w2 w' ∧
      FeAt w' b off ⟨1, 0, 1, 0⟩ ∧ FeAt w' b (off + 8) ⟨1, 0, 4, 0⟩ ∧ FeAt w' b (off + 12) ⟨0, 0, 1, 0⟩ := hP.mono (by
    rintro e w' ⟨A', cap', he, hb, hz⟩
    obtain ⟨Z, zp, za, ho⟩ := hz.out
    rw [ex_order zp za, ex_place] at ho
    have hF := fe_own (l := [⟨1, 0, 1, 0⟩, ⟨1, 0, 2, 0⟩, ⟨1, 0, 4, 0⟩, ⟨0, 0, 1, 0⟩]) ho
    rcases hF with h | ⟨b, off, rfl, _, hc⟩
    · simp at h
    · exact ⟨b, off, cap', he, hb, hc 0 _ rfl, hc 2 _ rfl, hc 3 _ rfl⟩)
  have HP := Lib.hid hP
  have HB := Lib.hid hB2
  have HW := Lib.hid hw2
  clear hP hB2 hw2 bV hV hT
  go_enter Tryd.func4, Tryd.ntmps4
  go_wp2_with fail
  rw [← HW.out]
  refine HP.out.mono ?_
  rintro e w3 ⟨b, off, cap, rfl, hb3, ⟨a0, a1, a2, a3⟩, ⟨b0, b1, b2, b3⟩, ⟨c0, c1, c2, c3⟩⟩
  have HB3 := Lib.hid (below_step HB.out hb3)
  clear hb3
  go_wp2
  go_ret
  exact ⟨rfl, HB3.out⟩
end Go.Proofs.YteflblcbmkcidaaDoor
