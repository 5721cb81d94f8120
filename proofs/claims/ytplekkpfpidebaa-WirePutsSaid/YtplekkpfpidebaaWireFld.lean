/- What stands behind a Kind: the table of fields. -/
import Derived.RegionTactic
import Derived.BigRegion
import Derived.Test.YtplekkpfpidebaaHeldTo
import Derived.Test.YtplekkpfpidebaaElsApp
import Derived.Test.YtplekkpfpidebaaWireStr
import Derived.Test.YtplekkpfpidebaaProg
set_option linter.unusedVariables false
namespace Go.Proofs.Ytplekkpfpidebaa
open Go.RowKit
/-- The fields of an act at block p. -/
def fdsA (p : Nat) : Nat → List FldP
  | 0 => [(p, 2, 2), (p, 3, 1), (p, 4, 1), (p, 5, 2), (p, 6, 1), (p, 7, 2), (p, 8, 1), (p, 9, 1)]
  | 1 => [(p, 1, 2)]
  | 2 => [(p, 1, 2)]
  | 3 => [(p, 1, 1)]
  | 4 => [(p, 1, 1)]
  | 6 => [(p, 1, 1)]
  | 7 => [(p, 1, 2)]
  | _ => []
/-- The table: rows of fields. -/
def tabV (X Y Z : Option Addr) : Value := .agg #[.slice X 8 8, .slice Y 1 1, .slice Y 1 1, .slice Z 1 1, .slice Z 1 1, .slice none 0 0, .slice Z 1 1, .slice Y 1 1]
def TabF (w : World) (p : Nat) (X Y Z : Option Addr) : Prop := Els fpC 2 w w.heap.size X (fdsA p 0) ∧ Els fpC 2 w w.heap.size Y (fdsA p 1) ∧ Els fpC 2 w w.heap.size Z (fdsA p 3)
set_option maxRecDepth 100000 in
set_option maxHeartbeats 4000000 in
theorem behind_any (p : Nat) (w : World) (hp : p < w.heap.size) :
    Calls Try.prog 22 #[.pointer (some ⟨p, 0, none⟩)] w fun e w' => ∃ X Y Z, e = .returned (tabV X Y Z) ∧ Hid (TabF w' p X Y Z) ∧ Below w.heap.size w w' := by
  go_enter Try.func22, Try.ntmps22
  go_wp2
  obtain ⟨w1, hw1⟩ : ∃ w1, w1 = w.alloc (.cells #[.slice none 0 0, .slice none 0 0, .slice none 0 0, .slice none 0 0, .slice none 0 0, .slice none 0 0, .slice none 0 0, .slice none 0 0] 71) := ⟨_, rfl⟩
  rw [← hw1]
  have hz1 : w1.heap.size = w.heap.size + 1 := by rw [hw1]; simp
  have HB : Hid (Below w.heap.size w w1) := Lib.hid (by rw [hw1]; exact (Below.refl _ _).alloc (Nat.le_refl _) _)
  have H1 := Lib.hid hw1
  clear hw1
  go_region
  · -- ways
    obtain ⟨w3, hw3⟩ : ∃ w3, w3 = ((w1.alloc (.cells #[.pointer (some ⟨p, 1, none⟩), .int .i64 2] 92)).alloc (.cells #[.pointer (some ⟨p, 1, none⟩), .int .i64 1] 92)).drew := ⟨_, rfl⟩
    rw [← hw3]
    have hz3 : w3.heap.size = w.heap.size + 3 := by rw [hw3]; simp [hz1]
    have HB3 : Hid (Below w.heap.size w w3) := Lib.hid (by rw [hw3]; exact ((HB.out.alloc (by omega) _).alloc (by simp; omega) _).drew)
    have bA : w3.heap[w.heap.size + 1]? = some (.cells #[.pointer (some ⟨p, 1, none⟩), .int .i64 2] 92) := by rw [hw3, ← hz1]; exact (Below.heap_alloc _ _ _ (by simp)).trans (heap_alloc_new w1 _)
    have bB : w3.heap[w.heap.size + 1 + 1]? = some (.cells #[.pointer (some ⟨p, 1, none⟩), .int .i64 1] 92) := by
      have h9 := heap_alloc_new (w1.alloc (.cells #[.pointer (some ⟨p, 1, none⟩), .int .i64 2] 92)) (.cells #[.pointer (some ⟨p, 1, none⟩), .int .i64 1] 92)
      rw [World.size_alloc, hz1] at h9
      rw [hw3]; exact h9
    have bT : w3.heap[w.heap.size]? = some (.cells #[.slice none 0 0, .slice none 0 0, .slice none 0 0, .slice none 0 0, .slice none 0 0, .slice none 0 0, .slice none 0 0, .slice none 0 0] 71 (0, 0)) := by
      have h9 := heap_alloc_new w (.cells #[.slice none 0 0, .slice none 0 0, .slice none 0 0, .slice none 0 0, .slice none 0 0, .slice none 0 0, .slice none 0 0, .slice none 0 0] 71)
      rw [hw3]; exact (Below.heap_alloc _ _ _ (by simp; omega)).trans ((Below.heap_alloc _ _ _ (by omega)).trans (by rw [H1.out]; exact h9))
    obtain ⟨S, hS⟩ : ∃ S, S = w.heap.size := ⟨_, rfl⟩
    obtain ⟨y, hy⟩ : ∃ y, y = w.heap.size + 1 := ⟨_, rfl⟩
    obtain ⟨z, hz⟩ : ∃ z, z = w.heap.size + 1 + 1 := ⟨_, rfl⟩
    have BY := Lib.hid bA
    have BZ := Lib.hid bB
    rw [← hy] at BY
    rw [← hz] at BZ
    (try rw [← hz]); (try rw [← hy])
    have ly : S < y ∧ y < w3.heap.size := by omega
    have lz : S < z ∧ z < w3.heap.size := by omega
    have lS : w.heap.size ≤ S := by omega
    have lS2 : S < w3.heap.size := by omega
    rw [← hS] at bT
    clear hy hz hw3 H1 hz1 bA bB
    rw [← hS]
    have BT := Lib.hid bT
    have HS := Lib.hid hS
    have hlow : w.heap.size ≤ w3.heap.size := by omega
    clear bT hS hz3 HB
    go_wp2_with fail
    refine wp_until (fun w' : World => True) 44 (by kernel_rfl) ?_
    have hBm0 : Below w3.heap.size w3 w3.drew := (Below.refl _ _).drew
    have hSm0 : (fun w' : World => True) w3.drew := trivial
    refine until_take (v := ?_) 0 19 rfl rfl (by kernel_rfl) (by kernel_rfl) (by kernel_rfl) (by kernel_rfl) (fun _ _ _ h => h) ⟨by rfl, ?_⟩ hSm0 ?_
    rotate_left
    · intro w' hw'; obtain _ := hw'; go_simp; (try with_reducible rfl)
    simp only [Act.put, List.setIfInBounds_toArray, List.set_cons_zero, List.set_cons_succ]
    refine until_take (v := ?_) 1 20 rfl rfl (by kernel_rfl) (by kernel_rfl) (by kernel_rfl) (by kernel_rfl) (fun _ _ _ h => h) ⟨by rfl, ?_⟩ hSm0 ?_
    rotate_left
    · intro w' hw'; obtain _ := hw'; go_simp; (try with_reducible rfl)
    simp only [Act.put, List.setIfInBounds_toArray, List.set_cons_zero, List.set_cons_succ]
    refine until_take (v := ?_) 2 21 rfl rfl (by kernel_rfl) (by kernel_rfl) (by kernel_rfl) (by kernel_rfl) (fun _ _ _ h => h) ⟨by rfl, ?_⟩ hSm0 ?_
    rotate_left
    · intro w' hw'; obtain _ := hw'; go_simp; (try with_reducible rfl)
    simp only [Act.put, List.setIfInBounds_toArray, List.set_cons_zero, List.set_cons_succ]
    refine until_take (v := ?_) 3 22 rfl rfl (by kernel_rfl) (by kernel_rfl) (by kernel_rfl) (by kernel_rfl) (fun _ _ _ h => h) ⟨by rfl, ?_⟩ hSm0 ?_
    rotate_left
    · intro w' hw'; obtain _ := hw'; go_simp; (try with_reducible rfl)
    simp only [Act.put, List.setIfInBounds_toArray, List.set_cons_zero, List.set_cons_succ]
    refine until_take (v := ?_) 4 23 rfl rfl (by kernel_rfl) (by kernel_rfl) (by kernel_rfl) (by kernel_rfl) (fun _ _ _ h => h) ⟨by rfl, ?_⟩ hSm0 ?_
    rotate_left
    · intro w' hw'; obtain _ := hw'; go_simp; (try with_reducible rfl)
    simp only [Act.put, List.setIfInBounds_toArray, List.set_cons_zero, List.set_cons_succ]
    refine until_take (v := ?_) 5 24 rfl rfl (by kernel_rfl) (by kernel_rfl) (by kernel_rfl) (by kernel_rfl) (fun _ _ _ h => h) ⟨by rfl, ?_⟩ hSm0 ?_
    rotate_left
    · intro w' hw'; obtain _ := hw'; go_simp; (try with_reducible rfl)
    simp only [Act.put, List.setIfInBounds_toArray, List.set_cons_zero, List.set_cons_succ]
    refine until_take (v := ?_) 6 25 rfl rfl (by kernel_rfl) (by kernel_rfl) (by kernel_rfl) (by kernel_rfl) (fun _ _ _ h => h) ⟨by rfl, ?_⟩ hSm0 ?_
    rotate_left
    · intro w' hw'; obtain _ := hw'; go_simp; (try with_reducible rfl)
    simp only [Act.put, List.setIfInBounds_toArray, List.set_cons_zero, List.set_cons_succ]
    refine until_take (v := ?_) 7 26 rfl rfl (by kernel_rfl) (by kernel_rfl) (by kernel_rfl) (by kernel_rfl) (fun _ _ _ h => h) ⟨by rfl, ?_⟩ hSm0 ?_
    rotate_left
    · intro w' hw'; obtain _ := hw'; go_simp; (try with_reducible rfl)
    simp only [Act.put, List.setIfInBounds_toArray, List.set_cons_zero, List.set_cons_succ]
    refine until_take (v := ?_) 8 27 rfl rfl (by kernel_rfl) (by kernel_rfl) (by kernel_rfl) (by kernel_rfl) (fun _ _ _ h => h) ⟨by rfl, ?_⟩ hSm0 ?_
    rotate_left
    · intro w' hw'; obtain _ := hw'; go_simp; (try with_reducible rfl)
    simp only [Act.put, List.setIfInBounds_toArray, List.set_cons_zero, List.set_cons_succ]
    refine until_take (v := ?_) 9 28 rfl rfl (by kernel_rfl) (by kernel_rfl) (by kernel_rfl) (by kernel_rfl) (fun _ _ _ h => h) ⟨by rfl, ?_⟩ hSm0 ?_
    rotate_left
    · intro w' hw'; obtain _ := hw'; go_simp; (try with_reducible rfl)
    simp only [Act.put, List.setIfInBounds_toArray, List.set_cons_zero, List.set_cons_succ]
    refine until_take (v := ?_) 10 29 rfl rfl (by kernel_rfl) (by kernel_rfl) (by kernel_rfl) (by kernel_rfl) (fun _ _ _ h => h) ⟨by rfl, ?_⟩ hSm0 ?_
    rotate_left
    · intro w' hw'; obtain _ := hw'; go_simp; (try with_reducible rfl)
    simp only [Act.put, List.setIfInBounds_toArray, List.set_cons_zero, List.set_cons_succ]
    refine until_take (v := ?_) 11 30 rfl rfl (by kernel_rfl) (by kernel_rfl) (by kernel_rfl) (by kernel_rfl) (fun _ _ _ h => h) ⟨by rfl, ?_⟩ hSm0 ?_
    rotate_left
    · intro w' hw'; obtain _ := hw'; go_simp; (try with_reducible rfl)
    simp only [Act.put, List.setIfInBounds_toArray, List.set_cons_zero, List.set_cons_succ]
    refine until_take (v := ?_) 12 31 rfl rfl (by kernel_rfl) (by kernel_rfl) (by kernel_rfl) (by kernel_rfl) (fun _ _ _ h => h) ⟨by rfl, ?_⟩ hSm0 ?_
    rotate_left
    · intro w' hw'; obtain _ := hw'; go_simp; (try with_reducible rfl)
    simp only [Act.put, List.setIfInBounds_toArray, List.set_cons_zero, List.set_cons_succ]
    refine until_take (v := ?_) 13 32 rfl rfl (by kernel_rfl) (by kernel_rfl) (by kernel_rfl) (by kernel_rfl) (fun _ _ _ h => h) ⟨by rfl, ?_⟩ hSm0 ?_
    rotate_left
    · intro w' hw'; obtain _ := hw'; go_simp; (try with_reducible rfl)
    simp only [Act.put, List.setIfInBounds_toArray, List.set_cons_zero, List.set_cons_succ]
    refine until_take (v := ?_) 14 33 rfl rfl (by kernel_rfl) (by kernel_rfl) (by kernel_rfl) (by kernel_rfl) (fun _ _ _ h => h) ⟨by rfl, ?_⟩ hSm0 ?_
    rotate_left
    · intro w' hw'; obtain _ := hw'; go_simp; (try with_reducible rfl)
    simp only [Act.put, List.setIfInBounds_toArray, List.set_cons_zero, List.set_cons_succ]
    refine until_take (v := ?_) 15 34 rfl rfl (by kernel_rfl) (by kernel_rfl) (by kernel_rfl) (by kernel_rfl) (fun _ _ _ h => h) ⟨by rfl, ?_⟩ hSm0 ?_
    rotate_left
    · intro w' hw'; obtain _ := hw'; go_simp; (try with_reducible rfl)
    simp only [Act.put, List.setIfInBounds_toArray, List.set_cons_zero, List.set_cons_succ]
    refine until_take (v := ?_) 16 35 rfl rfl (by kernel_rfl) (by kernel_rfl) (by kernel_rfl) (by kernel_rfl) (fun _ _ _ h => h) ⟨by rfl, ?_⟩ hSm0 ?_
    rotate_left
    · intro w' hw'; obtain _ := hw'; go_simp; (try with_reducible rfl)
    simp only [Act.put, List.setIfInBounds_toArray, List.set_cons_zero, List.set_cons_succ]
    refine until_take (v := ?_) 17 36 rfl rfl (by kernel_rfl) (by kernel_rfl) (by kernel_rfl) (by kernel_rfl) (fun _ _ _ h => h) ⟨by rfl, ?_⟩ hSm0 ?_
    rotate_left
    · intro w' hw'; obtain _ := hw'; go_simp; (try with_reducible rfl)
    simp only [Act.put, List.setIfInBounds_toArray, List.set_cons_zero, List.set_cons_succ]
    refine until_take (v := ?_) 18 37 rfl rfl (by kernel_rfl) (by kernel_rfl) (by kernel_rfl) (by kernel_rfl) (fun _ _ _ h => h) ⟨by rfl, ?_⟩ hSm0 ?_
    rotate_left
    · intro w' hw'; obtain _ := hw'; go_simp; (try with_reducible rfl)
    simp only [Act.put, List.setIfInBounds_toArray, List.set_cons_zero, List.set_cons_succ]
    refine until_take (v := ?_) 19 38 rfl rfl (by kernel_rfl) (by kernel_rfl) (by kernel_rfl) (by kernel_rfl) (fun _ _ _ h => h) ⟨by rfl, ?_⟩ hSm0 ?_
    rotate_left
    · intro w' hw'; obtain _ := hw'; go_simp; (try with_reducible rfl)
    simp only [Act.put, List.setIfInBounds_toArray, List.set_cons_zero, List.set_cons_succ]
    refine until_take (v := ?_) 20 39 rfl rfl (by kernel_rfl) (by kernel_rfl) (by kernel_rfl) (by kernel_rfl) (fun _ _ _ h => h) ⟨by rfl, ?_⟩ hSm0 ?_
    rotate_left
    · intro w' hw'; obtain _ := hw'; go_simp; (try with_reducible rfl)
    simp only [Act.put, List.setIfInBounds_toArray, List.set_cons_zero, List.set_cons_succ]
    refine until_take (v := ?_) 21 40 rfl rfl (by kernel_rfl) (by kernel_rfl) (by kernel_rfl) (by kernel_rfl) (fun _ _ _ h => h) ⟨by rfl, ?_⟩ hSm0 ?_
    rotate_left
    · intro w' hw'; obtain _ := hw'; go_simp; (try with_reducible rfl)
    simp only [Act.put, List.setIfInBounds_toArray, List.set_cons_zero, List.set_cons_succ]
    refine until_take (v := ?_) 22 41 rfl rfl (by kernel_rfl) (by kernel_rfl) (by kernel_rfl) (by kernel_rfl) (fun _ _ _ h => h) ⟨by rfl, ?_⟩ hSm0 ?_
    rotate_left
    · intro w' hw'; obtain _ := hw'; go_simp; (try with_reducible rfl)
    simp only [Act.put, List.setIfInBounds_toArray, List.set_cons_zero, List.set_cons_succ]
    refine until_take (v := ?_) 23 42 rfl rfl (by kernel_rfl) (by kernel_rfl) (by kernel_rfl) (by kernel_rfl) (fun _ _ _ h => h) ⟨by rfl, ?_⟩ hSm0 ?_
    rotate_left
    · intro w' hw'; obtain _ := hw'; go_simp; (try with_reducible rfl)
    simp only [Act.put, List.setIfInBounds_toArray, List.set_cons_zero, List.set_cons_succ]
    refine until_take (v := ?_) 24 43 rfl rfl (by kernel_rfl) (by kernel_rfl) (by kernel_rfl) (by kernel_rfl) (fun _ _ _ h => h) ⟨by rfl, ?_⟩ hSm0 ?_
    rotate_left
    · intro w' hw'; obtain _ := hw'; go_simp; (try with_reducible rfl)
    simp only [Act.put, List.setIfInBounds_toArray, List.set_cons_zero, List.set_cons_succ]
    refine until_take (v := ?_) 25 44 rfl rfl (by kernel_rfl) (by kernel_rfl) (by kernel_rfl) (by kernel_rfl) (fun _ _ _ h => h) ⟨by rfl, ?_⟩ hSm0 ?_
    rotate_left
    · intro w' hw'; obtain _ := hw'; go_simp; (try with_reducible rfl)
    simp only [Act.put, List.setIfInBounds_toArray, List.set_cons_zero, List.set_cons_succ]
    refine until_take (v := ?_) 26 45 rfl rfl (by kernel_rfl) (by kernel_rfl) (by kernel_rfl) (by kernel_rfl) (fun _ _ _ h => h) ⟨by rfl, ?_⟩ hSm0 ?_
    rotate_left
    · intro w' hw'; obtain _ := hw'; go_simp; (try with_reducible rfl)
    simp only [Act.put, List.setIfInBounds_toArray, List.set_cons_zero, List.set_cons_succ]
    refine until_take (v := ?_) 27 46 rfl rfl (by kernel_rfl) (by kernel_rfl) (by kernel_rfl) (by kernel_rfl) (fun _ _ _ h => h) ⟨by rfl, ?_⟩ hSm0 ?_
    rotate_left
    · intro w' hw'; obtain _ := hw'; go_simp; (try with_reducible rfl)
    simp only [Act.put, List.setIfInBounds_toArray, List.set_cons_zero, List.set_cons_succ]
    refine until_take (v := ?_) 28 47 rfl rfl (by kernel_rfl) (by kernel_rfl) (by kernel_rfl) (by kernel_rfl) (fun _ _ _ h => h) ⟨by rfl, ?_⟩ hSm0 ?_
    rotate_left
    · intro w' hw'; obtain _ := hw'; go_simp; (try with_reducible rfl)
    simp only [Act.put, List.setIfInBounds_toArray, List.set_cons_zero, List.set_cons_succ]
    refine until_take (v := ?_) 29 48 rfl rfl (by kernel_rfl) (by kernel_rfl) (by kernel_rfl) (by kernel_rfl) (fun _ _ _ h => h) ⟨by rfl, ?_⟩ hSm0 ?_
    rotate_left
    · intro w' hw'; obtain _ := hw'; go_simp; (try with_reducible rfl)
    simp only [Act.put, List.setIfInBounds_toArray, List.set_cons_zero, List.set_cons_succ]
    refine until_take (v := ?_) 30 49 rfl rfl (by kernel_rfl) (by kernel_rfl) (by kernel_rfl) (by kernel_rfl) (fun _ _ _ h => h) ⟨by rfl, ?_⟩ hSm0 ?_
    rotate_left
    · intro w' hw'; obtain _ := hw'; go_simp; (try with_reducible rfl)
    simp only [Act.put, List.setIfInBounds_toArray, List.set_cons_zero, List.set_cons_succ]
    refine until_take (v := ?_) 31 50 rfl rfl (by kernel_rfl) (by kernel_rfl) (by kernel_rfl) (by kernel_rfl) (fun _ _ _ h => h) ⟨by rfl, ?_⟩ hSm0 ?_
    rotate_left
    · intro w' hw'; obtain _ := hw'; go_simp; (try with_reducible rfl)
    simp only [Act.put, List.setIfInBounds_toArray, List.set_cons_zero, List.set_cons_succ]
    refine until_take (v := ?_) 32 51 rfl rfl (by kernel_rfl) (by kernel_rfl) (by kernel_rfl) (by kernel_rfl) (fun _ _ _ h => h) ⟨by rfl, ?_⟩ hSm0 ?_
    rotate_left
    · intro w' hw'; obtain _ := hw'; go_simp; (try with_reducible rfl)
    simp only [Act.put, List.setIfInBounds_toArray, List.set_cons_zero, List.set_cons_succ]
    refine until_take (v := ?_) 33 52 rfl rfl (by kernel_rfl) (by kernel_rfl) (by kernel_rfl) (by kernel_rfl) (fun _ _ _ h => h) ⟨by rfl, ?_⟩ hSm0 ?_
    rotate_left
    · intro w' hw'; obtain _ := hw'; go_simp; (try with_reducible rfl)
    simp only [Act.put, List.setIfInBounds_toArray, List.set_cons_zero, List.set_cons_succ]
    refine until_take (v := ?_) 34 53 rfl rfl (by kernel_rfl) (by kernel_rfl) (by kernel_rfl) (by kernel_rfl) (fun _ _ _ h => h) ⟨by rfl, ?_⟩ hSm0 ?_
    rotate_left
    · intro w' hw'; obtain _ := hw'; go_simp; (try with_reducible rfl)
    simp only [Act.put, List.setIfInBounds_toArray, List.set_cons_zero, List.set_cons_succ]
    refine until_take (v := ?_) 35 54 rfl rfl (by kernel_rfl) (by kernel_rfl) (by kernel_rfl) (by kernel_rfl) (fun _ _ _ h => h) ⟨by rfl, ?_⟩ hSm0 ?_
    rotate_left
    · intro w' hw'; obtain _ := hw'; go_simp; (try with_reducible rfl)
    simp only [Act.put, List.setIfInBounds_toArray, List.set_cons_zero, List.set_cons_succ]
    refine until_take (v := ?_) 37 56 rfl rfl (by kernel_rfl) (by kernel_rfl) (by kernel_rfl) (by kernel_rfl) (fun _ _ _ h => h) ⟨by rfl, ?_⟩ hSm0 ?_
    rotate_left
    · intro w' hw'; obtain _ := hw'; go_simp; (try with_reducible rfl)
    simp only [Act.put, List.setIfInBounds_toArray, List.set_cons_zero, List.set_cons_succ]
    refine until_take (v := ?_) 38 57 rfl rfl (by kernel_rfl) (by kernel_rfl) (by kernel_rfl) (by kernel_rfl) (fun _ _ _ h => h) ⟨by rfl, ?_⟩ hSm0 ?_
    rotate_left
    · intro w' hw'; obtain _ := hw'; go_simp; (try with_reducible rfl)
    simp only [Act.put, List.setIfInBounds_toArray, List.set_cons_zero, List.set_cons_succ]
    refine until_take (v := ?_) 39 58 rfl rfl (by kernel_rfl) (by kernel_rfl) (by kernel_rfl) (by kernel_rfl) (fun _ _ _ h => h) ⟨by rfl, ?_⟩ hSm0 ?_
    rotate_left
    · intro w' hw'; obtain _ := hw'; go_simp; (try with_reducible rfl)
    simp only [Act.put, List.setIfInBounds_toArray, List.set_cons_zero, List.set_cons_succ]
    refine until_take (v := ?_) 40 59 rfl rfl (by kernel_rfl) (by kernel_rfl) (by kernel_rfl) (by kernel_rfl) (fun _ _ _ h => h) ⟨by rfl, ?_⟩ hSm0 ?_
    rotate_left
    · intro w' hw'; obtain _ := hw'; go_simp; (try with_reducible rfl)
    simp only [Act.put, List.setIfInBounds_toArray, List.set_cons_zero, List.set_cons_succ]
    refine until_take (v := ?_) 41 60 rfl rfl (by kernel_rfl) (by kernel_rfl) (by kernel_rfl) (by kernel_rfl) (fun _ _ _ h => h) ⟨by rfl, ?_⟩ hSm0 ?_
    rotate_left
    · intro w' hw'; obtain _ := hw'; go_simp; (try with_reducible rfl)
    simp only [Act.put, List.setIfInBounds_toArray, List.set_cons_zero, List.set_cons_succ]
    refine until_take (v := ?_) 42 61 rfl rfl (by kernel_rfl) (by kernel_rfl) (by kernel_rfl) (by kernel_rfl) (fun _ _ _ h => h) ⟨by rfl, ?_⟩ hSm0 ?_
    rotate_left
    · intro w' hw'; obtain _ := hw'; go_simp; (try with_reducible rfl)
    simp only [Act.put, List.setIfInBounds_toArray, List.set_cons_zero, List.set_cons_succ]
    refine until_one 36 rfl (by kernel_rfl) rfl (fun K hK => ?_)
    go_simp
    obtain ⟨wm1, hwm1⟩ : ∃ wld, wld = (w3.alloc (.cells #[.pointer (some ⟨p, 2, none⟩), .int .i64 2, .pointer (some ⟨p, 3, none⟩), .int .i64 1, .pointer (some ⟨p, 4, none⟩), .int .i64 1, .pointer (some ⟨p, 5, none⟩), .int .i64 2, .pointer (some ⟨p, 6, none⟩), .int .i64 1, .pointer (some ⟨p, 7, none⟩), .int .i64 2, .pointer (some ⟨p, 8, none⟩), .int .i64 1, .pointer (some ⟨p, 9, none⟩), .int .i64 1] 92)).drew := ⟨_, rfl⟩
    have hBm1 : Below w3.heap.size w3 wm1 := by rw [hwm1]; exact hBm0.alloc hBm0.size _
    have hSm1 : (fun w' : World => True) wm1 := trivial
    have HX : Hid (wm1.heap[w3.heap.size]? = some (.cells #[.pointer (some ⟨p, 2, none⟩), .int .i64 2, .pointer (some ⟨p, 3, none⟩), .int .i64 1, .pointer (some ⟨p, 4, none⟩), .int .i64 1, .pointer (some ⟨p, 5, none⟩), .int .i64 2, .pointer (some ⟨p, 6, none⟩), .int .i64 1, .pointer (some ⟨p, 7, none⟩), .int .i64 2, .pointer (some ⟨p, 8, none⟩), .int .i64 1, .pointer (some ⟨p, 9, none⟩), .int .i64 1] 92 (0, 0))) := Lib.hid (by rw [hwm1]; exact heap_alloc_new _ _)
    have hz4 : wm1.heap.size = w3.heap.size + 1 := by rw [hwm1]; simp
    refine hK.out _ _ (fun _ => trivial) ?_
    clear hK K
    try simp only [Act.put, List.setIfInBounds_toArray, List.set_cons_zero, List.set_cons_succ]
    rw [← hwm1]
    have Hwm1 := Lib.hid hwm1
    clear hwm1
    refine until_take (v := ?_) 43 62 rfl rfl (by kernel_rfl) (by kernel_rfl) (by kernel_rfl) (by kernel_rfl) (fun _ _ _ h => h) ⟨by rfl, ?_⟩ hSm1 ?_
    rotate_left
    · intro w' hw'; obtain _ := hw'; go_simp; (try with_reducible rfl)
    simp only [Act.put, List.setIfInBounds_toArray, List.set_cons_zero, List.set_cons_succ]
    refine until_one 44 rfl (by kernel_rfl) rfl (fun K hK => ?_)
    have HBT : Hid (wm1.heap[S]? = some (.cells #[.slice none 0 0, .slice none 0 0, .slice none 0 0, .slice none 0 0, .slice none 0 0, .slice none 0 0, .slice none 0 0, .slice none 0 0] 71 (0, 0))) := Lib.hid ((hBm1.block _ lS2).trans BT.out)
    obtain ⟨x0, x1, x2, x3, x4, x5, x6, x7⟩ := cells8 HBT.out
    have z0 : wm1.frozen? ⟨S, 0, none⟩ = false := frozen_blk HBT.out
    have z1 : wm1.frozen? ⟨S, 1, none⟩ = false := frozen_blk HBT.out
    have z2 : wm1.frozen? ⟨S, 2, none⟩ = false := frozen_blk HBT.out
    have z3 : wm1.frozen? ⟨S, 3, none⟩ = false := frozen_blk HBT.out
    have z4 : wm1.frozen? ⟨S, 4, none⟩ = false := frozen_blk HBT.out
    have z5 : wm1.frozen? ⟨S, 5, none⟩ = false := frozen_blk HBT.out
    have z6 : wm1.frozen? ⟨S, 6, none⟩ = false := frozen_blk HBT.out
    have z7 : wm1.frozen? ⟨S, 7, none⟩ = false := frozen_blk HBT.out
    go_simp
    refine hK.out _ _ (fun h => absurd h (by decide)) ?_
    clear hK K
    refine until_done (by kernel_rfl) ?_
    obtain ⟨V, hV⟩ : ∃ V, V = ((((((((wm1).setCell ⟨S, 0, none⟩ (.slice (some ⟨w3.heap.size, 0, none⟩) 8 8)).setCell ⟨S, 1, none⟩ (.slice (some ⟨y, 0, none⟩) 1 1)).setCell ⟨S, 2, none⟩ (.slice (some ⟨y, 0, none⟩) 1 1)).setCell ⟨S, 3, none⟩ (.slice (some ⟨z, 0, none⟩) 1 1)).setCell ⟨S, 4, none⟩ (.slice (some ⟨z, 0, none⟩) 1 1)).setCell ⟨S, 5, none⟩ (.slice none 0 0)).setCell ⟨S, 6, none⟩ (.slice (some ⟨z, 0, none⟩) 1 1)).setCell ⟨S, 7, none⟩ (.slice (some ⟨y, 0, none⟩) 1 1) := ⟨_, rfl⟩
    rw [← hV]
    have bV : V.heap[S]? = some (.cells #[.slice (some ⟨w3.heap.size, 0, none⟩) 8 8, .slice (some ⟨y, 0, none⟩) 1 1, .slice (some ⟨y, 0, none⟩) 1 1, .slice (some ⟨z, 0, none⟩) 1 1, .slice (some ⟨z, 0, none⟩) 1 1, .slice none 0 0, .slice (some ⟨z, 0, none⟩) 1 1, .slice (some ⟨y, 0, none⟩) 1 1] 71 (0, 0)) := by rw [hV]; exact (blk_put (i := 7) _ (blk_put (i := 6) _ (blk_put (i := 5) _ (blk_put (i := 4) _ (blk_put (i := 3) _ (blk_put (i := 2) _ (blk_put (i := 1) _ (blk_put (i := 0) _ HBT.out))))))))
    have HBV : Hid (Below w.heap.size w V) := Lib.hid (by rw [hV]; exact (((((((((HB3.out.trans (hBm1.mono hlow)).setCell (p := ⟨S, 0, none⟩) lS _).setCell (p := ⟨S, 1, none⟩) lS _).setCell (p := ⟨S, 2, none⟩) lS _).setCell (p := ⟨S, 3, none⟩) lS _).setCell (p := ⟨S, 4, none⟩) lS _).setCell (p := ⟨S, 5, none⟩) lS _).setCell (p := ⟨S, 6, none⟩) lS _).setCell (p := ⟨S, 7, none⟩) lS _))
    have eV : ∀ i, i ≠ S → V.heap[i]? = wm1.heap[i]? := fun i hi => by rw [hV]; simp [World.setCell, Array.getElem?_modify, Ne.symm hi]
    have zV : V.heap.size = wm1.heap.size := by rw [hV]; simp
    have HT : Hid (TabF V p (some ⟨w3.heap.size, 0, none⟩) (some ⟨y, 0, none⟩) (some ⟨z, 0, none⟩)) := Lib.hid ⟨els_blk fpC_len ((eV _ (by omega)).trans HX.out) (fun j v hj => by simpa [fpC, fdsA] using hj), els_blk fpC_len ((eV _ (by omega)).trans ((hBm1.block _ ly.2).trans BY.out)) (fun j v hj => by simpa [fpC, fdsA] using hj), els_blk fpC_len ((eV _ (by omega)).trans ((hBm1.block _ lz.2).trans BZ.out)) (fun j v hj => by simpa [fpC, fdsA] using hj)⟩
    obtain ⟨x0, x1, x2, x3, x4, x5, x6, x7⟩ := cells8 bV
    clear hV bV eV
    go_wp2_with fail
    refine bodyPost_ret (v := tabV (some ⟨w3.heap.size, 0, none⟩) (some ⟨y, 0, none⟩) (some ⟨z, 0, none⟩)) (by simp [results, Try.results22, go_sem, x0, x1, x2, x3, x4, x5, x6, x7, tabV]) rfl ?_
    exact ⟨_, _, _, rfl, HT, HBV.out⟩
  · -- ways
    obtain ⟨w3, hw3⟩ : ∃ w3, w3 = ((w1.alloc (.cells #[.pointer (some ⟨p, 1, none⟩), .int .i64 1] 92)).alloc (.cells #[.pointer (some ⟨p, 1, none⟩), .int .i64 2] 92)).drew := ⟨_, rfl⟩
    rw [← hw3]
    have hz3 : w3.heap.size = w.heap.size + 3 := by rw [hw3]; simp [hz1]
    have HB3 : Hid (Below w.heap.size w w3) := Lib.hid (by rw [hw3]; exact ((HB.out.alloc (by omega) _).alloc (by simp; omega) _).drew)
    have bA : w3.heap[w.heap.size + 1]? = some (.cells #[.pointer (some ⟨p, 1, none⟩), .int .i64 1] 92) := by rw [hw3, ← hz1]; exact (Below.heap_alloc _ _ _ (by simp)).trans (heap_alloc_new w1 _)
    have bB : w3.heap[w.heap.size + 1 + 1]? = some (.cells #[.pointer (some ⟨p, 1, none⟩), .int .i64 2] 92) := by
      have h9 := heap_alloc_new (w1.alloc (.cells #[.pointer (some ⟨p, 1, none⟩), .int .i64 1] 92)) (.cells #[.pointer (some ⟨p, 1, none⟩), .int .i64 2] 92)
      rw [World.size_alloc, hz1] at h9
      rw [hw3]; exact h9
    have bT : w3.heap[w.heap.size]? = some (.cells #[.slice none 0 0, .slice none 0 0, .slice none 0 0, .slice none 0 0, .slice none 0 0, .slice none 0 0, .slice none 0 0, .slice none 0 0] 71 (0, 0)) := by
      have h9 := heap_alloc_new w (.cells #[.slice none 0 0, .slice none 0 0, .slice none 0 0, .slice none 0 0, .slice none 0 0, .slice none 0 0, .slice none 0 0, .slice none 0 0] 71)
      rw [hw3]; exact (Below.heap_alloc _ _ _ (by simp; omega)).trans ((Below.heap_alloc _ _ _ (by omega)).trans (by rw [H1.out]; exact h9))
    obtain ⟨S, hS⟩ : ∃ S, S = w.heap.size := ⟨_, rfl⟩
    obtain ⟨y, hy⟩ : ∃ y, y = w.heap.size + 1 + 1 := ⟨_, rfl⟩
    obtain ⟨z, hz⟩ : ∃ z, z = w.heap.size + 1 := ⟨_, rfl⟩
    have BY := Lib.hid bB
    have BZ := Lib.hid bA
    rw [← hy] at BY
    rw [← hz] at BZ
    (try rw [← hy]); (try rw [← hz])
    have ly : S < y ∧ y < w3.heap.size := by omega
    have lz : S < z ∧ z < w3.heap.size := by omega
    have lS : w.heap.size ≤ S := by omega
    have lS2 : S < w3.heap.size := by omega
    rw [← hS] at bT
    clear hy hz hw3 H1 hz1 bA bB
    rw [← hS]
    have BT := Lib.hid bT
    have HS := Lib.hid hS
    have hlow : w.heap.size ≤ w3.heap.size := by omega
    clear bT hS hz3 HB
    go_wp2_with fail
    refine wp_until (fun w' : World => True) 44 (by kernel_rfl) ?_
    have hBm0 : Below w3.heap.size w3 w3.drew := (Below.refl _ _).drew
    have hSm0 : (fun w' : World => True) w3.drew := trivial
    refine until_take (v := ?_) 0 19 rfl rfl (by kernel_rfl) (by kernel_rfl) (by kernel_rfl) (by kernel_rfl) (fun _ _ _ h => h) ⟨by rfl, ?_⟩ hSm0 ?_
    rotate_left
    · intro w' hw'; obtain _ := hw'; go_simp; (try with_reducible rfl)
    simp only [Act.put, List.setIfInBounds_toArray, List.set_cons_zero, List.set_cons_succ]
    refine until_take (v := ?_) 1 20 rfl rfl (by kernel_rfl) (by kernel_rfl) (by kernel_rfl) (by kernel_rfl) (fun _ _ _ h => h) ⟨by rfl, ?_⟩ hSm0 ?_
    rotate_left
    · intro w' hw'; obtain _ := hw'; go_simp; (try with_reducible rfl)
    simp only [Act.put, List.setIfInBounds_toArray, List.set_cons_zero, List.set_cons_succ]
    refine until_take (v := ?_) 2 21 rfl rfl (by kernel_rfl) (by kernel_rfl) (by kernel_rfl) (by kernel_rfl) (fun _ _ _ h => h) ⟨by rfl, ?_⟩ hSm0 ?_
    rotate_left
    · intro w' hw'; obtain _ := hw'; go_simp; (try with_reducible rfl)
    simp only [Act.put, List.setIfInBounds_toArray, List.set_cons_zero, List.set_cons_succ]
    refine until_take (v := ?_) 3 22 rfl rfl (by kernel_rfl) (by kernel_rfl) (by kernel_rfl) (by kernel_rfl) (fun _ _ _ h => h) ⟨by rfl, ?_⟩ hSm0 ?_
    rotate_left
    · intro w' hw'; obtain _ := hw'; go_simp; (try with_reducible rfl)
    simp only [Act.put, List.setIfInBounds_toArray, List.set_cons_zero, List.set_cons_succ]
    refine until_take (v := ?_) 4 23 rfl rfl (by kernel_rfl) (by kernel_rfl) (by kernel_rfl) (by kernel_rfl) (fun _ _ _ h => h) ⟨by rfl, ?_⟩ hSm0 ?_
    rotate_left
    · intro w' hw'; obtain _ := hw'; go_simp; (try with_reducible rfl)
    simp only [Act.put, List.setIfInBounds_toArray, List.set_cons_zero, List.set_cons_succ]
    refine until_take (v := ?_) 5 24 rfl rfl (by kernel_rfl) (by kernel_rfl) (by kernel_rfl) (by kernel_rfl) (fun _ _ _ h => h) ⟨by rfl, ?_⟩ hSm0 ?_
    rotate_left
    · intro w' hw'; obtain _ := hw'; go_simp; (try with_reducible rfl)
    simp only [Act.put, List.setIfInBounds_toArray, List.set_cons_zero, List.set_cons_succ]
    refine until_take (v := ?_) 6 25 rfl rfl (by kernel_rfl) (by kernel_rfl) (by kernel_rfl) (by kernel_rfl) (fun _ _ _ h => h) ⟨by rfl, ?_⟩ hSm0 ?_
    rotate_left
    · intro w' hw'; obtain _ := hw'; go_simp; (try with_reducible rfl)
    simp only [Act.put, List.setIfInBounds_toArray, List.set_cons_zero, List.set_cons_succ]
    refine until_take (v := ?_) 7 26 rfl rfl (by kernel_rfl) (by kernel_rfl) (by kernel_rfl) (by kernel_rfl) (fun _ _ _ h => h) ⟨by rfl, ?_⟩ hSm0 ?_
    rotate_left
    · intro w' hw'; obtain _ := hw'; go_simp; (try with_reducible rfl)
    simp only [Act.put, List.setIfInBounds_toArray, List.set_cons_zero, List.set_cons_succ]
    refine until_take (v := ?_) 8 27 rfl rfl (by kernel_rfl) (by kernel_rfl) (by kernel_rfl) (by kernel_rfl) (fun _ _ _ h => h) ⟨by rfl, ?_⟩ hSm0 ?_
    rotate_left
    · intro w' hw'; obtain _ := hw'; go_simp; (try with_reducible rfl)
    simp only [Act.put, List.setIfInBounds_toArray, List.set_cons_zero, List.set_cons_succ]
    refine until_take (v := ?_) 9 28 rfl rfl (by kernel_rfl) (by kernel_rfl) (by kernel_rfl) (by kernel_rfl) (fun _ _ _ h => h) ⟨by rfl, ?_⟩ hSm0 ?_
    rotate_left
    · intro w' hw'; obtain _ := hw'; go_simp; (try with_reducible rfl)
    simp only [Act.put, List.setIfInBounds_toArray, List.set_cons_zero, List.set_cons_succ]
    refine until_take (v := ?_) 10 29 rfl rfl (by kernel_rfl) (by kernel_rfl) (by kernel_rfl) (by kernel_rfl) (fun _ _ _ h => h) ⟨by rfl, ?_⟩ hSm0 ?_
    rotate_left
    · intro w' hw'; obtain _ := hw'; go_simp; (try with_reducible rfl)
    simp only [Act.put, List.setIfInBounds_toArray, List.set_cons_zero, List.set_cons_succ]
    refine until_take (v := ?_) 11 30 rfl rfl (by kernel_rfl) (by kernel_rfl) (by kernel_rfl) (by kernel_rfl) (fun _ _ _ h => h) ⟨by rfl, ?_⟩ hSm0 ?_
    rotate_left
    · intro w' hw'; obtain _ := hw'; go_simp; (try with_reducible rfl)
    simp only [Act.put, List.setIfInBounds_toArray, List.set_cons_zero, List.set_cons_succ]
    refine until_take (v := ?_) 12 31 rfl rfl (by kernel_rfl) (by kernel_rfl) (by kernel_rfl) (by kernel_rfl) (fun _ _ _ h => h) ⟨by rfl, ?_⟩ hSm0 ?_
    rotate_left
    · intro w' hw'; obtain _ := hw'; go_simp; (try with_reducible rfl)
    simp only [Act.put, List.setIfInBounds_toArray, List.set_cons_zero, List.set_cons_succ]
    refine until_take (v := ?_) 13 32 rfl rfl (by kernel_rfl) (by kernel_rfl) (by kernel_rfl) (by kernel_rfl) (fun _ _ _ h => h) ⟨by rfl, ?_⟩ hSm0 ?_
    rotate_left
    · intro w' hw'; obtain _ := hw'; go_simp; (try with_reducible rfl)
    simp only [Act.put, List.setIfInBounds_toArray, List.set_cons_zero, List.set_cons_succ]
    refine until_take (v := ?_) 14 33 rfl rfl (by kernel_rfl) (by kernel_rfl) (by kernel_rfl) (by kernel_rfl) (fun _ _ _ h => h) ⟨by rfl, ?_⟩ hSm0 ?_
    rotate_left
    · intro w' hw'; obtain _ := hw'; go_simp; (try with_reducible rfl)
    simp only [Act.put, List.setIfInBounds_toArray, List.set_cons_zero, List.set_cons_succ]
    refine until_take (v := ?_) 15 34 rfl rfl (by kernel_rfl) (by kernel_rfl) (by kernel_rfl) (by kernel_rfl) (fun _ _ _ h => h) ⟨by rfl, ?_⟩ hSm0 ?_
    rotate_left
    · intro w' hw'; obtain _ := hw'; go_simp; (try with_reducible rfl)
    simp only [Act.put, List.setIfInBounds_toArray, List.set_cons_zero, List.set_cons_succ]
    refine until_take (v := ?_) 16 35 rfl rfl (by kernel_rfl) (by kernel_rfl) (by kernel_rfl) (by kernel_rfl) (fun _ _ _ h => h) ⟨by rfl, ?_⟩ hSm0 ?_
    rotate_left
    · intro w' hw'; obtain _ := hw'; go_simp; (try with_reducible rfl)
    simp only [Act.put, List.setIfInBounds_toArray, List.set_cons_zero, List.set_cons_succ]
    refine until_take (v := ?_) 17 36 rfl rfl (by kernel_rfl) (by kernel_rfl) (by kernel_rfl) (by kernel_rfl) (fun _ _ _ h => h) ⟨by rfl, ?_⟩ hSm0 ?_
    rotate_left
    · intro w' hw'; obtain _ := hw'; go_simp; (try with_reducible rfl)
    simp only [Act.put, List.setIfInBounds_toArray, List.set_cons_zero, List.set_cons_succ]
    refine until_take (v := ?_) 18 37 rfl rfl (by kernel_rfl) (by kernel_rfl) (by kernel_rfl) (by kernel_rfl) (fun _ _ _ h => h) ⟨by rfl, ?_⟩ hSm0 ?_
    rotate_left
    · intro w' hw'; obtain _ := hw'; go_simp; (try with_reducible rfl)
    simp only [Act.put, List.setIfInBounds_toArray, List.set_cons_zero, List.set_cons_succ]
    refine until_take (v := ?_) 19 38 rfl rfl (by kernel_rfl) (by kernel_rfl) (by kernel_rfl) (by kernel_rfl) (fun _ _ _ h => h) ⟨by rfl, ?_⟩ hSm0 ?_
    rotate_left
    · intro w' hw'; obtain _ := hw'; go_simp; (try with_reducible rfl)
    simp only [Act.put, List.setIfInBounds_toArray, List.set_cons_zero, List.set_cons_succ]
    refine until_take (v := ?_) 20 39 rfl rfl (by kernel_rfl) (by kernel_rfl) (by kernel_rfl) (by kernel_rfl) (fun _ _ _ h => h) ⟨by rfl, ?_⟩ hSm0 ?_
    rotate_left
    · intro w' hw'; obtain _ := hw'; go_simp; (try with_reducible rfl)
    simp only [Act.put, List.setIfInBounds_toArray, List.set_cons_zero, List.set_cons_succ]
    refine until_take (v := ?_) 21 40 rfl rfl (by kernel_rfl) (by kernel_rfl) (by kernel_rfl) (by kernel_rfl) (fun _ _ _ h => h) ⟨by rfl, ?_⟩ hSm0 ?_
    rotate_left
    · intro w' hw'; obtain _ := hw'; go_simp; (try with_reducible rfl)
    simp only [Act.put, List.setIfInBounds_toArray, List.set_cons_zero, List.set_cons_succ]
    refine until_take (v := ?_) 22 41 rfl rfl (by kernel_rfl) (by kernel_rfl) (by kernel_rfl) (by kernel_rfl) (fun _ _ _ h => h) ⟨by rfl, ?_⟩ hSm0 ?_
    rotate_left
    · intro w' hw'; obtain _ := hw'; go_simp; (try with_reducible rfl)
    simp only [Act.put, List.setIfInBounds_toArray, List.set_cons_zero, List.set_cons_succ]
    refine until_take (v := ?_) 23 42 rfl rfl (by kernel_rfl) (by kernel_rfl) (by kernel_rfl) (by kernel_rfl) (fun _ _ _ h => h) ⟨by rfl, ?_⟩ hSm0 ?_
    rotate_left
    · intro w' hw'; obtain _ := hw'; go_simp; (try with_reducible rfl)
    simp only [Act.put, List.setIfInBounds_toArray, List.set_cons_zero, List.set_cons_succ]
    refine until_take (v := ?_) 24 43 rfl rfl (by kernel_rfl) (by kernel_rfl) (by kernel_rfl) (by kernel_rfl) (fun _ _ _ h => h) ⟨by rfl, ?_⟩ hSm0 ?_
    rotate_left
    · intro w' hw'; obtain _ := hw'; go_simp; (try with_reducible rfl)
    simp only [Act.put, List.setIfInBounds_toArray, List.set_cons_zero, List.set_cons_succ]
    refine until_take (v := ?_) 25 44 rfl rfl (by kernel_rfl) (by kernel_rfl) (by kernel_rfl) (by kernel_rfl) (fun _ _ _ h => h) ⟨by rfl, ?_⟩ hSm0 ?_
    rotate_left
    · intro w' hw'; obtain _ := hw'; go_simp; (try with_reducible rfl)
    simp only [Act.put, List.setIfInBounds_toArray, List.set_cons_zero, List.set_cons_succ]
    refine until_take (v := ?_) 26 45 rfl rfl (by kernel_rfl) (by kernel_rfl) (by kernel_rfl) (by kernel_rfl) (fun _ _ _ h => h) ⟨by rfl, ?_⟩ hSm0 ?_
    rotate_left
    · intro w' hw'; obtain _ := hw'; go_simp; (try with_reducible rfl)
    simp only [Act.put, List.setIfInBounds_toArray, List.set_cons_zero, List.set_cons_succ]
    refine until_take (v := ?_) 27 46 rfl rfl (by kernel_rfl) (by kernel_rfl) (by kernel_rfl) (by kernel_rfl) (fun _ _ _ h => h) ⟨by rfl, ?_⟩ hSm0 ?_
    rotate_left
    · intro w' hw'; obtain _ := hw'; go_simp; (try with_reducible rfl)
    simp only [Act.put, List.setIfInBounds_toArray, List.set_cons_zero, List.set_cons_succ]
    refine until_take (v := ?_) 28 47 rfl rfl (by kernel_rfl) (by kernel_rfl) (by kernel_rfl) (by kernel_rfl) (fun _ _ _ h => h) ⟨by rfl, ?_⟩ hSm0 ?_
    rotate_left
    · intro w' hw'; obtain _ := hw'; go_simp; (try with_reducible rfl)
    simp only [Act.put, List.setIfInBounds_toArray, List.set_cons_zero, List.set_cons_succ]
    refine until_take (v := ?_) 29 48 rfl rfl (by kernel_rfl) (by kernel_rfl) (by kernel_rfl) (by kernel_rfl) (fun _ _ _ h => h) ⟨by rfl, ?_⟩ hSm0 ?_
    rotate_left
    · intro w' hw'; obtain _ := hw'; go_simp; (try with_reducible rfl)
    simp only [Act.put, List.setIfInBounds_toArray, List.set_cons_zero, List.set_cons_succ]
    refine until_take (v := ?_) 30 49 rfl rfl (by kernel_rfl) (by kernel_rfl) (by kernel_rfl) (by kernel_rfl) (fun _ _ _ h => h) ⟨by rfl, ?_⟩ hSm0 ?_
    rotate_left
    · intro w' hw'; obtain _ := hw'; go_simp; (try with_reducible rfl)
    simp only [Act.put, List.setIfInBounds_toArray, List.set_cons_zero, List.set_cons_succ]
    refine until_take (v := ?_) 31 50 rfl rfl (by kernel_rfl) (by kernel_rfl) (by kernel_rfl) (by kernel_rfl) (fun _ _ _ h => h) ⟨by rfl, ?_⟩ hSm0 ?_
    rotate_left
    · intro w' hw'; obtain _ := hw'; go_simp; (try with_reducible rfl)
    simp only [Act.put, List.setIfInBounds_toArray, List.set_cons_zero, List.set_cons_succ]
    refine until_take (v := ?_) 32 51 rfl rfl (by kernel_rfl) (by kernel_rfl) (by kernel_rfl) (by kernel_rfl) (fun _ _ _ h => h) ⟨by rfl, ?_⟩ hSm0 ?_
    rotate_left
    · intro w' hw'; obtain _ := hw'; go_simp; (try with_reducible rfl)
    simp only [Act.put, List.setIfInBounds_toArray, List.set_cons_zero, List.set_cons_succ]
    refine until_take (v := ?_) 33 52 rfl rfl (by kernel_rfl) (by kernel_rfl) (by kernel_rfl) (by kernel_rfl) (fun _ _ _ h => h) ⟨by rfl, ?_⟩ hSm0 ?_
    rotate_left
    · intro w' hw'; obtain _ := hw'; go_simp; (try with_reducible rfl)
    simp only [Act.put, List.setIfInBounds_toArray, List.set_cons_zero, List.set_cons_succ]
    refine until_take (v := ?_) 34 53 rfl rfl (by kernel_rfl) (by kernel_rfl) (by kernel_rfl) (by kernel_rfl) (fun _ _ _ h => h) ⟨by rfl, ?_⟩ hSm0 ?_
    rotate_left
    · intro w' hw'; obtain _ := hw'; go_simp; (try with_reducible rfl)
    simp only [Act.put, List.setIfInBounds_toArray, List.set_cons_zero, List.set_cons_succ]
    refine until_take (v := ?_) 35 54 rfl rfl (by kernel_rfl) (by kernel_rfl) (by kernel_rfl) (by kernel_rfl) (fun _ _ _ h => h) ⟨by rfl, ?_⟩ hSm0 ?_
    rotate_left
    · intro w' hw'; obtain _ := hw'; go_simp; (try with_reducible rfl)
    simp only [Act.put, List.setIfInBounds_toArray, List.set_cons_zero, List.set_cons_succ]
    refine until_take (v := ?_) 37 56 rfl rfl (by kernel_rfl) (by kernel_rfl) (by kernel_rfl) (by kernel_rfl) (fun _ _ _ h => h) ⟨by rfl, ?_⟩ hSm0 ?_
    rotate_left
    · intro w' hw'; obtain _ := hw'; go_simp; (try with_reducible rfl)
    simp only [Act.put, List.setIfInBounds_toArray, List.set_cons_zero, List.set_cons_succ]
    refine until_take (v := ?_) 38 57 rfl rfl (by kernel_rfl) (by kernel_rfl) (by kernel_rfl) (by kernel_rfl) (fun _ _ _ h => h) ⟨by rfl, ?_⟩ hSm0 ?_
    rotate_left
    · intro w' hw'; obtain _ := hw'; go_simp; (try with_reducible rfl)
    simp only [Act.put, List.setIfInBounds_toArray, List.set_cons_zero, List.set_cons_succ]
    refine until_take (v := ?_) 39 58 rfl rfl (by kernel_rfl) (by kernel_rfl) (by kernel_rfl) (by kernel_rfl) (fun _ _ _ h => h) ⟨by rfl, ?_⟩ hSm0 ?_
    rotate_left
    · intro w' hw'; obtain _ := hw'; go_simp; (try with_reducible rfl)
    simp only [Act.put, List.setIfInBounds_toArray, List.set_cons_zero, List.set_cons_succ]
    refine until_take (v := ?_) 40 59 rfl rfl (by kernel_rfl) (by kernel_rfl) (by kernel_rfl) (by kernel_rfl) (fun _ _ _ h => h) ⟨by rfl, ?_⟩ hSm0 ?_
    rotate_left
    · intro w' hw'; obtain _ := hw'; go_simp; (try with_reducible rfl)
    simp only [Act.put, List.setIfInBounds_toArray, List.set_cons_zero, List.set_cons_succ]
    refine until_take (v := ?_) 41 60 rfl rfl (by kernel_rfl) (by kernel_rfl) (by kernel_rfl) (by kernel_rfl) (fun _ _ _ h => h) ⟨by rfl, ?_⟩ hSm0 ?_
    rotate_left
    · intro w' hw'; obtain _ := hw'; go_simp; (try with_reducible rfl)
    simp only [Act.put, List.setIfInBounds_toArray, List.set_cons_zero, List.set_cons_succ]
    refine until_take (v := ?_) 42 61 rfl rfl (by kernel_rfl) (by kernel_rfl) (by kernel_rfl) (by kernel_rfl) (fun _ _ _ h => h) ⟨by rfl, ?_⟩ hSm0 ?_
    rotate_left
    · intro w' hw'; obtain _ := hw'; go_simp; (try with_reducible rfl)
    simp only [Act.put, List.setIfInBounds_toArray, List.set_cons_zero, List.set_cons_succ]
    refine until_one 36 rfl (by kernel_rfl) rfl (fun K hK => ?_)
    go_simp
    obtain ⟨wm1, hwm1⟩ : ∃ wld, wld = (w3.alloc (.cells #[.pointer (some ⟨p, 2, none⟩), .int .i64 2, .pointer (some ⟨p, 3, none⟩), .int .i64 1, .pointer (some ⟨p, 4, none⟩), .int .i64 1, .pointer (some ⟨p, 5, none⟩), .int .i64 2, .pointer (some ⟨p, 6, none⟩), .int .i64 1, .pointer (some ⟨p, 7, none⟩), .int .i64 2, .pointer (some ⟨p, 8, none⟩), .int .i64 1, .pointer (some ⟨p, 9, none⟩), .int .i64 1] 92)).drew := ⟨_, rfl⟩
    have hBm1 : Below w3.heap.size w3 wm1 := by rw [hwm1]; exact hBm0.alloc hBm0.size _
    have hSm1 : (fun w' : World => True) wm1 := trivial
    have HX : Hid (wm1.heap[w3.heap.size]? = some (.cells #[.pointer (some ⟨p, 2, none⟩), .int .i64 2, .pointer (some ⟨p, 3, none⟩), .int .i64 1, .pointer (some ⟨p, 4, none⟩), .int .i64 1, .pointer (some ⟨p, 5, none⟩), .int .i64 2, .pointer (some ⟨p, 6, none⟩), .int .i64 1, .pointer (some ⟨p, 7, none⟩), .int .i64 2, .pointer (some ⟨p, 8, none⟩), .int .i64 1, .pointer (some ⟨p, 9, none⟩), .int .i64 1] 92 (0, 0))) := Lib.hid (by rw [hwm1]; exact heap_alloc_new _ _)
    have hz4 : wm1.heap.size = w3.heap.size + 1 := by rw [hwm1]; simp
    refine hK.out _ _ (fun _ => trivial) ?_
    clear hK K
    try simp only [Act.put, List.setIfInBounds_toArray, List.set_cons_zero, List.set_cons_succ]
    rw [← hwm1]
    have Hwm1 := Lib.hid hwm1
    clear hwm1
    refine until_take (v := ?_) 43 62 rfl rfl (by kernel_rfl) (by kernel_rfl) (by kernel_rfl) (by kernel_rfl) (fun _ _ _ h => h) ⟨by rfl, ?_⟩ hSm1 ?_
    rotate_left
    · intro w' hw'; obtain _ := hw'; go_simp; (try with_reducible rfl)
    simp only [Act.put, List.setIfInBounds_toArray, List.set_cons_zero, List.set_cons_succ]
    refine until_one 44 rfl (by kernel_rfl) rfl (fun K hK => ?_)
    have HBT : Hid (wm1.heap[S]? = some (.cells #[.slice none 0 0, .slice none 0 0, .slice none 0 0, .slice none 0 0, .slice none 0 0, .slice none 0 0, .slice none 0 0, .slice none 0 0] 71 (0, 0))) := Lib.hid ((hBm1.block _ lS2).trans BT.out)
    obtain ⟨x0, x1, x2, x3, x4, x5, x6, x7⟩ := cells8 HBT.out
    have z0 : wm1.frozen? ⟨S, 0, none⟩ = false := frozen_blk HBT.out
    have z1 : wm1.frozen? ⟨S, 1, none⟩ = false := frozen_blk HBT.out
    have z2 : wm1.frozen? ⟨S, 2, none⟩ = false := frozen_blk HBT.out
    have z3 : wm1.frozen? ⟨S, 3, none⟩ = false := frozen_blk HBT.out
    have z4 : wm1.frozen? ⟨S, 4, none⟩ = false := frozen_blk HBT.out
    have z5 : wm1.frozen? ⟨S, 5, none⟩ = false := frozen_blk HBT.out
    have z6 : wm1.frozen? ⟨S, 6, none⟩ = false := frozen_blk HBT.out
    have z7 : wm1.frozen? ⟨S, 7, none⟩ = false := frozen_blk HBT.out
    go_simp
    refine hK.out _ _ (fun h => absurd h (by decide)) ?_
    clear hK K
    refine until_done (by kernel_rfl) ?_
    obtain ⟨V, hV⟩ : ∃ V, V = ((((((((wm1).setCell ⟨S, 0, none⟩ (.slice (some ⟨w3.heap.size, 0, none⟩) 8 8)).setCell ⟨S, 1, none⟩ (.slice (some ⟨y, 0, none⟩) 1 1)).setCell ⟨S, 2, none⟩ (.slice (some ⟨y, 0, none⟩) 1 1)).setCell ⟨S, 3, none⟩ (.slice (some ⟨z, 0, none⟩) 1 1)).setCell ⟨S, 4, none⟩ (.slice (some ⟨z, 0, none⟩) 1 1)).setCell ⟨S, 5, none⟩ (.slice none 0 0)).setCell ⟨S, 6, none⟩ (.slice (some ⟨z, 0, none⟩) 1 1)).setCell ⟨S, 7, none⟩ (.slice (some ⟨y, 0, none⟩) 1 1) := ⟨_, rfl⟩
    rw [← hV]
    have bV : V.heap[S]? = some (.cells #[.slice (some ⟨w3.heap.size, 0, none⟩) 8 8, .slice (some ⟨y, 0, none⟩) 1 1, .slice (some ⟨y, 0, none⟩) 1 1, .slice (some ⟨z, 0, none⟩) 1 1, .slice (some ⟨z, 0, none⟩) 1 1, .slice none 0 0, .slice (some ⟨z, 0, none⟩) 1 1, .slice (some ⟨y, 0, none⟩) 1 1] 71 (0, 0)) := by rw [hV]; exact (blk_put (i := 7) _ (blk_put (i := 6) _ (blk_put (i := 5) _ (blk_put (i := 4) _ (blk_put (i := 3) _ (blk_put (i := 2) _ (blk_put (i := 1) _ (blk_put (i := 0) _ HBT.out))))))))
    have HBV : Hid (Below w.heap.size w V) := Lib.hid (by rw [hV]; exact (((((((((HB3.out.trans (hBm1.mono hlow)).setCell (p := ⟨S, 0, none⟩) lS _).setCell (p := ⟨S, 1, none⟩) lS _).setCell (p := ⟨S, 2, none⟩) lS _).setCell (p := ⟨S, 3, none⟩) lS _).setCell (p := ⟨S, 4, none⟩) lS _).setCell (p := ⟨S, 5, none⟩) lS _).setCell (p := ⟨S, 6, none⟩) lS _).setCell (p := ⟨S, 7, none⟩) lS _))
    have eV : ∀ i, i ≠ S → V.heap[i]? = wm1.heap[i]? := fun i hi => by rw [hV]; simp [World.setCell, Array.getElem?_modify, Ne.symm hi]
    have zV : V.heap.size = wm1.heap.size := by rw [hV]; simp
    have HT : Hid (TabF V p (some ⟨w3.heap.size, 0, none⟩) (some ⟨y, 0, none⟩) (some ⟨z, 0, none⟩)) := Lib.hid ⟨els_blk fpC_len ((eV _ (by omega)).trans HX.out) (fun j v hj => by simpa [fpC, fdsA] using hj), els_blk fpC_len ((eV _ (by omega)).trans ((hBm1.block _ ly.2).trans BY.out)) (fun j v hj => by simpa [fpC, fdsA] using hj), els_blk fpC_len ((eV _ (by omega)).trans ((hBm1.block _ lz.2).trans BZ.out)) (fun j v hj => by simpa [fpC, fdsA] using hj)⟩
    obtain ⟨x0, x1, x2, x3, x4, x5, x6, x7⟩ := cells8 bV
    clear hV bV eV
    go_wp2_with fail
    refine bodyPost_ret (v := tabV (some ⟨w3.heap.size, 0, none⟩) (some ⟨y, 0, none⟩) (some ⟨z, 0, none⟩)) (by simp [results, Try.results22, go_sem, x0, x1, x2, x3, x4, x5, x6, x7, tabV]) rfl ?_
    exact ⟨_, _, _, rfl, HT, HBV.out⟩
end Go.Proofs.Ytplekkpfpidebaa
