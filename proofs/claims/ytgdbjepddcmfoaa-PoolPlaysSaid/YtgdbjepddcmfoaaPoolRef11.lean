/- The document's pool: New. -/
import Derived.Laws.OwnMore
import Derived.StillTailTactics
import Derived.Test.YtgdbjepddcmfoaaHeldTo
import Derived.Test.YtgdbjepddcmfoaaPoolRef10
namespace Go.Proofs.Ytgdbjepddcmfoaa
open Go.RowKit

set_option maxRecDepth 100000 in
set_option maxHeartbeats 4000000 in
theorem refnew_any (A : Option Addr) (c : Nat) (ns : List (List (Int × Int))) (w : World) (h : Nodes w w.heap.size A ns) (hok : cluOk ns = true) :
    Calls Try.prog 8 #[.agg #[.slice A ns.length c]] w fun e w' => ∃ q al tk db ca ct cd, e = .returned (.pointer (some ⟨q, 0, none⟩)) ∧ w.heap.size ≤ q ∧ w.heap.size ≤ al ∧ w.heap.size ≤ tk ∧ w.heap.size ≤ db ∧ RefAt w' q al tk db ca ct cd (frees ns) (PM.zero (frees ns)) (List.replicate ns.length false) ∧ Below w.heap.size w w' := by
  have hB1 := (Below.refl w.heap.size w).alloc (Nat.le_refl _) (.cells #[.slice A ns.length c] 24)
  have hA := Lib.hid (fun W hW => refall_young A c ns w W h hW hok)
  have hfo := Lib.hid (And.intro hok hB1)
  have hnl := cluOk_len hok
  have b0 := heap_alloc_new w (.cells #[.slice A ns.length c] 24)
  obtain ⟨n, hn⟩ : ∃ n, ns.length = n := ⟨_, rfl⟩
  rw [hn] at b0 hnl ⊢
  obtain ⟨W, hW⟩ : ∃ W, W = w.alloc (.cells #[.slice A n c] 24) := ⟨_, rfl⟩
  have s0 : W.cell? ⟨w.heap.size, 0, none⟩ = some (.slice A n c) := by rw [hW]; exact cell_blk (i := 0) b0 rfl
  have HW := Lib.hid hW
  obtain ⟨i0, hi, hz0, hz1, hz2⟩ : ∃ i : TypeInfo, Try.prog.info? 4 = some i ∧ i.zero = some (.bool false) ∧ i.size = 1 ∧ i.bytes = 1 := ⟨_, rfl, rfl, rfl, rfl⟩
  have hmk : ∀ W : World, (Instr.makeSlice 47 (.int .i64 (n : Nat)) (.int .i64 (n : Nat))).run Try.prog W = .ok (.slice (some ⟨W.heap.size, 0, none⟩) n n) (W.alloc (.cells (List.replicate n (Value.bool false)).toArray 4)) := fun W => by
    have := run_make (P := Try.prog) W 47 4 i0 _ Try.underlying47 hi hz0 .i64 .i64 (n : Nat) (n : Nat) (by omega) (by omega) (by rw [hz2]; omega) (by omega)
    rw [hz1] at this
    have e : madeCells (Value.bool false).cells (n * 1) = (List.replicate n (Value.bool false)).toArray := by
      rw [Nat.mul_one]
      have := toList_madeCells_one (Value.bool false) n
      rw [← this]
      rfl
    rw [← e]
    simpa using this
  have hws : W.heap.size = w.heap.size + 1 := by rw [hW]; simp
  have HBW := Lib.hid (show Below w.heap.size w W by rw [hW]; exact (Below.refl w.heap.size w).alloc (Nat.le_refl _) _)
  clear hW b0 h hok hB1
  go_enter Try.func8, Try.ntmps8
  go_wp2_with fail
  rw [← HW.out]
  refine held_begin (fun w' : World => w'.cell? ⟨w.heap.size, 0, none⟩ = some (.slice A n c)) (by kernel_rfl) ?_
  have hS0 : (fun w' : World => w'.cell? ⟨w.heap.size, 0, none⟩ = some (.slice A n c)) W.drew := s0
  refine held_take (v := ?_) 0 5 rfl rfl (by kernel_rfl) (by kernel_rfl) (by kernel_rfl) (fun _ _ _ h => h) ⟨by rfl, ?_⟩ hS0 ?_
  rotate_left
  · intro w' hw'; have x0 := hw'; go_simp; (try with_reducible rfl)
  simp only [Act.put, List.setIfInBounds_toArray, List.set_cons_zero, List.set_cons_succ]
  refine held_take (v := ?_) 2 7 rfl rfl (by kernel_rfl) (by kernel_rfl) (by kernel_rfl) (fun _ _ _ h => h) ⟨by rfl, ?_⟩ hS0 ?_
  rotate_left
  · intro w' hw'; have x0 := hw'; go_simp; (try with_reducible rfl)
  simp only [Act.put, List.setIfInBounds_toArray, List.set_cons_zero, List.set_cons_succ]
  refine held_take (v := ?_) 3 8 rfl rfl (by kernel_rfl) (by kernel_rfl) (by kernel_rfl) (fun _ _ _ h => h) ⟨by rfl, ?_⟩ hS0 ?_
  rotate_left
  · intro w' hw'; have x0 := hw'; go_simp; (try with_reducible rfl)
  simp only [Act.put, List.setIfInBounds_toArray, List.set_cons_zero, List.set_cons_succ]
  refine held_take (v := ?_) 4 9 rfl rfl (by kernel_rfl) (by kernel_rfl) (by kernel_rfl) (fun _ _ _ h => h) ⟨by rfl, ?_⟩ hS0 ?_
  rotate_left
  · intro w' hw'; have x0 := hw'; go_simp; (try with_reducible rfl)
  simp only [Act.put, List.setIfInBounds_toArray, List.set_cons_zero, List.set_cons_succ]
  refine held_two 1 5 rfl rfl (by kernel_rfl) (by rfl) (by rfl) (fun K hK => ?_) (fun K hK => ?_)
  · go_simp
    go_at_call 22
    have hC := hA.out W.drew HBW.out.drew
    rw [hn] at hC
    refine hC.mono ?_
    rintro e w2 ⟨g, cp, rfl, hg1, hg2, hfr, hb2⟩
    have hw2 := hb2.size
    simp at hw2 hg1
    have hS1 : (fun w' : World => w'.cell? ⟨w.heap.size, 0, none⟩ = some (.slice A n c)) w2 := (hb2.cell (p := ⟨w.heap.size, 0, none⟩) (by simp; omega)).trans s0
    refine hK.out _ _ hS1 ?_
    clear hK K
    refine held_one 5 rfl (by kernel_rfl) (by rfl) (fun K hK => ?_)
    go_simp
    obtain ⟨db, hdbe⟩ : ∃ db, db = w2.heap.size := ⟨_, rfl⟩
    obtain ⟨w3, hw3⟩ : ∃ w3, w3 = w2.alloc (.cells (List.replicate n (Value.bool false)).toArray 4) := ⟨_, rfl⟩
    have hb3 : Below w2.heap.size w2 w3 := by rw [hw3]; exact (Below.refl _ _).alloc (Nat.le_refl _) _
    have hs3 : w3.heap.size = w2.heap.size + 1 := by rw [hw3]; simp
    have hS3 : (fun w' : World => w'.cell? ⟨w.heap.size, 0, none⟩ = some (.slice A n c)) w3 := (hb3.cell (p := ⟨w.heap.size, 0, none⟩) (show w.heap.size < w2.heap.size by omega)).trans hS1
    have hD : w3.heap[db]? = some (boolBlk (List.replicate n false)) := by rw [hdbe, hw3]; unfold boolBlk; rw [List.map_replicate]; exact heap_alloc_new w2 _
    have hfr3 : ∀ i f, (frees ns)[i]? = some f → FrAt w3 g (i * 4) f := fun i f hf => (hfr i f hf).keep hg2 hb3
    have hB3 : Below w.heap.size w w3 := below_step (below_step HBW.out.drew hb2) hb3
    have hfin : w.heap.size < g ∧ g < w3.heap.size ∧ w.heap.size < db ∧ db < w3.heap.size ∧ g ≠ db := by omega
    simp only [List.toArray_replicate] at hw3
    refine hK.out _ _ (by rw [← hw3]; exact hS3) ?_
    rw [← hw3, ← hdbe]
    clear hK K hw3 hdbe hb3 hs3 hS1 hb2 hw2 hg1 hg2 hfr hC
    refine held_take (v := ?_) 6 11 rfl rfl (by kernel_rfl) (by kernel_rfl) (by kernel_rfl) (fun _ _ _ h => h) ⟨by rfl, ?_⟩ hS3 ?_
    rotate_left
    · intro w' hw'; have x0 := hw'; go_simp; (try with_reducible rfl)
    simp only [Act.put, List.setIfInBounds_toArray, List.set_cons_zero, List.set_cons_succ]
    refine held_one 7 rfl (by kernel_rfl) (by rfl) (fun K hK => ?_)
    go_simp
    have hS4 : (fun w' : World => w'.cell? ⟨w.heap.size, 0, none⟩ = some (.slice A n c)) (w3.alloc (.cells #[.slice (some ⟨g, 0, none⟩) (frees ns).length cp, .slice none 0 0, .slice (some ⟨db, 0, none⟩) n n] 49)) := by
      have hbq := (Below.refl w3.heap.size w3).alloc (Nat.le_refl _) (.cells #[.slice (some ⟨g, 0, none⟩) (frees ns).length cp, .slice none 0 0, .slice (some ⟨db, 0, none⟩) n n] 49)
      exact (hbq.cell (p := ⟨w.heap.size, 0, none⟩) (show w.heap.size < w3.heap.size by omega)).trans hS3
    refine hK.out _ _ hS4 ?_
    clear hK K
    refine held_take (v := ?_) 8 3 rfl rfl (by kernel_rfl) (by kernel_rfl) (by kernel_rfl) (fun _ _ _ h => h) ⟨by rfl, ?_⟩ hS4 ?_
    rotate_left
    · intro w' hw'; have x0 := hw'; go_simp; (try with_reducible rfl)
    simp only [Act.put, List.setIfInBounds_toArray, List.set_cons_zero, List.set_cons_succ]
    refine wpAnyH_done (by kernel_rfl) ?_ _
    go_simp
    obtain ⟨q, hq⟩ : ∃ q, q = w3.heap.size := ⟨_, rfl⟩
    obtain ⟨w4, hw4⟩ : ∃ w4, w4 = w3.alloc (.cells #[.slice (some ⟨g, 0, none⟩) (frees ns).length cp, .slice none 0 0, .slice (some ⟨db, 0, none⟩) n n] 49) := ⟨_, rfl⟩
    have hb4 : Below w3.heap.size w3 w4 := by rw [hw4]; exact (Below.refl _ _).alloc (Nat.le_refl _) _
    have hq4 : w4.heap[q]? = some (.cells #[.slice (some ⟨g, 0, none⟩) (frees ns).length cp, .slice none 0 0, .slice (some ⟨db, 0, none⟩) n n] 49 (0, 0)) := by rw [hq, hw4]; exact heap_alloc_new w3 _
    have hb4w := Lib.hid hb4
    have hs4 : w4.heap.size = q + 1 := by rw [hw4, hq]; simp
    rw [← hw4, ← hq]
    rw [← hq] at hfin
    have hg3 : g < w3.heap.size := by omega
    clear hb4
    have hfow := fsOk hfo.out.1
    obtain ⟨L, hL⟩ : ∃ L, L = frees ns := ⟨_, rfl⟩
    obtain ⟨N, hN⟩ : ∃ N, N = L.length := ⟨_, rfl⟩
    rw [← hL, ← hN] at hq4
    rw [← hL] at hfr3
    rw [← hL, ← hN]
    have hN1 : 0 < N ∧ N ≤ 1000 := by rw [hN, hL]; exact ⟨hfow.pos, hfow.few⟩
    have H := Lib.hid (And.intro hL (And.intro hN (And.intro hfr3 (And.intro hfow (And.intro hD (And.intro hB3 hq))))))
    clear hw4 hS3 hS4 hD hfr3 hB3 hq hfow hL hN
    obtain ⟨j0, hi, hz0, hz1, hz2⟩ := info_parts info_free
    refine ‹∀ (a : Act) (w : World), _ → _› _ _ ?_
    go_wp2
    go_loopw [4] (fun i wr => ∃ (k : Nat) (A1 : Option Addr) (cpa : Nat), i = .int .i64 k ∧ k ≤ N ∧ Below q w4 wr ∧ q + 1 ≤ wr.heap.size ∧ wr.heap[q]? = some (.cells #[.slice (some ⟨g, 0, none⟩) N cp, .slice A1 k cpa, .slice (some ⟨db, 0, none⟩) n n] 49 (0, 0)) ∧ wr.ownsRow (q + 1) 62 4 (.slice A1 k cpa) k ((PM.zero (L.take k)).flatMap frC)) (fun i _ => N - (intOf i).toNat)
    case atStart => exact ⟨0, none, 0, rfl, by omega, Below.refl _ _, by omega, hq4, World.ownsRow_nil _ _ _ _⟩
    case round =>
      obtain ⟨k, A1, cpa, rfl, hk, hBl, hqs, hqb, hown⟩ := hrel
      obtain ⟨hL, hN, hfr3, hfo3, hD, hB3, hq⟩ := H.out
      have z0 : wr.cell? ⟨q, 0, none⟩ = some (.slice (some ⟨g, 0, none⟩) N cp) := cell_blk (i := 0) hqb rfl
      have z1 : wr.cell? ⟨q, 1, none⟩ = some (.slice A1 k cpa) := cell_blk (i := 1) hqb rfl
      have zf : wr.frozen? ⟨q, 1, none⟩ = false := frozen_blk hqb
      by_cases hlt : k < N
      · obtain ⟨f, hf⟩ := get_lt (l := L) (k := k) (by omega)
        obtain ⟨fn, fd, _, _⟩ := ((hfr3 k f hf).keep hg3 hb4w.out).keep hfin.2.1 hBl
        have t0 : decide (k < N) = true := decide_eq_true hlt
        have hnx := take_next hf
        have HN := Lib.hid (And.intro hnx (And.intro hBl hqb))
        have hqg : q ≠ g := by omega
        have hon : (Value.slice A1 k cpa).ownBlock ≠ some q := fun e => by have := (hown.lt _ e).1; omega
        have hog : (Value.slice A1 k cpa).ownBlock ≠ some g := fun e => by have := (hown.lt _ e).1; omega
        clear hL hN hfr3 hfo3 hD hB3 hq hqb hf hnx hBl
        go_wp2
        refine wp_until (fun w' : World => w'.cell? ⟨q, 0, none⟩ = some (.slice (some ⟨g, 0, none⟩) N cp) ∧ w'.cell? ⟨q, 1, none⟩ = some (.slice A1 k cpa) ∧ w'.cell? ⟨g, k * 4, none⟩ = some (.int .i64 (f.n : Nat)) ∧ w'.cell? ⟨g, k * 4 + 1, none⟩ = some (.int .i64 (f.d : Nat))) 18 (by kernel_rfl) ?_
        have hS : (fun w' : World => w'.cell? ⟨q, 0, none⟩ = some (.slice (some ⟨g, 0, none⟩) N cp) ∧ w'.cell? ⟨q, 1, none⟩ = some (.slice A1 k cpa) ∧ w'.cell? ⟨g, k * 4, none⟩ = some (.int .i64 (f.n : Nat)) ∧ w'.cell? ⟨g, k * 4 + 1, none⟩ = some (.int .i64 (f.d : Nat))) wr.drew := ⟨z0, z1, fn, fd⟩
        have fz4 : wr.drew.frozen? ⟨q, 1, none⟩ = false := zf
        have hown4 := hown.drew
        have hs5 : q + 1 ≤ wr.drew.heap.size := hqs
        have HW5 : Hid (wr.drew.heap = wr.heap ∧ wr.drew.os = wr.os ∧ wr.drew.tape = wr.tape ∧ wr.drew.output = wr.output) := Lib.hid ⟨rfl, rfl, rfl, rfl⟩
        clear z0 z1 fn fd zf hown
        generalize wr.drew = w5 at hS fz4 hown4 hs5 HW5 ⊢
        refine until_take (v := ?_) 0 22 rfl rfl (by kernel_rfl) (by kernel_rfl) (by kernel_rfl) (by kernel_rfl) (fun _ _ _ h => h) ⟨by rfl, ?_⟩ hS ?_
        rotate_left
        · intro w' hw'; obtain ⟨x0, x1, x2, x3⟩ := hw'; go_simp; (try with_reducible rfl)
        simp only [Act.put, List.setIfInBounds_toArray, List.set_cons_zero, List.set_cons_succ]
        refine until_take (v := ?_) 1 23 rfl rfl (by kernel_rfl) (by kernel_rfl) (by kernel_rfl) (by kernel_rfl) (fun _ _ _ h => h) ⟨by rfl, ?_⟩ hS ?_
        rotate_left
        · intro w' hw'; obtain ⟨x0, x1, x2, x3⟩ := hw'; go_simp; (try with_reducible rfl)
        simp only [Act.put, List.setIfInBounds_toArray, List.set_cons_zero, List.set_cons_succ]
        refine until_take (v := ?_) 2 24 rfl rfl (by kernel_rfl) (by kernel_rfl) (by kernel_rfl) (by kernel_rfl) (fun _ _ _ h => h) ⟨by rfl, ?_⟩ hS ?_
        rotate_left
        · intro w' hw'; obtain ⟨x0, x1, x2, x3⟩ := hw'; go_simp; (try with_reducible rfl)
        simp only [Act.put, List.setIfInBounds_toArray, List.set_cons_zero, List.set_cons_succ]
        refine until_take (v := ?_) 3 25 rfl rfl (by kernel_rfl) (by kernel_rfl) (by kernel_rfl) (by kernel_rfl) (fun _ _ _ h => h) ⟨by rfl, ?_⟩ hS ?_
        rotate_left
        · intro w' hw'; obtain ⟨x0, x1, x2, x3⟩ := hw'; go_simp; (try with_reducible rfl)
        simp only [Act.put, List.setIfInBounds_toArray, List.set_cons_zero, List.set_cons_succ]
        refine until_take (v := ?_) 4 26 rfl rfl (by kernel_rfl) (by kernel_rfl) (by kernel_rfl) (by kernel_rfl) (fun _ _ _ h => h) ⟨by rfl, ?_⟩ hS ?_
        rotate_left
        · intro w' hw'; obtain ⟨x0, x1, x2, x3⟩ := hw'; go_simp; (try with_reducible rfl)
        simp only [Act.put, List.setIfInBounds_toArray, List.set_cons_zero, List.set_cons_succ]
        refine until_take (v := ?_) 5 27 rfl rfl (by kernel_rfl) (by kernel_rfl) (by kernel_rfl) (by kernel_rfl) (fun _ _ _ h => h) ⟨by rfl, ?_⟩ hS ?_
        rotate_left
        · intro w' hw'; obtain ⟨x0, x1, x2, x3⟩ := hw'; go_simp; (try with_reducible rfl)
        simp only [Act.put, List.setIfInBounds_toArray, List.set_cons_zero, List.set_cons_succ]
        refine until_take (v := ?_) 6 28 rfl rfl (by kernel_rfl) (by kernel_rfl) (by kernel_rfl) (by kernel_rfl) (fun _ _ _ h => h) ⟨by rfl, ?_⟩ hS ?_
        rotate_left
        · intro w' hw'; obtain ⟨x0, x1, x2, x3⟩ := hw'; go_simp; (try with_reducible rfl)
        simp only [Act.put, List.setIfInBounds_toArray, List.set_cons_zero, List.set_cons_succ]
        refine until_take (v := ?_) 7 29 rfl rfl (by kernel_rfl) (by kernel_rfl) (by kernel_rfl) (by kernel_rfl) (fun _ _ _ h => h) ⟨by rfl, ?_⟩ hS ?_
        rotate_left
        · intro w' hw'; obtain ⟨x0, x1, x2, x3⟩ := hw'; go_simp; (try with_reducible rfl)
        simp only [Act.put, List.setIfInBounds_toArray, List.set_cons_zero, List.set_cons_succ]
        refine until_take (v := ?_) 8 30 rfl rfl (by kernel_rfl) (by kernel_rfl) (by kernel_rfl) (by kernel_rfl) (fun _ _ _ h => h) ⟨by rfl, ?_⟩ hS ?_
        rotate_left
        · intro w' hw'; obtain ⟨x0, x1, x2, x3⟩ := hw'; go_simp; (try with_reducible rfl)
        simp only [Act.put, List.setIfInBounds_toArray, List.set_cons_zero, List.set_cons_succ]
        refine until_take (v := ?_) 9 31 rfl rfl (by kernel_rfl) (by kernel_rfl) (by kernel_rfl) (by kernel_rfl) (fun _ _ _ h => h) ⟨by rfl, ?_⟩ hS ?_
        rotate_left
        · intro w' hw'; obtain ⟨x0, x1, x2, x3⟩ := hw'; go_simp; (try with_reducible rfl)
        simp only [Act.put, List.setIfInBounds_toArray, List.set_cons_zero, List.set_cons_succ]
        refine until_take (v := ?_) 10 32 rfl rfl (by kernel_rfl) (by kernel_rfl) (by kernel_rfl) (by kernel_rfl) (fun _ _ _ h => h) ⟨by rfl, ?_⟩ hS ?_
        rotate_left
        · intro w' hw'; obtain ⟨x0, x1, x2, x3⟩ := hw'; go_simp; (try with_reducible rfl)
        simp only [Act.put, List.setIfInBounds_toArray, List.set_cons_zero, List.set_cons_succ]
        refine until_take (v := ?_) 11 33 rfl rfl (by kernel_rfl) (by kernel_rfl) (by kernel_rfl) (by kernel_rfl) (fun _ _ _ h => h) ⟨by rfl, ?_⟩ hS ?_
        rotate_left
        · intro w' hw'; obtain ⟨x0, x1, x2, x3⟩ := hw'; go_simp; (try with_reducible rfl)
        simp only [Act.put, List.setIfInBounds_toArray, List.set_cons_zero, List.set_cons_succ]
        refine until_take (v := ?_) 12 34 rfl rfl (by kernel_rfl) (by kernel_rfl) (by kernel_rfl) (by kernel_rfl) (fun _ _ _ h => h) ⟨by rfl, ?_⟩ hS ?_
        rotate_left
        · intro w' hw'; obtain ⟨x0, x1, x2, x3⟩ := hw'; go_simp; (try with_reducible rfl)
        simp only [Act.put, List.setIfInBounds_toArray, List.set_cons_zero, List.set_cons_succ]
        refine until_take (v := ?_) 13 35 rfl rfl (by kernel_rfl) (by kernel_rfl) (by kernel_rfl) (by kernel_rfl) (fun _ _ _ h => h) ⟨by rfl, ?_⟩ hS ?_
        rotate_left
        · intro w' hw'; obtain ⟨x0, x1, x2, x3⟩ := hw'; go_simp; (try with_reducible rfl)
        simp only [Act.put, List.setIfInBounds_toArray, List.set_cons_zero, List.set_cons_succ]
        refine until_one 14 rfl (by kernel_rfl) rfl (fun K hK => ?_)
        go_simp
        have hst := (Below.refl w5.heap.size w5).alloc (Nat.le_refl _) (.cells #[.int .i64 (f.n : Nat), .int .i64 (f.d : Nat), .int .u64 0, .int .i64 0] 62)
        have hS4 : (fun w' : World => w'.cell? ⟨q, 0, none⟩ = some (.slice (some ⟨g, 0, none⟩) N cp) ∧ w'.cell? ⟨q, 1, none⟩ = some (.slice A1 k cpa) ∧ w'.cell? ⟨g, k * 4, none⟩ = some (.int .i64 (f.n : Nat)) ∧ w'.cell? ⟨g, k * 4 + 1, none⟩ = some (.int .i64 (f.d : Nat))) (w5.alloc (.cells #[.int .i64 (f.n : Nat), .int .i64 (f.d : Nat), .int .u64 0, .int .i64 0] 62)) :=
          ⟨(hst.cell (p := ⟨q, 0, none⟩) (show q < _ by omega)).trans hS.1, (hst.cell (p := ⟨q, 1, none⟩) (show q < _ by omega)).trans hS.2.1, (hst.cell (p := ⟨g, k * 4, none⟩) (show g < _ by omega)).trans hS.2.2.1, (hst.cell (p := ⟨g, k * 4 + 1, none⟩) (show g < _ by omega)).trans hS.2.2.2⟩
        refine hK.out _ _ (fun _ => hS4) ?_
        clear hK K
        refine until_one 15 rfl (by kernel_rfl) rfl (fun K hK => ?_)
        simp only [Go.wp_at_zero, Go.wp_at_succ]
        refine wp_append_lies _ _ _ 41 rfl (q + 1) 62 j0 _ 4 32 Try.underlying41 hi hz0 hz1 hz2 rfl (by omega) (.slice A1 k cpa) k ((PM.zero (L.take k)).flatMap frC) rfl (hown4.alloc _) ⟨w5.heap.size, 0, none⟩ 1 1 [.int .i64 (f.n : Nat), .int .i64 (f.d : Nat), .int .u64 0, .int .i64 0] rfl rfl (World.news_of_block (cs := #[.int .i64 (f.n : Nat), .int .i64 (f.d : Nat), .int .u64 0, .int .i64 0]) (t := 62) (fr := (0, 0)) (heap_alloc_new w5 _)) (by simp [Value.oneCell']) (by omega) (by unfold maxLen; omega) (by omega) (by simp; omega) (w5.heap.size + 1) (by simp) ?_
        intro gg cap' v3 hown3 hgrow hat hlt5
        have hS3 : (fun w' : World => w'.cell? ⟨q, 0, none⟩ = some (.slice (some ⟨g, 0, none⟩) N cp) ∧ w'.cell? ⟨q, 1, none⟩ = some (.slice A1 k cpa) ∧ w'.cell? ⟨g, k * 4, none⟩ = some (.int .i64 (f.n : Nat)) ∧ w'.cell? ⟨g, k * 4 + 1, none⟩ = some (.int .i64 (f.d : Nat))) v3 :=
          ⟨(hgrow.cell_far _ (by simp; omega) (Ne.symm hon)).trans hS4.1, (hgrow.cell_far _ (by simp; omega) (Ne.symm hon)).trans hS4.2.1, (hgrow.cell_far _ (by simp; omega) (Ne.symm hog)).trans hS4.2.2.1, (hgrow.cell_far _ (by simp; omega) (Ne.symm hog)).trans hS4.2.2.2⟩
        have g4 := hS3.2.1
        have g5 : v3.frozen? ⟨q, 1, none⟩ = false := (hgrow.frozen_far ⟨q, 1, none⟩ (by simp; omega) (Ne.symm hon)).trans ((hst.frozen (p := ⟨q, 1, none⟩) (show q < _ by omega)).trans fz4)
        refine hK.out _ _ (fun _ => hS3) ?_
        clear hK K
        simp only [Act.put, List.setIfInBounds_toArray, List.set_cons_zero, List.set_cons_succ]
        refine until_one 16 rfl (by kernel_rfl) rfl (fun K hK => ?_)
        go_simp
        refine hK.out _ _ (fun _ => hS3) ?_
        clear hK K
        refine until_one 17 rfl (by kernel_rfl) rfl (fun K hK => ?_)
        go_simp
        refine hK.out _ _ (fun _ => hS3) ?_
        clear hK K
        refine until_one 18 rfl (by kernel_rfl) rfl (fun K hK => ?_)
        go_simp
        refine hK.out _ _ (fun h => absurd h (by decide)) ?_
        clear hK K
        refine until_done (by kernel_rfl) ?_
        obtain ⟨hnx, hBl, hqb⟩ := HN.out
        obtain ⟨e1, e2, e3, e4⟩ := HW5.out
        have hgb : v3.heap[q]? = wr.heap[q]? := by
          rw [← e1]
          exact (hgrow.block q (by simp; omega) (Ne.symm hon)).trans (Below.heap_alloc w5 _ q (by omega))
        have hbq : (v3.setCell ⟨q, 1, none⟩ (.slice (some ⟨gg, 0, none⟩) (k + 1) cap')).heap[q]? = some (.cells #[.slice (some ⟨g, 0, none⟩) N cp, .slice (some ⟨gg, 0, none⟩) (k + 1) cap', .slice (some ⟨db, 0, none⟩) n n] 49 (0, 0)) := blk_put _ (hgb.trans hqb)
        have hB5 : Below q w4 w5 := ⟨e2.trans hBl.os, e3.trans hBl.tape, e4.trans hBl.output, by rw [e1]; exact hBl.size, fun j hj => by rw [e1]; exact hBl.block j hj⟩
        have hB7 : Below q w4 (v3.setCell ⟨q, 1, none⟩ (.slice (some ⟨gg, 0, none⟩) (k + 1) cap')) := ((hB5.alloc (by omega) _).grown hgrow (by simp; omega) (fun j e => by have := (hown4.lt j e).1; omega)).setCell (Nat.le_refl _) _
        have hgl := hgrow.size
        simp at hgl
        have hggq : gg ≠ q := by
          rcases hat with hat | hat
          · rintro rfl; exact hon hat
          · omega
        have hown7 : (v3.setCell ⟨q, 1, none⟩ (.slice (some ⟨gg, 0, none⟩) (k + 1) cap')).ownsRow (q + 1) 62 4 (.slice (some ⟨gg, 0, none⟩) (k + 1) cap') (k + 1) ((PM.zero (L.take (k + 1))).flatMap frC) := by
          refine own_same (W := v3) ?_ (fun j e => Below.heap_setCell _ _ _ _ (by rw [← (show gg = j by simpa [Value.ownBlock] using e)]; exact hggq))
          rw [hnx]
          have e3 : (PM.zero (L.take k ++ [f])).flatMap frC = (PM.zero (L.take k)).flatMap frC ++ [.int .i64 (f.n : Nat), .int .i64 (f.d : Nat), .int .u64 0, .int .i64 0] := by simp [PM.zero, frC]
          rw [e3]
          exact hown3
        have hs7 : q + 1 ≤ (v3.setCell ⟨q, 1, none⟩ (.slice (some ⟨gg, 0, none⟩) (k + 1) cap')).heap.size := by simp; omega
        have HE := Lib.hid (And.intro hbq (And.intro hB7 (And.intro hown7 hs7)))
        clear hnx hBl hqb e1 e2 e3 e4 hgb hbq hB5 hB7 hgl hggq hown7 hs7 hS3 hS4 hst g4 g5 hS fz4 hown4 hown3 hgrow hat hlt5
        go_wp2
        go_roundw
        case rel => exact ⟨k + 1, some ⟨gg, 0, none⟩, cap', by go_num, by omega, HE.out.2.1, HE.out.2.2.2, HE.out.1, HE.out.2.2.1⟩
        case measure => simp [intOf]; omega
      · obtain rfl : k = N := by omega
        have eL : L.take k = L := by rw [hN]; exact List.take_length
        rw [eL] at hown
        obtain ⟨tk, ct, ev, htB, htl⟩ := hown.form hN1.1
        cases ev
        have hzl : (PM.zero L).length = k := by rw [hN]; simp [PM.zero]
        have hT : TakenAt wr tk (PM.zero L) := by
          have hown9 := hown
          rw [← hzl] at hown9
          exact (TakenAt.of_own hown9).1
        have hBw : Below w.heap.size w wr := hB3.trans ((hb4w.out.mono (by omega)).trans (hBl.mono (by omega)))
        have hR : RefAt wr q g tk db cp cpa n L (PM.zero L) (List.replicate n false) := by
          refine ⟨?_, PM.zero_inv L, ?_, ?_, hT, ?_, by omega⟩
          · rw [List.length_replicate, hL, ← hn]; exact hfo3
          · rw [List.length_replicate, ← hN]; exact hqb
          · exact fun i f hf => ((hfr3 i f hf).keep hg3 hb4w.out).keep hfin.2.1 hBl
          · exact ((hBl.block db hfin.2.2.2.1).trans (hb4w.out.block db (by omega))).trans hD
        have HE := Lib.hid (And.intro hR (And.intro hBw hL))
        clear hfr3 hfo3 hD hB3 hq hqb hBl hown hL hN eL hT hR hBw hzl
        go_wp2
        go_ret
        rw [← HE.out.2.2]
        exact ⟨q, g, tk, db, cp, cpa, n, rfl, by omega, by omega, by omega, by omega, HE.out.1, HE.out.2.1⟩
  · go_simp
    obtain ⟨db, hdbe⟩ : ∃ db, db = w.heap.size + 1 := ⟨_, rfl⟩
    obtain ⟨w2, hw2⟩ : ∃ w2, w2 = (W.alloc (.cells (List.replicate n (Value.bool false)).toArray 4)).drew := ⟨_, rfl⟩
    have hb2 : Below W.heap.size W w2 := by rw [hw2]; exact ((Below.refl _ _).alloc (Nat.le_refl _) _).drew
    have hs2 : w2.heap.size = w.heap.size + 2 := by rw [hw2]; simp [hws]
    have hS1 : (fun w' : World => w'.cell? ⟨w.heap.size, 0, none⟩ = some (.slice A n c)) w2 := (hb2.cell (p := ⟨w.heap.size, 0, none⟩) (show w.heap.size < W.heap.size by omega)).trans s0
    have hD2 : w2.heap[db]? = some (boolBlk (List.replicate n false)) := by rw [hdbe, hw2, ← hws]; unfold boolBlk; rw [List.map_replicate]; exact heap_alloc_new W _
    have hB2 : Below w.heap.size w w2 := below_step HBW.out hb2
    simp only [List.toArray_replicate] at hw2
    refine hK.out _ _ (by rw [← hw2]; exact hS1) ?_
    rw [← hw2, ← hdbe]
    have hdb2 : w.heap.size < db ∧ db < w2.heap.size := by omega
    clear hK K hw2 hdbe
    refine held_one 1 rfl (by kernel_rfl) (by rfl) (fun K hK => ?_)
    go_simp
    go_at_call 22
    have hC := hA.out w2 hB2
    rw [hn] at hC
    refine hC.mono ?_
    rintro e w3 ⟨g, cp, rfl, hg1, hg2, hfr3, hb3⟩
    have hs3 := hb3.size
    have hS3 : (fun w' : World => w'.cell? ⟨w.heap.size, 0, none⟩ = some (.slice A n c)) w3 := (hb3.cell (p := ⟨w.heap.size, 0, none⟩) (show w.heap.size < w2.heap.size by omega)).trans hS1
    have hD : w3.heap[db]? = some (boolBlk (List.replicate n false)) := (hb3.block db (by omega)).trans hD2
    have hB3 : Below w.heap.size w w3 := below_step hB2 hb3
    have hfin : w.heap.size < g ∧ g < w3.heap.size ∧ w.heap.size < db ∧ db < w3.heap.size ∧ g ≠ db := by omega
    refine hK.out _ _ hS3 ?_
    clear hK K hb3 hs3 hS1 hb2 hD2 hB2 hg1 hg2 hC hs2 hdb2
    refine held_take (v := ?_) 6 11 rfl rfl (by kernel_rfl) (by kernel_rfl) (by kernel_rfl) (fun _ _ _ h => h) ⟨by rfl, ?_⟩ hS3 ?_
    rotate_left
    · intro w' hw'; have x0 := hw'; go_simp; (try with_reducible rfl)
    simp only [Act.put, List.setIfInBounds_toArray, List.set_cons_zero, List.set_cons_succ]
    refine held_one 7 rfl (by kernel_rfl) (by rfl) (fun K hK => ?_)
    go_simp
    have hS4 : (fun w' : World => w'.cell? ⟨w.heap.size, 0, none⟩ = some (.slice A n c)) (w3.alloc (.cells #[.slice (some ⟨g, 0, none⟩) (frees ns).length cp, .slice none 0 0, .slice (some ⟨db, 0, none⟩) n n] 49)) := by
      have hbq := (Below.refl w3.heap.size w3).alloc (Nat.le_refl _) (.cells #[.slice (some ⟨g, 0, none⟩) (frees ns).length cp, .slice none 0 0, .slice (some ⟨db, 0, none⟩) n n] 49)
      exact (hbq.cell (p := ⟨w.heap.size, 0, none⟩) (show w.heap.size < w3.heap.size by omega)).trans hS3
    refine hK.out _ _ hS4 ?_
    clear hK K
    refine held_take (v := ?_) 8 3 rfl rfl (by kernel_rfl) (by kernel_rfl) (by kernel_rfl) (fun _ _ _ h => h) ⟨by rfl, ?_⟩ hS4 ?_
    rotate_left
    · intro w' hw'; have x0 := hw'; go_simp; (try with_reducible rfl)
    simp only [Act.put, List.setIfInBounds_toArray, List.set_cons_zero, List.set_cons_succ]
    refine wpAnyH_done (by kernel_rfl) ?_ _
    go_simp
    obtain ⟨q, hq⟩ : ∃ q, q = w3.heap.size := ⟨_, rfl⟩
    obtain ⟨w4, hw4⟩ : ∃ w4, w4 = w3.alloc (.cells #[.slice (some ⟨g, 0, none⟩) (frees ns).length cp, .slice none 0 0, .slice (some ⟨db, 0, none⟩) n n] 49) := ⟨_, rfl⟩
    have hb4 : Below w3.heap.size w3 w4 := by rw [hw4]; exact (Below.refl _ _).alloc (Nat.le_refl _) _
    have hq4 : w4.heap[q]? = some (.cells #[.slice (some ⟨g, 0, none⟩) (frees ns).length cp, .slice none 0 0, .slice (some ⟨db, 0, none⟩) n n] 49 (0, 0)) := by rw [hq, hw4]; exact heap_alloc_new w3 _
    have hb4w := Lib.hid hb4
    have hs4 : w4.heap.size = q + 1 := by rw [hw4, hq]; simp
    rw [← hw4, ← hq]
    rw [← hq] at hfin
    have hg3 : g < w3.heap.size := by omega
    clear hb4
    have hfow := fsOk hfo.out.1
    obtain ⟨L, hL⟩ : ∃ L, L = frees ns := ⟨_, rfl⟩
    obtain ⟨N, hN⟩ : ∃ N, N = L.length := ⟨_, rfl⟩
    rw [← hL, ← hN] at hq4
    rw [← hL] at hfr3
    rw [← hL, ← hN]
    have hN1 : 0 < N ∧ N ≤ 1000 := by rw [hN, hL]; exact ⟨hfow.pos, hfow.few⟩
    have H := Lib.hid (And.intro hL (And.intro hN (And.intro hfr3 (And.intro hfow (And.intro hD (And.intro hB3 hq))))))
    clear hw4 hS3 hS4 hD hfr3 hB3 hq hfow hL hN
    obtain ⟨j0, hi, hz0, hz1, hz2⟩ := info_parts info_free
    refine ‹∀ (a : Act) (w : World), _ → _› _ _ ?_
    go_wp2
    go_loopw [4] (fun i wr => ∃ (k : Nat) (A1 : Option Addr) (cpa : Nat), i = .int .i64 k ∧ k ≤ N ∧ Below q w4 wr ∧ q + 1 ≤ wr.heap.size ∧ wr.heap[q]? = some (.cells #[.slice (some ⟨g, 0, none⟩) N cp, .slice A1 k cpa, .slice (some ⟨db, 0, none⟩) n n] 49 (0, 0)) ∧ wr.ownsRow (q + 1) 62 4 (.slice A1 k cpa) k ((PM.zero (L.take k)).flatMap frC)) (fun i _ => N - (intOf i).toNat)
    case atStart => exact ⟨0, none, 0, rfl, by omega, Below.refl _ _, by omega, hq4, World.ownsRow_nil _ _ _ _⟩
    case round =>
      obtain ⟨k, A1, cpa, rfl, hk, hBl, hqs, hqb, hown⟩ := hrel
      obtain ⟨hL, hN, hfr3, hfo3, hD, hB3, hq⟩ := H.out
      have z0 : wr.cell? ⟨q, 0, none⟩ = some (.slice (some ⟨g, 0, none⟩) N cp) := cell_blk (i := 0) hqb rfl
      have z1 : wr.cell? ⟨q, 1, none⟩ = some (.slice A1 k cpa) := cell_blk (i := 1) hqb rfl
      have zf : wr.frozen? ⟨q, 1, none⟩ = false := frozen_blk hqb
      by_cases hlt : k < N
      · obtain ⟨f, hf⟩ := get_lt (l := L) (k := k) (by omega)
        obtain ⟨fn, fd, _, _⟩ := ((hfr3 k f hf).keep hg3 hb4w.out).keep hfin.2.1 hBl
        have t0 : decide (k < N) = true := decide_eq_true hlt
        have hnx := take_next hf
        have HN := Lib.hid (And.intro hnx (And.intro hBl hqb))
        have hqg : q ≠ g := by omega
        have hon : (Value.slice A1 k cpa).ownBlock ≠ some q := fun e => by have := (hown.lt _ e).1; omega
        have hog : (Value.slice A1 k cpa).ownBlock ≠ some g := fun e => by have := (hown.lt _ e).1; omega
        clear hL hN hfr3 hfo3 hD hB3 hq hqb hf hnx hBl
        go_wp2
        refine wp_until (fun w' : World => w'.cell? ⟨q, 0, none⟩ = some (.slice (some ⟨g, 0, none⟩) N cp) ∧ w'.cell? ⟨q, 1, none⟩ = some (.slice A1 k cpa) ∧ w'.cell? ⟨g, k * 4, none⟩ = some (.int .i64 (f.n : Nat)) ∧ w'.cell? ⟨g, k * 4 + 1, none⟩ = some (.int .i64 (f.d : Nat))) 18 (by kernel_rfl) ?_
        have hS : (fun w' : World => w'.cell? ⟨q, 0, none⟩ = some (.slice (some ⟨g, 0, none⟩) N cp) ∧ w'.cell? ⟨q, 1, none⟩ = some (.slice A1 k cpa) ∧ w'.cell? ⟨g, k * 4, none⟩ = some (.int .i64 (f.n : Nat)) ∧ w'.cell? ⟨g, k * 4 + 1, none⟩ = some (.int .i64 (f.d : Nat))) wr.drew := ⟨z0, z1, fn, fd⟩
        have fz4 : wr.drew.frozen? ⟨q, 1, none⟩ = false := zf
        have hown4 := hown.drew
        have hs5 : q + 1 ≤ wr.drew.heap.size := hqs
        have HW5 : Hid (wr.drew.heap = wr.heap ∧ wr.drew.os = wr.os ∧ wr.drew.tape = wr.tape ∧ wr.drew.output = wr.output) := Lib.hid ⟨rfl, rfl, rfl, rfl⟩
        clear z0 z1 fn fd zf hown
        generalize wr.drew = w5 at hS fz4 hown4 hs5 HW5 ⊢
        refine until_take (v := ?_) 0 22 rfl rfl (by kernel_rfl) (by kernel_rfl) (by kernel_rfl) (by kernel_rfl) (fun _ _ _ h => h) ⟨by rfl, ?_⟩ hS ?_
        rotate_left
        · intro w' hw'; obtain ⟨x0, x1, x2, x3⟩ := hw'; go_simp; (try with_reducible rfl)
        simp only [Act.put, List.setIfInBounds_toArray, List.set_cons_zero, List.set_cons_succ]
        refine until_take (v := ?_) 1 23 rfl rfl (by kernel_rfl) (by kernel_rfl) (by kernel_rfl) (by kernel_rfl) (fun _ _ _ h => h) ⟨by rfl, ?_⟩ hS ?_
        rotate_left
        · intro w' hw'; obtain ⟨x0, x1, x2, x3⟩ := hw'; go_simp; (try with_reducible rfl)
        simp only [Act.put, List.setIfInBounds_toArray, List.set_cons_zero, List.set_cons_succ]
        refine until_take (v := ?_) 2 24 rfl rfl (by kernel_rfl) (by kernel_rfl) (by kernel_rfl) (by kernel_rfl) (fun _ _ _ h => h) ⟨by rfl, ?_⟩ hS ?_
        rotate_left
        · intro w' hw'; obtain ⟨x0, x1, x2, x3⟩ := hw'; go_simp; (try with_reducible rfl)
        simp only [Act.put, List.setIfInBounds_toArray, List.set_cons_zero, List.set_cons_succ]
        refine until_take (v := ?_) 3 25 rfl rfl (by kernel_rfl) (by kernel_rfl) (by kernel_rfl) (by kernel_rfl) (fun _ _ _ h => h) ⟨by rfl, ?_⟩ hS ?_
        rotate_left
        · intro w' hw'; obtain ⟨x0, x1, x2, x3⟩ := hw'; go_simp; (try with_reducible rfl)
        simp only [Act.put, List.setIfInBounds_toArray, List.set_cons_zero, List.set_cons_succ]
        refine until_take (v := ?_) 4 26 rfl rfl (by kernel_rfl) (by kernel_rfl) (by kernel_rfl) (by kernel_rfl) (fun _ _ _ h => h) ⟨by rfl, ?_⟩ hS ?_
        rotate_left
        · intro w' hw'; obtain ⟨x0, x1, x2, x3⟩ := hw'; go_simp; (try with_reducible rfl)
        simp only [Act.put, List.setIfInBounds_toArray, List.set_cons_zero, List.set_cons_succ]
        refine until_take (v := ?_) 5 27 rfl rfl (by kernel_rfl) (by kernel_rfl) (by kernel_rfl) (by kernel_rfl) (fun _ _ _ h => h) ⟨by rfl, ?_⟩ hS ?_
        rotate_left
        · intro w' hw'; obtain ⟨x0, x1, x2, x3⟩ := hw'; go_simp; (try with_reducible rfl)
        simp only [Act.put, List.setIfInBounds_toArray, List.set_cons_zero, List.set_cons_succ]
        refine until_take (v := ?_) 6 28 rfl rfl (by kernel_rfl) (by kernel_rfl) (by kernel_rfl) (by kernel_rfl) (fun _ _ _ h => h) ⟨by rfl, ?_⟩ hS ?_
        rotate_left
        · intro w' hw'; obtain ⟨x0, x1, x2, x3⟩ := hw'; go_simp; (try with_reducible rfl)
        simp only [Act.put, List.setIfInBounds_toArray, List.set_cons_zero, List.set_cons_succ]
        refine until_take (v := ?_) 7 29 rfl rfl (by kernel_rfl) (by kernel_rfl) (by kernel_rfl) (by kernel_rfl) (fun _ _ _ h => h) ⟨by rfl, ?_⟩ hS ?_
        rotate_left
        · intro w' hw'; obtain ⟨x0, x1, x2, x3⟩ := hw'; go_simp; (try with_reducible rfl)
        simp only [Act.put, List.setIfInBounds_toArray, List.set_cons_zero, List.set_cons_succ]
        refine until_take (v := ?_) 8 30 rfl rfl (by kernel_rfl) (by kernel_rfl) (by kernel_rfl) (by kernel_rfl) (fun _ _ _ h => h) ⟨by rfl, ?_⟩ hS ?_
        rotate_left
        · intro w' hw'; obtain ⟨x0, x1, x2, x3⟩ := hw'; go_simp; (try with_reducible rfl)
        simp only [Act.put, List.setIfInBounds_toArray, List.set_cons_zero, List.set_cons_succ]
        refine until_take (v := ?_) 9 31 rfl rfl (by kernel_rfl) (by kernel_rfl) (by kernel_rfl) (by kernel_rfl) (fun _ _ _ h => h) ⟨by rfl, ?_⟩ hS ?_
        rotate_left
        · intro w' hw'; obtain ⟨x0, x1, x2, x3⟩ := hw'; go_simp; (try with_reducible rfl)
        simp only [Act.put, List.setIfInBounds_toArray, List.set_cons_zero, List.set_cons_succ]
        refine until_take (v := ?_) 10 32 rfl rfl (by kernel_rfl) (by kernel_rfl) (by kernel_rfl) (by kernel_rfl) (fun _ _ _ h => h) ⟨by rfl, ?_⟩ hS ?_
        rotate_left
        · intro w' hw'; obtain ⟨x0, x1, x2, x3⟩ := hw'; go_simp; (try with_reducible rfl)
        simp only [Act.put, List.setIfInBounds_toArray, List.set_cons_zero, List.set_cons_succ]
        refine until_take (v := ?_) 11 33 rfl rfl (by kernel_rfl) (by kernel_rfl) (by kernel_rfl) (by kernel_rfl) (fun _ _ _ h => h) ⟨by rfl, ?_⟩ hS ?_
        rotate_left
        · intro w' hw'; obtain ⟨x0, x1, x2, x3⟩ := hw'; go_simp; (try with_reducible rfl)
        simp only [Act.put, List.setIfInBounds_toArray, List.set_cons_zero, List.set_cons_succ]
        refine until_take (v := ?_) 12 34 rfl rfl (by kernel_rfl) (by kernel_rfl) (by kernel_rfl) (by kernel_rfl) (fun _ _ _ h => h) ⟨by rfl, ?_⟩ hS ?_
        rotate_left
        · intro w' hw'; obtain ⟨x0, x1, x2, x3⟩ := hw'; go_simp; (try with_reducible rfl)
        simp only [Act.put, List.setIfInBounds_toArray, List.set_cons_zero, List.set_cons_succ]
        refine until_take (v := ?_) 13 35 rfl rfl (by kernel_rfl) (by kernel_rfl) (by kernel_rfl) (by kernel_rfl) (fun _ _ _ h => h) ⟨by rfl, ?_⟩ hS ?_
        rotate_left
        · intro w' hw'; obtain ⟨x0, x1, x2, x3⟩ := hw'; go_simp; (try with_reducible rfl)
        simp only [Act.put, List.setIfInBounds_toArray, List.set_cons_zero, List.set_cons_succ]
        refine until_one 14 rfl (by kernel_rfl) rfl (fun K hK => ?_)
        go_simp
        have hst := (Below.refl w5.heap.size w5).alloc (Nat.le_refl _) (.cells #[.int .i64 (f.n : Nat), .int .i64 (f.d : Nat), .int .u64 0, .int .i64 0] 62)
        have hS4 : (fun w' : World => w'.cell? ⟨q, 0, none⟩ = some (.slice (some ⟨g, 0, none⟩) N cp) ∧ w'.cell? ⟨q, 1, none⟩ = some (.slice A1 k cpa) ∧ w'.cell? ⟨g, k * 4, none⟩ = some (.int .i64 (f.n : Nat)) ∧ w'.cell? ⟨g, k * 4 + 1, none⟩ = some (.int .i64 (f.d : Nat))) (w5.alloc (.cells #[.int .i64 (f.n : Nat), .int .i64 (f.d : Nat), .int .u64 0, .int .i64 0] 62)) :=
          ⟨(hst.cell (p := ⟨q, 0, none⟩) (show q < _ by omega)).trans hS.1, (hst.cell (p := ⟨q, 1, none⟩) (show q < _ by omega)).trans hS.2.1, (hst.cell (p := ⟨g, k * 4, none⟩) (show g < _ by omega)).trans hS.2.2.1, (hst.cell (p := ⟨g, k * 4 + 1, none⟩) (show g < _ by omega)).trans hS.2.2.2⟩
        refine hK.out _ _ (fun _ => hS4) ?_
        clear hK K
        refine until_one 15 rfl (by kernel_rfl) rfl (fun K hK => ?_)
        simp only [Go.wp_at_zero, Go.wp_at_succ]
        refine wp_append_lies _ _ _ 41 rfl (q + 1) 62 j0 _ 4 32 Try.underlying41 hi hz0 hz1 hz2 rfl (by omega) (.slice A1 k cpa) k ((PM.zero (L.take k)).flatMap frC) rfl (hown4.alloc _) ⟨w5.heap.size, 0, none⟩ 1 1 [.int .i64 (f.n : Nat), .int .i64 (f.d : Nat), .int .u64 0, .int .i64 0] rfl rfl (World.news_of_block (cs := #[.int .i64 (f.n : Nat), .int .i64 (f.d : Nat), .int .u64 0, .int .i64 0]) (t := 62) (fr := (0, 0)) (heap_alloc_new w5 _)) (by simp [Value.oneCell']) (by omega) (by unfold maxLen; omega) (by omega) (by simp; omega) (w5.heap.size + 1) (by simp) ?_
        intro gg cap' v3 hown3 hgrow hat hlt5
        have hS3 : (fun w' : World => w'.cell? ⟨q, 0, none⟩ = some (.slice (some ⟨g, 0, none⟩) N cp) ∧ w'.cell? ⟨q, 1, none⟩ = some (.slice A1 k cpa) ∧ w'.cell? ⟨g, k * 4, none⟩ = some (.int .i64 (f.n : Nat)) ∧ w'.cell? ⟨g, k * 4 + 1, none⟩ = some (.int .i64 (f.d : Nat))) v3 :=
          ⟨(hgrow.cell_far _ (by simp; omega) (Ne.symm hon)).trans hS4.1, (hgrow.cell_far _ (by simp; omega) (Ne.symm hon)).trans hS4.2.1, (hgrow.cell_far _ (by simp; omega) (Ne.symm hog)).trans hS4.2.2.1, (hgrow.cell_far _ (by simp; omega) (Ne.symm hog)).trans hS4.2.2.2⟩
        have g4 := hS3.2.1
        have g5 : v3.frozen? ⟨q, 1, none⟩ = false := (hgrow.frozen_far ⟨q, 1, none⟩ (by simp; omega) (Ne.symm hon)).trans ((hst.frozen (p := ⟨q, 1, none⟩) (show q < _ by omega)).trans fz4)
        refine hK.out _ _ (fun _ => hS3) ?_
        clear hK K
        simp only [Act.put, List.setIfInBounds_toArray, List.set_cons_zero, List.set_cons_succ]
        refine until_one 16 rfl (by kernel_rfl) rfl (fun K hK => ?_)
        go_simp
        refine hK.out _ _ (fun _ => hS3) ?_
        clear hK K
        refine until_one 17 rfl (by kernel_rfl) rfl (fun K hK => ?_)
        go_simp
        refine hK.out _ _ (fun _ => hS3) ?_
        clear hK K
        refine until_one 18 rfl (by kernel_rfl) rfl (fun K hK => ?_)
        go_simp
        refine hK.out _ _ (fun h => absurd h (by decide)) ?_
        clear hK K
        refine until_done (by kernel_rfl) ?_
        obtain ⟨hnx, hBl, hqb⟩ := HN.out
        obtain ⟨e1, e2, e3, e4⟩ := HW5.out
        have hgb : v3.heap[q]? = wr.heap[q]? := by
          rw [← e1]
          exact (hgrow.block q (by simp; omega) (Ne.symm hon)).trans (Below.heap_alloc w5 _ q (by omega))
        have hbq : (v3.setCell ⟨q, 1, none⟩ (.slice (some ⟨gg, 0, none⟩) (k + 1) cap')).heap[q]? = some (.cells #[.slice (some ⟨g, 0, none⟩) N cp, .slice (some ⟨gg, 0, none⟩) (k + 1) cap', .slice (some ⟨db, 0, none⟩) n n] 49 (0, 0)) := blk_put _ (hgb.trans hqb)
        have hB5 : Below q w4 w5 := ⟨e2.trans hBl.os, e3.trans hBl.tape, e4.trans hBl.output, by rw [e1]; exact hBl.size, fun j hj => by rw [e1]; exact hBl.block j hj⟩
        have hB7 : Below q w4 (v3.setCell ⟨q, 1, none⟩ (.slice (some ⟨gg, 0, none⟩) (k + 1) cap')) := ((hB5.alloc (by omega) _).grown hgrow (by simp; omega) (fun j e => by have := (hown4.lt j e).1; omega)).setCell (Nat.le_refl _) _
        have hgl := hgrow.size
        simp at hgl
        have hggq : gg ≠ q := by
          rcases hat with hat | hat
          · rintro rfl; exact hon hat
          · omega
        have hown7 : (v3.setCell ⟨q, 1, none⟩ (.slice (some ⟨gg, 0, none⟩) (k + 1) cap')).ownsRow (q + 1) 62 4 (.slice (some ⟨gg, 0, none⟩) (k + 1) cap') (k + 1) ((PM.zero (L.take (k + 1))).flatMap frC) := by
          refine own_same (W := v3) ?_ (fun j e => Below.heap_setCell _ _ _ _ (by rw [← (show gg = j by simpa [Value.ownBlock] using e)]; exact hggq))
          rw [hnx]
          have e3 : (PM.zero (L.take k ++ [f])).flatMap frC = (PM.zero (L.take k)).flatMap frC ++ [.int .i64 (f.n : Nat), .int .i64 (f.d : Nat), .int .u64 0, .int .i64 0] := by simp [PM.zero, frC]
          rw [e3]
          exact hown3
        have hs7 : q + 1 ≤ (v3.setCell ⟨q, 1, none⟩ (.slice (some ⟨gg, 0, none⟩) (k + 1) cap')).heap.size := by simp; omega
        have HE := Lib.hid (And.intro hbq (And.intro hB7 (And.intro hown7 hs7)))
        clear hnx hBl hqb e1 e2 e3 e4 hgb hbq hB5 hB7 hgl hggq hown7 hs7 hS3 hS4 hst g4 g5 hS fz4 hown4 hown3 hgrow hat hlt5
        go_wp2
        go_roundw
        case rel => exact ⟨k + 1, some ⟨gg, 0, none⟩, cap', by go_num, by omega, HE.out.2.1, HE.out.2.2.2, HE.out.1, HE.out.2.2.1⟩
        case measure => simp [intOf]; omega
      · obtain rfl : k = N := by omega
        have eL : L.take k = L := by rw [hN]; exact List.take_length
        rw [eL] at hown
        obtain ⟨tk, ct, ev, htB, htl⟩ := hown.form hN1.1
        cases ev
        have hzl : (PM.zero L).length = k := by rw [hN]; simp [PM.zero]
        have hT : TakenAt wr tk (PM.zero L) := by
          have hown9 := hown
          rw [← hzl] at hown9
          exact (TakenAt.of_own hown9).1
        have hBw : Below w.heap.size w wr := hB3.trans ((hb4w.out.mono (by omega)).trans (hBl.mono (by omega)))
        have hR : RefAt wr q g tk db cp cpa n L (PM.zero L) (List.replicate n false) := by
          refine ⟨?_, PM.zero_inv L, ?_, ?_, hT, ?_, by omega⟩
          · rw [List.length_replicate, hL, ← hn]; exact hfo3
          · rw [List.length_replicate, ← hN]; exact hqb
          · exact fun i f hf => ((hfr3 i f hf).keep hg3 hb4w.out).keep hfin.2.1 hBl
          · exact ((hBl.block db hfin.2.2.2.1).trans (hb4w.out.block db (by omega))).trans hD
        have HE := Lib.hid (And.intro hR (And.intro hBw hL))
        clear hfr3 hfo3 hD hB3 hq hqb hBl hown hL hN eL hT hR hBw hzl
        go_wp2
        go_ret
        rw [← HE.out.2.2]
        exact ⟨q, g, tk, db, cp, cpa, n, rfl, by omega, by omega, by omega, by omega, HE.out.1, HE.out.2.1⟩
end Go.Proofs.Ytgdbjepddcmfoaa
