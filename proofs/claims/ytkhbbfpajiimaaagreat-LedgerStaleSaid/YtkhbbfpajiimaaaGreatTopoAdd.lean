/- How a topology grows: add puts a spot behind all others. -/
import Derived.Deep.QuietTactic
import Derived.BigQuiet
import Derived.StillTactics
import Derived.StillTailTactics
import Derived.Deep.DrawnRows
import Derived.Deep.AppendLies
import Derived.Laws.OwnMore
import Derived.Test.YtkhbbfpajiimaaaGreatTopoList
import Derived.Test.YtkhbbfpajiimaaaGreatTopoMap
import Derived.Test.YtkhbbfpajiimaaaGreatHeldTo
namespace Go.Proofs.YtkhbbfpajiimaaaGreat
open Go.RowKit
attribute [local go_sem ↓] Go.wp_at_zero Go.wp_at_succ

def frC (f : Fr) : List Value := [.int .i64 (f.n : Nat), .int .i64 (f.d : Nat), .int .u64 (f.m : Nat), .int .i64 (f.c : Nat)]
theorem info_free : (Tryz.prog.info? 130).map (fun i => (i.zero, i.size, i.bytes)) = some (some (.agg #[.int .i64 0, .int .i64 0, .int .u64 0, .int .i64 0]), 4, 32) := by kernel_rfl
theorem frC_len (l : List Fr) : (l.flatMap frC).length = l.length * 4 := by
  induction l with
  | nil => rfl
  | cons x l ih => rw [List.flatMap_cons, List.length_append, ih]; simp [frC]; omega

/-- A topology while it is made: block a is it, block m its map, v its slice's value; all of them made since block B. -/
structure Half (w : World) (B a m k : Nat) (v : Value) (l : List Fr) : Prop where
  ha : B ≤ a
  hm : B ≤ m
  blk : w.heap[a]? = some (.cells #[.int .i64 (k : Nat), v, .map (some m)] 181 (0, 0))
  own : w.ownsRow B 130 4 v l.length (l.flatMap frC)
  map : MapAt w m (l.map spOf)

theorem Half.ne {w : World} {B a m k : Nat} {v : Value} {l : List Fr} (h : Half w B a m k v l) : a ≠ m := by
  intro e; subst e
  obtain ⟨es, clock, hb, _⟩ := h.map
  rw [h.blk] at hb; cases hb
theorem Half.own_ne {w : World} {B a m k : Nat} {v : Value} {l : List Fr} (h : Half w B a m k v l) : v.ownBlock ≠ some a ∧ v.ownBlock ≠ some m := by
  rcases h.own.2 with ⟨rfl, _⟩ | ⟨g, cap, cur, rfl, _, hg, _⟩
  · simp [Value.ownBlock]
  · constructor
    · intro e
      have : g = a := by simpa [Value.ownBlock] using e
      subst this
      rw [h.blk] at hg
      injection hg with hg
      injection hg with _ ht
      exact absurd ht (by decide)
    · intro e
      have : g = m := by simpa [Value.ownBlock] using e
      subst this
      obtain ⟨es, clock, hb, _⟩ := h.map
      rw [hb] at hg; cases hg
theorem Half.form {w : World} {B a m k : Nat} {v : Value} {l : List Fr} (h : Half w B a m k v l) : ∃ A c, v = .slice A l.length c := by
  rcases h.own.2 with ⟨rfl, h0⟩ | ⟨g, cap, cur, rfl, _, hg, _⟩
  · exact ⟨none, 0, by rw [h0]⟩
  · exact ⟨_, _, rfl⟩
set_option maxRecDepth 100000 in
set_option maxHeartbeats 2000000 in
theorem add_any (B a m k : Nat) (v : Value) (l : List Fr) (f : Fr) (g : Nat) (w : World) (h : Half w B a m k v l) (hB : B ≤ w.heap.size) (hl : l.length ≤ 1000) (hg : g ≤ 16) (hf : f.m = 2 ^ g - 1) (hn : f.n ≤ 1000) (hd : f.d ≤ 1000) (hc : f.c ≤ 1024) (hno : spOf f ∉ l.map spOf) :
    Calls Tryz.prog 113 #[.pointer (some ⟨a, 0, none⟩), .agg #[.int .i64 (f.n : Nat), .int .i64 (f.d : Nat)], .agg #[.int .i64 (g : Nat), .int .i64 (f.c : Nat)]] w fun e w' =>
      e = .returned (.tuple #[]) ∧ ∃ v', Half w' B a m k v' (l ++ [f]) ∧ Below B w w' := by
  obtain ⟨n, d, mm, c⟩ := f
  obtain ⟨A, cap, rfl⟩ := h.form
  simp only at hn hd hc hf
  obtain ⟨W, hW⟩ : ∃ W, W = ((w.alloc (.cells #[.int .i64 (n : Nat), .int .i64 (d : Nat)] 38)).alloc (.cells #[.int .i64 (g : Nat), .int .i64 (c : Nat)] 73)) := ⟨_, rfl⟩
  have hA : ∀ j, j < w.heap.size → W.heap[j]? = w.heap[j]? := fun j hj => by
    rw [hW]; exact (Below.heap_alloc _ _ j (by simp; omega)).trans (Below.heap_alloc _ _ j hj)
  have ham := blk_lt h.blk
  have hmm := h.map.lt
  have hmap := h.map.of_block (w' := W.drew) (hA m hmm)
  obtain ⟨w2, hput, hmap2, hgr⟩ := hmap.put (s := (n, d)) (by simp; omega) (by simp; omega) hno
  have hgr : W.grownBy w2 (some m) := ⟨hgr.os, hgr.tape, hgr.output, hgr.size, hgr.block⟩
  have hsz : W.heap.size = w.heap.size + 2 := by rw [hW]; simp
  have hS : W.heap[w.heap.size]? = some (.cells #[.int .i64 (n : Nat), .int .i64 (d : Nat)] 38 (0, 0)) := by
    rw [hW]; exact (Below.heap_alloc _ _ _ (by simp)).trans (heap_alloc_new w _)
  have hD : W.heap[w.heap.size + 1]? = some (.cells #[.int .i64 (g : Nat), .int .i64 (c : Nat)] 73 (0, 0)) := by
    rw [hW]; exact (congrArg _ (by simp)).trans (heap_alloc_new (w.alloc (.cells #[.int .i64 (n : Nat), .int .i64 (d : Nat)] 38)) _)
  have hne := h.ne
  have hon := h.own_ne
  have b1 := (hgr.block a (by omega) (by simpa using hne)).trans ((hA a ham).trans h.blk)
  have b2 := (hgr.block w.heap.size (by omega) (by simp; omega)).trans hS
  have b3 := (hgr.block (w.heap.size + 1) (by omega) (by simp; omega)).trans hD
  have sS0 : W.cell? ⟨w.heap.size, 0, none⟩ = some (.int .i64 (n : Nat)) := cell_blk (i := 0) hS rfl
  have sS1 : W.cell? ⟨w.heap.size, 1, none⟩ = some (.int .i64 (d : Nat)) := cell_blk (i := 1) hS rfl
  have c1 : W.cell? ⟨a, 1, none⟩ = some (.slice A l.length cap) := cell_blk (i := 1) ((hA a ham).trans h.blk) rfl
  have c2 : W.cell? ⟨a, 2, none⟩ = some (.map (some m)) := cell_blk (i := 2) ((hA a ham).trans h.blk) rfl
  have d1 : w2.cell? ⟨a, 1, none⟩ = some (.slice A l.length cap) := cell_blk (i := 1) b1 rfl
  have s0 : w2.cell? ⟨w.heap.size, 0, none⟩ = some (.int .i64 (n : Nat)) := cell_blk (i := 0) b2 rfl
  have s1 : w2.cell? ⟨w.heap.size, 1, none⟩ = some (.int .i64 (d : Nat)) := cell_blk (i := 1) b2 rfl
  have e0 : w2.cell? ⟨w.heap.size + 1, 0, none⟩ = some (.int .i64 (g : Nat)) := cell_blk (i := 0) b3 rfl
  have e1 : w2.cell? ⟨w.heap.size + 1, 1, none⟩ = some (.int .i64 (c : Nat)) := cell_blk (i := 1) b3 rfl
  rw [List.length_map] at hput
  simp only at hput
  have fz1 := frozen_blk (i := 1) b1
  have hown2 : w2.ownsRow B 130 4 (.slice A l.length cap) l.length (l.flatMap frC) := by
    have h0 : W.ownsRow B 130 4 (.slice A l.length cap) l.length (l.flatMap frC) := by rw [hW]; exact (h.own.alloc _).alloc _
    exact h0.kept hgr (.inr hon.2)
  have hs2 : w.heap.size + 2 ≤ w2.heap.size := by rw [← hsz]; exact hgr.size
  have hlr : w.heap.size ≠ a ∧ w.heap.size + 1 ≠ a := by omega
  have own_s : (Value.slice A l.length cap).ownBlock ≠ some w.heap.size := fun e => by have := (h.own.lt _ e).2; omega
  have own_d : (Value.slice A l.length cap).ownBlock ≠ some (w.heap.size + 1) := fun e => by have := (h.own.lt _ e).2; omega
  have hfst := first_any (g : Int)
  have hcl : clamp (g : Int) = g := by unfold clamp; rw [if_neg (by omega), if_neg (by omega)]; rfl
  rw [hcl, ← hf] at hfst
  have HF := Lib.hid hfst
  obtain ⟨i0, hi, hz0, hz1, hz2⟩ := info_parts info_free
  have HH := Lib.hid (And.intro b1 (And.intro hA (And.intro hsz (And.intro hW (And.intro hmap2 (And.intro hgr (And.intro hf hno)))))))
  clear b1 b2 b3 hsz hS hD hfst hcl hmap2 hgr hA hf hno
  go_enter Tryz.func113, Tryz.ntmps113
  go_wp2_with fail
  rw [← hW]
  clear hW
  go_still_tail 10, (by kernel_rfl)
  change wpList _ _ _ _ _ W.drew
  go_wp2
  clear hput c1 c2 sS0 sS1
  refine wp_until (fun w' : World => w'.cell? ⟨a, 1, none⟩ = some (.slice A l.length cap) ∧ w'.cell? ⟨w.heap.size, 0, none⟩ = some (.int .i64 (n : Nat)) ∧ w'.cell? ⟨w.heap.size, 1, none⟩ = some (.int .i64 (d : Nat)) ∧ w'.cell? ⟨w.heap.size + 1, 0, none⟩ = some (.int .i64 (g : Nat)) ∧ w'.cell? ⟨w.heap.size + 1, 1, none⟩ = some (.int .i64 (c : Nat))) 16 (by kernel_rfl) ?_
  have hS : (fun w' : World => w'.cell? ⟨a, 1, none⟩ = some (.slice A l.length cap) ∧ w'.cell? ⟨w.heap.size, 0, none⟩ = some (.int .i64 (n : Nat)) ∧ w'.cell? ⟨w.heap.size, 1, none⟩ = some (.int .i64 (d : Nat)) ∧ w'.cell? ⟨w.heap.size + 1, 0, none⟩ = some (.int .i64 (g : Nat)) ∧ w'.cell? ⟨w.heap.size + 1, 1, none⟩ = some (.int .i64 (c : Nat))) w2.drew := ⟨d1, s0, s1, e0, e1⟩
  have fz4 : w2.drew.frozen? ⟨a, 1, none⟩ = false := fz1
  have hown4 := hown2.drew
  have hs4 : w.heap.size + 2 ≤ w2.drew.heap.size := hs2
  have HW : Hid (w2.drew.heap = w2.heap ∧ w2.drew.os = w2.os ∧ w2.drew.tape = w2.tape ∧ w2.drew.output = w2.output) := Lib.hid ⟨rfl, rfl, rfl, rfl⟩
  clear d1 s0 s1 e0 e1 fz1 hown2 hs2
  generalize w2.drew = w4 at hS fz4 hown4 hs4 HW ⊢
  refine until_take (v := ?_) 0 16 rfl rfl (by kernel_rfl) (by kernel_rfl) (by kernel_rfl) (by kernel_rfl) (fun _ _ _ h => h) ⟨by rfl, ?_⟩ hS ?_
  rotate_left
  · intro w' hw'; obtain ⟨x0, x1, x2, x3, x4⟩ := hw'; go_simp; (try with_reducible rfl)
  simp only [Act.put, List.setIfInBounds_toArray, List.set_cons_zero, List.set_cons_succ]
  refine until_take (v := ?_) 1 17 rfl rfl (by kernel_rfl) (by kernel_rfl) (by kernel_rfl) (by kernel_rfl) (fun _ _ _ h => h) ⟨by rfl, ?_⟩ hS ?_
  rotate_left
  · intro w' hw'; obtain ⟨x0, x1, x2, x3, x4⟩ := hw'; go_simp; (try with_reducible rfl)
  simp only [Act.put, List.setIfInBounds_toArray, List.set_cons_zero, List.set_cons_succ]
  refine until_take (v := ?_) 2 18 rfl rfl (by kernel_rfl) (by kernel_rfl) (by kernel_rfl) (by kernel_rfl) (fun _ _ _ h => h) ⟨by rfl, ?_⟩ hS ?_
  rotate_left
  · intro w' hw'; obtain ⟨x0, x1, x2, x3, x4⟩ := hw'; go_simp; (try with_reducible rfl)
  simp only [Act.put, List.setIfInBounds_toArray, List.set_cons_zero, List.set_cons_succ]
  refine until_take (v := ?_) 3 19 rfl rfl (by kernel_rfl) (by kernel_rfl) (by kernel_rfl) (by kernel_rfl) (fun _ _ _ h => h) ⟨by rfl, ?_⟩ hS ?_
  rotate_left
  · intro w' hw'; obtain ⟨x0, x1, x2, x3, x4⟩ := hw'; go_simp; (try with_reducible rfl)
  simp only [Act.put, List.setIfInBounds_toArray, List.set_cons_zero, List.set_cons_succ]
  refine until_take (v := ?_) 4 20 rfl rfl (by kernel_rfl) (by kernel_rfl) (by kernel_rfl) (by kernel_rfl) (fun _ _ _ h => h) ⟨by rfl, ?_⟩ hS ?_
  rotate_left
  · intro w' hw'; obtain ⟨x0, x1, x2, x3, x4⟩ := hw'; go_simp; (try with_reducible rfl)
  simp only [Act.put, List.setIfInBounds_toArray, List.set_cons_zero, List.set_cons_succ]
  refine until_take (v := ?_) 5 21 rfl rfl (by kernel_rfl) (by kernel_rfl) (by kernel_rfl) (by kernel_rfl) (fun _ _ _ h => h) ⟨by rfl, ?_⟩ hS ?_
  rotate_left
  · intro w' hw'; obtain ⟨x0, x1, x2, x3, x4⟩ := hw'; go_simp; (try with_reducible rfl)
  simp only [Act.put, List.setIfInBounds_toArray, List.set_cons_zero, List.set_cons_succ]
  refine until_take (v := ?_) 6 22 rfl rfl (by kernel_rfl) (by kernel_rfl) (by kernel_rfl) (by kernel_rfl) (fun _ _ _ h => h) ⟨by rfl, ?_⟩ hS ?_
  rotate_left
  · intro w' hw'; obtain ⟨x0, x1, x2, x3, x4⟩ := hw'; go_simp; (try with_reducible rfl)
  simp only [Act.put, List.setIfInBounds_toArray, List.set_cons_zero, List.set_cons_succ]
  refine until_take (v := ?_) 7 23 rfl rfl (by kernel_rfl) (by kernel_rfl) (by kernel_rfl) (by kernel_rfl) (fun _ _ _ h => h) ⟨by rfl, ?_⟩ hS ?_
  rotate_left
  · intro w' hw'; obtain ⟨x0, x1, x2, x3, x4⟩ := hw'; go_simp; (try with_reducible rfl)
  simp only [Act.put, List.setIfInBounds_toArray, List.set_cons_zero, List.set_cons_succ]
  refine until_take (v := ?_) 9 25 rfl rfl (by kernel_rfl) (by kernel_rfl) (by kernel_rfl) (by kernel_rfl) (fun _ _ _ h => h) ⟨by rfl, ?_⟩ hS ?_
  rotate_left
  · intro w' hw'; obtain ⟨x0, x1, x2, x3, x4⟩ := hw'; go_simp; (try with_reducible rfl)
  simp only [Act.put, List.setIfInBounds_toArray, List.set_cons_zero, List.set_cons_succ]
  refine until_take (v := ?_) 10 26 rfl rfl (by kernel_rfl) (by kernel_rfl) (by kernel_rfl) (by kernel_rfl) (fun _ _ _ h => h) ⟨by rfl, ?_⟩ hS ?_
  rotate_left
  · intro w' hw'; obtain ⟨x0, x1, x2, x3, x4⟩ := hw'; go_simp; (try with_reducible rfl)
  simp only [Act.put, List.setIfInBounds_toArray, List.set_cons_zero, List.set_cons_succ]
  refine until_one 8 rfl (by kernel_rfl) rfl (fun K hK => ?_)
  go_simp
  go_at_call 145
  refine (HF.out _).mono ?_
  rintro e w' ⟨rfl, rfl⟩
  refine hK.out _ _ (fun _ => hS) ?_
  clear hK K
  refine until_take (v := ?_) 11 27 rfl rfl (by kernel_rfl) (by kernel_rfl) (by kernel_rfl) (by kernel_rfl) (fun _ _ _ h => h) ⟨by rfl, ?_⟩ hS ?_
  rotate_left
  · intro w' hw'; obtain ⟨x0, x1, x2, x3, x4⟩ := hw'; go_simp; (try with_reducible rfl)
  simp only [Act.put, List.setIfInBounds_toArray, List.set_cons_zero, List.set_cons_succ]
  refine until_one 12 rfl (by kernel_rfl) rfl (fun K hK => ?_)
  go_simp
  have hst := (Below.refl w4.heap.size w4).alloc (Nat.le_refl _) (.cells #[.int .i64 (n : Nat), .int .i64 (d : Nat), .int .u64 (mm : Nat), .int .i64 (c : Nat)] 130)
  have hS4 : (fun w' : World => w'.cell? ⟨a, 1, none⟩ = some (.slice A l.length cap) ∧ w'.cell? ⟨w.heap.size, 0, none⟩ = some (.int .i64 (n : Nat)) ∧ w'.cell? ⟨w.heap.size, 1, none⟩ = some (.int .i64 (d : Nat)) ∧ w'.cell? ⟨w.heap.size + 1, 0, none⟩ = some (.int .i64 (g : Nat)) ∧ w'.cell? ⟨w.heap.size + 1, 1, none⟩ = some (.int .i64 (c : Nat))) (w4.alloc (.cells #[.int .i64 (n : Nat), .int .i64 (d : Nat), .int .u64 (mm : Nat), .int .i64 (c : Nat)] 130)) :=
    ⟨(hst.cell (p := ⟨a, 1, none⟩) (show a < _ by omega)).trans hS.1, (hst.cell (p := ⟨w.heap.size, 0, none⟩) (show w.heap.size < _ by omega)).trans hS.2.1, (hst.cell (p := ⟨w.heap.size, 1, none⟩) (show w.heap.size < _ by omega)).trans hS.2.2.1, (hst.cell (p := ⟨w.heap.size + 1, 0, none⟩) (show w.heap.size + 1 < _ by omega)).trans hS.2.2.2.1, (hst.cell (p := ⟨w.heap.size + 1, 1, none⟩) (show w.heap.size + 1 < _ by omega)).trans hS.2.2.2.2⟩
  refine hK.out _ _ (fun _ => hS4) ?_
  clear hK K
  refine until_one 13 rfl (by kernel_rfl) rfl (fun K hK => ?_)
  simp only [Go.wp_at_zero, Go.wp_at_succ]
  refine wp_append_lies _ _ _ 52 rfl B 130 i0 _ 4 32 Tryz.underlying52 hi hz0 hz1 hz2 rfl (by omega) (.slice A l.length cap) l.length (l.flatMap frC) rfl (hown4.alloc _) ⟨w4.heap.size, 0, none⟩ 1 1 [.int .i64 (n : Nat), .int .i64 (d : Nat), .int .u64 (mm : Nat), .int .i64 (c : Nat)] rfl rfl (World.news_of_block (cs := #[.int .i64 (n : Nat), .int .i64 (d : Nat), .int .u64 (mm : Nat), .int .i64 (c : Nat)]) (t := 130) (fr := (0, 0)) (heap_alloc_new w4 _)) (by simp [Value.oneCell']) (by omega) (by unfold maxLen; omega) (by omega) (by simp; omega) (w4.heap.size + 1) (by simp) ?_
  intro gg cap' w3 hown3 hgrow hat hlt
  have hS3 : (fun w' : World => w'.cell? ⟨a, 1, none⟩ = some (.slice A l.length cap) ∧ w'.cell? ⟨w.heap.size, 0, none⟩ = some (.int .i64 (n : Nat)) ∧ w'.cell? ⟨w.heap.size, 1, none⟩ = some (.int .i64 (d : Nat)) ∧ w'.cell? ⟨w.heap.size + 1, 0, none⟩ = some (.int .i64 (g : Nat)) ∧ w'.cell? ⟨w.heap.size + 1, 1, none⟩ = some (.int .i64 (c : Nat))) w3 :=
    ⟨(hgrow.cell_far _ (by simp; omega) (Ne.symm hon.1)).trans hS4.1, (hgrow.cell_far _ (by simp; omega) (Ne.symm own_s)).trans hS4.2.1, (hgrow.cell_far _ (by simp; omega) (Ne.symm own_s)).trans hS4.2.2.1, (hgrow.cell_far _ (by simp; omega) (Ne.symm own_d)).trans hS4.2.2.2.1, (hgrow.cell_far _ (by simp; omega) (Ne.symm own_d)).trans hS4.2.2.2.2⟩
  have g4 := hS3.1
  have g5 : w3.frozen? ⟨a, 1, none⟩ = false := (hgrow.frozen_far ⟨a, 1, none⟩ (by simp; omega) (Ne.symm hon.1)).trans ((hst.frozen (p := ⟨a, 1, none⟩) (show a < _ by omega)).trans fz4)
  refine hK.out _ _ (fun _ => hS3) ?_
  clear hK K
  simp only [Act.put, List.setIfInBounds_toArray, List.set_cons_zero, List.set_cons_succ]
  refine until_one 14 rfl (by kernel_rfl) rfl (fun K hK => ?_)
  go_simp
  refine hK.out _ _ (fun _ => hS3) ?_
  clear hK K
  refine until_one 15 rfl (by kernel_rfl) rfl (fun K hK => ?_)
  go_simp
  refine hK.out _ _ (fun _ => hS3) ?_
  clear hK K
  refine until_one 16 rfl (by kernel_rfl) rfl (fun K hK => ?_)
  go_simp
  refine hK.out _ _ (fun h => absurd h (by decide)) ?_
  clear hK K
  refine until_done (by kernel_rfl) ?_
  go_end0
  obtain ⟨b1, hA, hsz, hW, hmap2, hgr, hf, hno⟩ := HH.out
  obtain ⟨e1, e2, e3, e4⟩ := HW.out
  have hgo : ∀ j, j < w4.heap.size → some j ≠ (Value.slice A l.length cap).ownBlock → w3.heap[j]? = w2.heap[j]? := fun j hj hne => by
    rw [← e1]
    exact (hgrow.block j (by simp; omega) hne).trans (Below.heap_alloc w4 _ j hj)
  have hga : gg ≠ a := by
    rcases hat with hat | hat
    · rintro rfl; exact hon.1 hat
    · omega
  refine ⟨rfl, .slice (some ⟨gg, 0, none⟩) (l.length + 1) cap', ⟨h.ha, h.hm, ?_, ?_, ?_⟩, ?_⟩
  · have hb : w3.heap[a]? = some (.cells #[.int .i64 (k : Nat), .slice A l.length cap, .map (some m)] 181 (0, 0)) := (hgo a (by omega) (Ne.symm hon.1)).trans b1
    simp [World.setCell, Array.getElem?_modify, hb]
  · have hg : w3.grownBy (w3.setCell ⟨a, 1, none⟩ (.slice (some ⟨gg, 0, none⟩) (l.length + 1) cap')) (some a) :=
      ⟨rfl, rfl, rfl, by simp [World.setCell], fun k _ hk => Below.heap_setCell w3 ⟨a, 1, none⟩ _ k (fun e => hk (by rw [e]))⟩
    have := hown3.kept hg (.inr (by simp [Value.ownBlock]; exact hga))
    rw [List.length_append, List.flatMap_append]
    simpa [frC] using this
  · refine MapAt.of_block (w := w2) (by simpa [spOf] using hmap2) ?_
    exact (Below.heap_setCell w3 ⟨a, 1, none⟩ _ m (Ne.symm hne)).trans (hgo m (by omega) (Ne.symm hon.2))
  · have hB1 : Below B w W := by rw [hW]; exact ((Below.refl B w).alloc hB _).alloc (by simp; omega) _
    have hB2 : Below B w w2 := hB1.grown hgr (by omega) (fun k e => by cases e; exact h.hm)
    have hB4 : Below B w w4 := ⟨e2.trans hB2.os, e3.trans hB2.tape, e4.trans hB2.output, by rw [e1]; exact hB2.size, fun k hk => by rw [e1]; exact hB2.block k hk⟩
    exact ((hB4.alloc (by omega) _).grown hgrow (by simp; omega) (fun k e => (hown4.lt k e).1)).setCell h.ha _
end Go.Proofs.YtkhbbfpajiimaaaGreat
