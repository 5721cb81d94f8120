/- The document's example; accounts beside what came in. -/
import Derived.Test.YtfbmjpihdjcedaaQuotaIn
set_option linter.unusedVariables false
namespace Go.Proofs.Ytfbmjpihdjcedaa
open Go.RowKit

/-- Accounts that were made since a world. -/
structure QIn (w0 w : World) (p g c : Nat) (l : List Qa) : Prop where
  at_ : QAt w p g c l
  hp : w0.heap.size ≤ p
  hg : w0.heap.size ≤ g
  bel : Below w0.heap.size w0 w
theorem QIn.foot {w0 w w' : World} {p g c : Nat} {l l' : List Qa} (h : QIn w0 w p g c l) (h' : QAt w' p g c l') (hf : Foot (· = g) w w') : QIn w0 w' p g c l' :=
  ⟨h', h.hp, h.hg, h.bel.trans (hf.below h.bel.size fun i hi => by rw [hi]; exact h.hg)⟩
theorem QIn.keep {w0 w w' : World} {p g c : Nat} {l : List Qa} (h : QIn w0 w p g c l) (hb : Below w.heap.size w w') : QIn w0 w' p g c l :=
  ⟨h.at_.keep hb, h.hp, h.hg, h.bel.trans (hb.mono h.bel.size)⟩
theorem QIn.made {w0 w w' : World} {p g c : Nat} {l : List Qa} (hb : Below w0.heap.size w0 w) (h : QAt w' p g c l) (hp : w.heap.size ≤ p) (hg : w.heap.size ≤ g) (hb' : Below w.heap.size w w') : QIn w0 w' p g c l :=
  ⟨h, by have := hb.size; omega, by have := hb.size; omega, hb.trans (hb'.mono hb.size)⟩
theorem newL_m (l : List Un) : (newL l).map (·.m) = l := by
  unfold newL; rw [List.map_map]; conv => rhs; rw [← List.map_id l]
  rfl
theorem set_m {L : List Qa} {k : Nat} {x : Qa} (u : Un) (hx : L[k]? = some x) : (L.set k ⟨x.m, u⟩).map (·.m) = L.map (·.m) := by
  rw [List.map_set]
  refine List.ext_getElem? fun i => ?_
  by_cases e : k = i
  · subst e
    have hk := (List.getElem?_eq_some_iff.1 hx).1
    rw [List.getElem?_set_self (by rw [List.length_map]; exact hk), List.getElem?_map, hx]; rfl
  · rw [List.getElem?_set_ne e]
theorem qAdd_m (L : List Qa) (q : Int) (u : Un) : (qAdd L q u).2.map (·.m) = L.map (·.m) := by
  unfold qAdd
  split
  · rfl
  split
  · rfl
  split
  · rfl
  · rename_i x hx
    split
    · rfl
    · exact set_m _ hx
theorem qSub_m (L : List Qa) (q : Int) (u : Un) : (qSub L q u).2.map (·.m) = L.map (·.m) := by
  unfold qSub
  split
  · rfl
  split
  · rfl
  split
  · rfl
  · rename_i x hx
    split
    · rfl
    · exact set_m _ hx
theorem qDo_m (L : List Qa) (x : Qc) : (qDo L x).2.map (·.m) = L.map (·.m) := by
  unfold qDo
  split
  · exact qSub_m _ _ _
  · exact qAdd_m _ _ _
def awL : List Qa := [⟨⟨4, 8⟩, ⟨3, 2⟩⟩]
theorem awNew (A : Option Addr) (cc B : Nat) (w : World) (h : Uns w B A [⟨4, 8⟩]) (hB : B ≤ w.heap.size) :
    Calls Try.prog 9 #[.slice A 1 cc] w fun e w' => ∃ p g c, e = .returned (.tuple #[.pointer (some ⟨p, 0, none⟩), .int .i64 0]) ∧ QAt w' p g c (newL [⟨4, 8⟩]) ∧ w.heap.size ≤ p ∧ w.heap.size ≤ g ∧ Below w.heap.size w w' := by
  refine (new_q A cc B [⟨4, 8⟩] w h hB).mono fun e w' hq => ?_
  rcases hq.2 with ⟨h1, _⟩ | ⟨_, p, g, c, rfl, h2, h3, h4⟩
  · exact absurd h1 (by decide)
  · exact ⟨p, g, c, rfl, h2, h3, h4, hq.1⟩
set_option maxRecDepth 100000 in
set_option maxHeartbeats 1000000 in
theorem awake_q (w : World) : Calls Try.prog 8 #[] w fun e w' => e = .returned (.bool true) ∧ Below w.heap.size w w' := by
  have hB1 := (Below.refl w.heap.size w).alloc (Nat.le_refl _) (.cells #[.int .i64 4, .int .i64 8] 34)
  have hU : Uns (w.alloc (.cells #[.int .i64 4, .int .i64 8] 34)) (w.alloc (.cells #[.int .i64 4, .int .i64 8] 34)).heap.size (some ⟨w.heap.size, 0, none⟩) [⟨4, 8⟩] :=
    els_blk uC_len (heap_alloc_new w _) (fun j v hj => by simpa [uC] using hj)
  have hN := Lib.hid (awNew _ 1 _ _ hU (Nat.le_refl _))
  have hA1 := Lib.hid (fun p g c W (h : QAt W p g c (newL [⟨4, 8⟩])) => show Calls Try.prog 19 #[.pointer (some ⟨p, 0, none⟩), .int .i64 0, .agg #[.int .i64 3, .int .i64 2]] W fun e w' => e = .returned (.int .i64 0) ∧ QAt w' p g c awL ∧ Foot (· = g) W w' from add_q p g c _ 0 ⟨3, 2⟩ W h)
  have hA2 := Lib.hid (fun p g c W (h : QAt W p g c awL) => show Calls Try.prog 19 #[.pointer (some ⟨p, 0, none⟩), .int .i64 0, .agg #[.int .i64 2, .int .i64 1]] W fun e w' => e = .returned (.int .i64 6) ∧ QAt w' p g c awL ∧ Foot (· = g) W w' from add_q p g c _ 0 ⟨2, 1⟩ W h)
  have hL := Lib.hid (fun p g c W (h : QAt W p g c awL) => show Calls Try.prog 16 #[.pointer (some ⟨p, 0, none⟩), .int .i64 0] W fun e w' => e = .returned (.tuple #[.agg #[.int .i64 1, .int .i64 6], .int .i64 0]) ∧ Below W.heap.size W w' from left_q p g c _ 0 W h)
  have HB := Lib.hid hB1
  clear hU hB1
  go_enter Try.func8, Try.ntmps8
  go_wp2_with (first
    | (go_at_call 9; refine hN.out.mono ?_; rintro e w1 ⟨p, g, c, rfl, hq, hp, hg, hb⟩; have HQ1 := Lib.hid (QIn.made HB.out hq hp hg hb); clear hq hp hg hb)
    | (go_at_call 19; (with_reducible refine (hA1.out p g c _ HQ1.out.at_).mono ?_); rintro e w2 ⟨rfl, hq2, hf2⟩; have HQ2 := Lib.hid (HQ1.out.foot hq2 hf2); clear hq2 hf2)
    | (go_at_call 19; (with_reducible refine (hA2.out p g c _ HQ2.out.at_).mono ?_); rintro e w3 ⟨rfl, hq3, hf3⟩; have HQ3 := Lib.hid (HQ2.out.foot hq3 hf3); clear hq3 hf3)
    | (go_at_call 16; refine (hL.out p g c _ HQ3.out.at_).mono ?_; rintro e w4 ⟨rfl, hb4⟩; have HQ4 := Lib.hid (HQ3.out.keep hb4); clear hb4))
  go_ret
  exact ⟨by simp, HQ4.out.bel.alloc HQ4.out.bel.size _⟩
end Go.Proofs.Ytfbmjpihdjcedaa
