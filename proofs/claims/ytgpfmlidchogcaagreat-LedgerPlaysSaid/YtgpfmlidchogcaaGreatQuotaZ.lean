/- Accounts of what queues use: what is meant, in plain words; the small functions. -/
/- Accounts: Add, Sub, Left. -/
/- Accounts: Left, Used, New. -/
/- What comes in to quota's laws; their own do, and the document's example. -/
/- The document's example; accounts beside what came in. -/
import Derived.Deep.QuietTactic
import Derived.BigQuiet
import Derived.Deep.RegionWith
import Derived.Test.YtgpfmlidchogcaaGreatKitZ
import Derived.Test.YtgpfmlidchogcaaGreatProg
import Derived.StillTactics
import Derived.StillTailTactics
import Derived.Deep.DrawnRows
import Derived.Deep.AppendLies
import Derived.Laws.OwnMore
import Derived.RegionTactic
import Derived.BigRegion
import Derived.Test.YtgpfmlidchogcaaGreatReads
namespace Go.Proofs.YtgpfmlidchogcaaGreat
open Go.RowKit

structure Un where
 g : Int
 c : Int
 deriving DecidableEq
def unV (u : Un) : Value := .agg #[.int .i64 u.g, .int .i64 u.c]
structure UnW (u : Un) : Prop where
 g : (Lit.int .i64 u.g).wf = true
 c : (Lit.int .i64 u.c).wf = true
def mayU (u : Un) : Bool := decide (0 ≤ u.g) && decide (u.g ≤ 1048576) && decide (0 ≤ u.c) && decide (u.c ≤ 1048576)
theorem mayU_iff {u : Un} : mayU u = true ↔ 0 ≤ u.g ∧ u.g ≤ 1048576 ∧ 0 ≤ u.c ∧ u.c ≤ 1048576 := by
 unfold mayU
 simp [Bool.and_eq_true, and_assoc]
def leU (u v : Un) : Bool := decide (u.g ≤ v.g) && decide (u.c ≤ v.c)
theorem leU_iff {u v : Un} : leU u v = true ↔ u.g ≤ v.g ∧ u.c ≤ v.c := by
 unfold leU
 simp [Bool.and_eq_true]
def addU (u v : Un) : Un := ⟨u.g + v.g, u.c + v.c⟩
def subU (u v : Un) : Un := ⟨u.g - v.g, u.c - v.c⟩

theorem atmost_any (a b : Int) (w : World) : Calls Tryz.prog 104 #[.int .i64 a, .int .i64 b] w fun e w' => e = .returned (.bool (decide (a ≤ b))) ∧ w = w' := by
 go_enter Tryz.func104, Tryz.ntmps104
 go_wp2
 go_ret
 exact ⟨rfl, rfl⟩
theorem atleast_any (a b : Int) (w : World) : Calls Tryz.prog 103 #[.int .i64 a, .int .i64 b] w fun e w' => e = .returned (.bool (decide (b ≤ a))) ∧ w = w' := by
 go_enter Tryz.func103, Tryz.ntmps103
 go_wp2
 go_ret
 exact ⟨rfl, rfl⟩
set_option maxHeartbeats 1000000 in
theorem most_any (u v : Un) (w : World) : Calls Tryz.prog 102 #[unV u, .func (.func 104) #[] #[], unV v] w fun e w' => e = .returned (.bool (leU u v)) ∧ Below w.heap.size w w' := by
 obtain ⟨a, b⟩ := u
 obtain ⟨c, d⟩ := v
 simp only [unV, leU]
 obtain ⟨x, hx⟩ : ∃ x, x = decide (a ≤ c) := ⟨_, rfl⟩
 have h1 := fun W => atmost_any a c W
 have h2 := Lib.hid (fun W => atmost_any b d W)
 rw [← hx] at h1 ⊢
 have h1 := Lib.hid h1
 have hB := ((Below.refl w.heap.size w).alloc (Nat.le_refl _) (.cells #[.int .i64 a, .int .i64 b] 57)).alloc (by simp) (.cells #[.int .i64 c, .int .i64 d] 57)
 cases x
 ·clear hx
  go_enter Tryz.func102, Tryz.ntmps102
  go_wp2_with (go_at_call 104; refine (h1.out _).mono ?_; rintro e w' ⟨rfl, rfl⟩)
  go_ret
  exact ⟨rfl, hB⟩
 ·clear hx
  go_enter Tryz.func102, Tryz.ntmps102
  go_wp2_with (first | (go_at_call 104; (with_reducible refine (h1.out _).mono ?_); rintro e w' ⟨rfl, rfl⟩) | (go_at_call 104; (with_reducible refine (h2.out _).mono ?_); rintro e w' ⟨rfl, rfl⟩))
  go_ret
  exact ⟨by simp, hB⟩
set_option maxHeartbeats 1000000 in
theorem least_any (u v : Un) (w : World) : Calls Tryz.prog 102 #[unV u, .func (.func 103) #[] #[], unV v] w fun e w' => e = .returned (.bool (leU v u)) ∧ Below w.heap.size w w' := by
 obtain ⟨a, b⟩ := u
 obtain ⟨c, d⟩ := v
 simp only [unV, leU]
 obtain ⟨x, hx⟩ : ∃ x, x = decide (c ≤ a) := ⟨_, rfl⟩
 have h1 := fun W => atleast_any a c W
 have h2 := Lib.hid (fun W => atleast_any b d W)
 rw [← hx] at h1 ⊢
 have h1 := Lib.hid h1
 have hB := ((Below.refl w.heap.size w).alloc (Nat.le_refl _) (.cells #[.int .i64 a, .int .i64 b] 57)).alloc (by simp) (.cells #[.int .i64 c, .int .i64 d] 57)
 cases x
 ·clear hx
  go_enter Tryz.func102, Tryz.ntmps102
  go_wp2_with (go_at_call 103; refine (h1.out _).mono ?_; rintro e w' ⟨rfl, rfl⟩)
  go_ret
  exact ⟨rfl, hB⟩
 ·clear hx
  go_enter Tryz.func102, Tryz.ntmps102
  go_wp2_with (first | (go_at_call 103; (with_reducible refine (h1.out _).mono ?_); rintro e w' ⟨rfl, rfl⟩) | (go_at_call 103; (with_reducible refine (h2.out _).mono ?_); rintro e w' ⟨rfl, rfl⟩))
  go_ret
  exact ⟨by simp, hB⟩
theorem maybe_any (u : Un) (w : World) : Calls Tryz.prog 61 #[unV u] w fun e w' => e = .returned (.bool (mayU u)) ∧ Below w.heap.size w w' := by
 have e0 : mayU u = (leU ⟨0, 0⟩ u && leU u ⟨1048576, 1048576⟩) := by
  unfold mayU leU
  cases decide (0 ≤ u.g) <;> cases decide (u.g ≤ 1048576) <;> cases decide (0 ≤ u.c) <;> cases decide (u.c ≤ 1048576) <;> rfl
 rw [e0]
 obtain ⟨x, hx⟩ : ∃ x, x = leU ⟨0, 0⟩ u := ⟨_, rfl⟩
 have h1 := fun W => least_any u ⟨0, 0⟩ W
 have h2 := Lib.hid (fun W => most_any u ⟨1048576, 1048576⟩ W)
 rw [← hx] at h1 ⊢
 have h1 := Lib.hid h1
 obtain ⟨a, b⟩ := u
 simp only [unV] at *
 have hB := Lib.hid ((Below.refl w.heap.size w).alloc (Nat.le_refl _) (.cells #[.int .i64 a, .int .i64 b] 57))
 have bU := heap_alloc_new w (.cells #[.int .i64 a, .int .i64 b] 57)
 have y0 : (w.alloc (.cells #[.int .i64 a, .int .i64 b] 57)).cell? ⟨w.heap.size, 0, none⟩ = some (.int .i64 a) := cell_blk (i := 0) bU rfl
 have y1 : (w.alloc (.cells #[.int .i64 a, .int .i64 b] 57)).cell? ⟨w.heap.size, 1, none⟩ = some (.int .i64 b) := cell_blk (i := 1) bU rfl
 clear e0 bU
 cases x
 ·clear hx
  go_enter Tryz.func61, Tryz.ntmps61
  go_wp2_with (go_at_call 102; refine (h1.out _).mono ?_; rintro e w1 ⟨rfl, hb1⟩)
  go_ret
  exact ⟨rfl, below_step hB.out hb1⟩
 ·clear hx
  go_enter Tryz.func61, Tryz.ntmps61
  go_wp2_with (first
   | (go_at_call 102; (with_reducible refine (h1.out _).mono ?_); rintro e w1 ⟨rfl, hb1⟩; have z0 := (hb1.cell (p := ⟨w.heap.size, 0, none⟩) (by simp)).trans y0; have z1 := (hb1.cell (p := ⟨w.heap.size, 1, none⟩) (by simp)).trans y1)
   | (go_at_call 102; (with_reducible refine (h2.out _).mono ?_); rintro e w2 ⟨rfl, hb2⟩))
  go_ret
  exact ⟨by simp, below_step (below_step hB.out hb1) hb2⟩
theorem less_any (u v : Un) (w : World) (h : 0 ≤ v.g ∧ v.g ≤ u.g ∧ u.g ≤ 1048576 ∧ 0 ≤ v.c ∧ v.c ≤ u.c ∧ u.c ≤ 1048576) : Calls Tryz.prog 138 #[unV u, unV v] w fun e w' => e = .returned (unV (subU u v)) ∧ Below w.heap.size w w' := by
 obtain ⟨a, b⟩ := u
 obtain ⟨c, d⟩ := v
 simp only [unV, subU] at *
 obtain ⟨h1, h2, h3, h4, h5, h6⟩ := h
 have hB := Lib.hid ((((Below.refl w.heap.size w).alloc (Nat.le_refl _) (.cells #[.int .i64 a, .int .i64 b] 57)).alloc (by simp) (.cells #[.int .i64 c, .int .i64 d] 57)))
 go_enter Tryz.func138, Tryz.ntmps138
 go_wp2
 refine bodyPost_ret (v := .agg #[.int .i64 (a - c), .int .i64 (b - d)]) (by simp [results, Tryz.results138, go_sem]) rfl ?_
 exact ⟨rfl, hB.out.alloc (by simp <;> omega) _⟩
structure Qa where
 m : Un
 u : Un
def qaC (x : Qa) : List Value := [.int .i64 x.m.g, .int .i64 x.m.c, .int .i64 x.u.g, .int .i64 x.u.c]
def qaV (x : Qa) : Value := .agg #[.int .i64 x.m.g, .int .i64 x.m.c, .int .i64 x.u.g, .int .i64 x.u.c]
structure QaOk (x : Qa) : Prop where
 m : mayU x.m = true
 g : 0 ≤ x.u.g ∧ x.u.g ≤ x.m.g
 c : 0 ≤ x.u.c ∧ x.u.c ≤ x.m.c
theorem pair_at {w : World} {G : Nat} {v0 v1 : Value} {t : TypeId} (h : w.heap[G]? = some (.cells #[v0, v1] t (0, 0))) :
  w.cell? ⟨G, 0, none⟩ = some v0 ∧ w.cell? ⟨G, 1, none⟩ = some v1 ∧ w.frozen? ⟨G, 0, none⟩ = false ∧ w.frozen? ⟨G, 1, none⟩ = false ∧ G < w.heap.size :=
 ⟨cell_blk (i := 0) h rfl, cell_blk (i := 1) h rfl, frozen_blk h, frozen_blk h, blk_lt h⟩
theorem pair_put {w W w1 : World} {G : Nat} {v0 v1 : Value} (hB : Below w.heap.size w W) (h1 : Below W.heap.size W w1) (hG : w.heap.size ≤ G) :
  Below w.heap.size w ((w1.setCell ⟨G, 0, none⟩ v0).setCell ⟨G, 1, none⟩ v1) := ((below_step hB h1).setCell (p := ⟨G, 0, none⟩) hG _).setCell (p := ⟨G, 1, none⟩) hG _
theorem without_any (x : Qa) (w : World) (h : QaOk x) : Calls Tryz.prog 124 #[unV x.m, unV x.u] w fun e w' => e = .returned (unV (subU x.m x.u)) ∧ Below w.heap.size w w' := by
 have hm := mayU_iff.1 h.m
 have hL := Lib.hid (fun W => less_any x.m x.u W ⟨h.g.1, h.g.2, hm.2.1, h.c.1, h.c.2, hm.2.2.2⟩)
 obtain ⟨⟨a, b⟩, ⟨c, d⟩⟩ := x
 simp only [unV, subU] at *
 obtain ⟨X, hX⟩ : ∃ X, X = a - c := ⟨_, rfl⟩
 obtain ⟨Y, hY⟩ : ∃ Y, Y = b - d := ⟨_, rfl⟩
 rw [← hX, ← hY] at hL ⊢
 have hB := Lib.hid ((((Below.refl w.heap.size w).alloc (Nat.le_refl _) (.cells #[.int .i64 a, .int .i64 b] 140)).alloc (by simp) (.cells #[.int .i64 c, .int .i64 d] 57)).alloc (by simp <;> omega) (.cells #[.int .i64 0, .int .i64 0] 57))
 have hG : (((w.alloc (.cells #[.int .i64 a, .int .i64 b] 140)).alloc (.cells #[.int .i64 c, .int .i64 d] 57)).alloc (.cells #[.int .i64 0, .int .i64 0] 57)).heap[w.heap.size + 1 + 1]? = some (.cells #[.int .i64 0, .int .i64 0] 57 (0, 0)) := by
  have := heap_alloc_new ((w.alloc (.cells #[.int .i64 a, .int .i64 b] 140)).alloc (.cells #[.int .i64 c, .int .i64 d] 57)) (.cells #[.int .i64 0, .int .i64 0] 57)
  simpa using this
 have HG := Lib.hid hG
 clear h hm hX hY hG
 go_enter Tryz.func124, Tryz.ntmps124
 go_wp2_with (go_at_call 138; refine (hL.out _).mono ?_; rintro e w1 ⟨rfl, hb1⟩; obtain ⟨y0, y1, y2, y3, y4⟩ := pair_at ((hb1.block (w.heap.size + 1 + 1) (by simp)).trans HG.out))
 refine bodyPost_ret (v := .agg #[.int .i64 X, .int .i64 Y]) (by simp [results, Tryz.results124, go_sem, y0, y1]) rfl ?_
 exact ⟨rfl, pair_put hB.out hb1 (by omega)⟩
theorem left_any (x : Qa) (w : World) (h : QaOk x) : Calls Tryz.prog 92 #[qaV x] w fun e w' => e = .returned (unV (subU x.m x.u)) ∧ Below w.heap.size w w' := by
 have hL := Lib.hid (fun W => without_any x W h)
 obtain ⟨⟨a, b⟩, ⟨c, d⟩⟩ := x
 simp only [unV, subU, qaV] at *
 obtain ⟨X, hX⟩ : ∃ X, X = a - c := ⟨_, rfl⟩
 obtain ⟨Y, hY⟩ : ∃ Y, Y = b - d := ⟨_, rfl⟩
 rw [← hX, ← hY] at hL ⊢
 have hB := Lib.hid (((Below.refl w.heap.size w).alloc (Nat.le_refl _) (.cells #[.int .i64 a, .int .i64 b, .int .i64 c, .int .i64 d] 142)).alloc (by simp <;> omega) (.cells #[.int .i64 0, .int .i64 0] 57))
 have hG : ((w.alloc (.cells #[.int .i64 a, .int .i64 b, .int .i64 c, .int .i64 d] 142)).alloc (.cells #[.int .i64 0, .int .i64 0] 57)).heap[w.heap.size + 1]? = some (.cells #[.int .i64 0, .int .i64 0] 57 (0, 0)) := by
  have := heap_alloc_new (w.alloc (.cells #[.int .i64 a, .int .i64 b, .int .i64 c, .int .i64 d] 142)) (.cells #[.int .i64 0, .int .i64 0] 57)
  simpa using this
 have HG := Lib.hid hG
 clear h hX hY hG
 go_enter Tryz.func92, Tryz.ntmps92
 go_wp2_with (go_at_call 124; refine (hL.out _).mono ?_; rintro e w1 ⟨rfl, hb1⟩; obtain ⟨y0, y1, y2, y3, y4⟩ := pair_at ((hb1.block (w.heap.size + 1) (by simp)).trans HG.out))
 refine bodyPost_ret (v := .agg #[.int .i64 X, .int .i64 Y]) (by simp [results, Tryz.results92, go_sem, y0, y1]) rfl ?_
 exact ⟨rfl, pair_put hB.out hb1 (by omega)⟩
structure QAt (w : World) (p g c : Nat) (l : List Qa) : Prop where
 few : l.length ≤ 8
 ok : ∀ x ∈ l, QaOk x
 obj : w.heap[p]? = some (.cells #[.slice (some ⟨g, 0, none⟩) l.length c] 138 (0, 0))
 row : ∃ cur, w.heap[g]? = some (.cells cur 142 (0, 0)) ∧ ∀ (j : Nat) v, (l.flatMap qaC)[j]? = some v → cur[j]? = some v
theorem qaC_len (l : List Qa) : (l.flatMap qaC).length = l.length * 4 := by
 induction l with
 | nil => rfl
 | cons x l ih => rw [List.flatMap_cons, List.length_append, ih]; simp [qaC]; omega
theorem qa_flat : ∀ {l : List Qa} {i r : Nat} {x : Qa}, l[i]? = some x → r < 4 → (l.flatMap qaC)[i * 4 + r]? = (qaC x)[r]?
 | [], _, _, _, h, _ => by simp at h
 | y :: l, 0, r, x, h, hr => by
  simp at h; subst h
  rw [List.flatMap_cons, Nat.zero_mul, Nat.zero_add, List.getElem?_append_left (by simp [qaC]; omega)]
 | y :: l, i + 1, r, x, h, hr => by
  have ih := qa_flat (l := l) (i := i) (r := r) (x := x) (by simpa using h) hr
  rw [List.flatMap_cons, show (i + 1) * 4 + r = (qaC y).length + (i * 4 + r) by simp [qaC]; omega, List.getElem?_append_right (by omega), Nat.add_sub_cancel_left, ih]
section
variable {w w' : World} {p g c : Nat} {l : List Qa}
theorem QAt.lt (h : QAt w p g c l) : p < w.heap.size ∧ g < w.heap.size := by
 obtain ⟨cur, h1, _⟩ := h.row
 exact ⟨blk_lt h.obj, blk_lt h1⟩
theorem QAt.ne (h : QAt w p g c l) : p ≠ g := fun e => by
 obtain ⟨cur, h1, _⟩ := h.row
 have h2 := h.obj
 subst e; rw [h1] at h2; injection h2 with h2; injection h2 with _ ht; exact absurd ht (by decide)
theorem QAt.off (h : QAt w p g c l) (hk : ∀ i, i < w.heap.size → (i = p ∨ i = g) → w'.heap[i]? = w.heap[i]?) : QAt w' p g c l := by
 obtain ⟨l1, l2⟩ := h.lt
 obtain ⟨cur, h1, h2⟩ := h.row
 exact ⟨h.few, h.ok, (hk p l1 (.inl rfl)).trans h.obj, cur, (hk g l2 (.inr rfl)).trans h1, h2⟩
theorem QAt.keep (h : QAt w p g c l) (hk : Below w.heap.size w w') : QAt w' p g c l := h.off fun i hi _ => hk.block i hi
theorem QAt.foot {F : Nat → Prop} (h : QAt w p g c l) (hk : Foot F w w') (hF : ∀ i, F i → i ≠ p ∧ i ≠ g) : QAt w' p g c l := h.off fun i hi ht => hk.block i hi fun hf => by
 obtain ⟨a, b⟩ := hF i hf
 rcases ht with e | e
 ·exact a e
 ·exact b e
theorem QAt.head (h : QAt w p g c l) : w.cell? ⟨p, 0, none⟩ = some (.slice (some ⟨g, 0, none⟩) l.length c) := cell_blk (i := 0) h.obj rfl
theorem QAt.cells (h : QAt w p g c l) {i : Nat} {x : Qa} (hx : l[i]? = some x) :
  w.cell? ⟨g, i * 4, none⟩ = some (.int .i64 x.m.g) ∧ w.cell? ⟨g, i * 4 + 1, none⟩ = some (.int .i64 x.m.c) ∧ w.cell? ⟨g, i * 4 + 2, none⟩ = some (.int .i64 x.u.g) ∧ w.cell? ⟨g, i * 4 + 3, none⟩ = some (.int .i64 x.u.c) ∧ w.frozen? ⟨g, i * 4 + 2, none⟩ = false ∧ w.frozen? ⟨g, i * 4 + 3, none⟩ = false := by
 obtain ⟨cur, h1, h2⟩ := h.row
 have hc : ∀ r u, r < 4 → (qaC x)[r]? = some u → w.cell? ⟨g, i * 4 + r, none⟩ = some u := fun r u hr hu => cell_blk h1 (h2 _ _ (by rw [qa_flat hx hr, hu]))
 exact ⟨hc 0 _ (by omega) rfl, hc 1 _ (by omega) rfl, hc 2 _ (by omega) rfl, hc 3 _ (by omega) rfl, frozen_blk h1, frozen_blk h1⟩
end
def hasQ (l : List Qa) (q : Int) : Bool := decide (0 ≤ q) && decide (q < (l.length : Int))
def qAdd (l : List Qa) (q : Int) (u : Un) : Int × List Qa :=
 if hasQ l q = false then (3, l) else if mayU u = false then (1, l) else match l[q.toNat]? with
 | none => (3, l)
 | some x => if leU u (subU x.m x.u) = false then (6, l) else (0, l.set q.toNat ⟨x.m, addU x.u u⟩)
def qSub (l : List Qa) (q : Int) (u : Un) : Int × List Qa :=
 if hasQ l q = false then (3, l) else if mayU u = false then (1, l) else match l[q.toNat]? with
 | none => (3, l)
 | some x => if leU u x.u = false then (13, l) else (0, l.set q.toNat ⟨x.m, subU x.u u⟩)
theorem hasq_any (p g c : Nat) (l : List Qa) (q : Int) (w : World) (h : QAt w p g c l) :
  Calls Tryz.prog 91 #[.pointer (some ⟨p, 0, none⟩), .int .i64 q] w fun e w' => e = .returned (.bool (hasQ l q)) ∧ w = w' := by
 have c0 := h.head
 unfold hasQ
 obtain ⟨n, hn⟩ : ∃ n, n = l.length := ⟨_, rfl⟩
 rw [← hn] at c0 ⊢
 clear h hn
 by_cases h0 : 0 ≤ q
 ·have t0 : decide (0 ≤ q) = true := decide_eq_true h0
  rw [t0, Bool.true_and]
  go_enter Tryz.func91, Tryz.ntmps91
  go_wp2
  go_ret
  exact ⟨rfl, rfl⟩
 ·have t0 : decide (0 ≤ q) = false := decide_eq_false h0
  rw [t0, Bool.false_and]
  go_enter Tryz.func91, Tryz.ntmps91
  go_wp2
  go_ret
  exact ⟨rfl, rfl⟩
def checkQ (l : List Qa) (q : Int) (u : Un) : Int := if hasQ l q = false then 3 else if mayU u = false then 1 else 0
theorem check_any (p g c : Nat) (l : List Qa) (q : Int) (u : Un) (w : World) (h : QAt w p g c l) :
  Calls Tryz.prog 127 #[.pointer (some ⟨p, 0, none⟩), .int .i64 q, unV u] w fun e w' => e = .returned (.int .i64 (checkQ l q u)) ∧ Below w.heap.size w w' := by
 have hB := (Below.refl w.heap.size w).alloc (Nat.le_refl _) (.cells #[.int .i64 u.g, .int .i64 u.c] 57)
 have hH := Lib.hid (hasq_any p g c l q _ (h.keep hB))
 have hM := Lib.hid (fun W => maybe_any u W)
 unfold checkQ
 obtain ⟨x, hx⟩ : ∃ x, x = hasQ l q := ⟨_, rfl⟩
 obtain ⟨y, hy⟩ : ∃ y, y = mayU u := ⟨_, rfl⟩
 rw [← hx] at hH ⊢
 rw [← hy] at hM ⊢
 obtain ⟨a, b⟩ := u
 simp only [unV] at *
 clear hx hy h
 cases x
 ·go_enter Tryz.func127, Tryz.ntmps127
  go_wp2_with (go_at_call 91; refine hH.out.mono ?_; rintro e w1 ⟨rfl, rfl⟩)
  go_ret
  exact ⟨rfl, hB⟩
 ·cases y
  all_goals
   go_enter Tryz.func127, Tryz.ntmps127
   go_wp2_with (first | (go_at_call 91; refine hH.out.mono ?_; rintro e w1 ⟨rfl, rfl⟩) | (go_at_call 61; refine (hM.out _).mono ?_; rintro e w2 ⟨rfl, hb2⟩))
   go_ret
   exact ⟨rfl, below_step hB hb2⟩
def qLeft (l : List Qa) (q : Int) : Un × Int := if hasQ l q = false then (⟨0, 0⟩, 3) else match l[q.toNat]? with
 | none => (⟨0, 0⟩, 3)
 | some x => (subU x.m x.u, 0)
end Go.Proofs.YtgpfmlidchogcaaGreat

set_option linter.unusedVariables false
namespace Go.Proofs.YtgpfmlidchogcaaGreat
open Go.RowKit

theorem qa_set : ∀ {l : List Qa} {k : Nat} {x : Qa} (u : Un), l[k]? = some x → (l.set k ⟨x.m, u⟩).flatMap qaC = ((l.flatMap qaC).set (k * 4 + 2) (.int .i64 u.g)).set (k * 4 + 3) (.int .i64 u.c)
 | [], _, _, _, h => by simp at h
 | y :: l, 0, x, u, h => by simp at h; subst h; simp [qaC]
 | y :: l, k + 1, x, u, h => by
  have ih := qa_set u (l := l) (k := k) (x := x) (by simpa using h)
  rw [List.set_cons_succ, List.flatMap_cons, ih, List.flatMap_cons, show (k + 1) * 4 + 2 = k * 4 + 2 + 4 by omega, show (k + 1) * 4 + 3 = k * 4 + 3 + 4 by omega]
  simp [qaC]
theorem QAt.wrote {w w1 w' : World} {p g c k : Nat} {l : List Qa} {x : Qa} (u : Un) (h : QAt w p g c l) (hx : l[k]? = some x) (hw : Below w.heap.size w w1) (hu : QaOk ⟨x.m, u⟩)
  (hft : Foot (· = g) w w') (e : w'.heap = ((w1.setCell ⟨g, k * 4 + 2, none⟩ (.int .i64 u.g)).setCell ⟨g, k * 4 + 3, none⟩ (.int .i64 u.c)).heap) : QAt w' p g c (l.set k ⟨x.m, u⟩) := by
 obtain ⟨l1, l2⟩ := h.lt
 have hn := h.ne
 obtain ⟨cur, h1, h2⟩ := h.row
 have hkl := (List.getElem?_eq_some_iff.1 hx).1
 refine ⟨by rw [List.length_set]; exact h.few, fun y hy => ?_, by rw [List.length_set]; exact (hft.block p l1 hn).trans h.obj, _, by rw [e]; exact blk_put _ (blk_put _ ((hw.block g l2).trans h1)), fun j v hj => ?_⟩
 ·rcases List.mem_or_eq_of_mem_set hy with h3 | h3
  ·exact h.ok y h3
  ·rw [h3]; exact hu
 ·have hset : (l.set k ⟨x.m, u⟩).flatMap qaC = ((l.flatMap qaC).set (k * 4 + 2) (.int .i64 u.g)).set (k * 4 + 3) (.int .i64 u.c) := qa_set u hx
  rw [hset] at hj
  have hlen := qaC_len l
  have hsz : k * 4 + 3 < cur.size := by
   have e3 := qa_flat hx (show 3 < 4 by omega)
   exact (Array.getElem?_eq_some_iff.1 (h2 _ _ (e3.trans rfl))).1
  by_cases e3 : k * 4 + 3 = j
  ·subst e3
   rw [List.getElem?_set_self (by rw [List.length_set]; omega)] at hj
   rw [Array.getElem?_setIfInBounds_self_of_lt (by simp; omega)]
   exact hj
  ·rw [List.getElem?_set_ne e3] at hj
   rw [Array.getElem?_setIfInBounds_ne e3]
   by_cases e2 : k * 4 + 2 = j
   ·subst e2
    rw [List.getElem?_set_self (by omega)] at hj
    rw [Array.getElem?_setIfInBounds_self_of_lt (by omega)]
    exact hj
   ·rw [List.getElem?_set_ne e2] at hj
    rw [Array.getElem?_setIfInBounds_ne e2]
    exact h2 j v hj
theorem hasQ_iff {l : List Qa} {q : Int} : hasQ l q = true ↔ 0 ≤ q ∧ q < (l.length : Int) := by
 unfold hasQ; simp [Bool.and_eq_true]
theorem hasQ_at {l : List Qa} {q : Int} (h : hasQ l q = true) : ∃ (k : Nat) (x : Qa), q = k ∧ k < l.length ∧ l[k]? = some x := by
 obtain ⟨h0, h1⟩ := hasQ_iff.1 h
 obtain ⟨x, hx⟩ := get_lt (l := l) (k := q.toNat) (by omega)
 exact ⟨q.toNat, x, by omega, by omega, hx⟩
set_option maxRecDepth 100000 in
set_option maxHeartbeats 4000000 in
theorem add_q (p g c : Nat) (l : List Qa) (q : Int) (u : Un) (w : World) (h : QAt w p g c l) :
  Calls Tryz.prog 94 #[.pointer (some ⟨p, 0, none⟩), .int .i64 q, unV u] w fun e w' => e = .returned (.int .i64 (qAdd l q u).1) ∧ QAt w' p g c (qAdd l q u).2 ∧ Foot (· = g) w w' := by
 have hB1 := (Below.refl w.heap.size w).alloc (Nat.le_refl _) (.cells #[.int .i64 u.g, .int .i64 u.c] 57)
 have hC := Lib.hid (check_any p g c l q u _ (h.keep hB1))
 have HP := Lib.hid h
 have HB := Lib.hid hB1
 obtain ⟨R, hR⟩ : ∃ R, R = qAdd l q u := ⟨_, rfl⟩
 rw [← hR]
 unfold checkQ at hC
 unfold qAdd at hR
 cases hq : hasQ l q
 ·rw [hq, if_pos rfl] at hC hR
  subst hR
  obtain ⟨a, b⟩ := u
  simp only [unV] at *
  clear h hB1 hq
  go_enter Tryz.func94, Tryz.ntmps94
  go_wp2_with (go_at_call 127; refine hC.out.mono ?_; rintro e w1 ⟨rfl, hb1⟩)
  go_ret
  have hB := below_step HB.out hb1
  exact ⟨rfl, HP.out.keep hB, Foot.of_below hB⟩
 rw [hq, if_neg (by simp)] at hC hR
 cases hm : mayU u
 ·rw [hm, if_pos rfl] at hC hR
  subst hR
  obtain ⟨a, b⟩ := u
  simp only [unV] at *
  clear h hB1 hq hm
  go_enter Tryz.func94, Tryz.ntmps94
  go_wp2_with (go_at_call 127; refine hC.out.mono ?_; rintro e w1 ⟨rfl, hb1⟩)
  go_ret
  have hB := below_step HB.out hb1
  exact ⟨rfl, HP.out.keep hB, Foot.of_below hB⟩
 rw [hm, if_neg (by simp)] at hC hR
 obtain ⟨k, x, rfl, hkl, hx⟩ := hasQ_at hq
 simp only [Int.toNat_natCast, hx] at hR
 obtain ⟨l1, l2⟩ := h.lt
 have hne := h.ne
 have hok := h.ok x (List.mem_of_getElem? hx)
 obtain ⟨hm1, hm2, hm3, hm4⟩ := mayU_iff.1 hm
 obtain ⟨hx1, hx2, hx3, hx4⟩ := mayU_iff.1 hok.m
 obtain ⟨hg1, hg2⟩ := hok.g
 obtain ⟨hc1, hc2⟩ := hok.c
 have hfew := h.few
 have HX := Lib.hid (And.intro hx hok)
 obtain ⟨n, hn⟩ : ∃ n, n = l.length := ⟨_, rfl⟩
 rw [← hn] at hkl hfew
 have Hn := Lib.hid hn
 have bS := Lib.hid (heap_alloc_new w (.cells #[.int .i64 u.g, .int .i64 u.c] 57))
 have HL := Lib.hid (fun W => left_any x W hok)
 obtain ⟨lt, hlt⟩ : ∃ lt, lt = leU u (subU x.m x.u) := ⟨_, rfl⟩
 have hM := fun W => most_any u (subU x.m x.u) W
 rw [← hlt] at hM hR
 have HM := Lib.hid hM
 have HR := Lib.hid hR
 have Hlt := Lib.hid hlt
 clear hM hlt
 clear h hB1 hq hm hx hok hn hR
 obtain ⟨⟨mg, mc⟩, ⟨ug, uc⟩⟩ := x
 obtain ⟨a, b⟩ := u
 simp only [unV, qaV, subU, addU] at *
 go_enter Tryz.func94, Tryz.ntmps94
 go_wp2_with (go_at_call 127; refine hC.out.mono ?_; rintro e w1 ⟨rfl, hb1⟩)
 have hBw := below_step HB.out hb1
 have hP1 := HP.out.keep hBw
 have c0 := hP1.head
 rw [← Hn.out] at c0
 obtain ⟨d0, d1, d2, d3, f2, f3⟩ := hP1.cells HX.out.1
 simp only at d0 d1 d2 d3
 obtain ⟨e0, e1, y2, y3, y4⟩ := pair_at ((hb1.block w.heap.size (by simp)).trans bS.out)
 have hsz : w.heap.size ≤ w1.heap.size := hBw.size
 have HBw := Lib.hid (And.intro hBw hP1)
 clear hb1 hBw hP1
 go_wp2
 cases lt
 ·have hR := HR.out
  rw [if_pos rfl] at hR
  subst hR
  refine held_begin (fun w' : World => w'.cell? ⟨p, 0, none⟩ = some (.slice (some ⟨g, 0, none⟩) n c) ∧ w'.cell? ⟨g, k * 4, none⟩ = some (.int .i64 mg) ∧ w'.cell? ⟨g, k * 4 + 1, none⟩ = some (.int .i64 mc) ∧ w'.cell? ⟨g, k * 4 + 2, none⟩ = some (.int .i64 ug) ∧ w'.cell? ⟨g, k * 4 + 3, none⟩ = some (.int .i64 uc) ∧ w'.cell? ⟨w.heap.size, 0, none⟩ = some (.int .i64 a) ∧ w'.cell? ⟨w.heap.size, 1, none⟩ = some (.int .i64 b)) (by kernel_rfl) ?_
  have hBh0 : Below w1.heap.size w1 w1.drew := (Below.refl _ _).drew
  have hSh0 : (fun w' : World => w'.cell? ⟨p, 0, none⟩ = some (.slice (some ⟨g, 0, none⟩) n c) ∧ w'.cell? ⟨g, k * 4, none⟩ = some (.int .i64 mg) ∧ w'.cell? ⟨g, k * 4 + 1, none⟩ = some (.int .i64 mc) ∧ w'.cell? ⟨g, k * 4 + 2, none⟩ = some (.int .i64 ug) ∧ w'.cell? ⟨g, k * 4 + 3, none⟩ = some (.int .i64 uc) ∧ w'.cell? ⟨w.heap.size, 0, none⟩ = some (.int .i64 a) ∧ w'.cell? ⟨w.heap.size, 1, none⟩ = some (.int .i64 b)) w1.drew := ⟨c0, d0, d1, d2, d3, e0, e1⟩
  refine held_takeK (v := ?_) 0 15 rfl rfl ⟨by rfl, ?_⟩ hSh0 ?_
  rotate_left
  ·intro w' hw'; obtain ⟨x0, x1, x2, x3, x4, x5, x6⟩ := hw'; go_simp; (try with_reducible rfl)
  simp only [Act.put, pzA, pzB, pzC]
  refine held_takeK (v := ?_) 1 16 rfl rfl ⟨by rfl, ?_⟩ hSh0 ?_
  rotate_left
  ·intro w' hw'; obtain ⟨x0, x1, x2, x3, x4, x5, x6⟩ := hw'; go_simp; (try with_reducible rfl)
  simp only [Act.put, pzA, pzB, pzC]
  refine held_takeK (v := ?_) 2 17 rfl rfl ⟨by rfl, ?_⟩ hSh0 ?_
  rotate_left
  ·intro w' hw'; obtain ⟨x0, x1, x2, x3, x4, x5, x6⟩ := hw'; go_simp; (try with_reducible rfl)
  simp only [Act.put, pzA, pzB, pzC]
  refine held_takeK (v := ?_) 3 18 rfl rfl ⟨by rfl, ?_⟩ hSh0 ?_
  rotate_left
  ·intro w' hw'; obtain ⟨x0, x1, x2, x3, x4, x5, x6⟩ := hw'; go_simp; (try with_reducible rfl)
  simp only [Act.put, pzA, pzB, pzC]
  refine held_takeK (v := ?_) 4 19 rfl rfl ⟨by rfl, ?_⟩ hSh0 ?_
  rotate_left
  ·intro w' hw'; obtain ⟨x0, x1, x2, x3, x4, x5, x6⟩ := hw'; go_simp; (try with_reducible rfl)
  simp only [Act.put, pzA, pzB, pzC]
  refine held_takeK (v := ?_) 5 20 rfl rfl ⟨by rfl, ?_⟩ hSh0 ?_
  rotate_left
  ·intro w' hw'; obtain ⟨x0, x1, x2, x3, x4, x5, x6⟩ := hw'; go_simp; (try with_reducible rfl)
  simp only [Act.put, pzA, pzB, pzC]
  refine held_takeK (v := ?_) 6 21 rfl rfl ⟨by rfl, ?_⟩ hSh0 ?_
  rotate_left
  ·intro w' hw'; obtain ⟨x0, x1, x2, x3, x4, x5, x6⟩ := hw'; go_simp; (try with_reducible rfl)
  simp only [Act.put, pzA, pzB, pzC]
  refine held_takeK (v := ?_) 7 22 rfl rfl ⟨by rfl, ?_⟩ hSh0 ?_
  rotate_left
  ·intro w' hw'; obtain ⟨x0, x1, x2, x3, x4, x5, x6⟩ := hw'; go_simp; (try with_reducible rfl)
  simp only [Act.put, pzA, pzB, pzC]
  refine held_one 8 rfl (by kernel_rfl) (by rfl) (fun K hK => ?_)
  go_simp
  go_at_call 92
  refine (HL.out _).mono ?_
  rintro e wh1 ⟨rfl, hbh1⟩
  have hBh1 : Below w1.heap.size w1 wh1 := below_step hBh0 hbh1
  have hSh1 : (fun w' : World => w'.cell? ⟨p, 0, none⟩ = some (.slice (some ⟨g, 0, none⟩) n c) ∧ w'.cell? ⟨g, k * 4, none⟩ = some (.int .i64 mg) ∧ w'.cell? ⟨g, k * 4 + 1, none⟩ = some (.int .i64 mc) ∧ w'.cell? ⟨g, k * 4 + 2, none⟩ = some (.int .i64 ug) ∧ w'.cell? ⟨g, k * 4 + 3, none⟩ = some (.int .i64 uc) ∧ w'.cell? ⟨w.heap.size, 0, none⟩ = some (.int .i64 a) ∧ w'.cell? ⟨w.heap.size, 1, none⟩ = some (.int .i64 b)) wh1 := ⟨(hBh1.cell (p := ⟨p, 0, none⟩) (show p < w1.heap.size by omega)).trans c0, (hBh1.cell (p := ⟨g, k * 4, none⟩) (show g < w1.heap.size by omega)).trans d0, (hBh1.cell (p := ⟨g, k * 4 + 1, none⟩) (show g < w1.heap.size by omega)).trans d1, (hBh1.cell (p := ⟨g, k * 4 + 2, none⟩) (show g < w1.heap.size by omega)).trans d2, (hBh1.cell (p := ⟨g, k * 4 + 3, none⟩) (show g < w1.heap.size by omega)).trans d3, (hBh1.cell (p := ⟨w.heap.size, 0, none⟩) (show w.heap.size < w1.heap.size by omega)).trans e0, (hBh1.cell (p := ⟨w.heap.size, 1, none⟩) (show w.heap.size < w1.heap.size by omega)).trans e1⟩
  refine hK.out _ _ hSh1 ?_
  clear hK K
  refine held_one 9 rfl (by kernel_rfl) (by rfl) (fun K hK => ?_)
  go_simp
  go_at_call 102
  refine (HM.out _).mono ?_
  rintro e wh2 ⟨rfl, hbh2⟩
  have hBh2 : Below w1.heap.size w1 wh2 := below_step hBh1 hbh2
  have hSh2 : (fun w' : World => w'.cell? ⟨p, 0, none⟩ = some (.slice (some ⟨g, 0, none⟩) n c) ∧ w'.cell? ⟨g, k * 4, none⟩ = some (.int .i64 mg) ∧ w'.cell? ⟨g, k * 4 + 1, none⟩ = some (.int .i64 mc) ∧ w'.cell? ⟨g, k * 4 + 2, none⟩ = some (.int .i64 ug) ∧ w'.cell? ⟨g, k * 4 + 3, none⟩ = some (.int .i64 uc) ∧ w'.cell? ⟨w.heap.size, 0, none⟩ = some (.int .i64 a) ∧ w'.cell? ⟨w.heap.size, 1, none⟩ = some (.int .i64 b)) wh2 := ⟨(hBh2.cell (p := ⟨p, 0, none⟩) (show p < w1.heap.size by omega)).trans c0, (hBh2.cell (p := ⟨g, k * 4, none⟩) (show g < w1.heap.size by omega)).trans d0, (hBh2.cell (p := ⟨g, k * 4 + 1, none⟩) (show g < w1.heap.size by omega)).trans d1, (hBh2.cell (p := ⟨g, k * 4 + 2, none⟩) (show g < w1.heap.size by omega)).trans d2, (hBh2.cell (p := ⟨g, k * 4 + 3, none⟩) (show g < w1.heap.size by omega)).trans d3, (hBh2.cell (p := ⟨w.heap.size, 0, none⟩) (show w.heap.size < w1.heap.size by omega)).trans e0, (hBh2.cell (p := ⟨w.heap.size, 1, none⟩) (show w.heap.size < w1.heap.size by omega)).trans e1⟩
  refine hK.out _ _ hSh2 ?_
  clear hK K
  refine held_takeK (v := ?_) 10 25 rfl rfl ⟨by rfl, ?_⟩ hSh2 ?_
  rotate_left
  ·intro w' hw'; obtain ⟨x0, x1, x2, x3, x4, x5, x6⟩ := hw'; go_simp; (try with_reducible rfl)
  simp only [Act.put, pzA, pzB, pzC]
  refine wpAnyH_done (by kernel_rfl) ?_ _
  go_wp2
  go_ret
  have hB9 := HBw.out.1.trans (hBh2.mono hsz)
  exact ⟨rfl, HP.out.keep hB9, Foot.of_below hB9⟩
 ·have hR := HR.out
  rw [if_neg (by simp)] at hR
  obtain ⟨le1, le2⟩ := leU_iff.1 Hlt.out.symm
  simp only at le1 le2
  subst hR
  refine held_begin (fun w' : World => w'.cell? ⟨p, 0, none⟩ = some (.slice (some ⟨g, 0, none⟩) n c) ∧ w'.cell? ⟨g, k * 4, none⟩ = some (.int .i64 mg) ∧ w'.cell? ⟨g, k * 4 + 1, none⟩ = some (.int .i64 mc) ∧ w'.cell? ⟨g, k * 4 + 2, none⟩ = some (.int .i64 ug) ∧ w'.cell? ⟨g, k * 4 + 3, none⟩ = some (.int .i64 uc) ∧ w'.cell? ⟨w.heap.size, 0, none⟩ = some (.int .i64 a) ∧ w'.cell? ⟨w.heap.size, 1, none⟩ = some (.int .i64 b)) (by kernel_rfl) ?_
  have hBh0 : Below w1.heap.size w1 w1.drew := (Below.refl _ _).drew
  have hSh0 : (fun w' : World => w'.cell? ⟨p, 0, none⟩ = some (.slice (some ⟨g, 0, none⟩) n c) ∧ w'.cell? ⟨g, k * 4, none⟩ = some (.int .i64 mg) ∧ w'.cell? ⟨g, k * 4 + 1, none⟩ = some (.int .i64 mc) ∧ w'.cell? ⟨g, k * 4 + 2, none⟩ = some (.int .i64 ug) ∧ w'.cell? ⟨g, k * 4 + 3, none⟩ = some (.int .i64 uc) ∧ w'.cell? ⟨w.heap.size, 0, none⟩ = some (.int .i64 a) ∧ w'.cell? ⟨w.heap.size, 1, none⟩ = some (.int .i64 b)) w1.drew := ⟨c0, d0, d1, d2, d3, e0, e1⟩
  refine held_takeK (v := ?_) 0 15 rfl rfl ⟨by rfl, ?_⟩ hSh0 ?_
  rotate_left
  ·intro w' hw'; obtain ⟨x0, x1, x2, x3, x4, x5, x6⟩ := hw'; go_simp; (try with_reducible rfl)
  simp only [Act.put, pzA, pzB, pzC]
  refine held_takeK (v := ?_) 1 16 rfl rfl ⟨by rfl, ?_⟩ hSh0 ?_
  rotate_left
  ·intro w' hw'; obtain ⟨x0, x1, x2, x3, x4, x5, x6⟩ := hw'; go_simp; (try with_reducible rfl)
  simp only [Act.put, pzA, pzB, pzC]
  refine held_takeK (v := ?_) 2 17 rfl rfl ⟨by rfl, ?_⟩ hSh0 ?_
  rotate_left
  ·intro w' hw'; obtain ⟨x0, x1, x2, x3, x4, x5, x6⟩ := hw'; go_simp; (try with_reducible rfl)
  simp only [Act.put, pzA, pzB, pzC]
  refine held_takeK (v := ?_) 3 18 rfl rfl ⟨by rfl, ?_⟩ hSh0 ?_
  rotate_left
  ·intro w' hw'; obtain ⟨x0, x1, x2, x3, x4, x5, x6⟩ := hw'; go_simp; (try with_reducible rfl)
  simp only [Act.put, pzA, pzB, pzC]
  refine held_takeK (v := ?_) 4 19 rfl rfl ⟨by rfl, ?_⟩ hSh0 ?_
  rotate_left
  ·intro w' hw'; obtain ⟨x0, x1, x2, x3, x4, x5, x6⟩ := hw'; go_simp; (try with_reducible rfl)
  simp only [Act.put, pzA, pzB, pzC]
  refine held_takeK (v := ?_) 5 20 rfl rfl ⟨by rfl, ?_⟩ hSh0 ?_
  rotate_left
  ·intro w' hw'; obtain ⟨x0, x1, x2, x3, x4, x5, x6⟩ := hw'; go_simp; (try with_reducible rfl)
  simp only [Act.put, pzA, pzB, pzC]
  refine held_takeK (v := ?_) 6 21 rfl rfl ⟨by rfl, ?_⟩ hSh0 ?_
  rotate_left
  ·intro w' hw'; obtain ⟨x0, x1, x2, x3, x4, x5, x6⟩ := hw'; go_simp; (try with_reducible rfl)
  simp only [Act.put, pzA, pzB, pzC]
  refine held_takeK (v := ?_) 7 22 rfl rfl ⟨by rfl, ?_⟩ hSh0 ?_
  rotate_left
  ·intro w' hw'; obtain ⟨x0, x1, x2, x3, x4, x5, x6⟩ := hw'; go_simp; (try with_reducible rfl)
  simp only [Act.put, pzA, pzB, pzC]
  refine held_one 8 rfl (by kernel_rfl) (by rfl) (fun K hK => ?_)
  go_simp
  go_at_call 92
  refine (HL.out _).mono ?_
  rintro e wh1 ⟨rfl, hbh1⟩
  have hBh1 : Below w1.heap.size w1 wh1 := below_step hBh0 hbh1
  have hSh1 : (fun w' : World => w'.cell? ⟨p, 0, none⟩ = some (.slice (some ⟨g, 0, none⟩) n c) ∧ w'.cell? ⟨g, k * 4, none⟩ = some (.int .i64 mg) ∧ w'.cell? ⟨g, k * 4 + 1, none⟩ = some (.int .i64 mc) ∧ w'.cell? ⟨g, k * 4 + 2, none⟩ = some (.int .i64 ug) ∧ w'.cell? ⟨g, k * 4 + 3, none⟩ = some (.int .i64 uc) ∧ w'.cell? ⟨w.heap.size, 0, none⟩ = some (.int .i64 a) ∧ w'.cell? ⟨w.heap.size, 1, none⟩ = some (.int .i64 b)) wh1 := ⟨(hBh1.cell (p := ⟨p, 0, none⟩) (show p < w1.heap.size by omega)).trans c0, (hBh1.cell (p := ⟨g, k * 4, none⟩) (show g < w1.heap.size by omega)).trans d0, (hBh1.cell (p := ⟨g, k * 4 + 1, none⟩) (show g < w1.heap.size by omega)).trans d1, (hBh1.cell (p := ⟨g, k * 4 + 2, none⟩) (show g < w1.heap.size by omega)).trans d2, (hBh1.cell (p := ⟨g, k * 4 + 3, none⟩) (show g < w1.heap.size by omega)).trans d3, (hBh1.cell (p := ⟨w.heap.size, 0, none⟩) (show w.heap.size < w1.heap.size by omega)).trans e0, (hBh1.cell (p := ⟨w.heap.size, 1, none⟩) (show w.heap.size < w1.heap.size by omega)).trans e1⟩
  refine hK.out _ _ hSh1 ?_
  clear hK K
  refine held_one 9 rfl (by kernel_rfl) (by rfl) (fun K hK => ?_)
  go_simp
  go_at_call 102
  refine (HM.out _).mono ?_
  rintro e wh2 ⟨rfl, hbh2⟩
  have hBh2 : Below w1.heap.size w1 wh2 := below_step hBh1 hbh2
  have hSh2 : (fun w' : World => w'.cell? ⟨p, 0, none⟩ = some (.slice (some ⟨g, 0, none⟩) n c) ∧ w'.cell? ⟨g, k * 4, none⟩ = some (.int .i64 mg) ∧ w'.cell? ⟨g, k * 4 + 1, none⟩ = some (.int .i64 mc) ∧ w'.cell? ⟨g, k * 4 + 2, none⟩ = some (.int .i64 ug) ∧ w'.cell? ⟨g, k * 4 + 3, none⟩ = some (.int .i64 uc) ∧ w'.cell? ⟨w.heap.size, 0, none⟩ = some (.int .i64 a) ∧ w'.cell? ⟨w.heap.size, 1, none⟩ = some (.int .i64 b)) wh2 := ⟨(hBh2.cell (p := ⟨p, 0, none⟩) (show p < w1.heap.size by omega)).trans c0, (hBh2.cell (p := ⟨g, k * 4, none⟩) (show g < w1.heap.size by omega)).trans d0, (hBh2.cell (p := ⟨g, k * 4 + 1, none⟩) (show g < w1.heap.size by omega)).trans d1, (hBh2.cell (p := ⟨g, k * 4 + 2, none⟩) (show g < w1.heap.size by omega)).trans d2, (hBh2.cell (p := ⟨g, k * 4 + 3, none⟩) (show g < w1.heap.size by omega)).trans d3, (hBh2.cell (p := ⟨w.heap.size, 0, none⟩) (show w.heap.size < w1.heap.size by omega)).trans e0, (hBh2.cell (p := ⟨w.heap.size, 1, none⟩) (show w.heap.size < w1.heap.size by omega)).trans e1⟩
  refine hK.out _ _ hSh2 ?_
  clear hK K
  refine held_takeK (v := ?_) 10 25 rfl rfl ⟨by rfl, ?_⟩ hSh2 ?_
  rotate_left
  ·intro w' hw'; obtain ⟨x0, x1, x2, x3, x4, x5, x6⟩ := hw'; go_simp; (try with_reducible rfl)
  simp only [Act.put, pzA, pzB, pzC]
  refine wpAnyH_done (by kernel_rfl) ?_ _
  have hB9 := HBw.out.1.trans (hBh2.mono hsz)
  have HS := Lib.hid hSh2
  have s9 := hBh2.size
  clear c0 d0 d1 d2 d3 e0 e1 f2 f3 y2 y3 hBh0 hBh1 hBh2 hSh0 hSh1 hSh2 hbh1 hbh2
  have HP9 := Lib.hid (And.intro (HP.out.keep hB9) hB9)
  clear hB9
  obtain ⟨c0, d0, d1, d2, d3, e0, e1⟩ := HS.out
  obtain ⟨_, _, _, _, f2, f3⟩ := HP9.out.1.cells HX.out.1
  have hbox : g ≠ w.heap.size := by omega
  go_wp2
  go_still_tail 15, (by kernel_rfl)
  change wpList _ _ _ _ _ wh2.drew
  go_wp2
  obtain ⟨W2, hW2⟩ : ∃ W2, W2 = (wh2.setCell ⟨g, k * 4 + 2, none⟩ (.int .i64 (ug + a))).drew := ⟨_, rfl⟩
  have q0 : W2.cell? ⟨p, 0, none⟩ = some (.slice (some ⟨g, 0, none⟩) n c) := by rw [hW2]; go_simp
  have q3 : W2.cell? ⟨g, k * 4 + 3, none⟩ = some (.int .i64 uc) := by rw [hW2]; go_simp
  have r3 : W2.frozen? ⟨g, k * 4 + 3, none⟩ = false := by rw [hW2]; go_simp
  have s3 : W2.cell? ⟨w.heap.size, 1, none⟩ = some (.int .i64 b) := by rw [hW2]; go_simp
  rw [← hW2]
  have HW2 := Lib.hid hW2
  clear hW2 c0 d0 d1 d2 d3 e0 e1 f2 f3
  go_still_tail 15, (by kernel_rfl)
  change wpList _ _ _ _ _ W2.drew
  go_wp2
  go_ret
  have hft : Foot (· = g) w (W2.setCell ⟨g, k * 4 + 3, none⟩ (.int .i64 (uc + b))).drew := by
   rw [HW2.out]
   refine (Foot.setCell (p := ⟨g, _, none⟩) (Foot.setCell (p := ⟨g, _, none⟩) (Foot.of_below HP9.out.2) (.inl ?_) _).drew (.inl ?_) _).drew <;> rfl
  exact ⟨rfl, HP.out.wrote ⟨ug + a, uc + b⟩ HX.out.1 HP9.out.2 ⟨HX.out.2.m, ⟨by simp only; omega, by simp only; omega⟩, ⟨by simp only; omega, by simp only; omega⟩⟩ hft (by rw [HW2.out]; rfl), hft⟩
set_option maxRecDepth 100000 in
set_option maxHeartbeats 4000000 in
theorem sub_q (p g c : Nat) (l : List Qa) (q : Int) (u : Un) (w : World) (h : QAt w p g c l) :
  Calls Tryz.prog 106 #[.pointer (some ⟨p, 0, none⟩), .int .i64 q, unV u] w fun e w' => e = .returned (.int .i64 (qSub l q u).1) ∧ QAt w' p g c (qSub l q u).2 ∧ Foot (· = g) w w' := by
 have hB1 := (Below.refl w.heap.size w).alloc (Nat.le_refl _) (.cells #[.int .i64 u.g, .int .i64 u.c] 57)
 have hC := Lib.hid (check_any p g c l q u _ (h.keep hB1))
 have HP := Lib.hid h
 have HB := Lib.hid hB1
 obtain ⟨R, hR⟩ : ∃ R, R = qSub l q u := ⟨_, rfl⟩
 rw [← hR]
 unfold checkQ at hC
 unfold qSub at hR
 cases hq : hasQ l q
 ·rw [hq, if_pos rfl] at hC hR
  subst hR
  obtain ⟨a, b⟩ := u
  simp only [unV] at *
  clear h hB1 hq
  go_enter Tryz.func106, Tryz.ntmps106
  go_wp2_with (go_at_call 127; refine hC.out.mono ?_; rintro e w1 ⟨rfl, hb1⟩)
  go_ret
  have hB := below_step HB.out hb1
  exact ⟨rfl, HP.out.keep hB, Foot.of_below hB⟩
 rw [hq, if_neg (by simp)] at hC hR
 cases hm : mayU u
 ·rw [hm, if_pos rfl] at hC hR
  subst hR
  obtain ⟨a, b⟩ := u
  simp only [unV] at *
  clear h hB1 hq hm
  go_enter Tryz.func106, Tryz.ntmps106
  go_wp2_with (go_at_call 127; refine hC.out.mono ?_; rintro e w1 ⟨rfl, hb1⟩)
  go_ret
  have hB := below_step HB.out hb1
  exact ⟨rfl, HP.out.keep hB, Foot.of_below hB⟩
 rw [hm, if_neg (by simp)] at hC hR
 obtain ⟨k, x, rfl, hkl, hx⟩ := hasQ_at hq
 simp only [Int.toNat_natCast, hx] at hR
 obtain ⟨l1, l2⟩ := h.lt
 have hne := h.ne
 have hok := h.ok x (List.mem_of_getElem? hx)
 obtain ⟨hm1, hm2, hm3, hm4⟩ := mayU_iff.1 hm
 obtain ⟨hx1, hx2, hx3, hx4⟩ := mayU_iff.1 hok.m
 obtain ⟨hg1, hg2⟩ := hok.g
 obtain ⟨hc1, hc2⟩ := hok.c
 have hfew := h.few
 have HX := Lib.hid (And.intro hx hok)
 obtain ⟨n, hn⟩ : ∃ n, n = l.length := ⟨_, rfl⟩
 rw [← hn] at hkl hfew
 have Hn := Lib.hid hn
 have bS := Lib.hid (heap_alloc_new w (.cells #[.int .i64 u.g, .int .i64 u.c] 57))
 obtain ⟨lt, hlt⟩ : ∃ lt, lt = leU u x.u := ⟨_, rfl⟩
 have hM := fun W => most_any u x.u W
 rw [← hlt] at hM hR
 have HM := Lib.hid hM
 have HR := Lib.hid hR
 have Hlt := Lib.hid hlt
 have HL := Lib.hid (fun (e : leU u x.u = true) W => less_any x.u u W ⟨hm1, (leU_iff.1 e).1, by omega, hm3, (leU_iff.1 e).2, by omega⟩)
 clear hM hlt
 clear h hB1 hq hm hx hok hn hR
 obtain ⟨⟨mg, mc⟩, ⟨ug, uc⟩⟩ := x
 obtain ⟨a, b⟩ := u
 simp only [unV, subU] at *
 go_enter Tryz.func106, Tryz.ntmps106
 go_wp2_with (go_at_call 127; refine hC.out.mono ?_; rintro e w1 ⟨rfl, hb1⟩)
 have hBw := below_step HB.out hb1
 have hP1 := HP.out.keep hBw
 have c0 := hP1.head
 rw [← Hn.out] at c0
 obtain ⟨d0, d1, d2, d3, f2, f3⟩ := hP1.cells HX.out.1
 simp only at d0 d1 d2 d3
 obtain ⟨e0, e1, y2, y3, y4⟩ := pair_at ((hb1.block w.heap.size (by simp)).trans bS.out)
 have hsz : w.heap.size ≤ w1.heap.size := hBw.size
 have HBw := Lib.hid (And.intro hBw hP1)
 clear hb1 hBw hP1
 go_wp2
 cases lt
 ·have hR := HR.out
  rw [if_pos rfl] at hR
  subst hR
  refine held_begin (fun w' : World => w'.cell? ⟨p, 0, none⟩ = some (.slice (some ⟨g, 0, none⟩) n c) ∧ w'.cell? ⟨g, k * 4, none⟩ = some (.int .i64 mg) ∧ w'.cell? ⟨g, k * 4 + 1, none⟩ = some (.int .i64 mc) ∧ w'.cell? ⟨g, k * 4 + 2, none⟩ = some (.int .i64 ug) ∧ w'.cell? ⟨g, k * 4 + 3, none⟩ = some (.int .i64 uc) ∧ w'.cell? ⟨w.heap.size, 0, none⟩ = some (.int .i64 a) ∧ w'.cell? ⟨w.heap.size, 1, none⟩ = some (.int .i64 b)) (by kernel_rfl) ?_
  have hBh0 : Below w1.heap.size w1 w1.drew := (Below.refl _ _).drew
  have hSh0 : (fun w' : World => w'.cell? ⟨p, 0, none⟩ = some (.slice (some ⟨g, 0, none⟩) n c) ∧ w'.cell? ⟨g, k * 4, none⟩ = some (.int .i64 mg) ∧ w'.cell? ⟨g, k * 4 + 1, none⟩ = some (.int .i64 mc) ∧ w'.cell? ⟨g, k * 4 + 2, none⟩ = some (.int .i64 ug) ∧ w'.cell? ⟨g, k * 4 + 3, none⟩ = some (.int .i64 uc) ∧ w'.cell? ⟨w.heap.size, 0, none⟩ = some (.int .i64 a) ∧ w'.cell? ⟨w.heap.size, 1, none⟩ = some (.int .i64 b)) w1.drew := ⟨c0, d0, d1, d2, d3, e0, e1⟩
  refine held_takeK (v := ?_) 0 15 rfl rfl ⟨by rfl, ?_⟩ hSh0 ?_
  rotate_left
  ·intro w' hw'; obtain ⟨x0, x1, x2, x3, x4, x5, x6⟩ := hw'; go_simp; (try with_reducible rfl)
  simp only [Act.put, pzA, pzB, pzC]
  refine held_takeK (v := ?_) 1 16 rfl rfl ⟨by rfl, ?_⟩ hSh0 ?_
  rotate_left
  ·intro w' hw'; obtain ⟨x0, x1, x2, x3, x4, x5, x6⟩ := hw'; go_simp; (try with_reducible rfl)
  simp only [Act.put, pzA, pzB, pzC]
  refine held_takeK (v := ?_) 2 17 rfl rfl ⟨by rfl, ?_⟩ hSh0 ?_
  rotate_left
  ·intro w' hw'; obtain ⟨x0, x1, x2, x3, x4, x5, x6⟩ := hw'; go_simp; (try with_reducible rfl)
  simp only [Act.put, pzA, pzB, pzC]
  refine held_takeK (v := ?_) 3 18 rfl rfl ⟨by rfl, ?_⟩ hSh0 ?_
  rotate_left
  ·intro w' hw'; obtain ⟨x0, x1, x2, x3, x4, x5, x6⟩ := hw'; go_simp; (try with_reducible rfl)
  simp only [Act.put, pzA, pzB, pzC]
  refine held_takeK (v := ?_) 4 19 rfl rfl ⟨by rfl, ?_⟩ hSh0 ?_
  rotate_left
  ·intro w' hw'; obtain ⟨x0, x1, x2, x3, x4, x5, x6⟩ := hw'; go_simp; (try with_reducible rfl)
  simp only [Act.put, pzA, pzB, pzC]
  refine held_takeK (v := ?_) 5 20 rfl rfl ⟨by rfl, ?_⟩ hSh0 ?_
  rotate_left
  ·intro w' hw'; obtain ⟨x0, x1, x2, x3, x4, x5, x6⟩ := hw'; go_simp; (try with_reducible rfl)
  simp only [Act.put, pzA, pzB, pzC]
  refine held_takeK (v := ?_) 6 21 rfl rfl ⟨by rfl, ?_⟩ hSh0 ?_
  rotate_left
  ·intro w' hw'; obtain ⟨x0, x1, x2, x3, x4, x5, x6⟩ := hw'; go_simp; (try with_reducible rfl)
  simp only [Act.put, pzA, pzB, pzC]
  refine held_takeK (v := ?_) 7 22 rfl rfl ⟨by rfl, ?_⟩ hSh0 ?_
  rotate_left
  ·intro w' hw'; obtain ⟨x0, x1, x2, x3, x4, x5, x6⟩ := hw'; go_simp; (try with_reducible rfl)
  simp only [Act.put, pzA, pzB, pzC]
  refine held_takeK (v := ?_) 8 23 rfl rfl ⟨by rfl, ?_⟩ hSh0 ?_
  rotate_left
  ·intro w' hw'; obtain ⟨x0, x1, x2, x3, x4, x5, x6⟩ := hw'; go_simp; (try with_reducible rfl)
  simp only [Act.put, pzA, pzB, pzC]
  refine held_one 9 rfl (by kernel_rfl) (by rfl) (fun K hK => ?_)
  go_simp
  go_at_call 102
  refine (HM.out _).mono ?_
  rintro e wh1 ⟨rfl, hbh1⟩
  have hBh1 : Below w1.heap.size w1 wh1 := below_step hBh0 hbh1
  have hSh1 : (fun w' : World => w'.cell? ⟨p, 0, none⟩ = some (.slice (some ⟨g, 0, none⟩) n c) ∧ w'.cell? ⟨g, k * 4, none⟩ = some (.int .i64 mg) ∧ w'.cell? ⟨g, k * 4 + 1, none⟩ = some (.int .i64 mc) ∧ w'.cell? ⟨g, k * 4 + 2, none⟩ = some (.int .i64 ug) ∧ w'.cell? ⟨g, k * 4 + 3, none⟩ = some (.int .i64 uc) ∧ w'.cell? ⟨w.heap.size, 0, none⟩ = some (.int .i64 a) ∧ w'.cell? ⟨w.heap.size, 1, none⟩ = some (.int .i64 b)) wh1 := ⟨(hBh1.cell (p := ⟨p, 0, none⟩) (show p < w1.heap.size by omega)).trans c0, (hBh1.cell (p := ⟨g, k * 4, none⟩) (show g < w1.heap.size by omega)).trans d0, (hBh1.cell (p := ⟨g, k * 4 + 1, none⟩) (show g < w1.heap.size by omega)).trans d1, (hBh1.cell (p := ⟨g, k * 4 + 2, none⟩) (show g < w1.heap.size by omega)).trans d2, (hBh1.cell (p := ⟨g, k * 4 + 3, none⟩) (show g < w1.heap.size by omega)).trans d3, (hBh1.cell (p := ⟨w.heap.size, 0, none⟩) (show w.heap.size < w1.heap.size by omega)).trans e0, (hBh1.cell (p := ⟨w.heap.size, 1, none⟩) (show w.heap.size < w1.heap.size by omega)).trans e1⟩
  refine hK.out _ _ hSh1 ?_
  clear hK K
  refine held_takeK (v := ?_) 10 25 rfl rfl ⟨by rfl, ?_⟩ hSh1 ?_
  rotate_left
  ·intro w' hw'; obtain ⟨x0, x1, x2, x3, x4, x5, x6⟩ := hw'; go_simp; (try with_reducible rfl)
  simp only [Act.put, pzA, pzB, pzC]
  refine wpAnyH_done (by kernel_rfl) ?_ _
  go_wp2
  go_ret
  have hB9 := HBw.out.1.trans (hBh1.mono hsz)
  exact ⟨rfl, HP.out.keep hB9, Foot.of_below hB9⟩
 ·have hR := HR.out
  rw [if_neg (by simp)] at hR
  obtain ⟨le1, le2⟩ := leU_iff.1 Hlt.out.symm
  have HL2 := Lib.hid (HL.out Hlt.out.symm)
  simp only at le1 le2
  subst hR
  refine held_begin (fun w' : World => w'.cell? ⟨p, 0, none⟩ = some (.slice (some ⟨g, 0, none⟩) n c) ∧ w'.cell? ⟨g, k * 4, none⟩ = some (.int .i64 mg) ∧ w'.cell? ⟨g, k * 4 + 1, none⟩ = some (.int .i64 mc) ∧ w'.cell? ⟨g, k * 4 + 2, none⟩ = some (.int .i64 ug) ∧ w'.cell? ⟨g, k * 4 + 3, none⟩ = some (.int .i64 uc) ∧ w'.cell? ⟨w.heap.size, 0, none⟩ = some (.int .i64 a) ∧ w'.cell? ⟨w.heap.size, 1, none⟩ = some (.int .i64 b)) (by kernel_rfl) ?_
  have hBh0 : Below w1.heap.size w1 w1.drew := (Below.refl _ _).drew
  have hSh0 : (fun w' : World => w'.cell? ⟨p, 0, none⟩ = some (.slice (some ⟨g, 0, none⟩) n c) ∧ w'.cell? ⟨g, k * 4, none⟩ = some (.int .i64 mg) ∧ w'.cell? ⟨g, k * 4 + 1, none⟩ = some (.int .i64 mc) ∧ w'.cell? ⟨g, k * 4 + 2, none⟩ = some (.int .i64 ug) ∧ w'.cell? ⟨g, k * 4 + 3, none⟩ = some (.int .i64 uc) ∧ w'.cell? ⟨w.heap.size, 0, none⟩ = some (.int .i64 a) ∧ w'.cell? ⟨w.heap.size, 1, none⟩ = some (.int .i64 b)) w1.drew := ⟨c0, d0, d1, d2, d3, e0, e1⟩
  refine held_takeK (v := ?_) 0 15 rfl rfl ⟨by rfl, ?_⟩ hSh0 ?_
  rotate_left
  ·intro w' hw'; obtain ⟨x0, x1, x2, x3, x4, x5, x6⟩ := hw'; go_simp; (try with_reducible rfl)
  simp only [Act.put, pzA, pzB, pzC]
  refine held_takeK (v := ?_) 1 16 rfl rfl ⟨by rfl, ?_⟩ hSh0 ?_
  rotate_left
  ·intro w' hw'; obtain ⟨x0, x1, x2, x3, x4, x5, x6⟩ := hw'; go_simp; (try with_reducible rfl)
  simp only [Act.put, pzA, pzB, pzC]
  refine held_takeK (v := ?_) 2 17 rfl rfl ⟨by rfl, ?_⟩ hSh0 ?_
  rotate_left
  ·intro w' hw'; obtain ⟨x0, x1, x2, x3, x4, x5, x6⟩ := hw'; go_simp; (try with_reducible rfl)
  simp only [Act.put, pzA, pzB, pzC]
  refine held_takeK (v := ?_) 3 18 rfl rfl ⟨by rfl, ?_⟩ hSh0 ?_
  rotate_left
  ·intro w' hw'; obtain ⟨x0, x1, x2, x3, x4, x5, x6⟩ := hw'; go_simp; (try with_reducible rfl)
  simp only [Act.put, pzA, pzB, pzC]
  refine held_takeK (v := ?_) 4 19 rfl rfl ⟨by rfl, ?_⟩ hSh0 ?_
  rotate_left
  ·intro w' hw'; obtain ⟨x0, x1, x2, x3, x4, x5, x6⟩ := hw'; go_simp; (try with_reducible rfl)
  simp only [Act.put, pzA, pzB, pzC]
  refine held_takeK (v := ?_) 5 20 rfl rfl ⟨by rfl, ?_⟩ hSh0 ?_
  rotate_left
  ·intro w' hw'; obtain ⟨x0, x1, x2, x3, x4, x5, x6⟩ := hw'; go_simp; (try with_reducible rfl)
  simp only [Act.put, pzA, pzB, pzC]
  refine held_takeK (v := ?_) 6 21 rfl rfl ⟨by rfl, ?_⟩ hSh0 ?_
  rotate_left
  ·intro w' hw'; obtain ⟨x0, x1, x2, x3, x4, x5, x6⟩ := hw'; go_simp; (try with_reducible rfl)
  simp only [Act.put, pzA, pzB, pzC]
  refine held_takeK (v := ?_) 7 22 rfl rfl ⟨by rfl, ?_⟩ hSh0 ?_
  rotate_left
  ·intro w' hw'; obtain ⟨x0, x1, x2, x3, x4, x5, x6⟩ := hw'; go_simp; (try with_reducible rfl)
  simp only [Act.put, pzA, pzB, pzC]
  refine held_takeK (v := ?_) 8 23 rfl rfl ⟨by rfl, ?_⟩ hSh0 ?_
  rotate_left
  ·intro w' hw'; obtain ⟨x0, x1, x2, x3, x4, x5, x6⟩ := hw'; go_simp; (try with_reducible rfl)
  simp only [Act.put, pzA, pzB, pzC]
  refine held_one 9 rfl (by kernel_rfl) (by rfl) (fun K hK => ?_)
  go_simp
  go_at_call 102
  refine (HM.out _).mono ?_
  rintro e wh1 ⟨rfl, hbh1⟩
  have hBh1 : Below w1.heap.size w1 wh1 := below_step hBh0 hbh1
  have hSh1 : (fun w' : World => w'.cell? ⟨p, 0, none⟩ = some (.slice (some ⟨g, 0, none⟩) n c) ∧ w'.cell? ⟨g, k * 4, none⟩ = some (.int .i64 mg) ∧ w'.cell? ⟨g, k * 4 + 1, none⟩ = some (.int .i64 mc) ∧ w'.cell? ⟨g, k * 4 + 2, none⟩ = some (.int .i64 ug) ∧ w'.cell? ⟨g, k * 4 + 3, none⟩ = some (.int .i64 uc) ∧ w'.cell? ⟨w.heap.size, 0, none⟩ = some (.int .i64 a) ∧ w'.cell? ⟨w.heap.size, 1, none⟩ = some (.int .i64 b)) wh1 := ⟨(hBh1.cell (p := ⟨p, 0, none⟩) (show p < w1.heap.size by omega)).trans c0, (hBh1.cell (p := ⟨g, k * 4, none⟩) (show g < w1.heap.size by omega)).trans d0, (hBh1.cell (p := ⟨g, k * 4 + 1, none⟩) (show g < w1.heap.size by omega)).trans d1, (hBh1.cell (p := ⟨g, k * 4 + 2, none⟩) (show g < w1.heap.size by omega)).trans d2, (hBh1.cell (p := ⟨g, k * 4 + 3, none⟩) (show g < w1.heap.size by omega)).trans d3, (hBh1.cell (p := ⟨w.heap.size, 0, none⟩) (show w.heap.size < w1.heap.size by omega)).trans e0, (hBh1.cell (p := ⟨w.heap.size, 1, none⟩) (show w.heap.size < w1.heap.size by omega)).trans e1⟩
  refine hK.out _ _ hSh1 ?_
  clear hK K
  refine held_takeK (v := ?_) 10 25 rfl rfl ⟨by rfl, ?_⟩ hSh1 ?_
  rotate_left
  ·intro w' hw'; obtain ⟨x0, x1, x2, x3, x4, x5, x6⟩ := hw'; go_simp; (try with_reducible rfl)
  simp only [Act.put, pzA, pzB, pzC]
  refine wpAnyH_done (by kernel_rfl) ?_ _
  have hB9 := HBw.out.1.trans (hBh1.mono hsz)
  have HS := Lib.hid hSh1
  have s9 := hBh1.size
  clear c0 d0 d1 d2 d3 e0 e1 f2 f3 y2 y3 HL hBh0 hBh1 hSh0 hSh1 hbh1
  have HP9 := Lib.hid (And.intro (HP.out.keep hB9) hB9)
  clear hB9
  obtain ⟨c0, d0, d1, d2, d3, e0, e1⟩ := HS.out
  obtain ⟨X, hX⟩ : ∃ X, X = ug - a := ⟨_, rfl⟩
  obtain ⟨Y, hY⟩ : ∃ Y, Y = uc - b := ⟨_, rfl⟩
  rw [← hX, ← hY] at HL2
  have HXY := Lib.hid (And.intro hX hY)
  clear hX hY
  go_wp2
  refine wp_until (fun w' : World => w'.cell? ⟨p, 0, none⟩ = some (.slice (some ⟨g, 0, none⟩) n c) ∧ w'.cell? ⟨g, k * 4, none⟩ = some (.int .i64 mg) ∧ w'.cell? ⟨g, k * 4 + 1, none⟩ = some (.int .i64 mc) ∧ w'.cell? ⟨g, k * 4 + 2, none⟩ = some (.int .i64 ug) ∧ w'.cell? ⟨g, k * 4 + 3, none⟩ = some (.int .i64 uc) ∧ w'.cell? ⟨w.heap.size, 0, none⟩ = some (.int .i64 a) ∧ w'.cell? ⟨w.heap.size, 1, none⟩ = some (.int .i64 b)) 17 (by kernel_rfl) ?_
  have hBz0 : Below wh1.heap.size wh1 wh1.drew := (Below.refl _ _).drew
  have hSz0 : (fun w' : World => w'.cell? ⟨p, 0, none⟩ = some (.slice (some ⟨g, 0, none⟩) n c) ∧ w'.cell? ⟨g, k * 4, none⟩ = some (.int .i64 mg) ∧ w'.cell? ⟨g, k * 4 + 1, none⟩ = some (.int .i64 mc) ∧ w'.cell? ⟨g, k * 4 + 2, none⟩ = some (.int .i64 ug) ∧ w'.cell? ⟨g, k * 4 + 3, none⟩ = some (.int .i64 uc) ∧ w'.cell? ⟨w.heap.size, 0, none⟩ = some (.int .i64 a) ∧ w'.cell? ⟨w.heap.size, 1, none⟩ = some (.int .i64 b)) wh1.drew := ⟨c0, d0, d1, d2, d3, e0, e1⟩
  refine until_take (v := ?_) 0 26 rfl rfl (by kernel_rfl) (by kernel_rfl) (by kernel_rfl) (by kernel_rfl) (fun _ _ _ h => h) ⟨by rfl, ?_⟩ hSz0 ?_
  rotate_left
  ·intro w' hw'; obtain ⟨x0, x1, x2, x3, x4, x5, x6⟩ := hw'; go_simp; (try with_reducible rfl)
  simp only [Act.put, pzA, pzB, pzC]
  refine until_take (v := ?_) 1 27 rfl rfl (by kernel_rfl) (by kernel_rfl) (by kernel_rfl) (by kernel_rfl) (fun _ _ _ h => h) ⟨by rfl, ?_⟩ hSz0 ?_
  rotate_left
  ·intro w' hw'; obtain ⟨x0, x1, x2, x3, x4, x5, x6⟩ := hw'; go_simp; (try with_reducible rfl)
  simp only [Act.put, pzA, pzB, pzC]
  refine until_take (v := ?_) 2 28 rfl rfl (by kernel_rfl) (by kernel_rfl) (by kernel_rfl) (by kernel_rfl) (fun _ _ _ h => h) ⟨by rfl, ?_⟩ hSz0 ?_
  rotate_left
  ·intro w' hw'; obtain ⟨x0, x1, x2, x3, x4, x5, x6⟩ := hw'; go_simp; (try with_reducible rfl)
  simp only [Act.put, pzA, pzB, pzC]
  refine until_take (v := ?_) 3 29 rfl rfl (by kernel_rfl) (by kernel_rfl) (by kernel_rfl) (by kernel_rfl) (fun _ _ _ h => h) ⟨by rfl, ?_⟩ hSz0 ?_
  rotate_left
  ·intro w' hw'; obtain ⟨x0, x1, x2, x3, x4, x5, x6⟩ := hw'; go_simp; (try with_reducible rfl)
  simp only [Act.put, pzA, pzB, pzC]
  refine until_take (v := ?_) 4 30 rfl rfl (by kernel_rfl) (by kernel_rfl) (by kernel_rfl) (by kernel_rfl) (fun _ _ _ h => h) ⟨by rfl, ?_⟩ hSz0 ?_
  rotate_left
  ·intro w' hw'; obtain ⟨x0, x1, x2, x3, x4, x5, x6⟩ := hw'; go_simp; (try with_reducible rfl)
  simp only [Act.put, pzA, pzB, pzC]
  refine until_take (v := ?_) 5 31 rfl rfl (by kernel_rfl) (by kernel_rfl) (by kernel_rfl) (by kernel_rfl) (fun _ _ _ h => h) ⟨by rfl, ?_⟩ hSz0 ?_
  rotate_left
  ·intro w' hw'; obtain ⟨x0, x1, x2, x3, x4, x5, x6⟩ := hw'; go_simp; (try with_reducible rfl)
  simp only [Act.put, pzA, pzB, pzC]
  refine until_take (v := ?_) 6 32 rfl rfl (by kernel_rfl) (by kernel_rfl) (by kernel_rfl) (by kernel_rfl) (fun _ _ _ h => h) ⟨by rfl, ?_⟩ hSz0 ?_
  rotate_left
  ·intro w' hw'; obtain ⟨x0, x1, x2, x3, x4, x5, x6⟩ := hw'; go_simp; (try with_reducible rfl)
  simp only [Act.put, pzA, pzB, pzC]
  refine until_take (v := ?_) 7 33 rfl rfl (by kernel_rfl) (by kernel_rfl) (by kernel_rfl) (by kernel_rfl) (fun _ _ _ h => h) ⟨by rfl, ?_⟩ hSz0 ?_
  rotate_left
  ·intro w' hw'; obtain ⟨x0, x1, x2, x3, x4, x5, x6⟩ := hw'; go_simp; (try with_reducible rfl)
  simp only [Act.put, pzA, pzB, pzC]
  refine until_take (v := ?_) 8 34 rfl rfl (by kernel_rfl) (by kernel_rfl) (by kernel_rfl) (by kernel_rfl) (fun _ _ _ h => h) ⟨by rfl, ?_⟩ hSz0 ?_
  rotate_left
  ·intro w' hw'; obtain ⟨x0, x1, x2, x3, x4, x5, x6⟩ := hw'; go_simp; (try with_reducible rfl)
  simp only [Act.put, pzA, pzB, pzC]
  refine until_take (v := ?_) 9 35 rfl rfl (by kernel_rfl) (by kernel_rfl) (by kernel_rfl) (by kernel_rfl) (fun _ _ _ h => h) ⟨by rfl, ?_⟩ hSz0 ?_
  rotate_left
  ·intro w' hw'; obtain ⟨x0, x1, x2, x3, x4, x5, x6⟩ := hw'; go_simp; (try with_reducible rfl)
  simp only [Act.put, pzA, pzB, pzC]
  refine until_take (v := ?_) 10 36 rfl rfl (by kernel_rfl) (by kernel_rfl) (by kernel_rfl) (by kernel_rfl) (fun _ _ _ h => h) ⟨by rfl, ?_⟩ hSz0 ?_
  rotate_left
  ·intro w' hw'; obtain ⟨x0, x1, x2, x3, x4, x5, x6⟩ := hw'; go_simp; (try with_reducible rfl)
  simp only [Act.put, pzA, pzB, pzC]
  refine until_take (v := ?_) 11 37 rfl rfl (by kernel_rfl) (by kernel_rfl) (by kernel_rfl) (by kernel_rfl) (fun _ _ _ h => h) ⟨by rfl, ?_⟩ hSz0 ?_
  rotate_left
  ·intro w' hw'; obtain ⟨x0, x1, x2, x3, x4, x5, x6⟩ := hw'; go_simp; (try with_reducible rfl)
  simp only [Act.put, pzA, pzB, pzC]
  refine until_take (v := ?_) 12 38 rfl rfl (by kernel_rfl) (by kernel_rfl) (by kernel_rfl) (by kernel_rfl) (fun _ _ _ h => h) ⟨by rfl, ?_⟩ hSz0 ?_
  rotate_left
  ·intro w' hw'; obtain ⟨x0, x1, x2, x3, x4, x5, x6⟩ := hw'; go_simp; (try with_reducible rfl)
  simp only [Act.put, pzA, pzB, pzC]
  refine until_take (v := ?_) 13 39 rfl rfl (by kernel_rfl) (by kernel_rfl) (by kernel_rfl) (by kernel_rfl) (fun _ _ _ h => h) ⟨by rfl, ?_⟩ hSz0 ?_
  rotate_left
  ·intro w' hw'; obtain ⟨x0, x1, x2, x3, x4, x5, x6⟩ := hw'; go_simp; (try with_reducible rfl)
  simp only [Act.put, pzA, pzB, pzC]
  refine until_one 14 rfl (by kernel_rfl) rfl (fun K hK => ?_)
  go_simp
  go_at_call 138
  refine (HL2.out _).mono ?_
  rintro e wz1 ⟨rfl, hbz1⟩
  have hBz1 : Below wh1.heap.size wh1 wz1 := below_step hBz0 hbz1
  have hSz1 : (fun w' : World => w'.cell? ⟨p, 0, none⟩ = some (.slice (some ⟨g, 0, none⟩) n c) ∧ w'.cell? ⟨g, k * 4, none⟩ = some (.int .i64 mg) ∧ w'.cell? ⟨g, k * 4 + 1, none⟩ = some (.int .i64 mc) ∧ w'.cell? ⟨g, k * 4 + 2, none⟩ = some (.int .i64 ug) ∧ w'.cell? ⟨g, k * 4 + 3, none⟩ = some (.int .i64 uc) ∧ w'.cell? ⟨w.heap.size, 0, none⟩ = some (.int .i64 a) ∧ w'.cell? ⟨w.heap.size, 1, none⟩ = some (.int .i64 b)) wz1 := ⟨(hBz1.cell (p := ⟨p, 0, none⟩) (show p < wh1.heap.size by omega)).trans c0, (hBz1.cell (p := ⟨g, k * 4, none⟩) (show g < wh1.heap.size by omega)).trans d0, (hBz1.cell (p := ⟨g, k * 4 + 1, none⟩) (show g < wh1.heap.size by omega)).trans d1, (hBz1.cell (p := ⟨g, k * 4 + 2, none⟩) (show g < wh1.heap.size by omega)).trans d2, (hBz1.cell (p := ⟨g, k * 4 + 3, none⟩) (show g < wh1.heap.size by omega)).trans d3, (hBz1.cell (p := ⟨w.heap.size, 0, none⟩) (show w.heap.size < wh1.heap.size by omega)).trans e0, (hBz1.cell (p := ⟨w.heap.size, 1, none⟩) (show w.heap.size < wh1.heap.size by omega)).trans e1⟩
  obtain ⟨_, _, _, _, f2, f3⟩ := (HP9.out.1.keep hBz1).cells HX.out.1
  have HBz := Lib.hid (HP9.out.2.trans (hBz1.mono HP9.out.2.size))
  refine hK.out _ _ (fun _ => hSz1) ?_
  clear hK K
  refine until_one 15 rfl (by kernel_rfl) rfl (fun K hK => ?_)
  go_simp
  refine hK.out _ _ (fun _ => hSz1) ?_
  clear hK K
  try simp only [Act.put, pzA, pzB, pzC]
  refine until_one 16 rfl (by kernel_rfl) rfl (fun K hK => ?_)
  go_simp
  refine hK.out _ _ (fun _ => hSz1) ?_
  clear hK K
  try simp only [Act.put, pzA, pzB, pzC]
  refine until_one 17 rfl (by kernel_rfl) rfl (fun K hK => ?_)
  obtain ⟨c0, d0, d1, d2, d3, e0, e1⟩ := hSz1
  go_simp
  refine hK.out _ _ (fun h => absurd h (by decide)) ?_
  clear hK K
  refine until_done (by kernel_rfl) ?_
  go_wp2
  go_ret
  have hft : Foot (· = g) w ((wz1.setCell ⟨g, k * 4 + 2, none⟩ (.int .i64 X)).setCell ⟨g, k * 4 + 3, none⟩ (.int .i64 Y)) := by
   refine Foot.setCell (p := ⟨g, _, none⟩) (Foot.setCell (p := ⟨g, _, none⟩) (Foot.of_below HBz.out) (.inl ?_) _) (.inl ?_) _ <;> rfl
  obtain ⟨rfl, rfl⟩ := HXY.out
  exact ⟨rfl, HP.out.wrote ⟨ug - a, uc - b⟩ HX.out.1 HBz.out ⟨HX.out.2.m, ⟨by simp only; omega, by simp only; omega⟩, ⟨by simp only; omega, by simp only; omega⟩⟩ hft rfl, hft⟩
end Go.Proofs.YtgpfmlidchogcaaGreat

set_option linter.unusedVariables false
namespace Go.Proofs.YtgpfmlidchogcaaGreat
open Go.RowKit

theorem pair_put2 {w w1 : World} {G : Nat} {v0 v1 : Value} (h1 : Below w.heap.size w w1) (hG : w.heap.size ≤ G) :
  Below w.heap.size w ((w1.setCell ⟨G, 0, none⟩ v0).setCell ⟨G, 1, none⟩ v1) := (h1.setCell (p := ⟨G, 0, none⟩) hG _).setCell (p := ⟨G, 1, none⟩) hG _
set_option maxHeartbeats 1000000 in
theorem left_q (p g c : Nat) (l : List Qa) (q : Int) (w : World) (h : QAt w p g c l) :
  Calls Tryz.prog 51 #[.pointer (some ⟨p, 0, none⟩), .int .i64 q] w fun e w' => e = .returned (.tuple #[unV (qLeft l q).1, .int .i64 (qLeft l q).2]) ∧ Below w.heap.size w w' := by
 have hB1 := (Below.refl w.heap.size w).alloc (Nat.le_refl _) (.cells #[.int .i64 0, .int .i64 0] 57)
 have hG := heap_alloc_new w (.cells #[.int .i64 0, .int .i64 0] 57)
 have hH := Lib.hid (hasq_any p g c l q _ (h.keep hB1))
 obtain ⟨R, hR⟩ : ∃ R, R = qLeft l q := ⟨_, rfl⟩
 rw [← hR]
 unfold qLeft at hR
 have HB := Lib.hid hB1
 have HG := Lib.hid hG
 obtain ⟨y0, y1, y2, y3, y4⟩ := pair_at hG
 cases hq : hasQ l q
 ·rw [hq] at hH
  rw [hq, if_pos rfl] at hR
  subst hR
  clear h hq hB1 hG
  simp only [unV] at *
  go_enter Tryz.func51, Tryz.ntmps51
  go_wp2_with (go_at_call 91; refine hH.out.mono ?_; rintro e w1 ⟨rfl, rfl⟩)
  refine bodyPost_ret (v := .tuple #[.agg #[.int .i64 0, .int .i64 0], .int .i64 3]) (by simp [results, Tryz.results51, go_sem, y0, y1]) rfl ?_
  exact ⟨rfl, HB.out⟩
 ·rw [hq] at hH
  rw [hq, if_neg (by simp)] at hR
  obtain ⟨k, x, rfl, hkl, hx⟩ := hasQ_at hq
  simp only [Int.toNat_natCast, hx] at hR
  subst hR
  have hL := Lib.hid (fun W => left_any x W (h.ok x (List.mem_of_getElem? hx)))
  obtain ⟨d0, d1, d2, d3, _, _⟩ := (h.keep hB1).cells hx
  have c0 := (h.keep hB1).head
  obtain ⟨n, hn⟩ : ∃ n, n = l.length := ⟨_, rfl⟩
  rw [← hn] at hkl c0
  have hfew := h.few
  rw [← hn] at hfew
  obtain ⟨⟨mg, mc⟩, ⟨ug, uc⟩⟩ := x
  simp only [unV, subU, qaV] at *
  obtain ⟨X, hX⟩ : ∃ X, X = mg - ug := ⟨_, rfl⟩
  obtain ⟨Y, hY⟩ : ∃ Y, Y = mc - uc := ⟨_, rfl⟩
  rw [← hX, ← hY] at hL ⊢
  clear h hq hB1 hG hX hY hx hn
  go_enter Tryz.func51, Tryz.ntmps51
  go_wp2_with (first
   | (go_at_call 91; refine hH.out.mono ?_; rintro e w1 ⟨rfl, rfl⟩)
   | (go_at_call 92; refine (hL.out _).mono ?_; rintro e w2 ⟨rfl, hb2⟩; obtain ⟨z0, z1, z2, z3, z4⟩ := pair_at ((hb2.block w.heap.size (by simp)).trans HG.out)))
  refine bodyPost_ret (v := .tuple #[.agg #[.int .i64 X, .int .i64 Y], .int .i64 0]) (by simp [results, Tryz.results51, go_sem, z0, z1]) rfl ?_
  exact ⟨rfl, pair_put2 (below_step HB.out hb2) (Nat.le_refl _)⟩
def uC (u : Un) : List Value := [.int .i64 u.g, .int .i64 u.c]
theorem uC_len (u : Un) : (uC u).length = 2 := rfl
theorem uC_one (u : Un) : ∀ v ∈ uC u, v.oneCell' = true := by
 intro v hv
 simp [uC] at hv
 rcases hv with rfl | rfl <;> rfl
abbrev Uns (w : World) (B : Nat) (A : Option Addr) (l : List Un) : Prop := Els uC 2 w B A l
theorem info_un : (Tryz.prog.info? 57).map (fun i => (i.zero, i.size, i.bytes)) = some (some (.agg #[.int .i64 0, .int .i64 0]), 2, 16) := by kernel_rfl
theorem info_acc : (Tryz.prog.info? 142).map (fun i => (i.zero, i.size, i.bytes)) = some (some (.agg #[.int .i64 0, .int .i64 0, .int .i64 0, .int .i64 0]), 4, 32) := by kernel_rfl
set_option maxRecDepth 100000 in
set_option maxHeartbeats 2000000 in
theorem used_q (p g c : Nat) (l : List Qa) (w : World) (h : QAt w p g c l) :
  Calls Tryz.prog 85 #[.pointer (some ⟨p, 0, none⟩)] w fun e w' => ∃ A c', e = .returned (.slice A l.length c') ∧ Uns w' w'.heap.size A (l.map (·.u)) ∧ (∀ b off, A = some ⟨b, off, none⟩ → w.heap.size ≤ b ∧ b < w'.heap.size) ∧ Below w.heap.size w w' := by
 have c0 := h.head
 obtain ⟨n, hn⟩ : ∃ n, n = l.length := ⟨_, rfl⟩
 have hfew := h.few
 rw [← hn] at c0 hfew ⊢
 have H := Lib.hid (And.intro h hn)
 obtain ⟨i0, hi, hz0, hz1, hz2⟩ := info_parts info_un
 clear h hn
 go_enter Tryz.func85, Tryz.ntmps85
 go_wp2_with fail
 go_loopw [3, 11] (fun v i wr => ∃ (k : Nat) (A : Option Addr) (cp : Nat), i = .int .i64 k ∧ v = .slice A k cp ∧ k ≤ n ∧ Hid (Below w.heap.size w wr ∧ wr.ownsRow w.heap.size 57 2 (.slice A k cp) k (((l.take k).map (·.u)).flatMap uC))) (fun _ i _ => n - (intOf i).toNat)
 case atStart => exact ⟨0, none, 0, rfl, rfl, by omega, Lib.hid ⟨Below.refl _ _, World.ownsRow_nil _ _ _ _⟩⟩
 case round =>
  obtain ⟨k, A, cp, rfl, rfl, hk, hin⟩ := hrel
  obtain ⟨hBl, hown⟩ := hin.out
  by_cases hlt : k < n
  ·obtain ⟨x, hx⟩ := get_lt (l := l) (k := k) (by rw [← H.out.2]; exact hlt)
   have hq := H.out.1.keep hBl
   obtain ⟨d0, d1, d2, d3, _, _⟩ := hq.cells hx
   have hsz := hBl.size
   have t0 : decide (k < n) = true := decide_eq_true hlt
   have hgl := hq.lt.2
   have N := Lib.hid (show ((l.take (k + 1)).map (·.u)).flatMap uC = ((l.take k).map (·.u)).flatMap uC ++ uC x.u by rw [take_next hx, List.map_append, List.flatMap_append]; simp)
   obtain ⟨⟨mg, mc⟩, ⟨ug, uc⟩⟩ := x
   simp only at d0 d1 d2 d3 N
   clear hx hq hin
   obtain ⟨W, hW⟩ : ∃ W, W = (wr.alloc (.cells #[.int .i64 mg, .int .i64 mc, .int .i64 ug, .int .i64 uc] 142)).alloc (.cells #[.int .i64 ug, .int .i64 uc] 57) := ⟨_, rfl⟩
   have hBW : Below wr.heap.size wr W := by rw [hW]; exact ((Below.refl _ _).alloc (Nat.le_refl _) _).alloc (by simp) _
   have hNW : W.heap[wr.heap.size + 1]? = some (.cells #[.int .i64 ug, .int .i64 uc] 57 (0, 0)) := by
    have := heap_alloc_new (wr.alloc (.cells #[.int .i64 mg, .int .i64 mc, .int .i64 ug, .int .i64 uc] 142)) (.cells #[.int .i64 ug, .int .i64 uc] 57)
    rw [World.size_alloc] at this
    rw [hW]; exact this
   have hWs : W.heap.size = wr.heap.size + 1 + 1 := by rw [hW]; simp
   have HW := Lib.hid (And.intro hBW (And.intro hNW (And.intro hWs (And.intro hBl (And.intro hown hW)))))
   clear hBW hNW hWs hBl hown hW
   go_wp2_with (at_builtin; refine wpList_append_lies _ rfl _ _ 25 rfl w.heap.size 57 i0 _ 2 16 Tryz.underlying25 hi hz0 hz1 hz2 rfl (by decide) (.slice A k cp) k (((l.take k).map (·.u)).flatMap uC) rfl (by have := own_keep HW.out.2.2.2.2.1 HW.out.1; rw [HW.out.2.2.2.2.2] at this; exact this) ⟨wr.heap.size + 1, 0, none⟩ 1 1 [.int .i64 ug, .int .i64 uc] rfl rfl (World.news_of_block (cs := #[.int .i64 ug, .int .i64 uc]) (t := 57) (fr := (0, 0)) (by have := HW.out.2.1; rw [HW.out.2.2.2.2.2] at this; exact this)) (by simp [Value.oneCell']) (by omega) (by unfold maxLen; omega) (by omega) (by simp; omega) (wr.heap.size + 1 + 1) (by simp) ?_; intro gg cap' w3 hown3 hgrow hat hlt3)
   have hB3 : Below w.heap.size w w3 := by
    have e := HW.out.2.2.2.2.2
    have h9 := HW.out.2.2.2.1.trans (HW.out.1.mono hsz)
    rw [e] at h9
    exact h9.grown hgrow (by simp; omega) (fun i e => (HW.out.2.2.2.2.1.lt i e).1)
   go_roundw
   case rel => exact ⟨k + 1, some ⟨gg, 0, none⟩, cap', by go_num, rfl, by omega, Lib.hid ⟨hB3, by rw [N.out]; exact hown3⟩⟩
   case measure => simp [intOf]; omega
  ·obtain rfl : k = n := by omega
   have e : l.take k = l := by rw [H.out.2]; exact List.take_length
   rw [e] at hown
   have OW := Lib.hid (And.intro hBl hown)
   clear hown hBl hlt e hin
   go_wp2
   go_ret
   obtain ⟨h1, h2⟩ := els_own uC_len OW.out.2 (by rw [List.length_map]; exact H.out.2.symm)
   exact ⟨A, cp, rfl, h1, h2, OW.out.1⟩
def newA (u : Un) : Qa := ⟨u, ⟨0, 0⟩⟩
def newL (l : List Un) : List Qa := l.map newA
def quotasOk (l : List Un) : Bool := decide (1 ≤ l.length) && decide (l.length ≤ 8) && l.all mayU
theorem quotasOk_iff {l : List Un} : quotasOk l = true ↔ 1 ≤ l.length ∧ l.length ≤ 8 ∧ l.all mayU = true := by
 unfold quotasOk; simp [Bool.and_eq_true, and_assoc]
theorem newA_ok {u : Un} (h : mayU u = true) : QaOk (newA u) := by
 obtain ⟨h1, h2, h3, h4⟩ := mayU_iff.1 h
 exact ⟨h, ⟨by simp [newA], by simpa [newA] using h1⟩, ⟨by simp [newA], by simpa [newA] using h3⟩⟩
theorem own_form {w : World} {B k n : Nat} {t : TypeId} {v : Value} {xs : List Value} (h : w.ownsRow B t k v n xs) : ∃ A c, v = .slice A n c := by
 rcases h.2 with ⟨rfl, h0⟩ | ⟨g, cap, cur, rfl, _⟩
 ·exact ⟨none, 0, by rw [h0]⟩
 ·exact ⟨_, _, rfl⟩
theorem QAt.made {w : World} {p n : Nat} {v : Value} {l : List Un} (hl : quotasOk l = true) (hn : l.length = n) (hp : w.heap[p]? = some (.cells #[v] 138 (0, 0))) (ho : w.ownsRow (p + 1) 142 4 v n ((newL l).flatMap qaC)) :
  ∃ g c, QAt w p g c (newL l) ∧ p < g := by
 obtain ⟨h1, h2, h3⟩ := quotasOk_iff.1 hl
 rcases ho.2 with ⟨rfl, h0⟩ | ⟨g, cap, cur, rfl, hg, hb, _, _, _, ht⟩
 ·omega
 ·refine ⟨g, cap, ⟨by unfold newL; rw [List.length_map]; exact h2, fun x hx => ?_, ?_, cur, hb, fun j v hj => ?_⟩, by omega⟩
  ·obtain ⟨u, hu, rfl⟩ := List.mem_map.1 hx
   exact newA_ok (List.all_eq_true.1 h3 u hu)
  ·unfold newL; rw [List.length_map, hn]; exact hp
  ·rw [← ht, List.getElem?_take] at hj
   split at hj
   ·simpa using hj
   ·cases hj
def NewQ (l : List Un) (w : World) (e : Ending) (w' : World) : Prop := Below w.heap.size w w' ∧ ((quotasOk l = false ∧ e = .returned (.tuple #[.pointer none, .int .i64 1])) ∨
 (quotasOk l = true ∧ ∃ p g c, e = .returned (.tuple #[.pointer (some ⟨p, 0, none⟩), .int .i64 0]) ∧ QAt w' p g c (newL l) ∧ w.heap.size ≤ p ∧ w.heap.size ≤ g))
set_option maxRecDepth 100000 in
set_option maxHeartbeats 4000000 in
theorem new_q (A : Option Addr) (cc B : Nat) (l : List Un) (w : World) (h : Uns w B A l) (hB : B ≤ w.heap.size) :
  Calls Tryz.prog 18 #[.slice A l.length cc] w fun e w' => NewQ l w e w' := by
 obtain ⟨n, hn⟩ : ∃ n, n = l.length := ⟨_, rfl⟩
 have H := Lib.hid (And.intro h hn)
 by_cases h1 : n < 1
 ·have t0 : decide (n < 1) = true := decide_eq_true h1
  have hq : quotasOk l = false := by unfold quotasOk; rw [decide_eq_false (by omega)]; rfl
  rw [← hn]
  clear h hn
  go_enter Tryz.func18, Tryz.ntmps18
  go_wp2
  go_ret2
  exact ⟨Below.refl _ _, .inl ⟨hq, rfl⟩⟩
 have t0 : decide (n < 1) = false := decide_eq_false h1
 by_cases h8 : 8 < n
 ·have t1 : decide (8 < n) = true := decide_eq_true h8
  have hq : quotasOk l = false := by unfold quotasOk; rw [decide_eq_false (show ¬ l.length ≤ 8 by omega)]; simp
  rw [← hn]
  clear h hn
  go_enter Tryz.func18, Tryz.ntmps18
  go_wp2
  go_ret2
  exact ⟨Below.refl _ _, .inl ⟨hq, rfl⟩⟩
 have t1 : decide (8 < n) = false := decide_eq_false h8
 obtain ⟨i0, hi, hz0, hz1, hz2⟩ := info_parts info_acc
 rw [← hn]
 have hM := Lib.hid (fun u W => maybe_any u W)
 obtain ⟨w1, hw1⟩ : ∃ w1, w1 = w.alloc (.cells #[.slice none 0 0] 138) := ⟨_, rfl⟩
 have hb1 : Below w.heap.size w w1 := by rw [hw1]; exact (Below.refl _ _).alloc (Nat.le_refl _) _
 have hp1 : w1.heap[w.heap.size]? = some (.cells #[.slice none 0 0] 138 (0, 0)) := by rw [hw1]; exact heap_alloc_new w _
 have hs1 : w1.heap.size = w.heap.size + 1 := by rw [hw1]; simp
 have H1 := Lib.hid (And.intro hb1 hp1)
 have HW := Lib.hid hw1
 clear h hn hb1 hp1 hw1
 go_enter Tryz.func18, Tryz.ntmps18
 go_wp2_with fail
 rw [← HW.out]
 go_loopw [19] (fun i wr => ∃ k : Nat, i = .int .i64 k ∧ k ≤ n ∧ w.heap.size < wr.heap.size ∧ Hid (Below w.heap.size w wr ∧ ∃ v, wr.heap[w.heap.size]? = some (.cells #[v] 138 (0, 0)) ∧ wr.ownsRow (w.heap.size + 1) 142 4 v k ((newL (l.take k)).flatMap qaC) ∧ (l.take k).all mayU = true)) (fun i _ => n - (intOf i).toNat)
 case atStart => exact ⟨0, rfl, by omega, by omega, Lib.hid ⟨H1.out.1, _, H1.out.2, World.ownsRow_nil _ _ _ _, rfl⟩⟩
 case round =>
  obtain ⟨k, rfl, hk, hsw, hin⟩ := hrel
  obtain ⟨hBl, v, hpb, hown, hall⟩ := hin.out
  by_cases hlt : k < n
  ·obtain ⟨⟨ug, uc⟩, hx⟩ := get_lt (l := l) (k := k) (by rw [← H.out.2]; exact hlt)
   obtain ⟨b, off, rfl, hb, hc⟩ := H.out.1.at_ hx
   have hcx := (hc k _ hx).keep hb (hBl.mono hB)
   have z0 : wr.cell? ⟨b, off + k * 2, none⟩ = some (.int .i64 ug) := hcx 0 _ rfl
   have z1 : wr.cell? ⟨b, off + k * 2 + 1, none⟩ = some (.int .i64 uc) := hcx 1 _ rfl
   have hbw : b < wr.heap.size := by omega
   have hMx := hM.out ⟨ug, uc⟩
   obtain ⟨m, hm⟩ : ∃ m, m = mayU ⟨ug, uc⟩ := ⟨_, rfl⟩
   rw [← hm] at hMx
   have HMx := Lib.hid hMx
   have t2 : decide (k < n) = true := decide_eq_true hlt
   obtain ⟨W, hW⟩ : ∃ W, W = wr.alloc (.cells #[.int .i64 ug, .int .i64 uc] 57) := ⟨_, rfl⟩
   have hBW : Below wr.heap.size wr W := by rw [hW]; exact (Below.refl _ _).alloc (Nat.le_refl _) _
   have hNW : W.heap[wr.heap.size]? = some (.cells #[.int .i64 ug, .int .i64 uc] 57 (0, 0)) := by rw [hW]; exact heap_alloc_new wr _
   have y0 : (wr.alloc (.cells #[.int .i64 ug, .int .i64 uc] 57)).cell? ⟨wr.heap.size, 0, none⟩ = some (.int .i64 ug) := by rw [← hW]; exact cell_blk (i := 0) hNW rfl
   have y1 : (wr.alloc (.cells #[.int .i64 ug, .int .i64 uc] 57)).cell? ⟨wr.heap.size, 1, none⟩ = some (.int .i64 uc) := by rw [← hW]; exact cell_blk (i := 1) hNW rfl
   have hWs : W.heap.size = wr.heap.size + 1 := by rw [hW]; simp
   have H2 := Lib.hid (And.intro hW (And.intro hBW (And.intro hNW (And.intro hBl (And.intro hpb (And.intro hown (And.intro hall (And.intro hx hm))))))))
   simp only [unV] at HMx
   clear hcx hc hx hin hMx hm hW hBW hNW hBl hpb hown hall
   cases m
   ·go_wp2_with (go_at_call 61; refine (HMx.out _).mono ?_; rintro e w2 ⟨rfl, hb2⟩)
    go_ret2
    obtain ⟨hW, hBW, hNW, hBl, hpb, hown, hall, hx, hm⟩ := H2.out
    refine ⟨?_, .inl ⟨?_, rfl⟩⟩
    ·rw [← hW] at hb2
     exact hBl.trans ((below_step hBW hb2).mono (by omega))
    ·unfold quotasOk; rw [all_no hx hm.symm]; simp
   ·go_wp2_with (go_at_call 61; refine (HMx.out _).mono ?_; rintro e w2 ⟨rfl, hb2⟩; have u0 := (hb2.cell (p := ⟨wr.heap.size, 0, none⟩) (by simp)).trans y0; have u1 := (hb2.cell (p := ⟨wr.heap.size, 1, none⟩) (by simp)).trans y1)
    obtain ⟨hW, hBW, hNW, hBl, hpb, hown, hall, hx, hm⟩ := H2.out
    rw [← hW] at hb2
    have hB2 : Below wr.heap.size wr w2 := below_step hBW hb2
    have hp2 := (hB2.block w.heap.size hsw).trans hpb
    have ho2 := own_keep hown hB2
    obtain ⟨A', cp, rfl⟩ := own_form ho2
    have c2 : w2.cell? ⟨w.heap.size, 0, none⟩ = some (.slice A' k cp) := cell_blk (i := 0) hp2 rfl
    have f2 : w2.frozen? ⟨w.heap.size, 0, none⟩ = false := frozen_blk hp2
    have hon : (Value.slice A' k cp).ownBlock ≠ some w.heap.size := fun e => by have := (ho2.lt _ e).1; omega
    have hos : (Value.slice A' k cp).ownBlock ≠ some wr.heap.size := fun e => by have := (hown.lt _ e).2; omega
    have hs2 : W.heap.size ≤ w2.heap.size := hb2.size
    have hm1 := hm.symm
    have hBw2 := hBl.trans (hB2.mono (by omega))
    have H3 := Lib.hid (And.intro hBw2 (And.intro hp2 (And.intro ho2 (And.intro hall (And.intro hx hm1)))))
    clear hW hBW hNW hBl hpb hown hall hx hm hB2 hp2 ho2 hb2 hm1 hBw2 z0 z1 y0 y1
    refine wp_until (fun w' : World => w'.cell? ⟨w.heap.size, 0, none⟩ = some (.slice A' k cp) ∧ w'.cell? ⟨wr.heap.size, 0, none⟩ = some (.int .i64 ug) ∧ w'.cell? ⟨wr.heap.size, 1, none⟩ = some (.int .i64 uc)) 12 (by kernel_rfl) ?_
    have hS : (fun w' : World => w'.cell? ⟨w.heap.size, 0, none⟩ = some (.slice A' k cp) ∧ w'.cell? ⟨wr.heap.size, 0, none⟩ = some (.int .i64 ug) ∧ w'.cell? ⟨wr.heap.size, 1, none⟩ = some (.int .i64 uc)) w2.drew := ⟨c2, u0, u1⟩
    have f4 : w2.drew.frozen? ⟨w.heap.size, 0, none⟩ = false := f2
    have H4 := Lib.hid (show Below w.heap.size w w2.drew ∧ w2.drew.heap[w.heap.size]? = some (.cells #[.slice A' k cp] 138 (0, 0)) ∧ w2.drew.ownsRow (w.heap.size + 1) 142 4 (.slice A' k cp) k ((newL (l.take k)).flatMap qaC) from ⟨H3.out.1.drew, H3.out.2.1, H3.out.2.2.1.drew⟩)
    have hs4 : W.heap.size ≤ w2.drew.heap.size := hs2
    clear c2 f2 u0 u1 hs2
    generalize w2.drew = w4 at hS f4 H4 hs4 ⊢
    refine until_take (v := ?_) 0 26 rfl rfl (by kernel_rfl) (by kernel_rfl) (by kernel_rfl) (by kernel_rfl) (fun _ _ _ h => h) ⟨by rfl, ?_⟩ hS ?_
    rotate_left
    ·intro w' hw'; obtain ⟨x0, x1, x2⟩ := hw'; go_simp; (try with_reducible rfl)
    simp only [Act.put, pzA, pzB, pzC]
    refine until_take (v := ?_) 1 27 rfl rfl (by kernel_rfl) (by kernel_rfl) (by kernel_rfl) (by kernel_rfl) (fun _ _ _ h => h) ⟨by rfl, ?_⟩ hS ?_
    rotate_left
    ·intro w' hw'; obtain ⟨x0, x1, x2⟩ := hw'; go_simp; (try with_reducible rfl)
    simp only [Act.put, pzA, pzB, pzC]
    refine until_take (v := ?_) 2 28 rfl rfl (by kernel_rfl) (by kernel_rfl) (by kernel_rfl) (by kernel_rfl) (fun _ _ _ h => h) ⟨by rfl, ?_⟩ hS ?_
    rotate_left
    ·intro w' hw'; obtain ⟨x0, x1, x2⟩ := hw'; go_simp; (try with_reducible rfl)
    simp only [Act.put, pzA, pzB, pzC]
    refine until_take (v := ?_) 3 29 rfl rfl (by kernel_rfl) (by kernel_rfl) (by kernel_rfl) (by kernel_rfl) (fun _ _ _ h => h) ⟨by rfl, ?_⟩ hS ?_
    rotate_left
    ·intro w' hw'; obtain ⟨x0, x1, x2⟩ := hw'; go_simp; (try with_reducible rfl)
    simp only [Act.put, pzA, pzB, pzC]
    refine until_take (v := ?_) 4 30 rfl rfl (by kernel_rfl) (by kernel_rfl) (by kernel_rfl) (by kernel_rfl) (fun _ _ _ h => h) ⟨by rfl, ?_⟩ hS ?_
    rotate_left
    ·intro w' hw'; obtain ⟨x0, x1, x2⟩ := hw'; go_simp; (try with_reducible rfl)
    simp only [Act.put, pzA, pzB, pzC]
    refine until_take (v := ?_) 5 31 rfl rfl (by kernel_rfl) (by kernel_rfl) (by kernel_rfl) (by kernel_rfl) (fun _ _ _ h => h) ⟨by rfl, ?_⟩ hS ?_
    rotate_left
    ·intro w' hw'; obtain ⟨x0, x1, x2⟩ := hw'; go_simp; (try with_reducible rfl)
    simp only [Act.put, pzA, pzB, pzC]
    refine until_take (v := ?_) 6 32 rfl rfl (by kernel_rfl) (by kernel_rfl) (by kernel_rfl) (by kernel_rfl) (fun _ _ _ h => h) ⟨by rfl, ?_⟩ hS ?_
    rotate_left
    ·intro w' hw'; obtain ⟨x0, x1, x2⟩ := hw'; go_simp; (try with_reducible rfl)
    simp only [Act.put, pzA, pzB, pzC]
    refine until_take (v := ?_) 7 33 rfl rfl (by kernel_rfl) (by kernel_rfl) (by kernel_rfl) (by kernel_rfl) (fun _ _ _ h => h) ⟨by rfl, ?_⟩ hS ?_
    rotate_left
    ·intro w' hw'; obtain ⟨x0, x1, x2⟩ := hw'; go_simp; (try with_reducible rfl)
    simp only [Act.put, pzA, pzB, pzC]
    refine until_one 8 rfl (by kernel_rfl) rfl (fun K hK => ?_)
    go_simp
    have hst := (Below.refl w4.heap.size w4).alloc (Nat.le_refl _) (.cells #[.int .i64 ug, .int .i64 uc, .int .i64 0, .int .i64 0] 142)
    have hS4 : (fun w' : World => w'.cell? ⟨w.heap.size, 0, none⟩ = some (.slice A' k cp) ∧ w'.cell? ⟨wr.heap.size, 0, none⟩ = some (.int .i64 ug) ∧ w'.cell? ⟨wr.heap.size, 1, none⟩ = some (.int .i64 uc)) (w4.alloc (.cells #[.int .i64 ug, .int .i64 uc, .int .i64 0, .int .i64 0] 142)) :=
     ⟨(hst.cell (p := ⟨w.heap.size, 0, none⟩) (show w.heap.size < _ by omega)).trans hS.1, (hst.cell (p := ⟨wr.heap.size, 0, none⟩) (show wr.heap.size < _ by omega)).trans hS.2.1, (hst.cell (p := ⟨wr.heap.size, 1, none⟩) (show wr.heap.size < _ by omega)).trans hS.2.2⟩
    refine hK.out _ _ (fun _ => hS4) ?_
    clear hK K
    refine until_one 9 rfl (by kernel_rfl) rfl (fun K hK => ?_)
    simp only [Go.wp_at_zero, Go.wp_at_succ]
    refine wp_append_lies _ _ _ 136 rfl (w.heap.size + 1) 142 i0 _ 4 32 Tryz.underlying136 hi hz0 hz1 hz2 rfl (by omega) (.slice A' k cp) k ((newL (l.take k)).flatMap qaC) rfl (H4.out.2.2.alloc _) ⟨w4.heap.size, 0, none⟩ 1 1 [.int .i64 ug, .int .i64 uc, .int .i64 0, .int .i64 0] rfl rfl (World.news_of_block (cs := #[.int .i64 ug, .int .i64 uc, .int .i64 0, .int .i64 0]) (t := 142) (fr := (0, 0)) (heap_alloc_new w4 _)) (by simp [Value.oneCell']) (by omega) (by unfold maxLen; omega) (by omega) (by simp; omega) (w4.heap.size + 1) (by simp) ?_
    intro gg cap' w5 hown5 hgrow hat hlt5
    have hS5 : (fun w' : World => w'.cell? ⟨w.heap.size, 0, none⟩ = some (.slice A' k cp) ∧ w'.cell? ⟨wr.heap.size, 0, none⟩ = some (.int .i64 ug) ∧ w'.cell? ⟨wr.heap.size, 1, none⟩ = some (.int .i64 uc)) w5 :=
     ⟨(hgrow.cell_far _ (by simp; omega) (Ne.symm hon)).trans hS4.1, (hgrow.cell_far _ (by simp; omega) (Ne.symm hos)).trans hS4.2.1, (hgrow.cell_far _ (by simp; omega) (Ne.symm hos)).trans hS4.2.2⟩
    have g4 := hS5.1
    have g5 : w5.frozen? ⟨w.heap.size, 0, none⟩ = false := (hgrow.frozen_far ⟨w.heap.size, 0, none⟩ (by simp; omega) (Ne.symm hon)).trans ((hst.frozen (p := ⟨w.heap.size, 0, none⟩) (show w.heap.size < _ by omega)).trans f4)
    refine hK.out _ _ (fun _ => hS5) ?_
    clear hK K
    simp only [Act.put, pzA, pzB, pzC]
    refine until_one 10 rfl (by kernel_rfl) rfl (fun K hK => ?_)
    go_simp
    refine hK.out _ _ (fun _ => hS5) ?_
    clear hK K
    refine until_one 11 rfl (by kernel_rfl) rfl (fun K hK => ?_)
    go_simp
    refine hK.out _ _ (fun _ => hS5) ?_
    clear hK K
    refine until_one 12 rfl (by kernel_rfl) rfl (fun K hK => ?_)
    go_simp
    refine hK.out _ _ (fun h => absurd h (by decide)) ?_
    clear hK K
    refine until_done (by kernel_rfl) ?_
    go_wp2
    go_roundw
    case rel =>
     obtain ⟨hBw2, hp2, ho2, hall, hx, hm1⟩ := H3.out
     have hgg := (hown5.lt gg rfl).1
     have hpb5 : w5.heap[w.heap.size]? = some (.cells #[.slice A' k cp] 138 (0, 0)) := (hgrow.block _ (by simp; omega) (Ne.symm hon)).trans ((Below.heap_alloc w4 _ _ (by omega)).trans H4.out.2.1)
     have hB5 : Below w.heap.size w w5 := (H4.out.1.alloc (by omega) _).grown hgrow (by simp; omega) (fun i e => by have := (ho2.lt i e).1; omega)
     have hs5 := hB5.size
     have hl5 := blk_lt hpb5
     refine ⟨k + 1, by go_num, by omega, by simp; omega, Lib.hid ⟨hB5.setCell (p := ⟨w.heap.size, 0, none⟩) (Nat.le_refl _) _, .slice (some ⟨gg, 0, none⟩) (k + 1) cap', ?_, ?_, all_next hx hall hm1⟩⟩
     ·have := blk_put (.slice (some ⟨gg, 0, none⟩) (k + 1) cap') (i := 0) hpb5
      simpa using this
     ·have e : (newL (l.take (k + 1))).flatMap qaC = (newL (l.take k)).flatMap qaC ++ [.int .i64 ug, .int .i64 uc, .int .i64 0, .int .i64 0] := by
       unfold newL; rw [take_next hx, List.map_append, List.flatMap_append]; simp [newA, qaC]
      rw [e]
      refine own_stays hown5 fun i hi => ?_
      have := (hown5.lt i hi).1
      exact Below.heap_setCell w5 ⟨w.heap.size, 0, none⟩ _ i (show i ≠ w.heap.size by omega)
    case measure => simp [intOf]; omega
  ·obtain rfl : k = n := by omega
   have HZ := Lib.hid (And.intro hBl (And.intro hpb (And.intro hown hall)))
   clear hBl hpb hown hall hlt hin
   go_wp2
   go_ret2
   obtain ⟨hBl, hpb, hown, hall⟩ := HZ.out
   have e : l.take k = l := by rw [H.out.2]; exact List.take_length
   rw [e] at hown hall
   have hq : quotasOk l = true := quotasOk_iff.2 ⟨by rw [← H.out.2]; omega, by rw [← H.out.2]; omega, hall⟩
   obtain ⟨g, c, hQ, hg⟩ := QAt.made hq H.out.2.symm hpb hown
   exact ⟨hBl, .inr ⟨hq, w.heap.size, g, c, rfl, hQ, Nat.le_refl _, by omega⟩⟩
end Go.Proofs.YtgpfmlidchogcaaGreat

set_option linter.unusedVariables false
set_option maxRecDepth 100000
namespace Go.Proofs.YtgpfmlidchogcaaGreat
open Go.ChangeShapes Go.WideShapes Go.ChangeAt Go.RowKit Go.Deep

def unSh : Sh := .struct (.cons (.int .i64) (.cons (.int .i64) .nil))
theorem un_lift {w : World} {B : Nat} {cs : List Value} (hl : cs.length = 2) (h : unSh.Holds w B cs) : ∃ u : Un, cs = uC u ∧ UnW u := by
 match cs, hl with
 | [a, b], _ =>
  simp [unSh, Sh.Holds, Sh.size] at h
  obtain ⟨⟨x, rfl, hx⟩, ⟨y, rfl, hy⟩⟩ := h
  exact ⟨⟨x, y⟩, rfl, ⟨hx, hy⟩⟩
structure Qc where
 sub : Bool
 q : Int
 u : Un
structure QcOk (x : Qc) : Prop where
 q : (Lit.int .i64 x.q).wf = true
 u : UnW x.u
section
variable {H : Type} {enc : TypeId × Value → H} {w : World} {held : Bool} {r : Reach} {b0 : Nat} {v : Value} {d : DataW H} {p : List MemPlace}
theorem uns_of (hv : Value.okWide Tryz.prog w r b0 25 v) (h : DataW.Trod enc Tryz.prog w 0 (fun _ => true) held 25 v d p) :
  ∃ (A : Option Addr) (c : Nat) (l : List Un), v = .slice A l.length c ∧ l.length ≤ c ∧ c ≤ maxLen ∧ Uns w w.heap.size A l ∧ ∀ a ∈ l, UnW a :=
 rows_of (e := unSh) (arg_slice (sh := .slice unSh) Tryz.underlying25 (by kernel_rfl) hv h) fun b o cs _ hl hat hh => by
  obtain ⟨u, e, hu⟩ := un_lift hl hh
  subst e
  exact ⟨u, hat, hu⟩
end
theorem unV_ne (u v : Un) (W : World) : (binOp .neq 57 (.agg #[.int .i64 u.g, .int .i64 u.c]) (.agg #[.int .i64 v.g, .int .i64 v.c])).run Tryz.prog W = .ok (.bool (!decide (u = v))) W := by
 obtain ⟨a, b⟩ := u
 obtain ⟨c, d⟩ := v
 go_simp
 by_cases h1 : a = c <;> by_cases h2 : b = d <;> simp [h1, h2]
set_option maxRecDepth 100000 in
set_option maxHeartbeats 1000000 in
theorem same_u (A A' : Option Addr) (c c' : Nat) (l l' : List Un) (w : World) (h : Uns w w.heap.size A l) (h' : Uns w w.heap.size A' l') (hn : l.length ≤ 1000) :
  Calls Tryz.prog 45 #[.slice A l.length c, .slice A' l'.length c'] w fun e w' => e = .returned (.bool (decide (l = l'))) ∧ Below w.heap.size w w' := by
 obtain ⟨R, hR⟩ : ∃ R, R = decide (l = l') := ⟨_, rfl⟩
 rw [← hR]
 obtain ⟨n, hln⟩ : ∃ n, n = l.length := ⟨_, rfl⟩
 obtain ⟨m, hlm⟩ : ∃ m, m = l'.length := ⟨_, rfl⟩
 have H := Lib.hid (And.intro hR (And.intro h (And.intro h' (And.intro hln hlm))))
 rw [← hln] at hn ⊢
 rw [← hlm]
 clear hR h h' hln hlm
 by_cases hnm : n = m
 ·subst hnm
  have t0 : ((n : Int) != (n : Int)) = false := by simp
  go_enter Tryz.func45, Tryz.ntmps45
  go_wp2
  go_loopw [5] (fun i wr => ∃ k : Nat, i = .int .i64 k ∧ k ≤ n ∧ Below w.heap.size w wr ∧ Hid (l.take k = l'.take k)) (fun i _ => n - (intOf i).toNat)
  case atStart => exact ⟨0, rfl, by omega, Below.refl _ _, Lib.hid rfl⟩
  case round =>
   obtain ⟨k, rfl, hk, hBl, hall⟩ := hrel
   by_cases hlt : k < n
   ·obtain ⟨u, hx⟩ := get_lt (l := l) (k := k) (by rw [← H.out.2.2.2.1]; exact hlt)
    obtain ⟨v, hy⟩ := get_lt (l := l') (k := k) (by rw [← H.out.2.2.2.2]; exact hlt)
    obtain ⟨b, off, rfl, hb, hc⟩ := H.out.2.1.at_ hx
    obtain ⟨b', off', rfl, hb', hc'⟩ := H.out.2.2.1.at_ hy
    have hcx := (hc k _ hx).keep hb hBl
    have hcy := (hc' k _ hy).keep hb' hBl
    have z0 : wr.cell? ⟨b, off + k * 2, none⟩ = some (.int .i64 u.g) := hcx 0 _ rfl
    have z1 : wr.cell? ⟨b, off + k * 2 + 1, none⟩ = some (.int .i64 u.c) := hcx 1 _ rfl
    have y0 : wr.cell? ⟨b', off' + k * 2, none⟩ = some (.int .i64 v.g) := hcy 0 _ rfl
    have y1 : wr.cell? ⟨b', off' + k * 2 + 1, none⟩ = some (.int .i64 v.c) := hcy 1 _ rfl
    have t1 : decide (k < n) = true := decide_eq_true hlt
    have hne := unV_ne u v
    have N := Lib.hid (And.intro hx hy)
    have HB := Lib.hid hBl
    by_cases e : u = v
    ·have e0 : decide (u = v) = true := decide_eq_true e
     rw [e0] at hne
     have E := Lib.hid e
     obtain ⟨ug, uc⟩ := u
     obtain ⟨vg, vc⟩ := v
     simp only at z0 z1 y0 y1 hne
     clear hc hc' hcx hcy hx hy hBl e e0
     go_wp2
     go_quiet (fail)
     go_wp2
     go_roundw
     case rel => exact ⟨k + 1, by go_num, by omega, below_drewN HB.out _, Lib.hid (by rw [take_next N.out.1, take_next N.out.2, hall.out, E.out])⟩
     case measure => simp [intOf]; omega
    ·have e0 : decide (u = v) = false := decide_eq_false e
     rw [e0] at hne
     have eR : R = false := by
      rw [H.out.1]; refine decide_eq_false fun e1 => e ?_
      rw [e1, hy] at hx; injection hx with hx; exact hx.symm
     subst eR
     obtain ⟨ug, uc⟩ := u
     obtain ⟨vg, vc⟩ := v
     simp only at z0 z1 y0 y1 hne
     clear hc hc' hcx hcy hx hy hBl e e0
     go_wp2
     go_quiet (fail)
     go_wp2
     go_ret
     exact ⟨rfl, below_drewN HB.out _⟩
   ·obtain rfl : k = n := by omega
    have eR : R = true := by
     have e := hall.out
     rw [H.out.1]; refine decide_eq_true ?_
     rw [H.out.2.2.2.1] at e
     rw [List.take_length, ← H.out.2.2.2.1, H.out.2.2.2.2, List.take_length] at e
     exact e
    subst eR
    have HB := Lib.hid hBl
    clear hlt hBl
    go_wp2
    go_ret
    exact ⟨rfl, HB.out⟩
 ·have eR : R = false := by
   rw [H.out.1]; refine decide_eq_false fun e => hnm ?_
   rw [H.out.2.2.2.1, H.out.2.2.2.2, e]
  subst eR
  have t0 : ((n : Int) != (m : Int)) = true := by simp; omega
  clear hnm
  go_enter Tryz.func45, Tryz.ntmps45
  go_wp2
  go_ret
  exact ⟨rfl, Below.refl _ _⟩
end Go.Proofs.YtgpfmlidchogcaaGreat

set_option linter.unusedVariables false
set_option maxRecDepth 100000
namespace Go.Proofs.YtgpfmlidchogcaaGreat
open Go.RowKit

structure QIn (w0 w : World) (p g c : Nat) (l : List Qa) : Prop where
 at_ : QAt w p g c l
 hp : w0.heap.size ≤ p
 hg : w0.heap.size ≤ g
 bel : Below w0.heap.size w0 w
theorem QIn.foot {w0 w w' : World} {p g c : Nat} {l l' : List Qa} (h : QIn w0 w p g c l) (h' : QAt w' p g c l') (hf : Foot (· = g) w w') : QIn w0 w' p g c l' :=
 ⟨h', h.hp, h.hg, h.bel.trans (hf.below h.bel.size fun i hi => by rw [hi]; exact h.hg)⟩
theorem QIn.keep {w0 w w' : World} {p g c : Nat} {l : List Qa} (h : QIn w0 w p g c l) (hb : Below w.heap.size w w') : QIn w0 w' p g c l :=
 ⟨h.at_.keep hb, h.hp, h.hg, h.bel.trans (hb.mono h.bel.size)⟩
theorem QIn.made {w0 w w' : World} {p g c : Nat} {l : List Qa} (hb : Below w0.heap.size w0 w) (h : QAt w' p g c l) (hp : w.heap.size ≤ p) (hg : w.heap.size ≤ g) (hb' : Below w.heap.size w w') : QIn w0 w' p g c l :=
 ⟨h, by have := hb.size; omega, by have := hb.size; omega, hb.trans (hb'.mono hb.size)⟩
theorem newL_m (l : List Un) : (newL l).map (·.m) = l := by
 unfold newL; rw [List.map_map]; conv => rhs; rw [← List.map_id l]
 rfl
theorem set_m {L : List Qa} {k : Nat} {x : Qa} (u : Un) (hx : L[k]? = some x) : (L.set k ⟨x.m, u⟩).map (·.m) = L.map (·.m) := by
 rw [List.map_set]
 refine List.ext_getElem? fun i => ?_
 by_cases e : k = i
 ·subst e
  have hk := (List.getElem?_eq_some_iff.1 hx).1
  rw [List.getElem?_set_self (by rw [List.length_map]; exact hk), List.getElem?_map, hx]; rfl
 ·rw [List.getElem?_set_ne e]
theorem qAdd_m (L : List Qa) (q : Int) (u : Un) : (qAdd L q u).2.map (·.m) = L.map (·.m) := by
 unfold qAdd
 split
 ·rfl
 split
 ·rfl
 split
 ·rfl
 ·rename_i x hx
  split
  ·rfl
  ·exact set_m _ hx
theorem qSub_m (L : List Qa) (q : Int) (u : Un) : (qSub L q u).2.map (·.m) = L.map (·.m) := by
 unfold qSub
 split
 ·rfl
 split
 ·rfl
 split
 ·rfl
 ·rename_i x hx
  split
  ·rfl
  ·exact set_m _ hx
end Go.Proofs.YtgpfmlidchogcaaGreat
