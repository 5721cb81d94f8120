/- Accounts of what queues use: what is meant, in plain words; the small functions. -/
import Derived.Deep.QuietTactic
import Derived.BigQuiet
import Derived.Deep.RegionWith
import Derived.Test.YtkhbbfpajiimaaaGreatLies
import Derived.Test.YtkhbbfpajiimaaaGreatFoot
import Derived.Test.YtkhbbfpajiimaaaGreatHeldOn
import Derived.Test.YtkhbbfpajiimaaaGreatProg
namespace Go.Proofs.YtkhbbfpajiimaaaGreat
open Go.RowKit

/-- Units of both kinds. -/
structure Un where
  g : Int
  c : Int
  deriving DecidableEq
def unV (u : Un) : Value := .agg #[.int .i64 u.g, .int .i64 u.c]
/-- They came in as numbers of 64 bits. -/
structure UnW (u : Un) : Prop where
  g : (Lit.int .i64 u.g).wf = true
  c : (Lit.int .i64 u.c).wf = true
/-- They may be. -/
def mayU (u : Un) : Bool := decide (0 ≤ u.g) && decide (u.g ≤ 1048576) && decide (0 ≤ u.c) && decide (u.c ≤ 1048576)
theorem mayU_iff {u : Un} : mayU u = true ↔ 0 ≤ u.g ∧ u.g ≤ 1048576 ∧ 0 ≤ u.c ∧ u.c ≤ 1048576 := by
  unfold mayU
  simp [Bool.and_eq_true, and_assoc]
def leU (u v : Un) : Bool := decide (u.g ≤ v.g) && decide (u.c ≤ v.c)
theorem leU_iff {u v : Un} : leU u v = true ↔ u.g ≤ v.g ∧ u.c ≤ v.c := by
  unfold leU
  simp [Bool.and_eq_true]
def addU (u v : Un) : Un := ⟨u.g + v.g, u.c + v.c⟩
def subU (u v : Un) : Un := ⟨u.g - v.g, u.c - v.c⟩

theorem atmost_any (a b : Int) (w : World) : Calls Tryz.prog 116 #[.int .i64 a, .int .i64 b] w fun e w' => e = .returned (.bool (decide (a ≤ b))) ∧ w = w' := by
  go_enter Tryz.func116, Tryz.ntmps116
  go_wp2
  go_ret
  exact ⟨rfl, rfl⟩
theorem atleast_any (a b : Int) (w : World) : Calls Tryz.prog 115 #[.int .i64 a, .int .i64 b] w fun e w' => e = .returned (.bool (decide (b ≤ a))) ∧ w = w' := by
  go_enter Tryz.func115, Tryz.ntmps115
  go_wp2
  go_ret
  exact ⟨rfl, rfl⟩
set_option maxHeartbeats 1000000 in
theorem most_any (u v : Un) (w : World) : Calls Tryz.prog 114 #[unV u, .func (.func 116) #[] #[], unV v] w fun e w' => e = .returned (.bool (leU u v)) ∧ Below w.heap.size w w' := by
  obtain ⟨a, b⟩ := u
  obtain ⟨c, d⟩ := v
  simp only [unV, leU]
  obtain ⟨x, hx⟩ : ∃ x, x = decide (a ≤ c) := ⟨_, rfl⟩
  have h1 := fun W => atmost_any a c W
  have h2 := Lib.hid (fun W => atmost_any b d W)
  rw [← hx] at h1 ⊢
  have h1 := Lib.hid h1
  have hB := ((Below.refl w.heap.size w).alloc (Nat.le_refl _) (.cells #[.int .i64 a, .int .i64 b] 58)).alloc (by simp) (.cells #[.int .i64 c, .int .i64 d] 58)
  cases x
  · clear hx
    go_enter Tryz.func114, Tryz.ntmps114
    go_wp2_with (go_at_call 116; refine (h1.out _).mono ?_; rintro e w' ⟨rfl, rfl⟩)
    go_ret
    exact ⟨rfl, hB⟩
  · clear hx
    go_enter Tryz.func114, Tryz.ntmps114
    go_wp2_with (first | (go_at_call 116; (with_reducible refine (h1.out _).mono ?_); rintro e w' ⟨rfl, rfl⟩) | (go_at_call 116; (with_reducible refine (h2.out _).mono ?_); rintro e w' ⟨rfl, rfl⟩))
    go_ret
    exact ⟨by simp, hB⟩
set_option maxHeartbeats 1000000 in
theorem least_any (u v : Un) (w : World) : Calls Tryz.prog 114 #[unV u, .func (.func 115) #[] #[], unV v] w fun e w' => e = .returned (.bool (leU v u)) ∧ Below w.heap.size w w' := by
  obtain ⟨a, b⟩ := u
  obtain ⟨c, d⟩ := v
  simp only [unV, leU]
  obtain ⟨x, hx⟩ : ∃ x, x = decide (c ≤ a) := ⟨_, rfl⟩
  have h1 := fun W => atleast_any a c W
  have h2 := Lib.hid (fun W => atleast_any b d W)
  rw [← hx] at h1 ⊢
  have h1 := Lib.hid h1
  have hB := ((Below.refl w.heap.size w).alloc (Nat.le_refl _) (.cells #[.int .i64 a, .int .i64 b] 58)).alloc (by simp) (.cells #[.int .i64 c, .int .i64 d] 58)
  cases x
  · clear hx
    go_enter Tryz.func114, Tryz.ntmps114
    go_wp2_with (go_at_call 115; refine (h1.out _).mono ?_; rintro e w' ⟨rfl, rfl⟩)
    go_ret
    exact ⟨rfl, hB⟩
  · clear hx
    go_enter Tryz.func114, Tryz.ntmps114
    go_wp2_with (first | (go_at_call 115; (with_reducible refine (h1.out _).mono ?_); rintro e w' ⟨rfl, rfl⟩) | (go_at_call 115; (with_reducible refine (h2.out _).mono ?_); rintro e w' ⟨rfl, rfl⟩))
    go_ret
    exact ⟨by simp, hB⟩
theorem maybe_any (u : Un) (w : World) : Calls Tryz.prog 77 #[unV u] w fun e w' => e = .returned (.bool (mayU u)) ∧ Below w.heap.size w w' := by
  have e0 : mayU u = (leU ⟨0, 0⟩ u && leU u ⟨1048576, 1048576⟩) := by
    unfold mayU leU
    cases decide (0 ≤ u.g) <;> cases decide (u.g ≤ 1048576) <;> cases decide (0 ≤ u.c) <;> cases decide (u.c ≤ 1048576) <;> rfl
  rw [e0]
  obtain ⟨x, hx⟩ : ∃ x, x = leU ⟨0, 0⟩ u := ⟨_, rfl⟩
  have h1 := fun W => least_any u ⟨0, 0⟩ W
  have h2 := Lib.hid (fun W => most_any u ⟨1048576, 1048576⟩ W)
  rw [← hx] at h1 ⊢
  have h1 := Lib.hid h1
  obtain ⟨a, b⟩ := u
  simp only [unV] at *
  have hB := Lib.hid ((Below.refl w.heap.size w).alloc (Nat.le_refl _) (.cells #[.int .i64 a, .int .i64 b] 58))
  have bU := heap_alloc_new w (.cells #[.int .i64 a, .int .i64 b] 58)
  have y0 : (w.alloc (.cells #[.int .i64 a, .int .i64 b] 58)).cell? ⟨w.heap.size, 0, none⟩ = some (.int .i64 a) := cell_blk (i := 0) bU rfl
  have y1 : (w.alloc (.cells #[.int .i64 a, .int .i64 b] 58)).cell? ⟨w.heap.size, 1, none⟩ = some (.int .i64 b) := cell_blk (i := 1) bU rfl
  clear e0 bU
  cases x
  · clear hx
    go_enter Tryz.func77, Tryz.ntmps77
    go_wp2_with (go_at_call 114; refine (h1.out _).mono ?_; rintro e w1 ⟨rfl, hb1⟩)
    go_ret
    exact ⟨rfl, below_step hB.out hb1⟩
  · clear hx
    go_enter Tryz.func77, Tryz.ntmps77
    go_wp2_with (first
      | (go_at_call 114; (with_reducible refine (h1.out _).mono ?_); rintro e w1 ⟨rfl, hb1⟩; have z0 := (hb1.cell (p := ⟨w.heap.size, 0, none⟩) (by simp)).trans y0; have z1 := (hb1.cell (p := ⟨w.heap.size, 1, none⟩) (by simp)).trans y1)
      | (go_at_call 114; (with_reducible refine (h2.out _).mono ?_); rintro e w2 ⟨rfl, hb2⟩))
    go_ret
    exact ⟨by simp, below_step (below_step hB.out hb1) hb2⟩
theorem less_any (u v : Un) (w : World) (h : 0 ≤ v.g ∧ v.g ≤ u.g ∧ u.g ≤ 1048576 ∧ 0 ≤ v.c ∧ v.c ≤ u.c ∧ u.c ≤ 1048576) : Calls Tryz.prog 146 #[unV u, unV v] w fun e w' => e = .returned (unV (subU u v)) ∧ Below w.heap.size w w' := by
  obtain ⟨a, b⟩ := u
  obtain ⟨c, d⟩ := v
  simp only [unV, subU] at *
  obtain ⟨h1, h2, h3, h4, h5, h6⟩ := h
  have hB := Lib.hid ((((Below.refl w.heap.size w).alloc (Nat.le_refl _) (.cells #[.int .i64 a, .int .i64 b] 58)).alloc (by simp) (.cells #[.int .i64 c, .int .i64 d] 58)))
  go_enter Tryz.func146, Tryz.ntmps146
  go_wp2
  refine bodyPost_ret (v := .agg #[.int .i64 (a - c), .int .i64 (b - d)]) (by simp [results, Tryz.results146, go_sem]) rfl ?_
  exact ⟨rfl, hB.out.alloc (by simp <;> omega) _⟩
/-- A queue's account: its quota, and what is used of it. -/
structure Qa where
  m : Un
  u : Un
def qaC (x : Qa) : List Value := [.int .i64 x.m.g, .int .i64 x.m.c, .int .i64 x.u.g, .int .i64 x.u.c]
def qaV (x : Qa) : Value := .agg #[.int .i64 x.m.g, .int .i64 x.m.c, .int .i64 x.u.g, .int .i64 x.u.c]
structure QaOk (x : Qa) : Prop where
  m : mayU x.m = true
  g : 0 ≤ x.u.g ∧ x.u.g ≤ x.m.g
  c : 0 ≤ x.u.c ∧ x.u.c ≤ x.m.c
/-- A block of two cells. -/
theorem pair_at {w : World} {G : Nat} {v0 v1 : Value} {t : TypeId} (h : w.heap[G]? = some (.cells #[v0, v1] t (0, 0))) :
    w.cell? ⟨G, 0, none⟩ = some v0 ∧ w.cell? ⟨G, 1, none⟩ = some v1 ∧ w.frozen? ⟨G, 0, none⟩ = false ∧ w.frozen? ⟨G, 1, none⟩ = false ∧ G < w.heap.size :=
  ⟨cell_blk (i := 0) h rfl, cell_blk (i := 1) h rfl, frozen_blk h, frozen_blk h, blk_lt h⟩
/-- A pair's two cells are written; all else is kept. -/
theorem pair_put {w W w1 : World} {G : Nat} {v0 v1 : Value} (hB : Below w.heap.size w W) (h1 : Below W.heap.size W w1) (hG : w.heap.size ≤ G) :
    Below w.heap.size w ((w1.setCell ⟨G, 0, none⟩ v0).setCell ⟨G, 1, none⟩ v1) := ((below_step hB h1).setCell (p := ⟨G, 0, none⟩) hG _).setCell (p := ⟨G, 1, none⟩) hG _
theorem without_any (x : Qa) (w : World) (h : QaOk x) : Calls Tryz.prog 136 #[unV x.m, unV x.u] w fun e w' => e = .returned (unV (subU x.m x.u)) ∧ Below w.heap.size w w' := by
  have hm := mayU_iff.1 h.m
  have hL := Lib.hid (fun W => less_any x.m x.u W ⟨h.g.1, h.g.2, hm.2.1, h.c.1, h.c.2, hm.2.2.2⟩)
  obtain ⟨⟨a, b⟩, ⟨c, d⟩⟩ := x
  simp only [unV, subU] at *
  obtain ⟨X, hX⟩ : ∃ X, X = a - c := ⟨_, rfl⟩
  obtain ⟨Y, hY⟩ : ∃ Y, Y = b - d := ⟨_, rfl⟩
  rw [← hX, ← hY] at hL ⊢
  have hB := Lib.hid ((((Below.refl w.heap.size w).alloc (Nat.le_refl _) (.cells #[.int .i64 a, .int .i64 b] 155)).alloc (by simp) (.cells #[.int .i64 c, .int .i64 d] 58)).alloc (by simp <;> omega) (.cells #[.int .i64 0, .int .i64 0] 58))
  have hG : (((w.alloc (.cells #[.int .i64 a, .int .i64 b] 155)).alloc (.cells #[.int .i64 c, .int .i64 d] 58)).alloc (.cells #[.int .i64 0, .int .i64 0] 58)).heap[w.heap.size + 1 + 1]? = some (.cells #[.int .i64 0, .int .i64 0] 58 (0, 0)) := by
    have := heap_alloc_new ((w.alloc (.cells #[.int .i64 a, .int .i64 b] 155)).alloc (.cells #[.int .i64 c, .int .i64 d] 58)) (.cells #[.int .i64 0, .int .i64 0] 58)
    simpa using this
  have HG := Lib.hid hG
  clear h hm hX hY hG
  go_enter Tryz.func136, Tryz.ntmps136
  go_wp2_with (go_at_call 146; refine (hL.out _).mono ?_; rintro e w1 ⟨rfl, hb1⟩; obtain ⟨y0, y1, y2, y3, y4⟩ := pair_at ((hb1.block (w.heap.size + 1 + 1) (by simp)).trans HG.out))
  refine bodyPost_ret (v := .agg #[.int .i64 X, .int .i64 Y]) (by simp [results, Tryz.results136, go_sem, y0, y1]) rfl ?_
  exact ⟨rfl, pair_put hB.out hb1 (by omega)⟩
theorem left_any (x : Qa) (w : World) (h : QaOk x) : Calls Tryz.prog 107 #[qaV x] w fun e w' => e = .returned (unV (subU x.m x.u)) ∧ Below w.heap.size w w' := by
  have hL := Lib.hid (fun W => without_any x W h)
  obtain ⟨⟨a, b⟩, ⟨c, d⟩⟩ := x
  simp only [unV, subU, qaV] at *
  obtain ⟨X, hX⟩ : ∃ X, X = a - c := ⟨_, rfl⟩
  obtain ⟨Y, hY⟩ : ∃ Y, Y = b - d := ⟨_, rfl⟩
  rw [← hX, ← hY] at hL ⊢
  have hB := Lib.hid (((Below.refl w.heap.size w).alloc (Nat.le_refl _) (.cells #[.int .i64 a, .int .i64 b, .int .i64 c, .int .i64 d] 157)).alloc (by simp <;> omega) (.cells #[.int .i64 0, .int .i64 0] 58))
  have hG : ((w.alloc (.cells #[.int .i64 a, .int .i64 b, .int .i64 c, .int .i64 d] 157)).alloc (.cells #[.int .i64 0, .int .i64 0] 58)).heap[w.heap.size + 1]? = some (.cells #[.int .i64 0, .int .i64 0] 58 (0, 0)) := by
    have := heap_alloc_new (w.alloc (.cells #[.int .i64 a, .int .i64 b, .int .i64 c, .int .i64 d] 157)) (.cells #[.int .i64 0, .int .i64 0] 58)
    simpa using this
  have HG := Lib.hid hG
  clear h hX hY hG
  go_enter Tryz.func107, Tryz.ntmps107
  go_wp2_with (go_at_call 136; refine (hL.out _).mono ?_; rintro e w1 ⟨rfl, hb1⟩; obtain ⟨y0, y1, y2, y3, y4⟩ := pair_at ((hb1.block (w.heap.size + 1) (by simp)).trans HG.out))
  refine bodyPost_ret (v := .agg #[.int .i64 X, .int .i64 Y]) (by simp [results, Tryz.results107, go_sem, y0, y1]) rfl ?_
  exact ⟨rfl, pair_put hB.out hb1 (by omega)⟩
/-- The accounts in memory: block p is the object, block g its row. -/
structure QAt (w : World) (p g c : Nat) (l : List Qa) : Prop where
  few : l.length ≤ 8
  ok : ∀ x ∈ l, QaOk x
  obj : w.heap[p]? = some (.cells #[.slice (some ⟨g, 0, none⟩) l.length c] 153 (0, 0))
  row : ∃ cur, w.heap[g]? = some (.cells cur 157 (0, 0)) ∧ ∀ (j : Nat) v, (l.flatMap qaC)[j]? = some v → cur[j]? = some v
theorem qaC_len (l : List Qa) : (l.flatMap qaC).length = l.length * 4 := by
  induction l with
  | nil => rfl
  | cons x l ih => rw [List.flatMap_cons, List.length_append, ih]; simp [qaC]; omega
theorem qa_flat : ∀ {l : List Qa} {i r : Nat} {x : Qa}, l[i]? = some x → r < 4 → (l.flatMap qaC)[i * 4 + r]? = (qaC x)[r]?
  | [], _, _, _, h, _ => by simp at h
  | y :: l, 0, r, x, h, hr => by
    simp at h; subst h
    rw [List.flatMap_cons, Nat.zero_mul, Nat.zero_add, List.getElem?_append_left (by simp [qaC]; omega)]
  | y :: l, i + 1, r, x, h, hr => by
    have ih := qa_flat (l := l) (i := i) (r := r) (x := x) (by simpa using h) hr
    rw [List.flatMap_cons, show (i + 1) * 4 + r = (qaC y).length + (i * 4 + r) by simp [qaC]; omega, List.getElem?_append_right (by omega), Nat.add_sub_cancel_left, ih]
section
variable {w w' : World} {p g c : Nat} {l : List Qa}
theorem QAt.lt (h : QAt w p g c l) : p < w.heap.size ∧ g < w.heap.size := by
  obtain ⟨cur, h1, _⟩ := h.row
  exact ⟨blk_lt h.obj, blk_lt h1⟩
theorem QAt.ne (h : QAt w p g c l) : p ≠ g := fun e => by
  obtain ⟨cur, h1, _⟩ := h.row
  have h2 := h.obj
  subst e; rw [h1] at h2; injection h2 with h2; injection h2 with _ ht; exact absurd ht (by decide)
theorem QAt.off (h : QAt w p g c l) (hk : ∀ i, i < w.heap.size → (i = p ∨ i = g) → w'.heap[i]? = w.heap[i]?) : QAt w' p g c l := by
  obtain ⟨l1, l2⟩ := h.lt
  obtain ⟨cur, h1, h2⟩ := h.row
  exact ⟨h.few, h.ok, (hk p l1 (.inl rfl)).trans h.obj, cur, (hk g l2 (.inr rfl)).trans h1, h2⟩
theorem QAt.keep (h : QAt w p g c l) (hk : Below w.heap.size w w') : QAt w' p g c l := h.off fun i hi _ => hk.block i hi
theorem QAt.foot {F : Nat → Prop} (h : QAt w p g c l) (hk : Foot F w w') (hF : ∀ i, F i → i ≠ p ∧ i ≠ g) : QAt w' p g c l := h.off fun i hi ht => hk.block i hi fun hf => by
  obtain ⟨a, b⟩ := hF i hf
  rcases ht with e | e
  · exact a e
  · exact b e
theorem QAt.head (h : QAt w p g c l) : w.cell? ⟨p, 0, none⟩ = some (.slice (some ⟨g, 0, none⟩) l.length c) := cell_blk (i := 0) h.obj rfl
theorem QAt.cells (h : QAt w p g c l) {i : Nat} {x : Qa} (hx : l[i]? = some x) :
    w.cell? ⟨g, i * 4, none⟩ = some (.int .i64 x.m.g) ∧ w.cell? ⟨g, i * 4 + 1, none⟩ = some (.int .i64 x.m.c) ∧ w.cell? ⟨g, i * 4 + 2, none⟩ = some (.int .i64 x.u.g) ∧ w.cell? ⟨g, i * 4 + 3, none⟩ = some (.int .i64 x.u.c) ∧ w.frozen? ⟨g, i * 4 + 2, none⟩ = false ∧ w.frozen? ⟨g, i * 4 + 3, none⟩ = false := by
  obtain ⟨cur, h1, h2⟩ := h.row
  have hc : ∀ r u, r < 4 → (qaC x)[r]? = some u → w.cell? ⟨g, i * 4 + r, none⟩ = some u := fun r u hr hu => cell_blk h1 (h2 _ _ (by rw [qa_flat hx hr, hu]))
  exact ⟨hc 0 _ (by omega) rfl, hc 1 _ (by omega) rfl, hc 2 _ (by omega) rfl, hc 3 _ (by omega) rfl, frozen_blk h1, frozen_blk h1⟩
end
def hasQ (l : List Qa) (q : Int) : Bool := decide (0 ≤ q) && decide (q < (l.length : Int))
/-- What Add answers, and leaves. -/
def qAdd (l : List Qa) (q : Int) (u : Un) : Int × List Qa :=
  if hasQ l q = false then (3, l) else if mayU u = false then (1, l) else match l[q.toNat]? with
  | none => (3, l)
  | some x => if leU u (subU x.m x.u) = false then (6, l) else (0, l.set q.toNat ⟨x.m, addU x.u u⟩)
/-- What Sub answers, and leaves. -/
def qSub (l : List Qa) (q : Int) (u : Un) : Int × List Qa :=
  if hasQ l q = false then (3, l) else if mayU u = false then (1, l) else match l[q.toNat]? with
  | none => (3, l)
  | some x => if leU u x.u = false then (13, l) else (0, l.set q.toNat ⟨x.m, subU x.u u⟩)
theorem hasq_any (p g c : Nat) (l : List Qa) (q : Int) (w : World) (h : QAt w p g c l) :
    Calls Tryz.prog 106 #[.pointer (some ⟨p, 0, none⟩), .int .i64 q] w fun e w' => e = .returned (.bool (hasQ l q)) ∧ w = w' := by
  have c0 := h.head
  unfold hasQ
  obtain ⟨n, hn⟩ : ∃ n, n = l.length := ⟨_, rfl⟩
  rw [← hn] at c0 ⊢
  clear h hn
  by_cases h0 : 0 ≤ q
  · have t0 : decide (0 ≤ q) = true := decide_eq_true h0
    rw [t0, Bool.true_and]
    go_enter Tryz.func106, Tryz.ntmps106
    go_wp2
    go_ret
    exact ⟨rfl, rfl⟩
  · have t0 : decide (0 ≤ q) = false := decide_eq_false h0
    rw [t0, Bool.false_and]
    go_enter Tryz.func106, Tryz.ntmps106
    go_wp2
    go_ret
    exact ⟨rfl, rfl⟩
def checkQ (l : List Qa) (q : Int) (u : Un) : Int := if hasQ l q = false then 3 else if mayU u = false then 1 else 0
theorem check_any (p g c : Nat) (l : List Qa) (q : Int) (u : Un) (w : World) (h : QAt w p g c l) :
    Calls Tryz.prog 139 #[.pointer (some ⟨p, 0, none⟩), .int .i64 q, unV u] w fun e w' => e = .returned (.int .i64 (checkQ l q u)) ∧ Below w.heap.size w w' := by
  have hB := (Below.refl w.heap.size w).alloc (Nat.le_refl _) (.cells #[.int .i64 u.g, .int .i64 u.c] 58)
  have hH := Lib.hid (hasq_any p g c l q _ (h.keep hB))
  have hM := Lib.hid (fun W => maybe_any u W)
  unfold checkQ
  obtain ⟨x, hx⟩ : ∃ x, x = hasQ l q := ⟨_, rfl⟩
  obtain ⟨y, hy⟩ : ∃ y, y = mayU u := ⟨_, rfl⟩
  rw [← hx] at hH ⊢
  rw [← hy] at hM ⊢
  obtain ⟨a, b⟩ := u
  simp only [unV] at *
  clear hx hy h
  cases x
  · go_enter Tryz.func139, Tryz.ntmps139
    go_wp2_with (go_at_call 106; refine hH.out.mono ?_; rintro e w1 ⟨rfl, rfl⟩)
    go_ret
    exact ⟨rfl, hB⟩
  · cases y
    all_goals
      go_enter Tryz.func139, Tryz.ntmps139
      go_wp2_with (first | (go_at_call 106; refine hH.out.mono ?_; rintro e w1 ⟨rfl, rfl⟩) | (go_at_call 77; refine (hM.out _).mono ?_; rintro e w2 ⟨rfl, hb2⟩))
      go_ret
      exact ⟨rfl, below_step hB hb2⟩
def qLeft (l : List Qa) (q : Int) : Un × Int := if hasQ l q = false then (⟨0, 0⟩, 3) else match l[q.toNat]? with
  | none => (⟨0, 0⟩, 3)
  | some x => (subU x.m x.u, 0)
end Go.Proofs.YtkhbbfpajiimaaaGreat
