/- Is it a view? find, Right of the document, few of the laws. -/
import Derived.Deep.QuietTactic
import Derived.BigQuiet
import Derived.Laws.StructEq
import Derived.Test.YteflblcbmkcidaaDoorPackAwake
namespace Go.Proofs.YteflblcbmkcidaaDoor
open Go.RowKit
/-- Where a spot is among these. -/
def findL (l : List Fe) (n d : Int) : Int := match l.findIdx? (fun f => f.n == n && f.d == d) with
  | some i => i
  | none => -1
theorem findL_none {l : List Fe} {n d : Int} (h : ∀ f ∈ l, ¬ (f.n = n ∧ f.d = d)) : findL l n d = -1 := by
  unfold findL
  rw [List.findIdx?_eq_none_iff.2 (fun f hf => by simpa using h f hf)]
theorem findL_some {l : List Fe} {n d : Int} {i : Nat} {f : Fe} (hi : l[i]? = some f) (hf : f.n = n ∧ f.d = d) (h : ∀ j g, j < i → l[j]? = some g → ¬ (g.n = n ∧ g.d = d)) : findL l n d = i := by
  unfold findL
  have : l.findIdx? (fun f => f.n == n && f.d == d) = some i := by
    obtain ⟨hil, rfl⟩ := List.getElem?_eq_some_iff.1 hi
    rw [List.findIdx?_eq_some_iff_getElem]
    refine ⟨hil, by simpa using hf, fun j hj => ?_⟩
    have := h j _ hj (List.getElem?_eq_getElem (by omega))
    simpa using this
  rw [this]
theorem spot_other (a b n d : Int) (h : ¬ (a = n ∧ b = d)) (W : World) : (binOp .eql 38 (.agg #[.int .i64 a, .int .i64 b]) (.agg #[.int .i64 n, .int .i64 d])).run Tryd.prog W = .ok (.bool false) W := by
  by_cases e : a = n
  · subst e
    have t2 : (b == d) = false := beq_eq_false_iff_ne.2 fun e2 => h ⟨rfl, e2⟩
    go_simp
  · have t2 : (a == n) = false := beq_eq_false_iff_ne.2 e
    go_simp
set_option maxRecDepth 100000 in
set_option maxHeartbeats 1000000 in
theorem find_any (A : Option Addr) (cap B : Nat) (l : List Fe) (n d : Int) (w : World) (h : Fes w B A l) (hB : B ≤ w.heap.size) (hn : l.length ≤ 500000) :
    Calls Tryd.prog 20 #[.slice A l.length cap, .agg #[.int .i64 n, .int .i64 d]] w fun e w' => e = .returned (.int .i64 (findL l n d)) ∧ Below w.heap.size w w' := by
  obtain ⟨q, hq⟩ : ∃ q, l.length = q := ⟨_, rfl⟩
  obtain ⟨R, hR⟩ : ∃ R, R = findL l n d := ⟨_, rfl⟩
  obtain ⟨w1, hw1⟩ : ∃ W, W = w.alloc (.cells #[.int .i64 n, .int .i64 d] 38) := ⟨_, rfl⟩
  have hB1 : Below w.heap.size w w1 := by rw [hw1]; exact (Below.refl w.heap.size w).alloc (Nat.le_refl _) _
  have bX : w1.heap[w.heap.size]? = some (.cells #[.int .i64 n, .int .i64 d] 38 (0, 0)) := by rw [hw1]; exact heap_alloc_new w _
  have H := Lib.hid (And.intro h (And.intro hq (And.intro hR (And.intro hB1 bX))))
  have HW := Lib.hid hw1
  rw [hq] at hn ⊢
  rw [← hR]
  clear h hq hR hw1 hB1 bX
  go_enter Tryd.func20, Tryd.ntmps20
  go_wp2_with fail
  rw [← HW.out]
  go_loopw [5] (fun i wr => ∃ k : Nat, i = .int .i64 k ∧ k ≤ q ∧ Hid (∃ m, wr = w1.drewN m) ∧ Hid (∀ j g, j < k → l[j]? = some g → ¬ (g.n = n ∧ g.d = d))) (fun i _ => q - (intOf i).toNat)
  case atStart => exact ⟨0, rfl, by omega, Lib.hid ⟨0, rfl⟩, Lib.hid (fun j g hj => by omega)⟩
  case round =>
    obtain ⟨k, rfl, hk, hW, hN⟩ := hrel
    by_cases hlt : k < q
    · obtain ⟨f, hx⟩ := get_lt (l := l) (k := k) (by rw [H.out.2.1]; exact hlt)
      obtain ⟨b, off, rfl, hb, hc⟩ := H.out.1.at_ hx
      obtain ⟨f0, f1, f2, f3⟩ := (hc k f hx).keep (B := w.heap.size) (by omega) H.out.2.2.2.1
      have c0 : wr.cell? ⟨b, off + k * 4, none⟩ = some (.int .i64 f.n) := by obtain ⟨m, e⟩ := hW.out; rw [e]; exact f0
      have c1 : wr.cell? ⟨b, off + k * 4 + 1, none⟩ = some (.int .i64 f.d) := by obtain ⟨m, e⟩ := hW.out; rw [e]; exact f1
      have x0 : wr.cell? ⟨w.heap.size, 0, none⟩ = some (.int .i64 n) := by obtain ⟨m, e⟩ := hW.out; rw [e]; exact cell_blk (i := 0) H.out.2.2.2.2 rfl
      have x1 : wr.cell? ⟨w.heap.size, 1, none⟩ = some (.int .i64 d) := by obtain ⟨m, e⟩ := hW.out; rw [e]; exact cell_blk (i := 1) H.out.2.2.2.2 rfl
      have j1 : (k : Int) < (q : Int) := by omega
      have t1 : decide (k < q) = true := decide_eq_true hlt
      obtain ⟨fn, fd, fm, fc⟩ := f
      simp only at c0 c1
      clear f0 f1 f2 f3 hc hb
      by_cases he : fn = n ∧ fd = d
      · have HE := Lib.hid (findL_some hx he hN.out)
        obtain ⟨rfl, rfl⟩ := he
        have eR : R = k := by rw [H.out.2.2.1]; exact HE.out
        subst eR
        have HB : Hid (Below w.heap.size w wr) := Lib.hid (by obtain ⟨m, e⟩ := hW.out; rw [e]; exact ⟨H.out.2.2.2.1.os, H.out.2.2.2.1.tape, H.out.2.2.2.1.output, H.out.2.2.2.1.size, H.out.2.2.2.1.block⟩)
        clear hx
        go_wp2_with fail
        go_quiet (fail)
        go_wp2
        go_ret
        have h9 := HB.out
        exact ⟨rfl, h9.os, h9.tape, h9.output, h9.size, h9.block⟩
      · have HN : Hid (∀ j g, j < k + 1 → l[j]? = some g → ¬ (g.n = n ∧ g.d = d)) := Lib.hid (fun j g hj hg => by
          rcases Nat.lt_or_eq_of_le (Nat.le_of_lt_succ hj) with h | h
          · exact hN.out j g h hg
          · subst h; rw [hx] at hg; cases hg; exact he)
        have hne := fun W => spot_other fn fd n d he W
        clear hx
        go_wp2_with fail
        go_quiet (fail)
        have hW2 : Hid (∃ m, wr.drewN nq = w1.drewN m) := Lib.hid (by obtain ⟨m, e⟩ := hW.out; exact ⟨m + nq, by rw [e, World.drewN_drewN]⟩)
        clear c0 c1 x0 x1 hne hW hN
        generalize wr.drewN nq = W2 at hW2 ⊢
        go_wp2
        go_roundw
        case rel => exact ⟨k + 1, by go_num, by omega, hW2, HN⟩
        case measure => simp [intOf]; omega
    · obtain rfl : k = q := by omega
      have eR : R = -1 := by
        rw [H.out.2.2.1]
        refine findL_none fun f hf => ?_
        obtain ⟨i, hi⟩ := List.mem_iff_getElem?.1 hf
        exact hN.out i f (by have := (List.getElem?_eq_some_iff.1 hi).1; have := H.out.2.1; omega) hi
      subst eR
      have HB : Hid (Below w.heap.size w wr) := Lib.hid (by obtain ⟨m, e⟩ := hW.out; rw [e]; exact ⟨H.out.2.2.2.1.os, H.out.2.2.2.1.tape, H.out.2.2.2.1.output, H.out.2.2.2.1.size, H.out.2.2.2.1.block⟩)
      have t1 : decide (k < k) = false := decide_eq_false (by omega)
      clear hlt hN hW
      go_wp2
      go_ret
      exact ⟨rfl, HB.out⟩
def cpuOk (f : Fe) : Bool := decide (0 ≤ f.c ∧ f.c ≤ 1048576)
/-- Is the k-th as a view asks it? -/
def okAt (l : List Fe) (k : Nat) : Bool := match l[k]? with
  | none => true
  | some f => cpuOk f && decide (findL (l.take k) f.n f.d < 0)
def rightL (l : List Fe) : Bool := (List.range l.length).all (okAt l)
theorem right_no {l : List Fe} {k : Nat} (hk : k < l.length) (h : okAt l k = false) : rightL l = false := by
  unfold rightL
  rw [← Bool.not_eq_true, List.all_eq_true]
  intro ha
  rw [ha k (by simpa using hk)] at h; cases h
theorem right_yes {l : List Fe} (h : ∀ k, k < l.length → okAt l k = true) : rightL l = true := by
  unfold rightL
  rw [List.all_eq_true]
  exact fun k hk => h k (by simpa using hk)
theorem Below.drew2 {B : Nat} {a w : World} (h : Below B a w) : Below B a w.drew := h.drew
set_option maxRecDepth 100000 in
set_option maxHeartbeats 4000000 in
theorem right_any (A : Option Addr) (cap B : Nat) (l : List Fe) (w : World) (h : Fes w B A l) (hB : B ≤ w.heap.size) (hn : l.length ≤ 100000) (hcap : l.length ≤ cap) :
    Calls Tryd.prog 11 #[.slice A l.length cap] w fun e w' => e = .returned (.bool (rightL l)) ∧ Below w.heap.size w w' := by
  obtain ⟨q, hq⟩ : ∃ q, l.length = q := ⟨_, rfl⟩
  obtain ⟨R, hR⟩ : ∃ R, R = rightL l := ⟨_, rfl⟩
  have H := Lib.hid (And.intro h (And.intro hq hR))
  have HB0 := Lib.hid (Below.refl w.heap.size w)
  rw [hq] at hn hcap ⊢
  rw [← hR]
  clear h hq hR
  go_enter Tryd.func11, Tryd.ntmps11
  go_wp2
  go_loopw [3] (fun i wr => ∃ k : Nat, i = .int .i64 k ∧ k ≤ q ∧ Hid (Below w.heap.size w wr) ∧ Hid (∀ j, j < k → okAt l j = true)) (fun i _ => q - (intOf i).toNat)
  case atStart => exact ⟨0, rfl, by omega, HB0, Lib.hid (fun j hj => by omega)⟩
  case round =>
    clear HB0
    obtain ⟨k, rfl, hk, hBw, hN⟩ := hrel
    have hBs := hBw.out.size
    by_cases hlt : k < q
    · obtain ⟨f, hx⟩ := get_lt (l := l) (k := k) (by rw [H.out.2.1]; exact hlt)
      obtain ⟨b, off, rfl, hb, hc⟩ := H.out.1.at_ hx
      obtain ⟨c0, c1, c2, c3⟩ := (hc k f hx).keep (B := w.heap.size) (by omega) hBw.out
      have j1 : (k : Int) < (q : Int) := by omega
      have t1 : decide (k < q) = true := decide_eq_true hlt
      have HBd := Lib.hid hb
      have hbw : b < wr.heap.size := by omega
      have HX := Lib.hid (And.intro hx hc)
      clear hx hc c2
      by_cases hA : f.c < 0
      · have t2 : decide (f.c < 0) = true := decide_eq_true hA
        have eR : R = false := by
          rw [H.out.2.2]
          exact right_no (k := k) (by rw [H.out.2.1]; exact hlt) (by unfold okAt; rw [HX.out.1]; unfold cpuOk; simp only; rw [decide_eq_false (by omega)]; rfl)
        subst eR
        go_wp2_with fail
        refine held_begin (fun w' : World => w'.cell? ⟨b, off + k * 4, none⟩ = some (.int .i64 f.n) ∧ w'.cell? ⟨b, off + k * 4 + 1, none⟩ = some (.int .i64 f.d) ∧ w'.cell? ⟨b, off + k * 4 + 3, none⟩ = some (.int .i64 f.c)) (by kernel_rfl) ?_
        have hBa0 : Below wr.heap.size wr wr.drew := (Below.refl _ _).drew
        have hSa0 : (fun w' : World => w'.cell? ⟨b, off + k * 4, none⟩ = some (.int .i64 f.n) ∧ w'.cell? ⟨b, off + k * 4 + 1, none⟩ = some (.int .i64 f.d) ∧ w'.cell? ⟨b, off + k * 4 + 3, none⟩ = some (.int .i64 f.c)) wr.drew := ⟨c0, c1, c3⟩
        refine held_take (v := ?_) 0 10 rfl rfl (by kernel_rfl) (by kernel_rfl) (by kernel_rfl) (fun _ _ _ h => h) ⟨by rfl, ?_⟩ hSa0 ?_
        rotate_left
        · intro w' hw'; obtain ⟨x0, x1, x2⟩ := hw'; go_simp; (try with_reducible rfl)
        simp only [Act.put, List.setIfInBounds_toArray, List.set_cons_zero, List.set_cons_succ]
        refine held_take (v := ?_) 1 11 rfl rfl (by kernel_rfl) (by kernel_rfl) (by kernel_rfl) (fun _ _ _ h => h) ⟨by rfl, ?_⟩ hSa0 ?_
        rotate_left
        · intro w' hw'; obtain ⟨x0, x1, x2⟩ := hw'; go_simp; (try with_reducible rfl)
        simp only [Act.put, List.setIfInBounds_toArray, List.set_cons_zero, List.set_cons_succ]
        refine held_take (v := ?_) 2 12 rfl rfl (by kernel_rfl) (by kernel_rfl) (by kernel_rfl) (fun _ _ _ h => h) ⟨by rfl, ?_⟩ hSa0 ?_
        rotate_left
        · intro w' hw'; obtain ⟨x0, x1, x2⟩ := hw'; go_simp; (try with_reducible rfl)
        simp only [Act.put, List.setIfInBounds_toArray, List.set_cons_zero, List.set_cons_succ]
        refine held_take (v := ?_) 3 13 rfl rfl (by kernel_rfl) (by kernel_rfl) (by kernel_rfl) (fun _ _ _ h => h) ⟨by rfl, ?_⟩ hSa0 ?_
        rotate_left
        · intro w' hw'; obtain ⟨x0, x1, x2⟩ := hw'; go_simp; (try with_reducible rfl)
        simp only [Act.put, List.setIfInBounds_toArray, List.set_cons_zero, List.set_cons_succ]
        refine held_take (v := ?_) 4 14 rfl rfl (by kernel_rfl) (by kernel_rfl) (by kernel_rfl) (fun _ _ _ h => h) ⟨by rfl, ?_⟩ hSa0 ?_
        rotate_left
        · intro w' hw'; obtain ⟨x0, x1, x2⟩ := hw'; go_simp; (try with_reducible rfl)
        simp only [Act.put, List.setIfInBounds_toArray, List.set_cons_zero, List.set_cons_succ]
        refine held_take (v := ?_) 5 15 rfl rfl (by kernel_rfl) (by kernel_rfl) (by kernel_rfl) (fun _ _ _ h => h) ⟨by rfl, ?_⟩ hSa0 ?_
        rotate_left
        · intro w' hw'; obtain ⟨x0, x1, x2⟩ := hw'; go_simp; (try with_reducible rfl)
        simp only [Act.put, List.setIfInBounds_toArray, List.set_cons_zero, List.set_cons_succ]
        refine held_take (v := ?_) 6 16 rfl rfl (by kernel_rfl) (by kernel_rfl) (by kernel_rfl) (fun _ _ _ h => h) ⟨by rfl, ?_⟩ hSa0 ?_
        rotate_left
        · intro w' hw'; obtain ⟨x0, x1, x2⟩ := hw'; go_simp; (try with_reducible rfl)
        simp only [Act.put, List.setIfInBounds_toArray, List.set_cons_zero, List.set_cons_succ]
        refine held_skip 7 17 rfl rfl (by kernel_rfl) (by kernel_rfl) (by kernel_rfl) (fun _ _ _ h => h) (by rfl) hSa0 ?_
        simp only [Act.put, List.setIfInBounds_toArray, List.set_cons_zero, List.set_cons_succ]
        refine held_skip 8 18 rfl rfl (by kernel_rfl) (by kernel_rfl) (by kernel_rfl) (fun _ _ _ h => h) (by rfl) hSa0 ?_
        simp only [Act.put, List.setIfInBounds_toArray, List.set_cons_zero, List.set_cons_succ]
        refine held_skip 9 19 rfl rfl (by kernel_rfl) (by kernel_rfl) (by kernel_rfl) (fun _ _ _ h => h) (by rfl) hSa0 ?_
        simp only [Act.put, List.setIfInBounds_toArray, List.set_cons_zero, List.set_cons_succ]
        refine held_skip 10 20 rfl rfl (by kernel_rfl) (by kernel_rfl) (by kernel_rfl) (fun _ _ _ h => h) (by rfl) hSa0 ?_
        simp only [Act.put, List.setIfInBounds_toArray, List.set_cons_zero, List.set_cons_succ]
        refine held_skip 11 21 rfl rfl (by kernel_rfl) (by kernel_rfl) (by kernel_rfl) (fun _ _ _ h => h) (by rfl) hSa0 ?_
        simp only [Act.put, List.setIfInBounds_toArray, List.set_cons_zero, List.set_cons_succ]
        refine held_skip 12 22 rfl rfl (by kernel_rfl) (by kernel_rfl) (by kernel_rfl) (fun _ _ _ h => h) (by rfl) hSa0 ?_
        simp only [Act.put, List.setIfInBounds_toArray, List.set_cons_zero, List.set_cons_succ]
        refine held_take (v := ?_) 13 23 rfl rfl (by kernel_rfl) (by kernel_rfl) (by kernel_rfl) (fun _ _ _ h => h) ⟨by rfl, ?_⟩ hSa0 ?_
        rotate_left
        · intro w' hw'; obtain ⟨x0, x1, x2⟩ := hw'; go_simp; (try with_reducible rfl)
        simp only [Act.put, List.setIfInBounds_toArray, List.set_cons_zero, List.set_cons_succ]
        refine held_take (v := ?_) 14 24 rfl rfl (by kernel_rfl) (by kernel_rfl) (by kernel_rfl) (fun _ _ _ h => h) ⟨by rfl, ?_⟩ hSa0 ?_
        rotate_left
        · intro w' hw'; obtain ⟨x0, x1, x2⟩ := hw'; go_simp; (try with_reducible rfl)
        simp only [Act.put, List.setIfInBounds_toArray, List.set_cons_zero, List.set_cons_succ]
        refine held_skip 15 25 rfl rfl (by kernel_rfl) (by kernel_rfl) (by kernel_rfl) (fun _ _ _ h => h) (by rfl) hSa0 ?_
        simp only [Act.put, List.setIfInBounds_toArray, List.set_cons_zero, List.set_cons_succ]
        refine held_skip 16 26 rfl rfl (by kernel_rfl) (by kernel_rfl) (by kernel_rfl) (fun _ _ _ h => h) (by rfl) hSa0 ?_
        simp only [Act.put, List.setIfInBounds_toArray, List.set_cons_zero, List.set_cons_succ]
        refine held_skip 17 27 rfl rfl (by kernel_rfl) (by kernel_rfl) (by kernel_rfl) (fun _ _ _ h => h) (by rfl) hSa0 ?_
        simp only [Act.put, List.setIfInBounds_toArray, List.set_cons_zero, List.set_cons_succ]
        refine held_skip 18 28 rfl rfl (by kernel_rfl) (by kernel_rfl) (by kernel_rfl) (fun _ _ _ h => h) (by rfl) hSa0 ?_
        simp only [Act.put, List.setIfInBounds_toArray, List.set_cons_zero, List.set_cons_succ]
        refine held_skip 19 29 rfl rfl (by kernel_rfl) (by kernel_rfl) (by kernel_rfl) (fun _ _ _ h => h) (by rfl) hSa0 ?_
        simp only [Act.put, List.setIfInBounds_toArray, List.set_cons_zero, List.set_cons_succ]
        refine held_skip 20 30 rfl rfl (by kernel_rfl) (by kernel_rfl) (by kernel_rfl) (fun _ _ _ h => h) (by rfl) hSa0 ?_
        simp only [Act.put, List.setIfInBounds_toArray, List.set_cons_zero, List.set_cons_succ]
        refine held_skip 21 31 rfl rfl (by kernel_rfl) (by kernel_rfl) (by kernel_rfl) (fun _ _ _ h => h) (by rfl) hSa0 ?_
        simp only [Act.put, List.setIfInBounds_toArray, List.set_cons_zero, List.set_cons_succ]
        refine held_skip 22 32 rfl rfl (by kernel_rfl) (by kernel_rfl) (by kernel_rfl) (fun _ _ _ h => h) (by rfl) hSa0 ?_
        simp only [Act.put, List.setIfInBounds_toArray, List.set_cons_zero, List.set_cons_succ]
        refine held_skip 23 33 rfl rfl (by kernel_rfl) (by kernel_rfl) (by kernel_rfl) (fun _ _ _ h => h) (by rfl) hSa0 ?_
        simp only [Act.put, List.setIfInBounds_toArray, List.set_cons_zero, List.set_cons_succ]
        refine held_skip 24 34 rfl rfl (by kernel_rfl) (by kernel_rfl) (by kernel_rfl) (fun _ _ _ h => h) (by rfl) hSa0 ?_
        simp only [Act.put, List.setIfInBounds_toArray, List.set_cons_zero, List.set_cons_succ]
        refine held_take (v := ?_) 25 35 rfl rfl (by kernel_rfl) (by kernel_rfl) (by kernel_rfl) (fun _ _ _ h => h) ⟨by rfl, ?_⟩ hSa0 ?_
        rotate_left
        · intro w' hw'; obtain ⟨x0, x1, x2⟩ := hw'; go_simp; (try with_reducible rfl)
        simp only [Act.put, List.setIfInBounds_toArray, List.set_cons_zero, List.set_cons_succ]
        refine wpAnyH_done (by kernel_rfl) ?_ _
        clear hBa0 hSa0
        go_wp2
        go_ret
        exact ⟨rfl, hBw.out.drew⟩
      by_cases hB2 : 1048576 < f.c
      · have t2 : decide (f.c < 0) = false := decide_eq_false hA
        have t3 : decide (1048576 < f.c) = true := decide_eq_true hB2
        have eR : R = false := by
          rw [H.out.2.2]
          exact right_no (k := k) (by rw [H.out.2.1]; exact hlt) (by unfold okAt; rw [HX.out.1]; unfold cpuOk; simp only; rw [decide_eq_false (by omega)]; rfl)
        subst eR
        go_wp2_with fail
        refine held_begin (fun w' : World => w'.cell? ⟨b, off + k * 4, none⟩ = some (.int .i64 f.n) ∧ w'.cell? ⟨b, off + k * 4 + 1, none⟩ = some (.int .i64 f.d) ∧ w'.cell? ⟨b, off + k * 4 + 3, none⟩ = some (.int .i64 f.c)) (by kernel_rfl) ?_
        have hBb0 : Below wr.heap.size wr wr.drew := (Below.refl _ _).drew
        have hSb0 : (fun w' : World => w'.cell? ⟨b, off + k * 4, none⟩ = some (.int .i64 f.n) ∧ w'.cell? ⟨b, off + k * 4 + 1, none⟩ = some (.int .i64 f.d) ∧ w'.cell? ⟨b, off + k * 4 + 3, none⟩ = some (.int .i64 f.c)) wr.drew := ⟨c0, c1, c3⟩
        refine held_take (v := ?_) 0 10 rfl rfl (by kernel_rfl) (by kernel_rfl) (by kernel_rfl) (fun _ _ _ h => h) ⟨by rfl, ?_⟩ hSb0 ?_
        rotate_left
        · intro w' hw'; obtain ⟨x0, x1, x2⟩ := hw'; go_simp; (try with_reducible rfl)
        simp only [Act.put, List.setIfInBounds_toArray, List.set_cons_zero, List.set_cons_succ]
        refine held_take (v := ?_) 1 11 rfl rfl (by kernel_rfl) (by kernel_rfl) (by kernel_rfl) (fun _ _ _ h => h) ⟨by rfl, ?_⟩ hSb0 ?_
        rotate_left
        · intro w' hw'; obtain ⟨x0, x1, x2⟩ := hw'; go_simp; (try with_reducible rfl)
        simp only [Act.put, List.setIfInBounds_toArray, List.set_cons_zero, List.set_cons_succ]
        refine held_take (v := ?_) 2 12 rfl rfl (by kernel_rfl) (by kernel_rfl) (by kernel_rfl) (fun _ _ _ h => h) ⟨by rfl, ?_⟩ hSb0 ?_
        rotate_left
        · intro w' hw'; obtain ⟨x0, x1, x2⟩ := hw'; go_simp; (try with_reducible rfl)
        simp only [Act.put, List.setIfInBounds_toArray, List.set_cons_zero, List.set_cons_succ]
        refine held_take (v := ?_) 3 13 rfl rfl (by kernel_rfl) (by kernel_rfl) (by kernel_rfl) (fun _ _ _ h => h) ⟨by rfl, ?_⟩ hSb0 ?_
        rotate_left
        · intro w' hw'; obtain ⟨x0, x1, x2⟩ := hw'; go_simp; (try with_reducible rfl)
        simp only [Act.put, List.setIfInBounds_toArray, List.set_cons_zero, List.set_cons_succ]
        refine held_take (v := ?_) 4 14 rfl rfl (by kernel_rfl) (by kernel_rfl) (by kernel_rfl) (fun _ _ _ h => h) ⟨by rfl, ?_⟩ hSb0 ?_
        rotate_left
        · intro w' hw'; obtain ⟨x0, x1, x2⟩ := hw'; go_simp; (try with_reducible rfl)
        simp only [Act.put, List.setIfInBounds_toArray, List.set_cons_zero, List.set_cons_succ]
        refine held_take (v := ?_) 5 15 rfl rfl (by kernel_rfl) (by kernel_rfl) (by kernel_rfl) (fun _ _ _ h => h) ⟨by rfl, ?_⟩ hSb0 ?_
        rotate_left
        · intro w' hw'; obtain ⟨x0, x1, x2⟩ := hw'; go_simp; (try with_reducible rfl)
        simp only [Act.put, List.setIfInBounds_toArray, List.set_cons_zero, List.set_cons_succ]
        refine held_take (v := ?_) 6 16 rfl rfl (by kernel_rfl) (by kernel_rfl) (by kernel_rfl) (fun _ _ _ h => h) ⟨by rfl, ?_⟩ hSb0 ?_
        rotate_left
        · intro w' hw'; obtain ⟨x0, x1, x2⟩ := hw'; go_simp; (try with_reducible rfl)
        simp only [Act.put, List.setIfInBounds_toArray, List.set_cons_zero, List.set_cons_succ]
        refine held_take (v := ?_) 7 17 rfl rfl (by kernel_rfl) (by kernel_rfl) (by kernel_rfl) (fun _ _ _ h => h) ⟨by rfl, ?_⟩ hSb0 ?_
        rotate_left
        · intro w' hw'; obtain ⟨x0, x1, x2⟩ := hw'; go_simp; (try with_reducible rfl)
        simp only [Act.put, List.setIfInBounds_toArray, List.set_cons_zero, List.set_cons_succ]
        refine held_take (v := ?_) 8 18 rfl rfl (by kernel_rfl) (by kernel_rfl) (by kernel_rfl) (fun _ _ _ h => h) ⟨by rfl, ?_⟩ hSb0 ?_
        rotate_left
        · intro w' hw'; obtain ⟨x0, x1, x2⟩ := hw'; go_simp; (try with_reducible rfl)
        simp only [Act.put, List.setIfInBounds_toArray, List.set_cons_zero, List.set_cons_succ]
        refine held_take (v := ?_) 9 19 rfl rfl (by kernel_rfl) (by kernel_rfl) (by kernel_rfl) (fun _ _ _ h => h) ⟨by rfl, ?_⟩ hSb0 ?_
        rotate_left
        · intro w' hw'; obtain ⟨x0, x1, x2⟩ := hw'; go_simp; (try with_reducible rfl)
        simp only [Act.put, List.setIfInBounds_toArray, List.set_cons_zero, List.set_cons_succ]
        refine held_take (v := ?_) 10 20 rfl rfl (by kernel_rfl) (by kernel_rfl) (by kernel_rfl) (fun _ _ _ h => h) ⟨by rfl, ?_⟩ hSb0 ?_
        rotate_left
        · intro w' hw'; obtain ⟨x0, x1, x2⟩ := hw'; go_simp; (try with_reducible rfl)
        simp only [Act.put, List.setIfInBounds_toArray, List.set_cons_zero, List.set_cons_succ]
        refine held_take (v := ?_) 11 21 rfl rfl (by kernel_rfl) (by kernel_rfl) (by kernel_rfl) (fun _ _ _ h => h) ⟨by rfl, ?_⟩ hSb0 ?_
        rotate_left
        · intro w' hw'; obtain ⟨x0, x1, x2⟩ := hw'; go_simp; (try with_reducible rfl)
        simp only [Act.put, List.setIfInBounds_toArray, List.set_cons_zero, List.set_cons_succ]
        refine held_take (v := ?_) 12 22 rfl rfl (by kernel_rfl) (by kernel_rfl) (by kernel_rfl) (fun _ _ _ h => h) ⟨by rfl, ?_⟩ hSb0 ?_
        rotate_left
        · intro w' hw'; obtain ⟨x0, x1, x2⟩ := hw'; go_simp; (try with_reducible rfl)
        simp only [Act.put, List.setIfInBounds_toArray, List.set_cons_zero, List.set_cons_succ]
        refine held_take (v := ?_) 13 23 rfl rfl (by kernel_rfl) (by kernel_rfl) (by kernel_rfl) (fun _ _ _ h => h) ⟨by rfl, ?_⟩ hSb0 ?_
        rotate_left
        · intro w' hw'; obtain ⟨x0, x1, x2⟩ := hw'; go_simp; (try with_reducible rfl)
        simp only [Act.put, List.setIfInBounds_toArray, List.set_cons_zero, List.set_cons_succ]
        refine held_take (v := ?_) 14 24 rfl rfl (by kernel_rfl) (by kernel_rfl) (by kernel_rfl) (fun _ _ _ h => h) ⟨by rfl, ?_⟩ hSb0 ?_
        rotate_left
        · intro w' hw'; obtain ⟨x0, x1, x2⟩ := hw'; go_simp; (try with_reducible rfl)
        simp only [Act.put, List.setIfInBounds_toArray, List.set_cons_zero, List.set_cons_succ]
        refine held_skip 15 25 rfl rfl (by kernel_rfl) (by kernel_rfl) (by kernel_rfl) (fun _ _ _ h => h) (by rfl) hSb0 ?_
        simp only [Act.put, List.setIfInBounds_toArray, List.set_cons_zero, List.set_cons_succ]
        refine held_skip 16 26 rfl rfl (by kernel_rfl) (by kernel_rfl) (by kernel_rfl) (fun _ _ _ h => h) (by rfl) hSb0 ?_
        simp only [Act.put, List.setIfInBounds_toArray, List.set_cons_zero, List.set_cons_succ]
        refine held_skip 17 27 rfl rfl (by kernel_rfl) (by kernel_rfl) (by kernel_rfl) (fun _ _ _ h => h) (by rfl) hSb0 ?_
        simp only [Act.put, List.setIfInBounds_toArray, List.set_cons_zero, List.set_cons_succ]
        refine held_skip 18 28 rfl rfl (by kernel_rfl) (by kernel_rfl) (by kernel_rfl) (fun _ _ _ h => h) (by rfl) hSb0 ?_
        simp only [Act.put, List.setIfInBounds_toArray, List.set_cons_zero, List.set_cons_succ]
        refine held_skip 19 29 rfl rfl (by kernel_rfl) (by kernel_rfl) (by kernel_rfl) (fun _ _ _ h => h) (by rfl) hSb0 ?_
        simp only [Act.put, List.setIfInBounds_toArray, List.set_cons_zero, List.set_cons_succ]
        refine held_skip 20 30 rfl rfl (by kernel_rfl) (by kernel_rfl) (by kernel_rfl) (fun _ _ _ h => h) (by rfl) hSb0 ?_
        simp only [Act.put, List.setIfInBounds_toArray, List.set_cons_zero, List.set_cons_succ]
        refine held_skip 21 31 rfl rfl (by kernel_rfl) (by kernel_rfl) (by kernel_rfl) (fun _ _ _ h => h) (by rfl) hSb0 ?_
        simp only [Act.put, List.setIfInBounds_toArray, List.set_cons_zero, List.set_cons_succ]
        refine held_skip 22 32 rfl rfl (by kernel_rfl) (by kernel_rfl) (by kernel_rfl) (fun _ _ _ h => h) (by rfl) hSb0 ?_
        simp only [Act.put, List.setIfInBounds_toArray, List.set_cons_zero, List.set_cons_succ]
        refine held_skip 23 33 rfl rfl (by kernel_rfl) (by kernel_rfl) (by kernel_rfl) (fun _ _ _ h => h) (by rfl) hSb0 ?_
        simp only [Act.put, List.setIfInBounds_toArray, List.set_cons_zero, List.set_cons_succ]
        refine held_skip 24 34 rfl rfl (by kernel_rfl) (by kernel_rfl) (by kernel_rfl) (fun _ _ _ h => h) (by rfl) hSb0 ?_
        simp only [Act.put, List.setIfInBounds_toArray, List.set_cons_zero, List.set_cons_succ]
        refine held_take (v := ?_) 25 35 rfl rfl (by kernel_rfl) (by kernel_rfl) (by kernel_rfl) (fun _ _ _ h => h) ⟨by rfl, ?_⟩ hSb0 ?_
        rotate_left
        · intro w' hw'; obtain ⟨x0, x1, x2⟩ := hw'; go_simp; (try with_reducible rfl)
        simp only [Act.put, List.setIfInBounds_toArray, List.set_cons_zero, List.set_cons_succ]
        refine wpAnyH_done (by kernel_rfl) ?_ _
        clear hBb0 hSb0
        go_wp2
        go_ret
        exact ⟨rfl, hBw.out.drew⟩
      have t2 : decide (f.c < 0) = false := decide_eq_false hA
      have t3 : decide (1048576 < f.c) = false := decide_eq_false hB2
      obtain ⟨r, hr⟩ : ∃ r, r = findL (l.take k) f.n f.d := ⟨_, rfl⟩
      have htl : (l.take k).length = k := by rw [List.length_take]; have := H.out.2.1; omega
      have HFi := Lib.hid (fun W (hW : Below wr.heap.size wr W) => show Calls Tryd.prog 20 #[.slice (some ⟨b, off, none⟩) k cap, .agg #[.int .i64 f.n, .int .i64 f.d]] W (fun e w' => e = .returned (.int .i64 r) ∧ Below W.heap.size W w') from (by
        have h9 := find_any (some ⟨b, off, none⟩) cap w.heap.size (l.take k) f.n f.d W (.inr ⟨b, off, rfl, by omega, fun i x hi => (HX.out.2 i x (by rw [List.getElem?_take] at hi; split at hi; exact hi; cases hi)).keep (B := w.heap.size) (by omega) (hBw.out.trans (hW.mono hBs))⟩) (by have := hW.size; omega) (by rw [htl]; omega)
        rw [htl, ← hr] at h9
        exact h9))
      have Hr := Lib.hid hr
      have hs1 : (0 : Int) ≤ (k : Int) := by omega
      have hs2 : (k : Int) ≤ (cap : Int) := by omega
      clear hr htl
      by_cases hr0 : r < 0
      · have t4 : decide (0 ≤ r) = false := decide_eq_false (by omega)
        have hOk : Hid (∀ j, j < k + 1 → okAt l j = true) := Lib.hid (fun j hj => by
          rcases Nat.lt_or_eq_of_le (Nat.le_of_lt_succ hj) with h | h
          · exact hN.out j h
          · subst h; unfold okAt; rw [HX.out.1]; unfold cpuOk; simp only; rw [← Hr.out, decide_eq_true (show 0 ≤ f.c ∧ f.c ≤ 1048576 by omega), decide_eq_true hr0]; rfl)
        go_wp2_with fail
        refine held_begin (fun w' : World => w'.cell? ⟨b, off + k * 4, none⟩ = some (.int .i64 f.n) ∧ w'.cell? ⟨b, off + k * 4 + 1, none⟩ = some (.int .i64 f.d) ∧ w'.cell? ⟨b, off + k * 4 + 3, none⟩ = some (.int .i64 f.c)) (by kernel_rfl) ?_
        have hBc0 : Below wr.heap.size wr wr.drew := (Below.refl _ _).drew
        have hSc0 : (fun w' : World => w'.cell? ⟨b, off + k * 4, none⟩ = some (.int .i64 f.n) ∧ w'.cell? ⟨b, off + k * 4 + 1, none⟩ = some (.int .i64 f.d) ∧ w'.cell? ⟨b, off + k * 4 + 3, none⟩ = some (.int .i64 f.c)) wr.drew := ⟨c0, c1, c3⟩
        refine held_take (v := ?_) 0 10 rfl rfl (by kernel_rfl) (by kernel_rfl) (by kernel_rfl) (fun _ _ _ h => h) ⟨by rfl, ?_⟩ hSc0 ?_
        rotate_left
        · intro w' hw'; obtain ⟨x0, x1, x2⟩ := hw'; go_simp; (try with_reducible rfl)
        simp only [Act.put, List.setIfInBounds_toArray, List.set_cons_zero, List.set_cons_succ]
        refine held_take (v := ?_) 1 11 rfl rfl (by kernel_rfl) (by kernel_rfl) (by kernel_rfl) (fun _ _ _ h => h) ⟨by rfl, ?_⟩ hSc0 ?_
        rotate_left
        · intro w' hw'; obtain ⟨x0, x1, x2⟩ := hw'; go_simp; (try with_reducible rfl)
        simp only [Act.put, List.setIfInBounds_toArray, List.set_cons_zero, List.set_cons_succ]
        refine held_take (v := ?_) 2 12 rfl rfl (by kernel_rfl) (by kernel_rfl) (by kernel_rfl) (fun _ _ _ h => h) ⟨by rfl, ?_⟩ hSc0 ?_
        rotate_left
        · intro w' hw'; obtain ⟨x0, x1, x2⟩ := hw'; go_simp; (try with_reducible rfl)
        simp only [Act.put, List.setIfInBounds_toArray, List.set_cons_zero, List.set_cons_succ]
        refine held_take (v := ?_) 3 13 rfl rfl (by kernel_rfl) (by kernel_rfl) (by kernel_rfl) (fun _ _ _ h => h) ⟨by rfl, ?_⟩ hSc0 ?_
        rotate_left
        · intro w' hw'; obtain ⟨x0, x1, x2⟩ := hw'; go_simp; (try with_reducible rfl)
        simp only [Act.put, List.setIfInBounds_toArray, List.set_cons_zero, List.set_cons_succ]
        refine held_take (v := ?_) 4 14 rfl rfl (by kernel_rfl) (by kernel_rfl) (by kernel_rfl) (fun _ _ _ h => h) ⟨by rfl, ?_⟩ hSc0 ?_
        rotate_left
        · intro w' hw'; obtain ⟨x0, x1, x2⟩ := hw'; go_simp; (try with_reducible rfl)
        simp only [Act.put, List.setIfInBounds_toArray, List.set_cons_zero, List.set_cons_succ]
        refine held_take (v := ?_) 5 15 rfl rfl (by kernel_rfl) (by kernel_rfl) (by kernel_rfl) (fun _ _ _ h => h) ⟨by rfl, ?_⟩ hSc0 ?_
        rotate_left
        · intro w' hw'; obtain ⟨x0, x1, x2⟩ := hw'; go_simp; (try with_reducible rfl)
        simp only [Act.put, List.setIfInBounds_toArray, List.set_cons_zero, List.set_cons_succ]
        refine held_take (v := ?_) 6 16 rfl rfl (by kernel_rfl) (by kernel_rfl) (by kernel_rfl) (fun _ _ _ h => h) ⟨by rfl, ?_⟩ hSc0 ?_
        rotate_left
        · intro w' hw'; obtain ⟨x0, x1, x2⟩ := hw'; go_simp; (try with_reducible rfl)
        simp only [Act.put, List.setIfInBounds_toArray, List.set_cons_zero, List.set_cons_succ]
        refine held_take (v := ?_) 7 17 rfl rfl (by kernel_rfl) (by kernel_rfl) (by kernel_rfl) (fun _ _ _ h => h) ⟨by rfl, ?_⟩ hSc0 ?_
        rotate_left
        · intro w' hw'; obtain ⟨x0, x1, x2⟩ := hw'; go_simp; (try with_reducible rfl)
        simp only [Act.put, List.setIfInBounds_toArray, List.set_cons_zero, List.set_cons_succ]
        refine held_take (v := ?_) 8 18 rfl rfl (by kernel_rfl) (by kernel_rfl) (by kernel_rfl) (fun _ _ _ h => h) ⟨by rfl, ?_⟩ hSc0 ?_
        rotate_left
        · intro w' hw'; obtain ⟨x0, x1, x2⟩ := hw'; go_simp; (try with_reducible rfl)
        simp only [Act.put, List.setIfInBounds_toArray, List.set_cons_zero, List.set_cons_succ]
        refine held_take (v := ?_) 9 19 rfl rfl (by kernel_rfl) (by kernel_rfl) (by kernel_rfl) (fun _ _ _ h => h) ⟨by rfl, ?_⟩ hSc0 ?_
        rotate_left
        · intro w' hw'; obtain ⟨x0, x1, x2⟩ := hw'; go_simp; (try with_reducible rfl)
        simp only [Act.put, List.setIfInBounds_toArray, List.set_cons_zero, List.set_cons_succ]
        refine held_take (v := ?_) 10 20 rfl rfl (by kernel_rfl) (by kernel_rfl) (by kernel_rfl) (fun _ _ _ h => h) ⟨by rfl, ?_⟩ hSc0 ?_
        rotate_left
        · intro w' hw'; obtain ⟨x0, x1, x2⟩ := hw'; go_simp; (try with_reducible rfl)
        simp only [Act.put, List.setIfInBounds_toArray, List.set_cons_zero, List.set_cons_succ]
        refine held_take (v := ?_) 11 21 rfl rfl (by kernel_rfl) (by kernel_rfl) (by kernel_rfl) (fun _ _ _ h => h) ⟨by rfl, ?_⟩ hSc0 ?_
        rotate_left
        · intro w' hw'; obtain ⟨x0, x1, x2⟩ := hw'; go_simp; (try with_reducible rfl)
        simp only [Act.put, List.setIfInBounds_toArray, List.set_cons_zero, List.set_cons_succ]
        refine held_take (v := ?_) 12 22 rfl rfl (by kernel_rfl) (by kernel_rfl) (by kernel_rfl) (fun _ _ _ h => h) ⟨by rfl, ?_⟩ hSc0 ?_
        rotate_left
        · intro w' hw'; obtain ⟨x0, x1, x2⟩ := hw'; go_simp; (try with_reducible rfl)
        simp only [Act.put, List.setIfInBounds_toArray, List.set_cons_zero, List.set_cons_succ]
        refine held_take (v := ?_) 13 23 rfl rfl (by kernel_rfl) (by kernel_rfl) (by kernel_rfl) (fun _ _ _ h => h) ⟨by rfl, ?_⟩ hSc0 ?_
        rotate_left
        · intro w' hw'; obtain ⟨x0, x1, x2⟩ := hw'; go_simp; (try with_reducible rfl)
        simp only [Act.put, List.setIfInBounds_toArray, List.set_cons_zero, List.set_cons_succ]
        refine held_take (v := ?_) 14 24 rfl rfl (by kernel_rfl) (by kernel_rfl) (by kernel_rfl) (fun _ _ _ h => h) ⟨by rfl, ?_⟩ hSc0 ?_
        rotate_left
        · intro w' hw'; obtain ⟨x0, x1, x2⟩ := hw'; go_simp; (try with_reducible rfl)
        simp only [Act.put, List.setIfInBounds_toArray, List.set_cons_zero, List.set_cons_succ]
        refine held_take (v := ?_) 15 25 rfl rfl (by kernel_rfl) (by kernel_rfl) (by kernel_rfl) (fun _ _ _ h => h) ⟨by rfl, ?_⟩ hSc0 ?_
        rotate_left
        · intro w' hw'; obtain ⟨x0, x1, x2⟩ := hw'; go_simp; (try with_reducible rfl)
        simp only [Act.put, List.setIfInBounds_toArray, List.set_cons_zero, List.set_cons_succ]
        refine held_take (v := ?_) 16 26 rfl rfl (by kernel_rfl) (by kernel_rfl) (by kernel_rfl) (fun _ _ _ h => h) ⟨by rfl, ?_⟩ hSc0 ?_
        rotate_left
        · intro w' hw'; obtain ⟨x0, x1, x2⟩ := hw'; go_simp; (try with_reducible rfl)
        simp only [Act.put, List.setIfInBounds_toArray, List.set_cons_zero, List.set_cons_succ]
        refine held_take (v := ?_) 17 27 rfl rfl (by kernel_rfl) (by kernel_rfl) (by kernel_rfl) (fun _ _ _ h => h) ⟨by rfl, ?_⟩ hSc0 ?_
        rotate_left
        · intro w' hw'; obtain ⟨x0, x1, x2⟩ := hw'; go_simp; (try with_reducible rfl)
        simp only [Act.put, List.setIfInBounds_toArray, List.set_cons_zero, List.set_cons_succ]
        refine held_take (v := ?_) 18 28 rfl rfl (by kernel_rfl) (by kernel_rfl) (by kernel_rfl) (fun _ _ _ h => h) ⟨by rfl, ?_⟩ hSc0 ?_
        rotate_left
        · intro w' hw'; obtain ⟨x0, x1, x2⟩ := hw'; go_simp; (try with_reducible rfl)
        simp only [Act.put, List.setIfInBounds_toArray, List.set_cons_zero, List.set_cons_succ]
        refine held_take (v := ?_) 19 29 rfl rfl (by kernel_rfl) (by kernel_rfl) (by kernel_rfl) (fun _ _ _ h => h) ⟨by rfl, ?_⟩ hSc0 ?_
        rotate_left
        · intro w' hw'; obtain ⟨x0, x1, x2⟩ := hw'; go_simp; (try with_reducible rfl)
        simp only [Act.put, List.setIfInBounds_toArray, List.set_cons_zero, List.set_cons_succ]
        refine held_take (v := ?_) 20 30 rfl rfl (by kernel_rfl) (by kernel_rfl) (by kernel_rfl) (fun _ _ _ h => h) ⟨by rfl, ?_⟩ hSc0 ?_
        rotate_left
        · intro w' hw'; obtain ⟨x0, x1, x2⟩ := hw'; go_simp; (try with_reducible rfl)
        simp only [Act.put, List.setIfInBounds_toArray, List.set_cons_zero, List.set_cons_succ]
        refine held_take (v := ?_) 21 31 rfl rfl (by kernel_rfl) (by kernel_rfl) (by kernel_rfl) (fun _ _ _ h => h) ⟨by rfl, ?_⟩ hSc0 ?_
        rotate_left
        · intro w' hw'; obtain ⟨x0, x1, x2⟩ := hw'; go_simp; (try with_reducible rfl)
        simp only [Act.put, List.setIfInBounds_toArray, List.set_cons_zero, List.set_cons_succ]
        refine held_take (v := ?_) 22 32 rfl rfl (by kernel_rfl) (by kernel_rfl) (by kernel_rfl) (fun _ _ _ h => h) ⟨by rfl, ?_⟩ hSc0 ?_
        rotate_left
        · intro w' hw'; obtain ⟨x0, x1, x2⟩ := hw'; go_simp; (try with_reducible rfl)
        simp only [Act.put, List.setIfInBounds_toArray, List.set_cons_zero, List.set_cons_succ]
        refine held_one 23 rfl (by kernel_rfl) (by rfl) (fun K hK => ?_)
        go_simp
        go_at_call 20
        refine (HFi.out wr.drew hBc0).mono ?_
        rintro e wc1 ⟨rfl, hbc1⟩
        have hBc1 : Below wr.heap.size wr wc1 := below_step hBc0 hbc1
        have hSc1 : (fun w' : World => w'.cell? ⟨b, off + k * 4, none⟩ = some (.int .i64 f.n) ∧ w'.cell? ⟨b, off + k * 4 + 1, none⟩ = some (.int .i64 f.d) ∧ w'.cell? ⟨b, off + k * 4 + 3, none⟩ = some (.int .i64 f.c)) wc1 := ⟨(hBc1.cell (p := ⟨b, off + k * 4, none⟩) (show b < wr.heap.size by omega)).trans c0, (hBc1.cell (p := ⟨b, off + k * 4 + 1, none⟩) (show b < wr.heap.size by omega)).trans c1, (hBc1.cell (p := ⟨b, off + k * 4 + 3, none⟩) (show b < wr.heap.size by omega)).trans c3⟩
        refine hK.out _ _ hSc1 ?_
        clear hK K
        refine held_take (v := ?_) 24 34 rfl rfl (by kernel_rfl) (by kernel_rfl) (by kernel_rfl) (fun _ _ _ h => h) ⟨by rfl, ?_⟩ hSc1 ?_
        rotate_left
        · intro w' hw'; obtain ⟨x0, x1, x2⟩ := hw'; go_simp; (try with_reducible rfl)
        simp only [Act.put, List.setIfInBounds_toArray, List.set_cons_zero, List.set_cons_succ]
        refine held_take (v := ?_) 25 35 rfl rfl (by kernel_rfl) (by kernel_rfl) (by kernel_rfl) (fun _ _ _ h => h) ⟨by rfl, ?_⟩ hSc1 ?_
        rotate_left
        · intro w' hw'; obtain ⟨x0, x1, x2⟩ := hw'; go_simp; (try with_reducible rfl)
        simp only [Act.put, List.setIfInBounds_toArray, List.set_cons_zero, List.set_cons_succ]
        refine wpAnyH_done (by kernel_rfl) ?_ _
        have hBw2 := Lib.hid (hBw.out.trans (hBc1.mono hBs))
        clear hBc0 hSc0 hBc1 hSc1 hbc1 c0 c1 c3 hN
        go_wp2
        go_roundw
        case rel => exact ⟨k + 1, by go_num, by omega, hBw2, hOk⟩
        case measure => simp [intOf]; omega
      · have t4 : decide (0 ≤ r) = true := decide_eq_true (by omega)
        have eR : R = false := by
          rw [H.out.2.2]
          exact right_no (k := k) (by rw [H.out.2.1]; exact hlt) (by unfold okAt; rw [HX.out.1]; simp only; rw [← Hr.out, decide_eq_false hr0, Bool.and_false])
        subst eR
        go_wp2_with fail
        refine held_begin (fun w' : World => w'.cell? ⟨b, off + k * 4, none⟩ = some (.int .i64 f.n) ∧ w'.cell? ⟨b, off + k * 4 + 1, none⟩ = some (.int .i64 f.d) ∧ w'.cell? ⟨b, off + k * 4 + 3, none⟩ = some (.int .i64 f.c)) (by kernel_rfl) ?_
        have hBc0 : Below wr.heap.size wr wr.drew := (Below.refl _ _).drew
        have hSc0 : (fun w' : World => w'.cell? ⟨b, off + k * 4, none⟩ = some (.int .i64 f.n) ∧ w'.cell? ⟨b, off + k * 4 + 1, none⟩ = some (.int .i64 f.d) ∧ w'.cell? ⟨b, off + k * 4 + 3, none⟩ = some (.int .i64 f.c)) wr.drew := ⟨c0, c1, c3⟩
        refine held_take (v := ?_) 0 10 rfl rfl (by kernel_rfl) (by kernel_rfl) (by kernel_rfl) (fun _ _ _ h => h) ⟨by rfl, ?_⟩ hSc0 ?_
        rotate_left
        · intro w' hw'; obtain ⟨x0, x1, x2⟩ := hw'; go_simp; (try with_reducible rfl)
        simp only [Act.put, List.setIfInBounds_toArray, List.set_cons_zero, List.set_cons_succ]
        refine held_take (v := ?_) 1 11 rfl rfl (by kernel_rfl) (by kernel_rfl) (by kernel_rfl) (fun _ _ _ h => h) ⟨by rfl, ?_⟩ hSc0 ?_
        rotate_left
        · intro w' hw'; obtain ⟨x0, x1, x2⟩ := hw'; go_simp; (try with_reducible rfl)
        simp only [Act.put, List.setIfInBounds_toArray, List.set_cons_zero, List.set_cons_succ]
        refine held_take (v := ?_) 2 12 rfl rfl (by kernel_rfl) (by kernel_rfl) (by kernel_rfl) (fun _ _ _ h => h) ⟨by rfl, ?_⟩ hSc0 ?_
        rotate_left
        · intro w' hw'; obtain ⟨x0, x1, x2⟩ := hw'; go_simp; (try with_reducible rfl)
        simp only [Act.put, List.setIfInBounds_toArray, List.set_cons_zero, List.set_cons_succ]
        refine held_take (v := ?_) 3 13 rfl rfl (by kernel_rfl) (by kernel_rfl) (by kernel_rfl) (fun _ _ _ h => h) ⟨by rfl, ?_⟩ hSc0 ?_
        rotate_left
        · intro w' hw'; obtain ⟨x0, x1, x2⟩ := hw'; go_simp; (try with_reducible rfl)
        simp only [Act.put, List.setIfInBounds_toArray, List.set_cons_zero, List.set_cons_succ]
        refine held_take (v := ?_) 4 14 rfl rfl (by kernel_rfl) (by kernel_rfl) (by kernel_rfl) (fun _ _ _ h => h) ⟨by rfl, ?_⟩ hSc0 ?_
        rotate_left
        · intro w' hw'; obtain ⟨x0, x1, x2⟩ := hw'; go_simp; (try with_reducible rfl)
        simp only [Act.put, List.setIfInBounds_toArray, List.set_cons_zero, List.set_cons_succ]
        refine held_take (v := ?_) 5 15 rfl rfl (by kernel_rfl) (by kernel_rfl) (by kernel_rfl) (fun _ _ _ h => h) ⟨by rfl, ?_⟩ hSc0 ?_
        rotate_left
        · intro w' hw'; obtain ⟨x0, x1, x2⟩ := hw'; go_simp; (try with_reducible rfl)
        simp only [Act.put, List.setIfInBounds_toArray, List.set_cons_zero, List.set_cons_succ]
        refine held_take (v := ?_) 6 16 rfl rfl (by kernel_rfl) (by kernel_rfl) (by kernel_rfl) (fun _ _ _ h => h) ⟨by rfl, ?_⟩ hSc0 ?_
        rotate_left
        · intro w' hw'; obtain ⟨x0, x1, x2⟩ := hw'; go_simp; (try with_reducible rfl)
        simp only [Act.put, List.setIfInBounds_toArray, List.set_cons_zero, List.set_cons_succ]
        refine held_take (v := ?_) 7 17 rfl rfl (by kernel_rfl) (by kernel_rfl) (by kernel_rfl) (fun _ _ _ h => h) ⟨by rfl, ?_⟩ hSc0 ?_
        rotate_left
        · intro w' hw'; obtain ⟨x0, x1, x2⟩ := hw'; go_simp; (try with_reducible rfl)
        simp only [Act.put, List.setIfInBounds_toArray, List.set_cons_zero, List.set_cons_succ]
        refine held_take (v := ?_) 8 18 rfl rfl (by kernel_rfl) (by kernel_rfl) (by kernel_rfl) (fun _ _ _ h => h) ⟨by rfl, ?_⟩ hSc0 ?_
        rotate_left
        · intro w' hw'; obtain ⟨x0, x1, x2⟩ := hw'; go_simp; (try with_reducible rfl)
        simp only [Act.put, List.setIfInBounds_toArray, List.set_cons_zero, List.set_cons_succ]
        refine held_take (v := ?_) 9 19 rfl rfl (by kernel_rfl) (by kernel_rfl) (by kernel_rfl) (fun _ _ _ h => h) ⟨by rfl, ?_⟩ hSc0 ?_
        rotate_left
        · intro w' hw'; obtain ⟨x0, x1, x2⟩ := hw'; go_simp; (try with_reducible rfl)
        simp only [Act.put, List.setIfInBounds_toArray, List.set_cons_zero, List.set_cons_succ]
        refine held_take (v := ?_) 10 20 rfl rfl (by kernel_rfl) (by kernel_rfl) (by kernel_rfl) (fun _ _ _ h => h) ⟨by rfl, ?_⟩ hSc0 ?_
        rotate_left
        · intro w' hw'; obtain ⟨x0, x1, x2⟩ := hw'; go_simp; (try with_reducible rfl)
        simp only [Act.put, List.setIfInBounds_toArray, List.set_cons_zero, List.set_cons_succ]
        refine held_take (v := ?_) 11 21 rfl rfl (by kernel_rfl) (by kernel_rfl) (by kernel_rfl) (fun _ _ _ h => h) ⟨by rfl, ?_⟩ hSc0 ?_
        rotate_left
        · intro w' hw'; obtain ⟨x0, x1, x2⟩ := hw'; go_simp; (try with_reducible rfl)
        simp only [Act.put, List.setIfInBounds_toArray, List.set_cons_zero, List.set_cons_succ]
        refine held_take (v := ?_) 12 22 rfl rfl (by kernel_rfl) (by kernel_rfl) (by kernel_rfl) (fun _ _ _ h => h) ⟨by rfl, ?_⟩ hSc0 ?_
        rotate_left
        · intro w' hw'; obtain ⟨x0, x1, x2⟩ := hw'; go_simp; (try with_reducible rfl)
        simp only [Act.put, List.setIfInBounds_toArray, List.set_cons_zero, List.set_cons_succ]
        refine held_take (v := ?_) 13 23 rfl rfl (by kernel_rfl) (by kernel_rfl) (by kernel_rfl) (fun _ _ _ h => h) ⟨by rfl, ?_⟩ hSc0 ?_
        rotate_left
        · intro w' hw'; obtain ⟨x0, x1, x2⟩ := hw'; go_simp; (try with_reducible rfl)
        simp only [Act.put, List.setIfInBounds_toArray, List.set_cons_zero, List.set_cons_succ]
        refine held_take (v := ?_) 14 24 rfl rfl (by kernel_rfl) (by kernel_rfl) (by kernel_rfl) (fun _ _ _ h => h) ⟨by rfl, ?_⟩ hSc0 ?_
        rotate_left
        · intro w' hw'; obtain ⟨x0, x1, x2⟩ := hw'; go_simp; (try with_reducible rfl)
        simp only [Act.put, List.setIfInBounds_toArray, List.set_cons_zero, List.set_cons_succ]
        refine held_take (v := ?_) 15 25 rfl rfl (by kernel_rfl) (by kernel_rfl) (by kernel_rfl) (fun _ _ _ h => h) ⟨by rfl, ?_⟩ hSc0 ?_
        rotate_left
        · intro w' hw'; obtain ⟨x0, x1, x2⟩ := hw'; go_simp; (try with_reducible rfl)
        simp only [Act.put, List.setIfInBounds_toArray, List.set_cons_zero, List.set_cons_succ]
        refine held_take (v := ?_) 16 26 rfl rfl (by kernel_rfl) (by kernel_rfl) (by kernel_rfl) (fun _ _ _ h => h) ⟨by rfl, ?_⟩ hSc0 ?_
        rotate_left
        · intro w' hw'; obtain ⟨x0, x1, x2⟩ := hw'; go_simp; (try with_reducible rfl)
        simp only [Act.put, List.setIfInBounds_toArray, List.set_cons_zero, List.set_cons_succ]
        refine held_take (v := ?_) 17 27 rfl rfl (by kernel_rfl) (by kernel_rfl) (by kernel_rfl) (fun _ _ _ h => h) ⟨by rfl, ?_⟩ hSc0 ?_
        rotate_left
        · intro w' hw'; obtain ⟨x0, x1, x2⟩ := hw'; go_simp; (try with_reducible rfl)
        simp only [Act.put, List.setIfInBounds_toArray, List.set_cons_zero, List.set_cons_succ]
        refine held_take (v := ?_) 18 28 rfl rfl (by kernel_rfl) (by kernel_rfl) (by kernel_rfl) (fun _ _ _ h => h) ⟨by rfl, ?_⟩ hSc0 ?_
        rotate_left
        · intro w' hw'; obtain ⟨x0, x1, x2⟩ := hw'; go_simp; (try with_reducible rfl)
        simp only [Act.put, List.setIfInBounds_toArray, List.set_cons_zero, List.set_cons_succ]
        refine held_take (v := ?_) 19 29 rfl rfl (by kernel_rfl) (by kernel_rfl) (by kernel_rfl) (fun _ _ _ h => h) ⟨by rfl, ?_⟩ hSc0 ?_
        rotate_left
        · intro w' hw'; obtain ⟨x0, x1, x2⟩ := hw'; go_simp; (try with_reducible rfl)
        simp only [Act.put, List.setIfInBounds_toArray, List.set_cons_zero, List.set_cons_succ]
        refine held_take (v := ?_) 20 30 rfl rfl (by kernel_rfl) (by kernel_rfl) (by kernel_rfl) (fun _ _ _ h => h) ⟨by rfl, ?_⟩ hSc0 ?_
        rotate_left
        · intro w' hw'; obtain ⟨x0, x1, x2⟩ := hw'; go_simp; (try with_reducible rfl)
        simp only [Act.put, List.setIfInBounds_toArray, List.set_cons_zero, List.set_cons_succ]
        refine held_take (v := ?_) 21 31 rfl rfl (by kernel_rfl) (by kernel_rfl) (by kernel_rfl) (fun _ _ _ h => h) ⟨by rfl, ?_⟩ hSc0 ?_
        rotate_left
        · intro w' hw'; obtain ⟨x0, x1, x2⟩ := hw'; go_simp; (try with_reducible rfl)
        simp only [Act.put, List.setIfInBounds_toArray, List.set_cons_zero, List.set_cons_succ]
        refine held_take (v := ?_) 22 32 rfl rfl (by kernel_rfl) (by kernel_rfl) (by kernel_rfl) (fun _ _ _ h => h) ⟨by rfl, ?_⟩ hSc0 ?_
        rotate_left
        · intro w' hw'; obtain ⟨x0, x1, x2⟩ := hw'; go_simp; (try with_reducible rfl)
        simp only [Act.put, List.setIfInBounds_toArray, List.set_cons_zero, List.set_cons_succ]
        refine held_one 23 rfl (by kernel_rfl) (by rfl) (fun K hK => ?_)
        go_simp
        go_at_call 20
        refine (HFi.out wr.drew hBc0).mono ?_
        rintro e wc1 ⟨rfl, hbc1⟩
        have hBc1 : Below wr.heap.size wr wc1 := below_step hBc0 hbc1
        have hSc1 : (fun w' : World => w'.cell? ⟨b, off + k * 4, none⟩ = some (.int .i64 f.n) ∧ w'.cell? ⟨b, off + k * 4 + 1, none⟩ = some (.int .i64 f.d) ∧ w'.cell? ⟨b, off + k * 4 + 3, none⟩ = some (.int .i64 f.c)) wc1 := ⟨(hBc1.cell (p := ⟨b, off + k * 4, none⟩) (show b < wr.heap.size by omega)).trans c0, (hBc1.cell (p := ⟨b, off + k * 4 + 1, none⟩) (show b < wr.heap.size by omega)).trans c1, (hBc1.cell (p := ⟨b, off + k * 4 + 3, none⟩) (show b < wr.heap.size by omega)).trans c3⟩
        refine hK.out _ _ hSc1 ?_
        clear hK K
        refine held_take (v := ?_) 24 34 rfl rfl (by kernel_rfl) (by kernel_rfl) (by kernel_rfl) (fun _ _ _ h => h) ⟨by rfl, ?_⟩ hSc1 ?_
        rotate_left
        · intro w' hw'; obtain ⟨x0, x1, x2⟩ := hw'; go_simp; (try with_reducible rfl)
        simp only [Act.put, List.setIfInBounds_toArray, List.set_cons_zero, List.set_cons_succ]
        refine held_take (v := ?_) 25 35 rfl rfl (by kernel_rfl) (by kernel_rfl) (by kernel_rfl) (fun _ _ _ h => h) ⟨by rfl, ?_⟩ hSc1 ?_
        rotate_left
        · intro w' hw'; obtain ⟨x0, x1, x2⟩ := hw'; go_simp; (try with_reducible rfl)
        simp only [Act.put, List.setIfInBounds_toArray, List.set_cons_zero, List.set_cons_succ]
        refine wpAnyH_done (by kernel_rfl) ?_ _
        have hBw2 := hBw.out.trans (hBc1.mono hBs)
        clear hBc0 hSc0 hBc1 hSc1 hbc1 c0 c1 c3 hN
        go_wp2
        go_ret
        exact ⟨rfl, hBw2⟩
    · obtain rfl : k = q := by omega
      have eR : R = true := by
        rw [H.out.2.2]
        exact right_yes fun j hj => hN.out j (by rw [H.out.2.1] at hj; exact hj)
      subst eR
      have t1 : decide (k < k) = false := decide_eq_false (by omega)
      clear hlt hN
      go_wp2
      go_ret
      exact ⟨rfl, hBw.out⟩
def viewL (l : List Fe) : Bool := decide (l.length ≤ 70) && rightL l
set_option maxRecDepth 100000 in
theorem fewp_any (A : Option Addr) (cap B : Nat) (l : List Fe) (w : World) (h : Fes w B A l) (hB : B ≤ w.heap.size) (hcap : l.length ≤ cap) :
    Calls Tryd.prog 5 #[.slice A l.length cap] w fun e w' => e = .returned (.bool (viewL l)) ∧ Below w.heap.size w w' := by
  obtain ⟨q, hq⟩ : ∃ q, l.length = q := ⟨_, rfl⟩
  by_cases h7 : q ≤ 70
  · have hC := right_any A cap B l w h hB (by omega) hcap
    obtain ⟨R, hR⟩ : ∃ R, R = rightL l := ⟨_, rfl⟩
    have e : viewL l = R := by unfold viewL; rw [hq, decide_eq_true h7, Bool.true_and, hR]
    rw [e]
    rw [← hR] at hC
    rw [hq] at hC ⊢
    have HC := Lib.hid hC
    have t1 : decide ((q : Int) ≤ 70) = true := decide_eq_true (by omega)
    clear hC e hR hq h hcap
    go_enter Tryd.func5, Tryd.ntmps5
    go_wp2_with fail
    refine HC.out.mono ?_
    rintro e w2 ⟨rfl, hb2⟩
    go_wp2
    go_ret
    exact ⟨rfl, hb2⟩
  · have e : viewL l = false := by unfold viewL; rw [hq, decide_eq_false h7]; rfl
    rw [e, hq]
    have t1 : decide ((q : Int) ≤ 70) = false := decide_eq_false (by omega)
    clear e hq h hcap
    go_enter Tryd.func5, Tryd.ntmps5
    go_wp2
    go_ret
    exact ⟨rfl, Below.refl _ _⟩
end Go.Proofs.YteflblcbmkcidaaDoor
