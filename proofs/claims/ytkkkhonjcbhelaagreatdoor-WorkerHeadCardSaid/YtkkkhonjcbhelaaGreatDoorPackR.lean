import Derived.Test.YtkkkhonjcbhelaaGreatDoorPackQ
import Derived.DeepKeys5
set_option maxRecDepth 100000
namespace Go.Proofs.YtkkkhonjcbhelaaGreatDoor
section
open Go.RowKit
def findL (l : List Fe) (n d : Int) : Int := match l.findIdx? (fun f => f.n == n && f.d == d) with
 | some i => i
 | none => -1
theorem findL_none {l : List Fe} {n d : Int} (h : ∀ f ∈ l, ¬ (f.n = n ∧ f.d = d)) : findL l n d = -1 := by
 unfold findL;rw [List.findIdx?_eq_none_iff.2 (fun f hf => by simpa using h f hf)]
theorem findL_some {l : List Fe} {n d : Int} {i : Nat} {f : Fe} (hi : l[i]? = some f) (hf : f.n = n ∧ f.d = d) (h : ∀ j g, j < i → l[j]? = some g → ¬ (g.n = n ∧ g.d = d)) : findL l n d = i := by
 unfold findL;have : l.findIdx? (fun f => f.n == n && f.d == d) = some i := by
  obtain ⟨hil, rfl⟩ := List.getElem?_eq_some_iff.1 hi;rw [List.findIdx?_eq_some_iff_getElem];refine ⟨hil, by simpa using hf, fun j hj => ?_⟩;have := h j _ hj (List.getElem?_eq_getElem (by omega));simpa using this
 rw [this]
theorem spot_other (a b n d : Int) (h : ¬ (a = n ∧ b = d)) (W : World) : (binOp .eql 61 (.agg #[.int .i64 a, .int .i64 b]) (.agg #[.int .i64 n, .int .i64 d])).run Tryz.prog W = .ok (.bool false) W := by
 by_cases e : a = n
 ·subst e;have t2 : (b == d) = false := beq_eq_false_iff_ne.2 fun e2 => h ⟨rfl, e2⟩
  go_simp
 ·have t2 : (a == n) = false := beq_eq_false_iff_ne.2 e;go_simp
set_option maxRecDepth 100000 in
set_option maxHeartbeats 1000000 in
theorem find_any (A : Option Addr) (cap B : Nat) (l : List Fe) (n d : Int) (w : World) (h : Fes w B A l) (hB : B ≤ w.heap.size) (hn : l.length ≤ 500000) :
  Calls Tryz.prog 30 #[.slice A l.length cap, .agg #[.int .i64 n, .int .i64 d]] w fun e w' => e = .returned (.int .i64 (findL l n d)) ∧ Below w.heap.size w w' := by
 obtain ⟨q, hq⟩ : ∃ q, l.length = q := ⟨_, rfl⟩
 obtain ⟨R, hR⟩ := nx (findL l n d);obtain ⟨w1, hw1⟩ := nx (w.alloc (.cells #[.int .i64 n, .int .i64 d] 61));have hB1 : Below w.heap.size w w1 := by rw [hw1]; exact (Below.refl w.heap.size w).alloc (Nat.le_refl _) _
 have bX : w1.heap[w.heap.size]? = some (.cells #[.int .i64 n, .int .i64 d] 61 (0, 0)) := by rw [hw1]; exact heap_alloc_new w _
 have H := Hq (Ai h (Ai hq (Ai hR (Ai hB1 bX))));have HW := Hq hw1;rw [hq] at hn ⊢;rw [← hR];clear h hq hR hw1 hB1 bX;go_enter Tryz.func30, Tryz.ntmps30;go_wp2_with fail;rw [← HW.out];go_loopw [5] (fun i wr => ∃ k : Nat, i = .int .i64 k ∧ k ≤ q ∧ Hid (∃ m, wr = w1.drewN m) ∧ Hid (∀ j g, j < k → l[j]? = some g → ¬ (g.n = n ∧ g.d = d))) (fun i _ => q - (intOf i).toNat)
 case atStart => exact ⟨0, rfl, by omega, Hq ⟨0, rfl⟩, Hq (fun j g hj => by omega)⟩
 case round =>
  obtain ⟨k, rfl, hk, hW, hN⟩ := hrel;by_cases hlt : k < q
  ·obtain ⟨f, hx⟩ := get_lt (l := l) (k := k) (by rw [H.out.2.1]; exact hlt);obtain ⟨b, off, rfl, hb, hc⟩ := H.out.1.at_ hx;obtain ⟨f0, f1, f2, f3⟩ := (hc k f hx).keep (B := w.heap.size) (by omega) H.out.2.2.2.1;have c0 : wr.cell? ⟨b, off + k * 4, none⟩ = some (.int .i64 f.n) := by obtain ⟨m, e⟩ := hW.out; rw [e]; exact f0
   have c1 : wr.cell? ⟨b, off + k * 4 + 1, none⟩ = some (.int .i64 f.d) := by obtain ⟨m, e⟩ := hW.out; rw [e]; exact f1
   have x0 : wr.cell? ⟨w.heap.size, 0, none⟩ = some (.int .i64 n) := by obtain ⟨m, e⟩ := hW.out; rw [e]; exact cell_blk (i := 0) H.out.2.2.2.2 rfl
   have x1 : wr.cell? ⟨w.heap.size, 1, none⟩ = some (.int .i64 d) := by obtain ⟨m, e⟩ := hW.out; rw [e]; exact cell_blk (i := 1) H.out.2.2.2.2 rfl
   have j1 : (k : Int) < (q : Int) := (by omega);have t1 : decide (k < q) = true := decide_eq_true hlt;obtain ⟨fn, fd, fm, fc⟩ := f;simp only at c0 c1;clear f0 f1 f2 f3 hc hb;by_cases he : fn = n ∧ fd = d
   ·have HE := Hq (findL_some hx he hN.out);obtain ⟨rfl, rfl⟩ := he;have eR : R = k := by rw [H.out.2.2.1]; exact HE.out
    subst eR;have HB : Hid (Below w.heap.size w wr) := Hq (by obtain ⟨m, e⟩ := hW.out; rw [e]; exact ⟨H.out.2.2.2.1.os, H.out.2.2.2.1.tape, H.out.2.2.2.1.output, H.out.2.2.2.1.size, H.out.2.2.2.1.block⟩);clear hx;go_wp2_with fail;go_quiet (fail);go_wp2
    go_ret
    have h9 := HB.out;exact ⟨rfl, h9.os, h9.tape, h9.output, h9.size, h9.block⟩
   ·have HN : Hid (∀ j g, j < k + 1 → l[j]? = some g → ¬ (g.n = n ∧ g.d = d)) := Hq (fun j g hj hg => by
     rcases Nat.lt_or_eq_of_le (Nat.le_of_lt_succ hj) with h | h
     ·exact hN.out j g h hg
     ·subst h; rw [hx] at hg; cases hg; exact he)
    have hne := fun W => spot_other fn fd n d he W
    clear hx;go_wp2_with fail;go_quiet (fail);have hW2 : Hid (∃ m, wr.drewN nq = w1.drewN m) := Hq (by obtain ⟨m, e⟩ := hW.out; exact ⟨m + nq, by rw [e, World.drewN_drewN]⟩);clear c0 c1 x0 x1 hne hW hN;generalize wr.drewN nq = W2 at hW2 ⊢;go_wp2
    go_roundw
    case rel => exact ⟨k + 1, by go_num, by omega, hW2, HN⟩
    case measure => simp [intOf]; omega
  ·obtain rfl : k = q := by omega
   have eR : R = -1 := by
    rw [H.out.2.2.1];refine findL_none fun f hf => ?_
    obtain ⟨i, hi⟩ := List.mem_iff_getElem?.1 hf;exact hN.out i f (by have := (List.getElem?_eq_some_iff.1 hi).1; have := H.out.2.1; omega) hi
   subst eR;have HB : Hid (Below w.heap.size w wr) := Hq (by obtain ⟨m, e⟩ := hW.out; rw [e]; exact ⟨H.out.2.2.2.1.os, H.out.2.2.2.1.tape, H.out.2.2.2.1.output, H.out.2.2.2.1.size, H.out.2.2.2.1.block⟩);have t1 : decide (k < k) = false := decide_eq_false (by omega);clear hlt hN hW;go_wp2
   go_ret
   exact ⟨rfl, HB.out⟩
def cpuOk (f : Fe) : Bool := decide (0 ≤ f.c ∧ f.c ≤ 1048576)
def okAt (l : List Fe) (k : Nat) : Bool := match l[k]? with
 | none => true
 | some f => cpuOk f && decide (findL (l.take k) f.n f.d < 0)
def rightL (l : List Fe) : Bool := (List.range l.length).all (okAt l)
theorem right_no {l : List Fe} {k : Nat} (hk : k < l.length) (h : okAt l k = false) : rightL l = false := by
 unfold rightL;rw [← Bool.not_eq_true, List.all_eq_true];intro ha;rw [ha k (by simpa using hk)] at h; cases h
theorem right_yes {l : List Fe} (h : ∀ k, k < l.length → okAt l k = true) : rightL l = true := by
 unfold rightL;rw [List.all_eq_true];exact fun k hk => h k (by simpa using hk)
set_option maxRecDepth 100000 in
set_option maxHeartbeats 4000000 in
theorem right_any (A : Option Addr) (cap B : Nat) (l : List Fe) (w : World) (h : Fes w B A l) (hB : B ≤ w.heap.size) (hn : l.length ≤ 100000) (hcap : l.length ≤ cap) :
  Calls Tryz.prog 35 #[.slice A l.length cap] w fun e w' => e = .returned (.bool (rightL l)) ∧ Below w.heap.size w w' := by
 obtain ⟨q, hq⟩ : ∃ q, l.length = q := ⟨_, rfl⟩
 obtain ⟨R, hR⟩ := nx (rightL l);have H := Hq (Ai h (Ai hq hR));have HB0 := Hq (Below.refl w.heap.size w);rw [hq] at hn hcap ⊢;rw [← hR];clear h hq hR;go_enter Tryz.func35, Tryz.ntmps35;go_wp2;go_loopw [3] (fun i wr => ∃ k : Nat, i = .int .i64 k ∧ k ≤ q ∧ Hid (Below w.heap.size w wr) ∧ Hid (∀ j, j < k → okAt l j = true)) (fun i _ => q - (intOf i).toNat)
 case atStart => exact ⟨0, rfl, by omega, HB0, Hq (fun j hj => by omega)⟩
 case round =>
  clear HB0;obtain ⟨k, rfl, hk, hBw, hN⟩ := hrel;have hBs := hBw.out.size;by_cases hlt : k < q
  ·obtain ⟨f, hx⟩ := get_lt (l := l) (k := k) (by rw [H.out.2.1]; exact hlt);obtain ⟨b, off, rfl, hb, hc⟩ := H.out.1.at_ hx;obtain ⟨c0, c1, c2, c3⟩ := (hc k f hx).keep (B := w.heap.size) (by omega) hBw.out;have j1 : (k : Int) < (q : Int) := (by omega);have t1 : decide (k < q) = true := decide_eq_true hlt;have HBd := Hq hb;have hbw : b < wr.heap.size := (by omega);have HX := Hq (Ai hx hc);clear hx hc c2;by_cases hA : f.c < 0
   ·have t2 : decide (f.c < 0) = true := decide_eq_true hA;have eR : R = false := by
     rw [H.out.2.2];exact right_no (k := k) (by rw [H.out.2.1]; exact hlt) (by unfold okAt; rw [HX.out.1]; unfold cpuOk; simp only; rw [decide_eq_false (by omega)]; rfl)
    subst eR;go_wp2_with fail;refine held_begin (fun w' : World => w'.cell? ⟨b, off + k * 4, none⟩ = some (.int .i64 f.n) ∧ w'.cell? ⟨b, off + k * 4 + 1, none⟩ = some (.int .i64 f.d) ∧ w'.cell? ⟨b, off + k * 4 + 3, none⟩ = some (.int .i64 f.c)) (by kernel_rfl) ?_;have hBa0 : Below wr.heap.size wr wr.drew := (Below.refl _ _).drew;have hSa0 := Ai c0 (Ai c1 c3);refine tkA 0 10 hSa0 ?_;refine tkA 1 11 hSa0 ?_;refine tkA 2 12 hSa0 ?_;refine tkA 3 13 hSa0 ?_;refine tkA 4 14 hSa0 ?_;refine tkA 5 15 hSa0 ?_;refine tkA 6 16 hSa0 ?_;refine skA 7 17 hSa0 ?_;refine skA 8 18 hSa0 ?_;refine skA 9 19 hSa0 ?_;refine skA 10 20 hSa0 ?_;refine skA 11 21 hSa0 ?_;refine skA 12 22 hSa0 ?_;refine tkA 13 23 hSa0 ?_;refine tkA 14 24 hSa0 ?_;refine skA 15 25 hSa0 ?_;refine skA 16 26 hSa0 ?_;refine skA 17 27 hSa0 ?_;refine skA 18 28 hSa0 ?_;refine skA 19 29 hSa0 ?_;refine skA 20 30 hSa0 ?_;refine skA 21 31 hSa0 ?_;refine skA 22 32 hSa0 ?_;refine skA 23 33 hSa0 ?_;refine skA 24 34 hSa0 ?_;refine tkA 25 35 hSa0 ?_;refine wpAnyH_done (by kernel_rfl) ?_ _;clear hBa0 hSa0;go_wp2
    go_ret
    exact ⟨rfl, hBw.out.drew⟩
   by_cases hB2 : 1048576 < f.c
   ·have t2 : decide (f.c < 0) = false := decide_eq_false hA;have t3 : decide (1048576 < f.c) = true := decide_eq_true hB2;have eR : R = false := by
     rw [H.out.2.2];exact right_no (k := k) (by rw [H.out.2.1]; exact hlt) (by unfold okAt; rw [HX.out.1]; unfold cpuOk; simp only; rw [decide_eq_false (by omega)]; rfl)
    subst eR;go_wp2_with fail;refine held_begin (fun w' : World => w'.cell? ⟨b, off + k * 4, none⟩ = some (.int .i64 f.n) ∧ w'.cell? ⟨b, off + k * 4 + 1, none⟩ = some (.int .i64 f.d) ∧ w'.cell? ⟨b, off + k * 4 + 3, none⟩ = some (.int .i64 f.c)) (by kernel_rfl) ?_;have hBb0 : Below wr.heap.size wr wr.drew := (Below.refl _ _).drew;have hSb0 := Ai c0 (Ai c1 c3);refine tkA 0 10 hSb0 ?_;refine tkA 1 11 hSb0 ?_;refine tkA 2 12 hSb0 ?_;refine tkA 3 13 hSb0 ?_;refine tkA 4 14 hSb0 ?_;refine tkA 5 15 hSb0 ?_;refine tkA 6 16 hSb0 ?_;refine tkA 7 17 hSb0 ?_;refine tkA 8 18 hSb0 ?_;refine tkA 9 19 hSb0 ?_;refine tkA 10 20 hSb0 ?_;refine tkA 11 21 hSb0 ?_;refine tkA 12 22 hSb0 ?_;refine tkA 13 23 hSb0 ?_;refine tkA 14 24 hSb0 ?_;refine skA 15 25 hSb0 ?_;refine skA 16 26 hSb0 ?_;refine skA 17 27 hSb0 ?_;refine skA 18 28 hSb0 ?_;refine skA 19 29 hSb0 ?_;refine skA 20 30 hSb0 ?_;refine skA 21 31 hSb0 ?_;refine skA 22 32 hSb0 ?_;refine skA 23 33 hSb0 ?_;refine skA 24 34 hSb0 ?_;refine tkA 25 35 hSb0 ?_;refine wpAnyH_done (by kernel_rfl) ?_ _;clear hBb0 hSb0;go_wp2
    go_ret
    exact ⟨rfl, hBw.out.drew⟩
   have t2 : decide (f.c < 0) = false := decide_eq_false hA;have t3 : decide (1048576 < f.c) = false := decide_eq_false hB2;obtain ⟨r, hr⟩ := nx (findL (l.take k) f.n f.d);have htl : (l.take k).length = k := by rw [List.length_take]; have := H.out.2.1; omega
   have HFi := Hq (fun W (hW : Below wr.heap.size wr W) => show Calls Tryz.prog 30 #[.slice (some ⟨b, off, none⟩) k cap, .agg #[.int .i64 f.n, .int .i64 f.d]] W (fun e w' => e = .returned (.int .i64 r) ∧ Below W.heap.size W w') from (by
    have h9 := find_any (some ⟨b, off, none⟩) cap w.heap.size (l.take k) f.n f.d W (.inr ⟨b, off, rfl, by omega, fun i x hi => (HX.out.2 i x (by rw [List.getElem?_take] at hi; split at hi; exact hi; cases hi)).keep (B := w.heap.size) (by omega) (hBw.out.trans (hW.mono hBs))⟩) (by have := hW.size; omega) (by rw [htl]; omega);rw [htl, ← hr] at h9;exact h9))
   have Hr := Hq hr;have hs1 : (0 : Int) ≤ (k : Int) := (by omega);have hs2 : (k : Int) ≤ (cap : Int) := (by omega);clear hr htl;by_cases hr0 : r < 0
   ·have t4 : decide (0 ≤ r) = false := decide_eq_false (by omega);have hOk : Hid (∀ j, j < k + 1 → okAt l j = true) := Hq (fun j hj => by
     rcases Nat.lt_or_eq_of_le (Nat.le_of_lt_succ hj) with h | h
     ·exact hN.out j h
     ·subst h; unfold okAt; rw [HX.out.1]; unfold cpuOk; simp only; rw [← Hr.out, decide_eq_true (show 0 ≤ f.c ∧ f.c ≤ 1048576 by omega), decide_eq_true hr0]; rfl)
    go_wp2_with fail;refine held_begin (fun w' : World => w'.cell? ⟨b, off + k * 4, none⟩ = some (.int .i64 f.n) ∧ w'.cell? ⟨b, off + k * 4 + 1, none⟩ = some (.int .i64 f.d) ∧ w'.cell? ⟨b, off + k * 4 + 3, none⟩ = some (.int .i64 f.c)) (by kernel_rfl) ?_;have hBc0 : Below wr.heap.size wr wr.drew := (Below.refl _ _).drew;have hSc0 := Ai c0 (Ai c1 c3);refine tkA 0 10 hSc0 ?_;refine tkA 1 11 hSc0 ?_;refine tkA 2 12 hSc0 ?_;refine tkA 3 13 hSc0 ?_;refine tkA 4 14 hSc0 ?_;refine tkA 5 15 hSc0 ?_;refine tkA 6 16 hSc0 ?_;refine tkA 7 17 hSc0 ?_;refine tkA 8 18 hSc0 ?_;refine tkA 9 19 hSc0 ?_;refine tkA 10 20 hSc0 ?_;refine tkA 11 21 hSc0 ?_;refine tkA 12 22 hSc0 ?_;refine tkA 13 23 hSc0 ?_;refine tkA 14 24 hSc0 ?_;refine tkA 15 25 hSc0 ?_;refine tkA 16 26 hSc0 ?_;refine tkA 17 27 hSc0 ?_;refine tkA 18 28 hSc0 ?_;refine tkA 19 29 hSc0 ?_;refine tkA 20 30 hSc0 ?_;refine tkA 21 31 hSc0 ?_;refine tkA 22 32 hSc0 ?_;refine held_one 23 rfl (by kernel_rfl) (by rfl) (fun K hK => ?_);go_simp
    go_at_call 30
    refine (HFi.out wr.drew hBc0).mono ?_;rintro e wc1 ⟨rfl, hbc1⟩;have hBc1 : Below wr.heap.size wr wc1 := below_step hBc0 hbc1;have hSc1 := Ai (ck hBc1 c0) (Ai (ck hBc1 c1) (ck hBc1 c3));refine hK.out _ _ hSc1 ?_;clear hK K;refine tkA 24 34 hSc1 ?_;refine tkA 25 35 hSc1 ?_;refine wpAnyH_done (by kernel_rfl) ?_ _;have hBw2 := Hq (hBw.out.trans (hBc1.mono hBs));clear hBc0 hSc0 hBc1 hSc1 hbc1 c0 c1 c3 hN;go_wp2
    go_roundw
    case rel => exact ⟨k + 1, by go_num, by omega, hBw2, hOk⟩
    case measure => simp [intOf]; omega
   ·have t4 : decide (0 ≤ r) = true := decide_eq_true (by omega);have eR : R = false := by
     rw [H.out.2.2];exact right_no (k := k) (by rw [H.out.2.1]; exact hlt) (by unfold okAt; rw [HX.out.1]; simp only; rw [← Hr.out, decide_eq_false hr0, Bool.and_false])
    subst eR;go_wp2_with fail;refine held_begin (fun w' : World => w'.cell? ⟨b, off + k * 4, none⟩ = some (.int .i64 f.n) ∧ w'.cell? ⟨b, off + k * 4 + 1, none⟩ = some (.int .i64 f.d) ∧ w'.cell? ⟨b, off + k * 4 + 3, none⟩ = some (.int .i64 f.c)) (by kernel_rfl) ?_;have hBc0 : Below wr.heap.size wr wr.drew := (Below.refl _ _).drew;have hSc0 := Ai c0 (Ai c1 c3);refine tkA 0 10 hSc0 ?_;refine tkA 1 11 hSc0 ?_;refine tkA 2 12 hSc0 ?_;refine tkA 3 13 hSc0 ?_;refine tkA 4 14 hSc0 ?_;refine tkA 5 15 hSc0 ?_;refine tkA 6 16 hSc0 ?_;refine tkA 7 17 hSc0 ?_;refine tkA 8 18 hSc0 ?_;refine tkA 9 19 hSc0 ?_;refine tkA 10 20 hSc0 ?_;refine tkA 11 21 hSc0 ?_;refine tkA 12 22 hSc0 ?_;refine tkA 13 23 hSc0 ?_;refine tkA 14 24 hSc0 ?_;refine tkA 15 25 hSc0 ?_;refine tkA 16 26 hSc0 ?_;refine tkA 17 27 hSc0 ?_;refine tkA 18 28 hSc0 ?_;refine tkA 19 29 hSc0 ?_;refine tkA 20 30 hSc0 ?_;refine tkA 21 31 hSc0 ?_;refine tkA 22 32 hSc0 ?_;refine held_one 23 rfl (by kernel_rfl) (by rfl) (fun K hK => ?_);go_simp
    go_at_call 30
    refine (HFi.out wr.drew hBc0).mono ?_;rintro e wc1 ⟨rfl, hbc1⟩;have hBc1 : Below wr.heap.size wr wc1 := below_step hBc0 hbc1;have hSc1 := Ai (ck hBc1 c0) (Ai (ck hBc1 c1) (ck hBc1 c3));refine hK.out _ _ hSc1 ?_;clear hK K;refine tkA 24 34 hSc1 ?_;refine tkA 25 35 hSc1 ?_;refine wpAnyH_done (by kernel_rfl) ?_ _;have hBw2 := hBw.out.trans (hBc1.mono hBs);clear hBc0 hSc0 hBc1 hSc1 hbc1 c0 c1 c3 hN;go_wp2
    go_ret
    exact ⟨rfl, hBw2⟩
  ·obtain rfl : k = q := by omega
   have eR : R = true := by
    rw [H.out.2.2];exact right_yes fun j hj => hN.out j (by rw [H.out.2.1] at hj; exact hj)
   subst eR;have t1 : decide (k < k) = false := decide_eq_false (by omega);clear hlt hN;go_wp2
   go_ret
   exact ⟨rfl, hBw.out⟩
end
section
open Go.RowKit
open PK
def orderF (L : List Nat) : List Nat := (List.range L.length).mergeSort (fun a b => decide (keyL L a ≤ keyL L b))
theorem orderF_perm (L : List Nat) : (orderF L).Perm (List.range L.length) := List.mergeSort_perm _ _
theorem orderF_asc (L : List Nat) : Asc (keyL L) (orderF L) := by
 have := List.pairwise_mergeSort (le := fun a b => decide (keyL L a ≤ keyL L b)) (fun a b c h1 h2 => by simp at *; omega) (fun a b => by simp; omega) (List.range L.length);exact this.imp fun h => by simpa using h
theorem order_is {L Z : List Nat} {n : Nat} (hL : L.length = n) (hZ : Z.Perm (List.range n)) (aZ : Asc (keyL L) Z) : Z = orderF L :=
 order_unique hL hZ (by have := orderF_perm L; rwa [hL] at this) aZ (orderF_asc L)
def placeF (S : Shp) (l : List Fe) (p : Nat) : List Fe := placeL S l (orderF (fitsL S l)) p
theorem orderF_perm' (S : Shp) (l : List Fe) : (orderF (fitsL S l)).Perm (List.range l.length) := by have := orderF_perm (fitsL S l); rwa [fitsL_len] at this
theorem placeF_len {S : Shp} {l : List Fe} {p : Nat} (h : p ≤ roomF S l) : (placeF S l p).length = p := by
 unfold placeF;rw [placeL_len, fitSum_perm (orderF_perm' S l)]; omega
end
section
open Go.RowKit
open Go.ChangeMaps (setBlock heap_setBlock_same heap_setBlock_other)
def spotP (a b : Int) : Value := .agg #[.int .i64 a, .int .i64 b]
theorem spotLawP : Maps.Keyed Tryz.prog 61 :=
 Maps.Keyed.of_law (deep_law_gate laidOut (of_decide_eq_true (by kernel_rfl)) (of_decide_eq_true (by kernel_rfl)) (by kernel_rfl) (by kernel_rfl))
theorem key_twoP {P : Program} {k e : TypeId} {fs : Array Field} {f0 f1 : Field} {m : Nat} (hk : P.underlying k = some (.struct fs)) (hf : fs = #[f0, f1]) (ht0 : f0.type = e) (ht1 : f1.type = e) (ho0 : f0.offset = 0) (ho1 : f1.offset = 1)
  (hn0 : f0.name ≠ "_") (hn1 : f1.name ≠ "_") (he : P.underlying e = some (.int .i64)) (hkt : P.keyType k = true) (hs : P.types.size = m + 1) (c1 : P.cellsOf k = 2) (c2 : P.cellsOf e = 1)
  {a b : Int} (ha : (Lit.int .i64 a).wf = true) (hb : (Lit.int .i64 b).wf = true) : ∃ l, keyOf P k (.agg #[.int .i64 a, .int .i64 b]) = some l := by
 subst hf;unfold keyOf;simp only [hk];rw [hs];simp [hkt, Value.formed, hk, Program.keyLits, c1, c2, Value.cells, ha, hb, he, ht0, ht1, ho0, ho1, hn0, hn1]
theorem spotKeyP {a b : Int} (ha : (Lit.int .i64 a).wf = true) (hb : (Lit.int .i64 b).wf = true) : ∃ l, keyOf Tryz.prog 61 (spotP a b) = some l :=
 key_twoP (e := 3) (m := Tryz.prog.types.size - 1) Tryz.underlying61 rfl rfl rfl rfl rfl (by decide) (by decide) Tryz.underlying3 (by kernel_rfl) (by kernel_rfl) (by kernel_rfl) (by kernel_rfl) ha hb
theorem spotP_inj {a b c d : Int} (h : spotP a b = spotP c d) : a = c ∧ b = d := by
 unfold spotP at h;simp at h;exact h
abbrev Ents := List ((Int × Int) × Int)
def EntAt (w : World) (m : Nat) (en : Ents) : Prop :=
 ∃ es clock, w.heap[m]? = some (.map es clock) ∧ es.toList.map (fun e => (e.key, e.val)) = en.map (fun p => (spotP p.1.1 p.1.2, Value.int .i64 p.2)) ∧ ∀ s ∈ en, (Lit.int .i64 s.1.1).wf = true ∧ (Lit.int .i64 s.1.2).wf = true
theorem EntAt.lt {w : World} {m : Nat} {en : Ents} (h : EntAt w m en) : m < w.heap.size := by
 obtain ⟨es, clock, hb, _⟩ := h;exact (Array.getElem?_eq_some_iff.1 hb).1
theorem EntAt.of_block {w w' : World} {m : Nat} {en : Ents} (h : EntAt w m en) (e : w'.heap[m]? = w.heap[m]?) : EntAt w' m en := by
 obtain ⟨es, clock, hb, h2⟩ := h;exact ⟨es, clock, e.trans hb, h2⟩
theorem EntAt.keys {en : Ents} {es : Array MapEntry} (h : es.toList.map (fun e => (e.key, e.val)) = en.map (fun p => (spotP p.1.1 p.1.2, Value.int .i64 p.2))) (hs : ∀ s ∈ en, (Lit.int .i64 s.1.1).wf = true ∧ (Lit.int .i64 s.1.2).wf = true) : ∀ e ∈ es.toList, ∃ l, keyOf Tryz.prog 61 e.key = some l := by
 intro e he;have hm : (e.key, e.val) ∈ es.toList.map (fun e => (e.key, e.val)) := List.mem_map.2 ⟨e, he, rfl⟩;rw [h] at hm;obtain ⟨p, hp, e1⟩ := List.mem_map.1 hm;obtain ⟨b1, b2⟩ := hs _ hp;rw [show e.key = spotP p.1.1 p.1.2 from (congrArg Prod.fst e1).symm];exact spotKeyP b1 b2
theorem EntAt.new (w : World) : EntAt (w.alloc (.map #[] 0)) w.heap.size [] := ⟨#[], 0, (MapKept.heap_alloc w _).1, rfl, by simp⟩
theorem EntAt.hit {w : World} {m i : Nat} {en : Ents} {s : Int × Int} {v : Int} (h : EntAt w m en) (hi : en[i]? = some (s, v)) (hn : (en.map (·.1)).Nodup) :
  (Instr.lookup 174 (.map (some m)) (.agg #[.int .i64 s.1, .int .i64 s.2]) true).run Tryz.prog w = .ok (.tuple #[.int .i64 v, .bool true]) w := by
 obtain ⟨es, clock, hb, hes, hs⟩ := h;obtain ⟨b1, b2⟩ := hs (s, v) (List.mem_of_getElem? hi);obtain ⟨l, hl⟩ := spotKeyP (a := s.1) (b := s.2) b1 b2;have hat : es.toList[i]?.map (fun e => (e.key, e.val)) = some (spotP s.1 s.2, Value.int .i64 v) := by
  rw [← List.getElem?_map, hes, List.getElem?_map, hi]; rfl
 rcases spotLawP.find w hl es.toList (EntAt.keys hes hs) with ⟨_, h2⟩ | ⟨j, e0, h1, h2, h3⟩
 ·obtain ⟨e, he, hee⟩ := Option.map_eq_some_iff.1 hat;exact absurd (congrArg Prod.fst hee) (h2 e (List.mem_of_getElem? he))
 ·have hj : es.toList[j]?.map (fun e => (e.key, e.val)) = some (spotP s.1 s.2, e0.val) := by rw [h2, ← h3]; rfl
  rw [← List.getElem?_map, hes, List.getElem?_map] at hj
  cases hsj : en[j]? with
  | none => rw [hsj] at hj; simp at hj
  | some s' =>
   rw [hsj] at hj;simp at hj;obtain ⟨g1, g2⟩ := hj;obtain ⟨g3, g4⟩ := spotP_inj g1;have hij : i = j := by
    have e1 : (en.map (·.1))[i]? = some s := by rw [List.getElem?_map, hi]; rfl
    have e2 : (en.map (·.1))[j]? = some s := by rw [List.getElem?_map, hsj]; cases s; cases s' with | mk a b => cases a; simp at g3 g4; simp [g3, g4]
    obtain ⟨l1, x1⟩ := List.getElem?_eq_some_iff.1 e1;obtain ⟨l2, x2⟩ := List.getElem?_eq_some_iff.1 e2;have hp := List.pairwise_iff_getElem.1 hn;rcases Nat.lt_trichotomy i j with h | h | h
    ·exact absurd (x1.trans x2.symm) (hp i j l1 l2 h)
    ·exact h
    ·exact absurd (x2.trans x1.symm) (hp j i l2 l1 h)
   subst hij;rw [hi] at hsj
   cases hsj
   have h1' := h1;rw [show spotP s.1 s.2 = Value.agg #[.int .i64 s.1, .int .i64 s.2] from rfl] at h1' hl;simp [Instr.lookup, run_underlying Tryz.underlying174, MapKept.run_getObj_map hb, spotLawP.check w _ hl, h1', Result.andThen, ← g2]
theorem EntAt.miss {w : World} {m : Nat} {en : Ents} {a b : Int} (h : EntAt w m en) (ha : (Lit.int .i64 a).wf = true) (hb' : (Lit.int .i64 b).wf = true) (hno : ∀ s ∈ en, ¬ (s.1.1 = a ∧ s.1.2 = b)) :
  (Instr.lookup 174 (.map (some m)) (.agg #[.int .i64 a, .int .i64 b]) true).run Tryz.prog w = .ok (.tuple #[.int .i64 0, .bool false]) w := by
 obtain ⟨es, clock, hb, hes, hs⟩ := h;obtain ⟨l, hl⟩ := spotKeyP ha hb';rcases spotLawP.find w hl es.toList (EntAt.keys hes hs) with ⟨h1, h2⟩ | ⟨j, e0, h1, h2, h3⟩
 ·have h1' := h1;rw [show spotP a b = Value.agg #[.int .i64 a, .int .i64 b] from rfl] at h1' hl;simp [Instr.lookup, run_underlying Tryz.underlying174, MapKept.run_getObj_map hb, spotLawP.check w _ hl, h1', Result.andThen]
 ·exfalso;have hj : es.toList[j]?.map (fun e => (e.key, e.val)) = some (spotP a b, e0.val) := by rw [h2, ← h3]; rfl
  rw [← List.getElem?_map, hes, List.getElem?_map] at hj
  cases hsj : en[j]? with
  | none => rw [hsj] at hj; simp at hj
  | some s' =>
   rw [hsj] at hj;simp at hj;exact hno s' (List.mem_of_getElem? hsj) (spotP_inj hj.1)
theorem EntAt.put {w : World} {m : Nat} {en : Ents} {s : Int × Int} (v : Int) (h : EntAt w m en) (h1 : (Lit.int .i64 s.1).wf = true) (h2 : (Lit.int .i64 s.2).wf = true) (hno : s ∉ en.map (·.1)) :
  ∃ w', (Instr.mapUpdate 174 (.map (some m)) (.agg #[.int .i64 s.1, .int .i64 s.2]) (.int .i64 v)).run Tryz.prog w = .ok () w' ∧ EntAt w' m (en ++ [(s, v)]) ∧ w.grownBy w' (some m) := by
 obtain ⟨es, clock, hb, hes, hs⟩ := h;obtain ⟨l, hl⟩ := spotKeyP (a := s.1) (b := s.2) h1 h2;rcases spotLawP.find w hl es.toList (EntAt.keys hes hs) with ⟨f1, _⟩ | ⟨j, e0, _, f2, f3⟩
 ·refine ⟨setBlock w m (.map (es.push ⟨spotP s.1 s.2, .int .i64 v, clock⟩) (clock + 1)), ?_, ⟨_, _, heap_setBlock_same hb _, ?_, ?_⟩, ⟨rfl, rfl, rfl, by simp [setBlock], fun i _ hi => heap_setBlock_other hb _ (fun e => hi (by rw [e]))⟩⟩
  ·have f1' := f1;rw [show spotP s.1 s.2 = Value.agg #[.int .i64 s.1, .int .i64 s.2] from rfl] at f1' hl ⊢;simp [Instr.mapUpdate, run_underlying Tryz.underlying174, MapKept.run_getObj_map hb, spotLawP.check w false hl, f1', MapKept.run_setObj_map _ hb, Result.andThen, setBlock]
  ·rw [Array.toList_push, List.map_append, hes, List.map_append]; rfl
  ·intro t ht;rcases List.mem_append.1 ht with ht | ht
   ·exact hs t ht
   ·simp at ht; subst ht; exact ⟨h1, h2⟩
 ·exfalso;have hj : es.toList[j]?.map (fun e => (e.key, e.val)) = some (spotP s.1 s.2, e0.val) := by rw [f2, ← f3]; rfl
  rw [← List.getElem?_map, hes, List.getElem?_map] at hj
  cases hsj : en[j]? with
  | none => rw [hsj] at hj; simp at hj
  | some s' =>
   rw [hsj] at hj;simp at hj;obtain ⟨g3, g4⟩ := spotP_inj hj.1;exact hno (List.mem_map.2 ⟨s', List.mem_of_getElem? hsj, by cases s; cases s' with | mk a b => cases a; simp at g3 g4; simp [g3, g4]⟩)
end
section
open Go.RowKit
def OwnF (w : World) (g : Nat) (l : List Fe) : Prop :=
 ∃ cur : Array Value, w.heap[g]? = some (.cells cur 63 (0, 0)) ∧ cur.toList.take (l.length * 4) = l.flatMap feC
theorem OwnF.lt {w : World} {g : Nat} {l : List Fe} (h : OwnF w g l) : g < w.heap.size := by obtain ⟨cur, h1, _⟩ := h; exact blk_lt h1
theorem OwnF.of_block {w w' : World} {g : Nat} {l : List Fe} (h : OwnF w g l) (e : w'.heap[g]? = w.heap[g]?) : OwnF w' g l := by
 obtain ⟨cur, h1, h2⟩ := h; exact ⟨cur, e.trans h1, h2⟩
theorem OwnF.cell {w : World} {g k r : Nat} {l : List Fe} {f : Fe} {u : Value} (h : OwnF w g l) (hk : l[k]? = some f) (hr : r < 4) (hu : (feC f)[r]? = some u) : w.cell? ⟨g, k * 4 + r, none⟩ = some u := by
 obtain ⟨cur, h1, h2⟩ := h;have hl := (List.getElem?_eq_some_iff.1 hk).1;refine cell_blk h1 ?_;have e : (cur.toList.take (l.length * 4))[k * 4 + r]? = (l.flatMap feC)[k * 4 + r]? := congrArg (fun x => x[k * 4 + r]?) h2;rw [List.getElem?_take, if_pos (by omega), fe_flat hk hr, hu] at e;simpa using e
theorem OwnF.frozen {w : World} {g o : Nat} {l : List Fe} (h : OwnF w g l) : w.frozen? ⟨g, o, none⟩ = false := by obtain ⟨cur, h1, _⟩ := h; exact frozen_blk h1
theorem OwnF.fes {w : World} {g : Nat} {l : List Fe} (h : OwnF w g l) : Fes w w.heap.size (some ⟨g, 0, none⟩) l := by
 refine .inr ⟨g, 0, rfl, h.lt, fun i f hf => ?_⟩;rw [Nat.zero_add];exact ⟨h.cell hf (by omega) (r := 0) rfl, h.cell hf (r := 1) (by omega) rfl, h.cell hf (r := 2) (by omega) rfl, h.cell hf (r := 3) (by omega) rfl⟩
theorem fe_set : ∀ {l : List Fe} {k : Nat} {f : Fe} (m : Nat) (c : Int), l[k]? = some f → (l.set k ⟨f.n, f.d, m, c⟩).flatMap feC = ((l.flatMap feC).set (k * 4 + 2) (.int .u64 (m : Nat))).set (k * 4 + 3) (.int .i64 c)
 | [], _, _, _, _, h => by simp at h
 | x :: l, 0, f, m, c, h => by simp at h; subst h; simp [feC]
 | x :: l, k + 1, f, m, c, h => by
  have ih := fe_set m c (l := l) (k := k) (f := f) (by simpa using h);rw [List.set_cons_succ, List.flatMap_cons, ih, List.flatMap_cons, show (k + 1) * 4 + 2 = k * 4 + 2 + 4 by omega, show (k + 1) * 4 + 3 = k * 4 + 3 + 4 by omega];simp [feC]
theorem OwnF.put {w : World} {g k : Nat} {l : List Fe} {f : Fe} (m : Nat) (c : Int) (h : OwnF w g l) (hk : l[k]? = some f) :
  OwnF ((w.setCell ⟨g, k * 4 + 2, none⟩ (.int .u64 (m : Nat))).setCell ⟨g, k * 4 + 3, none⟩ (.int .i64 c)) g (l.set k ⟨f.n, f.d, m, c⟩) := by
 obtain ⟨cur, h1, h2⟩ := h;refine ⟨_, blk_put _ (blk_put _ h1), ?_⟩;rw [fe_set m c hk, ← h2, List.length_set];simp only [Array.toList_setIfInBounds, List.take_set]
def lessC (f s : Fe) : Int × Fe := if MM.sub s.m f.m ≠ 0 ∨ f.c < s.c then (5, f) else (0, ⟨f.n, f.d, MM.sub f.m s.m, f.c - s.c⟩)
def moreC (f s : Fe) : Int × Fe := if s.m &&& f.m ≠ 0 then (4, f) else if 1048576 - f.c < s.c then (14, f) else (0, ⟨f.n, f.d, f.m ||| s.m, f.c + s.c⟩)
set_option maxRecDepth 100000 in
set_option maxHeartbeats 4000000 in
theorem less_cl (g k : Nat) (l : List Fe) (f s : Fe) (w : World) (h : OwnF w g l) (hk : l[k]? = some f) (hs : FeOk s) (hf : FeOk f) (hc0 : 0 ≤ f.c) (hc1 : f.c ≤ 1048576) (hs0 : 0 ≤ s.c) :
  Calls Tryz.prog 104 #[.pointer (some ⟨g, k * 4, none⟩), feV s] w fun e w' => e = .returned (.int .i64 (lessC f s).1) ∧ OwnF w' g (if (lessC f s).1 = 0 then l.set k (lessC f s).2 else l) ∧ Foot (· = g) w w' := by
 have hB1 := (Below.refl w.heap.size w).alloc (Nat.le_refl _) (.cells #[.int .i64 s.n, .int .i64 s.d, .int .u64 (s.m : Nat), .int .i64 s.c] 64);have hl := h.lt;have h1 : OwnF (w.alloc (.cells #[.int .i64 s.n, .int .i64 s.d, .int .u64 (s.m : Nat), .int .i64 s.c] 64)) g l := h.of_block (hB1.block g hl);have c2 := h1.cell hk (r := 2) (by omega) rfl;have c3 := h1.cell hk (r := 3) (by omega) rfl;have z2 : (w.alloc (.cells #[.int .i64 s.n, .int .i64 s.d, .int .u64 (s.m : Nat), .int .i64 s.c] 64)).frozen? ⟨g, k * 4 + 2, none⟩ = false := h1.frozen;have z3 : (w.alloc (.cells #[.int .i64 s.n, .int .i64 s.d, .int .u64 (s.m : Nat), .int .i64 s.c] 64)).frozen? ⟨g, k * 4 + 3, none⟩ = false := h1.frozen;have HP := Hq h;have HB := Hq hB1;have HF := Hq hk;have ks := hs.m;have kf := hf.m;have b1 := bounds_i64 hs.c;obtain ⟨fn, fd, fm, fc⟩ := f;obtain ⟨x, y, m, c⟩ := s;unfold feV lessC;simp only at *;clear h h1 hk hs hf hB1;obtain ⟨X, hX⟩ := nx (MM.sub m fm);have hXn := not_u64 m fm ks kf;rw [← hX] at hXn ⊢;clear hX;by_cases hm : X = 0
 ·have t1 : ((X : Int) != 0) = false := by rw [hm]; rfl
  by_cases hc : fc < c
  ·have t2 : decide (fc < c) = true := decide_eq_true hc;simp only [if_pos (show X ≠ 0 ∨ fc < c from .inr hc)];rw [if_neg (by decide)];clear hc hm;go_enter Tryz.func104, Tryz.ntmps104;go_wp2_with fail;go_quiet (fail);go_wp2
   go_ret
   exact ⟨rfl, HP.out.of_block (HB.out.block g hl), Foot.of_below ⟨HB.out.os, HB.out.tape, HB.out.output, HB.out.size, HB.out.block⟩⟩
  ·have t2 : decide (fc < c) = false := decide_eq_false hc;simp only [if_neg (show ¬ (X ≠ 0 ∨ fc < c) by rintro (h | h); exact h hm; exact hc h)];have hc2 : c ≤ fc := (by omega);clear hc hm;go_enter Tryz.func104, Tryz.ntmps104;go_wp2_with fail;go_quiet (fail);go_wp2;obtain ⟨Y, hY⟩ := nx (MM.sub fm m);have hYn := not_u64 fm m kf ks;rw [← hY] at hYn;have HY := Hq hY;clear hY;obtain ⟨W, hW⟩ := nx ((w.alloc (.cells #[.int .i64 x, .int .i64 y, .int .u64 (m : Nat), .int .i64 c] 64)).drewN nq);have hBW : Below w.heap.size w W := by rw [hW]; exact ⟨HB.out.os, HB.out.tape, HB.out.output, HB.out.size, HB.out.block⟩
   have hbW : W.heap[w.heap.size]? = some (.cells #[.int .i64 x, .int .i64 y, .int .u64 (m : Nat), .int .i64 c] 64 (0, 0)) := by rw [hW]; exact heap_alloc_new w _
   have hOW : OwnF W g l := HP.out.of_block (hBW.block g hl);have d2 := hOW.cell HF.out (r := 2) (by omega) rfl;have d3 := hOW.cell HF.out (r := 3) (by omega) rfl;have y2 : W.frozen? ⟨g, k * 4 + 2, none⟩ = false := hOW.frozen;have y3 : W.frozen? ⟨g, k * 4 + 3, none⟩ = false := hOW.frozen;have e2 : W.cell? ⟨w.heap.size, 2, none⟩ = some (.int .u64 (m : Nat)) := cell_blk (i := 2) hbW rfl;have e3 : W.cell? ⟨w.heap.size, 3, none⟩ = some (.int .i64 c) := cell_blk (i := 3) hbW rfl;have hne : g ≠ w.heap.size := (by omega);(try rw [← hW]);clear hW c2 c3 z2 z3;have HW := Hq (Ai hBW (Ai hbW hOW));clear hBW hbW hOW
   go_still_tail 9, (by kernel_rfl)
   change wpList _ _ _ _ _ W.drew
   go_wp2;obtain ⟨W2, hW2⟩ := nx ((W.setCell ⟨g, k * 4 + 2, none⟩ (.int .u64 (Y : Nat))).drew);have q3 : W2.cell? ⟨g, k * 4 + 3, none⟩ = some (.int .i64 fc) := by rw [hW2]; go_simp
   have r3 : W2.frozen? ⟨g, k * 4 + 3, none⟩ = false := by rw [hW2]; go_simp
   have s3 : W2.cell? ⟨w.heap.size, 3, none⟩ = some (.int .i64 c) := by rw [hW2]; go_simp
   rw [← hW2];have HW2 := Hq hW2;clear hW2 d2 d3 y2 y3 e2 e3
   go_still_tail 9, (by kernel_rfl)
   change wpList _ _ _ _ _ W2.drew
   go_wp2
   go_ret
   refine ⟨rfl, ?_, ?_⟩
   ·(try rw [if_pos rfl]);rw [← HY.out];have h9 := HW.out.2.2.put Y (fc - c) HF.out;rw [HW2.out];exact h9
   ·rw [HW2.out];refine (Foot.setCell (p := ⟨g, _, none⟩) (Foot.setCell (p := ⟨g, _, none⟩) (Foot.of_below HW.out.1) (.inl ?_) _).drew (.inl ?_) _).drew <;> rfl
 ·have t1 : ((X : Int) != 0) = true := by simp; omega
  simp only [if_pos (show X ≠ 0 ∨ fc < c from .inl hm)];rw [if_neg (by decide)];clear hm;go_enter Tryz.func104, Tryz.ntmps104;go_wp2_with fail;go_quiet (fail);go_wp2
  go_ret
  exact ⟨rfl, HP.out.of_block (HB.out.block g hl), Foot.of_below ⟨HB.out.os, HB.out.tape, HB.out.output, HB.out.size, HB.out.block⟩⟩
set_option maxRecDepth 100000 in
set_option maxHeartbeats 4000000 in
theorem more_cl (g k : Nat) (l : List Fe) (f s : Fe) (w : World) (h : OwnF w g l) (hk : l[k]? = some f) (hs : FeOk s) (hf : FeOk f) (hc0 : 0 ≤ f.c) (hc1 : f.c ≤ 1048576) (hs0 : 0 ≤ s.c) :
  Calls Tryz.prog 106 #[.pointer (some ⟨g, k * 4, none⟩), feV s] w fun e w' => e = .returned (.int .i64 (moreC f s).1) ∧ OwnF w' g (if (moreC f s).1 = 0 then l.set k (moreC f s).2 else l) ∧ Foot (· = g) w w' := by
 have hB1 := (Below.refl w.heap.size w).alloc (Nat.le_refl _) (.cells #[.int .i64 s.n, .int .i64 s.d, .int .u64 (s.m : Nat), .int .i64 s.c] 64);have hl := h.lt;have h1 : OwnF (w.alloc (.cells #[.int .i64 s.n, .int .i64 s.d, .int .u64 (s.m : Nat), .int .i64 s.c] 64)) g l := h.of_block (hB1.block g hl);have c2 := h1.cell hk (r := 2) (by omega) rfl;have c3 := h1.cell hk (r := 3) (by omega) rfl;have z2 : (w.alloc (.cells #[.int .i64 s.n, .int .i64 s.d, .int .u64 (s.m : Nat), .int .i64 s.c] 64)).frozen? ⟨g, k * 4 + 2, none⟩ = false := h1.frozen;have z3 : (w.alloc (.cells #[.int .i64 s.n, .int .i64 s.d, .int .u64 (s.m : Nat), .int .i64 s.c] 64)).frozen? ⟨g, k * 4 + 3, none⟩ = false := h1.frozen;have HP := Hq h;have HB := Hq hB1;have HF := Hq hk;have ks := hs.m;have kf := hf.m;have b1 := bounds_i64 hs.c;obtain ⟨fn, fd, fm, fc⟩ := f;obtain ⟨x, y, m, c⟩ := s;unfold feV moreC;simp only at *;clear h h1 hk hs hf hB1;obtain ⟨X, hX⟩ := nx (m &&& fm);have hXn := and_u64 m fm ks kf;rw [← hX] at hXn ⊢;clear hX;by_cases hm : X = 0
 ·have t1 : ((X : Int) != 0) = false := by rw [hm]; rfl
  by_cases hc : 1048576 - fc < c
  ·have t2 : decide (1048576 - fc < c) = true := decide_eq_true hc;simp only [if_neg (show ¬ X ≠ 0 from fun h => h hm), if_pos hc];rw [if_neg (by decide)];clear hc hm;go_enter Tryz.func106, Tryz.ntmps106;go_wp2_with fail;go_quiet (fail);go_wp2;obtain ⟨W1, hW1⟩ := nx ((w.alloc (.cells #[.int .i64 x, .int .i64 y, .int .u64 (m : Nat), .int .i64 c] 64)).drewN nq);have hBW1 : Below w.heap.size w W1 := by rw [hW1]; exact ⟨HB.out.os, HB.out.tape, HB.out.output, HB.out.size, HB.out.block⟩
   have hbW1 : W1.heap[w.heap.size]? = some (.cells #[.int .i64 x, .int .i64 y, .int .u64 (m : Nat), .int .i64 c] 64 (0, 0)) := by rw [hW1]; exact heap_alloc_new w _
   have hOW1 : OwnF W1 g l := HP.out.of_block (hBW1.block g hl);rw [← hW1];clear hW1 c2 c3 z2 z3;have c2 := hOW1.cell HF.out (r := 2) (by omega) rfl;have c3 := hOW1.cell HF.out (r := 3) (by omega) rfl;have e3w : W1.cell? ⟨w.heap.size, 3, none⟩ = some (.int .i64 c) := cell_blk (i := 3) hbW1 rfl;go_quiet (fail);go_wp2
   go_ret
   exact ⟨rfl, hOW1.of_block rfl, (Foot.of_below hBW1).drewN _⟩
  ·have t2 : decide (1048576 - fc < c) = false := decide_eq_false hc;simp only [if_neg (show ¬ X ≠ 0 from fun h => h hm), if_neg hc];have hc2 : fc + c ≤ 1048576 := (by omega);clear hc hm;go_enter Tryz.func106, Tryz.ntmps106;go_wp2_with fail;go_quiet (fail);go_wp2;obtain ⟨W1, hW1⟩ := nx ((w.alloc (.cells #[.int .i64 x, .int .i64 y, .int .u64 (m : Nat), .int .i64 c] 64)).drewN nq);have hBW1 : Below w.heap.size w W1 := by rw [hW1]; exact ⟨HB.out.os, HB.out.tape, HB.out.output, HB.out.size, HB.out.block⟩
   have hbW1 : W1.heap[w.heap.size]? = some (.cells #[.int .i64 x, .int .i64 y, .int .u64 (m : Nat), .int .i64 c] 64 (0, 0)) := by rw [hW1]; exact heap_alloc_new w _
   have hOW1 : OwnF W1 g l := HP.out.of_block (hBW1.block g hl);rw [← hW1];clear hW1 c2 c3 z2 z3;have c2 := hOW1.cell HF.out (r := 2) (by omega) rfl;have c3 := hOW1.cell HF.out (r := 3) (by omega) rfl;have e3w : W1.cell? ⟨w.heap.size, 3, none⟩ = some (.int .i64 c) := cell_blk (i := 3) hbW1 rfl;go_quiet (fail);go_wp2;obtain ⟨Y, hY⟩ := nx (fm ||| m);have hYn := or_u64 fm m kf ks;rw [← hY] at hYn;have HY := Hq hY;clear hY;obtain ⟨W, hW⟩ := nx (W1.drewN nq);have hBW : Below w.heap.size w W := by rw [hW]; exact ⟨hBW1.os, hBW1.tape, hBW1.output, hBW1.size, hBW1.block⟩
   have hbW : W.heap[w.heap.size]? = some (.cells #[.int .i64 x, .int .i64 y, .int .u64 (m : Nat), .int .i64 c] 64 (0, 0)) := by rw [hW]; exact hbW1
   have hOW : OwnF W g l := HP.out.of_block (hBW.block g hl);have d2 := hOW.cell HF.out (r := 2) (by omega) rfl;have d3 := hOW.cell HF.out (r := 3) (by omega) rfl;have y2 : W.frozen? ⟨g, k * 4 + 2, none⟩ = false := hOW.frozen;have y3 : W.frozen? ⟨g, k * 4 + 3, none⟩ = false := hOW.frozen;have e2 : W.cell? ⟨w.heap.size, 2, none⟩ = some (.int .u64 (m : Nat)) := cell_blk (i := 2) hbW rfl;have e3 : W.cell? ⟨w.heap.size, 3, none⟩ = some (.int .i64 c) := cell_blk (i := 3) hbW rfl;have hne : g ≠ w.heap.size := (by omega);(try rw [← hW]);clear hW c2 c3 e3w hBW1 hbW1 hOW1;have HW := Hq (Ai hBW (Ai hbW hOW));clear hBW hbW hOW
   go_still_tail 9, (by kernel_rfl)
   change wpList _ _ _ _ _ W.drew
   go_wp2;obtain ⟨W2, hW2⟩ := nx ((W.setCell ⟨g, k * 4 + 2, none⟩ (.int .u64 (Y : Nat))).drew);have q3 : W2.cell? ⟨g, k * 4 + 3, none⟩ = some (.int .i64 fc) := by rw [hW2]; go_simp
   have r3 : W2.frozen? ⟨g, k * 4 + 3, none⟩ = false := by rw [hW2]; go_simp
   have s3 : W2.cell? ⟨w.heap.size, 3, none⟩ = some (.int .i64 c) := by rw [hW2]; go_simp
   rw [← hW2];have HW2 := Hq hW2;clear hW2 d2 d3 y2 y3 e2 e3
   go_still_tail 9, (by kernel_rfl)
   change wpList _ _ _ _ _ W2.drew
   go_wp2
   go_ret
   refine ⟨rfl, ?_, ?_⟩
   ·(try rw [if_pos rfl]);rw [← HY.out];have h9 := HW.out.2.2.put Y (fc + c) HF.out;rw [HW2.out];exact h9
   ·rw [HW2.out];refine (Foot.setCell (p := ⟨g, _, none⟩) (Foot.setCell (p := ⟨g, _, none⟩) (Foot.of_below HW.out.1) (.inl ?_) _).drew (.inl ?_) _).drew <;> rfl
 ·have t1 : ((X : Int) != 0) = true := by simp; omega
  simp only [if_pos (show X ≠ 0 from hm)];rw [if_neg (by decide)];clear hm;go_enter Tryz.func106, Tryz.ntmps106;go_wp2_with fail;go_quiet (fail);go_wp2
  go_ret
  exact ⟨rfl, HP.out.of_block (HB.out.block g hl), Foot.of_below ⟨HB.out.os, HB.out.tape, HB.out.output, HB.out.size, HB.out.block⟩⟩
end
end Go.Proofs.YtkkkhonjcbhelaaGreatDoor
