import Derived.Laws.EntriesVeiled
import Derived.Lib.SliceRun
import Derived.Test.YtkkkhonjcbhelaaGreatDoorProBase
import Derived.Test.YtkkkhonjcbhelaaGreatDoorPackS
set_option maxRecDepth 100000
set_option linter.unusedVariables false
namespace Go.Proofs.YtkkkhonjcbhelaaGreatDoor
section
open Go.RowKit
namespace PR
def sl (hs : List Ho) : List Fe := hs.flatMap Ho.sl
def over (hs : List Ho) (t : Int) : List Ho := hs.filter fun h => decide (h.u ≤ t)
theorem sl_app (a b : List Ho) : sl (a ++ b) = sl a ++ sl b := by simp [sl]
theorem sl_next {l : List Ho} {k : Nat} {x : Ho} (h : l[k]? = some x) : sl (l.take (k + 1)) = sl (l.take k) ++ x.sl := by rw [take_next h, sl_app]; simp [sl]
structure Many (l : List Ho) : Prop where
 n : l.length ≤ 1000
 s : ∀ x ∈ l, x.sl.length ≤ 1000
theorem Many.take {l : List Ho} (h : Many l) (k : Nat) : Many (l.take k) := ⟨by rw [List.length_take]; have := h.n; omega, fun x hx => h.s x (List.mem_of_mem_take hx)⟩
theorem sl_len : ∀ {l : List Ho}, (∀ x ∈ l, x.sl.length ≤ 1000) → (sl l).length ≤ 1000 * l.length
 | [], _ => by simp [sl]
 | x :: l, h => by
  have := sl_len (l := l) fun y hy => h y (List.mem_cons_of_mem _ hy)
  have := h x (by simp);simp only [sl, List.flatMap_cons, List.length_append, List.length_cons] at *;omega
theorem sl_many {l : List Ho} (h : Many l) (k : Nat) : (sl (l.take k)).length ≤ 1000000 := by
 have := sl_len (h.take k).s;have := (h.take k).n;omega
end PR
theorem info_slot4 : (Tryz.prog.info? 64).map (fun i => (i.zero, i.size, i.bytes)) = some (some (.agg #[.int .i64 0, .int .i64 0, .int .u64 0, .int .i64 0]), 4, 32) := by kernel_rfl
open PR
set_option maxHeartbeats 4000000 in
theorem slotsOf_any (A : Option Addr) (c : Nat) (l : List Ho) (w : World) (h : HosIn w w.heap.size A l) (hm : Many l) :
  Calls Tryz.prog 95 #[.slice A l.length c] w fun e w' => ∃ A' c', e = .returned (.slice A' (sl l).length c') ∧ Fes w' w'.heap.size A' (sl l) ∧ Below w.heap.size w w' := by
 obtain ⟨i0, hi, hz0, hz1, hz2⟩ := info_parts info_slot4;obtain ⟨n, hn⟩ := nx (l.length);have hn1 := hm.n;rw [← hn] at hn1 ⊢;have H := Hq (Ai h (Ai hn hm));have HB0 := Hq (Ai (Below.refl w.heap.size w) (show w.ownsRow w.heap.size 64 4 (.slice none 0 0) 0 ((sl (l.take 0)).flatMap feC) from World.ownsRow_nil _ _ _ _));clear h hn hm;go_enter Tryz.func95, Tryz.ntmps95;go_wp2;go_loopw [3, 8] (fun v vi wr => ∃ (k u : Nat) (A : Option Addr) (cp : Nat), vi = .int .i64 k ∧ v = .slice A u cp ∧ k ≤ n ∧ u = (sl (l.take k)).length ∧ Hid (Below w.heap.size w wr ∧ wr.ownsRow w.heap.size 64 4 (.slice A u cp) u ((sl (l.take k)).flatMap feC))) (fun _ vi _ => n - (intOf vi).toNat)
 case atStart => exact ⟨0, 0, none, 0, rfl, rfl, by omega, rfl, HB0⟩
 case round =>
  clear HB0;obtain ⟨k, u, A1, cp, rfl, rfl, hkn, hu, hB⟩ := hrel;by_cases hlt : k < n
  ·have t1 : decide (k < n) = true := decide_eq_true hlt;obtain ⟨x, hx⟩ := get_lt (l := l) (k := k) (by rw [← H.out.2.1]; exact hlt);obtain ⟨b, off, rfl, hb, hall⟩ := H.out.1.at_.at_ hx;have hk := (hall k x hx).keep hb hB.out.1;have h0 : wr.cell? ⟨b, off + k * 5, none⟩ = _ := hk 0 _ rfl;have h1 := hk 1 _ rfl;have h2 := hk 2 _ rfl;have h3 := hk 3 _ rfl;have h4 := hk 4 _ rfl;have hu6 := sl_many H.out.2.2 k;rw [← hu] at hu6;obtain ⟨v, hv⟩ := nx (x.sl.length);have hv6 := H.out.2.2.s x (List.mem_of_getElem? hx);rw [← hv] at h4 hv6;have hsz := hB.out.1.size;have hF := (H.out.1.sl x (List.mem_of_getElem? hx)).keep hB.out.1 hsz;have HV := Hq (Ai hv (Ai hu hB.out));have hn1 : Hid (u + v = (sl (l.take (k + 1))).length) := Hq (by rw [sl_next hx, List.length_append, ← hu, ← hv]);have hn2 : Hid ((sl (l.take (k + 1))).flatMap feC = (sl (l.take k)).flatMap feC ++ x.sl.flatMap feC) := Hq (by rw [sl_next hx, List.flatMap_append]);have HO := Hq (fun o => hB.out.2.alloc o);have HE := Hq (fun o => (fes_els hF).keep (B' := (wr.alloc o).heap.size) ((Below.refl wr.heap.size wr).alloc (Nat.le_refl _) o) (by simp));clear hv hu hB hk hall hx hF;go_wp2_with (at_builtin; refine wpList_append_els (C := feC) (k := 4) _ rfl _ _ 37 rfl w.heap.size 64 i0 _ 32 Tryz.underlying37 hi hz0 hz1 hz2 rfl (by decide) (.slice A1 u cp) u ((sl (l.take k)).flatMap feC) rfl (HO.out _) _ x.A x.c v x.sl rfl (HE.out _) HV.out.1 feC_len1 feC_one1 (by unfold maxLen; omega) (by omega) (by simp; omega) ?_; intro A5 c5 w5 own5 g5 k5);have HN : Hid (Below w.heap.size w w5 ∧ w5.ownsRow w.heap.size 64 4 (.slice A5 (u + v) c5) (u + v) ((sl (l.take (k + 1))).flatMap feC)) := Hq ⟨(HV.out.2.2.1.alloc hsz _).grown g5 (by simp; omega) (fun i e => (HV.out.2.2.2.lt i e).1), by rw [hn2.out]; exact own5⟩;clear own5 g5 k5 HO HE;go_wp2
   go_roundw
   case rel => exact ⟨k + 1, u + v, A5, c5, by go_num, rfl, by omega, hn1.out, HN⟩
   case measure => simp [intOf]; omega
  ·obtain rfl : k = n := by omega
   have t1 : decide (k < k) = false := decide_eq_false hlt;have e9 : l.take k = l := by rw [H.out.2.1]; exact List.take_length
   rw [e9] at hu hB;have HU := Hq hu;clear hu e9;go_wp2
   go_ret
   have ho := hB.out.2;rw [HU.out] at ho ⊢;exact ⟨A1, cp, rfl, fe_own ho, hB.out.1⟩
set_option maxHeartbeats 2000000 in
theorem ended_any (A : Option Addr) (c : Nat) (l : List Ho) (t : Int) (w : World) (h : Hos w w.heap.size A l) (hn : l.length ≤ 1000) (hr : l.Pairwise fun a b => a.u ≤ b.u) :
  Calls Tryz.prog 111 #[.slice A l.length c, .int .i64 t] w fun e w' => e = .returned (.int .i64 (over l t).length) ∧ w = w' ∧ (over l t).length ≤ l.length ∧ l.take (over l t).length = over l t := by
 obtain ⟨n, hnn⟩ : ∃ n, n = l.length := ⟨_, rfl⟩
 rw [← hnn] at hn ⊢;have H := Hq (Ai h (Ai hnn hr));clear h hnn hr;have hall : ∀ k, k ≤ n → (∀ x ∈ l.take k, x.u ≤ t) → (∀ x, l[k]? = some x → t < x.u) → over l t = l.take k := fun k hk h1 h2 => by
  conv => lhs; rw [← List.take_append_drop k l]
  unfold over;rw [List.filter_append, List.filter_eq_self.2 (fun x hx => by simpa using h1 x hx), List.filter_eq_nil_iff.2 (fun x hx => ?_), List.append_nil];obtain ⟨i, hi⟩ := List.mem_iff_getElem?.1 hx;rw [List.getElem?_drop] at hi;have hkl : k < l.length := by have := (List.getElem?_eq_some_iff.1 hi).1; omega
  have h3 := h2 _ (List.getElem?_eq_getElem hkl);have h4 : (l[k]).u ≤ x.u := by
   by_cases h0 : i = 0
   ·subst h0;rw [Nat.add_zero, List.getElem?_eq_getElem hkl] at hi;have := Option.some.inj hi;rw [this]; exact Int.le_refl _
   ·obtain ⟨hi1, hi2⟩ := List.getElem?_eq_some_iff.1 hi;have := List.pairwise_iff_getElem.1 H.out.2.2 k (k + i) hkl hi1 (by omega);rw [hi2] at this;exact this
  simp; omega
 have HA := Hq hall;clear hall;go_enter Tryz.func111, Tryz.ntmps111;go_wp2;go_loopw [8] (fun vi wr => ∃ k : Nat, vi = .int .i64 k ∧ k ≤ n ∧ w = wr ∧ Hid (∀ x ∈ l.take k, x.u ≤ t)) (fun vi _ => n - (intOf vi).toNat)
 case atStart => exact ⟨0, rfl, by omega, rfl, Hq (by simp)⟩
 case round =>
  obtain ⟨k, rfl, hk, rfl, hB⟩ := hrel;by_cases hlt : k < n
  ·have t1 : decide (k < n) = true := decide_eq_true hlt;obtain ⟨x, hx⟩ := get_lt (l := l) (k := k) (by rw [← H.out.2.1]; exact hlt);obtain ⟨b, off, rfl, hb, hall⟩ := H.out.1.at_ hx;have h2 := (hall k x hx) 2 _ rfl;by_cases hu : t < x.u
   ·have t2 : decide (t < x.u) = true := decide_eq_true hu;have e9 := HA.out k hk hB.out fun y hy => by rw [hx] at hy; injection hy with hy; rw [← hy]; exact hu
    have e8 := Hq (show (over l t).length = k ∧ l.take (over l t).length = over l t from by
     have e7 : (over l t).length = k := by rw [e9, List.length_take, ← H.out.2.1]; omega
     exact ⟨e7, by rw [e7, e9]⟩)
    clear e9 hall hx;go_wp2
    go_ret
    refine ⟨?_, ?_, by rw [e8.out.1]; omega, e8.out.2⟩
    ·first | (rw [e8.out.1]; rfl) | rw [e8.out.1]
    ·first | rfl | trivial
   ·have t2 : decide (t < x.u) = false := decide_eq_false hu;have HN : Hid (∀ y ∈ l.take (k + 1), y.u ≤ t) := Hq (fun y hy => by
     rw [take_next hx] at hy;rcases List.mem_append.1 hy with hy | hy
     ·exact hB.out y hy
     ·simp at hy; subst hy; omega)
    clear hall hx;go_wp2
    go_roundw
    case rel => exact ⟨k + 1, by go_num, by omega, by first | rfl | trivial, HN⟩
    case measure => simp [intOf]; omega
  ·obtain rfl : k = n := by omega
   have t1 : decide (k < k) = false := decide_eq_false hlt;have e9 := HA.out k hk hB.out fun y hy => by rw [List.getElem?_eq_none (by rw [← H.out.2.1]; omega)] at hy; cases hy
   have e8 := Hq (show (over l t).length = k ∧ l.take (over l t).length = over l t from by
    have e7 : (over l t).length = k := by rw [e9, List.length_take, ← H.out.2.1]; omega
    exact ⟨e7, by rw [e7, e9]⟩)
   clear e9;go_wp2
   go_ret
   refine ⟨?_, ?_, by rw [e8.out.1]; omega, e8.out.2⟩
   ·first | (rw [e8.out.1]; rfl) | rw [e8.out.1]
   ·first | rfl | trivial
end
section
open Go.RowKit
namespace PR
theorem step_ok {l : List Fe} {s : Fe} (h : (stepL moreC l s).1 = 0) : 0 ≤ s.c ∧ ∃ k f, hitL l s.n s.d = some k ∧ l[k]? = some f ∧ s.m &&& f.m = 0 ∧ s.c ≤ 1048576 - f.c ∧
  stepL moreC l s = (0, l.set k ⟨f.n, f.d, f.m ||| s.m, f.c + s.c⟩) := by
 unfold stepL at *;by_cases h0 : s.c < 0
 ·rw [if_pos h0] at h; exact absurd h (by simp)
 rw [if_neg h0] at h ⊢
 cases hh : hitL l s.n s.d with
 | none => rw [hh] at h; exact absurd h (by simp)
 | some k =>
  rw [hh] at h;obtain ⟨f, hf, _⟩ := hitL_some hh;simp only [hf] at h ⊢;unfold moreC at h ⊢;by_cases hc : s.m &&& f.m ≠ 0
  ·rw [if_pos hc] at h; exact absurd h (by simp)
  ·rw [if_neg hc] at h ⊢;by_cases hc2 : 1048576 - f.c < s.c
   ·rw [if_pos hc2] at h; exact absurd h (by simp)
   ·rw [if_neg hc2];exact ⟨by omega, k, f, rfl, hf, by simpa using hc, by omega, rfl⟩
theorem step_of {l : List Fe} {s f : Fe} {k : Nat} (h0 : 0 ≤ s.c) (hh : hitL l s.n s.d = some k) (hf : l[k]? = some f) (hm : s.m &&& f.m = 0) (hc : s.c ≤ 1048576 - f.c) :
  stepL moreC l s = (0, l.set k ⟨f.n, f.d, f.m ||| s.m, f.c + s.c⟩) := by
 unfold stepL;rw [if_neg (by omega), hh];simp only [hf];unfold moreC;rw [if_neg (by simp [hm]), if_neg (by omega)];rfl
theorem and_or_zero {a b c : Nat} : a &&& (b ||| c) = 0 ↔ a &&& b = 0 ∧ a &&& c = 0 := by
 rw [Nat.and_or_distrib_left, Nat.or_eq_zero_iff]
theorem step_swap {l : List Fe} {s t : Fe} (h1 : (stepL moreC l s).1 = 0) (h2 : (stepL moreC (stepL moreC l s).2 t).1 = 0) :
  (stepL moreC l t).1 = 0 ∧ (stepL moreC (stepL moreC l t).2 s).1 = 0 ∧ (stepL moreC (stepL moreC l t).2 s).2 = (stepL moreC (stepL moreC l s).2 t).2 := by
 obtain ⟨a0, k, f, hk, hf, hm, hc, e1⟩ := step_ok h1;rw [e1] at h2;simp only at h2;obtain ⟨b0, j, g, hj, hg, hn, hd, e2⟩ := step_ok h2;have hsp := spotsL_set (g := ⟨f.n, f.d, f.m ||| s.m, f.c + s.c⟩) hf rfl rfl;rw [hitL_spots hsp] at hj;have hkl := (List.getElem?_eq_some_iff.1 hf).1;by_cases hkj : k = j
 ·subst hkj;rw [List.getElem?_set_self hkl] at hg;simp at hg;subst hg;simp only at hn hd e2;obtain ⟨n1, n2⟩ := and_or_zero.1 hn;have e3 := step_of b0 hj hf n1 (by omega);have hsp3 := spotsL_set (g := ⟨f.n, f.d, f.m ||| t.m, f.c + t.c⟩) hf rfl rfl;have e4 := step_of (l := l.set k ⟨f.n, f.d, f.m ||| t.m, f.c + t.c⟩) (s := s) (k := k) (f := ⟨f.n, f.d, f.m ||| t.m, f.c + t.c⟩) a0 (by rw [hitL_spots hsp3]; exact hk) (List.getElem?_set_self hkl) (by simp only; exact and_or_zero.2 ⟨hm, by rw [Nat.and_comm]; exact n2⟩) (by simp only; omega);rw [e1]; simp only; rw [e2, e3]; simp only; rw [e4];refine ⟨by first | rfl | trivial, by first | rfl | trivial, ?_⟩;simp only [List.set_set]
  congr 1
  simp only [Fe.mk.injEq, true_and];exact ⟨by rw [Nat.or_assoc, Nat.or_comm t.m, Nat.or_assoc], by omega⟩
 ·rw [List.getElem?_set_ne hkj] at hg;have e3 := step_of b0 hj hg hn hd;have hsp3 := spotsL_set (g := ⟨g.n, g.d, g.m ||| t.m, g.c + t.c⟩) hg rfl rfl;have e4 := step_of (l := l.set j ⟨g.n, g.d, g.m ||| t.m, g.c + t.c⟩) (s := s) (k := k) (f := f) a0 (by rw [hitL_spots hsp3]; exact hk) (by rw [List.getElem?_set_ne (Ne.symm hkj)]; exact hf) hm hc;rw [e1]; simp only; rw [e2, e3]; simp only; rw [e4];refine ⟨by first | rfl | trivial, by first | rfl | trivial, ?_⟩;simp only;exact List.set_comm _ _ (Ne.symm hkj)
theorem turn_cons (l : List Fe) (s : Fe) (ss : List Fe) (h : (turnL moreC l (s :: ss)).1 = 0) : (stepL moreC l s).1 = 0 ∧ turnL moreC l (s :: ss) = turnL moreC (stepL moreC l s).2 ss := by
 rw [turnL] at h ⊢;by_cases h0 : (stepL moreC l s).1 = 0
 ·rw [if_pos h0]; exact ⟨h0, rfl⟩
 ·rw [if_neg h0] at h; exact absurd h h0
theorem turn_go {l : List Fe} {s : Fe} (ss : List Fe) (h : (stepL moreC l s).1 = 0) : turnL moreC l (s :: ss) = turnL moreC (stepL moreC l s).2 ss := by rw [turnL, if_pos h]
theorem turn_perm {a b : List Fe} (p : a.Perm b) : ∀ {l : List Fe}, (turnL moreC l a).1 = 0 → turnL moreC l b = turnL moreC l a := by
 induction p with
 | nil => intro l _; rfl
 | cons s p ih =>
  intro l h;obtain ⟨h0, e⟩ := turn_cons l s _ h;rw [e] at h ⊢;rw [turn_go _ h0, ih h]
 | swap s t ss =>
  intro l h;obtain ⟨h0, e⟩ := turn_cons l t _ h;rw [e] at h ⊢;obtain ⟨h1, e1⟩ := turn_cons _ s _ h;rw [e1];obtain ⟨c1, c2, c3⟩ := step_swap h0 h1;rw [turn_go _ c1, turn_go _ c2, c3]
 | trans p q ih1 ih2 =>
  intro l h;have e := ih1 h;rw [ih2 (by rw [e]; exact h), e]
theorem turn_left {l a b : List Fe} (h : (turnL moreC l (a ++ b)).1 = 0) : (turnL moreC l a).1 = 0 := by
 rw [turnL_app] at h;by_cases h0 : (turnL moreC l a).1 = 0
 ·exact h0
 ·rw [if_neg h0] at h; exact h
theorem turn_app {l a b : List Fe} (h : (turnL moreC l a).1 = 0) : turnL moreC l (a ++ b) = turnL moreC (turnL moreC l a).2 b := by rw [turnL_app, if_pos h]
theorem turn_bounds : ∀ {ss l : List Fe}, (∀ f ∈ l, 0 ≤ f.c) → (turnL moreC l ss).1 = 0 → ∀ s ∈ ss, 0 ≤ s.c ∧ s.c ≤ 1048576
 | [], l, _, _, s, hs => by cases hs
 | x :: ss, l, hl, h, s, hs => by
  obtain ⟨h0, e⟩ := turn_cons l x ss h;obtain ⟨a0, k, f, hk, hf, hm, hc, e1⟩ := step_ok h0;have hf0 := hl f (List.mem_of_getElem? hf);rcases List.mem_cons.1 hs with rfl | hs
  ·exact ⟨a0, by omega⟩
  ·rw [e, e1] at h;refine turn_bounds (l := l.set k ⟨f.n, f.d, f.m ||| x.m, f.c + x.c⟩) (fun g hg => ?_) h s hs;rcases List.mem_or_eq_of_mem_set hg with h | rfl
   ·exact hl g h
   ·simp only; omega
def gs (l : List Fe) : Nat := (l.map fun s => MM.cnt s.m).sum
def cs (l : List Fe) : Int := (l.map fun s => s.c).sum
def mine (hs : List Ho) (q : Int) : List Fe := sl (hs.filter fun h => decide (h.q = q))
theorem mine_app (a b : List Ho) (q : Int) : mine (a ++ b) q = mine a q ++ mine b q := by simp [mine, sl]
theorem gs_app (a b : List Fe) : gs (a ++ b) = gs a + gs b := by simp [gs]
theorem cs_app (a b : List Fe) : cs (a ++ b) = cs a + cs b := by simp [cs]
theorem gs_perm {a b : List Fe} (p : a.Perm b) : gs a = gs b := (p.map _).sum_nat
theorem cs_perm {a b : List Fe} (p : a.Perm b) : cs a = cs b := by
 induction p with
 | nil => rfl
 | cons x p ih => simp only [cs, List.map_cons, List.sum_cons] at *; rw [ih]
 | swap x y l => simp only [cs, List.map_cons, List.sum_cons]; omega
 | trans p q i j => exact i.trans j
theorem sl_perm {a b : List Ho} (p : a.Perm b) : (sl a).Perm (sl b) := p.flatMap_right _
theorem mine_perm {a b : List Ho} (p : a.Perm b) (q : Int) : (mine a q).Perm (mine b q) := sl_perm (p.filter _)
theorem mine_sub (hs : List Ho) (q : Int) : ∀ s ∈ mine hs q, s ∈ sl hs := fun s h => by
 unfold mine sl at *;obtain ⟨x, hx, hs⟩ := List.mem_flatMap.1 h;exact List.mem_flatMap.2 ⟨x, (List.mem_filter.1 hx).1, hs⟩
theorem over_sub (hs : List Ho) (t : Int) : ∀ s ∈ sl (over hs t), s ∈ sl hs := fun s h => by
 unfold sl over at *;obtain ⟨x, hx, hs⟩ := List.mem_flatMap.1 h;exact List.mem_flatMap.2 ⟨x, (List.mem_filter.1 hx).1, hs⟩
theorem over_rest (hs : List Ho) (t : Int) : (over hs t ++ hs.filter fun h => !decide (h.u ≤ t)).Perm hs := List.filter_append_perm _ _
def fits (l : List Fe) (g c : Int) (W : Wa) : Bool := W.ok && decide (W.S.g * W.n ≤ g ∧ W.S.c * W.n ≤ c ∧ W.n ≤ roomF W.S l)
def at_ (l : List Fe) (g c : Int) (hs : List Ho) (W : Wa) (t : Int) : Bool :=
 fits (turnL moreC l (sl (over hs t))).2 (g + gs (mine (over hs t) W.q)) (c + cs (mine (over hs t) W.q)) W
def Cand (now : Int) (hs : List Ho) (x : Int) : Prop := x = now ∨ ((∃ h ∈ hs, h.u = x) ∧ now < x ∧ x < 1073741825)
def Least (now : Int) (hs : List Ho) (p : Int → Bool) (t : Int) : Prop :=
 (t = 1073741825 ∧ ∀ x, Cand now hs x → p x = false) ∨ (Cand now hs t ∧ p t = true ∧ ∀ x, Cand now hs x → p x = true → t ≤ x)
theorem Least.same {now : Int} {hs : List Ho} {p : Int → Bool} {t u : Int} (h : Least now hs p t) (k : Least now hs p u) : t = u := by
 rcases h with ⟨e, h⟩ | ⟨h1, h2, h3⟩ <;> rcases k with ⟨e', k⟩ | ⟨k1, k2, k3⟩
 ·rw [e, e']
 ·rw [h _ k1] at k2; cases k2
 ·rw [k _ h1] at h2; cases h2
 ·exact Int.le_antisymm (h3 _ k1 k2) (k3 _ h1 h2)
theorem Least.bounds {now : Int} {hs : List Ho} {p : Int → Bool} {t : Int} (h : Least now hs p t) (h0 : now ≤ 1073741824) : now ≤ t ∧ t ≤ 1073741825 := by
 rcases h with ⟨e, _⟩ | ⟨h1, _⟩
 ·omega
 ·rcases h1 with e | ⟨_, h1, h2⟩ <;> omega
theorem Least.ext {now : Int} {hs hs' : List Ho} {p p' : Int → Bool} {t : Int} (h : Least now hs p t) (hc : ∀ x, Cand now hs' x ↔ Cand now hs x) (hp : ∀ x, p' x = p x) : Least now hs' p' t := by
 rcases h with ⟨e, h⟩ | ⟨h1, h2, h3⟩
 ·exact .inl ⟨e, fun x hx => by rw [hp]; exact h x ((hc x).1 hx)⟩
 ·exact .inr ⟨(hc t).2 h1, by rw [hp]; exact h2, fun x hx hpx => h3 x ((hc x).1 hx) (by rw [← hp]; exact hpx)⟩
theorem over_last {now t : Int} (hs : List Ho) (h0 : now ≤ t) (h1 : t < 1073741825) : ∃ x, Cand now hs x ∧ x ≤ t ∧ over hs x = over hs t := by
 induction hs with
 | nil => exact ⟨now, .inl rfl, h0, rfl⟩
 | cons h hs ih =>
  obtain ⟨x, hx, hxt, hov⟩ := ih;by_cases hu : h.u ≤ x
  ·refine ⟨x, ?_, hxt, ?_⟩
   ·rcases hx with e | ⟨⟨k, hk, e⟩, h2, h3⟩
    ·exact .inl e
    ·exact .inr ⟨⟨k, List.mem_cons_of_mem _ hk, e⟩, h2, h3⟩
   ·unfold over at *;rw [List.filter_cons, List.filter_cons, if_pos (by simpa using hu), if_pos (by simp; omega), hov]
  ·by_cases hut : h.u ≤ t
   ·refine ⟨h.u, .inr ⟨⟨h, by simp, rfl⟩, ?_, by omega⟩, hut, ?_⟩
    ·rcases hx with e | ⟨_, h2, _⟩ <;> omega
    ·unfold over at *;rw [List.filter_cons, List.filter_cons, if_pos (by simp), if_pos (by simpa using hut)]
     congr 1
     refine List.filter_congr fun k hk => ?_
     by_cases a : k.u ≤ t
     ·have : k ∈ hs.filter fun h => decide (h.u ≤ x) := by rw [hov]; exact List.mem_filter.2 ⟨hk, by simpa using a⟩
      have h5 : k.u ≤ x := by simpa using (List.mem_filter.1 this).2
      have : k.u ≤ h.u := (by omega);simp [a, this]
     ·have : ¬ k.u ≤ h.u := (by omega);simp [a, this]
   ·refine ⟨x, ?_, hxt, ?_⟩
    ·rcases hx with e | ⟨⟨k, hk, e⟩, h2, h3⟩
     ·exact .inl e
     ·exact .inr ⟨⟨k, List.mem_cons_of_mem _ hk, e⟩, h2, h3⟩
    ·unfold over at *;rw [List.filter_cons, List.filter_cons, if_neg (by simpa using hu), if_neg (by simpa using hut), hov]
theorem Least.le_of {l : List Fe} {g c : Int} {W : Wa} {now t u : Int} {hs : List Ho} (h : Least now hs (at_ l g c hs W) u) (h0 : now ≤ t) (h1 : t < 1073741825) (ht : at_ l g c hs W t = true) : u ≤ t := by
 obtain ⟨x, hx, hxt, hov⟩ := over_last hs h0 h1;have hp : at_ l g c hs W x = true := by unfold at_ at *; rw [hov]; exact ht
 rcases h with ⟨e, h⟩ | ⟨_, _, h⟩
 ·rw [h x hx] at hp; cases hp
 ·exact Int.le_trans (h x hx hp) hxt
theorem Least.le {l l' : List Fe} {g c g' c' : Int} {W : Wa} {now t u : Int} {hs hs' : List Ho} (h : Least now hs (at_ l g c hs W) t) (k : Least now hs' (at_ l' g' c' hs' W) u) (h0 : now ≤ 1073741824) (hm : ∀ x, at_ l g c hs W x = true → at_ l' g' c' hs' W x = true) : u ≤ t := by
 have hb := h.bounds h0;have hb' := k.bounds h0;by_cases ht : t = 1073741825
 ·omega
 ·rcases h with ⟨e, _⟩ | ⟨_, h2, _⟩
  ·exact absurd e ht
  ·exact k.le_of hb.1 (by omega) (hm t h2)
end PR
end
set_option linter.unusedVariables false
set_option maxRecDepth 100000
section
open Go.RowKit
def Wa.g (X : Wa) : Int := if X.ok = true then X.S.g * X.n else 0
def Wa.c (X : Wa) : Int := if X.ok = true then X.S.c * X.n else 0
theorem units_want (X : Wa) (w : World) (hw : WaOk X) (h1 : 1 ≤ X.n) :
  Calls Tryz.prog 58 #[.agg #[.int .i64 X.S.g, .int .i64 X.S.c, .int .i64 X.S.mn, .int .i64 X.S.mx], .int .i64 X.n] w fun e w' => e = .returned (.tuple #[.agg #[.int .i64 X.g, .int .i64 X.c], .int .i64 (if X.ok = true then 0 else 1)]) ∧ Below w.heap.size w w' := by
 obtain ⟨q, n, ⟨g, c, mn, mx⟩⟩ := X;unfold Wa.g Wa.c
 cases hok : Shp.ok ⟨g, c, mn, mx⟩
 ·have e : Wa.ok ⟨q, n, ⟨g, c, mn, mx⟩⟩ = false := by unfold Wa.ok; rw [hok]; rfl
  simp only [e, Bool.false_eq_true, if_false];exact units_bad g c mn mx n w hw.S hok
 ·by_cases h16 : n ≤ 16
  ·have e : Wa.ok ⟨q, n, ⟨g, c, mn, mx⟩⟩ = true := by unfold Wa.ok; simp only at h1 ⊢; rw [hok]; simp; omega
   simp only [e, if_true];obtain ⟨g', c', rfl, rfl, _⟩ := Shp.nat hok;simp only at h1;obtain ⟨m, rfl⟩ : ∃ m : Nat, n = m := ⟨n.toNat, by omega⟩
   have h9 := units_ok g' c' mn mx m w hw.S hok (by omega);simpa using h9
  ·have e : Wa.ok ⟨q, n, ⟨g, c, mn, mx⟩⟩ = false := by unfold Wa.ok; simp; omega
   simp only [e, Bool.false_eq_true, if_false];exact units_high g c mn mx n w hw.S hok (by omega)
set_option maxHeartbeats 2000000 in
theorem need_any (X : Wa) (w : World) (hw : WaOk X) :
  Calls Tryz.prog 93 #[waV X] w fun e w' => e = .returned (.tuple #[.agg #[.int .i64 X.g, .int .i64 X.c], .int .i64 (if X.ok = true then 0 else 1)]) ∧ Below w.heap.size w w' := by
 by_cases h1 : X.n < 1
 ·have e : X.ok = false := by unfold Wa.ok; simp; omega
  have eg : X.g = 0 := by unfold Wa.g; rw [e]; rfl
  have ec : X.c = 0 := by unfold Wa.c; rw [e]; rfl
  rw [eg, ec, e];have t1 : decide (X.n < 1) = true := decide_eq_true h1;unfold waV waA;clear e eg ec h1;obtain ⟨B0, hB0⟩ := nx (w.heap.size);rw [← hB0];have HB0 := Hq hB0;clear hB0;have HBel := Hq (Below.refl w.heap.size w);have hlow : w.heap.size ≤ w.heap.size := Nat.le_refl _;go_enter Tryz.func93, Tryz.ntmps93;go_wp2;obtain ⟨V1, hV1⟩ := nx ((w.alloc (.cells #[.int .i64 X.q, .int .i64 X.n, .int .i64 X.S.g, .int .i64 X.S.c, .int .i64 X.S.mn, .int .i64 X.S.mx] 34)).alloc (.cells #[.int .i64 0, .int .i64 0] 42));rw [← hV1];have hzV1 := sz2 hV1;replace HBel := be2 hV1 HBel hlow;have B_b := Hq (new20 hV1);have B_u := Hq (new21 hV1);obtain ⟨N_b, hN_b⟩ := nx (w.heap.size);obtain ⟨N_u, hN_u⟩ := nx (w.heap.size + 1);(try rw [← hN_u]);rw [← hN_u] at B_u;(try rw [← hN_b]);rw [← hN_b] at B_b;have l_b : N_b < V1.heap.size := by omega
  have l_u : N_u < V1.heap.size := by omega
  have g_b : w.heap.size ≤ N_b := by omega
  have g_u : w.heap.size ≤ N_u := by omega
  have d_b_u : N_b < N_u := by omega
  replace hlow : w.heap.size ≤ V1.heap.size := by omega
  clear hV1 hzV1 hN_b hN_u;obtain ⟨u0, u1⟩ := cells2 B_u.out;refine bodyPost_ret (v := .tuple #[.agg #[.int .i64 0, .int .i64 0], .int .i64 1]) (by simp [results, Tryz.results93, go_sem, u0, u1]) rfl ?_;exact ⟨rfl, by rw [HB0.out]; exact HBel.out⟩
 ·have hU := Hq (fun v => units_want X v hw (by omega));have t1 : decide (X.n < 1) = false := decide_eq_false h1;obtain ⟨G, hG⟩ := nx (X.g);obtain ⟨C, hC⟩ := nx (X.c);obtain ⟨E, hE⟩ : ∃ E : Int, E = (if X.ok = true then 0 else 1) := ⟨_, rfl⟩
  rw [← hG, ← hC, ← hE] at hU ⊢;unfold waV waA;clear hG hC hE h1 hw;obtain ⟨B0, hB0⟩ := nx (w.heap.size);rw [← hB0];have HB0 := Hq hB0;clear hB0;have HBel := Hq (Below.refl w.heap.size w);have hlow : w.heap.size ≤ w.heap.size := Nat.le_refl _;go_enter Tryz.func93, Tryz.ntmps93;go_wp2_with fail;obtain ⟨V1, hV1⟩ := nx ((w.alloc (.cells #[.int .i64 X.q, .int .i64 X.n, .int .i64 X.S.g, .int .i64 X.S.c, .int .i64 X.S.mn, .int .i64 X.S.mx] 34)).alloc (.cells #[.int .i64 0, .int .i64 0] 42));rw [← hV1];have hzV1 := sz2 hV1;replace HBel := be2 hV1 HBel hlow;have B_b := Hq (new20 hV1);have B_u := Hq (new21 hV1);obtain ⟨N_b, hN_b⟩ := nx (w.heap.size);obtain ⟨N_u, hN_u⟩ := nx (w.heap.size + 1);(try rw [← hN_u]);rw [← hN_u] at B_u;(try rw [← hN_b]);rw [← hN_b] at B_b;have l_b : N_b < V1.heap.size := by omega
  have l_u : N_u < V1.heap.size := by omega
  have g_b : w.heap.size ≤ N_b := by omega
  have g_u : w.heap.size ≤ N_u := by omega
  have d_b_u : N_b < N_u := by omega
  replace hlow : w.heap.size ≤ V1.heap.size := by omega
  clear hV1 hzV1 hN_b hN_u;refine (hU.out V1).mono ?_;rintro e U2 ⟨rfl, hb9⟩;have hs9 := hb9.size;replace HBel := bt9 HBel hb9 hlow;replace B_b := bb9 hb9 B_b l_b;replace B_u := bb9 hb9 B_u l_u;replace l_b : N_b < U2.heap.size := by omega
  replace l_u : N_u < U2.heap.size := by omega
  replace hlow : w.heap.size ≤ U2.heap.size := by omega
  clear hb9 hs9;obtain ⟨u0, u1⟩ := cells2 B_u.out;have uz0 : U2.frozen? ⟨N_u, 0, none⟩ = false := frozen_blk B_u.out;have uz1 : U2.frozen? ⟨N_u, 1, none⟩ = false := frozen_blk B_u.out;go_wp2;clear u0 u1 uz0 uz1;obtain ⟨S3, hS3⟩ := nx (((U2).setCell ⟨N_u, 0, none⟩ (.int .i64 G)).setCell ⟨N_u, 1, none⟩ (.int .i64 C));rw [← hS3];have hzS3 : S3.heap.size = U2.heap.size := by rw [hS3]; simp
  replace HBel : Hid (Below w.heap.size w S3) := Hq (by rw [hS3]; exact ((HBel.out.setCell (g_u) _).setCell (g_u) _));replace B_b := Hq (blk_eq hS3 (((Sn N_b N_u).trans ((Sn N_b N_u).trans B_b.out))));replace B_u : Hid (S3.heap[N_u]? = some (.cells #[.int .i64 G, .int .i64 C] 42 (0, 0))) := Hq (by rw [hS3]; exact (blk_put (i := 1) _ (blk_put (i := 0) _ B_u.out)));replace l_b : N_b < S3.heap.size := by omega
  replace l_u : N_u < S3.heap.size := by omega
  replace hlow : w.heap.size ≤ S3.heap.size := by omega
  clear hS3 hzS3;obtain ⟨u0, u1⟩ := cells2 B_u.out;refine bodyPost_ret (v := .tuple #[.agg #[.int .i64 G, .int .i64 C], .int .i64 E]) (by simp [results, Tryz.results93, go_sem, u0, u1]) rfl ?_;exact ⟨rfl, by rw [HB0.out]; exact HBel.out⟩
end
set_option maxRecDepth 100000
set_option linter.unusedVariables false
section
open Go.RowKit
namespace PR
theorem gs_le (l : List Fe) : gs l ≤ 64 * l.length := by
 induction l with
 | nil => simp [gs]
 | cons x l ih => simp only [gs, List.map_cons, List.sum_cons, List.length_cons] at *; have := MM.cnt_le x.m; omega
theorem cs_le {l : List Fe} (h : ∀ s ∈ l, 0 ≤ s.c ∧ s.c ≤ 1048576) : 0 ≤ cs l ∧ cs l ≤ 1048576 * (l.length : Int) := by
 induction l with
 | nil => simp [cs]
 | cons x l ih =>
  have h1 := ih fun s hs => h s (List.mem_cons_of_mem _ hs)
  have h2 := h x (by simp);simp only [cs, List.map_cons, List.sum_cons, List.length_cons] at *;omega
theorem mine_len (hs : List Ho) (q : Int) : (mine hs q).length ≤ (sl hs).length := by
 induction hs with
 | nil => simp [mine, sl]
 | cons x l ih =>
  unfold mine sl at *;rw [List.filter_cons, List.flatMap_cons, List.length_append]
  split
  ·rw [List.flatMap_cons, List.length_append]; omega
  ·omega
theorem mine_next {l : List Ho} {k : Nat} {x : Ho} {q : Int} (h : l[k]? = some x) : mine (l.take (k + 1)) q = mine (l.take k) q ++ if x.q = q then x.sl else [] := by
 rw [take_next h, mine_app]
 congr 1
 unfold mine sl;rw [List.filter_cons];by_cases e : x.q = q
 ·simp [e]
 ·simp [e]
theorem gs_next {l : List Fe} {k : Nat} {f : Fe} (h : l[k]? = some f) : gs (l.take (k + 1)) = gs (l.take k) + MM.cnt f.m := by rw [take_next h, gs_app]; simp [gs]
theorem cs_next {l : List Fe} {k : Nat} {f : Fe} (h : l[k]? = some f) : cs (l.take (k + 1)) = cs (l.take k) + f.c := by rw [take_next h, cs_app]; simp [cs]
def Low (l : List Fe) : Prop := ∀ s ∈ l, FeOk s ∧ 0 ≤ s.c ∧ s.c ≤ 1048576
theorem mine_bounds {l : List Ho} (hm : Many l) (hs : Low (sl l)) (q : Int) (k : Nat) : (gs (mine (l.take k) q) : Int) ≤ 64000000 ∧ 0 ≤ cs (mine (l.take k) q) ∧ cs (mine (l.take k) q) ≤ 1048576000000 := by
 have h1 := gs_le (mine (l.take k) q);have h2 := mine_len (l.take k) q;have h3 := sl_many hm k;have h4 := cs_le (l := mine (l.take k) q) fun s h => (hs s (by
  have := mine_sub (l.take k) q s h;unfold sl at *;obtain ⟨x, hx, hs⟩ := List.mem_flatMap.1 this;exact List.mem_flatMap.2 ⟨x, List.mem_of_mem_take hx, hs⟩)).2
 omega
end PR
open PR
set_option maxHeartbeats 4000000 in
theorem plus_any (G0 C0 q : Int) (A : Option Addr) (c : Nat) (l : List Ho) (w : World) (h : HosIn w w.heap.size A l) (hm : Many l) (hs : Low (sl l))
  (g0 : -1099511627776 ≤ G0 ∧ G0 ≤ 1099511627776) (c0 : -1099511627776 ≤ C0 ∧ C0 ≤ 1099511627776) :
  Calls Tryz.prog 112 #[.agg #[.int .i64 G0, .int .i64 C0], .slice A l.length c, .int .i64 q] w fun e w' => e = .returned (.agg #[.int .i64 (G0 + gs (mine l q)), .int .i64 (C0 + cs (mine l q))]) ∧ Below w.heap.size w w' := by
 obtain ⟨n, hnl⟩ : ∃ n, l.length = n := ⟨_, rfl⟩
 have hn1 := hm.n;rw [hnl] at hn1 ⊢;obtain ⟨R, hR⟩ := nx (w.heap.size + 1);obtain ⟨w2, hw2⟩ := nx ((w.alloc (.cells #[.int .i64 G0, .int .i64 C0] 42)).alloc (.cells #[.int .i64 0, .int .i64 0] 42));have hB2 : Below w.heap.size w w2 := by rw [hw2]; exact ((Below.refl w.heap.size w).alloc (Nat.le_refl _) _).alloc (by simp) _
 have rU : w2.heap[w.heap.size]? = some (.cells #[.int .i64 G0, .int .i64 C0] 42 (0, 0)) := by
  rw [hw2]; exact (Below.heap_alloc _ _ _ (by simp)).trans (heap_alloc_new w _)
 have rR : w2.heap[R]? = some (.cells #[.int .i64 0, .int .i64 0] 42 (0, 0)) := by
  rw [hw2, hR]; have := heap_alloc_new (w.alloc (.cells #[.int .i64 G0, .int .i64 C0] 42)) (.cells #[.int .i64 0, .int .i64 0] 42); simpa using this
 have hUR : w.heap.size < R := by omega
 have HB2 := Hq hB2;have Q := Hq (Ai h (Ai hm (Ai hs hnl)));have HW2 := Hq hw2;have HR := Hq hR;have RR := Hq rR;have RU := Hq rU;clear rR rU hB2 h hs hm hnl hw2 hR;go_enter Tryz.func112, Tryz.ntmps112;go_wp2;rw [← HR.out, ← HW2.out];go_loopw [13] (fun i wr => ∃ (k : Nat) (G C : Int), i = .int .i64 k ∧ k ≤ n ∧ Below w.heap.size w wr ∧ Hid (G = G0 + gs (mine (l.take k) q)) ∧ Hid (C = C0 + cs (mine (l.take k) q)) ∧ Hid (wr.heap[R]? = some (.cells #[.int .i64 0, .int .i64 0] 42 (0, 0))) ∧ Hid (wr.heap[w.heap.size]? = some (.cells #[.int .i64 G, .int .i64 C] 42 (0, 0)))) (fun i _ => n - (intOf i).toNat)
 case atStart => exact ⟨0, G0, C0, rfl, by omega, HB2.out, Hq (by simp [mine, sl, gs]), Hq (by simp [mine, sl, cs]), RR, RU⟩
 case round =>
  clear RR RU HB2 HW2;obtain ⟨k, G, C, rfl, hk, hBl, hG, hC, hR, hTt⟩ := hrel;have hBs := hBl.size;by_cases hlt : k < n
  ·obtain ⟨h, hm, hs, hnl⟩ := Q.out;obtain ⟨x, hx⟩ := get_lt (l := l) (k := k) (by rw [hnl]; exact hlt);obtain ⟨b, off, rfl, hb, hall⟩ := h.at_.at_ hx;have hkp := (hall k x hx).keep hb hBl;have h0 : wr.cell? ⟨b, off + k * 5, none⟩ = _ := hkp 0 _ rfl;have h1 := hkp 1 _ rfl;have h2 := hkp 2 _ rfl;have h3 := hkp 3 _ rfl;have h4 := hkp 4 _ rfl;have t0 : decide (k < n) = true := by simpa using hlt
   obtain ⟨v, hv⟩ : ∃ v, x.sl.length = v := ⟨_, rfl⟩
   have hv6 := hm.s x (List.mem_of_getElem? hx);rw [hv] at h4 hv6;have hF := h.sl x (List.mem_of_getElem? hx);have gR : R < wr.heap.size := blk_lt hR.out;have hob := mine_bounds hm hs q k;have bG : -1099511627776 ≤ G ∧ G ≤ 1100000000000 := by rw [hG.out]; omega
   have bC : -1099511627776 ≤ C ∧ C ≤ 2200000000000 := by rw [hC.out]; omega
   have hsx : Low x.sl := fun s hsm => hs s (by unfold sl; exact List.mem_flatMap.2 ⟨x, List.mem_of_getElem? hx, hsm⟩)
   have HX := Hq (Ai (mine_next (q := q) hx) (Ai hF (Ai hsx hv)));have HG := Hq (Ai hG.out hC.out);have HBl := Hq hBl;by_cases hq : x.q = q
   ·have t1 : (x.q != q) = false := by simp [hq]
    have HQ := Hq hq;obtain ⟨V, hV⟩ := nx (wr.alloc (.cells #[.int .i64 x.id, .int .i64 x.q, .int .i64 x.u, .bool x.r, .slice x.A v x.c] 53));have HV := Hq hV;have hBV : Hid (Below w.heap.size w V) := Hq (by rw [hV]; exact hBl.alloc hBs _);have bR : Hid (V.heap[R]? = some (.cells #[.int .i64 0, .int .i64 0] 42 (0, 0))) := Hq (by rw [hV]; exact (Below.heap_alloc _ _ _ gR).trans hR.out);have bU : Hid (V.heap[w.heap.size]? = some (.cells #[.int .i64 G, .int .i64 C] 42 (0, 0))) := Hq (by rw [hV]; exact (Below.heap_alloc _ _ _ (by omega)).trans hTt.out);clear hq hx hall hkp h hs hm hnl hF hsx hob hV hv hG hC hR hTt hBl;go_wp2_with fail;rw [← HV.out];clear h0 h1 h2 h3 h4 HV;go_loopw [24] (fun i wr => ∃ (j : Nat) (G2 C2 : Int), i = .int .i64 j ∧ j ≤ v ∧ Hid (Below w.heap.size w wr) ∧ Hid (G2 = G + gs (x.sl.take j)) ∧ Hid (C2 = C + cs (x.sl.take j)) ∧ Hid (wr.heap[R]? = some (.cells #[.int .i64 0, .int .i64 0] 42 (0, 0))) ∧ Hid (wr.heap[w.heap.size]? = some (.cells #[.int .i64 G2, .int .i64 C2] 42 (0, 0)))) (fun i _ => v - (intOf i).toNat)
    case atStart => exact ⟨0, G, C, rfl, by omega, hBV, Hq (by simp [gs]), Hq (by simp [cs]), bR, bU⟩
    case round =>
     clear bR bU hBV;obtain ⟨j, G2, C2, rfl, hj, hBw, hG2, hC2, hR2, hT2⟩ := hrel;have hBws := hBw.out.size;by_cases hlj : j < v
     ·obtain ⟨f, hf⟩ := get_lt (l := x.sl) (k := j) (by rw [HX.out.2.2.2]; exact hlj);obtain ⟨sb, so, hA, hsb, hsc⟩ := HX.out.2.1.at_ hf;obtain ⟨f0, f1, f2, f3⟩ := (hsc j f hf).keep hsb hBw.out;have t2 : decide (j < v) = true := by simpa using hlj
      have hfl := HX.out.2.2.1 f (List.mem_of_getElem? hf);have g1 := gs_le (x.sl.take j);have g2 := cs_le (l := x.sl.take j) fun s hsm => (HX.out.2.2.1 s (List.mem_of_mem_take hsm)).2
      rw [List.length_take] at g1 g2;have bG2 : -1099511627776 ≤ G2 ∧ G2 ≤ 1200000000000 := by rw [hG2.out]; omega
      have bC2 : -1099511627776 ≤ C2 ∧ C2 ≤ 4400000000000 := by rw [hC2.out]; omega
      obtain ⟨W, hW⟩ := nx (wr.alloc (.cells #[.int .i64 f.n, .int .i64 f.d, .int .u64 (f.m : Nat), .int .i64 f.c] 64));have gU : w.heap.size < wr.heap.size := blk_lt hT2.out;have gR2 : R < wr.heap.size := blk_lt hR2.out;have bT : W.heap[w.heap.size]? = some (.cells #[.int .i64 G2, .int .i64 C2] 42 (0, 0)) := by rw [hW]; exact (Below.heap_alloc _ _ _ gU).trans hT2.out
      have bR : W.heap[R]? = some (.cells #[.int .i64 0, .int .i64 0] 42 (0, 0)) := by rw [hW]; exact (Below.heap_alloc _ _ _ gR2).trans hR2.out
      have bF : W.heap[wr.heap.size]? = some (.cells #[.int .i64 f.n, .int .i64 f.d, .int .u64 (f.m : Nat), .int .i64 f.c] 64 (0, 0)) := by rw [hW]; exact heap_alloc_new wr _
      have hBW : Below w.heap.size w W := by rw [hW]; exact hBw.out.alloc hBws _
      have x0 : W.cell? ⟨w.heap.size, 0, none⟩ = some (.int .i64 G2) := cell_blk (i := 0) bT rfl;have e2 : W.cell? ⟨wr.heap.size, 2, none⟩ = some (.int .u64 (f.m : Nat)) := cell_blk (i := 2) bF rfl;have y0 : W.drew.cell? ⟨w.heap.size, 0, none⟩ = some (.int .i64 G2) := cell_blk (i := 0) bT rfl;have y1 : W.drew.cell? ⟨w.heap.size, 1, none⟩ = some (.int .i64 C2) := cell_blk (i := 1) bT rfl;have y3 : W.drew.cell? ⟨wr.heap.size, 2 + 1, none⟩ = some (.int .i64 f.c) := cell_blk (i := 3) bF rfl;have z0 : W.drew.frozen? ⟨w.heap.size, 0, none⟩ = false := frozen_blk (w := W) bT;have z1 : W.drew.frozen? ⟨w.heap.size, 1, none⟩ = false := frozen_blk (w := W) bT;have YR : Hid (W.drew.heap[R]? = some (.cells #[.int .i64 0, .int .i64 0] 42 (0, 0))) := Hq bR;have YT : Hid (W.drew.heap[w.heap.size]? = some (.cells #[.int .i64 G2, .int .i64 C2] 42 (0, 0))) := Hq bT;have hBD : Hid (Below w.heap.size w W.drew) := Hq hBW.drew;have CN := Hq (count_any f.m hfl.1.m);have hcnt := MM.cnt_le f.m;have N1 := Hq (gs_next hf);have N2 := Hq (cs_next hf);have HW := Hq hW;have fc0 := hfl.2.1;have fc1 := hfl.2.2;have hUs : w.heap.size < wr.heap.size := gU;rw [hA];clear hf hW bT bR bF hfl hsc g1 g2 hBW gR2 hR2 hT2 hBw hA;go_wp2_with fail;rw [← HW.out]
      go_still_tail 7, (by kernel_rfl)
      still_call ((CN.out _).mono fun _ _ h => ⟨h.1, h.2.symm⟩)
      repeat still_step
      refine wpStill_nil ?_
      change wpList _ _ _ _ _ W.drew
      clear x0 e2 HW f0 f1 f2 f3;generalize W.drew = W' at y0 y1 y3 z0 z1 YR YT hBD ⊢;go_wp2
      go_roundw
      case rel =>
       refine ⟨j + 1, G2 + MM.cnt f.m, C2 + f.c, by go_num, by omega, Hq ((hBD.out.setCell (by first | (simp; done) | (simp; omega)) _).setCell (by first | (simp; done) | (simp; omega)) _), Hq (by rw [N1.out, hG2.out]; omega), Hq (by rw [N2.out, hC2.out]; omega), Hq ?_, Hq ?_⟩
       ·exact ((Below.heap_setCell _ _ _ _ (by first | (simp; done) | (simp; omega))).trans (Below.heap_setCell _ _ _ _ (by first | (simp; done) | (simp; omega)))).trans YR.out
       ·exact blk_put (i := 1) (.int .i64 (C2 + f.c)) (blk_put (i := 0) (.int .i64 (G2 + (MM.cnt f.m : Int))) YT.out)
      case measure => simp [intOf]; omega
     ·obtain rfl : j = v := by omega
      have t2 : decide (j < j) = false := (by simp);have e9 : x.sl.take j = x.sl := by rw [← HX.out.2.2.2]; exact List.take_length
      have hN : Hid (G2 = G0 + gs (mine (l.take (k + 1)) q) ∧ C2 = C0 + cs (mine (l.take (k + 1)) q)) := Hq (by
       rw [HX.out.1, if_pos HQ.out, gs_app, cs_app, hG2.out, hC2.out, e9, HG.out.1, HG.out.2];omega)
      clear e9;go_wp2
      go_roundw
      case rel => exact ⟨k + 1, G2, C2, by go_num, by omega, hBw.out, Hq hN.out.1, Hq hN.out.2, hR2, hT2⟩
      case measure => simp [intOf]; omega
   ·have t1 : (x.q != q) = true := by simp [hq]
    have hN : Hid (G = G0 + gs (mine (l.take (k + 1)) q) ∧ C = C0 + cs (mine (l.take (k + 1)) q)) := Hq (by
     rw [HX.out.1, if_neg hq, List.append_nil];exact HG.out)
    clear hq hx hall hkp h hs hm hnl hF hsx hob hv hG hC hBl;go_wp2
    go_roundw
    case rel => exact ⟨k + 1, G, C, by go_num, by omega, HBl.out.alloc hBs _, Hq hN.out.1, Hq hN.out.2, Hq ((Below.heap_alloc _ _ _ gR).trans hR.out), Hq ((Below.heap_alloc _ _ _ (by omega)).trans hTt.out)⟩
    case measure => simp [intOf]; omega
  ·obtain rfl : k = n := by omega
   have x0 : wr.cell? ⟨w.heap.size, 0, none⟩ = some (.int .i64 G) := cell_blk (i := 0) hTt.out rfl;have x1 : wr.cell? ⟨w.heap.size, 1, none⟩ = some (.int .i64 C) := cell_blk (i := 1) hTt.out rfl;obtain ⟨y0, y1⟩ := cells2 hR.out;have z0 : wr.frozen? ⟨R, 0, none⟩ = false := frozen_blk hR.out;have z1 : wr.frozen? ⟨R, 1, none⟩ = false := frozen_blk hR.out;have t1 : decide (k < k) = false := (by simp);have HBl := Hq hBl;clear hlt hBl;go_wp2;refine bodyPost_ret (v := .agg #[.int .i64 G, .int .i64 C]) (by simp [results, Tryz.results112, go_sem, y0, y1]) rfl ?_;have e : l.take k = l := by rw [← Q.out.2.2.2]; exact List.take_length
   refine ⟨?_, (HBl.out.setCell (by first | (simp; done) | (simp; omega)) _).setCell (by first | (simp; done) | (simp; omega)) _⟩;rw [hG.out, hC.out, e]
end
set_option maxRecDepth 100000
set_option linter.unusedVariables false
section
open Go.RowKit
namespace PR
def lastU (L : List Int) : Int := L.getLast?.getD 0
def tick1 (L : List Int) (h : Ho) : List Int := if lastU L < h.u ∧ h.u < 1073741825 then L ++ [h.u] else L
def ticksL (now : Int) (D : List Ho) : List Int := D.foldl tick1 [now]
theorem ticks_next {now : Int} {D : List Ho} {k : Nat} {x : Ho} (h : D[k]? = some x) : ticksL now (D.take (k + 1)) = tick1 (ticksL now (D.take k)) x := by
 unfold ticksL; rw [take_next h, List.foldl_append]; rfl
theorem ticks_len : ∀ (D : List Ho) {L : List Int}, (D.foldl tick1 L).length ≤ L.length + D.length
 | [], L => by simp
 | x :: D, L => by
  rw [List.foldl_cons];have := ticks_len D (L := tick1 L x);have : (tick1 L x).length ≤ L.length + 1 := by unfold tick1; split <;> simp
  simp only [List.length_cons]; omega
theorem lastU_at {L : List Int} {p : Nat} (h : L.length = p + 1) : L[p]? = some (lastU L) := by
 unfold lastU;rw [List.getLast?_eq_getElem?, h, Nat.add_sub_cancel];obtain ⟨x, hx⟩ := get_lt (l := L) (k := p) (by omega);rw [hx]; rfl
structure Rising (now : Int) (D : List Ho) (L : List Int) : Prop where
 rise : L.Pairwise (· < ·)
 mem : ∀ x, x ∈ L ↔ Cand now D x
 last : ∃ y, L.getLast? = some y
theorem Rising.top {now : Int} {D : List Ho} {L : List Int} (h : Rising now D L) : lastU L ∈ L ∧ ∀ x ∈ L, x ≤ lastU L := by
 obtain ⟨y, hy⟩ := h.last;obtain ⟨L', rfl⟩ : ∃ L', L = L' ++ [y] := List.getLast?_eq_some_iff.1 hy;have e : lastU (L' ++ [y]) = y := by unfold PR.lastU; rw [hy]; rfl
 rw [e];refine ⟨by simp, fun x hx => ?_⟩;rcases List.mem_append.1 hx with hx | hx
 ·have := (List.pairwise_append.1 h.rise).2.2 x hx y (by simp); omega
 ·simp at hx; omega
theorem ticks_rising (now : Int) : ∀ (D D' : List Ho) (L : List Int), (D' ++ D).Pairwise (fun a b => a.u ≤ b.u) → Rising now D' L → Rising now (D' ++ D) (D.foldl tick1 L)
 | [], D', L, _, h => by rw [List.append_nil]; exact h
 | x :: D, D', L, hp, h => by
  rw [List.foldl_cons];have hcons : D' ++ x :: D = (D' ++ [x]) ++ D := by simp
  rw [hcons] at hp ⊢;refine ticks_rising now D (D' ++ [x]) (tick1 L x) hp ?_;have hx : ∀ y ∈ D', y.u ≤ x.u := fun y hy => (List.pairwise_append.1 (List.pairwise_append.1 hp).1).2.2 y hy x (by simp)
  obtain ⟨hl1, hl2⟩ := h.top;have hnow : now ≤ PR.lastU L := hl2 now ((h.mem now).2 (.inl rfl));unfold tick1;by_cases hc : PR.lastU L < x.u ∧ x.u < 1073741825
  ·rw [if_pos hc];refine ⟨List.pairwise_append.2 ⟨h.rise, by simp, fun a ha b hb => ?_⟩, fun y => ?_, ⟨x.u, by simp⟩⟩
   ·simp at hb; subst hb; have := hl2 a ha; omega
   ·rw [List.mem_append, h.mem];constructor
    ·rintro (h | h)
     ·rcases h with h | ⟨⟨z, hz, e⟩, h2⟩
      ·exact .inl h
      ·exact .inr ⟨⟨z, List.mem_append_left _ hz, e⟩, h2⟩
     ·simp at h; subst h; exact .inr ⟨⟨x, by simp, rfl⟩, by omega, hc.2⟩
    ·rintro (h | ⟨⟨z, hz, e⟩, h2⟩)
     ·exact .inl (.inl h)
     ·rcases List.mem_append.1 hz with hz | hz
      ·exact .inl (.inr ⟨⟨z, hz, e⟩, h2⟩)
      ·simp at hz; subst hz; right; simp [e]
  ·rw [if_neg hc];refine ⟨h.rise, fun y => ?_, h.last⟩;rw [h.mem];constructor
   ·rintro (h | ⟨⟨z, hz, e⟩, h2⟩)
    ·exact .inl h
    ·exact .inr ⟨⟨z, List.mem_append_left _ hz, e⟩, h2⟩
   ·rintro (h' | ⟨⟨z, hz, e⟩, h2⟩)
    ·exact .inl h'
    ·rcases List.mem_append.1 hz with hz | hz
     ·exact .inr ⟨⟨z, hz, e⟩, h2⟩
     ·simp at hz; subst hz;subst e;have hle : z.u ≤ PR.lastU L := (by omega);rcases (h.mem _).1 hl1 with e | ⟨⟨v, hv, e⟩, h3⟩
      ·omega
      ·have := hx v hv;exact .inr ⟨⟨v, hv, by omega⟩, h2⟩
theorem ticks_all {now : Int} {D : List Ho} (hp : D.Pairwise fun a b => a.u ≤ b.u) : Rising now D (ticksL now D) := by
 have := ticks_rising now D [] [now] (by simpa using hp) ⟨by simp, fun x => by simp [Cand], ⟨now, rfl⟩⟩;simpa [ticksL] using this
end PR
theorem info_intT : (Tryz.prog.info? 3).map (fun i => (i.zero, i.size, i.bytes)) = some (some (.int .i64 0), 1, 8) := by kernel_rfl
def intsT (L : List Int) : List Value := L.map fun x => .int .i64 x
open PR
set_option maxHeartbeats 4000000 in
theorem ticks_any (now : Int) (A : Option Addr) (c : Nat) (l : List Ho) (w : World) (h : Hos w w.heap.size A l) (hn : l.length ≤ 1000) :
  Calls Tryz.prog 98 #[.int .i64 now, .slice A l.length c] w fun e w' => ∃ g cp, e = .returned (.slice (some ⟨g, 0, none⟩) (ticksL now l).length cp) ∧ (∀ i x, (ticksL now l)[i]? = some x → w'.cell? ⟨g, i, none⟩ = some (.int .i64 x)) ∧ Below w.heap.size w w' ∧ w.heap.size ≤ g ∧ g < w'.heap.size := by
 obtain ⟨i0, hi, hz0, hz1, hz2⟩ := info_parts info_intT;obtain ⟨n, hnn⟩ : ∃ n, n = l.length := ⟨_, rfl⟩
 rw [← hnn] at hn ⊢;have H := Hq (Ai h (Ai hnn (fun k => ticks_len (l.take k) (L := [now]))));have HB0 : Hid (Below w.heap.size w (w.alloc (.cells #[.int .i64 now] 3)) ∧ (w.alloc (.cells #[.int .i64 now] 3)).ownsRow w.heap.size 3 1 (.slice (some ⟨w.heap.size, 0, none⟩) 1 1) 1 (intsT (ticksL now (l.take 0)))) := Hq ⟨(Below.refl _ _).alloc (Nat.le_refl _) _, World.ownsRow_lit w #[.int .i64 now] 1 (Nat.le_refl _) (by unfold maxLen; omega) rfl⟩;clear h hnn;go_enter Tryz.func98, Tryz.ntmps98;go_wp2;go_loopw [5, 12] (fun v vi wr => ∃ (k p g cp : Nat), vi = .int .i64 k ∧ v = .slice (some ⟨g, 0, none⟩) (p + 1) cp ∧ k ≤ n ∧ w.heap.size ≤ g ∧ g < wr.heap.size ∧ w.heap.size ≤ wr.heap.size ∧ Hid (p + 1 = (ticksL now (l.take k)).length) ∧ Hid (Below w.heap.size w wr ∧ wr.ownsRow w.heap.size 3 1 (.slice (some ⟨g, 0, none⟩) (p + 1) cp) (p + 1) (intsT (ticksL now (l.take k))))) (fun _ vi _ => n - (intOf vi).toNat)
 case atStart => exact ⟨0, 0, w.heap.size, 1, rfl, rfl, by omega, Nat.le_refl _, by simp, by simp, Hq rfl, HB0⟩
 case round =>
  clear HB0;obtain ⟨k, p, g, cp, rfl, rfl, hkn, hg0, hg1, hsz, hp, hB⟩ := hrel;by_cases hlt : k < n
  ·have t1 : decide (k < n) = true := decide_eq_true hlt;obtain ⟨x, hx⟩ := get_lt (l := l) (k := k) (by rw [← H.out.2.1]; exact hlt);obtain ⟨b, off, rfl, hb, hall⟩ := H.out.1.at_ hx;have hk := (hall k x hx).keep hb hB.out.1;have h0 : wr.cell? ⟨b, off + k * 5, none⟩ = _ := hk 0 _ rfl;have h1 := hk 1 _ rfl;have h2 := hk 2 _ rfl;have h3 := hk 3 _ rfl;have h4 := hk 4 _ rfl;have hp6 : p ≤ 1000 := by
    have := H.out.2.2 k;have h7 := hp.out;unfold ticksL at h7;rw [List.length_take] at this;simp at this;omega
   obtain ⟨y, hy⟩ := nx (lastU (ticksL now (l.take k)));have hly : wr.cell? ⟨g, p, none⟩ = some (.int .i64 y) := by
    rw [hB.out.2.cellAt p (by omega)];unfold intsT;rw [List.getElem?_map, lastU_at hp.out.symm, hy]; rfl
   have hNx := ticks_next (now := now) hx;unfold tick1 at hNx;rw [← hy] at hNx;obtain ⟨V, hV⟩ := nx (wr.alloc (.cells #[.int .i64 x.id, .int .i64 x.q, .int .i64 x.u, .bool x.r, .slice x.A x.sl.length x.c] 53));have HV := Hq hV;have hb9 : Below wr.heap.size wr V := by rw [hV]; exact (Below.refl _ _).alloc (Nat.le_refl _) _
   have bV : V.heap[wr.heap.size]? = some (.cells #[.int .i64 x.id, .int .i64 x.q, .int .i64 x.u, .bool x.r, .slice x.A x.sl.length x.c] 53 (0, 0)) := by rw [hV]; exact heap_alloc_new wr _
   have v2 : V.cell? ⟨wr.heap.size, 2, none⟩ = some (.int .i64 x.u) := cell_blk (i := 2) bV rfl;have vy : V.cell? ⟨g, p, none⟩ = some (.int .i64 y) := (hb9.cell (p := ⟨g, p, none⟩) hg1).trans hly;have hVs : wr.heap.size + 1 = V.heap.size := by rw [hV]; simp
   have hBV : Hid (Below w.heap.size w V ∧ V.ownsRow w.heap.size 3 1 (.slice (some ⟨g, 0, none⟩) (p + 1) cp) (p + 1) (intsT (ticksL now (l.take k)))) := Hq (by
    refine ⟨by rw [hV]; exact hB.out.1.alloc hsz _, ?_⟩;rw [hV]; exact hB.out.2.alloc _)
   have jp : (p : Int) < (p : Int) + 1 := (by omega);have wp1 : ((p : Int) + 1 - 1) = (p : Int) := (by omega);have HP := hp;by_cases c1 : y < x.u
   ·have t2 : decide (y < x.u) = true := decide_eq_true c1;by_cases c2 : x.u < 1073741825
    ·have t3 : decide (x.u < 1073741825) = true := decide_eq_true c2;rw [if_pos ⟨c1, c2⟩] at hNx;have HN := Hq hNx;clear hNx hy hly hV hb9 bV hk hall hx hp hB c1 c2;go_wp2_with fail;rw [← HV.out];clear h0 h1 h2 h3 h4 HV;go_quiet (fail);have hO' : (V.drewN nq).ownsRow w.heap.size 3 1 (.slice (some ⟨g, 0, none⟩) (p + 1) cp) (p + 1) (intsT (ticksL now (l.take k))) := hBV.out.2;have v2' : (V.drewN nq).cell? ⟨wr.heap.size, 2, none⟩ = some (.int .i64 x.u) := v2;have hBd : Hid (Below w.heap.size w (V.drewN nq)) := Hq (below_drewN hBV.out.1 _);have hzd : (V.drewN nq).heap.size = V.heap.size := rfl;clear v2 vy hBV;go_wp2_with (at_builtin; refine wpList_append_own _ rfl _ _ 103 rfl w.heap.size 3 i0 (.int .i64 0) 1 8 Tryz.underlying103 hi hz0 hz1 hz2 rfl (by decide) _ _ _ rfl (hO'.alloc _) ⟨_, 0, none⟩ 1 1 [.int .i64 x.u] rfl rfl (cell_one_new (V.drewN nq) _ _) (by simp [Value.oneCell']) (by unfold maxLen; omega) (by omega) (by simp; omega) ?_; intro v' w5 hown' hgrow hnil);obtain ⟨g5, cp5, rfl, hg5, hg6⟩ : ∃ g5 cp5, v' = .slice (some ⟨g5, 0, none⟩) (p + 1 + 1) cp5 ∧ w.heap.size ≤ g5 ∧ g5 < w5.heap.size := by
      rcases hown'.2 with ⟨e, h0⟩ | ⟨g5, cp5, cur, e, hb5, hg5, _⟩
      ·omega
      ·exact ⟨g5, cp5, e, hb5, blk_lt hg5⟩
     have hB5 : Hid (Below w.heap.size w w5 ∧ w5.ownsRow w.heap.size 3 1 (.slice (some ⟨g5, 0, none⟩) (p + 1 + 1) cp5) (p + 1 + 1) (intsT (ticksL now (l.take (k + 1))))) := Hq (by
      refine ⟨(hBd.out.alloc (show w.heap.size ≤ V.heap.size by omega) _).grown hgrow (by rw [World.size_alloc]; show w.heap.size ≤ V.heap.size + 1; omega) (fun i e => (hO'.lt i e).1), ?_⟩;rw [HN.out];unfold intsT;rw [List.map_append];exact hown')
     have hs5 := hB5.out.1.size;have HP2 : Hid (p + 1 + 1 = (ticksL now (l.take (k + 1))).length) := Hq (by rw [HN.out, List.length_append, ← HP.out]; rfl);clear hown' hgrow hnil hO' HN HP;go_wp2
     go_roundw
     case rel => exact ⟨k + 1, p + 1, g5, cp5, by go_num, rfl, by omega, hg5, hg6, hs5, HP2, hB5⟩
     case measure => simp [intOf]; omega
    ·have t3 : decide (x.u < 1073741825) = false := decide_eq_false c2;rw [if_neg (fun h => c2 h.2)] at hNx;have HN := Hq hNx;clear hNx hy hly hV hb9 bV hk hall hx hp hB c1 c2;go_wp2_with fail;rw [← HV.out];clear h0 h1 h2 h3 h4 HV;go_quiet (fail);go_wp2
     go_roundw
     case rel =>
      refine ⟨k + 1, p, g, cp, by go_num, rfl, by omega, hg0, ?_, ?_, Hq (by rw [HN.out]; exact HP.out), Hq (by rw [HN.out]; exact ⟨below_drewN hBV.out.1 _, hBV.out.2⟩)⟩
      ·show g < V.heap.size; omega
      ·show w.heap.size ≤ V.heap.size; omega
     case measure => simp [intOf]; omega
   ·have t2 : decide (y < x.u) = false := decide_eq_false c1;rw [if_neg (fun h => c1 h.1)] at hNx;have HN := Hq hNx;clear hNx hy hly hV hb9 bV hk hall hx hp hB c1;go_wp2_with fail;rw [← HV.out];clear h0 h1 h2 h3 h4 HV;go_quiet (fail);go_wp2
    go_roundw
    case rel =>
     refine ⟨k + 1, p, g, cp, by go_num, rfl, by omega, hg0, ?_, ?_, Hq (by rw [HN.out]; exact HP.out), Hq (by rw [HN.out]; exact ⟨below_drewN hBV.out.1 _, hBV.out.2⟩)⟩
     ·show g < V.heap.size; omega
     ·show w.heap.size ≤ V.heap.size; omega
    case measure => simp [intOf]; omega
  ·obtain rfl : k = n := by omega
   have t1 : decide (k < k) = false := decide_eq_false hlt;have e9 : l.take k = l := by rw [H.out.2.1]; exact List.take_length
   rw [e9] at hp hB;clear e9;go_wp2
   go_ret
   refine ⟨g, cp, by rw [← hp.out]; rfl, fun i x hx => ?_, hB.out.1, hg0, hg1⟩;have hi9 := (List.getElem?_eq_some_iff.1 hx).1;rw [hB.out.2.cellAt i (by have := hp.out; omega)];unfold intsT;rw [List.getElem?_map, hx]; rfl
end
set_option linter.unusedVariables false
section
open Go.RowKit
namespace PR
theorem over_split {P R : List Ho} {T : Int} (h : ∀ x ∈ P, x.u ≤ T) : over (P ++ R) T = P ++ over R T := by
 unfold over;rw [List.filter_append, List.filter_eq_self.2 fun x hx => by simpa using h x hx]
theorem over_take' {D : List Ho} (t : Int) (hr : D.Pairwise fun a b => a.u ≤ b.u) : D.take (over D t).length = over D t := by
 induction D with
 | nil => rfl
 | cons x D ih =>
  obtain ⟨h1, h2⟩ := List.pairwise_cons.1 hr;by_cases hx : x.u ≤ t
  ·have e : over (x :: D) t = x :: over D t := by unfold over; rw [List.filter_cons, if_pos (by simpa using hx)]
   rw [e, List.length_cons, List.take_succ_cons, ih h2]
  ·have e : over (x :: D) t = [] := by
    unfold over;rw [List.filter_eq_nil_iff];intro y hy;rcases List.mem_cons.1 hy with rfl | hy
    ·simpa using hx
    ·have := h1 y hy; simp; omega
   rw [e]; rfl
theorem over_perm {a b : List Ho} (p : a.Perm b) (t : Int) : (over a t).Perm (over b t) := p.filter _
theorem turn_over {lv : List Fe} {l : List Ho} (h : (turnL moreC lv (sl l)).1 = 0) (t : Int) : (turnL moreC lv (sl (over l t))).1 = 0 := by
 have hp := sl_perm (over_rest l t);rw [sl_app] at hp;exact turn_left (b := sl (l.filter fun h => !decide (h.u ≤ t))) (by rw [turn_perm hp.symm h]; exact h)
theorem at_perm {lv : List Fe} {g c : Int} {D l : List Ho} {X : Wa} (p : D.Perm l) (h : (turnL moreC lv (sl l)).1 = 0) (t : Int) : at_ lv g c D X t = at_ lv g c l X t := by
 unfold at_;have hp := over_perm p t;have h1 := turn_over h t;rw [turn_perm (sl_perm hp).symm h1, gs_perm (mine_perm hp X.q), cs_perm (mine_perm hp X.q)]
theorem cand_perm {now : Int} {D l : List Ho} (p : D.Perm l) (x : Int) : Cand now D x ↔ Cand now l x := by
 unfold Cand;constructor
 ·rintro (h | ⟨⟨y, hy, e⟩, h⟩)
  ·exact .inl h
  ·exact .inr ⟨⟨y, p.mem_iff.1 hy, e⟩, h⟩
 ·rintro (h | ⟨⟨y, hy, e⟩, h⟩)
  ·exact .inl h
  ·exact .inr ⟨⟨y, p.mem_iff.2 hy, e⟩, h⟩
structure StepsP (lv : List Fe) (g c : Int) (X : Wa) (D : List Ho) (TL : List Int) (k : Nat) (R : List Ho) (lk : List Fe) (gk ck : Int) : Prop where
 ex : ∃ P, D = P ++ R ∧ lk = (turnL moreC lv (sl P)).2 ∧ gk = g + gs (mine P X.q) ∧ ck = c + cs (mine P X.q) ∧ ∀ x ∈ P, ∀ T ∈ TL.drop k, x.u ≤ T
 no : ∀ T ∈ TL.take k, at_ lv g c D X T = false
theorem StepsP.start (lv : List Fe) (g c : Int) (X : Wa) (D : List Ho) (TL : List Int) : StepsP lv g c X D TL 0 D lv g c :=
 ⟨⟨[], rfl, by simp [sl, turnL], by simp [mine, sl, gs], by simp [mine, sl, cs], by simp⟩, by simp⟩
theorem StepsP.next {lv : List Fe} {g c : Int} {X : Wa} {D : List Ho} {TL : List Int} {k : Nat} {R : List Ho} {lk : List Fe} {gk ck T : Int} (h : StepsP lv g c X D TL k R lk gk ck) (hD : (turnL moreC lv (sl D)).1 = 0) (hs : D.Pairwise fun a b => a.u ≤ b.u) (ht : TL.Pairwise (· < ·)) (hT : TL[k]? = some T) :
  (turnL moreC lk (sl (over R T))).1 = 0 ∧ fits (turnL moreC lk (sl (over R T))).2 (gk + gs (mine (over R T) X.q)) (ck + cs (mine (over R T) X.q)) X = at_ lv g c D X T ∧
   (at_ lv g c D X T = false → StepsP lv g c X D TL (k + 1) (R.drop (over R T).length) (turnL moreC lk (sl (over R T))).2 (gk + gs (mine (over R T) X.q)) (ck + cs (mine (over R T) X.q))) := by
 obtain ⟨P, e1, e2, e3, e4, e5⟩ := h.ex;have hk := (List.getElem?_eq_some_iff.1 hT).1;have hmem : T ∈ TL.drop k := by
  rw [List.mem_iff_getElem?]; exact ⟨0, by rw [List.getElem?_drop, Nat.add_zero, hT]⟩
 have hov : over D T = P ++ over R T := by rw [e1]; exact over_split fun x hx => e5 x hx T hmem
 have h0 := turn_over hD T;rw [hov, sl_app] at h0;have hP := turn_left h0;have hstep : turnL moreC lv (sl (over D T)) = turnL moreC lk (sl (over R T)) := by rw [hov, sl_app, turn_app hP, e2]
 have hg : g + gs (mine (over D T) X.q) = gk + gs (mine (over R T) X.q) := by rw [hov, mine_app, gs_app, e3]; omega
 have hc : c + cs (mine (over D T) X.q) = ck + cs (mine (over R T) X.q) := by rw [hov, mine_app, cs_app, e4]; omega
 refine ⟨by rw [← hstep, hov, sl_app]; exact h0, by unfold at_; rw [hstep, hg, hc], fun hno => ⟨⟨P ++ over R T, ?_, ?_, ?_, ?_, ?_⟩, ?_⟩⟩
 ·have hRs : R.Pairwise fun a b => a.u ≤ b.u := by rw [e1] at hs; exact (List.pairwise_append.1 hs).2.1
  have htk := over_take' T hRs;rw [e1, List.append_assoc]
  congr 1
  conv => lhs; rw [← List.take_append_drop (over R T).length R, htk]
 ·rw [← hstep, hov]
 ·rw [← hg, hov]
 ·rw [← hc, hov]
 ·intro x hx T' hT';have hlt : T < T' := by
   obtain ⟨i, hi⟩ := List.mem_iff_getElem?.1 hT';rw [List.getElem?_drop] at hi;obtain ⟨hi1, hi2⟩ := List.getElem?_eq_some_iff.1 hi;obtain ⟨hk1, hk2⟩ := List.getElem?_eq_some_iff.1 hT;have := List.pairwise_iff_getElem.1 ht k (k + 1 + i) hk1 hi1 (by omega);rw [hi2, hk2] at this;exact this
  rcases List.mem_append.1 hx with hx | hx
  ·have := e5 x hx T hmem; omega
  ·have h9 := (List.mem_filter.1 hx).2;have : x.u ≤ T := by simpa using h9
   omega
 ·intro T' hT';rw [take_next hT] at hT';rcases List.mem_append.1 hT' with h9 | h9
  ·exact h.no T' h9
  ·simp at h9; rw [h9]; exact hno
theorem StepsP.hit {lv : List Fe} {g c : Int} {X : Wa} {D : List Ho} {TL : List Int} {k : Nat} {R : List Ho} {lk : List Fe} {gk ck T now : Int} (h : StepsP lv g c X D TL k R lk gk ck) (hr : Rising now D TL) (hT : TL[k]? = some T) (hy : at_ lv g c D X T = true) : Least now D (at_ lv g c D X) T := by
 refine .inr ⟨(hr.mem T).1 (List.mem_of_getElem? hT), hy, fun x hx hp => ?_⟩;obtain ⟨i, hi⟩ := List.mem_iff_getElem?.1 ((hr.mem x).2 hx);by_cases hik : i < k
 ·have : x ∈ TL.take k := List.mem_iff_getElem?.2 ⟨i, by rw [List.getElem?_take, if_pos hik, hi]⟩;rw [h.no x this] at hp; cases hp
 ·by_cases e : i = k
  ·subst e; rw [hi] at hT; injection hT with e; omega
  ·obtain ⟨hi1, hi2⟩ := List.getElem?_eq_some_iff.1 hi;obtain ⟨hk1, hk2⟩ := List.getElem?_eq_some_iff.1 hT;have := List.pairwise_iff_getElem.1 hr.rise k i hk1 hi1 (by omega);rw [hi2, hk2] at this;omega
theorem StepsP.none_ {lv : List Fe} {g c : Int} {X : Wa} {D : List Ho} {TL : List Int} {R : List Ho} {lk : List Fe} {gk ck now : Int} (h : StepsP lv g c X D TL TL.length R lk gk ck) (hr : Rising now D TL) : Least now D (at_ lv g c D X) 1073741825 := by
 refine .inl ⟨rfl, fun x hx => h.no x ?_⟩;rw [List.take_length];exact (hr.mem x).2 hx
def Earl (now : Int) (lv : List Fe) (g c : Int) (l : List Ho) (X : Wa) (T E : Int) : Prop :=
 (¬ (X.ok = true ∧ 0 ≤ now ∧ now ≤ 1073741824) ∧ T = 0 ∧ E = 1) ∨ ((X.ok = true ∧ 0 ≤ now ∧ now ≤ 1073741824) ∧
  (((turnL moreC lv (sl l)).1 ≠ 0 ∧ T = 0 ∧ E = (turnL moreC lv (sl l)).1) ∨ ((turnL moreC lv (sl l)).1 = 0 ∧ E = 0 ∧ Least now l (at_ lv g c l X) T)))
theorem Earl.same {now : Int} {lv : List Fe} {g c : Int} {l : List Ho} {X : Wa} {T E T' E' : Int} (h : Earl now lv g c l X T E) (k : Earl now lv g c l X T' E') : T = T' ∧ E = E' := by
 rcases h with ⟨h0, h1, h2⟩ | ⟨h0, h⟩ <;> rcases k with ⟨k0, k1, k2⟩ | ⟨k0, k⟩
 ·omega
 ·exact absurd k0 h0
 ·exact absurd h0 k0
 ·rcases h with ⟨h3, h1, h2⟩ | ⟨h3, h1, h2⟩ <;> rcases k with ⟨k3, k1, k2⟩ | ⟨k3, k1, k2⟩
  ·omega
  ·exact absurd k3 h3
  ·exact absurd h3 k3
  ·exact ⟨h2.same k2, by omega⟩
theorem Earl.ok {now : Int} {lv : List Fe} {g c : Int} {l : List Ho} {X : Wa} {T : Int} (h : Earl now lv g c l X T 0) : X.ok = true ∧ 0 ≤ now ∧ now ≤ 1073741824 ∧ (turnL moreC lv (sl l)).1 = 0 ∧ Least now l (at_ lv g c l X) T := by
 rcases h with ⟨_, _, h⟩ | ⟨h0, ⟨h1, _, h2⟩ | ⟨h1, _, h2⟩⟩
 ·omega
 ·exact absurd h2.symm h1
 ·exact ⟨h0.1, h0.2.1, h0.2.2, h1, h2⟩
end PR
end
end Go.Proofs.YtkkkhonjcbhelaaGreatDoor
