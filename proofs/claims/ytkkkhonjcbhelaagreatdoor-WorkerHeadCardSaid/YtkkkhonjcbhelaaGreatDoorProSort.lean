import Derived.Test.YtkkkhonjcbhelaaGreatDoorProQ
import Derived.Test.YtkkkhonjcbhelaaGreatDoorProR
set_option maxRecDepth 100000
set_option linter.unusedVariables false
namespace Go.Proofs.YtkkkhonjcbhelaaGreatDoor
open Go.RowKit
theorem info_ho : (Tryz.prog.info? 53).map (fun i => (i.zero, i.size, i.bytes)) = some (some (.agg #[.int .i64 0, .int .i64 0, .int .i64 0, .bool false, .slice none 0 0]), 5, 56) := by kernel_rfl
set_option maxHeartbeats 2000000 in
theorem clone_h (A : Option Addr) (c : Nat) (l : List Ho) (w : World) (h : Hos w w.heap.size A l) (hn : l.length ≤ 100000) :
  Calls Tryz.prog 107 #[.slice A l.length c] w fun e w' => (l = [] ∧ e = .returned (.slice none 0 0) ∧ w = w') ∨ ∃ g cp, e = .returned (.slice (some ⟨g, 0, none⟩) l.length cp) ∧
   w'.ownsRow w.heap.size 53 5 (.slice (some ⟨g, 0, none⟩) l.length cp) l.length (l.flatMap hoC) ∧ Below w.heap.size w w' := by
 obtain ⟨n, hl⟩ : ∃ n, n = l.length := ⟨_, rfl⟩
 rw [← hl] at hn ⊢
 cases A with
 | none =>
  have h0 : l = [] := by
   rcases h with h | ⟨b, off, e, _⟩
   ·exact h
   ·cases e
  have hq := fun W => Lib.run_eql_slice_nil (P := Tryz.prog) W 24 _ none n c 0 0 Tryz.underlying24
  simp only [Option.isNone_none] at hq;have H0 := Hq h0;clear h h0 hl;go_enter Tryz.func107, Tryz.ntmps107;go_wp2;(try simp only [Exit.inBlock, Exit.then]);refine bodyPost_ret (v := .slice none 0 0) (by simp [results, Tryz.results107, go_sem]) rfl ?_;exact .inl ⟨H0.out, rfl, rfl⟩
 | some ad =>
  obtain ⟨i0, hi, hz0, hz1, hz2⟩ := info_parts info_ho;have H := Hq (Ai h hl);have hq := fun W => Lib.run_eql_slice_nil (P := Tryz.prog) W 24 _ (some ad) n c 0 0 Tryz.underlying24
  simp only [Option.isNone_some] at hq;clear h hl;go_enter Tryz.func107, Tryz.ntmps107;go_wp2_with (at_builtin; refine wpList_append_els (C := hoC) (k := 5) _ rfl _ _ 24 rfl w.heap.size 53 i0 _ 56 Tryz.underlying24 hi hz0 hz1 hz2 rfl (by decide) (.slice (some ⟨w.heap.size, 0, none⟩) 0 0) 0 [] rfl (World.ownsRow_lit w #[] 0 (Nat.le_refl _) (by unfold maxLen; omega) rfl) w.heap.size (some ad) c n l rfl (H.out.1.keep ((Below.refl w.heap.size w).alloc (Nat.le_refl _) (.cells #[] 53)) (Nat.le_refl _)) H.out.2 hoC_len hoC_one (by unfold maxLen; omega) (by omega) (by simp) ?_; intro A5 c5 w5 own5 g5 k5; rw [Nat.zero_add] at own5 ⊢; rw [List.nil_append] at own5);have k6 : ∃ j, (Value.slice A5 n c5).ownBlock = some j := by
   rw [Nat.zero_add] at k5;rcases k5 with e | e
   ·exact ⟨_, e.trans rfl⟩
   ·exact ⟨_, e⟩
  have hob : ∀ j, (Value.slice (some ⟨w.heap.size, 0, none⟩) 0 0).ownBlock = some j → w.heap.size ≤ j := fun j hj => by
   have : j = w.heap.size := by simpa [Value.ownBlock] using hj.symm
   omega
  have hB := ((Below.refl w.heap.size w).alloc (Nat.le_refl _) (.cells #[] 53)).grown g5 (by simp) hob;rcases own5.2 with ⟨e, h0⟩ | ⟨g, cap, cur, e, hr⟩
  ·injection e with e1 _ _;subst e1;obtain ⟨j, hj⟩ := k6
   cases hj
  ·injection e with e1 _ _;subst e1;refine bodyPost_ret (v := .slice (some ⟨g, 0, none⟩) n c5) (by simp [results, Tryz.results107, go_sem]) rfl ?_;exact .inr ⟨g, c5, rfl, own5, hB⟩
theorem hsort_nil (w : World) : Calls Tryz.prog 108 #[.slice none 0 0, .func (.func 109) #[] #[]] w fun e w' => e = .returned (.tuple #[]) ∧ w = w' := by
 have hi : ∀ W, Calls Tryz.prog 118 #[.slice none 0 0, .int .i64 0, .int .i64 0, .func (.func 109) #[] #[]] W fun e w' => e = .returned (.tuple #[]) ∧ W = w' := fun W => by
  go_enter Tryz.func118, Tryz.ntmps118;go_wp2;go_loopw [8] (fun vi wr => vi = .int .i64 1 ∧ W = wr) (fun _ _ => 0)
  case atStart => exact ⟨rfl, rfl⟩
  case round =>
   obtain ⟨rfl, rfl⟩ := hrel;go_wp2
   go_end0
   exact ⟨rfl, rfl⟩
 have hs : Calls Tryz.prog 117 #[.slice none 0 0, .int .i64 0, .func (.func 109) #[] #[]] w fun e w' => e = .returned (.tuple #[]) ∧ w = w' := by
  go_enter Tryz.func117, Tryz.ntmps117;go_wp2;go_loopw [7, 8] (fun va vb wr => va = .int .i64 0 ∧ vb = .int .i64 20 ∧ w = wr) (fun _ _ _ => 0)
  case atStart => exact ⟨rfl, rfl, rfl⟩
  case round =>
   obtain ⟨rfl, rfl, rfl⟩ := hrel;go_wp2_with fail;refine (hi _).mono ?_;rintro e w1 ⟨rfl, rfl⟩;go_wp2;go_loopw [6] (fun vs wr => vs = .int .i64 20 ∧ w = wr) (fun _ _ => 0)
   case atStart => exact ⟨rfl, rfl⟩
   case round =>
    obtain ⟨rfl, rfl⟩ := hrel;go_wp2
    go_end0
    exact ⟨rfl, rfl⟩
 go_enter Tryz.func108, Tryz.ntmps108;go_wp2_with fail;refine hs.mono ?_;rintro e w1 ⟨rfl, rfl⟩;go_wp2
 go_end0
 exact ⟨rfl, rfl⟩
def eH (l : List Ho) (i : Nat) : Ho := (l[i]?).getD ⟨0, 0, 0, false, none, 0, []⟩
theorem eH_at {l : List Ho} {i : Nat} {x : Ho} (h : l[i]? = some x) : eH l i = x := by unfold eH; rw [h]; rfl
theorem eH_all (l : List Ho) : (List.range l.length).map (eH l) = l := by
 apply List.ext_getElem?;intro i;by_cases h : i < l.length
 ·rw [List.getElem?_map, List.getElem?_range h];obtain ⟨x, hx⟩ := get_lt h;rw [Option.map_some, eH_at hx, hx]
 ·rw [List.getElem?_eq_none (by simp; omega), List.getElem?_eq_none (by omega)]
theorem eH_flat (l : List Ho) : (List.range l.length).flatMap (fun i => hoC (eH l i)) = l.flatMap hoC := by
 conv => rhs; rw [← eH_all l]
 rw [List.flatMap_map]
theorem HBlk.hos {E : Nat → Ho} {w : World} {g : Nat} {L : List Nat} (h : HBlk E w g L) : Hos w w.heap.size (some ⟨g, 0, none⟩) (L.map E) := by
 refine .inr ⟨g, 0, rfl, h.lt, fun i x hx => ?_⟩;rw [List.getElem?_map] at hx;obtain ⟨z, hz, rfl⟩ := Option.map_eq_some_iff.1 hx;rw [Nat.zero_add];exact h.at_ hz
def keyH (l : List Ho) (x : Nat) : Nat := ((eH l x).u + 9223372036854775808).toNat * l.length + x
theorem keyH_lt {n a b x y : Nat} (hx : x < n) (hy : y < n) : a * n + x < b * n + y ↔ a < b ∨ (a = b ∧ x < y) := by
 rcases Nat.lt_trichotomy a b with h | h | h
 ·have : (a + 1) * n ≤ b * n := Nat.mul_le_mul_right n h;rw [Nat.add_mul] at this;omega
 ·subst h; omega
 ·have : (b + 1) * n ≤ a * n := Nat.mul_le_mul_right n h;rw [Nat.add_mul] at this;omega
theorem eH_low {l : List Ho} (hl : ∀ x ∈ l, HoOk x) {z : Nat} (hz : z < l.length) : -9223372036854775808 ≤ (eH l z).u := by
 obtain ⟨v, hv⟩ := get_lt hz;rw [eH_at hv];exact (bounds_i64 (hl v (List.mem_of_getElem? hv)).u).1
theorem keyH_cmp {l : List Ho} (hl : ∀ x ∈ l, HoOk x) (x y : Nat) (hxy : x < y) (hy : y < l.length) : HK.ltC (fun x y => cmpI (eH l x).u (eH l y).u) y x = decide (keyH l y < keyH l x) := by
 have bx := eH_low hl (show x < l.length by omega);have by_ := eH_low hl hy;unfold HK.ltC keyH;show decide (cmpI (eH l y).u (eH l x).u < 0) = _;unfold cmpI;rw [decide_eq_decide, keyH_lt hy (by omega)];generalize (eH l x).u = a at *;generalize (eH l y).u = b at *;have : (if b < a then (-1 : Int) else if a < b then 1 else 0) < 0 ↔ b < a := by split <;> (try split) <;> omega
 rw [this];omega
theorem keyH_asc {l : List Ho} {Z : List Nat} (hl : ∀ x ∈ l, HoOk x) (hp : Z.Perm (List.range l.length)) (h : PK.Asc (keyH l) Z) : (Z.map (eH l)).Pairwise fun a b => a.u ≤ b.u := by
 rw [List.pairwise_map];refine List.Pairwise.imp_of_mem (fun {x y} hx hy hk => ?_) h;have hx' : x < l.length := by simpa using hp.mem_iff.1 hx
 have hy' : y < l.length := by simpa using hp.mem_iff.1 hy
 have bx := eH_low hl hx';have by_ := eH_low hl hy';unfold keyH at hk;have := keyH_lt (n := l.length) (a := ((eH l y).u + 9223372036854775808).toNat) (b := ((eH l x).u + 9223372036854775808).toNat) hy' hx';omega
set_option maxHeartbeats 1000000 in
theorem byend_cl (x y : Ho) (w : World) : Calls Tryz.prog 109 #[.agg (hoA x), .agg (hoA y)] w fun e w' => e = .returned (.int .i64 (cmpI x.u y.u)) ∧ Below w.heap.size w w' := by
 have hC := Hq (fun W => compare_any x.u y.u W);have HB := Hq (((Below.refl w.heap.size w).alloc (Nat.le_refl _) (hoO x)).alloc (by simp) (hoO y));unfold hoO hoA at HB;unfold hoA;go_enter Tryz.func109, Tryz.ntmps109;go_wp2_with (go_at_call 70; refine (hC.out _).mono ?_; rintro e w' ⟨rfl, rfl⟩)
 go_ret
 exact ⟨rfl, HB.out⟩
set_option maxHeartbeats 4000000 in
theorem byEnd_any (A : Option Addr) (c : Nat) (l : List Ho) (w : World) (h : Hos w w.heap.size A l) (hn : l.length ≤ 1000) (hl : ∀ x ∈ l, HoOk x) :
  Calls Tryz.prog 96 #[.slice A l.length c] w fun e w' => ∃ A' c' D, e = .returned (.slice A' l.length c') ∧ Hos w' w'.heap.size A' D ∧ D.Perm l ∧ (D.Pairwise fun a b => a.u ≤ b.u) ∧ Below w.heap.size w w' ∧ l.length ≤ c' := by
 obtain ⟨n, hnn⟩ : ∃ n, n = l.length := ⟨_, rfl⟩
 have hC := Hq (clone_h A c l w h (by omega));have HL := Hq (Ai hnn hl);rw [← hnn] at hn hC ⊢;clear h hnn hl;go_enter Tryz.func96, Tryz.ntmps96;go_wp2_with fail;refine hC.out.mono ?_;rintro e w2 (⟨h0, rfl, rfl⟩ | ⟨g, cp, rfl, hown, hb2⟩)
 ·have H0 := Hq h0;obtain rfl : n = 0 := by rw [HL.out.1, h0]; rfl
  clear h0 hC;go_wp2_with fail;refine (hsort_nil _).mono ?_;rintro e w4 ⟨rfl, rfl⟩;go_wp2
  go_ret
  exact ⟨none, 0, [], rfl, .inl rfl, by rw [H0.out], List.Pairwise.nil, Below.refl _ _, Nat.le_refl _⟩
 ·have HB2 := Hq hb2;have Hown := Hq hown;have hSt : Hid (Calls Tryz.prog 108 #[.slice (some ⟨g, 0, none⟩) n cp, .func (.func 109) #[] #[]] w2 fun e w' => e = .returned (.tuple #[]) ∧ Foot (· = g) w2 w' ∧ Hid (∃ Z, HBlk (eH l) w' g Z ∧ Z.Perm (List.range n) ∧ PK.Asc (keyH l) Z)) := Hq (by
   refine hsortstable_any (eH l) cp (keyH l) g n (.bool false) (fun x y => cmpI (eH l x).u (eH l y).u) w2 ?_ (fun x y hxy hy => keyH_cmp HL.out.2 x y hxy (by rw [← HL.out.1]; exact hy)) (by omega) ?_
   ·intro W hW x y hx hy;exact byend_cl _ _ W
   ·rcases Hown.out.2 with ⟨e, h0⟩ | ⟨g', cap, cur, e, _, hg, h1, h2, h3, h4⟩
    ·cases e
    ·injection e with e1 _ e3;injection e1 with e1;injection e1 with e1;subst e1;refine ⟨cur, hg, by rw [List.length_range, h3]; exact Nat.mul_le_mul_right 5 h1, ?_⟩;rw [List.length_range, h4, HL.out.1, eH_flat])
  have Hg := Hq (Ai (Hown.out.lt g rfl).1 (show n ≤ cp from by
   rcases Hown.out.2 with ⟨e, h0⟩ | ⟨g', cap, cur, e, _, hg, h1, h2, h3, h4⟩
   ·cases e
   ·injection e with _ _ e3;omega))
  clear hC hown hb2;go_wp2_with fail;refine hSt.out.mono ?_;rintro e w4 ⟨rfl, hf4, hZ⟩;have HB4 := Hq (HB2.out.trans (hf4.below HB2.out.size (fun i hi => by rw [hi]; exact Hg.out.1)));clear hSt hf4;go_wp2
  go_ret
  obtain ⟨Z, z1, z2, z3⟩ := hZ.out;have z2' : Z.Perm (List.range l.length) := by rw [← HL.out.1]; exact z2
  exact ⟨some ⟨g, 0, none⟩, cp, Z.map (eH l), rfl, z1.hos, by have := z2'.map (eH l); rwa [eH_all] at this, keyH_asc HL.out.2 z2' z3, HB4.out, Hg.out.2⟩
end Go.Proofs.YtkkkhonjcbhelaaGreatDoor
