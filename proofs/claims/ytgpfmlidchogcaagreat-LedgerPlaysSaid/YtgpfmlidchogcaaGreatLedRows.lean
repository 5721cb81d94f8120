/- slices.Clone, slices.Sort, slices.SortFunc, slices.ContainsFunc at a ledger's types. -/
/- A ledger's all: its holds, rising, with slots that are copied. -/
/- A ledger's dropAll: all holds go that are asked for, rising by their ids; once for each of the two closures that it is handed. -/
/- A ledger as an object; what it tells: Holds, View, Free, Used, Version, Drained: each behind its lock. -/
/- Bools in a slice; a ledger's Drained. -/
/- A ledger's map of holds: one is put in, one is written anew; a call's end, behind Unlock. -/
import Derived.Sort.OwnSortedInts
import Derived.Test.YtgpfmlidchogcaaGreatShelf
import Derived.Test.YtgpfmlidchogcaaGreatLedCore
import Derived.Maps.RangeWalk
import Derived.Deep.AppendLies
import Derived.Deep.QuietTactic
import Derived.BigQuiet
set_option maxRecDepth 100000
set_option linter.unusedVariables false
namespace Go.Proofs.YtgpfmlidchogcaaGreat
open Go.RowKit Go.Sort Go.Shelf Go.Lib

theorem asc_unique {α : Type} (key : α → Int) : ∀ {l l' : List α}, l.Perm l' → l.Pairwise (fun a b => key a < key b) → l'.Pairwise (fun a b => key a < key b) → l = l'
 | [], l', hp, _, _ => hp.nil_eq
 | a :: l, [], hp, _, _ => hp.eq_nil
 | a :: l, b :: l', hp, h1, h2 => by
  obtain ⟨p1, p2⟩ := List.pairwise_cons.1 h1
  obtain ⟨q1, q2⟩ := List.pairwise_cons.1 h2
  have e : a = b := by
   rcases List.mem_cons.1 (hp.mem_iff.1 (List.mem_cons_self ..)) with e | e
   ·exact e
   ·rcases List.mem_cons.1 (hp.mem_iff.2 (List.mem_cons_self ..)) with e' | e'
    ·exact e'.symm
    ·have := q1 a e
     have := p1 b e'
     omega
  subst e
  rw [asc_unique key ((List.perm_cons a).1 hp) p2 q2]
theorem slots_els {w : World} {B : Nat} {A : Option Addr} {l : List PM.Sl} (h : Slots w B A l) : Els slC 4 w B A l := h.imp (Nat.le_refl _) fun b o s _ hs r v hr => by
 obtain ⟨h0, h1, h2, h3⟩ := hs
 match r, hr with
 | 0, hr => simp [slC] at hr; rw [← hr]; exact h0
 | 1, hr => simp [slC] at hr; rw [← hr]; exact h1
 | 2, hr => simp [slC] at hr; rw [← hr]; exact h2
 | 3, hr => simp [slC] at hr; rw [← hr]; exact h3
 | r + 4, hr => simp [slC] at hr
theorem els_slots {w : World} {B : Nat} {A : Option Addr} {l : List PM.Sl} (h : Els slC 4 w B A l) : Slots w B A l := h.imp (Nat.le_refl _) fun b o s _ hs => ⟨hs 0 _ rfl, hs 1 _ rfl, hs 2 _ rfl, hs 3 _ rfl⟩
theorem slC_len1 (s : PM.Sl) : (slC s).length = 4 := rfl
theorem slC_one (s : PM.Sl) : ∀ v ∈ slC s, v.oneCell' = true := by simp [slC, Value.oneCell']
theorem clone_any (A : Option Addr) (c : Nat) (l : List PM.Sl) (w : World) (h : Slots w w.heap.size A l) (h1 : 1 ≤ l.length) (hn : l.length ≤ 100000) :
  Calls Tryz.prog 53 #[.slice A l.length c] w fun e w' => ∃ g cp, e = .returned (.slice (some ⟨g, 0, none⟩) l.length cp) ∧
   w'.ownsRow w.heap.size 41 4 (.slice (some ⟨g, 0, none⟩) l.length cp) l.length (l.flatMap slC) ∧ Below w.heap.size w w' := by
 rcases slots_els h with h0 | ⟨b, off, rfl, hb, hc⟩
 ·subst h0; simp at h1
 obtain ⟨i0, hi, hz0, hz1, hz2⟩ := info_parts info_slot
 have hcon := AnyE.slices_Clone Tryz.cloneS i0 _ 4 32 hi hz0 hz1 hz2 rfl (by decide) Tryz.sizeOf41 b off l.length c (l.flatMap slC) w (flat_len slC_len1 l) (by unfold maxLen; omega) (by omega)
  (fun j u hj => by have := els_cells slC_len1 (by decide) hc j u hj; rwa [Addr.add_lit] at this) (els_one slC_one l)
 refine (show Calls Tryz.prog 53 _ _ _ from hcon).mono ?_
 rintro e w' ⟨v, rfl, ho, hne, hb'⟩
 rcases ho.2 with ⟨e0, h0⟩ | ⟨g, cap, cur, e0, _⟩
 ·omega
 ·subst e0
  exact ⟨g, cap, rfl, ho, hb'⟩

/-! ### Ids, sorted -/
theorem sortI_any {B : Nat} {v : Value} {zs L : List Int} {w : World} (h : w.ownsRow B 3 1 v zs.length (zs.map (Value.int .i64))) (hp : zs.Perm L) (hL : L.Pairwise (fun a b => a < b)) (hn : zs.length ≤ 100000) :
  Calls Tryz.prog 107 #[v] w fun e w' => e = .returned (.tuple #[]) ∧ w'.ownsRow B 3 1 v L.length (L.map (Value.int .i64)) ∧ w.grownBy w' v.ownBlock := by
 rcases h.2 with ⟨rfl, h0⟩ | ⟨g, cap, cur, rfl, hB, hg, h1, h2, h3, h4⟩
 ·have hz : zs = [] := List.eq_nil_of_length_eq_zero (by first | exact h0 | (simp at h0; simpa using h0) | omega)
  subst hz
  have hL0 : L = [] := hp.nil_eq.symm
  subst hL0
  refine (show Calls Tryz.prog 107 _ _ _ from AnyM.slices_Sort_int_none Tryz.sortI none 0 w).mono ?_
  rintro e w' ⟨rfl, rfl⟩
  exact ⟨rfl, World.ownsRow_nil _ _ _ _, World.grownBy.refl _ _⟩
 ·have hcon := AnyM.slices_Sort_int Tryz.sortI g 0 cap zs w (holds_of_blockI hg (by rw [Nat.mul_one] at h4; simpa using h4)) (blk_lt hg) (by omega)
  have hm : (zs.mergeSort fun x y => decide (x ≤ y)) = L := by
   have p1 := List.mergeSort_perm zs (fun x y => decide (x ≤ y))
   refine asc_unique id (p1.trans hp) ?_ hL
   have s1 : (zs.mergeSort fun x y => decide (x ≤ y)).Pairwise (fun a b => decide (a ≤ b) = true) := List.pairwise_mergeSort (le := fun x y => decide (x ≤ y)) (by intro a b c h1 h2; simp at *; omega) (by intro a b; simp; omega) zs
   have nd : (zs.mergeSort fun x y => decide (x ≤ y)).Nodup := (p1.trans hp).nodup_iff.2 (hL.imp fun {a b} hab => by omega)
   refine (s1.and nd).imp fun {a b} hab => ?_
   have := hab.1
   have := hab.2
   simp at *
   omega
  rw [hm] at hcon
  refine (show Calls Tryz.prog 107 _ _ _ from hcon).mono ?_
  rintro e w' ⟨rfl, n, os, rfl⟩
  refine ⟨rfl, ?_, grownBy_sortedI _⟩
  have := ownsRow_sortedI (n := n) (os := os) (ss := zs) (ts := L) hp.length_eq.symm hB hg h1 h2 h3
  rw [← hp.length_eq]
  exact this

/-! ### Rows of elements of some cells each, sorted -/
section
variable {α : Type} [Inhabited α] {C : α → List Value} {k : Nat}
theorem flatK_at (hC : ∀ x, (C x).length = k) (hk : 0 < k) {l : List α} {j : Nat} (hj : j < l.length * k) : (l.flatMap C)[j]? = some ((flatK C k l.toArray)[j]!) := by
 have hi : j / k < l.length := Nat.div_lt_of_lt_mul (by rw [Nat.mul_comm]; exact hj)
 have hr := Nat.mod_lt j hk
 have hjm : j / k * k + j % k = j := by rw [Nat.mul_comm]; exact Nat.div_add_mod j k
 have e := flat_get hC (List.getElem?_eq_getElem hi) hr
 rw [hjm] at e
 rw [e, get_flatK C k l.toArray j (by simpa using hj)]
 have e1 : l.toArray[j / k]! = l[j / k] := by simp [hi]
 rw [e1]
 have hlen : j % k < (C l[j / k]).length := by rw [hC]; exact hr
 rw [List.getElem?_eq_getElem hlen]
 exact congrArg some (getElem!_pos (C l[j / k]) (j % k) hlen).symm
theorem holdsK_own (hC : ∀ x, (C x).length = k) (hk : 0 < k) {w : World} {g : Nat} {cur : Array Value} {e : TypeId} {l : List α} (hb : w.heap[g]? = some (.cells cur e (0, 0))) (ht : cur.toList.take (l.length * k) = l.flatMap C) : HoldsK C k w g 0 l.toArray := by
 intro j hj
 have hj' : j < l.length * k := by simpa using hj
 refine ⟨?_, by simp [World.frozen?, hb]⟩
 have h1 := flatK_at hC hk hj'
 rw [← ht, List.getElem?_take, if_pos hj'] at h1
 rw [Nat.zero_add]
 exact cell_blk hb (by simpa using h1)
theorem own_sortedK (hC : ∀ x, (C x).length = k) (hk : 0 < k) {w : World} {base g cap m : Nat} {e : TypeId} {os : Array Obj} {cur : Array Value} {n : Nat} {d : Array α} (hl : d.size = n) (hbase : base ≤ g) (hb : w.heap[g]? = some (.cells cur e (0, 0)))
  (h1 : n ≤ cap) (h2 : cap ≤ maxLen) (h3 : cur.size = cap * k) :
  (sortWorldK C k w g 0 m d os).ownsRow base e k (.slice (some ⟨g, 0, none⟩) n cap) n (d.toList.flatMap C) ∧ w.grownBy (sortWorldK C k w g 0 m d os) (some g) := by
 have hg : g < w.heap.size := blk_lt hb
 have hblk : (sortWorldK C k w g 0 m d os).heap[g]? = some (.cells (putCells id 0 (flatK C k d) cur) e (0, 0)) := by
  unfold sortWorldK putRowK
  rw [heap_grow_old _ _ (by simpa [putRow, mapBlock] using hg)]
  simp [putRow, mapBlock, Sort.ahead, Array.getElem?_modify, hb, onCells]
 refine ⟨⟨by rw [flat_len hC]; simp [hl], .inr ⟨g, cap, _, rfl, hbase, hblk, h1, h2, by simp [putCells, h3], ?_⟩⟩, ⟨rfl, rfl, rfl, by simp [sortWorldK, putRowK, putRow, mapBlock, grow], fun i hi hne => ?_⟩⟩
 ·apply List.ext_getElem?
  intro j
  by_cases hj : j < n * k
  ·have h5 := flatK_at hC hk (l := d.toList) (j := j) (by simpa [hl] using hj)
   rw [h5, List.getElem?_take, if_pos hj]
   have hjc : j < cur.size := by rw [h3]; exact Nat.lt_of_lt_of_le hj (Nat.mul_le_mul_right k h1)
   simp [putCells, hjc, hl, hj]
  ·rw [List.getElem?_eq_none (by rw [List.length_take]; omega), List.getElem?_eq_none (by rw [flat_len hC]; simp [hl]; omega)]
 ·unfold sortWorldK putRowK
  rw [heap_grow_old _ _ (by simpa [putRow, mapBlock] using hi)]
  have : g ≠ i := fun e => hne (by rw [e])
  simp [putRow, mapBlock, Sort.ahead, Array.getElem?_modify, this]
theorem permIn_list {d d' : Array α} (h : PermIn 0 d.size d d') : d'.toList.Perm d.toList := by
 obtain ⟨h1, _, h2⟩ := h
 have e1 : d'.extract 0 d.size = d' := by rw [← h1]; simp
 rw [e1] at h2
 simpa using h2
end

/-! ### Holds, sorted -/
structure Hs where
 h : Hd
 A : Option Addr
 c : Nat
instance : Inhabited Hs := ⟨⟨⟨0, 0, 0, false, []⟩, none, 0⟩⟩
def hsV (x : Hs) : Value := .slice x.A x.h.sl.length x.c
def hsC (x : Hs) : List Value := [.int .i64 x.h.id, .int .i64 x.h.q, .int .i64 x.h.un, .bool x.h.run, hsV x]
theorem hsC_len (x : Hs) : (hsC x).length = 5 := rfl
theorem hsC_one (x : Hs) : ∀ v ∈ hsC x, v.oneCell' = true := by simp [hsC, hsV, Value.oneCell']
def cfH (x y : Hs) : Int := Lib.compareInt x.h.id y.h.id
theorem ltH (x y : Hs) : ltOf cfH x y = decide (x.h.id < y.h.id) := by
 unfold ltOf cfH Lib.compareInt
 by_cases h1 : x.h.id < y.h.id
 ·simp [h1]
 ·by_cases h2 : y.h.id < x.h.id <;> simp [h1, h2]
theorem swoH : SWO (ltOf cfH) where
 irrefl x := by rw [ltH]; simp
 trans x y z h1 h2 := by rw [ltH] at *; simp at *; omega
 ntrans x y z h1 h2 := by rw [ltH] at *; simp at *; omega
set_option maxHeartbeats 1000000 in
theorem all_cl (x y : Hs) (W : World) : Calls Tryz.prog 98 #[.agg #[.int .i64 x.h.id, .int .i64 x.h.q, .int .i64 x.h.un, .bool x.h.run, hsV x], .agg #[.int .i64 y.h.id, .int .i64 y.h.q, .int .i64 y.h.un, .bool y.h.run, hsV y]] W
  fun e w' => e = .returned (.int .i64 (cfH x y)) ∧ ∃ q os', w' = grow (W.drewN q) os' := by
 have hcon : ∀ W', Calls Tryz.prog 99 #[.int .i64 x.h.id, .int .i64 y.h.id] W' fun e w' => e = .returned (.int .i64 (cfH x y)) ∧ w' = W' := fun W' => AnyG.cmp_Compare_int Tryz.cmpI x.h.id y.h.id W'
 unfold hsV
 generalize cfH x y = r at hcon ⊢
 obtain ⟨⟨xi, xq, xu, xr, xs⟩, xA, xc⟩ := x
 obtain ⟨⟨yi, yq, yu, yr, ys⟩, yA, yc⟩ := y
 simp only at hcon ⊢
 go_enter Tryz.func98, Tryz.ntmps98
 go_wp2_with (go_at_call 99; refine (hcon _).mono ?_; rintro e w' ⟨rfl, rfl⟩)
 go_ret
 exact ⟨rfl, 0, _, by rw [alloc_eq_grow, alloc_eq_grow, grow_grow]; rfl⟩
theorem sortH_any {B : Nat} {v : Value} {zs L : List Hs} {w : World} (h : w.ownsRow B 44 5 v zs.length (zs.flatMap hsC)) (hp : zs.Perm L) (hL : L.Pairwise (fun a b => a.h.id < b.h.id)) (hn : zs.length ≤ 100000) :
  Calls Tryz.prog 97 #[v, .func (.func 98) #[] #[]] w fun e w' => e = .returned (.tuple #[]) ∧ w'.ownsRow B 44 5 v L.length (L.flatMap hsC) ∧ w.grownBy w' v.ownBlock := by
 rcases h.2 with ⟨rfl, h0⟩ | ⟨g, cap, cur, rfl, hB, hg, h1, h2, h3, h4⟩
 ·have hz : zs = [] := List.eq_nil_of_length_eq_zero (by first | exact h0 | (simp at h0; simpa using h0) | omega)
  subst hz
  have hL0 : L = [] := hp.nil_eq.symm
  subst hL0
  refine (show Calls Tryz.prog 97 _ _ _ from AnyF.slices_SortFunc_none Tryz.sortH none 0 _ w).mono ?_
  rintro e w' ⟨rfl, rfl⟩
  exact ⟨rfl, World.ownsRow_nil _ _ _ _, World.grownBy.refl _ _⟩
 ·have eg : ∀ args w, (callFunc 98 args).run Tryz.prog w = .ok (.enter 98 args) w := enters_of Tryz.func98 (by kernel_rfl) rfl
  have hcon := AnyQ.slices_SortFunc Tryz.sortH 5 Tryz.isAgg44 Tryz.sizeOf44 hsC hsC_len hsC_one cfH swoH 98 #[] g 0 cap zs.toArray w eg (fun _ _ _ _ x y => all_cl x y _) (holdsK_own hsC_len (by decide) hg h4) (blk_lt hg) (by simp; omega)
  rw [List.size_toArray] at hcon
  refine (show Calls Tryz.prog 97 _ _ _ from hcon).mono ?_
  rintro e w' ⟨rfl, d', n, os, hpp, hs, rfl⟩
  have hdp : d'.toList.Perm zs := by
   have := permIn_list (d := zs.toArray) (d' := d') (by rw [List.size_toArray]; exact hpp)
   simpa using this
  have hds : d'.size = zs.length := by have := hdp.length_eq; simpa using this
  have hdL : d'.toList = L := by
   refine asc_unique (fun x : Hs => x.h.id) (hdp.trans hp) ?_ hL
   have hle : d'.toList.Pairwise (fun a b => a.h.id ≤ b.h.id) := by
    rw [List.pairwise_iff_getElem]
    intro i j hi hj hij
    have hi' : i < d'.size := by simpa using hi
    have hj' : j < d'.size := by simpa using hj
    have := hs i j (Nat.zero_le _) hij (by omega)
    rw [ltH, getElem!_pos d' i hi', getElem!_pos d' j hj'] at this
    simp at this ⊢
    omega
   have hne : d'.toList.Pairwise (fun a b => a.h.id ≠ b.h.id) := ((hdp.trans hp).pairwise_iff (fun {_ _} h => Ne.symm h)).2 (hL.imp fun {a b} hab => by omega)
   exact (hle.and hne).imp fun {a b} hab => by have := hab.1; have := hab.2; omega
  obtain ⟨o1, o2⟩ := own_sortedK (C := hsC) hsC_len (by decide) (m := n) (os := os) (d := d') (n := zs.length) hds hB hg h1 h2 h3
  rw [hdL] at o1
  rw [← hp.length_eq]
  exact ⟨rfl, o1, o2⟩
end Go.Proofs.YtgpfmlidchogcaaGreat

set_option maxRecDepth 100000
set_option linter.unusedVariables false
namespace Go.Proofs.YtgpfmlidchogcaaGreat
open Go.RowKit

theorem perm_lift {α β : Type} (f : α → β) {l' hs : List β} (hp : l'.Perm hs) : ∀ {L : List α}, L.map f = l' → ∃ L0, L.Perm L0 ∧ L0.map f = hs := by
 induction hp with
 | nil => intro L h; exact ⟨[], by simpa using h, rfl⟩
 | cons x _ ih =>
  intro L h
  cases L with
  | nil => simp at h
  | cons a L =>
   simp at h
   obtain ⟨L0, h1, h2⟩ := ih h.2
   exact ⟨a :: L0, h1.cons a, by simp [h.1, h2]⟩
 | swap x y l =>
  intro L h
  match L, h with
  | [], h => simp at h
  | [a], h => simp at h
  | a :: b :: L, h =>
   simp at h
   exact ⟨b :: a :: L, List.Perm.swap b a L, by simp [h.1, h.2.1, h.2.2]⟩
 | trans _ _ ih1 ih2 =>
  intro L h
  obtain ⟨L1, a1, a2⟩ := ih1 h
  obtain ⟨L2, b1, b2⟩ := ih2 a2
  exact ⟨L2, a1.trans b1, b2⟩
theorem all_perm {hs l : List Hd} (ha : LM.Asc hs) (hn : (l.map (·.id)).Nodup) (hm : ∀ h ∈ l, h ∈ hs) (hall : ∀ h ∈ hs, h.id ∈ l.map (·.id)) : l.Perm hs := by
 have n1 : l.Nodup := (List.pairwise_map.1 hn).imp fun {a b} h e => h (by rw [e])
 have n2 : hs.Nodup := ha.imp fun {a b} h e => by rw [e] at h; omega
 refine (List.perm_ext_iff_of_nodup n1 n2).2 fun h => ⟨hm h, fun hh => ?_⟩
 obtain ⟨g, hg, e⟩ := List.mem_map.1 (hall h hh)
 rw [LM.asc_inj ha hh (hm g hg) e.symm]
 exact hg

def HL (w : World) (G : Nat → Prop) (A : Option Addr) (hs : List Hd) : Prop := ∃ L : List Hs, L.map (·.h) = hs ∧ Els hsC 5 w w.heap.size A L ∧ (∀ x ∈ L, Slots w w.heap.size x.A x.h.sl) ∧
 (∀ b off, A = some ⟨b, off, none⟩ → G b) ∧ ∀ x ∈ L, ∀ b off, x.A = some ⟨b, off, none⟩ → G b
section
variable {w w' : World} {G F : Nat → Prop} {A : Option Addr} {hs : List Hd}
theorem Slots.off2 {l : List PM.Sl} {B B' : Nat} (h : Slots w B A l) (hB : B ≤ B') (hk : ∀ b off, A = some ⟨b, off, none⟩ → b < B → w'.heap[b]? = w.heap[b]?) : Slots w' B' A l := by
 rcases h with h | ⟨b, off, rfl, hb, hc⟩
 ·exact .inl h
 ·exact .inr ⟨b, off, rfl, by omega, fun i x hx => (hc i x hx).of (hk b off rfl hb)⟩
theorem HL.off (h : HL w G A hs) (hs' : w.heap.size ≤ w'.heap.size) (hk : ∀ i, G i → i < w.heap.size → w'.heap[i]? = w.heap[i]?) : HL w' G A hs := by
 obtain ⟨L, h1, h2, h3, h4, h5⟩ := h
 exact ⟨L, h1, (h2.off fun b off e hb => hk b (h4 b off e) hb).imp hs' fun _ _ _ _ hd => hd, fun x hx => (h3 x hx).off2 hs' fun b off e hb => hk b (h5 x hx b off e) hb, h4, h5⟩
theorem HL.keep (h : HL w G A hs) (hk : Below w.heap.size w w') : HL w' G A hs := h.off hk.size fun i _ hi => hk.block i hi
theorem HL.foot (h : HL w G A hs) (hk : Foot F w w') (hG : ∀ i, G i → ¬ F i) : HL w' G A hs := h.off hk.size fun i hg hi => hk.block i hi (hG i hg)
end
theorem info_hold : (Tryz.prog.info? 44).map (fun i => (i.zero, i.size, i.bytes)) = some (some (.agg #[.int .i64 0, .int .i64 0, .int .i64 0, .bool false, .slice none 0 0]), 5, 56) := by kernel_rfl
theorem own_low {W : World} {b c : Nat} {e : TypeId} {size : Nat} {v : Value} {n : Nat} {xs : List Value} (h : W.ownsRow c e size v n xs) (hb : b ≤ c) : W.ownsRow b e size v n xs := by
 refine ⟨h.1, ?_⟩
 rcases h.2 with h1 | ⟨g, cap, cur, rfl, h2, h3⟩
 ·exact .inl h1
 ·exact .inr ⟨g, cap, cur, rfl, Nat.le_trans hb h2, h3⟩
theorem own_types {w : World} {B1 B2 : Nat} {t1 t2 : TypeId} {k1 k2 n1 n2 : Nat} {v1 v2 : Value} {xs1 xs2 : List Value} (h1 : w.ownsRow B1 t1 k1 v1 n1 xs1) (h2 : w.ownsRow B2 t2 k2 v2 n2 xs2) (hne : t1 ≠ t2) : ∀ i, v1.ownBlock = some i → v2.ownBlock ≠ some i := by
 intro i e1 e2
 rcases h1.2 with ⟨rfl, _⟩ | ⟨g, cap, cur, rfl, _, hg, _⟩
 ·cases e1
 rcases h2.2 with ⟨rfl, _⟩ | ⟨g', cap', cur', rfl, _, hg', _⟩
 ·cases e2
 have e1' : g = i := by simpa [Value.ownBlock] using e1
 have e2' : g' = i := by simpa [Value.ownBlock] using e2
 subst e1'; subst e2'
 rw [hg] at hg'
 injection hg' with hg'
 injection hg' with _ ht
 exact hne ht
theorem own_range {w : World} {B : Nat} {t : TypeId} {k n : Nat} {v : Value} {xs : List Value} {P : Program} {tk : TypeId} {m r c cnt : Nat} {f : Int → Option Value} {seen : List Int} (h : w.ownsRow B t k v n xs) (hr : RangeOf P tk w m r c f seen cnt) : some m ≠ v.ownBlock ∧ some r ≠ v.ownBlock := by
 obtain ⟨_, _, D, left, ⟨es, clock, since, sn, c0, e1, _, _, _, e5, _⟩, _⟩ := hr
 rcases h.2 with ⟨rfl, _⟩ | ⟨g, cap, cur, rfl, _, hg, _⟩
 ·simp [Value.ownBlock]
 ·refine ⟨fun e => ?_, fun e => ?_⟩
  ·have : m = g := by simpa [Value.ownBlock] using e
   subst this; rw [e1] at hg; cases hg
  ·have : r = g := by simpa [Value.ownBlock] using e
   subst this; rw [e5] at hg; cases hg
theorem own_cap {w : World} {base : Nat} {e : TypeId} {size : Nat} {A : Option Addr} {n c m : Nat} {xs : List Value} (h : w.ownsRow base e size (.slice A m c) n xs) : n ≤ c := by
 rcases h.2 with ⟨e, rfl⟩ | ⟨g, cap, cur, e, _, _, h2, _⟩
 ·exact Nat.zero_le _
 ·cases e; exact h2
set_option maxHeartbeats 8000000 in
theorem all_lc {w : World} {lk : Int} {p pp pa hm : Nat} {FP FQ : Nat → Prop} {V : Int → Value} {fs : List Fr} {st : LS} (h : LAt w lk p pp pa hm FP FQ V fs st) (hfew : st.hs.length ≤ 100000) :
  Calls Tryz.prog 57 #[.pointer (some ⟨p, 0, none⟩)] w fun e w' => ∃ A c G, e = .returned (.slice A st.hs.length c) ∧ st.hs.length ≤ c ∧ HL w' G A st.hs ∧ (∀ i, G i → w.heap.size ≤ i ∧ i < w'.heap.size) ∧ Below w.heap.size w w' := by
 have c4 := h.cells.2.2.2.2.1
 have lp := h.lt.1
 have lm := h.lt.2.1
 have hlen := fun ty => h.map.len hTy ty
 obtain ⟨i0, hi, hz0, hz1, hz2⟩ := info_parts info_hold
 obtain ⟨n, hn⟩ : ∃ n, n = st.hs.length := ⟨_, rfl⟩
 have H := Lib.hid h
 have hmp := h.map
 rw [← hn] at hlen hfew hmp ⊢
 have HN := Lib.hid hn
 have HMP := Lib.hid hmp
 clear h hmp hn
 go_enter Tryz.func57, Tryz.ntmps57
 go_wp2_with (first
  | (at_make; refine wpList_make_own _ rfl _ _ 60 rfl w.heap.size 44 i0 _ 5 Tryz.underlying60 hi hz0 hz1 _ _ _ n rfl rfl rfl (by rw [hz2]; omega) (by unfold maxLen; omega) (Nat.le_refl _) ?_; intro w1 hrow1 hg1; have b4 : w1.cell? ⟨p, 4, none⟩ = some (.map (some hm)) := (World.cell?_of_block (hg1.block p lp (by simp))).trans c4)
  | (at_range; refine wpList_range_of (tk := 3) (te := 44) _ rfl _ rfl hKey hTy rfl (HMP.out.of_block (hg1.block hm lm (by simp))) ?_; intro w0 hrg0 hg0 hs0))
 go_frame
 have hB0 : Below w.heap.size w w0 := ((Below.refl _ _).grown hg1 (Nat.le_refl _) (fun j hj => by cases hj)).grown hg0 hg1.size (fun j hj => by cases hj)
 obtain ⟨R, hR⟩ : ∃ R, R = w1.heap.size := ⟨_, rfl⟩
 rw [← hR] at hrg0 ⊢
 have hRw : w.heap.size ≤ R := by rw [hR]; exact hg1.size
 have hrow0 := hrow1.kept hg0 (Or.inr (by simp [Value.ownBlock]))
 clear hR hs0 hg0 hg1 hrow1 b4 hlen c4
 have HB0 := Lib.hid hB0
 have HRG0 := Lib.hid hrg0
 have HROW0 := Lib.hid hrow0
 clear hB0 hrg0 hrow0
 go_loopw [3] (fun out wr => ∃ (seen : List Int) (cnt : Nat) (A : Option Addr) (c : Nat) (L : List Hs), out = .slice A L.length c ∧ L.length + cnt ≤ n ∧ Hid (RangeOf Tryz.prog 3 wr hm R n (hView st.hs V) seen cnt) ∧ Hid (L.map (fun x => x.h.id) = seen) ∧ Hid (∀ x ∈ L, x.h ∈ st.hs) ∧
  Hid (wr.ownsRow w.heap.size 44 5 (.slice A L.length c) L.length (L.flatMap hsC)) ∧ Hid (∀ x ∈ L, wr.ownsRow w.heap.size 41 4 (hsV x) x.h.sl.length (x.h.sl.flatMap slC)) ∧ Hid (Below w.heap.size w wr)) (fun _ wr => wr.rangeLeft hm R)
 case atStart => exact ⟨[], n, _, _, [], rfl, by simp, HRG0, Lib.hid rfl, Lib.hid (by simp), HROW0, Lib.hid (by simp), HB0⟩
 case round =>
  obtain ⟨seen, cnt, A, c, L, rfl, hcn, hRg, hSe, hIn, hOw, hSl, hBl⟩ := hrel
  obtain ⟨nl, hnl⟩ : ∃ nl, nl = L.length := ⟨_, rfl⟩
  rw [← hnl] at hcn ⊢
  have HNL := Lib.hid hnl
  clear hnl
  go_wp2_with (first
   | (at_next; refine wpList_next_of (tk := 3) _ rfl _ rfl hKey R seen cnt rfl hRg.out ?_ ?_))
  ·intro hall
   have hperm : (L.map (·.h)).Perm st.hs := by
    refine all_perm H.out.ok.asc ?_ (fun g hg => ?_) (fun g hg => ?_)
    ·have := hRg.out.1
     rw [← hSe.out] at this
     simpa [List.map_map, Function.comp_def] using this
    ·obtain ⟨x, hx, rfl⟩ := List.mem_map.1 hg
     exact hIn.out x hx
    ·have := hall g.id (H.out.ok.ok g hg).id (by unfold hView; rw [LM.find_of H.out.ok.asc hg]; rfl)
     rw [← hSe.out] at this
     simpa [List.map_map, Function.comp_def] using this
   obtain ⟨L0, p1, p2⟩ := perm_lift (fun x : Hs => x.h) hperm rfl
   have hasc : L0.Pairwise (fun a b => a.h.id < b.h.id) := by
    have := H.out.ok.asc
    rw [← p2] at this
    exact (List.pairwise_map (f := fun x : Hs => x.h) (R := fun a b : Hd => a.id < b.id)).1 this
   have hl0 : L0.length = n := by rw [HN.out, ← p2]; simp
   have hS := sortH_any (L := L0) hOw.out p1 hasc (by rw [← HNL.out]; omega)
   rw [← HNL.out] at hS
   have HS := Lib.hid hS
   have HP := Lib.hid (And.intro p1 (And.intro p2 hl0))
   clear hperm p1 p2 hasc hS hall hl0
   go_wp2_with (go_at_call 97; refine HS.out.mono ?_; rintro e w2 ⟨rfl, ho2, hg2⟩)
   go_ret
   obtain ⟨p1, p2, hl0⟩ := HP.out
   have hnn : nl = n := by rw [HNL.out, ← hl0, p1.length_eq]
   subst hnn
   rw [hl0] at ho2
   have hb2 : Below w.heap.size w w2 := hBl.out.grown hg2 hBl.out.size fun i hi => ((hOw.out.lt i (by rw [← HNL.out]; exact hi))).1
   have hsl2 : ∀ x ∈ L0, w2.ownsRow w.heap.size 41 4 (hsV x) x.h.sl.length (x.h.sl.flatMap slC) := fun x hx => own_stays (hSl.out x (p1.mem_iff.2 hx)) fun i hi => hg2.block i ((hSl.out x (p1.mem_iff.2 hx)).lt i hi).2 fun e => own_types (hSl.out x (p1.mem_iff.2 hx)) hOw.out (by decide) i hi (by rw [← HNL.out]; exact e.symm)
   obtain ⟨q1, q2⟩ := els_own hsC_len ho2 hl0
   refine ⟨A, c, fun i => w.heap.size ≤ i ∧ i < w2.heap.size, rfl, own_cap ho2, ⟨L0, p2, q1, fun x hx => own_slots (hsl2 x hx), q2, fun x hx b off e => (hsl2 x hx).lt b ?_⟩, fun i hi => hi, hb2⟩
   unfold hsV; rw [e]; rfl
  ·intro x v w1 cnt1 hwx hns hfx hrg1 hlt hgr hsz hen
   obtain ⟨g, hg, rfl, rfl⟩ : ∃ g ∈ st.hs, x = g.id ∧ v = hdV g (V g.id) := by
    unfold hView at hfx
    obtain ⟨g, h1, h2⟩ := Option.map_eq_some_iff.1 hfx
    exact ⟨g, (LM.find_some h1).1, (LM.find_some h1).2.symm, h2.symm⟩
   have hLw : LAt wr lk p pp pa hm FP FQ V fs st := H.out.keep (hBl.out.mono (Nat.le_refl _))
   obtain ⟨b, cV, eV, hsl, hbl, _⟩ := H.out.slots hg
   rw [eV] at hen
   unfold hdV at hen ⊢
   rw [eV]
   have hgo := H.out.ok.ok g hg
   have hB1 : Below w.heap.size w w1 := hBl.out.grown hgr hBl.out.size fun j hj => by cases hj; exact hRw
   obtain ⟨W, hW⟩ : ∃ W, W = w1.alloc (.cells #[.int .i64 g.id, .int .i64 g.q, .int .i64 g.un, .bool g.run, .slice (some ⟨b, 0, none⟩) g.sl.length cV] 44) := ⟨_, rfl⟩
   have hBW : Below w.heap.size w W := by rw [hW]; exact hB1.alloc hB1.size _
   have hBW1 : Below w1.heap.size w1 W := by rw [hW]; exact (Below.refl _ _).alloc (Nat.le_refl _) _
   have hbx : W.heap[w1.heap.size]? = some (.cells #[.int .i64 g.id, .int .i64 g.q, .int .i64 g.un, .bool g.run, .slice (some ⟨b, 0, none⟩) g.sl.length cV] 44 (0, 0)) := by rw [hW]; exact heap_alloc_new w1 _
   have HC := Lib.hid (clone_any (some ⟨b, 0, none⟩) cV g.sl W ((Slots.keep hsl hBW hBW.size)) hgo.n1 (by have := hgo.n2; omega))
   obtain ⟨X, hX⟩ : ∃ X, X = w1.heap.size := ⟨_, rfl⟩
   have hXw : w.heap.size ≤ X := by rw [hX]; exact hB1.size
   rw [← hX] at hbx
   have lX : X < W.heap.size := blk_lt hbx
   have x4 : W.cell? ⟨X, 4, none⟩ = some (.slice (some ⟨b, 0, none⟩) g.sl.length cV) := cell_blk (i := 4) hbx rfl
   have hrgW : RangeOf Tryz.prog 3 W hm R n (hView st.hs V) (seen ++ [g.id]) cnt1 := hrg1.of_below hBW1
   have hOw1 := hOw.out.kept hgr (Or.inr (own_range hOw.out hRg.out).2.symm)
   have hSl1 : ∀ y ∈ L, w1.ownsRow w.heap.size 41 4 (hsV y) y.h.sl.length (y.h.sl.flatMap slC) := fun y hy => (hSl.out y hy).kept hgr (Or.inr (own_range (hSl.out y hy) hRg.out).2.symm)
   have hAX : ∀ i, (Value.slice A L.length c).ownBlock = some i → i < X := fun i hi => by rw [hX]; exact (hOw1.lt i hi).2
   have hSX : ∀ y ∈ L, ∀ i, (hsV y).ownBlock = some i → i < X := fun y hy i hi => by rw [hX]; exact ((hSl1 y hy).lt i hi).2
   have hRX : R < X ∧ hm < X := by rw [hX]; exact ⟨hrg1.lt.1, hrg1.lt.2.1⟩
   have HAX := Lib.hid (And.intro hAX (And.intro hSX hRX))
   have HBX := Lib.hid hbx
   have HW := Lib.hid hW
   have HXX := Lib.hid hX
   have K := Lib.hid (And.intro hrgW (And.intro (own_keep hOw1 hBW1) (And.intro (fun y hy => own_keep (hSl1 y hy) hBW1) hBW)))
   have HG := Lib.hid (And.intro hg (And.intro hgo hlt))
   obtain ⟨m, hm'⟩ : ∃ m, m = g.sl.length := ⟨_, rfl⟩
   rw [← hm'] at hen HC HW x4 HBX ⊢
   have HM := Lib.hid hm'
   obtain ⟨gid, e1⟩ : ∃ x, x = g.id := ⟨_, rfl⟩
   obtain ⟨gq, e2⟩ : ∃ x, x = g.q := ⟨_, rfl⟩
   obtain ⟨gu, e3⟩ : ∃ x, x = g.un := ⟨_, rfl⟩
   obtain ⟨gr, e4⟩ : ∃ x, x = g.run := ⟨_, rfl⟩
   rw [← e1, ← e2, ← e3, ← e4] at hen HW HBX ⊢
   have HE := Lib.hid (And.intro e1 (And.intro e2 (And.intro e3 e4)))
   clear hsz hfx hns hwx hrg1 hLw hsl hbl hgo hB1 hBW hBW1 hbx hW hX hrgW hOw1 hSl1 hg hlt hgr hm' e1 e2 e3 e4 eV hAX hSX hRX
   go_wp2_with fail
   rw [← HW.out, ← HXX.out]
   refine HC.out.mono ?_
   rintro e w2 ⟨g2, cp2, rfl, ho2, hb2⟩
   obtain ⟨y0, y1, y2, y3, y4, z0, z1, z2, z3, z4, lX2⟩ := blk5 ((hb2.block X lX).trans HBX.out)
   have HO2 := Lib.hid (And.intro ho2 hb2)
   have lw2 := (show w.heap.size ≤ w2.heap.size from by omega)
   clear ho2 hb2
   have HK3 := Lib.hid (show ∀ i, i ≠ X → (w2.setCell ⟨X, 4, none⟩ (.slice (some ⟨g2, 0, none⟩) m cp2)).heap[i]? = w2.heap[i]? from fun i hne => Below.heap_setCell _ _ _ _ (fun e => hne (by simpa using e)))
   have HA3 := Lib.hid (show (w2.setCell ⟨X, 4, none⟩ (.slice (some ⟨g2, 0, none⟩) m cp2)).ownsRow w.heap.size 44 5 (.slice A nl c) nl (L.flatMap hsC) from (by have h9 := own_keep K.out.2.1 HO2.out.2; rw [← HNL.out] at h9; exact own_stays h9 fun i hi => HK3.out i (Nat.ne_of_lt (HAX.out.1 i (by rw [← HNL.out]; exact hi)))))
   go_wp2_with (at_builtin; refine wpList_append_lies _ rfl _ _ 60 rfl w.heap.size 44 i0 _ 5 56 Tryz.underlying60 hi hz0 hz1 hz2 rfl (by decide) (.slice A nl c) nl (L.flatMap hsC) rfl (HA3.out.alloc _) ⟨w2.heap.size, 0, none⟩ 1 1 [.int .i64 gid, .int .i64 gq, .int .i64 gu, .bool gr, .slice (some ⟨g2, 0, none⟩) m cp2] rfl rfl (World.news_of_block (cs := #[.int .i64 gid, .int .i64 gq, .int .i64 gu, .bool gr, .slice (some ⟨g2, 0, none⟩) m cp2]) (t := 44) (fr := (0, 0)) (by have h9 := heap_alloc_new (w2.setCell ⟨X, 4, none⟩ (.slice (some ⟨g2, 0, none⟩) m cp2)) (.cells #[.int .i64 gid, .int .i64 gq, .int .i64 gu, .bool gr, .slice (some ⟨g2, 0, none⟩) m cp2] 44); simpa using h9)) (by simp [Value.oneCell']) (by omega) (by unfold maxLen; omega) (by omega) (by simp; omega) (w2.heap.size + 1) (by simp) ?_; intro gg cap' w5 hown5 hgrow5 hat5 hlt5)
   have hW4 : w2.heap.size + 1 = ((w2.setCell ⟨X, 4, none⟩ (.slice (some ⟨g2, 0, none⟩) m cp2)).alloc (.cells #[.int .i64 gid, .int .i64 gq, .int .i64 gu, .bool gr, .slice (some ⟨g2, 0, none⟩) m cp2] 44)).heap.size := by simp
   have hk4 : ∀ i, i < w2.heap.size → i ≠ X → ((w2.setCell ⟨X, 4, none⟩ (.slice (some ⟨g2, 0, none⟩) m cp2)).alloc (.cells #[.int .i64 gid, .int .i64 gq, .int .i64 gu, .bool gr, .slice (some ⟨g2, 0, none⟩) m cp2] 44)).heap[i]? = w2.heap[i]? := fun i hi hne => (Below.heap_alloc _ _ _ (by simpa using hi)).trans (HK3.out i hne)
   have hrow4 := HA3.out.alloc (.cells #[.int .i64 gid, .int .i64 gq, .int .i64 gu, .bool gr, .slice (some ⟨g2, 0, none⟩) m cp2] 44)
   have hrg2 := K.out.1.of_below HO2.out.2
   rw [← HE.out.1] at hrg2
   have hrg4 : RangeOf Tryz.prog 3 ((w2.setCell ⟨X, 4, none⟩ (.slice (some ⟨g2, 0, none⟩) m cp2)).alloc (.cells #[.int .i64 gid, .int .i64 gq, .int .i64 gu, .bool gr, .slice (some ⟨g2, 0, none⟩) m cp2] 44)) hm R n (hView st.hs V) (seen ++ [gid]) cnt1 := by
    have f4 : Foot (· = X) w2 ((w2.setCell ⟨X, 4, none⟩ (.slice (some ⟨g2, 0, none⟩) m cp2)).alloc (.cells #[.int .i64 gid, .int .i64 gq, .int .i64 gu, .bool gr, .slice (some ⟨g2, 0, none⟩) m cp2] 44)) := (Foot.setCell (F := (· = X)) (p := ⟨X, 4, none⟩) (Foot.refl _ w2) (.inl rfl) _).alloc _
    exact RangeOf.foot (F := (· = X)) hrg2 f4 (fun (e : hm = X) => by have := HAX.out.2.2.2; omega) (fun (e : R = X) => by have := HAX.out.2.2.1; omega)
   have hrg5 := hrg4.kept hgrow5 (own_range hrow4 hrg4).1 (own_range hrow4 hrg4).2
   have hsl4 : ∀ y ∈ L ++ [(⟨g, some ⟨g2, 0, none⟩, cp2⟩ : Hs)], ((w2.setCell ⟨X, 4, none⟩ (.slice (some ⟨g2, 0, none⟩) m cp2)).alloc (.cells #[.int .i64 gid, .int .i64 gq, .int .i64 gu, .bool gr, .slice (some ⟨g2, 0, none⟩) m cp2] 44)).ownsRow w.heap.size 41 4 (hsV y) y.h.sl.length (y.h.sl.flatMap slC) := fun y hy => by
    rcases List.mem_append.1 hy with hy | hy
    ·have h9 := own_keep (K.out.2.2.1 y hy) HO2.out.2
     exact own_stays h9 fun i hi => hk4 i ((h9.lt i hi).2) (Nat.ne_of_lt (HAX.out.2.1 y hy i hi))
    ·simp at hy
     subst hy
     unfold hsV
     simp only
     rw [← HM.out]
     have h9 := HO2.out.1
     have h8 : w2.ownsRow w.heap.size 41 4 (.slice (some ⟨g2, 0, none⟩) m cp2) m (g.sl.flatMap slC) := own_low h9 (by omega)
     exact own_stays h8 fun i hi => hk4 i ((h9.lt i hi).2) (by have := (h9.lt i hi).1; omega)
   have hsl5 : ∀ y ∈ L ++ [(⟨g, some ⟨g2, 0, none⟩, cp2⟩ : Hs)], w5.ownsRow w.heap.size 41 4 (hsV y) y.h.sl.length (y.h.sl.flatMap slC) := fun y hy => own_stays (hsl4 y hy) fun i hi => hgrow5.block i ((hsl4 y hy).lt i hi).2 fun e => own_types (hsl4 y hy) hrow4 (by decide) i hi e.symm
   have hb5 : Below w.heap.size w w5 := by
    have h9 := below_step K.out.2.2.2 HO2.out.2
    exact ((h9.setCell (p := ⟨X, 4, none⟩) hXw (.slice (some ⟨g2, 0, none⟩) m cp2)).alloc (by simp; omega) (.cells #[.int .i64 gid, .int .i64 gq, .int .i64 gu, .bool gr, .slice (some ⟨g2, 0, none⟩) m cp2] 44)).grown hgrow5 (by simp; omega) fun i hi => (hrow4.lt i hi).1
   have hlen5 : (L ++ [(⟨g, some ⟨g2, 0, none⟩, cp2⟩ : Hs)]).length = nl + 1 := by rw [List.length_append, ← HNL.out]; rfl
   have hown6 : w5.ownsRow w.heap.size 44 5 (.slice (some ⟨gg, 0, none⟩) (L ++ [(⟨g, some ⟨g2, 0, none⟩, cp2⟩ : Hs)]).length cap') (L ++ [(⟨g, some ⟨g2, 0, none⟩, cp2⟩ : Hs)]).length ((L ++ [(⟨g, some ⟨g2, 0, none⟩, cp2⟩ : Hs)]).flatMap hsC) := by
    rw [hlen5, List.flatMap_append]
    have : hsC (⟨g, some ⟨g2, 0, none⟩, cp2⟩ : Hs) = [.int .i64 gid, .int .i64 gq, .int .i64 gu, .bool gr, .slice (some ⟨g2, 0, none⟩) m cp2] := by
     unfold hsC hsV
     simp only
     rw [← HM.out, ← HE.out.1, ← HE.out.2.1, ← HE.out.2.2.1, ← HE.out.2.2.2]
    rw [List.flatMap_cons, List.flatMap_nil, List.append_nil, this]
    exact hown5
   have hid5 : (L ++ [(⟨g, some ⟨g2, 0, none⟩, cp2⟩ : Hs)]).map (fun x => x.h.id) = seen ++ [gid] := by rw [List.map_append, hSe.out, HE.out.1]; rfl
   have hin5 : ∀ y ∈ L ++ [(⟨g, some ⟨g2, 0, none⟩, cp2⟩ : Hs)], y.h ∈ st.hs := fun y hy => by
    rcases List.mem_append.1 hy with hy | hy
    ·exact hIn.out y hy
    ·simp at hy; subst hy; exact HG.out.1
   have hlt9 := HG.out.2.2
   go_roundw
   case rel => exact ⟨seen ++ [gid], cnt1, some ⟨gg, 0, none⟩, cap', _, by rw [hlen5], by rw [hlen5]; omega, Lib.hid hrg5, Lib.hid hid5, Lib.hid hin5, Lib.hid hown6, Lib.hid hsl5, Lib.hid hb5⟩
   case measure => rw [hrg5.left_eq, hRg.out.left_eq]; exact hlt9
end Go.Proofs.YtgpfmlidchogcaaGreat

set_option maxRecDepth 100000
set_option linter.unusedVariables false
namespace Go.Proofs.YtgpfmlidchogcaaGreat
open Go.RowKit

namespace LM
theorem go_hs {fs : List Fr} : ∀ {l : List Hd} {st : LS} {g : Hd}, g ∈ (l.foldl (letGo fs) st).hs ↔ g ∈ st.hs ∧ ∀ x ∈ l, g.id ≠ x.id
 | [], st, g => by simp
 | x :: l, st, g => by
  rw [List.foldl_cons, go_hs (l := l)]
  have : (letGo fs st x).hs = del x.id st.hs := rfl
  rw [this, mem_del]
  simp only [List.mem_cons, forall_eq_or_imp, ne_eq]
  exact and_assoc
theorem go_next {fs : List Fr} {l : List Hd} {st : LS} {k : Nat} {g : Hd} (h : l[k]? = some g) : (l.take (k + 1)).foldl (letGo fs) st = letGo fs ((l.take k).foldl (letGo fs) st) g := by
 rw [take_next h, List.foldl_append]; rfl
end LM
theorem info_int8 : (Tryz.prog.info? 3).map (fun i => (i.zero, i.size, i.bytes)) = some (some (.int .i64 0), 1, 8) := by kernel_rfl
theorem int_row {w : World} {B : Nat} {A : Option Addr} {c : Nat} {l : List Int} {k : Nat} {x : Int} (h : w.ownsRow B 3 1 (.slice A l.length c) l.length (l.map (Value.int .i64))) (hx : l[k]? = some x) : ∃ b, A = some ⟨b, 0, none⟩ ∧ w.cell? ⟨b, k, none⟩ = some (.int .i64 x) := by
 have hk := (List.getElem?_eq_some_iff.1 hx).1
 rcases h.2 with ⟨e, h0⟩ | ⟨g, cap, cur, e, _, hg, _, _, _, h4⟩
 ·omega
 ·injection e with e1 _ _
  refine ⟨g, e1, cell_blk hg ?_⟩
  have : (l.map (Value.int .i64))[k]? = some (.int .i64 x) := by rw [List.getElem?_map, hx]; rfl
  rw [← h4, List.getElem?_take, if_pos (by omega)] at this
  simpa using this

set_option maxHeartbeats 8000000 in
theorem dropAll_late {w : World} {lk : Int} {p pp pa hm bx : Nat} {FP FQ : Nat → Prop} {V : Int → Value} {fs : List Fr} {st : LS} (ask : Hd → Bool) (h : LAt w lk p pp pa hm FP FQ V fs st) (hfew : st.hs.length ≤ 100000)
  (hcl : ∀ g ∈ st.hs, ∀ W, Below w.heap.size w W → Calls Tryz.prog 68 #[hdV g (V g.id), .pointer (some ⟨bx, 0, none⟩)] W fun e w' => e = .returned (.bool (ask g)) ∧ Below W.heap.size W w') :
  Calls Tryz.prog 67 #[.pointer (some ⟨p, 0, none⟩), .func (.func 68) #[] #[.pointer (some ⟨bx, 0, none⟩)]] w fun e w' => ∃ A c FP', e = .returned (.slice A (LM.idsOf st ask).length c) ∧
   w'.ownsRow w.heap.size 3 1 (.slice A (LM.idsOf st ask).length c) (LM.idsOf st ask).length ((LM.idsOf st ask).map (Value.int .i64)) ∧ LAt w' lk p pp pa hm FP' FQ V fs (LM.allGo fs st ask) ∧ Foot (fun i => FP i ∨ FQ i ∨ i = hm) w w' ∧ ∀ i, FP' i → FP i ∨ w.heap.size ≤ i := by
 have c4 := h.cells.2.2.2.2.1
 have lp := h.lt.1
 have lm := h.lt.2.1
 obtain ⟨i0, hi, hz0, hz1, hz2⟩ := info_parts info_int8
 obtain ⟨n, hn⟩ : ∃ n, n = st.hs.length := ⟨_, rfl⟩
 have H := Lib.hid h
 have hmp := h.map
 rw [← hn] at hfew hmp
 have HN := Lib.hid hn
 have HMP := Lib.hid hmp
 have HCL := Lib.hid hcl
 clear h hmp hn hcl
 go_enter Tryz.func67, Tryz.ntmps67
 go_wp2_with (at_range; refine wpList_range_of (tk := 3) (te := 44) _ rfl _ rfl hKey hTy rfl HMP.out ?_; intro w0 hrg0 hg0 hs0)
 go_frame
 have hB0 : Below w.heap.size w w0 := (Below.refl _ _).grown hg0 (Nat.le_refl _) (fun j hj => by cases hj)
 obtain ⟨R, hR⟩ : ∃ R, R = w.heap.size := ⟨_, rfl⟩
 rw [← hR] at hrg0 ⊢
 have hRw : w.heap.size ≤ R := by rw [hR]; exact Nat.le_refl _
 clear hR hs0 hg0 c4
 have HB0 := Lib.hid hB0
 have HRG0 := Lib.hid hrg0
 clear hB0 hrg0
 go_loopw [5] (fun out wr => ∃ (seen : List Int) (cnt : Nat) (A : Option Addr) (c k : Nat) (L : List Hd), out = .slice A k c ∧ L.length + cnt ≤ n ∧ k + cnt ≤ n ∧ Hid (k = (L.filter ask).length) ∧ Hid (RangeOf Tryz.prog 3 wr hm R n (hView st.hs V) seen cnt) ∧ Hid (L.map (fun x => x.id) = seen) ∧ Hid (∀ x ∈ L, x ∈ st.hs) ∧
  Hid (wr.ownsRow w.heap.size 3 1 (.slice A k c) k (((L.filter ask).map (·.id)).map (Value.int .i64))) ∧ Hid (Below w.heap.size w wr)) (fun _ wr => wr.rangeLeft hm R)
 case atStart => exact ⟨[], n, none, 0, 0, [], rfl, by simp, by simp, Lib.hid rfl, HRG0, Lib.hid rfl, Lib.hid (by simp), Lib.hid (World.ownsRow_nil _ _ _ _), HB0⟩
 case round =>
  obtain ⟨seen, cnt, A, c, nl, L, rfl, hcn, hcn2, hKl, hRg, hSe, hIn, hOw, hBl⟩ := hrel
  go_wp2_with (first
   | (at_next; refine wpList_next_of (tk := 3) _ rfl _ rfl hKey R seen cnt rfl hRg.out ?_ ?_))
  ·intro hall
   have hperm : L.Perm st.hs := by
    refine all_perm H.out.ok.asc ?_ (fun g hg => hIn.out g hg) (fun g hg => ?_)
    ·have := hRg.out.1
     rw [← hSe.out] at this
     exact this
    ·have := hall g.id (H.out.ok.ok g hg).id (by unfold hView; rw [LM.find_of H.out.ok.asc hg]; rfl)
     rw [← hSe.out] at this
     exact this
   obtain ⟨I, hI⟩ : ∃ I, I = LM.idsOf st ask := ⟨_, rfl⟩
   obtain ⟨Lg, hLg⟩ : ∃ Lg, Lg = st.hs.filter ask := ⟨_, rfl⟩
   have hIL : I = Lg.map (·.id) := by rw [hI, hLg]; rfl
   have hpI : ((L.filter ask).map (·.id)).Perm I := by rw [hIL, hLg]; exact (hperm.filter ask).map _
   have hascI : I.Pairwise (fun a b => a < b) := by
    rw [hIL, List.pairwise_map, hLg]
    exact H.out.ok.asc.filter _
   have hlI : I.length = nl := by rw [hKl.out, ← hpI.length_eq]; simp
   have hlLg : Lg.length = nl := by rw [← hlI, hIL]; simp
   have hO : wr.ownsRow w.heap.size 3 1 (.slice A nl c) ((L.filter ask).map (·.id)).length (((L.filter ask).map (·.id)).map (Value.int .i64)) := by
    have : ((L.filter ask).map (·.id)).length = nl := by rw [hpI.length_eq, hlI]
    rw [this]; exact hOw.out
   have hS := sortI_any (L := I) hO hpI hascI (by rw [hpI.length_eq, hlI]; omega)
   rw [hlI] at hS
   have HS := Lib.hid hS
   have hgoI : LM.allGo fs st ask = Lg.foldl (LM.letGo fs) st := by rw [hLg]; rfl
   have HGI := Lib.hid (And.intro hI hgoI)
   have hLin : ∀ x ∈ Lg, x ∈ st.hs := fun x hx => by rw [hLg] at hx; exact (List.mem_filter.1 hx).1
   have hLnd : Lg.Pairwise (fun a b => a.id < b.id) := by rw [hLg]; exact H.out.ok.asc.filter _
   have hvl : ∀ i, (Value.slice A nl c).ownBlock = some i → w.heap.size ≤ i ∧ i < wr.heap.size := fun i hi => hOw.out.lt i hi
   have HP := Lib.hid (And.intro hIL (And.intro hLin (And.intro hLnd (And.intro hlI (And.intro hlLg hvl)))))
   clear hperm hpI hascI hS hall hI hLg hIL hO hgoI hLin hLnd hlI hlLg hvl
   go_wp2_with (go_at_call 107; refine HS.out.mono ?_; rintro e w1 ⟨rfl, ho1, hg1⟩)
   have hb1 : Below w.heap.size w w1 := hBl.out.grown hg1 hBl.out.size fun i hi => ((HP.out.2.2.2.2.2 i hi)).1
   have hL1 := H.out.keep hb1
   have hv1 : ∀ i, (Value.slice A nl c).ownBlock = some i → w.heap.size ≤ i ∧ i < w1.heap.size := fun i hi => ⟨(HP.out.2.2.2.2.2 i hi).1, Nat.lt_of_lt_of_le (HP.out.2.2.2.2.2 i hi).2 hg1.size⟩
   have hnot : ∀ i, (FP i ∨ FQ i ∨ i = hm) → i < w.heap.size := fun i hi => H.out.all i (by
    rcases hi with hi | hi | hi
    ·exact .inr (.inr (.inl hi))
    ·exact .inr (.inr (.inr (.inl hi)))
    ·exact .inr (.inl hi))
   have HL1 := Lib.hid hL1
   have HO1 := Lib.hid (And.intro ho1 (And.intro hb1 (And.intro hv1 hnot)))
   clear ho1 hg1 hb1 hL1 hv1 hnot
   go_loopw [31] (fun i wr => ∃ (k : Nat) (FP' : Nat → Prop), i = .int .i64 k ∧ k ≤ nl ∧ Hid (LAt wr lk p pp pa hm FP' FQ V fs ((Lg.take k).foldl (LM.letGo fs) st)) ∧ Hid (Foot (fun i => FP i ∨ FQ i ∨ i = hm) w1 wr) ∧ Hid (∀ i, FP' i → FP i ∨ w1.heap.size ≤ i)) (fun i _ => nl - (intOf i).toNat)
   case atStart => exact ⟨0, FP, rfl, by omega, HL1, Lib.hid (Foot.refl _ _), Lib.hid fun i hi => .inl hi⟩
   case round =>
    obtain ⟨k, FP', rfl, hk, hLk, hFk, hYk⟩ := hrel
    have hrow9 : wr.ownsRow w.heap.size 3 1 (.slice A nl c) nl (I.map (Value.int .i64)) := own_stays HO1.out.1 fun i hi => hFk.out.block i (HO1.out.2.2.1 i hi).2 fun hf => by
     have := HO1.out.2.2.2 i hf
     have := (HO1.out.2.2.1 i hi).1
     omega
    by_cases hlt : k < nl
    ·obtain ⟨g, hg⟩ := get_lt (l := Lg) (k := k) (by rw [HP.out.2.2.2.2.1]; exact hlt)
     have hgin := HP.out.2.1 g (List.mem_of_getElem? hg)
     have hgk : g ∈ ((Lg.take k).foldl (LM.letGo fs) st).hs := LM.go_hs.2 ⟨hgin, fun x hx => by
      obtain ⟨j, hj⟩ := List.mem_iff_getElem?.1 hx
      rw [List.getElem?_take] at hj
      split at hj
      ·rename_i hjk
       obtain ⟨hj1, hj2⟩ := List.getElem?_eq_some_iff.1 hj
       obtain ⟨hg1, hg2⟩ := List.getElem?_eq_some_iff.1 hg
       have := (List.pairwise_iff_getElem.1 HP.out.2.2.1) j k hj1 hg1 hjk
       rw [hj2, hg2] at this
       omega
      ·cases hj⟩
     have hIk : I[k]? = some g.id := by rw [HP.out.1, List.getElem?_map, hg]; rfl
     rw [← HP.out.2.2.2.1] at hrow9
     obtain ⟨bI, eA, cI⟩ := int_row hrow9 hIk
     subst eA
     have t0 : decide (k < nl) = true := by simpa using hlt
     have e4 := hLk.out.cells.2.2.2.2.1
     have hlook := (hLk.out.map.look hKey hTy zeroHold (hLk.out.ok.ok g hgk).id).2
     have hvw : hView ((Lg.take k).foldl (LM.letGo fs) st).hs V g.id = some (hdV g (V g.id)) := by unfold hView; rw [LM.find_of hLk.out.ok.asc hgk]; rfl
     rw [hvw] at hlook
     simp only [Option.getD_some] at hlook
     have hD := drop_l g hgk hLk.out
     obtain ⟨b, cV, eV, _⟩ := hLk.out.slots hgk
     rw [eV] at hlook hD
     unfold hdV at hlook hD
     have HD := Lib.hid hD
     have HGK := Lib.hid hg
     obtain ⟨gid, e1⟩ : ∃ x, x = g.id := ⟨_, rfl⟩
     rw [← e1] at cI hlook HD
     clear hD hvw hrow9 hIk hgk hgin hg e1 eV
     go_wp2_with (go_at_call 66; refine HD.out.mono ?_; rintro e w8 ⟨rfl, F8, hL8, hf8, hy8⟩)
     go_roundw
     case rel =>
      refine ⟨k + 1, F8, by go_num, by omega, Lib.hid (by rw [LM.go_next HGK.out]; exact hL8), Lib.hid (hFk.out.trans hf8 fun i hi => ?_), Lib.hid fun i hi => ?_⟩
      ·rcases hi with e | e | e
       ·rcases hYk.out i e with e2 | e2
        ·exact .inl (.inl e2)
        ·exact .inr e2
       ·exact .inl (.inr (.inl e))
       ·exact .inl (.inr (.inr e))
      ·rcases hy8 i hi with e | e
       ·exact hYk.out i e
       ·exact .inr (Nat.le_trans hFk.out.size e)
     case measure => simp [intOf]; omega
    ·obtain rfl : k = nl := by omega
     have HR9 := Lib.hid hrow9
     clear hrow9 hlt
     go_wp2
     go_ret
     rw [← HGI.out.1, HGI.out.2, HP.out.2.2.2.1]
     have e9 : Lg.take k = Lg := by rw [← HP.out.2.2.2.2.1]; exact List.take_length
     have hL9 := hLk.out
     rw [e9] at hL9
     refine ⟨A, c, FP', rfl, HR9.out, hL9, (Foot.of_below (F := fun i => FP i ∨ FQ i ∨ i = hm) HO1.out.2.1).trans hFk.out fun i hi => .inl hi, fun i hi => ?_⟩
     rcases hYk.out i hi with e | e
     ·exact .inl e
     ·exact .inr (Nat.le_trans HO1.out.2.1.size e)
  ·intro x v w1 cnt1 hwx hns hfx hrg1 hlt hgr hsz hen
   obtain ⟨g, hg, rfl, rfl⟩ : ∃ g ∈ st.hs, x = g.id ∧ v = hdV g (V g.id) := by
    unfold hView at hfx
    obtain ⟨g, h1, h2⟩ := Option.map_eq_some_iff.1 hfx
    exact ⟨g, (LM.find_some h1).1, (LM.find_some h1).2.symm, h2.symm⟩
   obtain ⟨b, cV, eV, _⟩ := H.out.slots hg
   have hC := HCL.out g hg
   rw [eV] at hen hC
   unfold hdV at hen hC ⊢
   rw [eV]
   have hB1 : Below w.heap.size w w1 := hBl.out.grown hgr hBl.out.size fun j hj => by cases hj; exact hRw
   have hOw1 := hOw.out.kept hgr (Or.inr (own_range hOw.out hRg.out).2.symm)
   obtain ⟨m, hm'⟩ : ∃ m, m = g.sl.length := ⟨_, rfl⟩
   rw [← hm'] at hen hC ⊢
   obtain ⟨gid, e1⟩ : ∃ x, x = g.id := ⟨_, rfl⟩
   obtain ⟨gq, e2⟩ : ∃ x, x = g.q := ⟨_, rfl⟩
   obtain ⟨gu, e3⟩ : ∃ x, x = g.un := ⟨_, rfl⟩
   obtain ⟨gr, e4⟩ : ∃ x, x = g.run := ⟨_, rfl⟩
   obtain ⟨ak, e5⟩ : ∃ x, x = ask g := ⟨_, rfl⟩
   rw [← e1, ← e2, ← e3, ← e4] at hen hC ⊢
   rw [← e1] at hrg1
   rw [← e5] at hC
   have hin5 : ∀ y ∈ L ++ [g], y ∈ st.hs := fun y hy => by
    rcases List.mem_append.1 hy with hy | hy
    ·exact hIn.out y hy
    ·simp at hy; subst hy; exact hg
   have hid5 : (L ++ [g]).map (fun x => x.id) = seen ++ [gid] := by rw [List.map_append, hSe.out, e1]; rfl
   have hfl5 : (L ++ [g]).filter ask = L.filter ask ++ (if ak = true then [g] else []) := by
    rw [List.filter_append, e5]
    congr 1
    cases ha : ask g <;> simp [ha]
   have HC := Lib.hid hC
   have K := Lib.hid (And.intro hrg1 (And.intro hOw1 (And.intro hB1 (And.intro hlt (And.intro hin5 (And.intro hid5 hfl5))))))
   have HE := Lib.hid e1
   have HWI := Lib.hid hwx
   clear hsz hfx hns hwx hrg1 hB1 hOw1 hg hlt hgr hm' e1 e2 e3 e4 e5 eV hC hin5 hid5 hfl5
   have lw1 : w.heap.size ≤ w1.heap.size := K.out.2.2.1.size
   cases ak
   ·go_wp2_with (go_at_call 68; refine (HC.out _ (K.out.2.2.1.alloc lw1 _)).mono ?_; rintro e w2 ⟨rfl, hb2⟩)
    have hbb : Below w1.heap.size w1 w2 := below_step ((Below.refl w1.heap.size w1).alloc (Nat.le_refl _) _) hb2
    have hrg5 := K.out.1.of_below hbb
    have hb5 := below_step K.out.2.2.1 hbb
    have how5 := own_keep K.out.2.1 hbb
    have hlt9 := K.out.2.2.2.1
    have hfl := K.out.2.2.2.2.2.2
    simp only [Bool.false_eq_true, if_false, List.append_nil] at hfl
    have hkl : nl = ((L ++ [g]).filter ask).length := by rw [hfl]; exact hKl.out
    go_roundw
    case rel => exact ⟨seen ++ [gid], cnt1, A, c, nl, L ++ [g], rfl, by simp; omega, by omega, Lib.hid hkl, Lib.hid hrg5, Lib.hid K.out.2.2.2.2.2.1, Lib.hid K.out.2.2.2.2.1, Lib.hid (by rw [hfl]; exact how5), Lib.hid hb5⟩
    case measure => rw [hrg5.left_eq, hRg.out.left_eq]; exact hlt9
   ·go_wp2_with (first
     | (go_at_call 68; refine (HC.out _ (K.out.2.2.1.alloc lw1 _)).mono ?_; rintro e w2 ⟨rfl, hb2⟩; have HBB := Lib.hid (show Below w1.heap.size w1 w2 from below_step ((Below.refl w1.heap.size w1).alloc (Nat.le_refl _) _) hb2); have lw2 := (show w.heap.size ≤ w2.heap.size from Nat.le_trans lw1 HBB.out.size); clear hb2; have HO2 := Lib.hid (own_keep K.out.2.1 HBB.out))
     | (at_builtin; refine wpList_append_lies _ rfl _ _ 36 rfl w.heap.size 3 i0 _ 1 8 Tryz.underlying36 hi hz0 hz1 hz2 rfl (by decide) (.slice A nl c) nl (((L.filter ask).map (·.id)).map (Value.int .i64)) rfl (HO2.out.alloc _) ⟨w2.heap.size, 0, none⟩ 1 1 [.int .i64 gid] rfl rfl (World.news_of_block (cs := #[.int .i64 gid]) (t := 3) (fr := (0, 0)) (heap_alloc_new w2 _)) (by simp [Value.oneCell']) (by omega) (by unfold maxLen; omega) (by omega) (by simp; omega) (w2.heap.size + 1) (by simp) ?_; intro gg cap' w5 hown5 hgrow5 hat5 hlt5))
    have hrow4 := HO2.out.alloc (.cells #[.int .i64 gid] 3)
    have hrg4 := (K.out.1.of_below HBB.out).of_below ((Below.refl _ w2).alloc (Nat.le_refl _) (.cells #[.int .i64 gid] 3))
    have hrg5 := hrg4.kept hgrow5 (own_range hrow4 hrg4).1 (own_range hrow4 hrg4).2
    have hb5 : Below w.heap.size w w5 := ((below_step K.out.2.2.1 HBB.out).alloc lw2 (.cells #[.int .i64 gid] 3)).grown hgrow5 (by simp; omega) fun i hi => (hrow4.lt i hi).1
    have hlt9 := K.out.2.2.2.1
    have hfl := K.out.2.2.2.2.2.2
    simp only [if_true] at hfl
    have hkl : nl + 1 = ((L ++ [g]).filter ask).length := by rw [hfl, List.length_append, ← hKl.out]; rfl
    have hown6 : w5.ownsRow w.heap.size 3 1 (.slice (some ⟨gg, 0, none⟩) (nl + 1) cap') (nl + 1) ((((L ++ [g]).filter ask).map (·.id)).map (Value.int .i64)) := by
     rw [hfl, List.map_append, List.map_append]
     have : ([g].map (·.id)).map (Value.int .i64) = [.int .i64 gid] := by rw [HE.out]; rfl
     rw [this]
     exact hown5
    go_roundw
    case rel => exact ⟨seen ++ [gid], cnt1, some ⟨gg, 0, none⟩, cap', nl + 1, L ++ [g], rfl, by simp; omega, by omega, Lib.hid hkl, Lib.hid hrg5, Lib.hid K.out.2.2.2.2.2.1, Lib.hid K.out.2.2.2.2.1, Lib.hid hown6, Lib.hid hb5⟩
    case measure => rw [hrg5.left_eq, hRg.out.left_eq]; exact hlt9

set_option maxHeartbeats 8000000 in
theorem dropAll_on {w : World} {lk : Int} {p pp pa hm bx : Nat} {FP FQ : Nat → Prop} {V : Int → Value} {fs : List Fr} {st : LS} (ask : Hd → Bool) (h : LAt w lk p pp pa hm FP FQ V fs st) (hfew : st.hs.length ≤ 100000)
  (hcl : ∀ g ∈ st.hs, ∀ W, Below w.heap.size w W → Calls Tryz.prog 70 #[hdV g (V g.id), .pointer (some ⟨bx, 0, none⟩)] W fun e w' => e = .returned (.bool (ask g)) ∧ Below W.heap.size W w') :
  Calls Tryz.prog 67 #[.pointer (some ⟨p, 0, none⟩), .func (.func 70) #[] #[.pointer (some ⟨bx, 0, none⟩)]] w fun e w' => ∃ A c FP', e = .returned (.slice A (LM.idsOf st ask).length c) ∧
   w'.ownsRow w.heap.size 3 1 (.slice A (LM.idsOf st ask).length c) (LM.idsOf st ask).length ((LM.idsOf st ask).map (Value.int .i64)) ∧ LAt w' lk p pp pa hm FP' FQ V fs (LM.allGo fs st ask) ∧ Foot (fun i => FP i ∨ FQ i ∨ i = hm) w w' ∧ ∀ i, FP' i → FP i ∨ w.heap.size ≤ i := by
 have c4 := h.cells.2.2.2.2.1
 have lp := h.lt.1
 have lm := h.lt.2.1
 obtain ⟨i0, hi, hz0, hz1, hz2⟩ := info_parts info_int8
 obtain ⟨n, hn⟩ : ∃ n, n = st.hs.length := ⟨_, rfl⟩
 have H := Lib.hid h
 have hmp := h.map
 rw [← hn] at hfew hmp
 have HN := Lib.hid hn
 have HMP := Lib.hid hmp
 have HCL := Lib.hid hcl
 clear h hmp hn hcl
 go_enter Tryz.func67, Tryz.ntmps67
 go_wp2_with (at_range; refine wpList_range_of (tk := 3) (te := 44) _ rfl _ rfl hKey hTy rfl HMP.out ?_; intro w0 hrg0 hg0 hs0)
 go_frame
 have hB0 : Below w.heap.size w w0 := (Below.refl _ _).grown hg0 (Nat.le_refl _) (fun j hj => by cases hj)
 obtain ⟨R, hR⟩ : ∃ R, R = w.heap.size := ⟨_, rfl⟩
 rw [← hR] at hrg0 ⊢
 have hRw : w.heap.size ≤ R := by rw [hR]; exact Nat.le_refl _
 clear hR hs0 hg0 c4
 have HB0 := Lib.hid hB0
 have HRG0 := Lib.hid hrg0
 clear hB0 hrg0
 go_loopw [5] (fun out wr => ∃ (seen : List Int) (cnt : Nat) (A : Option Addr) (c k : Nat) (L : List Hd), out = .slice A k c ∧ L.length + cnt ≤ n ∧ k + cnt ≤ n ∧ Hid (k = (L.filter ask).length) ∧ Hid (RangeOf Tryz.prog 3 wr hm R n (hView st.hs V) seen cnt) ∧ Hid (L.map (fun x => x.id) = seen) ∧ Hid (∀ x ∈ L, x ∈ st.hs) ∧
  Hid (wr.ownsRow w.heap.size 3 1 (.slice A k c) k (((L.filter ask).map (·.id)).map (Value.int .i64))) ∧ Hid (Below w.heap.size w wr)) (fun _ wr => wr.rangeLeft hm R)
 case atStart => exact ⟨[], n, none, 0, 0, [], rfl, by simp, by simp, Lib.hid rfl, HRG0, Lib.hid rfl, Lib.hid (by simp), Lib.hid (World.ownsRow_nil _ _ _ _), HB0⟩
 case round =>
  obtain ⟨seen, cnt, A, c, nl, L, rfl, hcn, hcn2, hKl, hRg, hSe, hIn, hOw, hBl⟩ := hrel
  go_wp2_with (first
   | (at_next; refine wpList_next_of (tk := 3) _ rfl _ rfl hKey R seen cnt rfl hRg.out ?_ ?_))
  ·intro hall
   have hperm : L.Perm st.hs := by
    refine all_perm H.out.ok.asc ?_ (fun g hg => hIn.out g hg) (fun g hg => ?_)
    ·have := hRg.out.1
     rw [← hSe.out] at this
     exact this
    ·have := hall g.id (H.out.ok.ok g hg).id (by unfold hView; rw [LM.find_of H.out.ok.asc hg]; rfl)
     rw [← hSe.out] at this
     exact this
   obtain ⟨I, hI⟩ : ∃ I, I = LM.idsOf st ask := ⟨_, rfl⟩
   obtain ⟨Lg, hLg⟩ : ∃ Lg, Lg = st.hs.filter ask := ⟨_, rfl⟩
   have hIL : I = Lg.map (·.id) := by rw [hI, hLg]; rfl
   have hpI : ((L.filter ask).map (·.id)).Perm I := by rw [hIL, hLg]; exact (hperm.filter ask).map _
   have hascI : I.Pairwise (fun a b => a < b) := by
    rw [hIL, List.pairwise_map, hLg]
    exact H.out.ok.asc.filter _
   have hlI : I.length = nl := by rw [hKl.out, ← hpI.length_eq]; simp
   have hlLg : Lg.length = nl := by rw [← hlI, hIL]; simp
   have hO : wr.ownsRow w.heap.size 3 1 (.slice A nl c) ((L.filter ask).map (·.id)).length (((L.filter ask).map (·.id)).map (Value.int .i64)) := by
    have : ((L.filter ask).map (·.id)).length = nl := by rw [hpI.length_eq, hlI]
    rw [this]; exact hOw.out
   have hS := sortI_any (L := I) hO hpI hascI (by rw [hpI.length_eq, hlI]; omega)
   rw [hlI] at hS
   have HS := Lib.hid hS
   have hgoI : LM.allGo fs st ask = Lg.foldl (LM.letGo fs) st := by rw [hLg]; rfl
   have HGI := Lib.hid (And.intro hI hgoI)
   have hLin : ∀ x ∈ Lg, x ∈ st.hs := fun x hx => by rw [hLg] at hx; exact (List.mem_filter.1 hx).1
   have hLnd : Lg.Pairwise (fun a b => a.id < b.id) := by rw [hLg]; exact H.out.ok.asc.filter _
   have hvl : ∀ i, (Value.slice A nl c).ownBlock = some i → w.heap.size ≤ i ∧ i < wr.heap.size := fun i hi => hOw.out.lt i hi
   have HP := Lib.hid (And.intro hIL (And.intro hLin (And.intro hLnd (And.intro hlI (And.intro hlLg hvl)))))
   clear hperm hpI hascI hS hall hI hLg hIL hO hgoI hLin hLnd hlI hlLg hvl
   go_wp2_with (go_at_call 107; refine HS.out.mono ?_; rintro e w1 ⟨rfl, ho1, hg1⟩)
   have hb1 : Below w.heap.size w w1 := hBl.out.grown hg1 hBl.out.size fun i hi => ((HP.out.2.2.2.2.2 i hi)).1
   have hL1 := H.out.keep hb1
   have hv1 : ∀ i, (Value.slice A nl c).ownBlock = some i → w.heap.size ≤ i ∧ i < w1.heap.size := fun i hi => ⟨(HP.out.2.2.2.2.2 i hi).1, Nat.lt_of_lt_of_le (HP.out.2.2.2.2.2 i hi).2 hg1.size⟩
   have hnot : ∀ i, (FP i ∨ FQ i ∨ i = hm) → i < w.heap.size := fun i hi => H.out.all i (by
    rcases hi with hi | hi | hi
    ·exact .inr (.inr (.inl hi))
    ·exact .inr (.inr (.inr (.inl hi)))
    ·exact .inr (.inl hi))
   have HL1 := Lib.hid hL1
   have HO1 := Lib.hid (And.intro ho1 (And.intro hb1 (And.intro hv1 hnot)))
   clear ho1 hg1 hb1 hL1 hv1 hnot
   go_loopw [31] (fun i wr => ∃ (k : Nat) (FP' : Nat → Prop), i = .int .i64 k ∧ k ≤ nl ∧ Hid (LAt wr lk p pp pa hm FP' FQ V fs ((Lg.take k).foldl (LM.letGo fs) st)) ∧ Hid (Foot (fun i => FP i ∨ FQ i ∨ i = hm) w1 wr) ∧ Hid (∀ i, FP' i → FP i ∨ w1.heap.size ≤ i)) (fun i _ => nl - (intOf i).toNat)
   case atStart => exact ⟨0, FP, rfl, by omega, HL1, Lib.hid (Foot.refl _ _), Lib.hid fun i hi => .inl hi⟩
   case round =>
    obtain ⟨k, FP', rfl, hk, hLk, hFk, hYk⟩ := hrel
    have hrow9 : wr.ownsRow w.heap.size 3 1 (.slice A nl c) nl (I.map (Value.int .i64)) := own_stays HO1.out.1 fun i hi => hFk.out.block i (HO1.out.2.2.1 i hi).2 fun hf => by
     have := HO1.out.2.2.2 i hf
     have := (HO1.out.2.2.1 i hi).1
     omega
    by_cases hlt : k < nl
    ·obtain ⟨g, hg⟩ := get_lt (l := Lg) (k := k) (by rw [HP.out.2.2.2.2.1]; exact hlt)
     have hgin := HP.out.2.1 g (List.mem_of_getElem? hg)
     have hgk : g ∈ ((Lg.take k).foldl (LM.letGo fs) st).hs := LM.go_hs.2 ⟨hgin, fun x hx => by
      obtain ⟨j, hj⟩ := List.mem_iff_getElem?.1 hx
      rw [List.getElem?_take] at hj
      split at hj
      ·rename_i hjk
       obtain ⟨hj1, hj2⟩ := List.getElem?_eq_some_iff.1 hj
       obtain ⟨hg1, hg2⟩ := List.getElem?_eq_some_iff.1 hg
       have := (List.pairwise_iff_getElem.1 HP.out.2.2.1) j k hj1 hg1 hjk
       rw [hj2, hg2] at this
       omega
      ·cases hj⟩
     have hIk : I[k]? = some g.id := by rw [HP.out.1, List.getElem?_map, hg]; rfl
     rw [← HP.out.2.2.2.1] at hrow9
     obtain ⟨bI, eA, cI⟩ := int_row hrow9 hIk
     subst eA
     have t0 : decide (k < nl) = true := by simpa using hlt
     have e4 := hLk.out.cells.2.2.2.2.1
     have hlook := (hLk.out.map.look hKey hTy zeroHold (hLk.out.ok.ok g hgk).id).2
     have hvw : hView ((Lg.take k).foldl (LM.letGo fs) st).hs V g.id = some (hdV g (V g.id)) := by unfold hView; rw [LM.find_of hLk.out.ok.asc hgk]; rfl
     rw [hvw] at hlook
     simp only [Option.getD_some] at hlook
     have hD := drop_l g hgk hLk.out
     obtain ⟨b, cV, eV, _⟩ := hLk.out.slots hgk
     rw [eV] at hlook hD
     unfold hdV at hlook hD
     have HD := Lib.hid hD
     have HGK := Lib.hid hg
     obtain ⟨gid, e1⟩ : ∃ x, x = g.id := ⟨_, rfl⟩
     rw [← e1] at cI hlook HD
     clear hD hvw hrow9 hIk hgk hgin hg e1 eV
     go_wp2_with (go_at_call 66; refine HD.out.mono ?_; rintro e w8 ⟨rfl, F8, hL8, hf8, hy8⟩)
     go_roundw
     case rel =>
      refine ⟨k + 1, F8, by go_num, by omega, Lib.hid (by rw [LM.go_next HGK.out]; exact hL8), Lib.hid (hFk.out.trans hf8 fun i hi => ?_), Lib.hid fun i hi => ?_⟩
      ·rcases hi with e | e | e
       ·rcases hYk.out i e with e2 | e2
        ·exact .inl (.inl e2)
        ·exact .inr e2
       ·exact .inl (.inr (.inl e))
       ·exact .inl (.inr (.inr e))
      ·rcases hy8 i hi with e | e
       ·exact hYk.out i e
       ·exact .inr (Nat.le_trans hFk.out.size e)
     case measure => simp [intOf]; omega
    ·obtain rfl : k = nl := by omega
     have HR9 := Lib.hid hrow9
     clear hrow9 hlt
     go_wp2
     go_ret
     rw [← HGI.out.1, HGI.out.2, HP.out.2.2.2.1]
     have e9 : Lg.take k = Lg := by rw [← HP.out.2.2.2.2.1]; exact List.take_length
     have hL9 := hLk.out
     rw [e9] at hL9
     refine ⟨A, c, FP', rfl, HR9.out, hL9, (Foot.of_below (F := fun i => FP i ∨ FQ i ∨ i = hm) HO1.out.2.1).trans hFk.out fun i hi => .inl hi, fun i hi => ?_⟩
     rcases hYk.out i hi with e | e
     ·exact .inl e
     ·exact .inr (Nat.le_trans HO1.out.2.1.size e)
  ·intro x v w1 cnt1 hwx hns hfx hrg1 hlt hgr hsz hen
   obtain ⟨g, hg, rfl, rfl⟩ : ∃ g ∈ st.hs, x = g.id ∧ v = hdV g (V g.id) := by
    unfold hView at hfx
    obtain ⟨g, h1, h2⟩ := Option.map_eq_some_iff.1 hfx
    exact ⟨g, (LM.find_some h1).1, (LM.find_some h1).2.symm, h2.symm⟩
   obtain ⟨b, cV, eV, _⟩ := H.out.slots hg
   have hC := HCL.out g hg
   rw [eV] at hen hC
   unfold hdV at hen hC ⊢
   rw [eV]
   have hB1 : Below w.heap.size w w1 := hBl.out.grown hgr hBl.out.size fun j hj => by cases hj; exact hRw
   have hOw1 := hOw.out.kept hgr (Or.inr (own_range hOw.out hRg.out).2.symm)
   obtain ⟨m, hm'⟩ : ∃ m, m = g.sl.length := ⟨_, rfl⟩
   rw [← hm'] at hen hC ⊢
   obtain ⟨gid, e1⟩ : ∃ x, x = g.id := ⟨_, rfl⟩
   obtain ⟨gq, e2⟩ : ∃ x, x = g.q := ⟨_, rfl⟩
   obtain ⟨gu, e3⟩ : ∃ x, x = g.un := ⟨_, rfl⟩
   obtain ⟨gr, e4⟩ : ∃ x, x = g.run := ⟨_, rfl⟩
   obtain ⟨ak, e5⟩ : ∃ x, x = ask g := ⟨_, rfl⟩
   rw [← e1, ← e2, ← e3, ← e4] at hen hC ⊢
   rw [← e1] at hrg1
   rw [← e5] at hC
   have hin5 : ∀ y ∈ L ++ [g], y ∈ st.hs := fun y hy => by
    rcases List.mem_append.1 hy with hy | hy
    ·exact hIn.out y hy
    ·simp at hy; subst hy; exact hg
   have hid5 : (L ++ [g]).map (fun x => x.id) = seen ++ [gid] := by rw [List.map_append, hSe.out, e1]; rfl
   have hfl5 : (L ++ [g]).filter ask = L.filter ask ++ (if ak = true then [g] else []) := by
    rw [List.filter_append, e5]
    congr 1
    cases ha : ask g <;> simp [ha]
   have HC := Lib.hid hC
   have K := Lib.hid (And.intro hrg1 (And.intro hOw1 (And.intro hB1 (And.intro hlt (And.intro hin5 (And.intro hid5 hfl5))))))
   have HE := Lib.hid e1
   have HWI := Lib.hid hwx
   clear hsz hfx hns hwx hrg1 hB1 hOw1 hg hlt hgr hm' e1 e2 e3 e4 e5 eV hC hin5 hid5 hfl5
   have lw1 : w.heap.size ≤ w1.heap.size := K.out.2.2.1.size
   cases ak
   ·go_wp2_with (go_at_call 70; refine (HC.out _ (K.out.2.2.1.alloc lw1 _)).mono ?_; rintro e w2 ⟨rfl, hb2⟩)
    have hbb : Below w1.heap.size w1 w2 := below_step ((Below.refl w1.heap.size w1).alloc (Nat.le_refl _) _) hb2
    have hrg5 := K.out.1.of_below hbb
    have hb5 := below_step K.out.2.2.1 hbb
    have how5 := own_keep K.out.2.1 hbb
    have hlt9 := K.out.2.2.2.1
    have hfl := K.out.2.2.2.2.2.2
    simp only [Bool.false_eq_true, if_false, List.append_nil] at hfl
    have hkl : nl = ((L ++ [g]).filter ask).length := by rw [hfl]; exact hKl.out
    go_roundw
    case rel => exact ⟨seen ++ [gid], cnt1, A, c, nl, L ++ [g], rfl, by simp; omega, by omega, Lib.hid hkl, Lib.hid hrg5, Lib.hid K.out.2.2.2.2.2.1, Lib.hid K.out.2.2.2.2.1, Lib.hid (by rw [hfl]; exact how5), Lib.hid hb5⟩
    case measure => rw [hrg5.left_eq, hRg.out.left_eq]; exact hlt9
   ·go_wp2_with (first
     | (go_at_call 70; refine (HC.out _ (K.out.2.2.1.alloc lw1 _)).mono ?_; rintro e w2 ⟨rfl, hb2⟩; have HBB := Lib.hid (show Below w1.heap.size w1 w2 from below_step ((Below.refl w1.heap.size w1).alloc (Nat.le_refl _) _) hb2); have lw2 := (show w.heap.size ≤ w2.heap.size from Nat.le_trans lw1 HBB.out.size); clear hb2; have HO2 := Lib.hid (own_keep K.out.2.1 HBB.out))
     | (at_builtin; refine wpList_append_lies _ rfl _ _ 36 rfl w.heap.size 3 i0 _ 1 8 Tryz.underlying36 hi hz0 hz1 hz2 rfl (by decide) (.slice A nl c) nl (((L.filter ask).map (·.id)).map (Value.int .i64)) rfl (HO2.out.alloc _) ⟨w2.heap.size, 0, none⟩ 1 1 [.int .i64 gid] rfl rfl (World.news_of_block (cs := #[.int .i64 gid]) (t := 3) (fr := (0, 0)) (heap_alloc_new w2 _)) (by simp [Value.oneCell']) (by omega) (by unfold maxLen; omega) (by omega) (by simp; omega) (w2.heap.size + 1) (by simp) ?_; intro gg cap' w5 hown5 hgrow5 hat5 hlt5))
    have hrow4 := HO2.out.alloc (.cells #[.int .i64 gid] 3)
    have hrg4 := (K.out.1.of_below HBB.out).of_below ((Below.refl _ w2).alloc (Nat.le_refl _) (.cells #[.int .i64 gid] 3))
    have hrg5 := hrg4.kept hgrow5 (own_range hrow4 hrg4).1 (own_range hrow4 hrg4).2
    have hb5 : Below w.heap.size w w5 := ((below_step K.out.2.2.1 HBB.out).alloc lw2 (.cells #[.int .i64 gid] 3)).grown hgrow5 (by simp; omega) fun i hi => (hrow4.lt i hi).1
    have hlt9 := K.out.2.2.2.1
    have hfl := K.out.2.2.2.2.2.2
    simp only [if_true] at hfl
    have hkl : nl + 1 = ((L ++ [g]).filter ask).length := by rw [hfl, List.length_append, ← hKl.out]; rfl
    have hown6 : w5.ownsRow w.heap.size 3 1 (.slice (some ⟨gg, 0, none⟩) (nl + 1) cap') (nl + 1) ((((L ++ [g]).filter ask).map (·.id)).map (Value.int .i64)) := by
     rw [hfl, List.map_append, List.map_append]
     have : ([g].map (·.id)).map (Value.int .i64) = [.int .i64 gid] := by rw [HE.out]; rfl
     rw [this]
     exact hown5
    go_roundw
    case rel => exact ⟨seen ++ [gid], cnt1, some ⟨gg, 0, none⟩, cap', nl + 1, L ++ [g], rfl, by simp; omega, by omega, Lib.hid hkl, Lib.hid hrg5, Lib.hid K.out.2.2.2.2.2.1, Lib.hid K.out.2.2.2.2.1, Lib.hid hown6, Lib.hid hb5⟩
    case measure => rw [hrg5.left_eq, hRg.out.left_eq]; exact hlt9
end Go.Proofs.YtgpfmlidchogcaaGreat

set_option maxRecDepth 100000
set_option linter.unusedVariables false
namespace Go.Proofs.YtgpfmlidchogcaaGreat
open Go.RowKit Go.MuLone

def LObj (w : World) (p : Nat) (F : Nat → Prop) (fs : List Fr) (st : LS) : Prop := ∃ pp pa hm FP FQ V, LAt w 0 p pp pa hm FP FQ V fs st ∧ F = LB p hm FP FQ V st
section
variable {w w' : World} {p : Nat} {F G : Nat → Prop} {fs : List Fr} {st : LS}
theorem LObj.keep (h : LObj w p F fs st) (hk : Below w.heap.size w w') : LObj w' p F fs st := by
 obtain ⟨pp, pa, hm, FP, FQ, V, h1, rfl⟩ := h
 exact ⟨pp, pa, hm, FP, FQ, V, h1.keep hk, rfl⟩
theorem LObj.foot (h : LObj w p F fs st) (hk : Foot G w w') (hG : ∀ i, F i → ¬ G i) : LObj w' p F fs st := by
 obtain ⟨pp, pa, hm, FP, FQ, V, h1, rfl⟩ := h
 exact ⟨pp, pa, hm, FP, FQ, V, h1.foot hk hG, rfl⟩
theorem LObj.lt (h : LObj w p F fs st) : F p ∧ ∀ i, F i → i < w.heap.size := by
 obtain ⟨pp, pa, hm, FP, FQ, V, h1, rfl⟩ := h
 exact ⟨.inl rfl, h1.all⟩
theorem LObj.ok (h : LObj w p F fs st) : LOk st ∧ FsOk fs st.dr.length ∧ PM.Inv fs st.ts ∧ ∃ w pa FQ, QObj w pa FQ st.qs := by
 obtain ⟨pp, pa, hm, FP, FQ, V, h1, rfl⟩ := h
 exact ⟨h1.ok, h1.pool.ok.1, h1.pool.ok.2, _, _, _, h1.acc⟩
end
theorem lock_below {w wk : World} {p : Nat} {cs : Array Value} {t : TypeId} (hp : w.heap[p]? = some (.cells cs t (0, 0))) (h0 : cs[0]? = some (.int .i32 0)) (hb : Below (w.setCell ⟨p, 0, none⟩ (.int .i32 1)).heap.size (w.setCell ⟨p, 0, none⟩ (.int .i32 1)) wk) :
  Below w.heap.size w (wk.setCell ⟨p, 0, none⟩ (.int .i32 0)) := by
 have hs : (w.setCell ⟨p, 0, none⟩ (.int .i32 1)).heap.size = w.heap.size := by simp
 rw [hs] at hb
 have hl := blk_lt hp
 have b0 := (Below.refl 0 w).setCell (p := ⟨p, 0, none⟩) (Nat.zero_le _) (.int .i32 1)
 have b1 := (Below.refl 0 wk).setCell (p := ⟨p, 0, none⟩) (Nat.zero_le _) (.int .i32 0)
 refine ⟨b1.os.trans (hb.os.trans b0.os), b1.tape.trans (hb.tape.trans b0.tape), b1.output.trans (hb.output.trans b0.output), by have := hb.size; simpa using this, fun k hk => ?_⟩
 by_cases e : k = p
 ·subst e
  have h1 := (hb.block k hk).trans (blk_put (i := 0) (.int .i32 1) hp)
  rw [blk_put (i := 0) (.int .i32 0) h1, hp]
  congr 2
  apply Array.ext_getElem?
  intro j
  by_cases hj : j = 0
  ·subst hj
   have h0l := (Array.getElem?_eq_some_iff.1 h0).1
   rw [Array.getElem?_setIfInBounds_self_of_lt (by simpa using h0l), h0]
  ·rw [Array.getElem?_setIfInBounds_ne (fun e => hj e.symm), Array.getElem?_setIfInBounds_ne (fun e => hj e.symm)]
 ·rw [Below.heap_setCell _ _ _ _ (fun e2 => e (by simpa using e2)), hb.block k hk, Below.heap_setCell _ _ _ _ (fun e2 => e (by simpa using e2))]

set_option maxHeartbeats 2000000 in
theorem look_free {w : World} {p pp pa hm x : Nat} {FP FQ : Nat → Prop} {V : Int → Value} {fs : List Fr} {st : LS} (Q : Value → World → Prop) (h : LAt w 0 p pp pa hm FP FQ V fs st)
  (hcl : Calls Tryz.prog 82 #[.pointer (some ⟨x, 0, none⟩)] (w.setCell ⟨p, 0, none⟩ (.int .i32 1)) fun e wk => ∃ v, e = .returned v ∧ Q v wk ∧ Below (w.setCell ⟨p, 0, none⟩ (.int .i32 1)).heap.size (w.setCell ⟨p, 0, none⟩ (.int .i32 1)) wk) :
  Calls Tryz.prog 81 #[.pointer (some ⟨p, 0, none⟩), .func (.func 82) #[.pointer (some ⟨x, 0, none⟩)] #[]] w fun e w' => ∃ v wk, e = .returned v ∧ Q v wk ∧ w' = wk.setCell ⟨p, 0, none⟩ (.int .i32 0) ∧ Below w.heap.size w w' := by
 obtain ⟨c0, z0, _⟩ := h.cells
 have HC := Lib.hid hcl
 have h1 := (h.lock 1)
 have d0 := Lib.hid (And.intro h1.cells.1 (And.intro h1.cells.2.1 h1.lt.1))
 have H := Lib.hid h
 clear hcl h1 h
 go_enter_defers Tryz.func81, Tryz.ntmps81
 go_wp2_with (first
  | (go_at_call 49; refine (lock_free muLib ⟨p, 0, none⟩ _ c0 z0).mono ?_; rintro e w' ⟨rfl, rfl⟩)
  | (go_at_call 82; refine HC.out.mono ?_; rintro e wk ⟨v, rfl, hq, hb⟩))
 refine leaves_cons (f := 50) (args := #[.pointer (some ⟨p, 0, none⟩)]) (by simp) (by simp [go_sem]) ?_
 refine (unlock_deferred muLib ⟨p, 0, none⟩ .returning _ ?_ ?_).mono ?_
 ·exact (hb.cell (p := ⟨p, 0, none⟩) d0.out.2.2).trans d0.out.1
 ·exact (frozen_blk ((hb.block p d0.out.2.2).trans (blk_put (i := 0) (.int .i32 1) H.out.obj)))
 rintro e u' w'' ⟨rfl, rfl, rfl⟩
 exact ⟨_, results_tmp rfl _ _ _, v, wk, rfl, hq, rfl, lock_below H.out.obj rfl hb⟩

set_option maxHeartbeats 2000000 in
theorem look_view {w : World} {p pp pa hm x : Nat} {FP FQ : Nat → Prop} {V : Int → Value} {fs : List Fr} {st : LS} (Q : Value → World → Prop) (h : LAt w 0 p pp pa hm FP FQ V fs st)
  (hcl : Calls Tryz.prog 83 #[.pointer (some ⟨x, 0, none⟩)] (w.setCell ⟨p, 0, none⟩ (.int .i32 1)) fun e wk => ∃ v, e = .returned v ∧ Q v wk ∧ Below (w.setCell ⟨p, 0, none⟩ (.int .i32 1)).heap.size (w.setCell ⟨p, 0, none⟩ (.int .i32 1)) wk) :
  Calls Tryz.prog 81 #[.pointer (some ⟨p, 0, none⟩), .func (.func 83) #[.pointer (some ⟨x, 0, none⟩)] #[]] w fun e w' => ∃ v wk, e = .returned v ∧ Q v wk ∧ w' = wk.setCell ⟨p, 0, none⟩ (.int .i32 0) ∧ Below w.heap.size w w' := by
 obtain ⟨c0, z0, _⟩ := h.cells
 have HC := Lib.hid hcl
 have h1 := (h.lock 1)
 have d0 := Lib.hid (And.intro h1.cells.1 (And.intro h1.cells.2.1 h1.lt.1))
 have H := Lib.hid h
 clear hcl h1 h
 go_enter_defers Tryz.func81, Tryz.ntmps81
 go_wp2_with (first
  | (go_at_call 49; refine (lock_free muLib ⟨p, 0, none⟩ _ c0 z0).mono ?_; rintro e w' ⟨rfl, rfl⟩)
  | (go_at_call 83; refine HC.out.mono ?_; rintro e wk ⟨v, rfl, hq, hb⟩))
 refine leaves_cons (f := 50) (args := #[.pointer (some ⟨p, 0, none⟩)]) (by simp) (by simp [go_sem]) ?_
 refine (unlock_deferred muLib ⟨p, 0, none⟩ .returning _ ?_ ?_).mono ?_
 ·exact (hb.cell (p := ⟨p, 0, none⟩) d0.out.2.2).trans d0.out.1
 ·exact (frozen_blk ((hb.block p d0.out.2.2).trans (blk_put (i := 0) (.int .i32 1) H.out.obj)))
 rintro e u' w'' ⟨rfl, rfl, rfl⟩
 exact ⟨_, results_tmp rfl _ _ _, v, wk, rfl, hq, rfl, lock_below H.out.obj rfl hb⟩

set_option maxHeartbeats 2000000 in
theorem look_holds {w : World} {p pp pa hm x : Nat} {FP FQ : Nat → Prop} {V : Int → Value} {fs : List Fr} {st : LS} (Q : Value → World → Prop) (h : LAt w 0 p pp pa hm FP FQ V fs st)
  (hcl : Calls Tryz.prog 57 #[.pointer (some ⟨x, 0, none⟩)] (w.setCell ⟨p, 0, none⟩ (.int .i32 1)) fun e wk => ∃ v, e = .returned v ∧ Q v wk ∧ Below (w.setCell ⟨p, 0, none⟩ (.int .i32 1)).heap.size (w.setCell ⟨p, 0, none⟩ (.int .i32 1)) wk) :
  Calls Tryz.prog 56 #[.pointer (some ⟨p, 0, none⟩), .func (.func 57) #[.pointer (some ⟨x, 0, none⟩)] #[]] w fun e w' => ∃ v wk, e = .returned v ∧ Q v wk ∧ w' = wk.setCell ⟨p, 0, none⟩ (.int .i32 0) ∧ Below w.heap.size w w' := by
 obtain ⟨c0, z0, _⟩ := h.cells
 have HC := Lib.hid hcl
 have h1 := (h.lock 1)
 have d0 := Lib.hid (And.intro h1.cells.1 (And.intro h1.cells.2.1 h1.lt.1))
 have H := Lib.hid h
 clear hcl h1 h
 go_enter_defers Tryz.func56, Tryz.ntmps56
 go_wp2_with (first
  | (go_at_call 49; refine (lock_free muLib ⟨p, 0, none⟩ _ c0 z0).mono ?_; rintro e w' ⟨rfl, rfl⟩)
  | (go_at_call 57; refine HC.out.mono ?_; rintro e wk ⟨v, rfl, hq, hb⟩))
 refine leaves_cons (f := 50) (args := #[.pointer (some ⟨p, 0, none⟩)]) (by simp) (by simp [go_sem]) ?_
 refine (unlock_deferred muLib ⟨p, 0, none⟩ .returning _ ?_ ?_).mono ?_
 ·exact (hb.cell (p := ⟨p, 0, none⟩) d0.out.2.2).trans d0.out.1
 ·exact (frozen_blk ((hb.block p d0.out.2.2).trans (blk_put (i := 0) (.int .i32 1) H.out.obj)))
 rintro e u' w'' ⟨rfl, rfl, rfl⟩
 exact ⟨_, results_tmp rfl _ _ _, v, wk, rfl, hq, rfl, lock_below H.out.obj rfl hb⟩

set_option maxHeartbeats 2000000 in
theorem look_used {w : World} {p pp pa hm x : Nat} {FP FQ : Nat → Prop} {V : Int → Value} {fs : List Fr} {st : LS} (Q : Value → World → Prop) (h : LAt w 0 p pp pa hm FP FQ V fs st)
  (hcl : Calls Tryz.prog 85 #[.pointer (some ⟨x, 0, none⟩)] (w.setCell ⟨p, 0, none⟩ (.int .i32 1)) fun e wk => ∃ v, e = .returned v ∧ Q v wk ∧ Below (w.setCell ⟨p, 0, none⟩ (.int .i32 1)).heap.size (w.setCell ⟨p, 0, none⟩ (.int .i32 1)) wk) :
  Calls Tryz.prog 84 #[.pointer (some ⟨p, 0, none⟩), .func (.func 85) #[.pointer (some ⟨x, 0, none⟩)] #[]] w fun e w' => ∃ v wk, e = .returned v ∧ Q v wk ∧ w' = wk.setCell ⟨p, 0, none⟩ (.int .i32 0) ∧ Below w.heap.size w w' := by
 obtain ⟨c0, z0, _⟩ := h.cells
 have HC := Lib.hid hcl
 have h1 := (h.lock 1)
 have d0 := Lib.hid (And.intro h1.cells.1 (And.intro h1.cells.2.1 h1.lt.1))
 have H := Lib.hid h
 clear hcl h1 h
 go_enter_defers Tryz.func84, Tryz.ntmps84
 go_wp2_with (first
  | (go_at_call 49; refine (lock_free muLib ⟨p, 0, none⟩ _ c0 z0).mono ?_; rintro e w' ⟨rfl, rfl⟩)
  | (go_at_call 85; refine HC.out.mono ?_; rintro e wk ⟨v, rfl, hq, hb⟩))
 refine leaves_cons (f := 50) (args := #[.pointer (some ⟨p, 0, none⟩)]) (by simp) (by simp [go_sem]) ?_
 refine (unlock_deferred muLib ⟨p, 0, none⟩ .returning _ ?_ ?_).mono ?_
 ·exact (hb.cell (p := ⟨p, 0, none⟩) d0.out.2.2).trans d0.out.1
 ·exact (frozen_blk ((hb.block p d0.out.2.2).trans (blk_put (i := 0) (.int .i32 1) H.out.obj)))
 rintro e u' w'' ⟨rfl, rfl, rfl⟩
 exact ⟨_, results_tmp rfl _ _ _, v, wk, rfl, hq, rfl, lock_below H.out.obj rfl hb⟩

set_option maxHeartbeats 2000000 in
theorem look_version {w : World} {p pp pa hm x : Nat} {FP FQ : Nat → Prop} {V : Int → Value} {fs : List Fr} {st : LS} (Q : Value → World → Prop) (h : LAt w 0 p pp pa hm FP FQ V fs st)
  (hcl : Calls Tryz.prog 55 #[.pointer (some ⟨x, 0, none⟩)] (w.setCell ⟨p, 0, none⟩ (.int .i32 1)) fun e wk => ∃ v, e = .returned v ∧ Q v wk ∧ Below (w.setCell ⟨p, 0, none⟩ (.int .i32 1)).heap.size (w.setCell ⟨p, 0, none⟩ (.int .i32 1)) wk) :
  Calls Tryz.prog 54 #[.pointer (some ⟨p, 0, none⟩), .func (.func 55) #[] #[.pointer (some ⟨x, 0, none⟩)]] w fun e w' => ∃ v wk, e = .returned v ∧ Q v wk ∧ w' = wk.setCell ⟨p, 0, none⟩ (.int .i32 0) ∧ Below w.heap.size w w' := by
 obtain ⟨c0, z0, _⟩ := h.cells
 have HC := Lib.hid hcl
 have h1 := (h.lock 1)
 have d0 := Lib.hid (And.intro h1.cells.1 (And.intro h1.cells.2.1 h1.lt.1))
 have H := Lib.hid h
 clear hcl h1 h
 go_enter_defers Tryz.func54, Tryz.ntmps54
 go_wp2_with (first
  | (go_at_call 49; refine (lock_free muLib ⟨p, 0, none⟩ _ c0 z0).mono ?_; rintro e w' ⟨rfl, rfl⟩)
  | (go_at_call 55; refine HC.out.mono ?_; rintro e wk ⟨v, rfl, hq, hb⟩))
 refine leaves_cons (f := 50) (args := #[.pointer (some ⟨p, 0, none⟩)]) (by simp) (by simp [go_sem]) ?_
 refine (unlock_deferred muLib ⟨p, 0, none⟩ .returning _ ?_ ?_).mono ?_
 ·exact (hb.cell (p := ⟨p, 0, none⟩) d0.out.2.2).trans d0.out.1
 ·exact (frozen_blk ((hb.block p d0.out.2.2).trans (blk_put (i := 0) (.int .i32 1) H.out.obj)))
 rintro e u' w'' ⟨rfl, rfl, rfl⟩
 exact ⟨_, results_tmp rfl _ _ _, v, wk, rfl, hq, rfl, lock_below H.out.obj rfl hb⟩

set_option maxHeartbeats 2000000 in
theorem look_drained {w : World} {p pp pa hm x : Nat} {FP FQ : Nat → Prop} {V : Int → Value} {fs : List Fr} {st : LS} (Q : Value → World → Prop) (h : LAt w 0 p pp pa hm FP FQ V fs st)
  (hcl : Calls Tryz.prog 87 #[.pointer (some ⟨x, 0, none⟩)] (w.setCell ⟨p, 0, none⟩ (.int .i32 1)) fun e wk => ∃ v, e = .returned v ∧ Q v wk ∧ Below (w.setCell ⟨p, 0, none⟩ (.int .i32 1)).heap.size (w.setCell ⟨p, 0, none⟩ (.int .i32 1)) wk) :
  Calls Tryz.prog 86 #[.pointer (some ⟨p, 0, none⟩), .func (.func 87) #[] #[.pointer (some ⟨x, 0, none⟩)]] w fun e w' => ∃ v wk, e = .returned v ∧ Q v wk ∧ w' = wk.setCell ⟨p, 0, none⟩ (.int .i32 0) ∧ Below w.heap.size w w' := by
 obtain ⟨c0, z0, _⟩ := h.cells
 have HC := Lib.hid hcl
 have h1 := (h.lock 1)
 have d0 := Lib.hid (And.intro h1.cells.1 (And.intro h1.cells.2.1 h1.lt.1))
 have H := Lib.hid h
 clear hcl h1 h
 go_enter_defers Tryz.func86, Tryz.ntmps86
 go_wp2_with (first
  | (go_at_call 49; refine (lock_free muLib ⟨p, 0, none⟩ _ c0 z0).mono ?_; rintro e w' ⟨rfl, rfl⟩)
  | (go_at_call 87; refine HC.out.mono ?_; rintro e wk ⟨v, rfl, hq, hb⟩))
 refine leaves_cons (f := 50) (args := #[.pointer (some ⟨p, 0, none⟩)]) (by simp) (by simp [go_sem]) ?_
 refine (unlock_deferred muLib ⟨p, 0, none⟩ .returning _ ?_ ?_).mono ?_
 ·exact (hb.cell (p := ⟨p, 0, none⟩) d0.out.2.2).trans d0.out.1
 ·exact (frozen_blk ((hb.block p d0.out.2.2).trans (blk_put (i := 0) (.int .i32 1) H.out.obj)))
 rintro e u' w'' ⟨rfl, rfl, rfl⟩
 exact ⟨_, results_tmp rfl _ _ _, v, wk, rfl, hq, rfl, lock_below H.out.obj rfl hb⟩

set_option maxHeartbeats 1000000 in
theorem version_cl {W : World} {x p ver : Nat} (hx : W.cell? ⟨x, 0, none⟩ = some (.pointer (some ⟨p, 0, none⟩))) (h6 : W.cell? ⟨p, 6, none⟩ = some (.int .i64 (ver : Nat))) :
  Calls Tryz.prog 55 #[.pointer (some ⟨x, 0, none⟩)] W fun e wk => ∃ v, e = .returned v ∧ v = .int .i64 (ver : Nat) ∧ Below W.heap.size W wk := by
 go_enter Tryz.func55, Tryz.ntmps55
 go_wp2
 go_ret
 exact ⟨_, rfl, rfl, Below.refl _ _⟩

theorem Frees.set {wk : World} {A : Option Addr} {l : List Fr} {p : Nat} {u : Value} (h : Frees wk wk.heap.size A l) (hne : ∀ b off, A = some ⟨b, off, none⟩ → b ≠ p) : Frees (wk.setCell ⟨p, 0, none⟩ u) (wk.setCell ⟨p, 0, none⟩ u).heap.size A l :=
 h.off (by simp) fun b off e _ => Below.heap_setCell _ _ _ _ (fun e2 => hne b off e (by simpa using e2))

set_option maxHeartbeats 1000000 in
theorem free_l {w : World} {p : Nat} {F : Nat → Prop} {fs : List Fr} {st : LS} (h : LObj w p F fs st) :
  Calls Tryz.prog 41 #[.pointer (some ⟨p, 0, none⟩)] w fun e w' => ∃ A c, e = .returned (.slice A (PM.free fs st.ts).length c) ∧ Frees w' w'.heap.size A (PM.free fs st.ts) ∧ (∀ b off, A = some ⟨b, off, none⟩ → w.heap.size ≤ b ∧ b < w'.heap.size) ∧ Below w.heap.size w w' := by
 obtain ⟨pp, pa, hm, FP, FQ, V, h, rfl⟩ := h
 have hL := look_free (fun v wk => ∃ A c, v = .slice A (PM.free fs st.ts).length c ∧ Frees wk wk.heap.size A (PM.free fs st.ts) ∧ ∀ b off, A = some ⟨b, off, none⟩ → w.heap.size ≤ b ∧ b < wk.heap.size) h (by
  obtain ⟨T, g, dm, hp, _⟩ := (h.lock 1).pool
  have hs : (w.setCell ⟨p, 0, none⟩ (.int .i32 1)).heap.size = w.heap.size := by simp
  refine (free_row pp g dm fs st.ts st.dr _ hp).mono ?_
  rintro e wk ⟨rfl, hf, hb⟩
  refine ⟨_, rfl, ⟨_, _, rfl, hf, fun b off e => ?_⟩, hb⟩
  cases e
  rw [← hs]
  refine ⟨Nat.le_refl _, ?_⟩
  rcases hf with e0 | ⟨b, off, e, hlt, _⟩
  ·exact absurd (PM.free_len hp.inv) (by rw [e0]; have := hp.ok.pos; simp; omega)
  ·cases e; exact hlt)
 have c2 := h.cells.2.2.1
 have c3 := h.cells.2.2.2.1
 have lp := h.lt.1
 have HL := Lib.hid hL
 clear hL h
 go_enter Tryz.func41, Tryz.ntmps41
 go_wp2_with (go_at_call 81; refine HL.out.mono ?_; rintro e w' ⟨v, wk, rfl, hq, rfl, hb⟩)
 go_ret
 obtain ⟨A, c, rfl, hfr, hy⟩ := hq
 exact ⟨A, c, rfl, hfr.set fun b off e e2 => by have := hy b off e; omega, fun b off e => by simpa using hy b off e, hb⟩

set_option maxHeartbeats 1000000 in
theorem view_l {w : World} {p : Nat} {F : Nat → Prop} {fs : List Fr} {st : LS} (h : LObj w p F fs st) :
  Calls Tryz.prog 43 #[.pointer (some ⟨p, 0, none⟩)] w fun e w' => ∃ A c, e = .returned (.slice A (PM.view fs st.ts st.dr).length c) ∧ Frees w' w'.heap.size A (PM.view fs st.ts st.dr) ∧ (∀ b off, A = some ⟨b, off, none⟩ → w.heap.size ≤ b ∧ b < w'.heap.size) ∧ Below w.heap.size w w' := by
 obtain ⟨pp, pa, hm, FP, FQ, V, h, rfl⟩ := h
 have hL := look_view (fun v wk => ∃ A c, v = .slice A (PM.view fs st.ts st.dr).length c ∧ Frees wk wk.heap.size A (PM.view fs st.ts st.dr) ∧ ∀ b off, A = some ⟨b, off, none⟩ → w.heap.size ≤ b ∧ b < wk.heap.size) h (by
  obtain ⟨T, g, dm, hp, _⟩ := (h.lock 1).pool
  have hs : (w.setCell ⟨p, 0, none⟩ (.int .i32 1)).heap.size = w.heap.size := by simp
  refine (view_new pp g dm fs st.ts st.dr _ hp).mono ?_
  rintro e wk ⟨A, c, rfl, hf, hy, hb⟩
  exact ⟨_, rfl, ⟨_, _, rfl, hf, fun b off e => by rw [← hs]; exact hy b off e⟩, hb⟩)
 have c2 := h.cells.2.2.1
 have c3 := h.cells.2.2.2.1
 have lp := h.lt.1
 have HL := Lib.hid hL
 clear hL h
 go_enter Tryz.func43, Tryz.ntmps43
 go_wp2_with (go_at_call 81; refine HL.out.mono ?_; rintro e w' ⟨v, wk, rfl, hq, rfl, hb⟩)
 go_ret
 obtain ⟨A, c, rfl, hfr, hy⟩ := hq
 exact ⟨A, c, rfl, hfr.set fun b off e e2 => by have := hy b off e; omega, fun b off e => by simpa using hy b off e, hb⟩

set_option maxHeartbeats 1000000 in
theorem used_l {w : World} {p : Nat} {F : Nat → Prop} {fs : List Fr} {st : LS} (h : LObj w p F fs st) :
  Calls Tryz.prog 46 #[.pointer (some ⟨p, 0, none⟩)] w fun e w' => ∃ A c, e = .returned (.slice A st.qs.length c) ∧ Uns w' w'.heap.size A (st.qs.map (·.u)) ∧ (∀ b off, A = some ⟨b, off, none⟩ → w.heap.size ≤ b ∧ b < w'.heap.size) ∧ Below w.heap.size w w' := by
 obtain ⟨pp, pa, hm, FP, FQ, V, h, rfl⟩ := h
 have hL := look_used (fun v wk => ∃ A c, v = .slice A st.qs.length c ∧ Uns wk wk.heap.size A (st.qs.map (·.u)) ∧ ∀ b off, A = some ⟨b, off, none⟩ → w.heap.size ≤ b ∧ b < wk.heap.size) h (by
  obtain ⟨g, c, hq, _⟩ := (h.lock 1).acc
  have hs : (w.setCell ⟨p, 0, none⟩ (.int .i32 1)).heap.size = w.heap.size := by simp
  refine (used_q pa g c st.qs _ hq).mono ?_
  rintro e wk ⟨A, c, rfl, hf, hy, hb⟩
  exact ⟨_, rfl, ⟨_, _, rfl, hf, fun b off e => by rw [← hs]; exact hy b off e⟩, hb⟩)
 have c2 := h.cells.2.2.1
 have c3 := h.cells.2.2.2.1
 have lp := h.lt.1
 have HL := Lib.hid hL
 clear hL h
 go_enter Tryz.func46, Tryz.ntmps46
 go_wp2_with (go_at_call 84; refine HL.out.mono ?_; rintro e w' ⟨v, wk, rfl, hq, rfl, hb⟩)
 go_ret
 obtain ⟨A, c, rfl, hfr, hy⟩ := hq
 exact ⟨A, c, rfl, (hfr.off fun b off e _ => Below.heap_setCell _ _ _ _ (fun e2 => by have := hy b off e; simp at e2; omega)).imp (by simp) fun _ _ _ _ hd => hd, fun b off e => by simpa using hy b off e, hb⟩

set_option maxHeartbeats 1000000 in
theorem holds_lc {w : World} {p : Nat} {F : Nat → Prop} {fs : List Fr} {st : LS} (h : LObj w p F fs st) (hfew : st.hs.length ≤ 100000) :
  Calls Tryz.prog 14 #[.pointer (some ⟨p, 0, none⟩)] w fun e w' => ∃ A c G, e = .returned (.slice A st.hs.length c) ∧ st.hs.length ≤ c ∧ HL w' G A st.hs ∧ (∀ i, G i → w.heap.size ≤ i ∧ i < w'.heap.size) ∧ Below w.heap.size w w' := by
 obtain ⟨pp, pa, hm, FP, FQ, V, h, rfl⟩ := h
 have hL := look_holds (fun v wk => ∃ A c G, v = .slice A st.hs.length c ∧ st.hs.length ≤ c ∧ HL wk G A st.hs ∧ ∀ i, G i → w.heap.size ≤ i ∧ i < wk.heap.size) h (by
  have hs : (w.setCell ⟨p, 0, none⟩ (.int .i32 1)).heap.size = w.heap.size := by simp
  refine (all_lc (h.lock 1) hfew).mono ?_
  rintro e wk ⟨A, c, G, rfl, hcc, hf, hy, hb⟩
  exact ⟨_, rfl, ⟨A, c, G, rfl, hcc, hf, fun i hi => by rw [← hs]; exact hy i hi⟩, hb⟩)
 have c2 := h.cells.2.2.1
 have c3 := h.cells.2.2.2.1
 have lp := h.lt.1
 have HL := Lib.hid hL
 clear hL h
 go_enter Tryz.func14, Tryz.ntmps14
 go_wp2_with (go_at_call 56; refine HL.out.mono ?_; rintro e w' ⟨v, wk, rfl, hq, rfl, hb⟩)
 go_ret
 obtain ⟨A, c, G, rfl, hcc, hfr, hy⟩ := hq
 exact ⟨A, c, G, rfl, hcc, hfr.off (by simp) fun i hi _ => Below.heap_setCell _ _ _ _ (fun e2 => by have := hy i hi; simp at e2; omega), fun i hi => by simpa using hy i hi, hb⟩
theorem holds_l {w : World} {p : Nat} {F : Nat → Prop} {fs : List Fr} {st : LS} (h : LObj w p F fs st) (hfew : st.hs.length ≤ 100000) :
  Calls Tryz.prog 14 #[.pointer (some ⟨p, 0, none⟩)] w fun e w' => ∃ A c G, e = .returned (.slice A st.hs.length c) ∧ HL w' G A st.hs ∧ (∀ i, G i → w.heap.size ≤ i ∧ i < w'.heap.size) ∧ Below w.heap.size w w' := by
 refine (holds_lc h hfew).mono fun e w' ⟨A, c, G, e1, _, e3⟩ => ⟨A, c, G, e1, e3⟩

set_option maxHeartbeats 1000000 in
theorem version_l {w : World} {p : Nat} {F : Nat → Prop} {fs : List Fr} {st : LS} (h : LObj w p F fs st) :
  Calls Tryz.prog 13 #[.pointer (some ⟨p, 0, none⟩)] w fun e w' => e = .returned (.int .i64 (st.ver : Nat)) ∧ Below w.heap.size w w' := by
 obtain ⟨pp, pa, hm, FP, FQ, V, h, rfl⟩ := h
 obtain ⟨W, hW⟩ : ∃ W, W = w.alloc (.cells #[.pointer (some ⟨p, 0, none⟩)] 29) := ⟨_, rfl⟩
 have hB : Below w.heap.size w W := by rw [hW]; exact (Below.refl w.heap.size w).alloc (Nat.le_refl _) _
 have hbx : W.heap[w.heap.size]? = some (.cells #[.pointer (some ⟨p, 0, none⟩)] 29 (0, 0)) := by rw [hW]; exact heap_alloc_new w _
 have lp := h.lt.1
 have hW1 := h.keep hB
 have hL := look_version (x := w.heap.size) (fun v _ => v = .int .i64 (st.ver : Nat)) hW1 (version_cl (cell_blk (i := 0) ((Below.heap_setCell _ _ _ _ (fun e => by simp at e; omega)).trans hbx) rfl) (hW1.lock 1).cells.2.2.2.2.2.2.1)
 have HL := Lib.hid hL
 have HW := Lib.hid hW
 have HB := Lib.hid hB
 clear hL h hW hB hW1 hbx
 go_enter Tryz.func13, Tryz.ntmps13
 go_wp2_with fail
 rw [← HW.out]
 refine HL.out.mono ?_
 rintro e w' ⟨v, wk, rfl, hq, rfl, hb⟩
 go_wp2_with fail
 go_ret
 have hbb := below_step HB.out hb
 exact ⟨rfl, hbb⟩
end Go.Proofs.YtgpfmlidchogcaaGreat

set_option maxRecDepth 100000
set_option linter.unusedVariables false
namespace Go.Proofs.YtgpfmlidchogcaaGreat
open Go.RowKit Go.MuLone

def boolC (b : Bool) : List Value := [.bool b]
theorem boolC_len (b : Bool) : (boolC b).length = 1 := rfl
abbrev Bls (w : World) (B : Nat) (A : Option Addr) (l : List Bool) : Prop := Els boolC 1 w B A l
set_option maxRecDepth 100000 in
set_option maxHeartbeats 1000000 in
theorem bools_any (A A' : Option Addr) (c c' B B' : Nat) (l l' : List Bool) (w : World) (h : Bls w B A l) (h' : Bls w B' A' l') (hB : B ≤ w.heap.size) (hB' : B' ≤ w.heap.size) (hn : l.length ≤ 5000) :
  Calls Tryz.prog 47 #[.slice A l.length c, .slice A' l'.length c'] w fun e w' => e = .returned (.bool (decide (l = l'))) ∧ Below w.heap.size w w' := by
 obtain ⟨R, hR⟩ : ∃ R, R = decide (l = l') := ⟨_, rfl⟩
 rw [← hR]
 obtain ⟨n, hln⟩ : ∃ n, n = l.length := ⟨_, rfl⟩
 obtain ⟨m, hlm⟩ : ∃ m, m = l'.length := ⟨_, rfl⟩
 have H := Lib.hid (And.intro hR (And.intro h (And.intro h' (And.intro hln hlm))))
 rw [← hln] at hn ⊢
 rw [← hlm]
 clear hR h h' hln hlm
 by_cases hnm : n = m
 ·subst hnm
  have t0 : ((n : Int) != (n : Int)) = false := by simp
  go_enter Tryz.func47, Tryz.ntmps47
  go_wp2
  go_loopw [5] (fun i wr => ∃ k : Nat, i = .int .i64 k ∧ k ≤ n ∧ Below w.heap.size w wr ∧ Hid (l.take k = l'.take k)) (fun i _ => n - (intOf i).toNat)
  case atStart => exact ⟨0, rfl, by omega, Below.refl _ _, Lib.hid rfl⟩
  case round =>
   obtain ⟨k, rfl, hk, hBl, hall⟩ := hrel
   by_cases hlt : k < n
   ·obtain ⟨u, hx⟩ := get_lt (l := l) (k := k) (by rw [← H.out.2.2.2.1]; exact hlt)
    obtain ⟨v, hy⟩ := get_lt (l := l') (k := k) (by rw [← H.out.2.2.2.2]; exact hlt)
    obtain ⟨b, off, rfl, hb, hc⟩ := H.out.2.1.at_ hx
    obtain ⟨b', off', rfl, hb', hc'⟩ := H.out.2.2.1.at_ hy
    have hcx := (hc k _ hx).keep (Nat.lt_of_lt_of_le hb hB) hBl
    have hcy := (hc' k _ hy).keep (Nat.lt_of_lt_of_le hb' hB') hBl
    have z0 : wr.cell? ⟨b, off + k, none⟩ = some (.bool u) := by have := hcx 0 _ rfl; simpa using this
    have y0 : wr.cell? ⟨b', off' + k, none⟩ = some (.bool v) := by have := hcy 0 _ rfl; simpa using this
    have t1 : decide (k < n) = true := decide_eq_true hlt
    have N := Lib.hid (And.intro hx hy)
    have HB := Lib.hid hBl
    by_cases e : u = v
    ·subst e
     have E := Lib.hid (show l.take (k + 1) = l'.take (k + 1) by rw [take_next hx, take_next hy, hall.out])
     clear hc hc' hcx hcy hx hy hBl N
     cases u
     all_goals
      go_wp2
      go_quiet (fail)
      go_wp2
      go_roundw
      case rel => exact ⟨k + 1, by go_num, by omega, below_drewN HB.out _, E⟩
      case measure => simp [intOf]; omega
    ·have eR : R = false := by
      rw [H.out.1]; refine decide_eq_false fun e1 => e ?_
      rw [e1, hy] at hx; injection hx with hx; exact hx.symm
     subst eR
     have E := Lib.hid e
     clear hc hc' hcx hcy hx hy hBl e N
     cases u <;> cases v
     ·exact absurd rfl E.out
     ·go_wp2
      go_quiet (fail)
      go_wp2
      go_ret
      exact ⟨rfl, below_drewN HB.out _⟩
     ·go_wp2
      go_quiet (fail)
      go_wp2
      go_ret
      exact ⟨rfl, below_drewN HB.out _⟩
     ·exact absurd rfl E.out
   ·obtain rfl : k = n := by omega
    have eR : R = true := by
     have e := hall.out
     rw [H.out.1]; refine decide_eq_true ?_
     rw [H.out.2.2.2.1] at e
     rw [List.take_length, ← H.out.2.2.2.1, H.out.2.2.2.2, List.take_length] at e
     exact e
    subst eR
    have HB := Lib.hid hBl
    clear hlt hBl
    go_wp2
    go_ret
    exact ⟨rfl, HB.out⟩
 ·have eR : R = false := by
   rw [H.out.1]; refine decide_eq_false fun e => hnm ?_
   rw [H.out.2.2.2.1, H.out.2.2.2.2, e]
  subst eR
  have t0 : ((n : Int) != (m : Int)) = true := by simp; omega
  clear hnm
  go_enter Tryz.func47, Tryz.ntmps47
  go_wp2
  go_ret
  exact ⟨rfl, Below.refl _ _⟩

theorem info_bool : (Tryz.prog.info? 4).map (fun i => (i.zero, i.size, i.bytes)) = some (some (.bool false), 1, 1) := by kernel_rfl
set_option maxHeartbeats 2000000 in
theorem drained_cl {W : World} {lk : Int} {x p pp pa hm : Nat} {FP FQ : Nat → Prop} {V : Int → Value} {fs : List Fr} {st : LS} (hx : W.cell? ⟨x, 0, none⟩ = some (.pointer (some ⟨p, 0, none⟩))) (h : LAt W lk p pp pa hm FP FQ V fs st) :
  Calls Tryz.prog 87 #[.pointer (some ⟨x, 0, none⟩)] W fun e wk => ∃ v, e = .returned v ∧ (∃ A c, v = .slice A st.dr.length c ∧ Bls wk wk.heap.size A st.dr ∧ ∀ b off, A = some ⟨b, off, none⟩ → W.heap.size ≤ b ∧ b < wk.heap.size) ∧ Below W.heap.size W wk := by
 have c2 := h.cells.2.2.1
 have c5 := h.cells.2.2.2.2.2.1
 have lp := h.lt.1
 have lx := lt_of_cell hx
 obtain ⟨T, g, dm, hp, _⟩ := h.pool
 have hnod := hp.ok.nodes
 obtain ⟨i0, hi, hz0, hz1, hz2⟩ := info_parts info_bool
 obtain ⟨n, hn⟩ : ∃ n, n = st.dr.length := ⟨_, rfl⟩
 rw [← hn] at c5 hnod ⊢
 have hD := Lib.hid (fun (k : Nat) (wk : World) (hW : Below W.heap.size W wk) (hk : k < n) => drained_any pp g dm fs st.ts st.dr (k : Int) wk (hp.keep hW) (wf_nat (by omega)))
 obtain ⟨mc, hmc⟩ : ∃ mc, mc = madeCells (.bool false : Value).cells (n * 1) := ⟨_, rfl⟩
 have hmcs : mc.size = n := by rw [hmc, size_madeCells, Nat.mul_one]
 have hmk : ∀ W : World, (Instr.makeSlice 118 (.int .i64 (n : Nat)) (.int .i64 (n : Nat))).run Tryz.prog W = .ok (.slice (some ⟨W.heap.size, 0, none⟩) n n) (W.alloc (.cells mc 4)) := fun W => by
  have := run_make (P := Tryz.prog) W 118 4 i0 _ Tryz.underlying118 hi hz0 .i64 .i64 (n : Nat) (n : Nat) (by omega) (by omega) (by rw [hz2]; omega) (by omega)
  rw [hz1] at this
  rw [hmc]
  simpa using this
 have HN := Lib.hid (And.intro hn hmcs)
 obtain ⟨B, hB⟩ : ∃ B, B = W.heap.size := ⟨_, rfl⟩
 obtain ⟨W1, hW1⟩ : ∃ W1, W1 = W.alloc (.cells mc 4) := ⟨_, rfl⟩
 have hB1 : Below W.heap.size W W1 := by rw [hW1]; exact (Below.refl _ _).alloc (Nat.le_refl _) _
 have hbk : W1.heap[B]? = some (.cells mc 4 (0, 0)) := by rw [hW1, hB]; exact heap_alloc_new W _
 have HB := Lib.hid (And.intro hB hW1)
 have HK := Lib.hid (And.intro hB1 hbk)
 have hBw : W.heap.size ≤ B := by omega
 clear hmc hmcs hi hz0 hz1 hz2 hp h hn hB hW1 hB1 hbk
 go_enter Tryz.func87, Tryz.ntmps87
 go_wp2
 rw [← HB.out.2, ← HB.out.1]
 go_loopw [11] (fun i wr => ∃ (k : Nat) (cur : Array Value), i = .int .i64 k ∧ k ≤ n ∧ Hid (Below W.heap.size W wr) ∧ Hid (wr.heap[B]? = some (.cells cur 4 (0, 0))) ∧ Hid (cur.size = n) ∧ Hid (∀ j, j < k → cur[j]? = some (.bool (isDr st.dr (j : Int))))) (fun i _ => n - (intOf i).toNat)
 case atStart => exact ⟨0, mc, rfl, by omega, Lib.hid HK.out.1, Lib.hid HK.out.2, Lib.hid HN.out.2, Lib.hid (by intro j hj; omega)⟩
 case round =>
  obtain ⟨k, cur, rfl, hk, hBl, hbk, hcs, hcu⟩ := hrel
  by_cases hlt : k < n
  ·have t0 : decide (k < n) = true := by simpa using hlt
   have y0 := (hBl.out.cell (p := ⟨x, 0, none⟩) lx).trans hx
   have y1 := (hBl.out.cell (p := ⟨p, 2, none⟩) lp).trans c2
   obtain ⟨ck, hck⟩ : ∃ v, cur[k]? = some v := ⟨_, Array.getElem?_eq_getElem (by rw [hcs.out]; exact hlt)⟩
   have y2 : wr.cell? ⟨B, k, none⟩ = some ck := cell_blk hbk.out hck
   have z2 : wr.frozen? ⟨B, k, none⟩ = false := frozen_blk hbk.out
   have hDk := Lib.hid (hD.out k wr hBl.out hlt)
   clear hck
   go_wp2_with (go_at_call 88; refine hDk.out.mono ?_; rintro e w2 ⟨rfl, rfl⟩)
   go_roundw
   case rel =>
    refine ⟨k + 1, _, by go_num, by omega, Lib.hid (hBl.out.setCell (p := ⟨B, k, none⟩) hBw _), Lib.hid (blk_put (.bool (isDr st.dr (k : Int))) hbk.out), Lib.hid (by simpa using hcs.out), Lib.hid fun j hj => ?_⟩
    by_cases e : j = k
    ·subst e
     rw [Array.getElem?_setIfInBounds_self_of_lt (by rw [hcs.out]; exact hlt)]
    ·rw [Array.getElem?_setIfInBounds_ne (fun e2 => e e2.symm)]
     exact hcu.out j (by omega)
   case measure => simp [intOf]; omega
  ·obtain rfl : k = n := by omega
   clear hlt
   go_wp2
   go_ret
   have hlt := blk_lt hbk.out
   refine ⟨_, rfl, ⟨_, _, rfl, els_blk boolC_len hbk.out fun j v hj => ?_, fun b off e => by cases e; exact ⟨hBw, hlt⟩⟩, hBl.out⟩
   have hfm : ∀ l : List Bool, l.flatMap boolC = l.map Value.bool := fun l => by induction l with
    | nil => rfl
    | cons a l ih => rw [List.flatMap_cons, ih]; rfl
   rw [hfm, List.getElem?_map] at hj
   obtain ⟨b, hb, rfl⟩ := Option.map_eq_some_iff.1 hj
   have hjl := (List.getElem?_eq_some_iff.1 hb).1
   rw [hcu.out j (by rw [HN.out.1]; exact hjl), isDr_nat, hb]
   rfl

set_option maxHeartbeats 1000000 in
theorem drained_l {w : World} {p : Nat} {F : Nat → Prop} {fs : List Fr} {st : LS} (h : LObj w p F fs st) :
  Calls Tryz.prog 48 #[.pointer (some ⟨p, 0, none⟩)] w fun e w' => ∃ A c, e = .returned (.slice A st.dr.length c) ∧ Bls w' w'.heap.size A st.dr ∧ (∀ b off, A = some ⟨b, off, none⟩ → w.heap.size ≤ b ∧ b < w'.heap.size) ∧ Below w.heap.size w w' := by
 obtain ⟨pp, pa, hm, FP, FQ, V, h, rfl⟩ := h
 obtain ⟨W, hW⟩ : ∃ W, W = w.alloc (.cells #[.pointer (some ⟨p, 0, none⟩)] 29) := ⟨_, rfl⟩
 have hB : Below w.heap.size w W := by rw [hW]; exact (Below.refl w.heap.size w).alloc (Nat.le_refl _) _
 have hbx : W.heap[w.heap.size]? = some (.cells #[.pointer (some ⟨p, 0, none⟩)] 29 (0, 0)) := by rw [hW]; exact heap_alloc_new w _
 have lp := h.lt.1
 have hW1 := h.keep hB
 have hL := look_drained (x := w.heap.size) (fun v wk => ∃ A c, v = .slice A st.dr.length c ∧ Bls wk wk.heap.size A st.dr ∧ ∀ b off, A = some ⟨b, off, none⟩ → W.heap.size ≤ b ∧ b < wk.heap.size) hW1 (by
     have hs : (W.setCell ⟨p, 0, none⟩ (.int .i32 1)).heap.size = W.heap.size := by simp
     have := drained_cl (x := w.heap.size) (cell_blk (i := 0) ((Below.heap_setCell _ _ _ _ (fun e => by simp at e; omega)).trans hbx) rfl) (hW1.lock 1)
     rw [hs] at this
     rw [hs]
     exact this)
 have HL := Lib.hid hL
 have HW := Lib.hid hW
 have HB := Lib.hid hB
 clear hL h hW hB hW1 hbx
 go_enter Tryz.func48, Tryz.ntmps48
 go_wp2_with fail
 rw [← HW.out]
 refine HL.out.mono ?_
 rintro e w' ⟨v, wk, rfl, hq, rfl, hb⟩
 go_wp2_with fail
 go_ret
 have hbb := below_step HB.out hb
 obtain ⟨A, c, rfl, hfr, hy⟩ := hq
 have hWs : W.heap.size = w.heap.size + 1 := by rw [HW.out]; simp
 exact ⟨A, c, rfl, (hfr.off fun b off e _ => Below.heap_setCell _ _ _ _ (fun e2 => by have := hy b off e; simp at e2; omega)).imp (by simp) fun _ _ _ _ hd => hd, fun b off e => by have := hy b off e; simp; omega, hbb⟩
end Go.Proofs.YtgpfmlidchogcaaGreat

set_option maxRecDepth 100000
set_option linter.unusedVariables false
namespace Go.Proofs.YtgpfmlidchogcaaGreat
open Go.RowKit Go.MuLone

namespace LM
theorem upd_one {hs : List Hd} {g : Hd} {f : Hd → Hd} (ha : Asc hs) (hg : g ∈ hs) : upd g.id f hs = upd g.id (fun _ => f g) hs := by
 unfold upd
 refine List.map_congr_left fun h hh => ?_
 by_cases e : h.id = g.id
 ·rw [if_pos e, if_pos e, asc_inj ha hh hg e]
 ·rw [if_neg e, if_neg e]
end LM
theorem LOk.upd {st : LS} (h : LOk st) {g g' : Hd} (hg : g ∈ st.hs) (hi : g'.id = g.id) (ho : HdOk g') (hq : hasQ st.qs g'.q = true) : LOk { st with hs := LM.upd g.id (fun _ => g') st.hs } := by
 have hmem : ∀ k ∈ LM.upd g.id (fun _ => g') st.hs, k = g' ∨ k ∈ st.hs := fun k hk => by
  obtain ⟨a, ha, e⟩ := LM.mem_upd.1 hk
  split at e
  ·exact .inl e.symm
  ·subst e; exact .inr ha
 refine ⟨?_, fun k hk => ?_, fun k hk => ?_, by simp only [LM.upd_len]; exact h.few⟩
 ·have : ∀ k, k.id = g.id → (fun _ : Hd => g') k = g' := fun _ _ => rfl
  unfold LM.Asc LM.upd
  rw [List.pairwise_map]
  refine h.asc.imp fun {a b} hab => ?_
  split <;> split <;> (try dsimp only) <;> omega
 ·rcases hmem k hk with e | e
  ·subst e; exact ho
  ·exact h.ok k e
 ·rcases hmem k hk with e | e
  ·subst e; exact hq
  ·exact h.q k e
theorem LOk.ins {st : LS} (h : LOk st) {g : Hd} (hn : LM.find g.id st.hs = none) (ho : HdOk g) (hq : hasQ st.qs g.q = true) : LOk (LM.up { st with hs := LM.ins g st.hs }) := by
 refine ⟨LM.asc_ins h.asc hn, fun k hk => ?_, fun k hk => ?_, by simp only [LM.up, LM.len_ins]; exact Nat.succ_le_succ h.few⟩
 ·rcases LM.mem_ins.1 hk with e | e
  ·subst e; exact ho
  ·exact h.ok k e
 ·rcases LM.mem_ins.1 hk with e | e
  ·subst e; exact hq
  ·exact h.q k e
section
variable {w w' wk : World} {lk : Int} {p pp pa hm : Nat} {FP FP' FQ G : Nat → Prop} {V V' : Int → Value} {fs : List Fr} {st st' : LS}
def vPut (V : Int → Value) (x : Int) (v : Value) : Int → Value := fun y => if y = x then v else V y
theorem vPut_same {x : Int} {v : Value} : vPut V x v x = v := by simp [vPut]
theorem vPut_other {x y : Int} {v : Value} (h : y ≠ x) : vPut V x v y = V y := by simp [vPut, h]
theorem vPut_view {hs hs' : List Hd} {x : Int} {v : Value} {g' : Hd} (hi : g'.id = x) (h1 : ∀ y, LM.find y hs' = if y = x then some g' else LM.find y hs) : ∀ y, (if y = x then some (hdV g' v) else hView hs V y) = hView hs' (vPut V x v) y := fun y => by
 unfold hView
 rw [h1]
 by_cases e : y = x
 ·subst e; simp [hi, vPut]
 ·rw [if_neg e, if_neg e]
  cases hf : LM.find y hs with
  | none => rfl
  | some k => simp only [Option.map_some]; rw [vPut_other (by rw [(LM.find_some hf).2]; exact e)]
theorem vPut_upd {hs : List Hd} {x : Int} {g' k : Hd} {v : Value} {i : Nat} (hg : g'.id = x) (hk : k ∈ LM.upd x (fun _ => g') hs) (hi : (vPut V x v k.id).ownBlock = some i) : v.ownBlock = some i ∨ ∃ a ∈ hs, (V a.id).ownBlock = some i := by
 unfold vPut at hi
 split at hi
 ·exact .inl hi
 ·rename_i hne
  obtain ⟨a, ha, e⟩ := LM.mem_upd.1 hk
  split at e
  ·subst e
   exact absurd hg hne
  ·subst e; exact .inr ⟨a, ha, hi⟩
theorem LAt.updated (h : LAt w lk p pp pa hm FP FQ V fs st) (hfew : st.hs.length ≤ 1000000) {g g' : Hd} (hg : g ∈ st.hs) (hi : g'.id = g.id) (ho : HdOk g') (hq : hasQ st.qs g'.q = true) (v : Value)
  (hr : w.ownsRow 0 41 4 v g'.sl.length (g'.sl.flatMap slC)) (hv : ∀ i, v.ownBlock = some i → ¬ FP i ∧ ¬ FQ i ∧ i ≠ p ∧ i ≠ hm ∧ ∀ k ∈ st.hs, k.id ≠ g.id → (V k.id).ownBlock ≠ some i) :
  ∃ w', (Instr.mapUpdate 70 (.map (some hm)) (.int .i64 g.id) (hdV g' v)).run Tryz.prog w = .ok () w' ∧ LAt w' lk p pp pa hm FP FQ (vPut V g.id v) fs { st with hs := LM.upd g.id (fun _ => g') st.hs } ∧ Foot (· = hm) w w' := by
 have hx := (h.ok.ok g hg).id
 have hfind := LM.find_of h.ok.asc hg
 have hsome : (hView st.hs V g.id).isSome = true := by unfold hView; rw [hfind]; rfl
 obtain ⟨w', hrun, hmp, ht⟩ := h.map.store hKey hTy (by unfold maxLen; omega) (hdV g' v) hx
 rw [hsome, if_pos rfl] at hmp
 have hmem : ∀ k ∈ LM.upd g.id (fun _ => g') st.hs, k = g' ∨ (k ∈ st.hs ∧ k.id ≠ g.id) := fun k hk => by
  obtain ⟨a, ha, e⟩ := LM.mem_upd.1 hk
  split at e
  ·exact .inl e.symm
  ·rename_i hne; subst e; exact .inr ⟨ha, hne⟩
 have hfu : ∀ y, LM.find y (LM.upd g.id (fun _ => g') st.hs) = if y = g.id then some g' else LM.find y st.hs := fun y => by
  have hasc := (h.ok.upd hg hi ho hq).asc
  by_cases e : y = g.id
  ·rw [if_pos e]
   refine (LM.find_eq hasc).2 ⟨LM.mem_upd.2 ⟨g, hg, by simp⟩, by rw [hi, e]⟩
  ·rw [if_neg e]
   cases hf : LM.find y st.hs with
   | none =>
    unfold LM.find
    rw [List.find?_eq_none]
    intro k hk
    rcases hmem k hk with e2 | e2
    ·subst e2; simpa [hi] using fun e3 => e e3.symm
    ·simpa using LM.find_none hf k e2.1
   | some k =>
    obtain ⟨h1, h2⟩ := LM.find_some hf
    exact (LM.find_eq hasc).2 ⟨LM.mem_upd.2 ⟨k, h1, by rw [if_neg (by rw [h2]; exact e)]⟩, h2⟩
 refine ⟨w', hrun, h.mapped (h.ok.upd hg hi ho hq) ?_ (turnedFoot ht) (fun k hk => ?_) (fun k hk i hi2 => ?_) (fun a ha b hb hne i hi2 => ?_), turnedFoot ht⟩
 ·rw [LM.upd_len]
  exact hmp.congr fun y _ => vPut_view hi hfu y
 ·rcases hmem k hk with e | e
  ·subst e; rw [hi, vPut_same]; exact hr
  ·rw [vPut_other e.2]; exact h.rows k e.1
 ·rcases hmem k hk with e | e
  ·subst e; rw [hi, vPut_same] at hi2; obtain ⟨a1, a2, a3, a4, _⟩ := hv i hi2; exact ⟨a1, a2, a3, a4⟩
  ·rw [vPut_other e.2] at hi2; exact h.av k e.1 i hi2
 ·rcases hmem a ha with e | e
  ·subst e
   rw [hi, vPut_same] at hi2
   rcases hmem b hb with e2 | e2
   ·subst e2; exact absurd rfl hne
   ·rw [vPut_other e2.2]; exact (hv i hi2).2.2.2.2 b e2.1 e2.2
  ·rw [vPut_other e.2] at hi2
   rcases hmem b hb with e2 | e2
   ·subst e2; rw [hi, vPut_same]; exact fun e3 => (hv i e3).2.2.2.2 a e.1 e.2 hi2
   ·rw [vPut_other e2.2]; exact h.avv a e.1 b e2.1 hne i hi2
theorem LAt.inserted (h : LAt w lk p pp pa hm FP FQ V fs st) (hfew : st.hs.length ≤ 1000000) {g : Hd} (hn : LM.find g.id st.hs = none) (ho : HdOk g) (hq : hasQ st.qs g.q = true) (v : Value)
  (hr : w.ownsRow 0 41 4 v g.sl.length (g.sl.flatMap slC)) (hv : ∀ i, v.ownBlock = some i → ¬ FP i ∧ ¬ FQ i ∧ i ≠ p ∧ i ≠ hm ∧ ∀ k ∈ st.hs, (V k.id).ownBlock ≠ some i) :
  ∃ w', (Instr.mapUpdate 70 (.map (some hm)) (.int .i64 g.id) (hdV g v)).run Tryz.prog w = .ok () w' ∧ Foot (· = hm) w w' ∧
   (∀ w2, Foot (· = p) w' w2 → w2.heap[p]? = some (ledB lk pp pa hm st.dr.length (st.ver + 1)) → LAt w2 lk p pp pa hm FP FQ (vPut V g.id v) fs (LM.up { st with hs := LM.ins g st.hs })) := by
 obtain ⟨w', hrun, hmp, ht⟩ := h.map.store hKey hTy (by unfold maxLen; omega) (hdV g v) ho.id
 have hsome : (hView st.hs V g.id).isSome = false := by unfold hView; rw [hn]; rfl
 rw [hsome] at hmp
 simp only [Bool.false_eq_true, if_false] at hmp
 have hmem : ∀ k ∈ LM.ins g st.hs, k = g ∨ (k ∈ st.hs ∧ k.id ≠ g.id) := fun k hk => by
  rcases LM.mem_ins.1 hk with e | e
  ·exact .inl e
  ·exact .inr ⟨e, LM.find_none hn k e⟩
 refine ⟨w', hrun, turnedFoot ht, fun w2 hf2 hob => ?_⟩
 have hfm := turnedFoot ht
 have hk2 : ∀ i, i < w.heap.size → i ≠ hm → i ≠ p → w2.heap[i]? = w.heap[i]? := fun i hi h1 h2 => (hf2.block i (Nat.lt_of_lt_of_le hi hfm.size) h2).trans (hfm.block i hi h1)
 have hs2 : w.heap.size ≤ w2.heap.size := Nat.le_trans hfm.size hf2.size
 refine ⟨h.ok.ins hn ho hq, hob, h.pool.off hs2 fun i hi e => hk2 i hi (h.ap1 i e).2.2 (h.ap1 i e).2.1, h.acc.off hs2 fun i hi e => hk2 i hi (h.ap2 i e).2 (h.ap2 i e).1, ?_, fun k hk => ?_, h.ap1, h.ap2, fun k hk i hi2 => ?_, fun a ha b hb hne i hi2 => ?_⟩
 ·have h9 := (hmp.congr fun y _ => vPut_view rfl (fun y => LM.find_ins (y := y) h.ok.asc hn) y).of_block (w' := w2) (hf2.block hm (Nat.lt_of_lt_of_le h.lt.2.1 hfm.size) fun e => h.lt.2.2 e.symm)
  show hMap w2 hm (LM.ins g st.hs).length _
  rw [LM.len_ins]
  exact h9
 ·rcases hmem k hk with e | e
  ·subst e; rw [vPut_same]; exact own_stays hr fun i hi2 => hk2 i (hr.lt i hi2).2 (hv i hi2).2.2.2.1 (hv i hi2).2.2.1
  ·rw [vPut_other e.2]; exact own_stays (h.rows k e.1) fun i hi2 => hk2 i ((h.rows k e.1).lt i hi2).2 (h.av k e.1 i hi2).2.2.2 (h.av k e.1 i hi2).2.2.1
 ·rcases hmem k hk with e | e
  ·subst e; rw [vPut_same] at hi2; obtain ⟨a1, a2, a3, a4, _⟩ := hv i hi2; exact ⟨a1, a2, a3, a4⟩
  ·rw [vPut_other e.2] at hi2; exact h.av k e.1 i hi2
 ·rcases hmem a ha with e | e
  ·subst e
   rw [vPut_same] at hi2
   rcases hmem b hb with e2 | e2
   ·subst e2; exact absurd rfl hne
   ·rw [vPut_other e2.2]; exact (hv i hi2).2.2.2.2 b e2.1
  ·rw [vPut_other e.2] at hi2
   rcases hmem b hb with e2 | e2
   ·subst e2; rw [vPut_same]; exact fun e3 => (hv i e3).2.2.2.2 a e.1 hi2
   ·rw [vPut_other e2.2]; exact h.avv a e.1 b e2.1 hne i hi2
theorem LAt.close (h : LAt w 0 p pp pa hm FP FQ V fs st) (h' : LAt wk 1 p pp pa hm FP' FQ V' fs st') (hf : Foot (LB p hm FP FQ V st) w wk) (hP : ∀ i, FP' i → FP i ∨ w.heap.size ≤ i)
  (hV : ∀ g ∈ st'.hs, ∀ i, (V' g.id).ownBlock = some i → (∃ k ∈ st.hs, (V k.id).ownBlock = some i) ∨ w.heap.size ≤ i) :
  ∃ F', LObj (wk.setCell ⟨p, 0, none⟩ (.int .i32 0)) p F' fs st' ∧ Foot (LB p hm FP FQ V st) w (wk.setCell ⟨p, 0, none⟩ (.int .i32 0)) ∧ ∀ i, F' i → LB p hm FP FQ V st i ∨ w.heap.size ≤ i := by
 refine ⟨_, ⟨pp, pa, hm, FP', FQ, V', h'.lock 0, rfl⟩, Foot.setCell (p := ⟨p, 0, none⟩) hf (.inl (.inl rfl)) _, ?_⟩
 rintro i (hi | hi | hi | hi | ⟨g, hg, hi⟩)
 ·exact .inl (.inl hi)
 ·exact .inl (.inr (.inl hi))
 ·rcases hP i hi with e | e
  ·exact .inl (.inr (.inr (.inl e)))
  ·exact .inr e
 ·exact .inl (.inr (.inr (.inr (.inl hi))))
 ·rcases hV g hg i hi with e | e
  ·exact .inl (.inr (.inr (.inr (.inr e))))
  ·exact .inr e
end
end Go.Proofs.YtgpfmlidchogcaaGreat
