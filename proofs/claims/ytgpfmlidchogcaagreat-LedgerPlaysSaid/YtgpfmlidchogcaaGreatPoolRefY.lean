/- Two pools side by side: what is done to one leaves the other. -/
/- The document's pool: within, apart, spot. -/
/- The document's pool in memory; spot, Turn. -/
/- The document's pool: Turn; what a slot does. -/
/- The document's pool: what a slot does. -/
import Derived.Laws.StructEq
import Derived.Test.YtgpfmlidchogcaaGreatPoolZ
import Derived.Deep.QuietTactic
import Derived.BigQuiet
import Derived.Test.YtgpfmlidchogcaaGreatMaskZ
import Derived.Deep.RegionHeld3
import Derived.StillTactics
import Derived.StillTailTactics
import Derived.Deep.RegionWith
import Derived.Test.YtgpfmlidchogcaaGreatKitZ
namespace Go.Proofs.YtgpfmlidchogcaaGreat
open Go.RowKit

/-! ### Two pools side by side -/
structure Two (w : World) (Ta : Nat → Prop) (pa ga da : Nat) (Tb : Nat → Prop) (pb gb db : Nat) (fs : List Fr) (sa sb : List Fr × List Bool) : Prop where
 a : PoolAt w Ta pa ga da fs sa.1 sa.2
 b : PoolAt w Tb pb gb db fs sb.1 sb.2
 fa : ∀ i, (i = pa ∨ i = ga ∨ i = da) → ¬ Tb i ∧ i ≠ pb ∧ i ≠ gb ∧ i ≠ db
 fb : ∀ i, (i = pb ∨ i = gb ∨ i = db) → ¬ Ta i
theorem Two.symm {w : World} {Ta Tb : Nat → Prop} {pa ga da pb gb db : Nat} {fs : List Fr} {sa sb : List Fr × List Bool} (h : Two w Ta pa ga da Tb pb gb db fs sa sb) : Two w Tb pb gb db Ta pa ga da fs sb sa :=
 ⟨h.b, h.a, fun i hi => ⟨h.fb i hi, by
  have h1 := h.fa pa (.inl rfl); have h2 := h.fa ga (.inr (.inl rfl)); have h3 := h.fa da (.inr (.inr rfl))
  rcases hi with rfl | rfl | rfl
  ·exact ⟨Ne.symm h1.2.1, Ne.symm h2.2.1, Ne.symm h3.2.1⟩
  ·exact ⟨Ne.symm h1.2.2.1, Ne.symm h2.2.2.1, Ne.symm h3.2.2.1⟩
  ·exact ⟨Ne.symm h1.2.2.2, Ne.symm h2.2.2.2, Ne.symm h3.2.2.2⟩⟩, fun i hi => (h.fa i hi).1⟩
theorem Two.keep {w w' : World} {Ta Tb : Nat → Prop} {pa ga da pb gb db : Nat} {fs : List Fr} {sa sb : List Fr × List Bool} (h : Two w Ta pa ga da Tb pb gb db fs sa sb) (hk : Below w.heap.size w w') : Two w' Ta pa ga da Tb pb gb db fs sa sb :=
 ⟨h.a.keep hk, h.b.keep hk, h.fa, h.fb⟩
theorem Two.step {w w' : World} {Ta Tb : Nat → Prop} {pa ga ga' da pb gb db : Nat} {fs : List Fr} {sa sa' sb : List Fr × List Bool} (h : Two w Ta pa ga da Tb pb gb db fs sa sb) (hp : PoolAt w' Ta pa ga' da fs sa'.1 sa'.2) (hf : Foot (fun i => i = pa ∨ i = ga ∨ i = da) w w')
  (hg : ga' = ga ∨ w.heap.size ≤ ga') : Two w' Ta pa ga' da Tb pb gb db fs sa' sb := by
 refine ⟨hp, h.b.foot hf h.fa, ?_, h.fb⟩
 have hl := h.b.lt
 rintro i (rfl | rfl | rfl)
 ·exact h.fa _ (.inl rfl)
 ·rcases hg with rfl | hg
  ·exact h.fa _ (.inr (.inl rfl))
  ·exact ⟨fun ht => by have := h.b.old _ ht; omega, by omega, by omega, by omega⟩
 ·exact h.fa _ (.inr (.inr rfl))
theorem Two.made {w0 w w' : World} {Ta Tb : Nat → Prop} {pa ga da pb gb db : Nat} {fs : List Fr} {sa sb : List Fr × List Bool} (ha : PoolAt w Ta pa ga da fs sa.1 sa.2) (hw : Below w.heap.size w w0) (hb : PoolAt w' Tb pb gb db fs sb.1 sb.2) (hk : Below w0.heap.size w0 w')
  (h1 : w0.heap.size ≤ pb) (h2 : w0.heap.size ≤ gb) (h3 : w0.heap.size ≤ db) (h4 : ∀ i, Tb i → w0.heap.size ≤ i) : Two w' Ta pa ga da Tb pb gb db fs sa sb := by
 have hl := ha.lt
 have hs := hw.size
 refine ⟨(ha.keep hw).keep hk, hb, ?_, ?_⟩
 ·rintro i (rfl | rfl | rfl) <;> exact ⟨fun ht => by have := h4 _ ht; omega, by omega, by omega, by omega⟩
 ·rintro i (rfl | rfl | rfl) ht <;> (have := ha.old _ ht; omega)
/-! ### Spots, and what is free at them, held against each other -/
end Go.Proofs.YtgpfmlidchogcaaGreat

namespace Go.Proofs.YtgpfmlidchogcaaGreat
open Go.RowKit

theorem units_at {w : World} {B : Nat} {v : Value} {m : Nat} (h : w.ownsRow B 3 1 v (MM.cnt m) (ints (MM.units m))) : ∃ A c, v = .slice A (MM.cnt m) c ∧ (MM.cnt m = 0 ∨ ∃ g, A = some ⟨g, 0, none⟩ ∧ g < w.heap.size ∧ ∀ i k, (MM.units m)[i]? = some k → w.cell? ⟨g, i, none⟩ = some (.int .i64 (k : Nat))) := by
 rcases h.2 with ⟨rfl, h0⟩ | ⟨g, cap, cur, rfl, _⟩
 ·exact ⟨none, 0, by rw [h0], .inl h0⟩
 ·refine ⟨_, _, rfl, .inr ⟨g, rfl, (h.lt g rfl).2, fun i k hk => ?_⟩⟩
  have hi := (List.getElem?_eq_some_iff.1 hk).1
  have e := h.cellAt i (by have : (MM.units m).length = MM.cnt m := rfl; omega)
  rw [e]
  simp [ints, hk]
set_option maxRecDepth 100000 in
set_option maxHeartbeats 1000000 in
theorem refwithin_any (a b : Nat) (ha : a < 18446744073709551616) (hb : b < 18446744073709551616) (w : World) :
  Calls Tryz.prog 173 #[.int .u64 a, .int .u64 b] w fun e w' => e = .returned (.bool (decide (a &&& b = a))) ∧ Below w.heap.size w w' := by
 obtain ⟨R, hR⟩ : ∃ R, R = decide (a &&& b = a) := ⟨_, rfl⟩
 rw [← hR]
 have hU := Lib.hid (refunits_own a ha w)
 have hR2 : R = (MM.units a).all (fun k => b.testBit k) := by
  rw [hR, Bool.eq_iff_iff, PM.within_iff ha]; simp
 have hH := Lib.hid (fun k (hk : k < 64) W => has_any b k hb hk W)
 have hul : (MM.units a).length = MM.cnt a := rfl
 obtain ⟨n, hn⟩ : ∃ n, n = MM.cnt a := ⟨_, rfl⟩
 have hn64 : n ≤ 64 := by rw [hn]; exact MM.cnt_le a
 rw [← hn] at hU hul
 have Q := Lib.hid (And.intro hR2 (And.intro hul hn))
 clear hR hR2 hul hn ha hb
 go_enter Tryz.func173, Tryz.ntmps173
 go_wp2_with fail
 refine hU.out.mono ?_
 rintro e w1 ⟨v, rfl, ho, hb1⟩
 rw [Q.out.2.2] at ho
 obtain ⟨A, c, rfl, hA⟩ := units_at ho
 rw [← Q.out.2.2] at hA ⊢
 have HA := Lib.hid hA
 have HB := Lib.hid hb1
 clear ho hA hb1 hU
 go_wp2_with fail
 go_loop [6] (fun i => ∃ k : Nat, i = .int .i64 k ∧ k ≤ n ∧ Hid (((MM.units a).take k).all (fun k => b.testBit k) = true)) (fun i => n - (intOf i).toNat)
 case atStart => exact ⟨0, rfl, by omega, Lib.hid rfl⟩
 case round =>
  obtain ⟨k, rfl, hk, hall⟩ := hrel
  by_cases hlt : k < n
  ·obtain ⟨x, hx⟩ := get_lt (l := MM.units a) (k := k) (by rw [Q.out.2.1]; exact hlt)
   rcases HA.out with h0 | ⟨g, rfl, hg, hc⟩
   ·omega
   have c0 := hc k x hx
   have hx64 : x < 64 := MM.units_lt (List.mem_of_getElem? hx)
   have hHx := hH.out x hx64 w1
   have t0 : decide (k < n) = true := decide_eq_true hlt
   cases hbt : b.testBit x
   all_goals
    rw [hbt] at hHx
    have HHx := Lib.hid hHx
    clear hHx
   ·have eR : R = false := by rw [Q.out.1]; exact all_no (p := fun k => b.testBit k) hx (by simp [hbt])
    subst eR
    clear hx hc hbt
    go_wp2_with (go_at_call 175; refine HHx.out.mono ?_; rintro e w' ⟨rfl, rfl⟩)
    go_ret
    exact ⟨rfl, HB.out⟩
   ·have N := Lib.hid (all_next (p := fun k => b.testBit k) hx hall.out (by simp [hbt]))
    clear hx hc hbt
    go_wp2_with (go_at_call 175; refine HHx.out.mono ?_; rintro e w' ⟨rfl, rfl⟩)
    go_round
    case rel => exact ⟨k + 1, by go_num, by omega, N⟩
    case measure => simp [intOf]; omega
  ·obtain rfl : k = n := by omega
   have eR : R = true := by
    rw [Q.out.1]
    have e := hall.out
    rw [← Q.out.2.1] at e
    exact all_end e
   subst eR
   clear hlt
   go_wp2
   go_ret
   exact ⟨rfl, HB.out⟩
set_option maxRecDepth 100000 in
set_option maxHeartbeats 1000000 in
theorem refapart_any (a b : Nat) (ha : a < 18446744073709551616) (hb : b < 18446744073709551616) (w : World) :
  Calls Tryz.prog 174 #[.int .u64 a, .int .u64 b] w fun e w' => e = .returned (.bool (decide (a &&& b = 0))) ∧ Below w.heap.size w w' := by
 obtain ⟨R, hR⟩ : ∃ R, R = decide (a &&& b = 0) := ⟨_, rfl⟩
 rw [← hR]
 have hU := Lib.hid (refunits_own a ha w)
 have hR2 : R = (MM.units a).all (fun k => !b.testBit k) := by
  rw [hR, Bool.eq_iff_iff, PM.apart_iff ha]; simp
 have hH := Lib.hid (fun k (hk : k < 64) W => has_any b k hb hk W)
 have hul : (MM.units a).length = MM.cnt a := rfl
 obtain ⟨n, hn⟩ : ∃ n, n = MM.cnt a := ⟨_, rfl⟩
 have hn64 : n ≤ 64 := by rw [hn]; exact MM.cnt_le a
 rw [← hn] at hU hul
 have Q := Lib.hid (And.intro hR2 (And.intro hul hn))
 clear hR hR2 hul hn ha hb
 go_enter Tryz.func174, Tryz.ntmps174
 go_wp2_with fail
 refine hU.out.mono ?_
 rintro e w1 ⟨v, rfl, ho, hb1⟩
 rw [Q.out.2.2] at ho
 obtain ⟨A, c, rfl, hA⟩ := units_at ho
 rw [← Q.out.2.2] at hA ⊢
 have HA := Lib.hid hA
 have HB := Lib.hid hb1
 clear ho hA hb1 hU
 go_wp2_with fail
 go_loop [6] (fun i => ∃ k : Nat, i = .int .i64 k ∧ k ≤ n ∧ Hid (((MM.units a).take k).all (fun k => !b.testBit k) = true)) (fun i => n - (intOf i).toNat)
 case atStart => exact ⟨0, rfl, by omega, Lib.hid rfl⟩
 case round =>
  obtain ⟨k, rfl, hk, hall⟩ := hrel
  by_cases hlt : k < n
  ·obtain ⟨x, hx⟩ := get_lt (l := MM.units a) (k := k) (by rw [Q.out.2.1]; exact hlt)
   rcases HA.out with h0 | ⟨g, rfl, hg, hc⟩
   ·omega
   have c0 := hc k x hx
   have hx64 : x < 64 := MM.units_lt (List.mem_of_getElem? hx)
   have hHx := hH.out x hx64 w1
   have t0 : decide (k < n) = true := decide_eq_true hlt
   cases hbt : b.testBit x
   all_goals
    rw [hbt] at hHx
    have HHx := Lib.hid hHx
    clear hHx
   ·have N := Lib.hid (all_next (p := fun k => !b.testBit k) hx hall.out (by simp [hbt]))
    clear hx hc hbt
    go_wp2_with (go_at_call 175; refine HHx.out.mono ?_; rintro e w' ⟨rfl, rfl⟩)
    go_round
    case rel => exact ⟨k + 1, by go_num, by omega, N⟩
    case measure => simp [intOf]; omega
   ·have eR : R = false := by rw [Q.out.1]; exact all_no (p := fun k => !b.testBit k) hx (by simp [hbt])
    subst eR
    clear hx hc hbt
    go_wp2_with (go_at_call 175; refine HHx.out.mono ?_; rintro e w' ⟨rfl, rfl⟩)
    go_ret
    exact ⟨rfl, HB.out⟩
  ·obtain rfl : k = n := by omega
   have eR : R = true := by
    rw [Q.out.1]
    have e := hall.out
    rw [← Q.out.2.1] at e
    exact all_end e
   subst eR
   clear hlt
   go_wp2
   go_ret
   exact ⟨rfl, HB.out⟩
end Go.Proofs.YtgpfmlidchogcaaGreat

namespace Go.Proofs.YtgpfmlidchogcaaGreat
open Go.RowKit

def TakenAt (w : World) (tk : Nat) (ts : List Fr) : Prop := ∃ cur, w.heap[tk]? = some (.cells cur 144 (0, 0)) ∧ ∀ (j : Nat) v, (ts.flatMap frC)[j]? = some v → cur[j]? = some v
def boolBlk (dr : List Bool) : Obj := .cells (dr.map Value.bool).toArray 4 (0, 0)
def DrBlk (w : World) (db : Nat) (dr : List Bool) : Prop := ∃ cur, w.heap[db]? = some (.cells cur 4 (0, 0)) ∧ ∀ (j : Nat) v, (dr.map Value.bool)[j]? = some v → cur[j]? = some v
theorem DrBlk.of_eq {w : World} {db : Nat} {dr : List Bool} (h : w.heap[db]? = some (boolBlk dr)) : DrBlk w db dr := ⟨_, h, fun j v hj => by simpa using hj⟩
theorem DrBlk.of_block {w w' : World} {db : Nat} {dr : List Bool} (h : DrBlk w db dr) (e : w'.heap[db]? = w.heap[db]?) : DrBlk w' db dr := by
 obtain ⟨cur, h1, h2⟩ := h
 exact ⟨cur, e.trans h1, h2⟩
theorem DrBlk.lt {w : World} {db : Nat} {dr : List Bool} (h : DrBlk w db dr) : db < w.heap.size := by
 obtain ⟨cur, h1, _⟩ := h
 exact blk_lt h1
theorem DrBlk.set {w : World} {db : Nat} {dr : List Bool} (h : DrBlk w db dr) (k : Nat) (b : Bool) : DrBlk (w.setCell ⟨db, k, none⟩ (.bool b)) db (dr.set k b) := by
 obtain ⟨cur, h1, h2⟩ := h
 refine ⟨_, blk_put _ h1, fun j v hj => ?_⟩
 rw [List.map_set] at hj
 by_cases e : k = j
 ·subst e
  have hk : k < (dr.map Value.bool).length := by have := (List.getElem?_eq_some_iff.1 hj).1; rwa [List.length_set] at this
  rw [List.getElem?_set_self hk] at hj
  obtain ⟨u, hu⟩ := get_lt hk
  rw [Array.getElem?_setIfInBounds_self_of_lt (Array.getElem?_eq_some_iff.1 (h2 k u hu)).1]
  exact hj
 ·rw [List.getElem?_set_ne e] at hj
  rw [Array.getElem?_setIfInBounds_ne e]
  exact h2 j v hj
structure RefAt (w : World) (q al tk db ca ct cd : Nat) (fs ts : List Fr) (dr : List Bool) : Prop where
 ok : FsOk fs dr.length
 inv : PM.Inv fs ts
 blk : w.heap[q]? = some (.cells #[.slice (some ⟨al, 0, none⟩) fs.length ca, .slice (some ⟨tk, 0, none⟩) fs.length ct, .slice (some ⟨db, 0, none⟩) dr.length cd] 121 (0, 0))
 all : ∀ (i : Nat) (f : Fr), fs[i]? = some f → FrAt w al (i * 4) f
 taken : TakenAt w tk ts
 drained : DrBlk w db dr
 ne : q ≠ al ∧ q ≠ tk ∧ q ≠ db ∧ al ≠ tk ∧ al ≠ db ∧ tk ≠ db
section
variable {w w' : World} {q al tk db ca ct cd : Nat} {fs ts : List Fr} {dr : List Bool}
theorem TakenAt.at_ (h : TakenAt w tk ts) {i : Nat} {t : Fr} (ht : ts[i]? = some t) : FrAt w tk (i * 4) t := by
 obtain ⟨cur, h1, h2⟩ := h
 have hc : ∀ r u, r < 4 → (frC t)[r]? = some u → w.cell? ⟨tk, i * 4 + r, none⟩ = some u := fun r u hr hu => cell_blk h1 (h2 _ _ (by rw [flat_at ht hr, hu]))
 exact ⟨hc 0 _ (by omega) rfl, hc 1 _ (by omega) rfl, hc 2 _ (by omega) rfl, hc 3 _ (by omega) rfl⟩
theorem RefAt.lt (h : RefAt w q al tk db ca ct cd fs ts dr) : q < w.heap.size ∧ al < w.heap.size ∧ tk < w.heap.size ∧ db < w.heap.size := by
 obtain ⟨f, hf⟩ := get_lt (l := fs) (k := 0) h.ok.pos
 obtain ⟨cur, h1, _⟩ := h.taken
 exact ⟨blk_lt h.blk, lt_of_cell (h.all 0 f hf).1, blk_lt h1, h.drained.lt⟩
theorem RefAt.off (h : RefAt w q al tk db ca ct cd fs ts dr) (hk : ∀ i, i < w.heap.size → (i = q ∨ i = al ∨ i = tk ∨ i = db) → w'.heap[i]? = w.heap[i]?) : RefAt w' q al tk db ca ct cd fs ts dr := by
 obtain ⟨l1, l2, l3, l4⟩ := h.lt
 obtain ⟨cur, h1, h2⟩ := h.taken
 exact ⟨h.ok, h.inv, (hk q l1 (.inl rfl)).trans h.blk, fun i f hf => (h.all i f hf).of (hk al l2 (.inr (.inl rfl))), ⟨cur, (hk tk l3 (.inr (.inr (.inl rfl)))).trans h1, h2⟩, h.drained.of_block (hk db l4 (.inr (.inr (.inr rfl)))), h.ne⟩
theorem RefAt.keep (h : RefAt w q al tk db ca ct cd fs ts dr) (hk : Below w.heap.size w w') : RefAt w' q al tk db ca ct cd fs ts dr := h.off fun i hi _ => hk.block i hi
theorem RefAt.foot {F : Nat → Prop} (h : RefAt w q al tk db ca ct cd fs ts dr) (hk : Foot F w w') (hF : ∀ i, F i → i ≠ q ∧ i ≠ al ∧ i ≠ tk ∧ i ≠ db) : RefAt w' q al tk db ca ct cd fs ts dr := h.off fun i hi ht => hk.block i hi fun hf => by
 obtain ⟨a, b, c, d⟩ := hF i hf
 rcases ht with e | e | e | e
 ·exact a e
 ·exact b e
 ·exact c e
 ·exact d e
theorem RefAt.heads (h : RefAt w q al tk db ca ct cd fs ts dr) : w.cell? ⟨q, 0, none⟩ = some (.slice (some ⟨al, 0, none⟩) fs.length ca) ∧ w.cell? ⟨q, 1, none⟩ = some (.slice (some ⟨tk, 0, none⟩) fs.length ct) ∧ w.cell? ⟨q, 2, none⟩ = some (.slice (some ⟨db, 0, none⟩) dr.length cd) :=
 ⟨cell_blk (i := 0) h.blk rfl, cell_blk (i := 1) h.blk rfl, cell_blk (i := 2) h.blk rfl⟩
theorem RefAt.bit (h : RefAt w q al tk db ca ct cd fs ts dr) {k : Nat} {b : Bool} (hk : dr[k]? = some b) : w.cell? ⟨db, k, none⟩ = some (.bool b) ∧ w.frozen? ⟨db, k, none⟩ = false := by
 obtain ⟨cur, h1, h2⟩ := h.drained
 exact ⟨cell_blk h1 (h2 k _ (by simp [hk])), frozen_blk h1⟩
end
/-! ### spot -/
def spotN (x y : Int) (fs : List Fr) : Int := match PM.find x y fs with
 | some k => (k : Int)
 | none => -1
theorem find_first : ∀ {x y : Int} {l : List Fr} {k : Nat} {f : Fr}, (l.take k).all (fun f => !PM.isAt x y f) = true → l[k]? = some f → PM.isAt x y f = true → PM.find x y l = some k
 | x, y, [], k, f, _, h, _ => by simp at h
 | x, y, g :: l, 0, f, _, h, h1 => by
  simp at h; subst h
  unfold PM.find; rw [if_pos h1]
 | x, y, g :: l, k + 1, f, ha, h, h1 => by
  rw [List.take_succ_cons, List.all_cons, Bool.and_eq_true] at ha
  unfold PM.find
  rw [if_neg (by simpa using ha.1), find_first ha.2 (by simpa using h) h1]
  rfl
theorem find_none : ∀ {x y : Int} {l : List Fr}, l.all (fun f => !PM.isAt x y f) = true → PM.find x y l = none
 | x, y, [], _ => rfl
 | x, y, g :: l, ha => by
  rw [List.all_cons, Bool.and_eq_true] at ha
  unfold PM.find
  rw [if_neg (by simpa using ha.1), find_none ha.2]
  rfl
set_option maxRecDepth 100000 in
theorem spot_eql (a b x y : Int) (W : World) : (binOp .eql 38 (.agg #[.int .i64 a, .int .i64 b]) (.agg #[.int .i64 x, .int .i64 y])).run Tryz.prog W = .ok (.bool (a == x && b == y)) W := by
 go_simp
 by_cases h1 : a = x <;> by_cases h2 : b = y <;> simp [h1, h2]
set_option maxRecDepth 100000 in
set_option maxHeartbeats 1000000 in
theorem refspot_any (q al tk db ca ct cd : Nat) (fs ts : List Fr) (dr : List Bool) (x y : Int) (w : World) (h : RefAt w q al tk db ca ct cd fs ts dr) :
  Calls Tryz.prog 172 #[.pointer (some ⟨q, 0, none⟩), .agg #[.int .i64 x, .int .i64 y]] w fun e w' => e = .returned (.int .i64 (spotN x y fs)) ∧ Below w.heap.size w w' := by
 obtain ⟨R, hR⟩ : ∃ R, R = spotN x y fs := ⟨_, rfl⟩
 rw [← hR]
 have hB1 := (Below.refl w.heap.size w).alloc (Nat.le_refl _) (.cells #[.int .i64 x, .int .i64 y] 38)
 have bS := heap_alloc_new w (.cells #[.int .i64 x, .int .i64 y] 38)
 obtain ⟨l1, l2, l3, l4⟩ := h.lt
 obtain ⟨n, hn⟩ : ∃ n, fs.length = n := ⟨_, rfl⟩
 have hfew : n ≤ 1000 := by rw [← hn]; exact h.ok.few
 obtain ⟨c0, _, _⟩ := h.heads
 rw [hn] at c0
 have Q := Lib.hid (And.intro hR (And.intro hn h.all))
 clear hR hn h
 go_enter Tryz.func172, Tryz.ntmps172
 go_wp2
 obtain ⟨W, hW⟩ : ∃ W, W = w.alloc (.cells #[.int .i64 x, .int .i64 y] 38) := ⟨_, rfl⟩
 rw [← hW] at hB1 bS ⊢
 have hlW : w.heap.size < W.heap.size := by rw [hW]; simp
 have HB := Lib.hid (And.intro hB1 (And.intro bS c0))
 clear hW hB1 bS c0
 go_loopw [5] (fun i wr => ∃ k : Nat, i = .int .i64 k ∧ k ≤ n ∧ Below W.heap.size W wr ∧ Hid ((fs.take k).all (fun f => !PM.isAt x y f) = true)) (fun i _ => n - (intOf i).toNat)
 case atStart => exact ⟨0, rfl, by omega, Below.refl _ _, Lib.hid rfl⟩
 case round =>
  obtain ⟨k, rfl, hk, hBl, hall⟩ := hrel
  have hBw := HB.out.1.trans (hBl.mono (show w.heap.size ≤ W.heap.size by omega))
  have c0 := (hBw.cell (p := ⟨q, 0, none⟩) l1).trans HB.out.2.2
  by_cases hlt : k < n
  ·obtain ⟨f, hx⟩ := get_lt (l := fs) (k := k) (by rw [Q.out.2.1]; exact hlt)
   obtain ⟨f0, f1, _, _⟩ := (Q.out.2.2 k f hx).keep l2 hBw
   have hbs := (hBl.block _ hlW).trans HB.out.2.1
   have s0 : wr.cell? ⟨w.heap.size, 0, none⟩ = some (.int .i64 x) := cell_blk (i := 0) hbs rfl
   have s1 : wr.cell? ⟨w.heap.size, 1, none⟩ = some (.int .i64 y) := cell_blk (i := 1) hbs rfl
   have t0 : decide (k < n) = true := decide_eq_true hlt
   cases hat : PM.isAt x y f
   ·have N := Lib.hid (all_next (p := fun f => !PM.isAt x y f) hx hall.out (by simp [hat]))
    have hc : ∀ W : World, (binOp .eql 38 (.agg #[.int .i64 (f.n : Nat), .int .i64 (f.d : Nat)]) (.agg #[.int .i64 x, .int .i64 y])).run Tryz.prog W = .ok (.bool false) W := fun W => by
     have h : (((f.n : Int) == x) && ((f.d : Int) == y)) = false := by simpa [PM.isAt, Bool.and_eq_false_iff] using hat
     rw [spot_eql, h]
    have HBl := Lib.hid hBl
    clear hx hat hbs hBw hBl
    go_wp2
    go_quiet (fail)
    go_wp2
    go_roundw
    case rel => exact ⟨k + 1, by go_num, by omega, below_drewN HBl.out _, N⟩
    case measure => simp [intOf]; omega
   ·have eR : R = (k : Int) := by rw [Q.out.1]; unfold spotN; rw [find_first hall.out hx hat]
    subst eR
    have hc : ∀ W : World, (binOp .eql 38 (.agg #[.int .i64 (f.n : Nat), .int .i64 (f.d : Nat)]) (.agg #[.int .i64 x, .int .i64 y])).run Tryz.prog W = .ok (.bool true) W := fun W => by
     have h : (((f.n : Int) == x) && ((f.d : Int) == y)) = true := by simpa [PM.isAt] using hat
     rw [spot_eql, h]
    have HBw := Lib.hid hBw
    clear hx hat hbs hBw hBl
    go_wp2
    go_quiet (fail)
    go_wp2
    go_ret
    exact ⟨rfl, below_drewN HBw.out _⟩
  ·obtain rfl : k = n := by omega
   have eR : R = -1 := by
    have e := hall.out
    rw [← Q.out.2.1] at e
    rw [Q.out.1]; unfold spotN; rw [find_none (all_end e)]
   subst eR
   have HBw := Lib.hid hBw
   clear hlt hBw
   go_wp2
   go_ret
   exact ⟨rfl, HBw.out⟩
end Go.Proofs.YtgpfmlidchogcaaGreat

namespace Go.Proofs.YtgpfmlidchogcaaGreat
open Go.RowKit

theorem RefAt.turned {w : World} {q al tk db ca ct cd k : Nat} {fs ts : List Fr} {dr : List Bool} (b : Bool) (h : RefAt w q al tk db ca ct cd fs ts dr) :
  RefAt (w.setCell ⟨db, k, none⟩ (.bool b)) q al tk db ca ct cd fs ts (dr.set k b) ∧ Foot (· = db) w (w.setCell ⟨db, k, none⟩ (.bool b)) := by
 have hf : Foot (· = db) w (w.setCell ⟨db, k, none⟩ (.bool b)) := by refine Foot.setCell (F := (· = db)) (p := ⟨db, k, none⟩) (Foot.refl _ _) (.inl ?_) _; rfl
 obtain ⟨l1, l2, l3, l4⟩ := h.lt
 obtain ⟨n1, n2, n3, n4, n5, n6⟩ := h.ne
 obtain ⟨cur, h1, h2⟩ := h.taken
 refine ⟨⟨by rw [List.length_set]; exact h.ok, h.inv, ?_, fun i f hfi => (h.all i f hfi).of (hf.block al l2 n5), ⟨cur, (hf.block tk l3 n6).trans h1, h2⟩, ?_, h.ne⟩, hf⟩
 ·rw [List.length_set]; exact (hf.block q l1 n3).trans h.blk
 ·exact h.drained.set k b
set_option maxHeartbeats 1000000 in
theorem refturn_any (q al tk db ca ct cd : Nat) (fs ts : List Fr) (dr : List Bool) (x : Int) (to : Bool) (w : World) (h : RefAt w q al tk db ca ct cd fs ts dr) :
  Calls Tryz.prog 79 #[.pointer (some ⟨q, 0, none⟩), .int .i64 x, .bool to] w fun e w' => e = .returned (.int .i64 (turn dr x to).1) ∧ RefAt w' q al tk db ca ct cd fs ts (turn dr x to).2 ∧ Foot (· = db) w w' := by
 obtain ⟨_, _, c2⟩ := h.heads
 have hnod := h.ok.nodes
 have HR := Lib.hid h
 unfold turn
 obtain ⟨k, hk⟩ : ∃ k, k = dr.length := ⟨_, rfl⟩
 rw [← hk] at c2 hnod ⊢
 by_cases h0 : x < 0 ∨ (k : Int) ≤ x
 ·rw [if_pos h0]
  by_cases hx : x < 0
  ·have t0 : decide (x < 0) = true := decide_eq_true hx
   clear h h0 hk hx
   go_enter Tryz.func79, Tryz.ntmps79
   go_wp2
   go_ret
   exact ⟨rfl, HR.out, Foot.refl _ _⟩
  ·have t0 : decide (x < 0) = false := decide_eq_false hx
   have t1 : decide ((k : Int) ≤ x) = true := decide_eq_true (by omega)
   clear h h0 hk hx
   go_enter Tryz.func79, Tryz.ntmps79
   go_wp2
   go_ret
   exact ⟨rfl, HR.out, Foot.refl _ _⟩
 rw [if_neg h0]
 obtain ⟨j, rfl⟩ : ∃ j : Nat, x = j := ⟨x.toNat, by omega⟩
 have hjk : j < k := by omega
 have t0 : decide ((j : Int) < 0) = false := decide_eq_false (by omega)
 have t1 : decide (k ≤ j) = false := decide_eq_false (by omega)
 rw [isDr_nat]
 obtain ⟨b, hb⟩ := get_lt (l := dr) (k := j) (by omega)
 rw [hb]
 obtain ⟨y0, y1⟩ := h.bit hb
 have HT := Lib.hid (h.turned (k := j) to)
 clear h h0 hk hb
 cases b <;> cases to
 all_goals
  go_enter Tryz.func79, Tryz.ntmps79
  go_wp2
  go_ret
  first
   | exact ⟨rfl, HR.out, Foot.refl _ _⟩
   | exact ⟨rfl, HT.out.1, HT.out.2⟩
/-! ### one -/
theorem RefAt.wrote {w w1 w' : World} {q al tk db ca ct cd k : Nat} {fs ts : List Fr} {dr : List Bool} {t : Fr} (u : Fr) (M C : Int) (h : RefAt w q al tk db ca ct cd fs ts dr) (ht : ts[k]? = some t) (hn : u.n = t.n ∧ u.d = t.d) (hw : Below w.heap.size w w1) (hi : PM.Inv fs (ts.set k u))
  (hft : Foot (· = tk) w w') (e : w'.heap = ((w1.setCell ⟨tk, k * 4 + 2, none⟩ (.int .u64 M)).setCell ⟨tk, k * 4 + 3, none⟩ (.int .i64 C)).heap) (hM : M = (u.m : Nat)) (hC : C = (u.c : Nat)) : RefAt w' q al tk db ca ct cd fs (ts.set k u) dr := by
 subst hM hC
 obtain ⟨l1, l2, l3, l4⟩ := h.lt
 obtain ⟨n1, n2, n3, n4, n5, n6⟩ := h.ne
 obtain ⟨cur, h1, h2⟩ := h.taken
 refine ⟨h.ok, hi, (hft.block q l1 n2).trans h.blk, fun i f hf => (h.all i f hf).of (hft.block al l2 n4), ?_, h.drained.of_block (hft.block db l4 (Ne.symm n6)), h.ne⟩
 refine ⟨_, by rw [e]; exact blk_put _ (blk_put _ ((hw.block tk l3).trans h1)), fun j v hj => ?_⟩
 have hset := flat_set u.m u.c ht
 rw [← hn.1, ← hn.2] at hset
 rw [show (⟨u.n, u.d, u.m, u.c⟩ : Fr) = u from rfl] at hset
 rw [hset] at hj
 have hkl := (List.getElem?_eq_some_iff.1 ht).1
 have hlen := frC_len ts
 have hsz : k * 4 + 3 < cur.size := by
  have e3 := flat_at ht (show 3 < 4 by omega)
  exact (Array.getElem?_eq_some_iff.1 (h2 _ _ (e3.trans rfl))).1
 by_cases e3 : k * 4 + 3 = j
 ·subst e3
  rw [List.getElem?_set_self (by rw [List.length_set]; omega)] at hj
  rw [Array.getElem?_setIfInBounds_self_of_lt (by simp; omega)]
  exact hj
 ·rw [List.getElem?_set_ne e3] at hj
  rw [Array.getElem?_setIfInBounds_ne e3]
  by_cases e2 : k * 4 + 2 = j
  ·subst e2
   rw [List.getElem?_set_self (by omega)] at hj
   rw [Array.getElem?_setIfInBounds_self_of_lt (by omega)]
   exact hj
  ·rw [List.getElem?_set_ne e2] at hj
   rw [Array.getElem?_setIfInBounds_ne e2]
   exact h2 j v hj
theorem RefAt.cells {w : World} {q al tk db ca ct cd k : Nat} {fs ts : List Fr} {dr : List Bool} {f t : Fr} (h : RefAt w q al tk db ca ct cd fs ts dr) (hf : fs[k]? = some f) (ht : ts[k]? = some t) :
  w.cell? ⟨al, k * 4 + 2, none⟩ = some (.int .u64 (f.m : Nat)) ∧ w.cell? ⟨al, k * 4 + 3, none⟩ = some (.int .i64 (f.c : Nat)) ∧ w.cell? ⟨tk, k * 4 + 2, none⟩ = some (.int .u64 (t.m : Nat)) ∧ w.cell? ⟨tk, k * 4 + 3, none⟩ = some (.int .i64 (t.c : Nat)) ∧ w.frozen? ⟨tk, k * 4 + 2, none⟩ = false ∧ w.frozen? ⟨tk, k * 4 + 3, none⟩ = false := by
 obtain ⟨_, _, a2, a3⟩ := h.all k f hf
 obtain ⟨_, _, b2, b3⟩ := h.taken.at_ ht
 obtain ⟨cur, h1, _⟩ := h.taken
 exact ⟨a2, a3, b2, b3, frozen_blk h1, frozen_blk h1⟩
end Go.Proofs.YtgpfmlidchogcaaGreat

namespace Go.Proofs.YtgpfmlidchogcaaGreat
open Go.RowKit

set_option maxRecDepth 100000 in
set_option maxHeartbeats 4000000 in
theorem refgive (q al tk db ca ct cd : Nat) (fs ts : List Fr) (dr : List Bool) (s : PM.Sl) (w : World) (h : RefAt w q al tk db ca ct cd fs ts dr) (hs : SlOk s) :
  Calls Tryz.prog 141 #[.pointer (some ⟨q, 0, none⟩), .bool true, slV s] w fun e w' => e = .returned (.int .i64 (PM.one fs dr true s ts).1) ∧ RefAt w' q al tk db ca ct cd fs (PM.one fs dr true s ts).2 dr ∧ Foot (· = tk) w w' := by
 obtain ⟨R, hR⟩ : ∃ R, R = PM.one fs dr true s ts := ⟨_, rfl⟩
 rw [← hR]
 have HP := Lib.hid h
 have hB1 := (Below.refl w.heap.size w).alloc (Nat.le_refl _) (.cells #[.int .i64 s.n, .int .i64 s.d, .int .u64 (s.m : Nat), .int .i64 s.c] 41)
 have HB := Lib.hid hB1
 have kc := bounds_i64 hs.c
 by_cases h0 : s.c < 0
 ·have e : R = (1, ts) := by rw [hR]; unfold PM.one; rw [if_pos h0]
  subst e
  clear hR h hs hB1
  obtain ⟨x, y, m, c⟩ := s
  simp only [slV] at *
  have t0 : decide (c < 0) = true := decide_eq_true h0
  go_enter Tryz.func141, Tryz.ntmps141
  go_wp2
  go_ret
  exact ⟨rfl, HP.out.keep HB.out, Foot.of_below HB.out⟩
 have hSp := refspot_any q al tk db ca ct cd fs ts dr s.n s.d _ (h.keep hB1)
 have bS := heap_alloc_new w (.cells #[.int .i64 s.n, .int .i64 s.d, .int .u64 (s.m : Nat), .int .i64 s.c] 41)
 cases hk : PM.find s.n s.d fs with
 | none =>
  have e : R = (3, ts) := by rw [hR]; unfold PM.one; rw [if_neg h0]; simp only [hk]
  subst e
  have eS : spotN s.n s.d fs = -1 := by unfold spotN; rw [hk]
  rw [eS] at hSp
  have HSp := Lib.hid hSp
  clear hR h hs hB1 hSp bS hk eS
  obtain ⟨x, y, m, c⟩ := s
  simp only [slV] at *
  have t0 : decide (c < 0) = false := decide_eq_false h0
  go_enter Tryz.func141, Tryz.ntmps141
  go_wp2_with (go_at_call 172; refine HSp.out.mono ?_; rintro e w1 ⟨rfl, hb1⟩)
  go_ret
  have hB9 := below_step HB.out hb1
  exact ⟨rfl, HP.out.keep hB9, Foot.of_below hB9⟩
 | some k =>
  obtain ⟨f, hf, hfn, hfd⟩ := PM.find_hit hk
  obtain ⟨t, ht⟩ := get_lt (l := ts) (k := k) (by rw [h.inv.1]; exact (List.getElem?_eq_some_iff.1 hf).1)
  have eS : spotN s.n s.d fs = (k : Int) := by unfold spotN; rw [hk]
  rw [eS] at hSp
  obtain ⟨i1, i2, i3, i4⟩ := h.inv.2 k f t hf ht
  obtain ⟨k1, k2⟩ := h.ok.ok f (List.mem_of_getElem? hf)
  have k3 : t.m < 18446744073709551616 := by rw [← i3]; exact Nat.lt_of_le_of_lt Nat.and_le_right k1
  have ks := hs.m
  have hkn : k < fs.length := (List.getElem?_eq_some_iff.1 hf).1
  have hfew := h.ok.few
  have hnd := h.ok.node f (List.mem_of_getElem? hf)
  have hnods := h.ok.nodes
  have hlt := h.lt
  have HSp := Lib.hid hSp
  obtain ⟨bd, hbd⟩ := get_lt (l := dr) (k := f.n) hnd
  have hone : R = if s.m &&& f.m ≠ s.m then (3, ts) else if s.m &&& t.m ≠ s.m ∨ (t.c : Int) < s.c then (4, ts) else (0, ts.set k (PM.down t s)) := by
   rw [hR]; unfold PM.one
   rw [if_neg h0]
   simp only [hk, hf, ht, if_true]
   rfl
  have HR := Lib.hid hone
  have HI := Lib.hid (And.intro hf (And.intro ht (And.intro hfn (And.intro hk (And.intro (Int.not_lt.1 h0) (And.intro i3 hbd))))))
  have HbS := Lib.hid bS
  have t0 : decide (s.c < 0) = false := decide_eq_false h0
  have tk0 : decide ((k : Int) < 0) = false := decide_eq_false (by omega)
  obtain ⟨n, hn⟩ : ∃ n, n = fs.length := ⟨_, rfl⟩
  obtain ⟨kd, hkd⟩ : ∃ kd, kd = dr.length := ⟨_, rfl⟩
  have Hn := Lib.hid (And.intro hn hkd)
  rw [← hn] at hkn hfew
  rw [← hkd] at hnd hnods
  clear hone hR h hs hB1 hSp bS hk eS hf ht i1 i2 i3 hfd hbd hn hkd h0
  obtain ⟨x, y, m, c⟩ := s
  simp only [slV] at *
  obtain rfl := hfn
  go_enter Tryz.func141, Tryz.ntmps141
  go_wp2_with (go_at_call 172; refine HSp.out.mono ?_; rintro e w1 ⟨rfl, hb1⟩; have hB9 := below_step HB.out hb1; have hR9 := HP.out.keep hB9; obtain ⟨h90, h91, h92⟩ := hR9.heads; rw [← Hn.out.1] at h90 h91; rw [← Hn.out.2] at h92; have bS9 := (hb1.block w.heap.size (by simp)).trans HbS.out; have s2 : w1.cell? ⟨w.heap.size, 2, none⟩ = some (.int .u64 (m : Nat)) := cell_blk (i := 2) bS9 rfl; have s3 : w1.cell? ⟨w.heap.size, 3, none⟩ = some (.int .i64 c) := cell_blk (i := 3) bS9 rfl; have s0 : w1.cell? ⟨w.heap.size, 0, none⟩ = some (.int .i64 (f.n : Nat)) := cell_blk (i := 0) bS9 rfl; obtain ⟨a2, a3, b2, b3, z2, z3⟩ := hR9.cells HI.out.1 HI.out.2.1)
  have hlw1 : w.heap.size < w1.heap.size := by have := hb1.size; simp at this; omega
  have HK := Lib.hid (fun (W : World) (hW : Below w1.heap.size w1 W) => And.intro (hR9.keep hW) ((hW.block w.heap.size hlw1).trans bS9))
  have HB9 := Lib.hid hB9
  have hl9 := hR9.lt
  have yd := (hR9.bit HI.out.2.2.2.2.2.2).1
  clear hB9 hb1 hR9 bS9
  have hw2 := refwithin_any m f.m ks k1 w1.drew
  go_still_tail 10, (by kernel_rfl)
  change wpList _ _ _ _ _ w1.drew
  by_cases hm : m &&& f.m = m
  ·rw [decide_eq_true hm] at hw2
   have HW2 := Lib.hid hw2
   clear hw2
   go_wp2_with fail
   refine HW2.out.mono ?_
   rintro e w2 ⟨rfl, hb2⟩
   have hBw2 : Below w1.heap.size w1 w2 := below_step (Below.refl w1.heap.size w1).drew hb2
   have HBW := Lib.hid hBw2
   have hl2 := hBw2.size
   have hR0 := HR.out
   rw [if_neg (fun h => h hm)] at hR0
   clear hb2 hBw2 h90 h91 h92 s2 s3 s0 a2 a3 b2 b3 z2 z3 yd
   obtain ⟨rK, bK⟩ := HK.out w2 HBW.out
   obtain ⟨h90, h91, h92⟩ := rK.heads
   rw [← Hn.out.1] at h90 h91
   rw [← Hn.out.2] at h92
   have s2 : w2.cell? ⟨w.heap.size, 2, none⟩ = some (.int .u64 (m : Nat)) := cell_blk (i := 2) bK rfl
   have s3 : w2.cell? ⟨w.heap.size, 3, none⟩ = some (.int .i64 c) := cell_blk (i := 3) bK rfl
   have s0 : w2.cell? ⟨w.heap.size, 0, none⟩ = some (.int .i64 (f.n : Nat)) := cell_blk (i := 0) bK rfl
   obtain ⟨a2, a3, b2, b3, z2, z3⟩ := rK.cells HI.out.1 HI.out.2.1
   have yd := (rK.bit HI.out.2.2.2.2.2.2).1
   clear rK bK
   by_cases htm : m &&& t.m = m
   ·have hw3 := fun W => refwithin_any m t.m ks k3 W
    rw [decide_eq_true htm] at hw3
    have HW3 := Lib.hid hw3
    have htl : m ≤ t.m := (PM.sub_nat htm).2
    have HmV := Lib.hid (show (t.m : Int) - (m : Int) = ((PM.down t ⟨(f.n : Int), y, m, c⟩).m : Nat) by simp only [PM.down]; have := PM.sub_nat htm; omega)
    by_cases hcc : (t.c : Int) < c
    ·rw [if_pos (.inr hcc)] at hR0
     subst hR0
     have t2 : decide ((t.c : Int) < c) = true := decide_eq_true hcc
     clear hw3 hcc
     go_wp2
     go_region_held3 (fun w' => w'.cell? ⟨w.heap.size, 2, none⟩ = some (.int .u64 (m : Nat)) ∧ w'.cell? ⟨w.heap.size, 3, none⟩ = some (.int .i64 c) ∧ w'.cell? ⟨tk, k * 4 + 2, none⟩ = some (.int .u64 (t.m : Nat)) ∧ w'.cell? ⟨tk, k * 4 + 3, none⟩ = some (.int .i64 (t.c : Nat)) ∧ w'.cell? ⟨al, k * 4 + 2, none⟩ = some (.int .u64 (f.m : Nat)) ∧ w'.cell? ⟨al, k * 4 + 3, none⟩ = some (.int .i64 (f.c : Nat)) ∧ w'.cell? ⟨q, 0, none⟩ = some (.slice (some ⟨al, 0, none⟩) n ca))
      (go_keep)
      (first
       | (go_at_call 173; ((with_reducible refine (HW3.out w2.drew).mono ?_); rintro e w3 ⟨rfl, hb3⟩); have hB23 : Below w2.heap.size w2 w3 := below_step (Below.refl w2.heap.size w2).drew hb3; have HB3 := Lib.hid (HBW.out.trans (hB23.mono hl2)); have v0 := (hB23.cell (p := ⟨w.heap.size, 2, none⟩) (show w.heap.size < _ by omega)).trans s2; have v1 := (hB23.cell (p := ⟨w.heap.size, 3, none⟩) (show w.heap.size < _ by omega)).trans s3; have v2 := (hB23.cell (p := ⟨tk, k * 4 + 2, none⟩) (show tk < _ by omega)).trans b2; have v3 := (hB23.cell (p := ⟨tk, k * 4 + 3, none⟩) (show tk < _ by omega)).trans b3; have v4 := (hB23.cell (p := ⟨al, k * 4 + 2, none⟩) (show al < _ by omega)).trans a2; have v5 := (hB23.cell (p := ⟨al, k * 4 + 3, none⟩) (show al < _ by omega)).trans a3; have v6 := (hB23.cell (p := ⟨q, 0, none⟩) (show q < _ by omega)).trans h90))

     go_wp2
     go_ret
     exact ⟨rfl, HP.out.keep (HB9.out.trans (HB3.out.mono HB9.out.size)), Foot.of_below (HB9.out.trans (HB3.out.mono HB9.out.size))⟩
    ·have t2 : decide ((t.c : Int) < c) = false := decide_eq_false hcc
     have hce : c ≤ (t.c : Int) := by omega
     have hc0 := HI.out.2.2.2.2.1
     have Hi := Lib.hid (show PM.Inv fs (ts.set k (PM.down t ⟨(f.n : Int), y, m, c⟩)) by
      have hu := PM.one_inv (dr := []) (give := true) (s := ⟨(f.n : Int), y, m, c⟩) HP.out.inv
      rwa [(PM.Gives.mk hc0 HI.out.2.2.2.1 HI.out.1 HI.out.2.1 hm htm hce : PM.Gives fs ⟨(f.n : Int), y, m, c⟩ k f t ts).eq] at hu)
     rw [if_neg (by rintro (h | h); exact h htm; exact hcc h)] at hR0
     subst hR0
     clear hw3 hcc htm hm
     go_wp2
     go_region_held3 (fun w' => w'.cell? ⟨w.heap.size, 2, none⟩ = some (.int .u64 (m : Nat)) ∧ w'.cell? ⟨w.heap.size, 3, none⟩ = some (.int .i64 c) ∧ w'.cell? ⟨tk, k * 4 + 2, none⟩ = some (.int .u64 (t.m : Nat)) ∧ w'.cell? ⟨tk, k * 4 + 3, none⟩ = some (.int .i64 (t.c : Nat)) ∧ w'.cell? ⟨al, k * 4 + 2, none⟩ = some (.int .u64 (f.m : Nat)) ∧ w'.cell? ⟨al, k * 4 + 3, none⟩ = some (.int .i64 (f.c : Nat)) ∧ w'.cell? ⟨q, 0, none⟩ = some (.slice (some ⟨al, 0, none⟩) n ca))
      (go_keep)
      (first
       | (go_at_call 173; ((with_reducible refine (HW3.out w2.drew).mono ?_); rintro e w3 ⟨rfl, hb3⟩); have hB23 : Below w2.heap.size w2 w3 := below_step (Below.refl w2.heap.size w2).drew hb3; have HB3 := Lib.hid (HBW.out.trans (hB23.mono hl2)); have v0 := (hB23.cell (p := ⟨w.heap.size, 2, none⟩) (show w.heap.size < _ by omega)).trans s2; have v1 := (hB23.cell (p := ⟨w.heap.size, 3, none⟩) (show w.heap.size < _ by omega)).trans s3; have v2 := (hB23.cell (p := ⟨tk, k * 4 + 2, none⟩) (show tk < _ by omega)).trans b2; have v3 := (hB23.cell (p := ⟨tk, k * 4 + 3, none⟩) (show tk < _ by omega)).trans b3; have v4 := (hB23.cell (p := ⟨al, k * 4 + 2, none⟩) (show al < _ by omega)).trans a2; have v5 := (hB23.cell (p := ⟨al, k * 4 + 3, none⟩) (show al < _ by omega)).trans a3; have v6 := (hB23.cell (p := ⟨q, 0, none⟩) (show q < _ by omega)).trans h90))

     have HBW3 := HB3
     clear HBW
     have HBW := HBW3
     have hl3 := HBW.out.size
     clear h90 h91 h92 s2 s3 s0 a2 a3 b2 b3 z2 z3 yd v0 v1 v2 v3 v4 v5 v6 hB23 hb3
     obtain ⟨rK, bK⟩ := HK.out w3 HBW.out
     obtain ⟨h90, h91, h92⟩ := rK.heads
     rw [← Hn.out.1] at h90 h91
     rw [← Hn.out.2] at h92
     have s2 : w3.cell? ⟨w.heap.size, 2, none⟩ = some (.int .u64 (m : Nat)) := cell_blk (i := 2) bK rfl
     have s3 : w3.cell? ⟨w.heap.size, 3, none⟩ = some (.int .i64 c) := cell_blk (i := 3) bK rfl
     have s0 : w3.cell? ⟨w.heap.size, 0, none⟩ = some (.int .i64 (f.n : Nat)) := cell_blk (i := 0) bK rfl
     obtain ⟨a2, a3, b2, b3, z2, z3⟩ := rK.cells HI.out.1 HI.out.2.1
     have yd := (rK.bit HI.out.2.2.2.2.2.2).1
     clear rK bK
     go_wp2
     go_still_tail 10, (by kernel_rfl)
     change wpList _ _ _ _ _ w3.drew
     go_wp2
     obtain ⟨W5, hW5⟩ : ∃ W5, W5 = (w3.setCell ⟨tk, k * 4 + 2, none⟩ (.int .u64 ((t.m : Int) - (m : Int)))).drew := ⟨_, rfl⟩
     have q3 : W5.cell? ⟨tk, k * 4 + 3, none⟩ = some (.int .i64 (t.c : Nat)) := by rw [hW5]; go_simp
     have r3 : W5.frozen? ⟨tk, k * 4 + 3, none⟩ = false := by rw [hW5]; go_simp
     have p3 : W5.cell? ⟨w.heap.size, 3, none⟩ = some (.int .i64 c) := by rw [hW5]; go_simp
     rw [← hW5]
     have HW5 := Lib.hid hW5
     clear hW5
     clear h90 h91 h92 s2 s3 s0 a2 a3 b2 b3 z2 z3 yd
     go_still_tail 10, (by kernel_rfl)
     change wpList _ _ _ _ _ W5.drew
     go_wp2
     go_ret
     have hBW := HB9.out.trans (HBW.out.mono HB9.out.size)
     have hft : Foot (· = tk) w (W5.setCell ⟨tk, k * 4 + 3, none⟩ (.int .i64 ((t.c : Int) - c))).drew := by
      rw [HW5.out]
      refine (Foot.setCell (p := ⟨tk, _, none⟩) (Foot.setCell (p := ⟨tk, _, none⟩) (Foot.of_below hBW) (.inl ?_) _).drew (.inl ?_) _).drew <;> rfl
     exact ⟨rfl, HP.out.wrote (PM.down t ⟨(f.n : Int), y, m, c⟩) _ _ HI.out.2.1 ⟨rfl, rfl⟩ hBW Hi.out hft (by rw [HW5.out]; rfl) HmV.out (by simp only [PM.down]; omega), hft⟩
   ·have hw3 := fun W => refwithin_any m t.m ks k3 W
    rw [decide_eq_false htm] at hw3
    have HW3 := Lib.hid hw3
    rw [if_pos (.inl htm)] at hR0
    subst hR0
    clear hw3 htm hm
    go_wp2
    refine held_begin (fun w' : World => w'.cell? ⟨w.heap.size, 2, none⟩ = some (.int .u64 (m : Nat)) ∧ w'.cell? ⟨w.heap.size, 3, none⟩ = some (.int .i64 c) ∧ w'.cell? ⟨tk, k * 4 + 2, none⟩ = some (.int .u64 (t.m : Nat)) ∧ w'.cell? ⟨tk, k * 4 + 3, none⟩ = some (.int .i64 (t.c : Nat)) ∧ w'.cell? ⟨al, k * 4 + 2, none⟩ = some (.int .u64 (f.m : Nat)) ∧ w'.cell? ⟨al, k * 4 + 3, none⟩ = some (.int .i64 (f.c : Nat)) ∧ w'.cell? ⟨q, 0, none⟩ = some (.slice (some ⟨al, 0, none⟩) n ca)) (by kernel_rfl) ?_
    have hS0 : (fun w' : World => w'.cell? ⟨w.heap.size, 2, none⟩ = some (.int .u64 (m : Nat)) ∧ w'.cell? ⟨w.heap.size, 3, none⟩ = some (.int .i64 c) ∧ w'.cell? ⟨tk, k * 4 + 2, none⟩ = some (.int .u64 (t.m : Nat)) ∧ w'.cell? ⟨tk, k * 4 + 3, none⟩ = some (.int .i64 (t.c : Nat)) ∧ w'.cell? ⟨al, k * 4 + 2, none⟩ = some (.int .u64 (f.m : Nat)) ∧ w'.cell? ⟨al, k * 4 + 3, none⟩ = some (.int .i64 (f.c : Nat)) ∧ w'.cell? ⟨q, 0, none⟩ = some (.slice (some ⟨al, 0, none⟩) n ca)) w2.drew := ⟨s2, s3, b2, b3, a2, a3, h90⟩
    refine held_takeK (v := ?_) 0 37 rfl rfl ⟨by rfl, ?_⟩ hS0 ?_
    rotate_left
    ·intro w' hw'; obtain ⟨x0, x1, x2, x3, x4, x5, x6⟩ := hw'; go_simp; (try with_reducible rfl)
    simp only [Act.put, pzA, pzB, pzC]
    refine held_takeK (v := ?_) 1 38 rfl rfl ⟨by rfl, ?_⟩ hS0 ?_
    rotate_left
    ·intro w' hw'; obtain ⟨x0, x1, x2, x3, x4, x5, x6⟩ := hw'; go_simp; (try with_reducible rfl)
    simp only [Act.put, pzA, pzB, pzC]
    refine held_takeK (v := ?_) 2 39 rfl rfl ⟨by rfl, ?_⟩ hS0 ?_
    rotate_left
    ·intro w' hw'; obtain ⟨x0, x1, x2, x3, x4, x5, x6⟩ := hw'; go_simp; (try with_reducible rfl)
    simp only [Act.put, pzA, pzB, pzC]
    refine held_takeK (v := ?_) 3 40 rfl rfl ⟨by rfl, ?_⟩ hS0 ?_
    rotate_left
    ·intro w' hw'; obtain ⟨x0, x1, x2, x3, x4, x5, x6⟩ := hw'; go_simp; (try with_reducible rfl)
    simp only [Act.put, pzA, pzB, pzC]
    refine held_takeK (v := ?_) 4 41 rfl rfl ⟨by rfl, ?_⟩ hS0 ?_
    rotate_left
    ·intro w' hw'; obtain ⟨x0, x1, x2, x3, x4, x5, x6⟩ := hw'; go_simp; (try with_reducible rfl)
    simp only [Act.put, pzA, pzB, pzC]
    refine held_takeK (v := ?_) 5 42 rfl rfl ⟨by rfl, ?_⟩ hS0 ?_
    rotate_left
    ·intro w' hw'; obtain ⟨x0, x1, x2, x3, x4, x5, x6⟩ := hw'; go_simp; (try with_reducible rfl)
    simp only [Act.put, pzA, pzB, pzC]
    refine held_one 6 rfl (by kernel_rfl) (by rfl) (fun K hK => ?_)
    go_simp
    go_at_call 173
    refine (HW3.out _).mono ?_
    rintro e v1 ⟨rfl, hbv1⟩
    have hBv1 : Below w2.heap.size w2 v1 := below_step (Below.refl w2.heap.size w2).drew hbv1
    have hSv1 : (fun w' : World => w'.cell? ⟨w.heap.size, 2, none⟩ = some (.int .u64 (m : Nat)) ∧ w'.cell? ⟨w.heap.size, 3, none⟩ = some (.int .i64 c) ∧ w'.cell? ⟨tk, k * 4 + 2, none⟩ = some (.int .u64 (t.m : Nat)) ∧ w'.cell? ⟨tk, k * 4 + 3, none⟩ = some (.int .i64 (t.c : Nat)) ∧ w'.cell? ⟨al, k * 4 + 2, none⟩ = some (.int .u64 (f.m : Nat)) ∧ w'.cell? ⟨al, k * 4 + 3, none⟩ = some (.int .i64 (f.c : Nat)) ∧ w'.cell? ⟨q, 0, none⟩ = some (.slice (some ⟨al, 0, none⟩) n ca)) v1 := ⟨(hBv1.cell (p := ⟨w.heap.size, 2, none⟩) (show w.heap.size < _ by omega)).trans s2, (hBv1.cell (p := ⟨w.heap.size, 3, none⟩) (show w.heap.size < _ by omega)).trans s3, (hBv1.cell (p := ⟨tk, k * 4 + 2, none⟩) (show tk < _ by omega)).trans b2, (hBv1.cell (p := ⟨tk, k * 4 + 3, none⟩) (show tk < _ by omega)).trans b3, (hBv1.cell (p := ⟨al, k * 4 + 2, none⟩) (show al < _ by omega)).trans a2, (hBv1.cell (p := ⟨al, k * 4 + 3, none⟩) (show al < _ by omega)).trans a3, (hBv1.cell (p := ⟨q, 0, none⟩) (show q < _ by omega)).trans h90⟩
    refine hK.out _ _ hSv1 ?_
    clear hK K
    refine held_takeK (v := ?_) 7 44 rfl rfl ⟨by rfl, ?_⟩ hSv1 ?_
    rotate_left
    ·intro w' hw'; obtain ⟨x0, x1, x2, x3, x4, x5, x6⟩ := hw'; go_simp; (try with_reducible rfl)
    simp only [Act.put, pzA, pzB, pzC]
    refine held_takeK (v := ?_) 8 45 rfl rfl ⟨by rfl, ?_⟩ hSv1 ?_
    rotate_left
    ·intro w' hw'; obtain ⟨x0, x1, x2, x3, x4, x5, x6⟩ := hw'; go_simp; (try with_reducible rfl)
    simp only [Act.put, pzA, pzB, pzC]
    refine held_skipK 9 46 rfl rfl (by rfl) hSv1 ?_
    simp only [Act.put, pzA, pzB, pzC]
    refine held_skipK 10 47 rfl rfl (by rfl) hSv1 ?_
    simp only [Act.put, pzA, pzB, pzC]
    refine held_skipK 11 48 rfl rfl (by rfl) hSv1 ?_
    simp only [Act.put, pzA, pzB, pzC]
    refine held_skipK 12 49 rfl rfl (by rfl) hSv1 ?_
    simp only [Act.put, pzA, pzB, pzC]
    refine held_skipK 13 50 rfl rfl (by rfl) hSv1 ?_
    simp only [Act.put, pzA, pzB, pzC]
    refine held_skipK 14 51 rfl rfl (by rfl) hSv1 ?_
    simp only [Act.put, pzA, pzB, pzC]
    refine held_skipK 15 52 rfl rfl (by rfl) hSv1 ?_
    simp only [Act.put, pzA, pzB, pzC]
    refine held_takeK (v := ?_) 16 53 rfl rfl ⟨by rfl, ?_⟩ hSv1 ?_
    rotate_left
    ·intro w' hw'; obtain ⟨x0, x1, x2, x3, x4, x5, x6⟩ := hw'; go_simp; (try with_reducible rfl)
    simp only [Act.put, pzA, pzB, pzC]
    refine wpAnyH_done (by kernel_rfl) ?_ _
    have HB3 := Lib.hid (HBW.out.trans (hBv1.mono hl2))
    go_wp2
    go_ret
    exact ⟨rfl, HP.out.keep (HB9.out.trans (HB3.out.mono HB9.out.size)), Foot.of_below (HB9.out.trans (HB3.out.mono HB9.out.size))⟩
  ·rw [decide_eq_false hm] at hw2
   have HW2 := Lib.hid hw2
   have eR := HR.out
   rw [if_pos hm] at eR
   subst eR
   clear hw2 hm
   go_wp2_with fail
   refine HW2.out.mono ?_
   rintro e w2 ⟨rfl, hb2⟩
   have hBw2 : Below w1.heap.size w1 w2 := below_step (Below.refl w1.heap.size w1).drew hb2
   have HBx := Lib.hid (HB9.out.trans (hBw2.mono HB9.out.size))
   clear hb2 hBw2
   go_wp2
   go_ret
   exact ⟨rfl, HP.out.keep HBx.out, Foot.of_below HBx.out⟩
end Go.Proofs.YtgpfmlidchogcaaGreat
