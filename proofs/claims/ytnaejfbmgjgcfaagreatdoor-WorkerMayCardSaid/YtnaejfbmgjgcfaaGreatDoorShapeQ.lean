/- The document's answers on shapes: Piece. -/
/- The document's answers on shapes: Fits. -/
/- What comes in, whatever its type of integers, bools, strings, structs and slices: how its cells read; lists out of slices. -/
/- What a law is told of a shape, or of what is free at a spot, that came in; the document's example. -/
/- Structs held against themselves: == tells true, != false. -/
/- What the program answers on a shape, and what the document answers, side by side. -/
/- Into more no fewer members fit; of larger members no more do: plain facts, and what Fits answers as one number. -/
import Derived.RegionTactic
import Derived.BigRegion
import Derived.Test.YtnaejfbmgjgcfaaGreatDoorMaskP
import Derived.Test.YtnaejfbmgjgcfaaGreatDoorShapeP
import Derived.Deep.Slices
import Derived.Lib.SmallJoins
import Derived.ProofKit
import Derived.OpenShut
import Derived.Test.YtnaejfbmgjgcfaaGreatDoorKitP
import Derived.Laws.StructEq
import Derived.WalkKit
import Derived.Test.YtnaejfbmgjgcfaaGreatDoorProg
import Derived.WalkArith
namespace Go.Proofs.YtnaejfbmgjgcfaaGreatDoor
open Go.RowKit

namespace MM
theorem low_in (x k i : Nat) (h : (low x k).testBit i = true) : x.testBit i = true := by
 unfold low at h
 rw [testBit_ofu] at h
 exact (units_mem.1 (List.mem_of_mem_take (of_decide_eq_true h))).2
end MM
end Go.Proofs.YtnaejfbmgjgcfaaGreatDoor

namespace Go.Proofs.YtnaejfbmgjgcfaaGreatDoor
open Go.RowKit

end Go.Proofs.YtnaejfbmgjgcfaaGreatDoor

set_option maxRecDepth 100000
namespace Go.Proofs.YtnaejfbmgjgcfaaGreatDoor
open Go.ChangeShapes Go.WideShapes Go.ChangeAt Go.RowKit Go.Deep

inductive Sh where
 | int (k : IntKind) : Sh
 | bool : Sh
 | str : Sh
 | slice (e : Sh) : Sh
 | struct (f : Sh) : Sh
 | nil : Sh
 | cons (f r : Sh) : Sh
def Sh.size : Sh → Nat
 | .int _ => 1
 | .bool => 1
 | .str => 1
 | .slice _ => 1
 | .struct f => f.size
 | .nil => 0
 | .cons f r => f.size + r.size
def Sh.Holds (w : World) (B : Nat) : Sh → List Value → Prop
 | .int k, cs => ∃ n : Int, cs = [.int k n] ∧ (Lit.int k n).wf = true
 | .bool, cs => ∃ b : Bool, cs = [.bool b]
 | .str, cs => ∃ s : ByteArray, cs = [.string s] ∧ s.size ≤ maxLen
 | .slice e, cs => ∃ (A : Option Addr) (len c : Nat), cs = [.slice A len c] ∧ len ≤ c ∧ c ≤ maxLen ∧
   (len = 0 ∨ ∃ b off, A = some ⟨b, off, none⟩ ∧ b < B ∧ ∀ i, i < len → ∃ cs', cs'.length = e.size ∧ (∀ j, j < e.size → w.cell? ⟨b, off + i * e.size + j, none⟩ = cs'[j]?) ∧ Sh.Holds w B e cs')
 | .struct f, cs => Sh.Holds w B f cs
 | .nil, cs => cs = []
 | .cons f r, cs => Sh.Holds w B f (cs.take f.size) ∧ Sh.Holds w B r (cs.drop f.size)
def Sh.fit (P : Program) : Sh → TypeId ⊕ (List Field × Nat) → Bool
 | .int k, .inl t => match P.underlying t with
  | some (.int k') => decide (k' = k)
  | _ => false
 | .bool, .inl t => match P.underlying t with
  | some .bool => true
  | _ => false
 | .str, .inl t => match P.underlying t with
  | some .string => true
  | _ => false
 | .slice e, .inl t => match P.underlying t with
  | some (.slice te) => decide (0 < e.size) && (decide (P.cellsOf te = e.size) && e.fit P (.inl te))
  | _ => false
 | .struct f, .inl t => match P.underlying t with
  | some (.struct fs) => decide (P.cellsOf t = f.size) && f.fit P (.inr (fs.toList, 0))
  | _ => false
 | .nil, .inr (fs, _) => fs.isEmpty
 | .cons f r, .inr (fld :: fs, o) => decide (fld.offset = o) && (decide (P.cellsOf fld.type = f.size) && (f.fit P (.inl fld.type) && r.fit P (.inr (fs, o + f.size))))
 | _, _ => false
section
variable {H : Type} {enc : TypeId × Value → H} {P : Program} {w : World} {held : Bool}
theorem addr_plain {x : Addr} {v : Value} (h : w.cell? (x.add 0) = some v) : ∃ b off, x = ⟨b, off, none⟩ := by
 obtain ⟨b, off, spot⟩ := x
 have : spot = none := by simpa [Addr.add] using World.cell?_spot h
 subst this
 exact ⟨b, off, rfl⟩
theorem Sh.reads (sh : Sh) :
  (∀ (t : TypeId) (fuel : Nat) (cs : List Value) (x : DataW H × List MemPlace), sh.fit P (.inl t) = true → DataW.trod enc P w 0 (fun _ => true) held fuel t cs = some x → sh.Holds w w.heap.size cs) ∧
  (∀ (fs : List Field) (o n : Nat) (cs : List Value), sh.fit P (.inr (fs, o)) = true → cs.length = o + sh.size →
   (∀ (i : Nat) (f : Field), fs[i]? = some f → ∃ y, DataW.trod enc P w 0 (fun _ => true) held n f.type ((cs.drop f.offset).take (P.cellsOf f.type)) = some y) → sh.Holds w w.heap.size (cs.drop o)) := by
 induction sh with
 | int k =>
  refine ⟨fun t fuel cs x hf h => ?_, fun fs o n cs hf => by simp [Sh.fit] at hf⟩
  unfold Sh.fit at hf
  split at hf
  ·rename_i hu
   obtain rfl := of_decide_eq_true hf
   obtain ⟨n, e, _, hw⟩ := DataW.trod_int hu h
   exact ⟨n, e, hw⟩
  ·cases hf
 | bool =>
  refine ⟨fun t fuel cs x hf h => ?_, fun fs o n cs hf => by simp [Sh.fit] at hf⟩
  unfold Sh.fit at hf
  split at hf
  ·rename_i hu
   obtain ⟨b, e, _⟩ := DataW.trod_bool hu h
   exact ⟨b, e⟩
  ·cases hf
 | str =>
  refine ⟨fun t fuel cs x hf h => ?_, fun fs o n cs hf => by simp [Sh.fit] at hf⟩
  unfold Sh.fit at hf
  split at hf
  ·rename_i hu
   obtain ⟨s, e, _, hs⟩ := DataW.trod_string hu h
   exact ⟨s, e, hs⟩
  ·cases hf
 | slice e ih =>
  refine ⟨fun t fuel cs x hf h => ?_, fun fs o n cs hf => by simp [Sh.fit] at hf⟩
  unfold Sh.fit at hf
  split at hf
  ·rename_i te hu
   simp only [Bool.and_eq_true, decide_eq_true_eq] at hf
   obtain ⟨h0, h1, h2⟩ := hf
   rcases open_slice hu h with ⟨e1, _⟩ | ⟨x, len, cap, m, n, D, Pl, e1, _, hl, hm, hmm, _, hx⟩
   ·exact ⟨none, 0, 0, e1, Nat.le_refl _, Nat.zero_le _, .inl rfl⟩
   ·refine ⟨some x, len, cap, e1, hl, hm, ?_⟩
    simp at hmm
    rw [h1] at hx
    by_cases hz : len = 0
    ·exact .inl hz
    right
    obtain ⟨b, off, rfl⟩ : ∃ b off, x = ⟨b, off, none⟩ := by
     obtain ⟨cs0, hc0, _⟩ := hx 0 (by omega)
     obtain ⟨_, hlen, hat⟩ := World.cells?_some hc0
     have := hat 0 h0
     rw [List.getElem?_eq_getElem (by omega)] at this
     rw [Nat.zero_mul] at this
     exact addr_plain (x := x) (by simpa [Addr.add] using this)
    have hb : b < w.heap.size := by
     obtain ⟨cs0, hc0, _⟩ := hx 0 (by omega)
     obtain ⟨_, hlen, hat⟩ := World.cells?_some hc0
     have := hat 0 h0
     rw [List.getElem?_eq_getElem (by omega)] at this
     exact lt_of_cell (off := off) (by simpa [Addr.add] using this)
    refine ⟨b, off, rfl, hb, fun i hi => ?_⟩
    obtain ⟨cs0, hc0, ht⟩ := hx i (by omega)
    obtain ⟨_, hlen, hat⟩ := World.cells?_some hc0
    exact ⟨cs0, hlen, fun j hj => by have := hat j hj; rw [Addr.add_lit, Addr.add_lit] at this; exact this, ih.1 te n cs0 _ h2 ht⟩
  ·cases hf
 | struct f ih =>
  refine ⟨fun t fuel cs x hf h => ?_, fun fs o n cs hf => by simp [Sh.fit] at hf⟩
  unfold Sh.fit at hf
  split at hf
  ·rename_i fs hu
   simp only [Bool.and_eq_true, decide_eq_true_eq] at hf
   obtain ⟨xs, n, _, _, hlen, hxs, hat⟩ := DataW.trod_struct hu h
   have := ih.2 fs.toList 0 n cs hf.2 (by rw [hlen, hf.1]; omega) (fun i fld hi => by
    have hi' : fs[i]? = some fld := by simpa using hi
    have hil := (Array.getElem?_eq_some_iff.1 hi').1
    refine ⟨xs[i]'(by omega), ?_⟩
    rw [hat i fld hi']
    exact List.getElem?_eq_getElem _)
   simpa [Sh.Holds] using this
  ·cases hf
 | nil =>
  refine ⟨fun t fuel cs x hf => by simp [Sh.fit] at hf, fun fs o n cs _ hl _ => ?_⟩
  simp only [Sh.size] at hl
  exact List.drop_eq_nil_of_le (by omega)
 | cons f r ihf ihr =>
  refine ⟨fun t fuel cs x hf => by simp [Sh.fit] at hf, fun fs o n cs hf hl hat => ?_⟩
  match fs, hf with
  | fld :: fs, hf =>
   simp only [Sh.fit, Bool.and_eq_true, decide_eq_true_eq] at hf
   obtain ⟨e1, e2, e3, e4⟩ := hf
   obtain ⟨y, hy⟩ := hat 0 fld rfl
   rw [e1, e2] at hy
   refine ⟨ihf.1 _ _ _ _ e3 hy, ?_⟩
   have := ihr.2 fs (o + f.size) n cs e4 (by simp only [Sh.size] at hl; omega) (fun i g hi => hat (i + 1) g (by simpa using hi))
   rwa [List.drop_drop]
theorem arg_struct {r : Reach} {b0 : Nat} {t : TypeId} {v : Value} {d : DataW H} {p : List MemPlace} {sh : Sh} {fs : Array Field} (hu : P.underlying t = some (.struct fs)) (hfit : sh.fit P (.inl t) = true) (hv : Value.okWide P w r b0 t v)
  (h : DataW.Trod enc P w 0 (fun _ => true) held t v d p) : ∃ cs : List Value, v = .agg cs.toArray ∧ cs.length = P.cellsOf t ∧ sh.Holds w w.heap.size cs := by
 obtain ⟨cs, rfl, hsz⟩ := okWide_struct hu hv
 obtain ⟨fuel, hf⟩ := h
 exact ⟨cs.toList, by simp, by simpa using hsz, (Sh.reads sh).1 t fuel cs.toList _ hfit (by simpa [Value.cells] using hf)⟩
end
theorem rows_of {α : Type} {w : World} {B : Nat} {e : Sh} {v : Value} {p : Nat → Nat → α → Prop} {q : α → Prop} (h : (Sh.slice e).Holds w B [v])
  (lift : ∀ b o cs, b < B → cs.length = e.size → (∀ j u, cs[j]? = some u → w.cell? ⟨b, o + j, none⟩ = some u) → e.Holds w B cs → ∃ a : α, p b o a ∧ q a) :
  ∃ (A : Option Addr) (c : Nat) (l : List α), v = .slice A l.length c ∧ l.length ≤ c ∧ c ≤ maxLen ∧ Rows B A p e.size l ∧ ∀ a ∈ l, q a := by
 obtain ⟨A, len, c, e1, hl, hm, hr⟩ := h
 simp at e1
 subst e1
 by_cases h0 : len = 0
 ·subst h0
  exact ⟨A, c, [], rfl, Nat.zero_le _, hm, .inl rfl, by simp⟩
 rcases hr with hr | ⟨b, off, rfl, hb, hx⟩
 ·exact absurd hr h0
 have hall : ∀ i, i < len → ∃ a : α, p b (off + i * e.size) a ∧ q a := fun i hi => by
  obtain ⟨cs, hlen, hat, hh⟩ := hx i hi
  exact lift b _ cs hb hlen (fun j u hj => by rw [hat j (by rw [← hlen]; exact (List.getElem?_eq_some_iff.1 hj).1), hj]) hh
 obtain ⟨a0, _⟩ := hall 0 (by omega)
 have hch : ∀ i, ∃ a : α, i < len → p b (off + i * e.size) a ∧ q a := fun i => by
  by_cases hi : i < len
  ·obtain ⟨a, ha⟩ := hall i hi; exact ⟨a, fun _ => ha⟩
  ·exact ⟨a0, fun h => absurd h hi⟩
 let f := fun i => Classical.choose (hch i)
 have hf : ∀ i, i < len → p b (off + i * e.size) (f i) ∧ q (f i) := fun i hi => Classical.choose_spec (hch i) hi
 have hget : ∀ i x, ((List.range len).map f)[i]? = some x → i < len ∧ x = f i := fun i x hi => by
  rw [List.getElem?_map] at hi
  obtain ⟨j, hj, rfl⟩ := Option.map_eq_some_iff.1 hi
  obtain ⟨hjl, hj2⟩ := List.getElem?_eq_some_iff.1 hj
  simp at hjl hj2
  subst hj2
  exact ⟨hjl, rfl⟩
 refine ⟨_, c, (List.range len).map f, by simp, by simpa using hl, hm, .inr ⟨b, off, rfl, hb, fun i x hi => ?_⟩, fun x hx => ?_⟩
 ·obtain ⟨hil, rfl⟩ := hget i x hi
  exact (hf i hil).1
 ·obtain ⟨i, hi⟩ := List.mem_iff_getElem?.1 hx
  obtain ⟨hil, rfl⟩ := hget i x hi
  exact (hf i hil).2
end Go.Proofs.YtnaejfbmgjgcfaaGreatDoor

set_option maxRecDepth 100000
namespace Go.Proofs.YtnaejfbmgjgcfaaGreatDoor
open Go.ChangeShapes Go.WideShapes Go.ChangeAt Go.RowKit Go.Deep

section
variable {H : Type} {enc : TypeId × Value → H} {w : World} {held : Bool} {r : Reach} {b0 : Nat} {v : Value} {d : DataW H} {p : List MemPlace}
end
end Go.Proofs.YtnaejfbmgjgcfaaGreatDoor

namespace Go.Proofs.YtnaejfbmgjgcfaaGreatDoor
open Go.RowKit

end Go.Proofs.YtnaejfbmgjgcfaaGreatDoor

namespace Go.Proofs.YtnaejfbmgjgcfaaGreatDoor
open Go.RowKit

def TellsFits (f : FuncId) (g c : Nat) (mn mx x y : Int) (m : Nat) (k : Int) (w : World) (N : Nat) : Prop := ∀ W, Below w.heap.size w W →
 Calls Tryz.prog f #[.agg #[.int .i64 (g : Int), .int .i64 (c : Int), .int .i64 mn, .int .i64 mx], .agg #[.int .i64 x, .int .i64 y, .int .u64 (m : Nat), .int .i64 k]] W fun e w' => e = .returned (.int .i64 (N : Nat)) ∧ Below W.heap.size W w'
end Go.Proofs.YtnaejfbmgjgcfaaGreatDoor

namespace Go.Proofs.YtnaejfbmgjgcfaaGreatDoor
open Go.RowKit

namespace MM
end MM
def fitZ (g c u : Nat) (k : Int) : Nat := if k < 0 then 0 else fitN g c u k.toNat
theorem tms_more {n a b : Nat} (h : a ≤ b) : tms n a ≤ tms n b := by
 unfold tms; split
 ·omega
 ·exact Nat.div_le_div_right h
theorem fitZ_le (g c u : Nat) (k : Int) : fitZ g c u k ≤ 16 := by
 unfold fitZ; split
 ·omega
 ·exact fit_le _ _ _ _
theorem fitZ_more {g c u u' : Nat} {k k' : Int} (h : u ≤ u') (hk : k ≤ k') : fitZ g c u k ≤ fitZ g c u' k' := by
 unfold fitZ
 by_cases h0 : k < 0
 ·rw [if_pos h0]; omega
 ·rw [if_neg h0, if_neg (by omega)]
  unfold fitN
  have h1 := tms_more (n := g) h
  have h2 := tms_more (n := c) (show k.toNat ≤ k'.toNat by omega)
  omega
theorem fits_tell (g c : Nat) (mn mx x y : Int) (m : Nat) (k : Int) (w : World) (w0 : Shp.Wf ⟨g, c, mn, mx⟩) (hok : Shp.ok ⟨g, c, mn, mx⟩ = true) (wm : m < 18446744073709551616) (wk : (Lit.int .i64 k).wf = true) (hT : Tab w) :
  TellsFits 52 g c mn mx x y m k w (fitZ g c (MM.cnt m) k) := by
 obtain ⟨d1, d2⟩ := bounds_i64 wk
 intro W hW
 unfold fitZ
 by_cases hk : k < 0
 ·rw [if_pos hk]; exact fits_neg g c mn mx x y m k W w0 hok hk
 ·rw [if_neg hk]
  obtain ⟨q, rfl⟩ : ∃ q : Nat, k = q := ⟨k.toNat, by omega⟩
  exact fits_ok g c mn mx x y m q W w0 hok wm (by omega) (hT.below hW hT.size)
end Go.Proofs.YtnaejfbmgjgcfaaGreatDoor
