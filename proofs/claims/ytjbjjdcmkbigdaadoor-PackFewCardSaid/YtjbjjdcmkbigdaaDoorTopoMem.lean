/- Memory in words: what a slice's cells hold, wherever they lie below a block; kept while nothing below that block turns. Names for the walks of layer 2 and of those above it. -/
import Derived.WalkKit
import Derived.Lib.Hide
import Derived.Below
import Derived.Deep.Draws
import Derived.OwnWalk
import Derived.Test.YtjbjjdcmkbigdaaDoorMaskBase
import Derived.Test.YtjbjjdcmkbigdaaDoorBlk
namespace Go.Proofs.YtjbjjdcmkbigdaaDoor
open Go.RowKit


/-- A slice (its address A) whose elements are the list's: p says of a block, an offset and an element what the cells there hold; they lie below block B. -/
def Rows {α : Type} (B : Nat) (A : Option Addr) (p : Nat → Nat → α → Prop) (k : Nat) (l : List α) : Prop :=
  l = [] ∨ ∃ b off, A = some ⟨b, off, none⟩ ∧ b < B ∧ ∀ (i : Nat) (x : α), l[i]? = some x → p b (off + i * k) x
section
variable {α : Type} {B B' k : Nat} {A : Option Addr} {p q : Nat → Nat → α → Prop} {l : List α}
theorem Rows.imp (h : Rows B A p k l) (hB : B ≤ B') (hp : ∀ b o x, b < B → p b o x → q b o x) : Rows B' A q k l := by
  rcases h with h | ⟨b, off, ha, hb, hc⟩
  · exact .inl h
  · exact .inr ⟨b, off, ha, by omega, fun i x hx => hp _ _ _ hb (hc i x hx)⟩
theorem Rows.at_ (h : Rows B A p k l) {i : Nat} {x : α} (hx : l[i]? = some x) : ∃ b off, A = some ⟨b, off, none⟩ ∧ b < B ∧ ∀ (i : Nat) (x : α), l[i]? = some x → p b (off + i * k) x := by
  rcases h with h | h
  · subst h; simp at hx
  · exact h
end

/-- A domain's cells; a node's; what is free at a spot; a spot. -/
def DomAt (w : World) (b o : Nat) (d : Int × Int) : Prop := w.cell? ⟨b, o, none⟩ = some (.int .i64 d.1) ∧ w.cell? ⟨b, o + 1, none⟩ = some (.int .i64 d.2)
def NodeAt (w : World) (B b o : Nat) (ds : List (Int × Int)) : Prop :=
  ∃ A c, w.cell? ⟨b, o, none⟩ = some (.slice A ds.length c) ∧ ds.length ≤ c ∧ c ≤ maxLen ∧ Rows B A (DomAt w) 2 ds
structure Fr where
  n : Nat
  d : Nat
  m : Nat
  c : Nat
def FrAt (w : World) (b o : Nat) (f : Fr) : Prop :=
  w.cell? ⟨b, o, none⟩ = some (.int .i64 f.n) ∧ w.cell? ⟨b, o + 1, none⟩ = some (.int .i64 f.d) ∧ w.cell? ⟨b, o + 2, none⟩ = some (.int .u64 f.m) ∧ w.cell? ⟨b, o + 3, none⟩ = some (.int .i64 f.c)
def SpAt (w : World) (b o : Nat) (f : Nat × Nat) : Prop := w.cell? ⟨b, o, none⟩ = some (.int .i64 f.1) ∧ w.cell? ⟨b, o + 1, none⟩ = some (.int .i64 f.2)

/-- A cluster's nodes; what is free at some spots; some spots: slices below block B. -/
abbrev Doms (w : World) (B : Nat) (A : Option Addr) (ds : List (Int × Int)) : Prop := Rows B A (DomAt w) 2 ds
abbrev Nodes (w : World) (B : Nat) (A : Option Addr) (ns : List (List (Int × Int))) : Prop := Rows B A (NodeAt w B) 1 ns
abbrev Frees (w : World) (B : Nat) (A : Option Addr) (l : List Fr) : Prop := Rows B A (FrAt w) 4 l
abbrev Spots (w : World) (B : Nat) (A : Option Addr) (l : List (Nat × Nat)) : Prop := Rows B A (SpAt w) 2 l

section
variable {w w' : World} {B B' b o : Nat} {A : Option Addr}
theorem DomAt.keep {d : Int × Int} (h : DomAt w b o d) (hb : b < B) (hk : Below B w w') : DomAt w' b o d :=
  ⟨(hk.cell (p := ⟨b, o, none⟩) hb).trans h.1, (hk.cell (p := ⟨b, o + 1, none⟩) hb).trans h.2⟩
theorem FrAt.keep {f : Fr} (h : FrAt w b o f) (hb : b < B) (hk : Below B w w') : FrAt w' b o f :=
  ⟨(hk.cell (p := ⟨b, o, none⟩) hb).trans h.1, (hk.cell (p := ⟨b, o + 1, none⟩) hb).trans h.2.1, (hk.cell (p := ⟨b, o + 2, none⟩) hb).trans h.2.2.1, (hk.cell (p := ⟨b, o + 3, none⟩) hb).trans h.2.2.2⟩
theorem SpAt.keep {f : Nat × Nat} (h : SpAt w b o f) (hb : b < B) (hk : Below B w w') : SpAt w' b o f :=
  ⟨(hk.cell (p := ⟨b, o, none⟩) hb).trans h.1, (hk.cell (p := ⟨b, o + 1, none⟩) hb).trans h.2⟩
theorem Doms.keep {ds : List (Int × Int)} (h : Doms w B A ds) (hk : Below B w w') (hB : B ≤ B') : Doms w' B' A ds := h.imp hB fun _ _ _ hb hd => hd.keep hb hk
theorem NodeAt.keep {ds : List (Int × Int)} (h : NodeAt w B b o ds) (hb : b < B) (hk : Below B w w') (hB : B ≤ B') : NodeAt w' B' b o ds := by
  obtain ⟨A, c, h1, h2, h3, h4⟩ := h
  exact ⟨A, c, (hk.cell (p := ⟨b, o, none⟩) hb).trans h1, h2, h3, Doms.keep h4 hk hB⟩
theorem Nodes.keep {ns : List (List (Int × Int))} (h : Nodes w B A ns) (hk : Below B w w') (hB : B ≤ B') : Nodes w' B' A ns := h.imp hB fun _ _ _ hb hd => hd.keep hb hk hB
theorem Frees.keep {l : List Fr} (h : Frees w B A l) (hk : Below B w w') (hB : B ≤ B') : Frees w' B' A l := h.imp hB fun _ _ _ hb hd => hd.keep hb hk
theorem Spots.keep {l : List (Nat × Nat)} (h : Spots w B A l) (hk : Below B w w') (hB : B ≤ B') : Spots w' B' A l := h.imp hB fun _ _ _ hb hd => hd.keep hb hk
end

/-! Lists, gone through from the left. -/
section
variable {α : Type} {l : List α} {k : Nat} {x : α}
theorem take_next (h : l[k]? = some x) : l.take (k + 1) = l.take k ++ [x] := by
  rw [List.take_add_one, h]; rfl
theorem all_next {p : α → Bool} (h : l[k]? = some x) (ha : (l.take k).all p = true) (hp : p x = true) : (l.take (k + 1)).all p = true := by
  rw [take_next h, List.all_append, ha]; simp [hp]
theorem all_no {p : α → Bool} (h : l[k]? = some x) (hp : p x = false) : l.all p = false := by
  rw [← Bool.not_eq_true, List.all_eq_true]
  intro ha
  have := ha x (List.mem_of_getElem? h)
  rw [hp] at this; cases this
theorem all_end {p : α → Bool} (ha : (l.take l.length).all p = true) : l.all p = true := by rwa [List.take_length] at ha
theorem get_lt (h : k < l.length) : ∃ x, l[k]? = some x := ⟨_, List.getElem?_eq_getElem h⟩
end
end Go.Proofs.YtjbjjdcmkbigdaaDoor
