/- Memory in words: what a slice's cells hold, wherever they lie below a block; kept while nothing below that block turns. Names for the walks of layer 2 and of those above it. -/
import Derived.WalkKit
import Derived.Lib.Hide
import Derived.Below
import Derived.Deep.Draws
import Derived.OwnWalk
import Derived.Test.YtkhbbfpajiimaaaGreatMaskBase
import Derived.Test.YtkhbbfpajiimaaaGreatBlk
import Derived.Test.YtkhbbfpajiimaaaGreatLies
namespace Go.Proofs.YtkhbbfpajiimaaaGreat
open Go.RowKit


/-- A domain's cells; a node's; what is free at a spot; a spot. -/
def DomAt (w : World) (b o : Nat) (d : Int × Int) : Prop := w.cell? ⟨b, o, none⟩ = some (.int .i64 d.1) ∧ w.cell? ⟨b, o + 1, none⟩ = some (.int .i64 d.2)
def NodeAt (w : World) (B b o : Nat) (ds : List (Int × Int)) : Prop :=
  ∃ A c, w.cell? ⟨b, o, none⟩ = some (.slice A ds.length c) ∧ ds.length ≤ c ∧ c ≤ maxLen ∧ Rows B A (DomAt w) 2 ds
structure Fr where
  n : Nat
  d : Nat
  m : Nat
  c : Nat
def FrAt (w : World) (b o : Nat) (f : Fr) : Prop :=
  w.cell? ⟨b, o, none⟩ = some (.int .i64 f.n) ∧ w.cell? ⟨b, o + 1, none⟩ = some (.int .i64 f.d) ∧ w.cell? ⟨b, o + 2, none⟩ = some (.int .u64 f.m) ∧ w.cell? ⟨b, o + 3, none⟩ = some (.int .i64 f.c)
def SpAt (w : World) (b o : Nat) (f : Nat × Nat) : Prop := w.cell? ⟨b, o, none⟩ = some (.int .i64 f.1) ∧ w.cell? ⟨b, o + 1, none⟩ = some (.int .i64 f.2)

/-- A cluster's nodes; what is free at some spots; some spots: slices below block B. -/
abbrev Doms (w : World) (B : Nat) (A : Option Addr) (ds : List (Int × Int)) : Prop := Rows B A (DomAt w) 2 ds
abbrev Nodes (w : World) (B : Nat) (A : Option Addr) (ns : List (List (Int × Int))) : Prop := Rows B A (NodeAt w B) 1 ns
abbrev Frees (w : World) (B : Nat) (A : Option Addr) (l : List Fr) : Prop := Rows B A (FrAt w) 4 l
abbrev Spots (w : World) (B : Nat) (A : Option Addr) (l : List (Nat × Nat)) : Prop := Rows B A (SpAt w) 2 l

section
variable {w w' : World} {B B' b o : Nat} {A : Option Addr}
theorem DomAt.keep {d : Int × Int} (h : DomAt w b o d) (hb : b < B) (hk : Below B w w') : DomAt w' b o d :=
  ⟨(hk.cell (p := ⟨b, o, none⟩) hb).trans h.1, (hk.cell (p := ⟨b, o + 1, none⟩) hb).trans h.2⟩
theorem FrAt.keep {f : Fr} (h : FrAt w b o f) (hb : b < B) (hk : Below B w w') : FrAt w' b o f :=
  ⟨(hk.cell (p := ⟨b, o, none⟩) hb).trans h.1, (hk.cell (p := ⟨b, o + 1, none⟩) hb).trans h.2.1, (hk.cell (p := ⟨b, o + 2, none⟩) hb).trans h.2.2.1, (hk.cell (p := ⟨b, o + 3, none⟩) hb).trans h.2.2.2⟩
theorem SpAt.keep {f : Nat × Nat} (h : SpAt w b o f) (hb : b < B) (hk : Below B w w') : SpAt w' b o f :=
  ⟨(hk.cell (p := ⟨b, o, none⟩) hb).trans h.1, (hk.cell (p := ⟨b, o + 1, none⟩) hb).trans h.2⟩
theorem Doms.keep {ds : List (Int × Int)} (h : Doms w B A ds) (hk : Below B w w') (hB : B ≤ B') : Doms w' B' A ds := h.imp hB fun _ _ _ hb hd => hd.keep hb hk
theorem NodeAt.keep {ds : List (Int × Int)} (h : NodeAt w B b o ds) (hb : b < B) (hk : Below B w w') (hB : B ≤ B') : NodeAt w' B' b o ds := by
  obtain ⟨A, c, h1, h2, h3, h4⟩ := h
  exact ⟨A, c, (hk.cell (p := ⟨b, o, none⟩) hb).trans h1, h2, h3, Doms.keep h4 hk hB⟩
theorem Nodes.keep {ns : List (List (Int × Int))} (h : Nodes w B A ns) (hk : Below B w w') (hB : B ≤ B') : Nodes w' B' A ns := h.imp hB fun _ _ _ hb hd => hd.keep hb hk hB
theorem Frees.keep {l : List Fr} (h : Frees w B A l) (hk : Below B w w') (hB : B ≤ B') : Frees w' B' A l := h.imp hB fun _ _ _ hb hd => hd.keep hb hk
theorem Spots.keep {l : List (Nat × Nat)} (h : Spots w B A l) (hk : Below B w w') (hB : B ≤ B') : Spots w' B' A l := h.imp hB fun _ _ _ hb hd => hd.keep hb hk
end

end Go.Proofs.YtkhbbfpajiimaaaGreat
