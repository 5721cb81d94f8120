/- What a law of layer 2 is told of a cluster, or a spot, that came in. -/
import Derived.Test.YtgpfmlidchogcaaGreatRows
import Derived.WalkKit
import Derived.ProofKit
import Derived.OpenShut
import Derived.ShutString
import Derived.ChangeOld
import Derived.Below
import Derived.Carry
import Derived.Lib.SmallJoins
import Derived.Deep.Slices
import Derived.Test.YtgpfmlidchogcaaGreatTopoZ
set_option maxRecDepth 100000
namespace Go.Proofs.YtgpfmlidchogcaaGreat
open Go.ChangeShapes Go.WideShapes Go.ChangeAt Go.RowKit Go.Deep

theorem own : ownKnob Tryz.prog.godebug = none := by kernel_rfl
section
variable {H : Type} {enc : TypeId × Value → H} {w : World} {held : Bool}
theorem plain_addr {x : Addr} {i : Nat} {v : Value} (h : w.cell? (x.add i) = some v) : i = 0 → ∃ b off, x = ⟨b, off, none⟩ := by
 rintro rfl
 obtain ⟨b, off, spot⟩ := x
 have : spot = none := by simpa [Addr.add] using World.cell?_spot h
 subst this
 exact ⟨b, off, rfl⟩
theorem dom_of {fuel : Nat} {cs : List Value} {y : DataW H × List MemPlace} (h : DataW.trod enc Tryz.prog w 0 (fun _ => true) held fuel 53 cs = some y) : ∃ g c : Int, cs = [.int .i64 g, .int .i64 c] := by
 obtain ⟨y0, y1, n, _, hl, h0, h1⟩ := trod_struct2 Tryz.underlying53 h
 obtain ⟨g, e0, _, _⟩ := DataW.trod_int Tryz.underlying3 h0
 obtain ⟨c, e1, _, _⟩ := DataW.trod_int Tryz.underlying3 h1
 have c1 : Tryz.prog.cellsOf 53 = 2 := by kernel_rfl
 have c2 : Tryz.prog.cellsOf 3 = 1 := by kernel_rfl
 rw [c1] at hl
 match cs, hl with
 | [u, v], _ =>
  simp [c2] at e0 e1
  exact ⟨g, c, by rw [e0, e1]⟩
theorem doms_of {fuel : Nat} {v : Value} {y : DataW H × List MemPlace} (h : DataW.trod enc Tryz.prog w 0 (fun _ => true) held fuel 54 [v] = some y) :
  ∃ (A : Option Addr) (c : Nat) (ds : List (Int × Int)), v = .slice A ds.length c ∧ ds.length ≤ c ∧ c ≤ maxLen ∧ Doms w w.heap.size A ds := by
 have c1 : Tryz.prog.cellsOf 53 = 2 := by kernel_rfl
 rcases open_slice Tryz.underlying54 h with ⟨e, _⟩ | ⟨x, len, cap, m, n, D, Pl, e, _, hl, hm, hmm, _, hx⟩
 ·simp at e; subst e
  exact ⟨none, 0, [], rfl, Nat.le_refl _, Nat.zero_le _, .inl rfl⟩
 ·simp at e; subst e
  simp at hmm
  rw [c1] at hx
  by_cases h0 : len = 0
  ·subst h0
   exact ⟨some x, cap, [], rfl, Nat.zero_le _, hm, .inl rfl⟩
  ·have hall : ∀ i, i < len → ∃ d : Int × Int, w.cell? (x.add (i * 2)) = some (.int .i64 d.1) ∧ w.cell? ((x.add (i * 2)).add 1) = some (.int .i64 d.2) := fun i hi => by
    obtain ⟨cs, hc, ht⟩ := hx i (by omega)
    obtain ⟨g, c, rfl⟩ := dom_of ht
    obtain ⟨_, _, hat⟩ := World.cells?_some hc
    exact ⟨(g, c), by simpa [Addr.add] using hat 0 (by omega), by simpa using hat 1 (by omega)⟩
   obtain ⟨f, hf⟩ := choose_lt (α := Int × Int) hall
   obtain ⟨b, off, rfl⟩ := plain_addr (hf 0 (by omega)).1 (by omega)
   have hlt := lt_of_cell (off := off) (by simpa [Addr.add] using (hf 0 (by omega)).1)
   refine ⟨_, cap, (List.range len).map f, by simp, by simpa using hl, hm, .inr ⟨b, off, rfl, hlt, fun i d hd => ?_⟩⟩
   rw [List.getElem?_map] at hd
   obtain ⟨j, hj, rfl⟩ := Option.map_eq_some_iff.1 hd
   have hj' := List.getElem?_eq_some_iff.1 hj
   obtain ⟨hjl, hj2⟩ := hj'
   simp at hjl hj2
   subst hj2
   obtain ⟨q0, q1⟩ := hf i hjl
   rw [Addr.add_lit] at q0 q1
   rw [Addr.add_lit] at q1
   exact ⟨q0, q1⟩
theorem node_of {fuel : Nat} {v : Value} {y : DataW H × List MemPlace} (h : DataW.trod enc Tryz.prog w 0 (fun _ => true) held fuel 56 [v] = some y) :
  ∃ (A : Option Addr) (c : Nat) (ds : List (Int × Int)), v = .slice A ds.length c ∧ ds.length ≤ c ∧ c ≤ maxLen ∧ Doms w w.heap.size A ds := by
 obtain ⟨xs, n, _, _, _, hlen, hf⟩ := DataW.trod_struct Tryz.underlying56 h
 have c2 : Tryz.prog.cellsOf 54 = 1 := by kernel_rfl
 match xs, hlen with
 | [y0], _ =>
  have h1 := hf 0 _ rfl
  simp [c2] at h1
  exact doms_of h1
theorem nodes_of {fuel : Nat} {v : Value} {y : DataW H × List MemPlace} (h : DataW.trod enc Tryz.prog w 0 (fun _ => true) held fuel 22 [v] = some y) :
  ∃ (A : Option Addr) (c : Nat) (ns : List (List (Int × Int))), v = .slice A ns.length c ∧ ns.length ≤ c ∧ c ≤ maxLen ∧ Nodes w w.heap.size A ns := by
 rcases open_slice1 Tryz.underlying22 (by kernel_rfl) h with ⟨e, _⟩ | ⟨x, len, cap, m, n, V, D, Pl, e, _, hl, hm, hmm, _, hx⟩
 ·simp at e; subst e
  exact ⟨none, 0, [], rfl, Nat.le_refl _, Nat.zero_le _, .inl rfl⟩
 ·simp at e; subst e
  simp at hmm
  by_cases h0 : len = 0
  ·subst h0
   exact ⟨some x, cap, [], rfl, Nat.zero_le _, hm, .inl rfl⟩
  ·have hall : ∀ i, i < len → ∃ ds : List (Int × Int), ∃ (A : Option Addr) (c : Nat), w.cell? (x.add i) = some (.slice A ds.length c) ∧ ds.length ≤ c ∧ c ≤ maxLen ∧ Doms w w.heap.size A ds := fun i hi => by
    obtain ⟨hc, ht⟩ := hx i (by omega)
    obtain ⟨A, c, ds, e, h2⟩ := node_of ht
    exact ⟨ds, A, c, by rw [hc, e], h2⟩
   obtain ⟨f, hf⟩ := choose_lt (α := List (Int × Int)) hall
   obtain ⟨A0, c0, q, _⟩ := hf 0 (by omega)
   obtain ⟨b, off, rfl⟩ := plain_addr q rfl
   have hlt := lt_of_cell (off := off) (by simpa [Addr.add] using q)
   refine ⟨_, cap, (List.range len).map f, by simp, by simpa using hl, hm, .inr ⟨b, off, rfl, hlt, fun i d hd => ?_⟩⟩
   rw [List.getElem?_map] at hd
   obtain ⟨j, hj, rfl⟩ := Option.map_eq_some_iff.1 hd
   obtain ⟨hjl, hj2⟩ := List.getElem?_eq_some_iff.1 hj
   simp at hjl hj2
   subst hj2
   obtain ⟨A, c, q0, q1, q2, q3⟩ := hf i hjl
   rw [Addr.add_lit] at q0
   exact ⟨A, c, by simpa using q0, q1, q2, q3⟩
theorem clu_of {r : Reach} {b0 : Nat} {v : Value} {d : DataW H} {p : List MemPlace} (hv : Value.okWide Tryz.prog w r b0 24 v) (h : DataW.Trod enc Tryz.prog w 0 (fun _ => true) held 24 v d p) :
  ∃ (A : Option Addr) (c : Nat) (ns : List (List (Int × Int))), v = .agg #[.slice A ns.length c] ∧ ns.length ≤ c ∧ c ≤ maxLen ∧ Nodes w w.heap.size A ns := by
 obtain ⟨cs, rfl, hsz⟩ := okWide_struct Tryz.underlying24 hv
 have c1 : Tryz.prog.cellsOf 24 = 1 := by kernel_rfl
 have c2 : Tryz.prog.cellsOf 22 = 1 := by kernel_rfl
 rw [c1] at hsz
 obtain ⟨l⟩ := cs
 match l, hsz with
 | [c0], _ =>
  obtain ⟨fuel, hf⟩ := h
  obtain ⟨xs, n, _, _, _, hlen, hg⟩ := DataW.trod_struct Tryz.underlying24 hf
  match xs, hlen with
  | [y0], _ =>
   have h1 := hg 0 _ rfl
   simp [c2, Value.cells] at h1
   obtain ⟨A, c, ns, e, h2⟩ := nodes_of h1
   exact ⟨A, c, ns, by rw [e], h2⟩
end
end Go.Proofs.YtgpfmlidchogcaaGreat
