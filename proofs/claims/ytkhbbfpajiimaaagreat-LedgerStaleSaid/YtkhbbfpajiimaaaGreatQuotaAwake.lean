/- The document's example; accounts beside what came in. -/
import Derived.Test.YtkhbbfpajiimaaaGreatQuotaIn
set_option linter.unusedVariables false
set_option maxRecDepth 100000
namespace Go.Proofs.YtkhbbfpajiimaaaGreat
open Go.RowKit

/-- Accounts that were made since a world. -/
structure QIn (w0 w : World) (p g c : Nat) (l : List Qa) : Prop where
  at_ : QAt w p g c l
  hp : w0.heap.size ≤ p
  hg : w0.heap.size ≤ g
  bel : Below w0.heap.size w0 w
theorem QIn.foot {w0 w w' : World} {p g c : Nat} {l l' : List Qa} (h : QIn w0 w p g c l) (h' : QAt w' p g c l') (hf : Foot (· = g) w w') : QIn w0 w' p g c l' :=
  ⟨h', h.hp, h.hg, h.bel.trans (hf.below h.bel.size fun i hi => by rw [hi]; exact h.hg)⟩
theorem QIn.keep {w0 w w' : World} {p g c : Nat} {l : List Qa} (h : QIn w0 w p g c l) (hb : Below w.heap.size w w') : QIn w0 w' p g c l :=
  ⟨h.at_.keep hb, h.hp, h.hg, h.bel.trans (hb.mono h.bel.size)⟩
theorem QIn.made {w0 w w' : World} {p g c : Nat} {l : List Qa} (hb : Below w0.heap.size w0 w) (h : QAt w' p g c l) (hp : w.heap.size ≤ p) (hg : w.heap.size ≤ g) (hb' : Below w.heap.size w w') : QIn w0 w' p g c l :=
  ⟨h, by have := hb.size; omega, by have := hb.size; omega, hb.trans (hb'.mono hb.size)⟩
theorem newL_m (l : List Un) : (newL l).map (·.m) = l := by
  unfold newL; rw [List.map_map]; conv => rhs; rw [← List.map_id l]
  rfl
theorem set_m {L : List Qa} {k : Nat} {x : Qa} (u : Un) (hx : L[k]? = some x) : (L.set k ⟨x.m, u⟩).map (·.m) = L.map (·.m) := by
  rw [List.map_set]
  refine List.ext_getElem? fun i => ?_
  by_cases e : k = i
  · subst e
    have hk := (List.getElem?_eq_some_iff.1 hx).1
    rw [List.getElem?_set_self (by rw [List.length_map]; exact hk), List.getElem?_map, hx]; rfl
  · rw [List.getElem?_set_ne e]
theorem qAdd_m (L : List Qa) (q : Int) (u : Un) : (qAdd L q u).2.map (·.m) = L.map (·.m) := by
  unfold qAdd
  split
  · rfl
  split
  · rfl
  split
  · rfl
  · rename_i x hx
    split
    · rfl
    · exact set_m _ hx
theorem qSub_m (L : List Qa) (q : Int) (u : Un) : (qSub L q u).2.map (·.m) = L.map (·.m) := by
  unfold qSub
  split
  · rfl
  split
  · rfl
  split
  · rfl
  · rename_i x hx
    split
    · rfl
    · exact set_m _ hx
theorem qDo_m (L : List Qa) (x : Qc) : (qDo L x).2.map (·.m) = L.map (·.m) := by
  unfold qDo
  split
  · exact qSub_m _ _ _
  · exact qAdd_m _ _ _
def awL : List Qa := [⟨⟨4, 8⟩, ⟨3, 2⟩⟩]
theorem awNew (A : Option Addr) (cc B : Nat) (w : World) (h : Uns w B A [⟨4, 8⟩]) (hB : B ≤ w.heap.size) :
    Calls Tryz.prog 31 #[.slice A 1 cc] w fun e w' => ∃ p g c, e = .returned (.tuple #[.pointer (some ⟨p, 0, none⟩), .int .i64 0]) ∧ QAt w' p g c (newL [⟨4, 8⟩]) ∧ w.heap.size ≤ p ∧ w.heap.size ≤ g ∧ Below w.heap.size w w' := by
  refine (new_q A cc B [⟨4, 8⟩] w h hB).mono fun e w' hq => ?_
  rcases hq.2 with ⟨h1, _⟩ | ⟨_, p, g, c, rfl, h2, h3, h4⟩
  · exact absurd h1 (by decide)
  · exact ⟨p, g, c, rfl, h2, h3, h4, hq.1⟩
end Go.Proofs.YtkhbbfpajiimaaaGreat
