/- The document's ledger with another pool, other accounts, another row of holds; all its blocks. -/
import Derived.Test.YtgpfmlidchogcaaGreatLedRefC
set_option maxRecDepth 100000
set_option linter.unusedVariables false
namespace Go.Proofs.YtgpfmlidchogcaaGreat
open Go.RowKit
section
variable {w w' : World} {r q al tk db ra a b c q' tk' db' : Nat} {A : Option Addr} {L : List Hs} {fs ts' : List Fr} {st : LS} {qs' : List Qa}
theorem RLAt.lts (h : RLAt w r q al tk db ra a b A c L fs st) : r < w.heap.size ∧ q < w.heap.size ∧ al < w.heap.size ∧ tk < w.heap.size ∧ db < w.heap.size ∧ ra < w.heap.size ∧ a < w.heap.size ∧ b < w.heap.size := by
 obtain ⟨ca, ct, cd, hp⟩ := h.pool
 obtain ⟨ca', cb', ha⟩ := h.acc
 exact ⟨blk_lt h.blk, hp.lt.1, hp.lt.2.1, hp.lt.2.2.1, hp.lt.2.2.2, ha.lt.1, ha.lt.2.1, ha.lt.2.2⟩
theorem RLAt.rowlt (h : RLAt w r q al tk db ra a b A c L fs st) {g o : Nat} (e : A = some ⟨g, o, none⟩) : g < w.heap.size := by
 subst e
 exact (h.row.lt g rfl).2
theorem RLAt.pooled (h : RLAt w r q al tk db ra a b A c L fs st) (hf : Foot (fun i => i = r ∨ i = q ∨ i = tk ∨ i = db ∨ i = b) w w')
  (hb : w'.heap[r]? = some (.cells #[.pointer (some ⟨q', 0, none⟩), .pointer (some ⟨ra, 0, none⟩), .slice A L.length c, .int .i64 (st.ver : Nat)] 85 (0, 0)))
  {dr' : List Bool} (hp : ∃ ca ct cd, RefAt w' q' al tk' db' ca ct cd fs ts' dr') (ha : ∃ ca cb, RQAt w' ra a b ca cb qs') (hq : ∀ x ∈ st.hs, hasQ qs' x.q = true)
  (y1 : q' = q ∨ w.heap.size ≤ q') (y2 : tk' = tk ∨ w.heap.size ≤ tk') (y3 : db' = db ∨ w.heap.size ≤ db') : RLAt w' r q' al tk' db' ra a b A c L fs { st with ts := ts', qs := qs', dr := dr' } := by
 obtain ⟨l1, l2, l3, l4, l5, l6, l7, l8⟩ := h.lts
 have hn := h.ne
 obtain ⟨ca, ct, cd, hp'⟩ := hp
 obtain ⟨z1, z2, z3, z4, z5, z6⟩ := hp'.ne
 simp only [List.nodup_cons, List.mem_cons, not_or, List.not_mem_nil, not_false_eq_true, List.nodup_nil, and_true] at hn
 obtain ⟨⟨n1, n2, n3, n4, n5, n6, n7⟩, ⟨m1, m2, m3, m4, m5, m6⟩, ⟨p1, p2, p3, p4, p5⟩, ⟨o1, o2, o3, o4⟩, ⟨s1, s2, s3⟩, ⟨u1, u2⟩, v1⟩ := hn
 have dq : ∀ i, i < w.heap.size → i ≠ q → i ≠ q' := fun i hi hne => by
  rcases y1 with rfl | y
  ·exact hne
  ·exact Nat.ne_of_lt (Nat.lt_of_lt_of_le hi y)
 have dt : ∀ i, i < w.heap.size → i ≠ tk → i ≠ tk' := fun i hi hne => by
  rcases y2 with rfl | y
  ·exact hne
  ·exact Nat.ne_of_lt (Nat.lt_of_lt_of_le hi y)
 have dd : ∀ i, i < w.heap.size → i ≠ db → i ≠ db' := fun i hi hne => by
  rcases y3 with rfl | y
  ·exact hne
  ·exact Nat.ne_of_lt (Nat.lt_of_lt_of_le hi y)
 have hsub : ∀ g, g < w.heap.size → g ∉ [r, q, al, tk, db, ra, a, b] → g ∉ [r, q', al, tk', db', ra, a, b] := fun g hg hm => by
  simp only [List.mem_cons, not_or, List.not_mem_nil, not_false_eq_true, and_true] at hm ⊢
  obtain ⟨h1, h2, h3, h4, h5, h6, h7, h8⟩ := hm
  exact ⟨h1, dq g hg h2, h3, dt g hg h4, dd g hg h5, h6, h7, h8⟩
 have hout : ∀ g, g ∉ [r, q, al, tk, db, ra, a, b] → ¬ (g = r ∨ g = q ∨ g = tk ∨ g = db ∨ g = b) := fun g hg e => hg (by rcases e with rfl | rfl | rfl | rfl | rfl <;> simp)
 refine ⟨⟨h.ok.asc, h.ok.ok, hq, h.ok.few⟩, hb, own_stays h.row fun i hi => hf.block i (h.row.lt i hi).2 (hout i ?_), ⟨ca, ct, cd, hp'⟩, ha, h.hs, fun x hx => (h.sl x hx).off2 hf.size fun g o e hg => hf.block g hg (hout g (h.off x hx g o e).1), fun x hx g o e => ?_, ?_, fun g o e => ?_, h.cap⟩
 ·rcases h.row.2 with ⟨e1, _⟩ | ⟨g, _, _, e1, _⟩
  ·rw [e1] at hi; simp [Value.ownBlock] at hi
  ·rw [e1] at hi
   simp [Value.ownBlock] at hi
   subst hi
   exact h.rown g 0 (by injection e1)
 ·have h1 := h.off x hx g o e
  refine ⟨?_, h1.2⟩
  rcases h.sl x hx with e0 | ⟨b2, o2, e2, hb2, _⟩
  ·exfalso
   have := (h.ok.ok x.h (by rw [← h.hs]; exact List.mem_map_of_mem hx)).n1
   rw [e0] at this; simp at this
  ·rw [e] at e2; injection e2 with e2; injection e2 with e2
   subst e2
   exact hsub g hb2 h1.1
 ·simp only [List.nodup_cons, List.mem_cons, not_or, List.not_mem_nil, not_false_eq_true, List.nodup_nil, and_true]
  exact ⟨⟨dq r l1 n1, n2, dt r l1 n3, dd r l1 n4, n5, n6, n7⟩, ⟨z1, z2, z3, (dq ra l6 (Ne.symm m4)).symm, (dq a l7 (Ne.symm m5)).symm, (dq b l8 (Ne.symm m6)).symm⟩, ⟨z4, z5, p3, p4, p5⟩, ⟨z6, (dt ra l6 (Ne.symm o2)).symm, (dt a l7 (Ne.symm o3)).symm, (dt b l8 (Ne.symm o4)).symm⟩, ⟨(dd ra l6 (Ne.symm s1)).symm, (dd a l7 (Ne.symm s2)).symm, (dd b l8 (Ne.symm s3)).symm⟩, ⟨u1, u2⟩, v1⟩
 ·exact hsub g (h.rowlt e) (h.rown g o e)
theorem RLAt.sllt (h : RLAt w r q al tk db ra a b A c L fs st) {x : Hs} (hx : x ∈ L) {g o : Nat} (e : x.A = some ⟨g, o, none⟩) : g < w.heap.size := by
 rcases h.sl x hx with e0 | ⟨b2, o2, e2, hb2, _⟩
 ·have := (h.ok.ok x.h (by rw [← h.hs]; exact List.mem_map_of_mem hx)).n1
  rw [e0] at this; simp at this
 ·rw [e] at e2; injection e2 with e2; injection e2 with e2; omega
theorem RLAt.rowed {A' : Option Addr} {c' : Nat} {L' : List Hs} {hs' : List Hd} (h : RLAt w r q al tk db ra a b A c L fs st) (hf : Foot (· = r) w w')
  (hb : w'.heap[r]? = some (.cells #[.pointer (some ⟨q, 0, none⟩), .pointer (some ⟨ra, 0, none⟩), .slice A' L'.length c', .int .i64 (st.ver : Nat)] 85 (0, 0)))
  (hrow : w'.ownsRow w.heap.size 44 5 (.slice A' L'.length c') L'.length (L'.flatMap hsC)) (hl : L'.map (·.h) = hs') (hok : LOk { st with hs := hs' })
  (hsl : ∀ x ∈ L', x ∈ L ∨ (Slots w' w'.heap.size x.A x.h.sl ∧ ∀ g o, x.A = some ⟨g, o, none⟩ → w.heap.size ≤ g ∧ ∀ o', A' ≠ some ⟨g, o', none⟩)) (hcp : ∀ x ∈ L', x ∈ L ∨ x.h.sl.length ≤ x.c) : RLAt w' r q al tk db ra a b A' c' L' fs { st with hs := hs' } := by
 obtain ⟨l1, l2, l3, l4, l5, l6, l7, l8⟩ := h.lts
 obtain ⟨ca, ct, cd, hp⟩ := h.pool
 obtain ⟨ca', cb', ha⟩ := h.acc
 have hn := h.ne
 simp only [List.nodup_cons, List.mem_cons, not_or, List.not_mem_nil, not_false_eq_true, List.nodup_nil, and_true] at hn
 obtain ⟨⟨n1, n2, n3, n4, n5, n6, n7⟩, _⟩ := hn
 have hA : ∀ g o, A' = some ⟨g, o, none⟩ → w.heap.size ≤ g := fun g o e => by
  subst e
  exact (hrow.lt g rfl).1
 have hno : ∀ g, w.heap.size ≤ g → g ∉ [r, q, al, tk, db, ra, a, b] := fun g hg hm => by
  simp only [List.mem_cons, List.not_mem_nil, or_false] at hm
  omega
 refine ⟨hok, hb, own_low hrow (Nat.zero_le _), ⟨ca, ct, cd, hp.off fun i hi e => hf.block i hi fun e2 => ?_⟩, ⟨ca', cb', ha.off fun i hi e => hf.block i hi fun e2 => ?_⟩, hl, fun x hx => ?_, fun x hx g o e => ?_, h.ne, fun g o e => hno g (hA g o e), fun x hx => (hcp x hx).elim (h.cap x) id⟩
 ·rcases e with rfl | rfl | rfl | rfl
  ·exact n1 e2.symm
  ·exact n2 e2.symm
  ·exact n3 e2.symm
  ·exact n4 e2.symm
 ·rcases e with rfl | rfl | rfl
  ·exact n5 e2.symm
  ·exact n6 e2.symm
  ·exact n7 e2.symm
 ·rcases hsl x hx with hx | hx
  ·exact (h.sl x hx).off2 hf.size fun g o e hg => hf.block g hg fun e2 => by
    have := (h.off x hx g o e).1
    rw [e2] at this; simp at this
  ·exact hx.1
 ·rcases hsl x hx with hx | hx
  ·refine ⟨(h.off x hx g o e).1, fun o' e2 => ?_⟩
   have := h.sllt hx e
   have := hA g o' e2
   omega
  ·exact ⟨hno g (hx.2 g o e).1, (hx.2 g o e).2⟩
theorem RLAt.wrote {k : Nat} {x x' : Hs} {hs' : List Hd} (h : RLAt w r q al tk db ra a b A c L fs st) (hk : L[k]? = some x) (hf : Foot (fun i => ∃ o, A = some ⟨i, o, none⟩) w w')
  (hrow : w'.ownsRow 0 44 5 (.slice A L.length c) L.length ((L.set k x').flatMap hsC)) (hl : (L.set k x').map (·.h) = hs') (hok : LOk { st with hs := hs' })
  (hx' : x'.A = x.A ∧ x'.h.sl = x.h.sl ∨ (Slots w' w'.heap.size x'.A x'.h.sl ∧ ∀ g o, x'.A = some ⟨g, o, none⟩ → w.heap.size ≤ g)) (hcp : x'.h.sl.length ≤ x'.c) : RLAt w' r q al tk db ra a b A c (L.set k x') fs { st with hs := hs' } := by
 obtain ⟨l1, l2, l3, l4, l5, l6, l7, l8⟩ := h.lts
 obtain ⟨ca, ct, cd, hp⟩ := h.pool
 obtain ⟨ca', cb', ha⟩ := h.acc
 have hrn : ∀ i, i ∈ [r, q, al, tk, db, ra, a, b] → ¬ ∃ o, A = some ⟨i, o, none⟩ := fun i hi ⟨o, e⟩ => h.rown i o e hi
 have hno : ∀ g, w.heap.size ≤ g → g ∉ [r, q, al, tk, db, ra, a, b] := fun g hg hm => by
  simp only [List.mem_cons, List.not_mem_nil, or_false] at hm
  omega
 have hxm := List.mem_of_getElem? hk
 have hsl : ∀ y ∈ L, Slots w' w'.heap.size y.A y.h.sl := fun y hy => (h.sl y hy).off2 hf.size fun g o e hg => hf.block g hg fun ⟨o', e2⟩ => (h.off y hy g o e).2 o' e2
 refine ⟨hok, ?_, by rw [List.length_set]; exact hrow, ⟨ca, ct, cd, hp.off fun i hi e => hf.block i hi (hrn i ?_)⟩, ⟨ca', cb', ha.off fun i hi e => hf.block i hi (hrn i ?_)⟩, hl, fun y hy => ?_, fun y hy g o e => ?_, h.ne, h.rown, fun y hy => (List.mem_or_eq_of_mem_set hy).elim (h.cap y) fun e => by rw [e]; exact hcp⟩
 ·rw [List.length_set]; exact (hf.block r l1 (hrn r (by simp))).trans h.blk
 ·rcases e with rfl | rfl | rfl | rfl <;> simp
 ·rcases e with rfl | rfl | rfl <;> simp
 ·rcases List.mem_or_eq_of_mem_set hy with hy | rfl
  ·exact hsl y hy
  ·rcases hx' with ⟨e1, e2⟩ | hx'
   ·rw [e1, e2]; exact hsl x hxm
   ·exact hx'.1
 ·rcases List.mem_or_eq_of_mem_set hy with hy | rfl
  ·exact h.off y hy g o e
  ·rcases hx' with ⟨e1, e2⟩ | hx'
   ·rw [e1] at e; exact h.off x hxm g o e
   ·have hg := hx'.2 g o e
    refine ⟨hno g hg, fun o' e2 => ?_⟩
    have := h.rowlt e2
    omega
theorem RLAt.rblt (h : RLAt w r q al tk db ra a b A c L fs st) : ∀ i, RB r q al tk db ra a b A L i → i < w.heap.size := by
 obtain ⟨l1, l2, l3, l4, l5, l6, l7, l8⟩ := h.lts
 rintro i (hi | ⟨o, e⟩ | ⟨x, hx, o, e⟩)
 ·simp only [List.mem_cons, List.not_mem_nil, or_false] at hi
  omega
 ·exact h.rowlt e
 ·exact h.sllt hx e
end
def RL (w : World) (r : Nat) (D : Nat → Prop) (fs : List Fr) (st : LS) : Prop := ∃ q al tk db ra a b A c L, RLAt w r q al tk db ra a b A c L fs st ∧ ∀ i, RB r q al tk db ra a b A L i → D i
def RNext (w w' : World) (r : Nat) (D : Nat → Prop) (fs : List Fr) (st' : LS) : Prop := ∃ D', RL w' r D' fs st' ∧ Foot D w w' ∧ ∀ i, D' i → D i ∨ (w.heap.size ≤ i ∧ i < w'.heap.size)
theorem RL.stay {w w' : World} {r : Nat} {D : Nat → Prop} {fs : List Fr} {st : LS} (h : RL w r D fs st) (hs : w.heap.size ≤ w'.heap.size) (hk : ∀ i, i < w.heap.size → D i → w'.heap[i]? = w.heap[i]?) : RL w' r D fs st := by
 obtain ⟨q, al, tk, db, ra, a, b, A, c, L, h1, h2⟩ := h
 exact ⟨q, al, tk, db, ra, a, b, A, c, L, h1.stay hs fun i hi hr => hk i hi (h2 i hr), h2⟩
theorem RL.keep {w w' : World} {r : Nat} {D : Nat → Prop} {fs : List Fr} {st : LS} (h : RL w r D fs st) (hk : Below w.heap.size w w') : RL w' r D fs st := h.stay hk.size fun i hi _ => hk.block i hi
theorem RL.tight {w : World} {r : Nat} {D : Nat → Prop} {fs : List Fr} {st : LS} (h : RL w r D fs st) : ∃ E, RL w r E fs st ∧ (∀ i, E i → D i) ∧ ∀ i, E i → i < w.heap.size := by
 obtain ⟨q, al, tk, db, ra, a, b, A, c, L, h1, h2⟩ := h
 exact ⟨_, ⟨q, al, tk, db, ra, a, b, A, c, L, h1, fun i hi => hi⟩, h2, h1.rblt⟩
end Go.Proofs.YtgpfmlidchogcaaGreat
