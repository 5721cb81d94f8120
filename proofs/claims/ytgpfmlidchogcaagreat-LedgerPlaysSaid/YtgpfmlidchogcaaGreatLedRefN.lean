/- The document's ledger: another row of holds and another version at once; done ahead of the version. -/
import Derived.Test.YtgpfmlidchogcaaGreatLedRefL
set_option maxRecDepth 100000
set_option linter.unusedVariables false
namespace Go.Proofs.YtgpfmlidchogcaaGreat
open Go.RowKit

section
variable {w w' : World} {r q al tk db ra a b c : Nat} {A : Option Addr} {L : List Hs} {fs : List Fr} {st st' : LS}
theorem RLAt.rowed2 {A' : Option Addr} {c' : Nat} {L' : List Hs} (h : RLAt w r q al tk db ra a b A c L fs st) (hf : Foot (· = r) w w')
  (hb : w'.heap[r]? = some (.cells #[.pointer (some ⟨q, 0, none⟩), .pointer (some ⟨ra, 0, none⟩), .slice A' L'.length c', .int .i64 (st'.ver : Nat)] 85 (0, 0)))
  (e1 : st'.ts = st.ts) (e2 : st'.dr = st.dr) (e3 : st'.qs = st.qs)
  (hrow : w'.ownsRow w.heap.size 44 5 (.slice A' L'.length c') L'.length (L'.flatMap hsC)) (hl : L'.map (·.h) = st'.hs) (hok : LOk st')
  (hsl : ∀ x ∈ L', x ∈ L ∨ (Slots w' w'.heap.size x.A x.h.sl ∧ ∀ g o, x.A = some ⟨g, o, none⟩ → g ∉ [r, q, al, tk, db, ra, a, b] ∧ ∀ o', A' ≠ some ⟨g, o', none⟩)) (hcp : ∀ x ∈ L', x ∈ L ∨ x.h.sl.length ≤ x.c) : RLAt w' r q al tk db ra a b A' c' L' fs st' := by
 obtain ⟨l1, l2, l3, l4, l5, l6, l7, l8⟩ := h.lts
 obtain ⟨ca, ct, cd, hp⟩ := h.pool
 obtain ⟨ca', cb', ha⟩ := h.acc
 have hn := h.ne
 simp only [List.nodup_cons, List.mem_cons, not_or, List.not_mem_nil, not_false_eq_true, List.nodup_nil, and_true] at hn
 obtain ⟨⟨n1, n2, n3, n4, n5, n6, n7⟩, _⟩ := hn
 have hA : ∀ g o, A' = some ⟨g, o, none⟩ → w.heap.size ≤ g := fun g o e => by
  subst e
  exact (hrow.lt g rfl).1
 have hno : ∀ g, w.heap.size ≤ g → g ∉ [r, q, al, tk, db, ra, a, b] := fun g hg hm => by
  simp only [List.mem_cons, List.not_mem_nil, or_false] at hm
  omega
 refine ⟨hok, hb, own_low hrow (Nat.zero_le _), ⟨ca, ct, cd, ?_⟩, ⟨ca', cb', ?_⟩, hl, fun x hx => ?_, fun x hx g o e => ?_, h.ne, fun g o e => hno g (hA g o e), fun x hx => (hcp x hx).elim (h.cap x) id⟩
 ·rw [e1, e2]
  exact hp.off fun i hi e => hf.block i hi fun e2 => by
   rcases e with rfl | rfl | rfl | rfl
   ·exact n1 e2.symm
   ·exact n2 e2.symm
   ·exact n3 e2.symm
   ·exact n4 e2.symm
 ·rw [e3]
  exact ha.off fun i hi e => hf.block i hi fun e2 => by
   rcases e with rfl | rfl | rfl
   ·exact n5 e2.symm
   ·exact n6 e2.symm
   ·exact n7 e2.symm
 ·rcases hsl x hx with hx | hx
  ·exact (h.sl x hx).off2 hf.size fun g o e hg => hf.block g hg fun e2 => by
    have := (h.off x hx g o e).1
    rw [e2] at this; simp at this
  ·exact hx.1
 ·rcases hsl x hx with hx | hx
  ·refine ⟨(h.off x hx g o e).1, fun o' e2 => ?_⟩
   have := h.sllt hx e
   have := hA g o' e2
   omega
  ·exact hx.2 g o e
set_option maxHeartbeats 1000000 in
theorem rdone_raw {v0 v1 v2 : Value} (ver : Nat) (hb : w.heap[r]? = some (.cells #[v0, v1, v2, .int .i64 ver] 85 (0, 0))) (hv : ver ≤ 1000000) :
  Calls Tryz.prog 76 #[.pointer (some ⟨r, 0, none⟩), .int .i64 0] w fun x w' => x = .returned (.int .i64 0) ∧ w' = w.setCell ⟨r, 3, none⟩ (.int .i64 ((ver : Int) + 1)) := by
 have c3 : w.cell? ⟨r, 3, none⟩ = some (.int .i64 ver) := cell_blk (i := 3) hb rfl
 have z3 : w.frozen? ⟨r, 3, none⟩ = false := frozen_blk hb
 have t1 : ((0 : Int) == 0) = true := by simp
 clear hb
 go_enter Tryz.func76, Tryz.ntmps76
 go_wp2
 go_ret
 exact ⟨by first | rfl | trivial, by first | rfl | trivial⟩
end
end Go.Proofs.YtgpfmlidchogcaaGreat
