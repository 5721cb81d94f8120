/- The document's ledger: holds go, one behind the other: where the loop stands. -/
import Derived.Test.YtgpfmlidchogcaaGreatLedRefH
set_option maxRecDepth 100000
set_option linter.unusedVariables false
namespace Go.Proofs.YtgpfmlidchogcaaGreat
open Go.RowKit

theorem run_load_hs {oi : Oper} {ρ : Operand → Value} {W : World} {y : Operand} {g o : Nat} {x : Hs} (ho : oi.op = .load 44 y) (hy : ρ y = .pointer (some ⟨g, o, none⟩)) (h : CellsAt W g o (hsC x)) :
  (execOp ρ oi).run Tryz.prog W = .ok (.value (.agg (hsC x).toArray)) W := by
 have hl : (loadCells ⟨g, o, none⟩ 5).run Tryz.prog W = .ok (hsC x).toArray W := run_loadCells_list (P := Tryz.prog) W ⟨g, o, none⟩ (hsC x) fun j v hv => by rw [Addr.add_lit]; exact h j v hv
 have ha : (isAgg 44).run Tryz.prog W = .ok true W := by
  unfold isAgg
  rw [Sem.run_bind, run_underlying Tryz.underlying44 W]
  simp
 unfold execOp
 simp only [ho, hy, Instr.loadAt, Instr.sureAddr, Sem.run_bind, Sem.run_pure, Result.andThen_ok, loadVar, ha, if_true, Tryz.sizeOf44, hl]
theorem wpList_load_hs {ops : Array Oper} {rest : List Oper} {o : Oper} {a : Act} {w : World} {Q : Exit → Act → World → Prop} (hgd : o.guard = none) (y : Operand) (ho : o.op = .load 44 y)
  (g off : Nat) (x : Hs) (hy : a.eval y = .pointer (some ⟨g, off, none⟩)) (hx : CellsAt w g off (hsC x)) (h : wpList Tryz.prog ops Q rest (a.put o.dst (.agg (hsC x).toArray)) w) : wpList Tryz.prog ops Q (o :: rest) a w := by
 refine wpList_plain hgd fun K hK => ?_
 unfold Oper.wp
 rw [run_load_hs ho hy hx]
 exact hK _ _ h
def lenV : Value → Nat
 | .slice _ m _ => m
 | _ => 0
structure LetsAt (w0 wr : World) (r : Nat) (D D1 : Nat → Prop) (fs : List Fr) (st st1 : LS) (p : Hd → Bool) (A : Option Addr) (m cp : Nat) (pre rest : List Hd) (I : List Int) : Prop where
 obj : RL wr r D1 fs st1
 lt : ∀ i, D1 i → i < wr.heap.size
 foot : Foot D w0 wr
 new : ∀ i, D1 i → D i ∨ w0.heap.size ≤ i
 hs : st1.hs = pre ++ rest
 ver : st1.ver = st.ver
 go : (rest.filter p).foldl (LM.letGo fs) st1 = LM.allGo fs st p
 ids : I ++ (rest.filter p).map (·.id) = LM.idsOf st p
 len : I.length = m
 all : pre.length + I.length + rest.length = st.hs.length
 row : wr.ownsRow w0.heap.size 3 1 (.slice A m cp) m (I.map (Value.int .i64))
 off : ∀ g o, A = some ⟨g, o, none⟩ → ¬ D1 g
section
variable {w0 wr w' : World} {r : Nat} {D D1 : Nat → Prop} {fs : List Fr} {st st1 : LS} {p : Hd → Bool} {A : Option Addr} {m cp : Nat} {pre rest : List Hd} {I : List Int} {x : Hd}
theorem LetsAt.start (h : RL w0 r D fs st) (p : Hd → Bool) : ∃ D1, LetsAt w0 w0 r D D1 fs st st p none 0 0 [] st.hs [] := by
 obtain ⟨E, h1, h2, h3⟩ := h.tight
 exact ⟨E, h1, h3, Foot.refl _ _, fun i hi => .inl (h2 i hi), rfl, rfl, rfl, rfl, rfl, by simp, World.ownsRow_nil _ _ _ _, fun g o e => by cases e⟩
theorem LetsAt.keep (h : LetsAt w0 wr r D D1 fs st st1 p A m cp pre rest I) (hk : Below wr.heap.size wr w') : LetsAt w0 w' r D D1 fs st st1 p A m cp pre rest I :=
 ⟨h.obj.keep hk, fun i hi => Nat.lt_of_lt_of_le (h.lt i hi) hk.size, h.foot.trans (Foot.of_below (F := fun _ => False) hk) (fun i hi => hi.elim), h.new, h.hs, h.ver, h.go, h.ids, h.len, h.all, own_keep h.row hk, h.off⟩
theorem LetsAt.no (h : LetsAt w0 wr r D D1 fs st st1 p A m cp pre (x :: rest) I) (hp : p x = false) : LetsAt w0 wr r D D1 fs st st1 p A m cp (pre ++ [x]) rest I := by
 have hf : (x :: rest).filter p = rest.filter p := by rw [List.filter_cons, hp]; rfl
 have h1 := h.go
 have h2 := h.ids
 rw [hf] at h1 h2
 exact ⟨h.obj, h.lt, h.foot, h.new, by rw [h.hs]; simp, h.ver, h1, h2, h.len, by have := h.all; simp at this ⊢; omega, h.row, h.off⟩
theorem LetsAt.at_ (h : LetsAt w0 wr r D D1 fs st st1 p A m cp pre (x :: rest) I) : st1.hs[pre.length]? = some x := by
 rw [h.hs, List.getElem?_append_right (Nat.le_refl _)]; simp
theorem LetsAt.yes {w5 w6 : World} {gg cap : Nat} {o : Obj} (h : LetsAt w0 wr r D D1 fs st st1 p A m cp pre (x :: rest) I) (hp : p x = true)
  (hown : w5.ownsRow w0.heap.size 3 1 (.slice (some ⟨gg, 0, none⟩) (m + 1) cap) (m + 1) (I.map (Value.int .i64) ++ [.int .i64 x.id])) (hg : (wr.alloc o).grownBy w5 (Value.slice A m cp).ownBlock)
  (hat : (Value.slice A m cp).ownBlock = some gg ∨ gg = wr.heap.size + 1) : RL w5 r D1 fs st1 ∧ (RNext w5 w6 r D1 fs (LM.letGo fs st1 x) → ∃ D2, LetsAt w0 w6 r D D2 fs st (LM.letGo fs st1 x) p (some ⟨gg, 0, none⟩) (m + 1) cap pre rest (I ++ [x.id])) := by
 have hob : ∀ i, (Value.slice A m cp).ownBlock = some i → ∃ o, A = some ⟨i, o, none⟩ := fun i hi => by
  rcases h.row.2 with ⟨e, _⟩ | ⟨g, _, _, e, _⟩
  ·rw [e] at hi; cases hi
  ·rw [e] at hi
   simp [Value.ownBlock] at hi
   subst hi
   exact ⟨0, by injection e⟩
 have hsz : (wr.alloc o).heap.size = wr.heap.size + 1 := World.size_alloc _ _
 have hs5 := hg.size
 have hb5 : ∀ i, i < wr.heap.size → D1 i → w5.heap[i]? = wr.heap[i]? := fun i hi hd => by
  refine (hg.block i (by omega) fun e => ?_).trans (Below.heap_alloc wr o i hi)
  obtain ⟨o', e'⟩ := hob i e.symm
  exact h.off i o' e' hd
 have hgl := hown.lt gg rfl
 have hgd : ¬ D1 gg := fun hd => by
  rcases hat with e | e
  ·obtain ⟨o', e'⟩ := hob gg e
   exact h.off gg o' e' hd
  ·have := h.lt gg hd; omega
 refine ⟨h.obj.stay (by omega) hb5, fun hn => ?_⟩
 obtain ⟨D2, k1, k2, k3⟩ := hn
 have hf5 : Foot (fun i => w0.heap.size ≤ i) wr w5 := ((Foot.refl _ wr).alloc o).grown hg fun i hi => .inl (h.row.lt i hi).1
 have hs6 := k2.size
 have hf : (x :: rest).filter p = x :: rest.filter p := by rw [List.filter_cons, hp]; rfl
 have h1 := h.go
 have h2 := h.ids
 rw [hf] at h1 h2
 have hasc : LM.Asc st1.hs := by obtain ⟨_, _, _, _, _, _, _, _, _, _, hh, _⟩ := h.obj; exact hh.ok.asc
 refine ⟨D2, k1, fun i hi => ?_, (h.foot.trans hf5 fun i hi => .inr hi).trans k2 h.new, fun i hi => ?_, ?_, h.ver, h1, by rw [← h2]; simp, by rw [List.length_append, h.len]; rfl, by have := h.all; simp at this ⊢; omega, ?_, fun g o' e hd => ?_⟩
 ·rcases k3 i hi with e | e
  ·have := h.lt i e; omega
  ·omega
 ·rcases k3 i hi with e | e
  ·exact h.new i e
  ·have := h.foot.size
   exact .inr (by omega)
 ·show LM.del x.id st1.hs = _
  rw [LM.del_at hasc h.at_, h.hs]
  simp
 ·rw [List.map_append]
  refine own_stays hown fun i hi => k2.block i (hown.lt i hi).2 ?_
  have : i = gg := by have hi : some gg = some i := hi; injection hi with hi; exact hi.symm
  subst this
  exact hgd
 ·injection e with e; injection e with e
  subst e
  rcases k3 gg hd with e | e
  ·exact hgd e
  ·omega
theorem LetsAt.all_done (h : LetsAt w0 wr r D D1 fs st st1 p A m cp pre [] I) : st1 = LM.allGo fs st p ∧ I = LM.idsOf st p :=
 ⟨h.go, by have := h.ids; simpa using this⟩
theorem LetsAt.next (h : LetsAt w0 wr r D D1 fs st st1 p A m cp pre rest I) : RNext w0 wr r D fs st1 :=
 ⟨D1, h.obj, h.foot, fun i hi => (h.new i hi).imp id fun x => ⟨x, h.lt i hi⟩⟩
end
theorem allGo_up (fs : List Fr) (p : Hd → Bool) (st : LS) : LM.allGo fs (LM.up st) p = LM.up (LM.allGo fs st p) := by
 have h : ∀ (l : List Hd) (s : LS), l.foldl (LM.letGo fs) (LM.up s) = LM.up (l.foldl (LM.letGo fs) s) := by
  intro l
  induction l with
  | nil => exact fun _ => rfl
  | cons x l ih => exact fun s => (ih (LM.letGo fs s x))
 exact h _ _
theorem allGo_none (fs : List Fr) (p : Hd → Bool) (st : LS) (h : LM.idsOf st p = []) : LM.allGo fs st p = st := by
 have h1 : st.hs.filter p = [] := List.map_eq_nil_iff.1 h
 unfold LM.allGo
 rw [h1]; rfl
end Go.Proofs.YtgpfmlidchogcaaGreat
