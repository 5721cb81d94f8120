import Derived.Deep.DrawnRows
import Derived.Test.YtkkkhonjcbhelaaGreatDoorProP
import Derived.Test.YtkkkhonjcbhelaaGreatDoorProR
set_option maxRecDepth 100000
set_option linter.unusedVariables false
namespace Go.Proofs.YtkkkhonjcbhelaaGreatDoor
section
open Go.RowKit
def nilE : List Fe → Int
 | [] => 0
 | s :: _ => if s.c < 0 then 1 else 3
theorem nilE_turn (ss : List Fe) : turnL moreC [] ss = (nilE ss, []) := by
 cases ss with
 | nil => rfl
 | cons s ss =>
  unfold nilE;rw [turnL];unfold stepL;by_cases h : s.c < 0
  ·simp only [if_pos h];rw [if_neg (by decide)]
  ·simp only [if_neg h, hitL, List.findIdx?_nil];rw [if_neg (by decide)]
theorem is_nilP (cap : Nat) (W : World) : (binOp .eql 22 (.slice none 0 cap) (.slice none 0 0)).run Tryz.prog W = .ok (.bool true) W := by kernel_rfl
theorem is_someP (a : Addr) (cap : Nat) (W : World) : (binOp .eql 22 (.slice (some a) 0 cap) (.slice none 0 0)).run Tryz.prog W = .ok (.bool false) W := by kernel_rfl
theorem app_nilP (a p : Addr) (cap : Nat) (W : World) : (Builtin.append_ #[22, 22] 22 #[.slice (some p) 0 0, .slice (some a) 0 cap]).run Tryz.prog W = .ok (.slice (some p) 0 0) W := by
 obtain ⟨i0, hi, hz0, hz1, hz2⟩ := info_parts info_freeP;simp [Builtin.append_, run_underlying Tryz.underlying22, sizeOf, typeInfo, hi, Builtin.lenOf, Builtin.firstCells];simp [loadCells, loadCellsFrom, storeCells]
set_option maxRecDepth 100000 in
theorem clone_nil (A : Option Addr) (cap : Nat) (w : World) : Calls Tryz.prog 115 #[.slice A 0 cap] w fun e w' => ∃ A' c', e = .returned (.slice A' 0 c') ∧ Below w.heap.size w w' := by
 cases A with
 | none =>
  have h1 := fun W => is_nilP cap W
  go_enter Tryz.func115, Tryz.ntmps115;go_wp2
  go_ret
  exact ⟨_, _, rfl, Below.refl _ _⟩
 | some a =>
  have h1 := fun W => is_someP a cap W
  have h2 := fun p W => app_nilP a p cap W
  have hB := (Below.refl w.heap.size w).alloc (Nat.le_refl _) (.cells #[] 63);go_enter Tryz.func115, Tryz.ntmps115;go_wp2
  go_ret
  exact ⟨_, _, rfl, hB⟩
set_option maxRecDepth 100000 in
set_option maxHeartbeats 1000000 in
theorem turn_nil (A : Option Addr) (cap : Nat) (SA : Option Addr) (scap : Nat) (ss : List Fe) (fv : Value) (w : World) (hs : Fes w w.heap.size SA ss) (hso : ∀ s ∈ ss, FeOk s) :
  Calls Tryz.prog 103 #[.slice A 0 cap, .slice SA ss.length scap, fv] w fun e w' => Below w.heap.size w w' ∧ ∃ A' c' E, E = nilE ss ∧ ((E = 0 ∧ e = .returned (.tuple #[.slice A' 0 c', .int .i64 0])) ∨ (E ≠ 0 ∧ e = .returned (.tuple #[.slice none 0 0, .int .i64 E]))) := by
 have HC := Hq (clone_nil A cap w);have HN := Hq (fun W => numbers_any A cap W.heap.size [] W (.inl rfl) (Nat.le_refl _) ⟨by simp, by simp [spotsL]⟩ (by simp));rcases ss with _ | ⟨s, ss⟩
 ·clear hs hso;go_enter Tryz.func103, Tryz.ntmps103;go_wp2_with fail;refine HC.out.mono ?_;rintro e w1 ⟨A1, c1, rfl, hb1⟩;go_wp2_with fail;refine (HN.out w1).mono ?_;rintro e w2 ⟨M, rfl, hM, hE2, hb2⟩;go_wp2;refine wp_loop_rounds 1 ?_;rw [rounds_succ];go_wp2
  go_ret2
  exact ⟨below_step hb1 hb2, A1, c1, 0, rfl, .inl ⟨rfl, rfl⟩⟩
 ·rcases hs with h | ⟨sb, soff, rfl, hsb, hsc⟩
  ·cases h
  have hsok := hso s (by simp);have hsc0 := hsc 0 s rfl;obtain ⟨q, hq⟩ : ∃ q, (s :: ss).length = q + 1 := ⟨ss.length, rfl⟩
  rw [hq];have t1 : decide ((0 : Int) < (q : Int) + 1) = true := decide_eq_true (by omega);clear hq hso hsc;go_enter Tryz.func103, Tryz.ntmps103;go_wp2_with fail;refine HC.out.mono ?_;rintro e w1 ⟨A1, c1, rfl, hb1⟩;go_wp2_with fail;refine (HN.out w1).mono ?_;rintro e w2 ⟨M, rfl, hM, hE2, hb2⟩;have hB2 := below_step hb1 hb2;obtain ⟨s0, s1, s2, s3⟩ := hsc0.keep (B := w.heap.size) hsb hB2;rw [Nat.zero_mul, Nat.add_zero] at s0 s1 s2 s3;have hEW : EntAt (w2.alloc (.cells #[.int .i64 s.n, .int .i64 s.d, .int .u64 (s.m : Nat), .int .i64 s.c] 64)) M (entsL []) := hE2.out.of_block (Below.heap_alloc _ _ _ hE2.out.lt);have hmiss := hEW.miss hsok.n hsok.d (by simp [entsL]);have HB := Hq (hB2.alloc hB2.size (.cells #[.int .i64 s.n, .int .i64 s.d, .int .u64 (s.m : Nat), .int .i64 s.c] 64));clear hEW hE2 hB2 hb1 hb2 hM hsok hsc0 hsb HC HN;go_wp2;refine wp_loop_rounds 1 ?_;rw [rounds_succ];by_cases hneg : s.c < 0
  ·have t2 : decide (s.c < 0) = true := decide_eq_true hneg;have hE := Hq (show (1 : Int) = nilE (s :: ss) by unfold nilE; simp only; rw [if_pos hneg]);clear hneg;go_wp2
   go_ret2
   exact ⟨HB.out, none, 0, 1, hE.out, .inr ⟨by decide, rfl⟩⟩
  ·have t2 : decide (s.c < 0) = false := decide_eq_false hneg;have hE := Hq (show (3 : Int) = nilE (s :: ss) by unfold nilE; simp only; rw [if_neg hneg]);clear hneg;go_wp2
   go_ret2
   exact ⟨HB.out, none, 0, 3, hE.out, .inr ⟨by decide, rfl⟩⟩
set_option maxRecDepth 100000 in
theorem more_nil (A : Option Addr) (cap : Nat) (SA : Option Addr) (scap : Nat) (ss : List Fe) (w : World) (hs : Fes w w.heap.size SA ss) (hso : ∀ s ∈ ss, FeOk s) :
  Calls Tryz.prog 94 #[.slice A 0 cap, .slice SA ss.length scap] w fun e w' => Below w.heap.size w w' ∧ ∃ A' c' E, E = nilE ss ∧ ((E = 0 ∧ e = .returned (.tuple #[.slice A' 0 c', .int .i64 0])) ∨ (E ≠ 0 ∧ e = .returned (.tuple #[.slice none 0 0, .int .i64 E]))) := by
 have hT := Hq (turn_nil A cap SA scap ss (.func (.func 106) #[] #[]) w hs hso);obtain ⟨q, hlq⟩ : ∃ n, ss.length = n := ⟨_, rfl⟩
 rw [hlq] at hT ⊢;clear hs hso hlq;go_enter Tryz.func94, Tryz.ntmps94;go_wp2_with fail;refine hT.out.mono ?_;rintro e w2 ⟨hb2, A1, c1, E, hEE, ⟨rfl, rfl⟩ | ⟨hE, rfl⟩⟩
 ·have HB := Hq hb2;have HEE := Hq hEE;clear hb2 hEE;go_wp2
  go_ret2
  exact ⟨HB.out, A1, c1, 0, HEE.out, .inl ⟨rfl, rfl⟩⟩
 ·have HB := Hq hb2;have HEE := Hq hEE;clear hb2 hEE;go_wp2
  go_ret2
  exact ⟨HB.out, A1, c1, E, HEE.out, .inr ⟨hE, rfl⟩⟩
theorem pmore_none (A : Option Addr) (c : Nat) (SA : Option Addr) (sc : Nat) (ss : List Fe) (w : World) (hv : View []) (hs : Fes w w.heap.size SA ss) (hso : ∀ s ∈ ss, FeOk s) :
  Calls Tryz.prog 94 #[.slice A 0 c, .slice SA ss.length sc] w fun e w' => Below w.heap.size w w' ∧ ∃ A' c', Hid (Fes w' w'.heap.size A' (turnL moreC [] ss).2 ∧ (turnL moreC [] ss).2.length = 0 ∧ View (turnL moreC [] ss).2 ∨ (turnL moreC [] ss).1 ≠ 0) ∧
   e = .returned (.tuple #[if (turnL moreC [] ss).1 = 0 then .slice A' 0 c' else .slice none 0 0, .int .i64 (turnL moreC [] ss).1]) := by
 refine (more_nil A c SA sc ss w hs hso).mono ?_;rintro e w' ⟨hb, A', c', E, hE, ⟨h0, he⟩ | ⟨h0, he⟩⟩
 ·refine ⟨hb, A', c', Hq (.inl ?_), ?_⟩
  ·rw [nilE_turn]; exact ⟨.inl rfl, rfl, hv⟩
  ·rw [nilE_turn, ← hE, if_pos h0, he, h0]
 ·refine ⟨hb, A', c', Hq (.inr ?_), ?_⟩
  ·rw [nilE_turn, ← hE]; exact h0
  ·rw [nilE_turn, ← hE, if_neg h0, he]
theorem pmore_any (A : Option Addr) (c : Nat) (l : List Fe) (SA : Option Addr) (sc : Nat) (ss : List Fe) (w : World) (h : Fes w w.heap.size A l) (hv : View l) (hn : l.length ≤ 100000) (hs : Fes w w.heap.size SA ss) (hso : ∀ s ∈ ss, FeOk s) (hsn : ss.length ≤ 100000) :
  Calls Tryz.prog 94 #[.slice A l.length c, .slice SA ss.length sc] w fun e w' => Below w.heap.size w w' ∧ ∃ A' c', Hid (Fes w' w'.heap.size A' (turnL moreC l ss).2 ∧ (turnL moreC l ss).2.length = l.length ∧ View (turnL moreC l ss).2 ∨ (turnL moreC l ss).1 ≠ 0) ∧
   e = .returned (.tuple #[if (turnL moreC l ss).1 = 0 then .slice A' l.length c' else .slice none 0 0, .int .i64 (turnL moreC l ss).1]) := by
 rcases h with h | ⟨b, off, rfl, hb, hc⟩
 ·subst h; exact pmore_none A c SA sc ss w hv hs hso
 ·by_cases hl0 : 0 < l.length
  ·refine (more_any b off c SA sc l ss w hc hb hl0 hn hv hs hso hsn).mono ?_;rintro e w' ⟨hb9, h1, h2⟩;by_cases hE : (turnL moreC l ss).1 = 0
   ·obtain ⟨g, cap', he, hf⟩ := h1 hE;exact ⟨hb9, _, cap', Hq (.inl hf.out), by rw [if_pos hE, hE]; exact he⟩
   ·exact ⟨hb9, none, 0, Hq (.inr hE), by rw [if_neg hE]; exact h2 hE⟩
  ·obtain rfl : l = [] := List.length_eq_zero_iff.1 (by omega);exact pmore_none _ c SA sc ss w hv hs hso
end
set_option linter.unusedVariables false
set_option maxRecDepth 100000
section
open Go.RowKit
def atH (A : Option Addr) (k c : Nat) : Option Addr := if c = k then A else A.map (·.add (k * 5))
theorem run_hold_to {oi : Oper} {ρ : Operand → Value} {W : World} {p q : Operand} {A : Option Addr} {n c k : Nat} (ho : oi.op = .slice 24 p none (some q) none) (hp : ρ p = .slice A n c) (hq : ρ q = .int .i64 (k : Nat)) (hk : k ≤ c) :
  (execOp ρ oi).run Tryz.prog W = .ok (.value (.slice (atH A 0 c) k c)) W := by
 have ht : Tryz.prog.underlying 24 = some (.slice (Tryz.prog.elem 24)) := by kernel_rfl
 have he : Tryz.prog.elem 24 = 53 := by kernel_rfl
 unfold execOp;simp only [ho, hp, hq, Option.map_none, Option.map_some, Sem.run_bind, run_sliceAt_slice W _ _ _ _ _ ht, run_slice_h W _ A n c ht .i64 (k : Nat) (by omega) (by omega), he, Tryz.sizeOf53, Result.andThen_ok, Sem.run_pure, sliced, Int.toNat_natCast, atH, Nat.sub_zero, Nat.zero_mul]
theorem run_hold_from {oi : Oper} {ρ : Operand → Value} {W : World} {p q : Operand} {A : Option Addr} {n c k : Nat} (ho : oi.op = .slice 24 p (some q) none none) (hp : ρ p = .slice A n c) (hq : ρ q = .int .i64 (k : Nat)) (hk : k ≤ n) :
  (execOp ρ oi).run Tryz.prog W = .ok (.value (.slice (atH A k c) (n - k) (c - k))) W := by
 have ht : Tryz.prog.underlying 24 = some (.slice (Tryz.prog.elem 24)) := by kernel_rfl
 have he : Tryz.prog.elem 24 = 53 := by kernel_rfl
 unfold execOp;simp only [ho, hp, hq, Option.map_none, Option.map_some, Sem.run_bind, run_sliceAt_slice W _ _ _ _ _ ht, run_slice_l W _ A n c ht .i64 (k : Nat) (by omega) (by omega), he, Tryz.sizeOf53, Result.andThen_ok, Sem.run_pure, sliced, Int.toNat_natCast, atH]
theorem wpList_hold_from {ops : Array Oper} {rest : List Oper} {o : Oper} {a : Act} {w : World} {Q : Exit → Act → World → Prop} (hgd : o.guard = none) {p q : Operand} {A : Option Addr} {n c k : Nat} (ho : o.op = .slice 24 p (some q) none none) (hp : a.eval p = .slice A n c) (hq : a.eval q = .int .i64 (k : Nat)) (hk : k ≤ n)
  (h : wpList Tryz.prog ops Q rest (a.put o.dst (.slice (atH A k c) (n - k) (c - k))) w) : wpList Tryz.prog ops Q (o :: rest) a w := by
 refine wpList_plain hgd fun K hK => ?_
 unfold Oper.wp;rw [run_hold_from ho hp hq hk];exact hK _ _ h
theorem hos_from {w : World} {B : Nat} {A : Option Addr} {L : List Ho} (h : HosIn w B A L) (k c : Nat) (hc : L.length ≤ c) : HosIn w B (atH A k c) (L.drop k) := by
 refine ⟨?_, fun x hx => h.sl x (List.mem_of_mem_drop hx)⟩;unfold atH;by_cases e : c = k
 ·exact .inl (List.drop_eq_nil_of_le (by omega))
 ·rw [if_neg e];rcases h.at_ with rfl | ⟨b, off, rfl, hb, hcc⟩
  ·exact .inl (by simp)
  ·refine .inr ⟨b, off + k * 5, by rw [Option.map_some, Addr.add_lit], hb, fun i x hx => ?_⟩;rw [show off + k * 5 + i * 5 = off + (k + i) * 5 by omega];exact hcc (k + i) x (by rwa [List.getElem?_drop] at hx)
theorem hos_to {w : World} {B : Nat} {A : Option Addr} {L : List Ho} (h : HosIn w B A L) (k c : Nat) (hc : L.length ≤ c) : HosIn w B (atH A 0 c) (L.take k) := by
 refine ⟨?_, fun x hx => h.sl x (List.mem_of_mem_take hx)⟩;rcases (hos_from h 0 c hc).at_ with h | ⟨b, off, e, hb, hcc⟩
 ·rw [List.drop_zero] at h; rw [h]; exact .inl (by simp)
 ·refine .inr ⟨b, off, e, hb, fun i x hx => hcc i x ?_⟩;rw [List.drop_zero];rw [List.getElem?_take] at hx
  split at hx
  ·exact hx
  ·cases hx
open PR
structure StepAt (w : World) (B S : Nat) (lv : List Fe) (g c : Int) (D : List Ho) (q : Int) : Prop where
 v : ∃ A cp, w.heap[S]? = some (.cells #[.slice A lv.length cp] 22 (0, 0)) ∧ Fes w w.heap.size A lv
 l : w.heap[S + 1]? = some (.cells #[.int .i64 g, .int .i64 c] 42 (0, 0))
 d : ∃ A cp, w.heap[S + 2]? = some (.cells #[.slice A D.length cp] 24 (0, 0)) ∧ HosIn w B A D ∧ D.length ≤ cp
 q : w.heap[S + 3]? = some (.cells #[.int .i64 q] 3 (0, 0))
 b : B ≤ S
 view : View lv
abbrev Box4 (S : Nat) : Nat → Prop := fun i => S ≤ i ∧ i ≤ S + 2
theorem StepAt.below {w w' : World} {B S : Nat} {lv : List Fe} {g c : Int} {D : List Ho} {q : Int} (h : StepAt w B S lv g c D q) (hk : Below w.heap.size w w') : StepAt w' B S lv g c D q := by
 obtain ⟨A, cp, h1, h2⟩ := h.v;obtain ⟨A', cp', h3, h4, h5⟩ := h.d;have lS := blk_lt h.q;have e : ∀ i, i ≤ S + 3 → w'.heap[i]? = w.heap[i]? := fun i hi => hk.block i (by omega)
 exact ⟨⟨A, cp, (e _ (by omega)).trans h1, h2.keep hk hk.size⟩, (e _ (by omega)).trans h.l, ⟨A', cp', (e _ (by omega)).trans h3, h4.keep (hk.mono (by have := h.b; omega)) (Nat.le_refl _), h5⟩, (e _ (by omega)).trans h.q, h.b, h.view⟩
theorem over_take {D : List Ho} (t : Int) (hr : D.Pairwise fun a b => a.u ≤ b.u) : (over D t).length ≤ D.length ∧ D.take (over D t).length = over D t := by
 induction D with
 | nil => exact ⟨Nat.le_refl _, rfl⟩
 | cons x D ih =>
  obtain ⟨h1, h2⟩ := List.pairwise_cons.1 hr;obtain ⟨i1, i2⟩ := ih h2;by_cases hx : x.u ≤ t
  ·have e : over (x :: D) t = x :: over D t := by unfold over; rw [List.filter_cons, if_pos (by simpa using hx)]
   rw [e];exact ⟨by simpa using i1, by rw [List.length_cons, List.take_succ_cons, i2]⟩
  ·have e : over (x :: D) t = [] := by
    unfold over;rw [List.filter_eq_nil_iff];intro y hy;rcases List.mem_cons.1 hy with rfl | hy
    ·simpa using hx
    ·have := h1 y hy; simp; omega
   rw [e]; exact ⟨Nat.zero_le _, rfl⟩
theorem sl_take_len (D : List Ho) (k : Nat) : (sl (D.take k)).length ≤ (sl D).length := by
 conv => rhs; rw [← List.take_append_drop k D, sl_app, List.length_append]
 omega
theorem not_int_box {w : World} {p o : Nat} {X : Option Addr} {y z : Nat} {ty : TypeId} {v : Int} (h : w.heap[p]? = some (.cells #[.slice X y z] ty (0, 0))) (hc : w.cell? ⟨p, o, none⟩ = some (.int .i64 v)) : False := by
 cases o with
 | zero => rw [show w.cell? ⟨p, 0, none⟩ = some (.slice X y z) from cell_blk (i := 0) h rfl] at hc; cases hc
 | succ o =>
  simp [World.cell?, h] at hc
theorem not_fe_slice {w : World} {p o : Nat} {X : Option Addr} {y z : Nat} {ty : TypeId} (h : w.heap[p]? = some (.cells #[.slice X y z] ty (0, 0))) (x : Fe) : ¬ FeAt w p o x := fun hf => not_int_box h hf.1
theorem not_fe_two {w : World} {p o : Nat} {u v : Value} {ty : TypeId} (h : w.heap[p]? = some (.cells #[u, v] ty (0, 0))) (x : Fe) : ¬ FeAt w p o x := fun hf => by
 have := hf.2.2.1;simp [World.cell?, h] at this
theorem fes_off {w : World} {A : Option Addr} {l : List Fe} (h : Fes w w.heap.size A l) (P : Nat → Prop) (hP : ∀ b, P b → ∀ o x, ¬ FeAt w b o x) (b0 : Nat) (hb0 : b0 < w.heap.size) (hn : ¬ P b0) :
  ∃ b, b < w.heap.size ∧ ¬ P b ∧ ∀ W : World, W.heap[b]? = w.heap[b]? → b < W.heap.size → Fes W W.heap.size A l := by
 rcases h with h | ⟨b, off, rfl, hb, hc⟩
 ·exact ⟨b0, hb0, hn, fun W _ _ => .inl h⟩
 ·by_cases hnil : l = []
  ·exact ⟨b0, hb0, hn, fun W _ _ => .inl hnil⟩
  ·refine ⟨b, hb, fun e => ?_, fun W hW hb' => .inr ⟨b, off, rfl, hb', fun i x hx => ?_⟩⟩
   ·obtain ⟨x, hx⟩ := get_lt (l := l) (k := 0) (List.length_pos_iff.2 hnil);exact hP b e _ x (hc 0 x hx)
   ·exact ⟨(World.cell?_of_block hW).trans (hc i x hx).1, (World.cell?_of_block hW).trans (hc i x hx).2.1, (World.cell?_of_block hW).trans (hc i x hx).2.2.1, (World.cell?_of_block hW).trans (hc i x hx).2.2.2⟩
set_option maxHeartbeats 8000000 in
theorem steps_cl (S B : Nat) (lv : List Fe) (g c : Int) (D : List Ho) (q t : Int) (w : World) (h : StepAt w B S lv g c D q) (hl : lv.length ≤ 1000) (hm : Many D) (hs : Low (sl D)) (hr : D.Pairwise fun a b => a.u ≤ b.u) (h5 : (sl D).length ≤ 100000)
  (he : (turnL moreC lv (sl (over D t))).1 = 0) (g0 : -1099511627776 ≤ g ∧ g ≤ 1099511627776) (c0 : -1099511627776 ≤ c ∧ c ≤ 1099511627776) :
  Calls Tryz.prog 110 #[.int .i64 t, .pointer (some ⟨S + 2, 0, none⟩), .pointer (some ⟨S, 0, none⟩), .pointer (some ⟨S + 1, 0, none⟩), .pointer (some ⟨S + 3, 0, none⟩)] w fun e w' =>
   ∃ A cp, e = .returned (.tuple #[.slice A lv.length cp, .agg #[.int .i64 (g + gs (mine (over D t) q)), .int .i64 (c + cs (mine (over D t) q))]]) ∧ Fes w' w'.heap.size A (turnL moreC lv (sl (over D t))).2 ∧ (turnL moreC lv (sl (over D t))).2.length = lv.length ∧
    StepAt w' B S (turnL moreC lv (sl (over D t))).2 (g + gs (mine (over D t) q)) (c + cs (mine (over D t) q)) (D.drop (over D t).length) q ∧ Foot (Box4 S) w w' := by
 obtain ⟨A1, p1, b1, hv⟩ := h.v;obtain ⟨A2, p2, b2, hd, hp2⟩ := h.d;have bl := h.l;have bq := h.q;have hB := h.b;have hvw := h.view;clear h;have lq := blk_lt bq;have hrow : ∃ b, b < w.heap.size ∧ b ≠ S + 2 ∧ ∀ W : World, W.heap[b]? = w.heap[b]? → b < W.heap.size → Fes W W.heap.size A1 lv := by
  rcases hv with h | ⟨b, off, rfl, hb, hc⟩
  ·exact ⟨S + 3, lq, by omega, fun W _ _ => .inl h⟩
  ·by_cases hnil : lv = []
   ·exact ⟨S + 3, lq, by omega, fun W _ _ => .inl hnil⟩
   ·refine ⟨b, hb, fun e => ?_, fun W hW hb' => .inr ⟨b, off, rfl, hb', fun i x hx => ?_⟩⟩
    ·subst e;obtain ⟨x, hx⟩ := get_lt (l := lv) (k := 0) (List.length_pos_iff.2 hnil);have h0 := (hc 0 x hx).1;exact not_int_box b2 h0
    ·exact ⟨(World.cell?_of_block hW).trans (hc i x hx).1, (World.cell?_of_block hW).trans (hc i x hx).2.1, (World.cell?_of_block hW).trans (hc i x hx).2.2.1, (World.cell?_of_block hW).trans (hc i x hx).2.2.2⟩
 obtain ⟨rb, hrb, hrS, hrF⟩ := hrow;obtain ⟨O, hO⟩ : ∃ O, w.heap[rb]? = some O := ⟨_, Array.getElem?_eq_getElem hrb⟩
 obtain ⟨Or, hOr⟩ : ∃ f : Nat × Nat → Obj, f = fun _ => O := ⟨_, rfl⟩
 have hFv := Hq (fun (W : World) (h1 : W.heap[rb]? = some (Or (0, 0))) (h2 : rb < W.heap.size) => hrF W (by rw [h1, hO, hOr]) h2);have B_r : Hid (w.heap[rb]? = some (Or (0, 0))) := Hq (by rw [hO, hOr]);obtain ⟨n, hn⟩ := nx (lv.length);obtain ⟨m, hm0⟩ : ∃ m, m = D.length := ⟨_, rfl⟩
 obtain ⟨k, hk⟩ := nx ((over D t).length);obtain ⟨ss, hss⟩ := nx (sl (over D t));obtain ⟨u, hu⟩ := nx (ss.length);obtain ⟨lv2, hlv2⟩ := nx ((turnL moreC lv ss).2);obtain ⟨G2, hG2⟩ := nx (g + gs (mine (over D t) q));obtain ⟨C2, hC2⟩ := nx (c + cs (mine (over D t) q));obtain ⟨D2, hD2⟩ := nx (D.drop k);have hHo : ∀ W, Below S w W → HosIn W W.heap.size A2 D := fun W hW => (hd.keep (hW.mono hB) (Nat.le_refl _)).keep (Below.refl _ _) (by have := hW.size; omega)
 have hen0 := fun W (hW : Below S w W) => ended_any A2 p2 D t W (hHo W hW).at_ hm.n hr
 have htk : k ≤ m ∧ D.take k = over D t := by
  have hov : (over D t).length ≤ D.length ∧ D.take (over D t).length = over D t := over_take t hr;rw [hk, hm0]; exact hov
 have hss6 : ss.length ≤ 100000 := by
  rw [hss, ← htk.2];have := sl_take_len D k;omega
 have hls : Low ss := fun s hsm => hs s (by rw [hss] at hsm; exact over_sub D t s hsm)
 have hEn := Hq (fun W (hW : Below S w W) => show Calls Tryz.prog 111 #[.slice A2 m p2, .int .i64 t] W (fun e w' => e = .returned (.int .i64 (k : Nat)) ∧ W = w') from by
  rw [hm0, hk]; exact (hen0 W hW).mono fun e w' h => ⟨h.1, h.2.1⟩)
 have hSl := Hq (fun W (hW : Below S w W) => show Calls Tryz.prog 95 #[.slice (atH A2 0 p2) k p2] W (fun e w' => ∃ A' c', e = .returned (.slice A' u c') ∧ Fes w' w'.heap.size A' ss ∧ Below W.heap.size W w') from by
  have h9 := slotsOf_any (atH A2 0 p2) p2 (D.take k) W (hos_to (hHo W hW) k p2 hp2) (hm.take k);rw [List.length_take, Nat.min_eq_left (by omega), htk.2, ← hss, ← hu] at h9;exact h9)
 have hMo := Hq (fun (A5 : Option Addr) (c5 : Nat) W (h1 : Fes W W.heap.size A5 ss) (h2 : Fes W W.heap.size A1 lv) => show Calls Tryz.prog 94 #[.slice A1 n p1, .slice A5 u c5] W (fun e w' => ∃ A' c', e = .returned (.tuple #[.slice A' n c', .int .i64 0]) ∧ Hid (Fes w' w'.heap.size A' lv2 ∧ lv2.length = n ∧ View lv2) ∧ Below W.heap.size W w') from by
  have h9 := pmore_any A1 p1 lv A5 c5 ss W h2 hvw (by omega) h1 (fun s hsm => (hls s hsm).1) hss6;rw [hss, he, ← hss, ← hlv2, ← hn, ← hu] at h9;refine h9.mono ?_;rintro e w' ⟨hb, A', c', hf, rfl⟩;refine ⟨A', c', by simp, Hq ?_, hb⟩;rcases hf.out with hf | hf
  ·exact hf
  ·exact absurd rfl hf)
 have hPl := Hq (fun W (hW : Below S w W) => show Calls Tryz.prog 112 #[.agg #[.int .i64 g, .int .i64 c], .slice (atH A2 0 p2) k p2, .int .i64 q] W (fun e w' => e = .returned (.agg #[.int .i64 G2, .int .i64 C2]) ∧ Below W.heap.size W w') from by
  have h9 := plus_any g c q (atH A2 0 p2) p2 (D.take k) W (hos_to (hHo W hW) k p2 hp2) (hm.take k) (fun s hsm => hls s (by rw [hss, ← htk.2]; exact hsm)) g0 c0;rw [List.length_take, Nat.min_eq_left (by omega), htk.2, ← hG2, ← hC2] at h9;exact h9)
 have hkp : k ≤ p2 := by omega
 have hkm : k ≤ m := htk.1;have HD := Hq (show ∀ W, Below S w W → HosIn W B (atH A2 k p2) D2 ∧ D2.length = m - k ∧ D2.length ≤ p2 - k from fun W hW => by
  rw [hD2];have h9 := hos_from (hd.keep (hW.mono hB) (Nat.le_refl _)) k p2 hp2;exact ⟨h9, by rw [List.length_drop, hm0], by rw [List.length_drop]; omega⟩)
 rw [← hn] at b1 ⊢;rw [← hm0] at b2;rw [← hss, ← hlv2, ← hG2, ← hC2, ← hk, ← hD2];have HBq := Hq hB;have HX := Hq (Ai hvw hn);clear hv hd hp2 hvw hl hm hs hr h5 he g0 c0 hrF hO hOr hn hm0 hk hss hu hlv2 hG2 hC2 hD2 hHo hen0 htk hss6 hls;obtain ⟨w1, hw1⟩ := nx (w);have B_v : Hid (w1.heap[S]? = some (.cells #[.slice A1 n p1] 22 (0, 0))) := Hq (by rw [hw1]; exact b1);have B_l : Hid (w1.heap[S + 1]? = some (.cells #[.int .i64 g, .int .i64 c] 42 (0, 0))) := Hq (by rw [hw1]; exact bl);have B_s : Hid (w1.heap[S + 2]? = some (.cells #[.slice A2 m p2] 24 (0, 0))) := Hq (by rw [hw1]; exact b2);have B_q : Hid (w1.heap[S + 3]? = some (.cells #[.int .i64 q] 3 (0, 0))) := Hq (by rw [hw1]; exact bq);replace B_r : Hid (w1.heap[rb]? = some (Or (0, 0))) := Hq (by rw [hw1]; exact B_r.out);have HBel : Hid (Below S w w1) := Hq (by rw [hw1]; exact Below.refl _ _);have HFt : Hid (Foot (Box4 S) w1 w1) := Hq (Foot.refl _ _);have hreal : w1.heap.size ≤ w1.heap.size := Nat.le_refl _;have l_q : S + 3 < w1.heap.size := by rw [hw1]; exact lq
 have l_r : rb < w1.heap.size := by rw [hw1]; exact hrb
 have l_v : S < w1.heap.size := by omega
 have l_l : S + 1 < w1.heap.size := by omega
 have l_s : S + 2 < w1.heap.size := by omega
 have hlow : S ≤ w1.heap.size := by omega
 have g_v : S ≤ S := Nat.le_refl _;have g_l : S ≤ S + 1 := by omega
 have g_s : S ≤ S + 2 := by omega
 have Hw1 := Hq hw1;rw [← hw1];clear b1 bl b2 bq hw1 lq hrb hB;go_enter Tryz.func110, Tryz.ntmps110;go_wp2_with fail;obtain ⟨V1, hV1⟩ := nx (w1.alloc (.cells #[.int .i64 0, .int .i64 0] 42));rw [← hV1];have hzV1 := sz1 hV1;replace HBel := be1 hV1 HBel hlow;replace B_v := bk1 hV1 B_v l_v;replace B_l := bk1 hV1 B_l l_l;replace B_s := bk1 hV1 B_s l_s;replace B_q := bk1 hV1 B_q l_q;replace B_r := bk1 hV1 B_r l_r;have B_n := Hq (new10 hV1);obtain ⟨N_n, hN_n⟩ := nx (w1.heap.size);(try rw [← hN_n]);rw [← hN_n] at B_n;have d_v_n : S < N_n := by omega
 have d_l_n : S + 1 < N_n := by omega
 have d_s_n : S + 2 < N_n := by omega
 have d_q_n : S + 3 < N_n := by omega
 have d_r_n : rb < N_n := by omega
 replace l_v : S < V1.heap.size := by omega
 replace l_l : S + 1 < V1.heap.size := by omega
 replace l_s : S + 2 < V1.heap.size := by omega
 replace l_q : S + 3 < V1.heap.size := by omega
 replace l_r : rb < V1.heap.size := by omega
 have l_n : N_n < V1.heap.size := by omega
 have g_n : S ≤ N_n := by omega
 replace hlow : S ≤ V1.heap.size := by omega
 replace HFt : Hid (Foot (Box4 S) w1 V1) := Hq (by rw [hV1]; exact (HFt.out.alloc _));replace hreal : w1.heap.size ≤ V1.heap.size := by omega
 have G_n : w1.heap.size ≤ N_n := by omega
 clear hV1 hzV1 hN_n;have s0 : V1.cell? ⟨S + 2, 0, none⟩ = some (.slice A2 m p2) := cell_blk (i := 0) B_s.out rfl;refine held_begin (fun w' : World => w'.cell? ⟨S + 2, 0, none⟩ = some (.slice A2 m p2)) (by kernel_rfl) ?_;have hBh0 : Below V1.heap.size V1 V1.drew := (Below.refl _ _).drew;have hSh0 : (fun w' : World => w'.cell? ⟨S + 2, 0, none⟩ = some (.slice A2 m p2)) V1.drew := s0;refine tkA 0 9 hSh0 ?_;refine tkA 1 10 hSh0 ?_;refine tkA 2 11 hSh0 ?_;refine held_one 3 rfl (by kernel_rfl) (by rfl) (fun K hK => ?_);go_simp
 go_at_call 111
 refine (hEn.out _ (HBel.out.trans (hBh0.mono hlow))).mono ?_;rintro e w' ⟨rfl, rfl⟩;refine hK.out _ _ hSh0 ?_;clear hK K;refine tkH ?_ 4 13 ?_ hSh0 ?_;rotate_left
 ·rintro w' x0;refine Eq.trans (run_hold_to (k := k) (by rfl) (by rfl) (by rfl) hkp) ?_;(with_reducible rfl)
 simp only [Act.put, pzA, pzB, pzC];refine tkA 5 8 hSh0 ?_;refine wpAnyH_done (by kernel_rfl) ?_ _;obtain ⟨D2, hD9⟩ : ∃ D, D = V1.drew := ⟨_, rfl⟩
 have hb9 : Below V1.heap.size V1 D2 := by rw [hD9]; exact hBh0
 rw [← hD9];clear hD9;clear s0;have hs9 := hb9.size;replace HBel := bt9 HBel hb9 hlow;replace B_v := bb9 hb9 B_v l_v;replace B_l := bb9 hb9 B_l l_l;replace B_s := bb9 hb9 B_s l_s;replace B_q := bb9 hb9 B_q l_q;replace B_r := bb9 hb9 B_r l_r;replace B_n := bb9 hb9 B_n l_n;replace l_v : S < D2.heap.size := by omega
 replace l_l : S + 1 < D2.heap.size := by omega
 replace l_s : S + 2 < D2.heap.size := by omega
 replace l_q : S + 3 < D2.heap.size := by omega
 replace l_r : rb < D2.heap.size := by omega
 replace l_n : N_n < D2.heap.size := by omega
 replace HFt : Hid (Foot (Box4 S) w1 D2) := Hq (HFt.out.trans (Foot.of_below (F := fun _ => False) hb9) fun i hi => hi.elim);replace hreal : w1.heap.size ≤ D2.heap.size := by omega
 replace hlow : S ≤ D2.heap.size := by omega
 clear hb9 hs9;have s0 : D2.cell? ⟨S + 2, 0, none⟩ = some (.slice A2 m p2) := cell_blk (i := 0) B_s.out rfl;have sz0 : D2.frozen? ⟨S + 2, 0, none⟩ = false := frozen_blk B_s.out;go_wp2_with (refine wpList_hold_from (k := k) rfl rfl rfl rfl hkm ?_);clear s0 sz0;obtain ⟨S3, hS3⟩ := nx ((D2).setCell ⟨S + 2, 0, none⟩ (.slice (atH A2 k p2) (m - k) (p2 - k)));rw [← hS3];have hzS3 : S3.heap.size = D2.heap.size := by rw [hS3]; simp
 replace HBel : Hid (Below S w S3) := Hq (by rw [hS3]; exact (HBel.out.setCell (g_s) _));replace B_v := Hq (blk_eq hS3 (((Below.heap_setCell _ _ _ _ (show S ≠ S + 2 by omega)).trans B_v.out)));replace B_l := Hq (blk_eq hS3 (((Below.heap_setCell _ _ _ _ (show S + 1 ≠ S + 2 by omega)).trans B_l.out)));replace B_q := Hq (blk_eq hS3 (((Below.heap_setCell _ _ _ _ (show S + 3 ≠ S + 2 by omega)).trans B_q.out)));replace B_r := Hq (blk_eq hS3 (((Below.heap_setCell _ _ _ _ (show rb ≠ S + 2 by omega)).trans B_r.out)));replace B_n := Hq (blk_eq hS3 (((Below.heap_setCell _ _ _ _ (show N_n ≠ S + 2 by omega)).trans B_n.out)));replace B_s : Hid (S3.heap[S + 2]? = some (.cells #[.slice (atH A2 k p2) (m - k) (p2 - k)] 24 (0, 0))) := Hq (by rw [hS3]; exact (blk_put (i := 0) _ B_s.out));replace l_v : S < S3.heap.size := by omega
 replace l_l : S + 1 < S3.heap.size := by omega
 replace l_s : S + 2 < S3.heap.size := by omega
 replace l_q : S + 3 < S3.heap.size := by omega
 replace l_r : rb < S3.heap.size := by omega
 replace l_n : N_n < S3.heap.size := by omega
 replace HFt : Hid (Foot (Box4 S) w1 S3) := Hq (by rw [hS3]; exact (HFt.out.setCell (p := ⟨S + 2, 0, none⟩) (.inl (show S ≤ S + 2 ∧ S + 2 ≤ S + 2 by omega)) _));replace hreal : w1.heap.size ≤ S3.heap.size := by omega
 replace hlow : S ≤ S3.heap.size := by omega
 clear hS3 hzS3;have v0 : S3.cell? ⟨S, 0, none⟩ = some (.slice A1 n p1) := cell_blk (i := 0) B_v.out rfl;refine wp_until (fun w' : World => w'.cell? ⟨S, 0, none⟩ = some (.slice A1 n p1)) 7 (by kernel_rfl) ?_;have hBh0 : Below S3.heap.size S3 S3.drew := (Below.refl _ _).drew;have hSh0 : (fun w' : World => w'.cell? ⟨S, 0, none⟩ = some (.slice A1 n p1)) S3.drew := v0;refine tkB 0 19 hSh0 ?_;refine tkB 1 20 hSh0 ?_;refine until_one 2 rfl (by kernel_rfl) rfl (fun K hK => ?_);go_simp
 go_at_call 95
 refine (hSl.out _ (HBel.out.trans (hBh0.mono hlow))).mono ?_;rintro e wh1 ⟨A5, c5, rfl, hF5, hbh1⟩;have hBh1 : Below S3.heap.size S3 wh1 := below_step hBh0 hbh1;have hSh1 : (fun w' : World => w'.cell? ⟨S, 0, none⟩ = some (.slice A1 n p1)) wh1 := ck hBh1 v0;refine hK.out _ _ (fun _ => hSh1) ?_;clear hK K;refine until_one 3 rfl (by kernel_rfl) rfl (fun K hK => ?_);go_simp
 go_at_call 94
 refine (hMo.out _ _ _ hF5 (hFv.out _ ((hBh1.block _ l_r).trans B_r.out) (by have := hBh1.size; omega))).mono ?_;rintro e wh2 ⟨A6, c6, rfl, hF6, hbh2⟩;have hBh2 : Below S3.heap.size S3 wh2 := below_step hBh1 hbh2;have hSh2 : (fun w' : World => w'.cell? ⟨S, 0, none⟩ = some (.slice A1 n p1)) wh2 := ck hBh2 v0;refine hK.out _ _ (fun _ => hSh2) ?_;clear hK K;refine tkB 4 18 hSh2 ?_;refine tkB 5 23 hSh2 ?_;refine until_free (v := ?_) 6 24 rfl rfl (by kernel_rfl) (by kernel_rfl) (by kernel_rfl) (by kernel_rfl) (fun _ _ _ h => h) ⟨by rfl, ?_⟩ (fun _ => hSh2) ?_;rotate_left
 ·intro w'; go_simp; (try with_reducible rfl)
 simp only [Act.put, pzA, pzB, pzC];refine until_one 7 rfl (by kernel_rfl) rfl (fun K hK => ?_);have zv : wh2.frozen? ⟨S, 0, none⟩ = false := frozen_blk ((hBh2.block _ l_v).trans B_v.out);go_simp;refine hK.out _ _ (fun h => absurd h (by decide)) ?_;clear hK K;refine until_done (by kernel_rfl) ?_;have hb9 := hBh2;clear v0;have hs9 := hb9.size;replace HBel := bt9 HBel hb9 hlow;replace B_v := bb9 hb9 B_v l_v;replace B_l := bb9 hb9 B_l l_l;replace B_s := bb9 hb9 B_s l_s;replace B_q := bb9 hb9 B_q l_q;replace B_r := bb9 hb9 B_r l_r;replace B_n := bb9 hb9 B_n l_n;replace l_v : S < wh2.heap.size := by omega
 replace l_l : S + 1 < wh2.heap.size := by omega
 replace l_s : S + 2 < wh2.heap.size := by omega
 replace l_q : S + 3 < wh2.heap.size := by omega
 replace l_r : rb < wh2.heap.size := by omega
 replace l_n : N_n < wh2.heap.size := by omega
 replace HFt : Hid (Foot (Box4 S) w1 wh2) := Hq (HFt.out.trans (Foot.of_below (F := fun _ => False) hb9) fun i hi => hi.elim);replace hreal : w1.heap.size ≤ wh2.heap.size := by omega
 replace hlow : S ≤ wh2.heap.size := by omega
 clear hb9 hs9 hSh0 hBh0 hSh1 hBh1 hSh2 hBh2;clear zv hF5 B_r l_r;obtain ⟨rx, l_x, hxP, hxF⟩ := fes_off hF6.out.1 (fun i => i = S ∨ i = S + 1 ∨ i = N_n) (fun b hb o x => by rcases hb with rfl | rfl | rfl; exact not_fe_slice B_v.out x; exact not_fe_two B_l.out x; exact not_fe_two B_n.out x) (S + 3) l_q (by omega);obtain ⟨O6, hO6⟩ : ∃ O, wh2.heap[rx]? = some O := ⟨_, Array.getElem?_eq_getElem l_x⟩
 obtain ⟨Ox, hOx⟩ : ∃ f : Nat × Nat → Obj, f = fun _ => O6 := ⟨_, rfl⟩
 have hFx := Hq (fun (W : World) (h1 : W.heap[rx]? = some (Ox (0, 0))) (h2 : rx < W.heap.size) => hxF W (by rw [h1, hO6, hOx]) h2);have B_x : Hid (wh2.heap[rx]? = some (Ox (0, 0))) := Hq (by rw [hO6, hOx]);have hx1 : rx ≠ S := fun e => hxP (.inl e)
 have hx2 : rx ≠ S + 1 := fun e => hxP (.inr (.inl e))
 have hx3 : rx ≠ N_n := fun e => hxP (.inr (.inr e))
 have HL6 := Hq hF6.out.2;clear hF6 hxP hxF hO6 hOx;obtain ⟨S5, hS5⟩ := nx ((wh2).setCell ⟨S, 0, none⟩ (.slice A6 n c6));rw [← hS5];have hzS5 : S5.heap.size = wh2.heap.size := by rw [hS5]; simp
 replace HBel : Hid (Below S w S5) := Hq (by rw [hS5]; exact (HBel.out.setCell (g_v) _));replace B_l := Hq (blk_eq hS5 (((Below.heap_setCell _ _ _ _ (show S + 1 ≠ S by omega)).trans B_l.out)));replace B_s := Hq (blk_eq hS5 (((Below.heap_setCell _ _ _ _ (show S + 2 ≠ S by omega)).trans B_s.out)));replace B_q := Hq (blk_eq hS5 (((Below.heap_setCell _ _ _ _ (show S + 3 ≠ S by omega)).trans B_q.out)));replace B_n := Hq (blk_eq hS5 (((Below.heap_setCell _ _ _ _ (show N_n ≠ S by omega)).trans B_n.out)));replace B_x := Hq (blk_eq hS5 (((Below.heap_setCell _ _ _ _ (show rx ≠ S by omega)).trans B_x.out)));replace B_v : Hid (S5.heap[S]? = some (.cells #[.slice A6 n c6] 22 (0, 0))) := Hq (by rw [hS5]; exact (blk_put (i := 0) _ B_v.out));replace l_v : S < S5.heap.size := by omega
 replace l_l : S + 1 < S5.heap.size := by omega
 replace l_s : S + 2 < S5.heap.size := by omega
 replace l_q : S + 3 < S5.heap.size := by omega
 replace l_n : N_n < S5.heap.size := by omega
 replace l_x : rx < S5.heap.size := by omega
 replace HFt : Hid (Foot (Box4 S) w1 S5) := Hq (by rw [hS5]; exact (HFt.out.setCell (p := ⟨S, 0, none⟩) (.inl (show S ≤ S ∧ S ≤ S + 2 by omega)) _));replace hreal : w1.heap.size ≤ S5.heap.size := by omega
 replace hlow : S ≤ S5.heap.size := by omega
 clear hS5 hzS5;have l0 : S5.cell? ⟨S + 1, 0, none⟩ = some (.int .i64 g) := cell_blk (i := 0) B_l.out rfl;have l1 : S5.cell? ⟨S + 1, 1, none⟩ = some (.int .i64 c) := cell_blk (i := 1) B_l.out rfl;have q0 : S5.cell? ⟨S + 3, 0, none⟩ = some (.int .i64 q) := cell_blk (i := 0) B_q.out rfl;go_wp2_with fail;refine (hPl.out S5 HBel.out).mono ?_;rintro e U6 ⟨rfl, hb9⟩;clear l0 l1 q0;have hs9 := hb9.size;replace HBel := bt9 HBel hb9 hlow;replace B_v := bb9 hb9 B_v l_v;replace B_l := bb9 hb9 B_l l_l;replace B_s := bb9 hb9 B_s l_s;replace B_q := bb9 hb9 B_q l_q;replace B_n := bb9 hb9 B_n l_n;replace B_x := bb9 hb9 B_x l_x;replace l_v : S < U6.heap.size := by omega
 replace l_l : S + 1 < U6.heap.size := by omega
 replace l_s : S + 2 < U6.heap.size := by omega
 replace l_q : S + 3 < U6.heap.size := by omega
 replace l_n : N_n < U6.heap.size := by omega
 replace l_x : rx < U6.heap.size := by omega
 replace HFt : Hid (Foot (Box4 S) w1 U6) := Hq (HFt.out.trans (Foot.of_below (F := fun _ => False) hb9) fun i hi => hi.elim);replace hreal : w1.heap.size ≤ U6.heap.size := by omega
 replace hlow : S ≤ U6.heap.size := by omega
 clear hb9 hs9;have l0 : U6.cell? ⟨S + 1, 0, none⟩ = some (.int .i64 g) := cell_blk (i := 0) B_l.out rfl;have l1 : U6.cell? ⟨S + 1, 1, none⟩ = some (.int .i64 c) := cell_blk (i := 1) B_l.out rfl;have lz0 : U6.frozen? ⟨S + 1, 0, none⟩ = false := frozen_blk B_l.out;have lz1 : U6.frozen? ⟨S + 1, 1, none⟩ = false := frozen_blk B_l.out;go_wp2_with fail;clear l0 l1 lz0 lz1;obtain ⟨S7, hS7⟩ := nx (((U6).setCell ⟨S + 1, 0, none⟩ (.int .i64 G2)).setCell ⟨S + 1, 1, none⟩ (.int .i64 C2));rw [← hS7];have hzS7 : S7.heap.size = U6.heap.size := by rw [hS7]; simp
 replace HBel : Hid (Below S w S7) := Hq (by rw [hS7]; exact ((HBel.out.setCell (g_l) _).setCell (g_l) _));replace B_v := Hq (blk_eq hS7 (((Below.heap_setCell _ _ _ _ (show S ≠ S + 1 by omega)).trans ((Below.heap_setCell _ _ _ _ (show S ≠ S + 1 by omega)).trans B_v.out))));replace B_s := Hq (blk_eq hS7 (((Below.heap_setCell _ _ _ _ (show S + 2 ≠ S + 1 by omega)).trans ((Below.heap_setCell _ _ _ _ (show S + 2 ≠ S + 1 by omega)).trans B_s.out))));replace B_q := Hq (blk_eq hS7 (((Below.heap_setCell _ _ _ _ (show S + 3 ≠ S + 1 by omega)).trans ((Below.heap_setCell _ _ _ _ (show S + 3 ≠ S + 1 by omega)).trans B_q.out))));replace B_n := Hq (blk_eq hS7 (((Below.heap_setCell _ _ _ _ (show N_n ≠ S + 1 by omega)).trans ((Below.heap_setCell _ _ _ _ (show N_n ≠ S + 1 by omega)).trans B_n.out))));replace B_x := Hq (blk_eq hS7 (((Below.heap_setCell _ _ _ _ (show rx ≠ S + 1 by omega)).trans ((Below.heap_setCell _ _ _ _ (show rx ≠ S + 1 by omega)).trans B_x.out))));replace B_l : Hid (S7.heap[S + 1]? = some (.cells #[.int .i64 G2, .int .i64 C2] 42 (0, 0))) := Hq (by rw [hS7]; exact (blk_put (i := 1) _ (blk_put (i := 0) _ B_l.out)));replace l_v : S < S7.heap.size := by omega
 replace l_l : S + 1 < S7.heap.size := by omega
 replace l_s : S + 2 < S7.heap.size := by omega
 replace l_q : S + 3 < S7.heap.size := by omega
 replace l_n : N_n < S7.heap.size := by omega
 replace l_x : rx < S7.heap.size := by omega
 replace HFt : Hid (Foot (Box4 S) w1 S7) := Hq (by rw [hS7]; exact ((HFt.out.setCell (p := ⟨S + 1, 0, none⟩) (.inl (show S ≤ S + 1 ∧ S + 1 ≤ S + 2 by omega)) _).setCell (p := ⟨S + 1, 1, none⟩) (.inl (show S ≤ S + 1 ∧ S + 1 ≤ S + 2 by omega)) _));replace hreal : w1.heap.size ≤ S7.heap.size := by omega
 replace hlow : S ≤ S7.heap.size := by omega
 clear hS7 hzS7;have v0 : S7.cell? ⟨S, 0, none⟩ = some (.slice A6 n c6) := cell_blk (i := 0) B_v.out rfl;have l0 : S7.cell? ⟨S + 1, 0, none⟩ = some (.int .i64 G2) := cell_blk (i := 0) B_l.out rfl;have l1 : S7.cell? ⟨S + 1, 1, none⟩ = some (.int .i64 C2) := cell_blk (i := 1) B_l.out rfl;refine wp_until (fun w' : World => w'.cell? ⟨S, 0, none⟩ = some (.slice A6 n c6) ∧ w'.cell? ⟨S + 1, 0, none⟩ = some (.int .i64 G2) ∧ w'.cell? ⟨S + 1, 1, none⟩ = some (.int .i64 C2)) 3 (by kernel_rfl) ?_;have hBh0 : Below S7.heap.size S7 S7.drew := (Below.refl _ _).drew;have hSh0 := Ai v0 (Ai l0 l1);refine tkB 0 29 hSh0 ?_;refine tkB 1 30 hSh0 ?_;refine tkB 2 6 hSh0 ?_;refine until_one 3 rfl (by kernel_rfl) rfl (fun K hK => ?_);have zn0 : S7.drew.frozen? ⟨N_n, 0, none⟩ = false := frozen_blk ((hBh0.block _ l_n).trans B_n.out);have zn1 : S7.drew.frozen? ⟨N_n, 1, none⟩ = false := frozen_blk ((hBh0.block _ l_n).trans B_n.out);have zc0 : S7.drew.cell? ⟨N_n, 0, none⟩ = some (.int .i64 0) := cell_blk (i := 0) ((hBh0.block _ l_n).trans B_n.out) rfl;have zc1 : S7.drew.cell? ⟨N_n, 1, none⟩ = some (.int .i64 0) := cell_blk (i := 1) ((hBh0.block _ l_n).trans B_n.out) rfl;have zc2 : S7.cell? ⟨N_n, 1, none⟩ = some (.int .i64 0) := zc1;have zn2 : S7.frozen? ⟨N_n, 1, none⟩ = false := zn1;go_simp;refine hK.out _ _ (fun h => absurd h (by decide)) ?_;clear hK K;refine until_done (by kernel_rfl) ?_;clear v0 l0 l1;clear hSh0 hBh0;clear zn0 zn1 zc0 zc1 zc2 zn2;obtain ⟨S9, hS9⟩ := nx (((S7).setCell ⟨N_n, 0, none⟩ (.int .i64 G2)).setCell ⟨N_n, 1, none⟩ (.int .i64 C2));rw [← hS9];have hzS9 : S9.heap.size = S7.heap.size := by rw [hS9]; simp
 replace HBel : Hid (Below S w S9) := Hq (by rw [hS9]; exact ((HBel.out.setCell (g_n) _).setCell (g_n) _));replace B_v := Hq (blk_eq hS9 (((Sn S N_n).trans ((Sn S N_n).trans B_v.out))));replace B_l := Hq (blk_eq hS9 (((Below.heap_setCell _ _ _ _ (show S + 1 ≠ N_n by omega)).trans ((Below.heap_setCell _ _ _ _ (show S + 1 ≠ N_n by omega)).trans B_l.out))));replace B_s := Hq (blk_eq hS9 (((Below.heap_setCell _ _ _ _ (show S + 2 ≠ N_n by omega)).trans ((Below.heap_setCell _ _ _ _ (show S + 2 ≠ N_n by omega)).trans B_s.out))));replace B_q := Hq (blk_eq hS9 (((Below.heap_setCell _ _ _ _ (show S + 3 ≠ N_n by omega)).trans ((Below.heap_setCell _ _ _ _ (show S + 3 ≠ N_n by omega)).trans B_q.out))));replace B_x := Hq (blk_eq hS9 (((Sn rx N_n).trans ((Sn rx N_n).trans B_x.out))));replace B_n : Hid (S9.heap[N_n]? = some (.cells #[.int .i64 G2, .int .i64 C2] 42 (0, 0))) := Hq (by rw [hS9]; exact (blk_put (i := 1) _ (blk_put (i := 0) _ B_n.out)));replace l_v : S < S9.heap.size := by omega
 replace l_l : S + 1 < S9.heap.size := by omega
 replace l_s : S + 2 < S9.heap.size := by omega
 replace l_q : S + 3 < S9.heap.size := by omega
 replace l_n : N_n < S9.heap.size := by omega
 replace l_x : rx < S9.heap.size := by omega
 replace HFt : Hid (Foot (Box4 S) w1 S9) := Hq (by rw [hS9]; exact ((HFt.out.setCell (p := ⟨N_n, 0, none⟩) (.inr G_n) _).setCell (p := ⟨N_n, 1, none⟩) (.inr G_n) _));replace hreal : w1.heap.size ≤ S9.heap.size := by omega
 replace hlow : S ≤ S9.heap.size := by omega
 clear hS9 hzS9;obtain ⟨D10, hD10⟩ := nx (S9.drew);rw [← hD10];have hzD10 : D10.heap = S9.heap := by rw [hD10]; rfl
 replace HBel : Hid (Below S w D10) := Hq (by rw [hD10]; exact HBel.out.drew);replace B_v : Hid (D10.heap[S]? = some (.cells #[.slice A6 n c6] 22 (0, 0))) := Hq (by rw [hzD10]; exact B_v.out);replace B_l : Hid (D10.heap[S + 1]? = some (.cells #[.int .i64 G2, .int .i64 C2] 42 (0, 0))) := Hq (by rw [hzD10]; exact B_l.out);replace B_s : Hid (D10.heap[S + 2]? = some (.cells #[.slice (atH A2 k p2) (m - k) (p2 - k)] 24 (0, 0))) := Hq (by rw [hzD10]; exact B_s.out);replace B_q : Hid (D10.heap[S + 3]? = some (.cells #[.int .i64 q] 3 (0, 0))) := Hq (by rw [hzD10]; exact B_q.out);replace B_n : Hid (D10.heap[N_n]? = some (.cells #[.int .i64 G2, .int .i64 C2] 42 (0, 0))) := Hq (by rw [hzD10]; exact B_n.out);replace B_x : Hid (D10.heap[rx]? = some (Ox (0, 0))) := Hq (by rw [hzD10]; exact B_x.out);replace l_v : S < D10.heap.size := by rw [hzD10]; exact l_v
 replace l_l : S + 1 < D10.heap.size := by rw [hzD10]; exact l_l
 replace l_s : S + 2 < D10.heap.size := by rw [hzD10]; exact l_s
 replace l_q : S + 3 < D10.heap.size := by rw [hzD10]; exact l_q
 replace l_n : N_n < D10.heap.size := by rw [hzD10]; exact l_n
 replace l_x : rx < D10.heap.size := by rw [hzD10]; exact l_x
 replace HFt : Hid (Foot (Box4 S) w1 D10) := Hq (by rw [hD10]; exact HFt.out.drew);replace hreal : w1.heap.size ≤ D10.heap.size := by rw [hzD10]; exact hreal
 replace hlow : S ≤ D10.heap.size := by rw [hzD10]; exact hlow
 clear hD10 hzD10;obtain ⟨n0, n1⟩ := cells2 B_n.out;go_wp2;refine bodyPost_ret (v := .tuple #[.slice A6 n c6, .agg #[.int .i64 G2, .int .i64 C2]]) (by simp [results, Tryz.results110, go_sem, n0, n1]) rfl ?_;have hd9 := HD.out _ HBel.out;exact ⟨A6, c6, rfl, hFx.out _ B_x.out l_x, HL6.out.1, ⟨⟨A6, c6, by rw [HL6.out.1]; exact B_v.out, hFx.out _ B_x.out l_x⟩, B_l.out, ⟨atH A2 k p2, p2 - k, by rw [hd9.2.1]; exact B_s.out, hd9.1, hd9.2.2⟩, B_q.out, HBq.out, HL6.out.2⟩, HFt.out⟩
end
set_option linter.unusedVariables false
set_option maxRecDepth 100000
section
open Go.RowKit
open PR
theorem four_new (w : World) (a b c d : Obj) {W : World} (hW : W = (((w.alloc a).alloc b).alloc c).alloc d) {a' b' c' d' : Obj} (ha : ∀ w : World, (w.alloc a).heap[w.heap.size]? = some a') (hb : ∀ w : World, (w.alloc b).heap[w.heap.size]? = some b') (hc : ∀ w : World, (w.alloc c).heap[w.heap.size]? = some c') (hd : ∀ w : World, (w.alloc d).heap[w.heap.size]? = some d') :
  W.heap[w.heap.size]? = some a' ∧ W.heap[w.heap.size + 1]? = some b' ∧ W.heap[w.heap.size + 2]? = some c' ∧ W.heap[w.heap.size + 3]? = some d' ∧ Below w.heap.size w W := by
 subst hW;refine ⟨?_, ?_, ?_, ?_, ?_⟩
 ·exact (Below.heap_alloc _ _ _ (by simp; omega)).trans ((Below.heap_alloc _ _ _ (by simp; omega)).trans ((Below.heap_alloc _ _ _ (by simp)).trans (ha w)))
 ·have := hb (w.alloc a);rw [World.size_alloc] at this;exact (Below.heap_alloc _ _ _ (by simp)).trans ((Below.heap_alloc _ _ _ (by simp)).trans this)
 ·have := hc ((w.alloc a).alloc b);rw [World.size_alloc, World.size_alloc] at this;exact (Below.heap_alloc _ _ _ (by simp)).trans this
 ·have := hd (((w.alloc a).alloc b).alloc c);rw [World.size_alloc, World.size_alloc, World.size_alloc] at this;exact this
 ·exact ((((Below.refl w.heap.size w).alloc (Nat.le_refl _) a).alloc (by simp) b).alloc (by simp; omega) c).alloc (by simp; omega) d
set_option maxHeartbeats 2000000 in
theorem insteps_any (A1 : Option Addr) (p1 : Nat) (lv : List Fe) (g c : Int) (A2 : Option Addr) (p2 : Nat) (D : List Ho) (q : Int) (w : World) (hv : Fes w w.heap.size A1 lv) (hview : View lv) (hd : HosIn w w.heap.size A2 D) (hp : D.length ≤ p2) :
  Calls Tryz.prog 97 #[.slice A1 lv.length p1, .agg #[.int .i64 g, .int .i64 c], .slice A2 D.length p2, .int .i64 q] w fun e w' =>
   e = .returned (.func (.func 110) #[] #[.pointer (some ⟨w.heap.size + 2, 0, none⟩), .pointer (some ⟨w.heap.size, 0, none⟩), .pointer (some ⟨w.heap.size + 1, 0, none⟩), .pointer (some ⟨w.heap.size + 3, 0, none⟩)]) ∧ StepAt w' w.heap.size w.heap.size lv g c D q ∧ Below w.heap.size w w' ∧ w.heap.size + 4 ≤ w'.heap.size := by
 obtain ⟨n, hn⟩ := nx (lv.length);obtain ⟨m, hm⟩ := nx (D.length);obtain ⟨W, hW⟩ := nx ((((w.alloc (.cells #[.slice A1 n p1] 22)).alloc (.cells #[.int .i64 g, .int .i64 c] 42)).alloc (.cells #[.slice A2 m p2] 24)).alloc (.cells #[.int .i64 q] 3));obtain ⟨h1, h2, h3, h4, hB⟩ := four_new w _ _ _ _ hW (a' := .cells #[.slice A1 n p1] 22 (0, 0)) (b' := .cells #[.int .i64 g, .int .i64 c] 42 (0, 0)) (c' := .cells #[.slice A2 m p2] 24 (0, 0)) (d' := .cells #[.int .i64 q] 3 (0, 0)) (fun w => heap_alloc_new w _) (fun w => heap_alloc_new w _) (fun w => heap_alloc_new w _) (fun w => heap_alloc_new w _);have HS : Hid (StepAt W w.heap.size w.heap.size lv g c D q ∧ Below w.heap.size w W ∧ w.heap.size + 4 ≤ W.heap.size) := Hq ⟨⟨⟨A1, p1, by rw [← hn]; exact h1, hv.keep hB hB.size⟩, h2, ⟨A2, p2, by rw [← hm]; exact h3, hd.keep hB (Nat.le_refl _), hp⟩, h4, Nat.le_refl _, hview⟩, hB, by have := blk_lt h4; omega⟩;have HW := Hq hW;rw [← hn, ← hm];clear h1 h2 h3 h4 hB hv hd hp hview hn hm hW;go_enter Tryz.func97, Tryz.ntmps97;go_wp2;rw [← HW.out]
 go_ret
 exact ⟨rfl, HS.out⟩
end
end Go.Proofs.YtkkkhonjcbhelaaGreatDoor
