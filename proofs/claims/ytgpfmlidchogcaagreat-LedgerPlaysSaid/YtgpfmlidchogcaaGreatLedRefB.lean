/- The document's ledger: done, Undrain; has a hold a slot of a node. -/
import Derived.Laws.StructEq
import Derived.Test.YtgpfmlidchogcaaGreatLedRefA
set_option maxRecDepth 100000
set_option linter.unusedVariables false
namespace Go.Proofs.YtgpfmlidchogcaaGreat
open Go.RowKit
section
variable {w w' : World} {r q al tk db ra a b c : Nat} {A : Option Addr} {L : List Hs} {fs : List Fr} {st st' : LS}
theorem RLAt.head (h : RLAt w r q al tk db ra a b A c L fs st) (hs' : w.heap.size ≤ w'.heap.size) (hk : ∀ i, i < w.heap.size → i ≠ r → w'.heap[i]? = w.heap[i]?)
  (hb : w'.heap[r]? = some (.cells #[.pointer (some ⟨q, 0, none⟩), .pointer (some ⟨ra, 0, none⟩), .slice A L.length c, .int .i64 (st'.ver : Nat)] 85 (0, 0)))
  (e1 : st'.ts = st.ts) (e2 : st'.dr = st.dr) (e3 : st'.qs = st.qs) (e4 : st'.hs = st.hs) (hv : st.ver ≤ st'.ver) : RLAt w' r q al tk db ra a b A c L fs st' := by
 obtain ⟨ca, ct, cd, hp⟩ := h.pool
 obtain ⟨ca', cb', ha⟩ := h.acc
 have hn := h.ne
 simp only [List.nodup_cons, List.mem_cons, not_or, List.not_mem_nil, not_false_eq_true, List.nodup_nil, and_true] at hn
 obtain ⟨⟨n1, n2, n3, n4, n5, n6, n7⟩, _⟩ := hn
 refine ⟨⟨by rw [e4]; exact h.ok.asc, by rw [e4]; exact h.ok.ok, by rw [e4, e3]; exact h.ok.q, by rw [e4]; have := h.ok.few; omega⟩, hb, own_stays h.row fun i hi => hk i (h.row.lt i hi).2 ?_, ⟨ca, ct, cd, ?_⟩, ⟨ca', cb', ?_⟩, by rw [e4]; exact h.hs, fun x hx => (h.sl x hx).off2 hs' fun g o e hg => hk g hg ?_, h.off, h.ne, h.rown, h.cap⟩
 ·rcases h.row.2 with ⟨e, _⟩ | ⟨g, _, _, e, _⟩
  ·rw [e] at hi; simp [Value.ownBlock] at hi
  ·rw [e] at hi
   simp [Value.ownBlock] at hi
   subst hi
   have eA : A = some ⟨g, 0, none⟩ := by injection e
   have := h.rown g 0 eA
   intro e2; subst e2; simp at this
 ·rw [e1, e2]; exact hp.off fun i hi e => hk i hi (by rcases e with rfl | rfl | rfl | rfl; exact fun e => n1 e.symm; exact fun e => n2 e.symm; exact fun e => n3 e.symm; exact fun e => n4 e.symm)
 ·rw [e3]; exact ha.off fun i hi e => hk i hi (by rcases e with rfl | rfl | rfl; exact fun e => n5 e.symm; exact fun e => n6 e.symm; exact fun e => n7 e.symm)
 ·have := (h.off x hx g o e).1
  intro e2; subst e2; simp at this
def LM.doneS (e : Int) (st : LS) : LS := if e = 0 then LM.up st else st
set_option maxHeartbeats 1000000 in
theorem rdone_l (e : Int) (h : RLAt w r q al tk db ra a b A c L fs st) (hv : st.ver ≤ 1000000) :
  Calls Tryz.prog 76 #[.pointer (some ⟨r, 0, none⟩), .int .i64 e] w fun x w' => x = .returned (.int .i64 e) ∧ RLAt w' r q al tk db ra a b A c L fs (LM.doneS e st) ∧ Foot (· = r) w w' := by
 obtain ⟨ver, hver⟩ : ∃ v, v = st.ver := ⟨_, rfl⟩
 have c3 : w.cell? ⟨r, 3, none⟩ = some (.int .i64 (st.ver : Nat)) := cell_blk (i := 3) h.blk rfl
 have z3 : w.frozen? ⟨r, 3, none⟩ = false := frozen_blk h.blk
 rw [← hver] at c3 hv
 have H := Lib.hid (And.intro h hver)
 clear h hver
 by_cases he : e = 0
 ·subst he
  have t1 : ((0 : Int) == 0) = true := by simp
  have HP := Lib.hid (show RLAt (w.setCell ⟨r, 3, none⟩ (.int .i64 ((ver : Int) + 1))) r q al tk db ra a b A c L fs (LM.up st) from
   H.out.1.head (by simp) (fun i _ hi => Below.heap_setCell _ _ _ _ (by simpa using hi)) (by
    have h9 := blk_put (i := 3) (.int .i64 ((ver : Int) + 1)) H.out.1.blk
    have e9 : (((LM.up st).ver : Nat) : Int) = (ver : Int) + 1 := by rw [H.out.2]; simp [LM.up]
    rw [e9]; exact h9) rfl rfl rfl rfl (by simp [LM.up]))
  go_enter Tryz.func76, Tryz.ntmps76
  go_wp2
  go_ret
  exact ⟨by first | rfl | trivial, by unfold LM.doneS; rw [if_pos rfl]; exact HP.out, Foot.setCell (F := (· = r)) (Foot.refl _ _) (.inl rfl) _⟩
 ·have t1 : (e == 0) = false := beq_eq_false_iff_ne.2 he
  have HE := Lib.hid he
  clear he
  go_enter Tryz.func76, Tryz.ntmps76
  go_wp2
  go_ret
  exact ⟨by first | rfl | trivial, by unfold LM.doneS; rw [if_neg HE.out]; exact H.out.1, Foot.refl _ _⟩
set_option maxHeartbeats 1000000 in
theorem ron_l (x : Hd) (A' : Option Addr) (c' : Nat) (node : Int) (w : World) (hs : Slots w w.heap.size A' x.sl) (hn : x.sl.length ≤ 1000) :
  Calls Tryz.prog 80 #[hdV x (.slice A' x.sl.length c'), .int .i64 node] w fun e w' => e = .returned (.bool (LM.on node x)) ∧ Below w.heap.size w w' := by
 obtain ⟨R, hR⟩ : ∃ R, R = LM.on node x := ⟨_, rfl⟩
 rw [← hR]
 obtain ⟨n, hnn⟩ : ∃ n, n = x.sl.length := ⟨_, rfl⟩
 obtain ⟨w1, hw1⟩ : ∃ W, W = w.alloc (.cells #[.int .i64 x.id, .int .i64 x.q, .int .i64 x.un, .bool x.run, .slice A' n c'] 44) := ⟨_, rfl⟩
 have hB1 : Below w.heap.size w w1 := by rw [hw1]; exact (Below.refl w.heap.size w).alloc (Nat.le_refl _) _
 have bX : w1.heap[w.heap.size]? = some (.cells #[.int .i64 x.id, .int .i64 x.q, .int .i64 x.un, .bool x.run, .slice A' n c'] 44 (0, 0)) := by rw [hw1]; exact heap_alloc_new w _
 have c4 : w1.cell? ⟨w.heap.size, 4, none⟩ = some (.slice A' n c') := cell_blk (i := 4) bX rfl
 have hs1 := Slots.keep hs hB1 hB1.size
 have H := Lib.hid (And.intro hR (And.intro hnn (And.intro hs1 hB1)))
 have HW := Lib.hid hw1
 have lw : w.heap.size < w1.heap.size := blk_lt bX
 rw [← hnn] at hn ⊢
 clear hR hnn hs hs1 hw1 hB1 bX
 simp only [hdV]
 go_enter Tryz.func80, Tryz.ntmps80
 go_wp2_with fail
 rw [← HW.out]
 go_loop [5] (fun i => ∃ k : Nat, i = .int .i64 k ∧ k ≤ n ∧ Hid (∀ (j : Nat) (s : PM.Sl), j < k → x.sl[j]? = some s → s.n ≠ node)) (fun i => n - (intOf i).toNat)
 case atStart => exact ⟨0, rfl, by omega, Lib.hid fun j s hj _ => by omega⟩
 case round =>
  obtain ⟨k, rfl, hk, hN⟩ := hrel
  by_cases hlt : k < n
  ·have hL := H.out.2.1
   obtain ⟨s, hx⟩ := get_lt (l := x.sl) (k := k) (by rw [← hL]; exact hlt)
   obtain ⟨bb, off, e6, hb, hc⟩ := H.out.2.2.1.at_ hx
   obtain ⟨f0, _, _, _⟩ := hc k s hx
   obtain ⟨sn, esn⟩ : ∃ v, v = s.n := ⟨_, rfl⟩
   rw [← esn] at f0
   have HX := Lib.hid (And.intro hx esn)
   subst e6
   have j1 : (k : Int) < (n : Int) := by omega
   have t1 : decide (k < n) = true := decide_eq_true hlt
   clear hL hx hc esn
   by_cases he : sn = node
   ·have t2 : (sn == node) = true := by simpa using he
    have eR : R = true := by
     rw [H.out.1]
     unfold LM.on
     rw [List.any_eq_true]
     exact ⟨s, List.mem_of_getElem? HX.out.1, by rw [← HX.out.2]; simpa using he⟩
    subst eR
    clear he
    go_wp2
    go_ret
    exact ⟨by first | rfl | trivial, H.out.2.2.2⟩
   ·have t2 : (sn == node) = false := beq_eq_false_iff_ne.2 he
    have hN2 : Hid (∀ (j : Nat) (s : PM.Sl), j < k + 1 → x.sl[j]? = some s → s.n ≠ node) := Lib.hid fun j g hj hg => by
     by_cases e : j = k
     ·subst e; rw [HX.out.1] at hg; cases hg; rw [← HX.out.2]; exact he
     ·exact hN.out j g (by omega) hg
    clear he
    go_wp2
    go_round
    case rel => exact ⟨k + 1, by go_num, by omega, hN2⟩
    case measure => simp [intOf]; omega
  ·obtain rfl : k = n := by omega
   have t1 : decide (k < k) = false := decide_eq_false (by omega)
   have eR : R = false := by
    rw [H.out.1, ← Bool.not_eq_true]
    unfold LM.on
    rw [List.any_eq_true]
    rintro ⟨s, hs, e⟩
    obtain ⟨j, hj⟩ := List.mem_iff_getElem?.1 hs
    exact hN.out j s (by have := (List.getElem?_eq_some_iff.1 hj).1; rw [← H.out.2.1] at this; exact this) hj (by simpa using e)
   subst eR
   clear hlt
   go_wp2
   go_ret
   exact ⟨by first | rfl | trivial, H.out.2.2.2⟩
end
end Go.Proofs.YtgpfmlidchogcaaGreat
