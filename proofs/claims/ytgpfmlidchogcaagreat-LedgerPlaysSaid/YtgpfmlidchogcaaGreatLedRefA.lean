/- The document's ledger in memory; where a hold is. -/
import Derived.Test.YtgpfmlidchogcaaGreatLedActM
import Derived.Test.YtgpfmlidchogcaaGreatLedRefU
import Derived.Test.YtgpfmlidchogcaaGreatPoolRefZ
import Derived.Test.YtgpfmlidchogcaaGreatQuotaRefZ
set_option maxRecDepth 100000
set_option linter.unusedVariables false
namespace Go.Proofs.YtgpfmlidchogcaaGreat
open Go.RowKit
def LM.findN (x : Int) : List Hd → Option Nat
 | [] => none
 | h :: l => if h.id = x then some 0 else (LM.findN x l).map (· + 1)
theorem LM.findN_find : ∀ (x : Int) (hs : List Hd), LM.find x hs = (LM.findN x hs).bind fun k => hs[k]?
 | x, [] => rfl
 | x, h :: l => by
  unfold LM.find LM.findN
  rw [List.find?_cons]
  by_cases e : h.id = x
  ·have e1 : (h.id == x) = true := by simpa using e
   rw [e1, if_pos e]; rfl
  ·have e1 : (h.id == x) = false := by simpa using e
   rw [e1, if_neg e]
   have ih := LM.findN_find x l
   unfold LM.find at ih
   simp only
   rw [ih]
   cases LM.findN x l <;> simp
theorem LM.findN_hit : ∀ {x : Int} {hs : List Hd} {k : Nat}, (∀ (j : Nat) (g : Hd), j < k → hs[j]? = some g → g.id ≠ x) → ∀ {h : Hd}, hs[k]? = some h → h.id = x → LM.findN x hs = some k
 | x, [], k, _, h, hk, _ => by simp at hk
 | x, g :: l, 0, _, h, hk, e => by simp at hk; subst hk; unfold LM.findN; rw [if_pos e]
 | x, g :: l, k + 1, hn, h, hk, e => by
  have h0 := hn 0 g (by omega) rfl
  unfold LM.findN
  rw [if_neg h0, LM.findN_hit (k := k) (fun j b hj hb => hn (j + 1) b (by omega) (by simpa using hb)) (by simpa using hk) e]
  rfl
theorem LM.findN_miss : ∀ {x : Int} {hs : List Hd}, (∀ g ∈ hs, g.id ≠ x) → LM.findN x hs = none
 | x, [], _ => rfl
 | x, g :: l, hn => by
  unfold LM.findN
  rw [if_neg (hn g (List.mem_cons_self ..)), LM.findN_miss fun b hb => hn b (List.mem_cons_of_mem _ hb)]
  rfl
def LM.findI (x : Int) (hs : List Hd) : Int := match LM.findN x hs with
 | some k => (k : Int)
 | none => -1
structure RLAt (w : World) (r q al tk db ra a b : Nat) (A : Option Addr) (c : Nat) (L : List Hs) (fs : List Fr) (st : LS) : Prop where
 ok : LOk st
 blk : w.heap[r]? = some (.cells #[.pointer (some ⟨q, 0, none⟩), .pointer (some ⟨ra, 0, none⟩), .slice A L.length c, .int .i64 (st.ver : Nat)] 85 (0, 0))
 row : w.ownsRow 0 44 5 (.slice A L.length c) L.length (L.flatMap hsC)
 pool : ∃ ca ct cd, RefAt w q al tk db ca ct cd fs st.ts st.dr
 acc : ∃ ca cb, RQAt w ra a b ca cb st.qs
 hs : L.map (·.h) = st.hs
 sl : ∀ x ∈ L, Slots w w.heap.size x.A x.h.sl
 off : ∀ x ∈ L, ∀ g o, x.A = some ⟨g, o, none⟩ → g ∉ [r, q, al, tk, db, ra, a, b] ∧ ∀ o', A ≠ some ⟨g, o', none⟩
 ne : [r, q, al, tk, db, ra, a, b].Nodup
 rown : ∀ g o, A = some ⟨g, o, none⟩ → g ∉ [r, q, al, tk, db, ra, a, b]
 cap : ∀ x ∈ L, x.h.sl.length ≤ x.c
section
variable {w w' : World} {r q al tk db ra a b c : Nat} {A : Option Addr} {L : List Hs} {fs : List Fr} {st : LS}
def RB (r q al tk db ra a b : Nat) (A : Option Addr) (L : List Hs) : Nat → Prop := fun i => i ∈ [r, q, al, tk, db, ra, a, b] ∨ (∃ o, A = some ⟨i, o, none⟩) ∨ ∃ x ∈ L, ∃ o, x.A = some ⟨i, o, none⟩
theorem RLAt.stay (h : RLAt w r q al tk db ra a b A c L fs st) (hs' : w.heap.size ≤ w'.heap.size) (hk : ∀ i, i < w.heap.size → RB r q al tk db ra a b A L i → w'.heap[i]? = w.heap[i]?) : RLAt w' r q al tk db ra a b A c L fs st := by
 obtain ⟨ca, ct, cd, hp⟩ := h.pool
 obtain ⟨ca', cb', ha⟩ := h.acc
 refine ⟨h.ok, (hk r (blk_lt h.blk) (.inl (by simp))).trans h.blk, own_stays h.row fun i hi => ?_, ⟨ca, ct, cd, hp.off fun i hi e => hk i hi (.inl (by rcases e with rfl | rfl | rfl | rfl <;> simp))⟩,
  ⟨ca', cb', ha.off fun i hi e => hk i hi (.inl (by rcases e with rfl | rfl | rfl <;> simp))⟩, h.hs, fun x hx => (h.sl x hx).off2 hs' fun g o e hg => hk g hg (.inr (.inr ⟨x, hx, o, e⟩)), h.off, h.ne, h.rown, h.cap⟩
 refine hk i (h.row.lt i hi).2 (.inr (.inl ?_))
 cases A with
 | none => simp [Value.ownBlock] at hi
 | some ad =>
  simp [Value.ownBlock] at hi
  subst hi
  rcases h.row.2 with ⟨e, _⟩ | ⟨g, _, _, e, _⟩
  ·cases e
  ·cases e; exact ⟨0, rfl⟩
theorem RLAt.keep (h : RLAt w r q al tk db ra a b A c L fs st) (hk : Below w.heap.size w w') : RLAt w' r q al tk db ra a b A c L fs st := h.stay hk.size fun i hi _ => hk.block i hi
set_option maxHeartbeats 1000000 in
theorem rfind_l (id : Int) (h : RLAt w r q al tk db ra a b A c L fs st) (hn : L.length ≤ 100000) :
  Calls Tryz.prog 74 #[.pointer (some ⟨r, 0, none⟩), .int .i64 id] w fun e w' => e = .returned (.int .i64 (LM.findI id st.hs)) ∧ w = w' := by
 obtain ⟨R, hR⟩ : ∃ R, R = LM.findI id st.hs := ⟨_, rfl⟩
 rw [← hR]
 obtain ⟨n, hnn⟩ : ∃ n, n = L.length := ⟨_, rfl⟩
 have c2 : w.cell? ⟨r, 2, none⟩ = some (.slice A L.length c) := cell_blk (i := 2) h.blk rfl
 have hel := (els_own (C := hsC) hsC_len (l := L) h.row rfl).1
 have H := Lib.hid (And.intro hR (And.intro hnn (And.intro hel h.hs)))
 rw [← hnn] at c2 hn
 clear hR hnn hel
 go_enter Tryz.func74, Tryz.ntmps74
 go_wp2
 go_loop [5] (fun i => ∃ k : Nat, i = .int .i64 k ∧ k ≤ n ∧ Hid (∀ (j : Nat) (g : Hd), j < k → st.hs[j]? = some g → g.id ≠ id)) (fun i => n - (intOf i).toNat)
 case atStart => exact ⟨0, rfl, by omega, Lib.hid fun j g hj _ => by omega⟩
 case round =>
  obtain ⟨k, rfl, hk, hN⟩ := hrel
  by_cases hlt : k < n
  ·have hL := H.out.2.1
   obtain ⟨x, hx⟩ := get_lt (l := L) (k := k) (by rw [← hL]; exact hlt)
   have hxk : st.hs[k]? = some x.h := by rw [← H.out.2.2.2, List.getElem?_map, hx]; rfl
   obtain ⟨bb, off, e6, hb, hc⟩ := H.out.2.2.1.at_ hx
   have f0 := hc k x hx 0 _ rfl
   rw [Nat.add_zero] at f0
   obtain ⟨xi, exi⟩ : ∃ v, v = x.h.id := ⟨_, rfl⟩
   rw [← exi] at f0
   have HX := Lib.hid (And.intro hxk exi)
   subst e6
   have j1 : (k : Int) < (n : Int) := by omega
   have t1 : decide (k < n) = true := decide_eq_true hlt
   clear hL hx hxk hc exi
   by_cases he : xi = id
   ·have t2 : (xi == id) = true := by simpa using he
    have eR : R = (k : Int) := by
     rw [H.out.1]
     unfold LM.findI
     rw [LM.findN_hit hN.out HX.out.1 (by rw [← HX.out.2]; exact he)]
    subst eR
    clear he
    go_wp2
    go_ret
    exact ⟨by first | rfl | trivial, by first | rfl | trivial⟩
   ·have t2 : (xi == id) = false := beq_eq_false_iff_ne.2 he
    have hN2 : Hid (∀ (j : Nat) (g : Hd), j < k + 1 → st.hs[j]? = some g → g.id ≠ id) := Lib.hid fun j g hj hg => by
     by_cases e : j = k
     ·subst e; rw [HX.out.1] at hg; cases hg; rw [← HX.out.2]; exact he
     ·exact hN.out j g (by omega) hg
    clear he
    go_wp2
    go_round
    case rel => exact ⟨k + 1, by go_num, by omega, hN2⟩
    case measure => simp [intOf]; omega
  ·obtain rfl : k = n := by omega
   have t1 : decide (k < k) = false := decide_eq_false (by omega)
   have eR : R = -1 := by
    rw [H.out.1]
    unfold LM.findI
    rw [LM.findN_miss fun g hg => by
     obtain ⟨j, hj⟩ := List.mem_iff_getElem?.1 hg
     exact hN.out j g (by have := (List.getElem?_eq_some_iff.1 hj).1; rw [← H.out.2.2.2, List.length_map, ← H.out.2.1] at this; exact this) hj]
   subst eR
   clear hlt
   go_wp2
   go_ret
   exact ⟨by first | rfl | trivial, by first | rfl | trivial⟩
end
end Go.Proofs.YtgpfmlidchogcaaGreat
