/- The document's ledger: Expire. -/
import Derived.Deep.AppendLies
import Derived.Test.YtgpfmlidchogcaaGreatLedRefI
set_option maxRecDepth 100000
set_option linter.unusedVariables false
namespace Go.Proofs.YtgpfmlidchogcaaGreat
open Go.RowKit

section
variable {w : World} {r : Nat} {D : Nat → Prop} {fs : List Fr} {st : LS}
set_option maxHeartbeats 8000000 in
theorem rexpire_l (now : Int) (h : RL w r D fs st) (hv : st.ver ≤ 90000) :
  Calls Tryz.prog 37 #[.pointer (some ⟨r, 0, none⟩), .int .i64 now] w fun e w' => (∃ A c, e = .returned (.slice A (LM.expire fs st now).1.length c) ∧ w'.ownsRow w.heap.size 3 1 (.slice A (LM.expire fs st now).1.length c) (LM.expire fs st now).1.length ((LM.expire fs st now).1.map (Value.int .i64))) ∧ RNext w w' r D fs (LM.expire fs st now).2 := by
 obtain ⟨i0, hi, hz0, hz1, hz2⟩ := info_parts info_int8
 obtain ⟨E0, hS⟩ := LetsAt.start h (LM.late now)
 obtain ⟨N, hN⟩ : ∃ N, N = st.hs.length := ⟨_, rfl⟩
 have hNf : N ≤ 90000 := by
  obtain ⟨_, _, _, _, _, _, _, _, _, _, hh, _⟩ := h
  have := hh.ok.few; omega
 unfold LM.expire
 obtain ⟨Iq, hIq⟩ : ∃ Iq, Iq = LM.idsOf st (LM.late now) := ⟨_, rfl⟩
 rw [← hIq]
 obtain ⟨SX, hSX⟩ : ∃ SX, SX = if Iq = [] then st else LM.up (LM.allGo fs st (LM.late now)) := ⟨_, rfl⟩
 rw [← hSX]
 have HS0 := Lib.hid hS
 have HN := Lib.hid (And.intro hN hv)
 have HQ := Lib.hid (And.intro hIq hSX)
 clear hS h hN hv hIq hSX
 go_enter Tryz.func37, Tryz.ntmps37
 go_wp2
 go_loopw [5, 6] (fun ids i wr => ∃ (k m : Nat) (A : Option Addr) (cp : Nat), ids = .slice A m cp ∧ i = .int .i64 k ∧ k + m ≤ N ∧ Hid (∃ D1 st1 pre rest I, LetsAt w wr r D D1 fs st st1 (LM.late now) A m cp pre rest I ∧ pre.length = k)) (fun ids i _ => N - ((intOf i).toNat + lenV ids))
 case atStart => exact ⟨0, 0, none, 0, rfl, rfl, by omega, Lib.hid ⟨E0, st, [], st.hs, [], HS0.out, rfl⟩⟩
 case round =>
  obtain ⟨k, m, A2, cp, rfl, rfl, hkm, hI⟩ := hrel
  obtain ⟨D1, st1, pre, rest, I, hX, hk⟩ := hI.out
  obtain ⟨q, al, tk, db, ra, a, b, A, c, L, h1, hD1⟩ := hX.obj
  have c2 := h1.own.2.2.1
  obtain ⟨n, hn⟩ : ∃ n, n = L.length := ⟨_, rfl⟩
  rw [← hn] at c2
  have hln : n = k + rest.length := by
   have h9 := congrArg List.length h1.hs
   rw [List.length_map, hX.hs, List.length_append] at h9
   omega
  have hall := hX.all
  rw [hX.len, hk, ← HN.out.1] at hall
  cases rest with
  | nil =>
   have t1 : decide (k < n) = false := decide_eq_false (by simp at hln; omega)
   obtain ⟨e1, e2⟩ := hX.all_done
   have hlen : m = (LM.idsOf st (LM.late now)).length := by rw [← e2, hX.len]
   have hIq := HQ.out.1
   have HE := Lib.hid (And.intro hX (And.intro e1 (And.intro e2 (And.intro hIq (And.intro hD1 h1)))))
   rw [← hIq] at hlen
   by_cases hm0 : m = 0
   ·have hq0 : Iq = [] := List.eq_nil_of_length_eq_zero (by omega)
    have hSq : SX = st := by rw [HQ.out.2, if_pos hq0]
    have hm1 : m = Iq.length := hlen
    have HSq := Lib.hid (And.intro hSq (And.intro hm1 hq0))
    subst hm0
    clear hX h1 hD1 hn hall hI e1 e2 hIq hln hlen hSq hm1 hq0
    go_wp2
    go_ret
    rw [HSq.out.1, ← HSq.out.2.1]
    refine ⟨⟨A2, cp, rfl, ?_⟩, ?_⟩
    ·have h9 := HE.out.1.row
     rw [HE.out.2.2.1, ← HE.out.2.2.2.1] at h9
     exact h9
    ·have h9 := HE.out.1.next
     rw [HE.out.2.1, allGo_none fs _ st (by rw [← HE.out.2.2.2.1]; exact HSq.out.2.2)] at h9
     exact h9
   ·have hq0 : Iq ≠ [] := fun e => hm0 (by rw [hlen, e]; rfl)
    have hSq : SX = LM.up (LM.allGo fs st (LM.late now)) := by rw [HQ.out.2, if_neg hq0]
    have HSq := Lib.hid (And.intro hSq hlen)
    have t2 : decide ((m : Int) > 0) = true := decide_eq_true (by omega)
    have t3 : decide ((0 : Int) < (m : Int)) = true := decide_eq_true (by omega)
    have t4 : decide (0 < m) = true := decide_eq_true (by omega)
    have c3 := h1.own.2.2.2
    have z3 : wr.frozen? ⟨r, 3, none⟩ = false := frozen_blk h1.blk
    obtain ⟨v, hvv⟩ : ∃ v, v = st1.ver := ⟨_, rfl⟩
    have hvf : v ≤ 90000 := by rw [hvv, hX.ver]; exact HN.out.2
    rw [← hvv] at c3
    have HVV := Lib.hid hvv
    clear hX h1 hD1 hn hall hI e1 e2 hIq hln hm0 hq0 hvv hSq hlen
    go_wp2
    go_ret
    rw [HSq.out.1, ← HSq.out.2]
    have hlen := HSq.out.2
    obtain ⟨hX, e1, e2, hIq, hD1, h1⟩ := HE.out
    have h9 : RLAt (wr.setCell ⟨r, 3, none⟩ (.int .i64 ((v : Int) + 1))) r q al tk db ra a b A c L fs (LM.up st1) :=
     h1.head (by simp) (fun i _ hi => Below.heap_setCell _ _ _ _ (by simpa using hi)) (by
      have h9 := blk_put (i := 3) (.int .i64 ((v : Int) + 1)) h1.blk
      have e9 : (((LM.up st1).ver : Nat) : Int) = (v : Int) + 1 := by rw [HVV.out]; simp [LM.up]
      rw [e9]; exact h9) rfl rfl rfl rfl (by simp [LM.up])
    have hrD : D1 r := hD1 r (.inl (by simp))
    refine ⟨⟨A2, cp, rfl, ?_⟩, ?_⟩
    ·have h8 := hX.row
     rw [e2, ← hIq] at h8
     refine own_stays h8 fun i hi => Below.heap_setCell _ _ _ _ fun e => ?_
     have e : i = r := e
     subst e
     rcases h8.2 with ⟨e5, _⟩ | ⟨g, _, _, e5, _⟩
     ·rw [e5] at hi; cases hi
     ·rw [e5] at hi
      simp [Value.ownBlock] at hi
      subst hi
      exact hX.off _ 0 (Value.slice.inj e5).1 hrD
    ·rw [← e1]
     exact ⟨D1, ⟨q, al, tk, db, ra, a, b, A, c, L, h9, hD1⟩, hX.foot.setCell (p := ⟨r, 3, none⟩) (hX.new r hrD) _, fun i hi => (hX.new i hi).imp id fun x => ⟨x, by have := hX.lt i hi; simpa using this⟩⟩
  | cons x rest =>
   have hat := hX.at_
   rw [hk] at hat
   have t1 : decide (k < n) = true := decide_eq_true (by simp at hln; omega)
   have j1 : (k : Int) < (n : Int) := by simp at hln; omega
   have j2 : k + m + 1 ≤ N := by simp at hall; omega
   obtain ⟨y, G, hy, hyx, rfl, hG, hyc, hfz, hGr, hkL⟩ := h1.hold hat
   have f0 := hyc 0 _ rfl
   have f2 := hyc 2 _ rfl
   have f3 := hyc 3 _ rfl
   rw [hyx] at f0 f2 f3
   rw [Nat.add_zero] at f0
   obtain ⟨xi, hxi⟩ : ∃ v, v = x.id := ⟨_, rfl⟩
   obtain ⟨xu, hxu⟩ : ∃ v, v = x.un := ⟨_, rfl⟩
   obtain ⟨xr, hxr⟩ : ∃ v, v = x.run := ⟨_, rfl⟩
   rw [← hxi] at f0
   rw [← hxu] at f2
   rw [← hxr] at f3
   have HX := Lib.hid (And.intro hX (And.intro hk (And.intro hat (And.intro hxi (And.intro hxu hxr)))))
   have hno : xr = true ∨ ¬ xu < now → Hid (∃ D1 st1 pre rest I, LetsAt w wr r D D1 fs st st1 (LM.late now) A2 m cp pre rest I ∧ pre.length = k + 1) := fun e => Lib.hid ⟨D1, st1, pre ++ [x], rest, I, hX.no (by
    unfold LM.late
    rw [← hxr, ← hxu]
    rcases e with rfl | e
    ·rfl
    ·simp [e]), by rw [List.length_append, hk]; rfl⟩
   have HNo := Lib.hid hno
   clear hX h1 hD1 hn hall hI hln hy hyx hyc hfz hkL hat hxi hxu hxr hno hk
   cases xr
   ·by_cases hlt : xu < now
    ·have t3 : decide (xu < now) = true := decide_eq_true hlt
     have HL := Lib.hid hlt
     have HO2 := Lib.hid HX.out.1.row
     have lw : w.heap.size ≤ wr.heap.size := HX.out.1.foot.size
     clear hlt
     go_wp2_with (first
      | (go_at_call 78; have hY := fun w6 => HX.out.1.yes (w6 := w6) (by unfold LM.late; rw [← HX.out.2.2.2.2.2, ← HX.out.2.2.2.2.1]; simpa using HL.out) (by rw [← HX.out.2.2.2.1]; exact hown5) hgrow5 hat5; have HY := Lib.hid hY; clear hY hown5 hgrow5 hat5; refine (rlet_l k x (HY.out wr).1 HX.out.2.2.1 (by have := HX.out.1.ver; have := HN.out.2; omega)).mono ?_; rintro e w6 ⟨rfl, hn6⟩)
      | (at_builtin; refine wpList_append_lies _ rfl _ _ 36 rfl w.heap.size 3 i0 _ 1 8 Tryz.underlying36 hi hz0 hz1 hz2 rfl (by decide) (.slice A2 m cp) m (I.map (Value.int .i64)) rfl (HO2.out.alloc _) ⟨wr.heap.size, 0, none⟩ 1 1 [.int .i64 xi] rfl rfl (World.news_of_block (cs := #[.int .i64 xi]) (t := 3) (fr := (0, 0)) (heap_alloc_new wr _)) (by simp [Value.oneCell']) (by omega) (by unfold maxLen; omega) (by omega) (by simp; omega) (wr.heap.size + 1) (by simp) ?_; intro gg cap' w5 hown5 hgrow5 hat5 hlt5))
     obtain ⟨D2, hX2⟩ := (HY.out w6).2 hn6
     have HI : Hid (∃ D1 st1 pre rest I, LetsAt w w6 r D D1 fs st st1 (LM.late now) (some ⟨gg, 0, none⟩) (m + 1) cap' pre rest I ∧ pre.length = k) := Lib.hid ⟨D2, _, pre, rest, _, hX2, HX.out.2.1⟩
     go_roundw
     case rel => exact ⟨k, m + 1, some ⟨gg, 0, none⟩, cap', by first | rfl | trivial, by first | rfl | trivial, by omega, HI⟩
     case measure => simp [intOf, lenV]; omega
    ·have t3 : decide (xu < now) = false := decide_eq_false hlt
     have HI := HNo.out (.inr hlt)
     clear hlt
     go_wp2
     go_roundw
     case rel => exact ⟨k + 1, m, A2, cp, by first | rfl | trivial, by go_num, by omega, HI⟩
     case measure => simp [intOf, lenV]; omega
   ·have HI := HNo.out (.inl rfl)
    go_wp2
    go_roundw
    case rel => exact ⟨k + 1, m, A2, cp, by first | rfl | trivial, by go_num, by omega, HI⟩
    case measure => simp [intOf, lenV]; omega
end
end Go.Proofs.YtgpfmlidchogcaaGreat
