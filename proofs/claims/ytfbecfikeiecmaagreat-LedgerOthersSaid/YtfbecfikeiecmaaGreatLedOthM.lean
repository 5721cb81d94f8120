/- What one call leaves of the other holds; what is reserved, and let go again, leaves all as it was. No program is walked. -/
import Derived.Test.YtfbecfikeiecmaaGreatLedActM
set_option maxRecDepth 100000
set_option linter.unusedVariables false
namespace Go.Proofs.YtfbecfikeiecmaaGreat
open Go.RowKit

namespace LM
theorem del_keeps {hs : List Hd} {h : Hd} {x : Int} (hh : h ∈ hs) (hne : h.id ≠ x) : h ∈ del x hs := mem_del.2 ⟨hh, hne⟩
theorem upd_keeps {hs : List Hd} {h : Hd} {x : Int} {f : Hd → Hd} (hh : h ∈ hs) (hne : h.id ≠ x) : h ∈ upd x f hs := mem_upd.2 ⟨h, hh, if_neg hne⟩
theorem reserve_keeps {fs : List Fr} {st : LS} {id q un ver : Int} {sl : List PM.Sl} {h : Hd} (hh : h ∈ st.hs) (hne : h.id ≠ id) : h ∈ (reserve fs st id q un ver sl).2.hs := by
  unfold reserve
  repeat' split
  all_goals first
    | exact hh
    | exact mem_ins.2 (.inr hh)
theorem commit_keeps {st : LS} {id now un : Int} {h : Hd} (hh : h ∈ st.hs) (hne : h.id ≠ id) : h ∈ (commit st id now un).2.hs := by
  unfold commit
  repeat' split
  all_goals first
    | exact hh
    | exact upd_keeps hh hne
theorem grow_keeps {fs : List Fr} {st : LS} {id : Int} {s : PM.Sl} {h : Hd} (hh : h ∈ st.hs) (hne : h.id ≠ id) : h ∈ (grow fs st id s).2.hs := by
  unfold grow
  repeat' split
  all_goals first
    | exact hh
    | exact upd_keeps hh hne
theorem shrink_keeps {fs : List Fr} {st : LS} {id : Int} {h : Hd} (hh : h ∈ st.hs) (hne : h.id ≠ id) : h ∈ (shrink fs st id).2.hs := by
  unfold shrink
  repeat' split
  all_goals first
    | exact hh
    | exact upd_keeps hh hne
theorem release_keeps {fs : List Fr} {st : LS} {id : Int} {h : Hd} (hh : h ∈ st.hs) (hne : h.id ≠ id) : h ∈ (release fs st id).2.hs := by
  unfold release
  split
  · exact hh
  · rename_i g hg
    have e := (find_some hg).2
    exact del_keeps hh (by rw [e]; exact hne)
/-- A call of one hold leaves all the others. -/
theorem act_others {fs : List Fr} {st : LS} {a : La} (h0 : 0 ≤ a.k) (h4 : a.k ≤ 4) {h : Hd} (hh : h ∈ st.hs) (hne : h.id ≠ a.id) : h ∈ (act fs st a).2.hs := by
  unfold act
  by_cases k0 : a.k = 0
  · rw [if_pos k0]; exact reserve_keeps hh hne
  rw [if_neg k0]
  by_cases k1 : a.k = 1
  · rw [if_pos k1]; exact commit_keeps hh hne
  rw [if_neg k1]
  by_cases k2 : a.k = 2
  · rw [if_pos k2]; exact grow_keeps hh hne
  rw [if_neg k2]
  by_cases k3 : a.k = 3
  · rw [if_pos k3]; exact shrink_keeps hh hne
  rw [if_neg k3]
  by_cases k4 : a.k = 4
  · rw [if_pos k4]; exact release_keeps hh hne
  omega
theorem del_ins {h : Hd} : ∀ {hs : List Hd}, find h.id hs = none → del h.id (ins h hs) = hs := by
  intro hs hn
  have hne := find_none hn
  have hall : del h.id hs = hs := by
    unfold del
    rw [List.filter_eq_self]
    intro b hb
    simpa using hne b hb
  induction hs with
  | nil => simp [ins, del]
  | cons g l ih =>
    unfold ins
    split
    · have hg := hne g (List.mem_cons_self ..)
      have e2 : del h.id (g :: ins h l) = g :: del h.id (ins h l) := by unfold del; rw [List.filter_cons]; simp [hg]
      have hn' : find h.id l = none := by
        unfold find at hn ⊢
        rw [List.find?_eq_none] at hn ⊢
        exact fun b hb => hn b (List.mem_cons_of_mem _ hb)
      have hne' := find_none hn'
      rw [e2, ih hn' hne' (by
        unfold del
        rw [List.filter_eq_self]
        intro b hb
        simpa using hne' b hb)]
    · have e2 : del h.id (h :: g :: l) = del h.id (g :: l) := by unfold del; rw [List.filter_cons]; simp
      rw [e2, hall]
end LM
theorem hasQ_at' {l : List Qa} {q : Int} (h : hasQ l q = true) : ∃ (k : Nat) (x : Qa), q = (k : Int) ∧ k < l.length ∧ l[k]? = some x := by
  unfold hasQ at h
  simp only [Bool.and_eq_true, decide_eq_true_eq] at h
  have hk : q.toNat < l.length := by omega
  exact ⟨q.toNat, l[q.toNat], by omega, hk, List.getElem?_eq_getElem hk⟩
/-- What was added to a queue can be taken away, and leaves all as it was. -/
theorem qAdd_back {L : List Qa} {q : Int} {u : Un} (hL : ∀ x ∈ L, QaOk x) (e : (qAdd L q u).1 = 0) : qSub (qAdd L q u).2 q u = (0, L) := by
  cases h : hasQ L q
  · unfold qAdd at e; rw [h] at e; simp at e
  cases hm : mayU u
  · unfold qAdd at e; rw [h, hm] at e; simp at e
  obtain ⟨k, x, rfl, hk, hx⟩ := hasQ_at' h
  have ok := hL x (List.mem_of_getElem? hx)
  obtain ⟨g1, g2⟩ := ok.g
  obtain ⟨c1, c2⟩ := ok.c
  obtain ⟨u1, u2, u3, u4⟩ := mayU_iff.1 hm
  have eA : qAdd L (k : Int) u = if leU u (subU x.m x.u) = false then (6, L) else (0, L.set k ⟨x.m, addU x.u u⟩) := by
    unfold qAdd; rw [h, if_neg (by simp), hm, if_neg (by simp)]; simp [hx]
  rw [eA] at e ⊢
  cases hl : leU u (subU x.m x.u)
  · rw [hl] at e; simp at e
  · rw [if_neg (by simp)]
    simp only
    have h2 : hasQ (L.set k ⟨x.m, addU x.u u⟩) (k : Int) = true := by unfold hasQ at h ⊢; rw [List.length_set]; exact h
    unfold qSub
    rw [h2, if_neg (by simp), hm, if_neg (by simp)]
    simp only [Int.toNat_natCast, List.getElem?_set_self hk]
    have hle : leU u (addU x.u u) = true := leU_iff.2 (by simp only [addU]; omega)
    rw [hle, if_neg (by simp)]
    have hu : subU (addU x.u u) u = x.u := by obtain ⟨_, ⟨a, b⟩⟩ := x; simp only [addU, subU]; congr 1 <;> omega
    rw [hu, List.set_set]
    obtain ⟨hk', rfl⟩ := List.getElem?_eq_some_iff.1 hx
    rw [List.set_getElem_self hk']
namespace LM
/-- What has been reserved, and is let go, leaves all as it was, but for the version. -/
theorem reserve_back {fs : List Fr} {st : LS} {id q un ver : Int} {sl : List PM.Sl} (ha : Asc st.hs) (hi : PM.Inv fs st.ts) (hq : ∀ x ∈ st.qs, QaOk x) (h : (reserve fs st id q un ver sl).1 = 0) :
    (release fs (reserve fs st id q un ver sl).2 id).1 = (⟨id, q, un, false, sl⟩, 0) ∧ (release fs (reserve fs st id q un ver sl).2 id).2.ts = st.ts ∧ (release fs (reserve fs st id q un ver sl).2 id).2.qs = st.qs ∧ (release fs (reserve fs st id q un ver sl).2 id).2.hs = st.hs := by
  unfold reserve at h ⊢
  split at h
  · simp at h
  split at h
  · simp at h
  split at h
  · simp at h
  split at h
  · simp at h
  split at h
  · rename_i h1; exact absurd h h1
  · rename_i h1 h2 h3 h4 h5
    rw [if_neg h1, if_neg h2, if_neg h3, if_neg h4, if_neg h5]
    have hn : find id st.hs = none := by simpa using h3
    have hf : find id (ins (⟨id, q, un, false, sl⟩ : Hd) st.hs) = some ⟨id, q, un, false, sl⟩ := by rw [find_ins (h := ⟨id, q, un, false, sl⟩) ha hn]; simp
    have ht : (PM.whole fs st.dr false sl st.ts).1 = 0 := by
      have := Classical.not_not.1 h5
      unfold take at this
      by_cases e : (PM.whole fs st.dr false sl st.ts).1 = 0
      · exact e
      · rw [if_pos e] at this; exact absurd this e
    have hqa : (qAdd st.qs q (units sl)).1 = 0 := by
      have := Classical.not_not.1 h5
      unfold take at this
      rw [if_neg (by simpa using ht)] at this
      by_cases e : (qAdd st.qs q (units sl)).1 = 0
      · exact e
      · rw [if_pos e] at this; exact absurd this e
    have eT : take fs st q sl = (0, { st with ts := (PM.whole fs st.dr false sl st.ts).2, qs := (qAdd st.qs q (units sl)).2 }) := by
      unfold take; rw [if_neg (by simpa using ht), if_neg (by simpa using hqa)]
    simp only [up, eT]
    unfold release
    simp only [hf]
    refine ⟨by first | trivial | rfl, ?_, ?_, ?_⟩
    · simp only [up, letGo, give]
      rw [whole_back hi ht]
    · simp only [up, letGo, give]
      rw [qAdd_back hq hqa]
    · simp only [up, letGo, give]
      exact del_ins (h := ⟨id, q, un, false, sl⟩) hn
end LM
end Go.Proofs.YtfbecfikeiecmaaGreat
