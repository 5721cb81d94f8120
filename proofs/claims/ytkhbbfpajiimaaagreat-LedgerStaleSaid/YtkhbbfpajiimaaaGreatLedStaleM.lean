/- What Reserve answers by the ledger's own version, and by another one. -/
import Derived.Test.YtkhbbfpajiimaaaGreatLedActM
set_option maxRecDepth 100000
set_option linter.unusedVariables false
namespace Go.Proofs.YtkhbbfpajiimaaaGreat
open Go.RowKit

theorem PM.one_code (fs : List Fr) (dr : List Bool) (give : Bool) (s : PM.Sl) (ts : List Fr) : (PM.one fs dr give s ts).1 ≤ 8 := by
  unfold PM.one
  split
  · simp
  · split
    · simp
    · split
      · split
        · split
          · simp
          · split <;> simp
        · split
          · simp
          · split <;> simp
      · simp
theorem PM.many_code (fs : List Fr) (dr : List Bool) (give : Bool) : ∀ (l : List PM.Sl) (ts : List Fr), (PM.many fs dr give l ts).1 ≤ 8
  | [], ts => by simp [PM.many]
  | s :: l, ts => by
    unfold PM.many
    split
    · exact PM.many_code fs dr give l _
    · exact PM.one_code fs dr give s ts
theorem PM.whole_code (fs : List Fr) (dr : List Bool) (give : Bool) (l : List PM.Sl) (ts : List Fr) : (PM.whole fs dr give l ts).1 ≤ 8 := by
  unfold PM.whole
  split
  · exact PM.many_code fs dr give l ts
  · exact PM.many_code fs dr give l ts
theorem qAdd_code (l : List Qa) (q : Int) (u : Un) : (qAdd l q u).1 ≤ 8 := by
  unfold qAdd
  split
  · simp
  split
  · simp
  split
  · simp
  split <;> simp
namespace LM
theorem take_code (fs : List Fr) (st : LS) (q : Int) (sl : List PM.Sl) : (take fs st q sl).1 ≤ 8 := by
  unfold take
  split
  · exact PM.whole_code _ _ _ _ _
  · split
    · exact qAdd_code _ _ _
    · simp
theorem reserve_lost (fs : List Fr) (st : LS) (id q un ver : Int) (sl : List PM.Sl) (h : ver ≠ st.ver) : reserve fs st id q un ver sl = (13, st) := by
  unfold reserve; rw [if_pos h]
theorem reserve_told (fs : List Fr) (st : LS) (id q un : Int) (sl : List PM.Sl) : (reserve fs st id q un (st.ver : Int) sl).1 ≤ 8 := by
  unfold reserve
  rw [if_neg (by simp)]
  split
  · simp
  split
  · simp
  split
  · simp
  split
  · exact take_code _ _ _ _
  · simp
/-- What has been reserved is found. -/
theorem reserve_found {fs : List Fr} {st : LS} {id q un ver : Int} {sl : List PM.Sl} (ha : Asc st.hs) (h : (reserve fs st id q un ver sl).1 = 0) : (find id (reserve fs st id q un ver sl).2.hs).isSome = true ∧ (reserve fs st id q un ver sl).2.ver = st.ver + 1 := by
  unfold reserve at h ⊢
  split at h
  · simp at h
  split at h
  · simp at h
  split at h
  · simp at h
  split at h
  · simp at h
  split at h
  · rename_i h1; exact absurd h h1
  · rename_i h1 h2 h3 h4 h5
    rw [if_neg h1, if_neg h2, if_neg h3, if_neg h4, if_neg h5]
    refine ⟨?_, by simp [up, (take_keeps fs st q sl).2.1]⟩
    have hn : find id st.hs = none := by simpa using h3
    simp only [up]
    rw [find_ins (h := ⟨id, q, un, false, sl⟩) ha hn]
    simp
/-- An id that is there is refused. -/
theorem reserve_twice (fs : List Fr) (st : LS) (id q un : Int) (sl : List PM.Sl) (h : (find id st.hs).isSome = true) : (reserve fs st id q un (st.ver : Int) sl).1 = 4 ∨ (reserve fs st id q un (st.ver : Int) sl).1 = 1 := by
  unfold reserve
  rw [if_neg (by simp)]
  split
  · exact .inr rfl
  · exact .inl rfl
end LM
end Go.Proofs.YtkhbbfpajiimaaaGreat
