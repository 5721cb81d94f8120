/- What a call leaves: a refused one nothing, another one a version more. -/
import Derived.Test.YtgpfmlidchogcaaGreatLedDo
set_option maxRecDepth 100000
set_option linter.unusedVariables false
namespace Go.Proofs.YtgpfmlidchogcaaGreat
open Go.RowKit

namespace LM
def Steps (st st' : LS) (r : Bool) : Prop := (r = true ∧ st' = st) ∨ (r = false ∧ st'.ver = st.ver + 1)
theorem reserve_steps (fs : List Fr) (st : LS) (id q un ver : Int) (sl : List PM.Sl) : Steps st (reserve fs st id q un ver sl).2 (decide ((reserve fs st id q un ver sl).1 ≠ 0)) := by
  unfold reserve
  split
  · exact .inl ⟨by simp, rfl⟩
  split
  · exact .inl ⟨by simp, rfl⟩
  split
  · exact .inl ⟨by simp, rfl⟩
  split
  · exact .inl ⟨by simp, rfl⟩
  split
  · rename_i h; exact .inl ⟨by simpa using h, rfl⟩
  · exact .inr ⟨by simp, by simp [up, (take_keeps fs st q sl).2.1]⟩
theorem commit_steps (st : LS) (id now un : Int) : Steps st (commit st id now un).2 (decide ((commit st id now un).1 ≠ 0)) := by
  unfold commit
  split
  · exact .inl ⟨by simp, rfl⟩
  split
  · exact .inl ⟨by simp, rfl⟩
  split
  · exact .inl ⟨by simp, rfl⟩
  · exact .inr ⟨by simp, rfl⟩
theorem grow_steps (fs : List Fr) (st : LS) (id : Int) (s : PM.Sl) : Steps st (grow fs st id s).2 (decide ((grow fs st id s).1 ≠ 0)) := by
  unfold grow
  split
  · exact .inl ⟨by simp, rfl⟩
  split
  · exact .inl ⟨by simp, rfl⟩
  split
  · exact .inl ⟨by simp, rfl⟩
  split
  · rename_i h; exact .inl ⟨by simpa using h, rfl⟩
  · exact .inr ⟨by simp, by simp [up, (take_keeps fs st _ [s]).2.1]⟩
theorem shrink_steps (fs : List Fr) (st : LS) (id : Int) : Steps st (shrink fs st id).2 (decide ((shrink fs st id).1.2 ≠ 0)) := by
  unfold shrink
  split
  · exact .inl ⟨by simp, rfl⟩
  split
  · exact .inl ⟨by simp, rfl⟩
  split
  · exact .inl ⟨by simp, rfl⟩
  split
  · exact .inl ⟨by simp, rfl⟩
  · exact .inr ⟨by simp, rfl⟩
theorem release_steps (fs : List Fr) (st : LS) (id : Int) : Steps st (release fs st id).2 (decide ((release fs st id).1.2 ≠ 0)) := by
  unfold release
  split
  · exact .inl ⟨by simp, rfl⟩
  · exact .inr ⟨by simp, rfl⟩
theorem allGo_ver (fs : List Fr) (p : Hd → Bool) (st : LS) : (allGo fs st p).ver = st.ver := by
  unfold allGo
  generalize st.hs.filter p = l
  induction l generalizing st with
  | nil => rfl
  | cons h l ih => rw [List.foldl_cons, ih]; rfl
theorem expire_steps (fs : List Fr) (st : LS) (now : Int) : Steps st (expire fs st now).2 (decide ((expire fs st now).1 = [])) := by
  unfold expire
  simp only
  split
  · rename_i h; exact .inl ⟨by simpa using h, rfl⟩
  · rename_i h; exact .inr ⟨by simpa using h, by simp [up, allGo_ver]⟩
theorem undrain_steps (st : LS) (x : Int) : Steps st (undrain st x).2 (decide ((undrain st x).1 ≠ 0)) := by
  unfold undrain
  first
    | (split
       · exact .inl ⟨by simp_all, rfl⟩
       · exact .inr ⟨by simp_all, rfl⟩)
theorem drain_steps (fs : List Fr) (st : LS) (x : Int) : Steps st (drain fs st x).2 (decide ((drain fs st x).1.2 ≠ 0)) := by
  unfold drain
  first
    | (split
       · exact .inl ⟨by simp_all, rfl⟩
       · exact .inr ⟨by simp_all, by simp [up, allGo_ver]⟩)
def idle (a : La) (t : Tl) : Bool := decide (t.err ≠ 0) || (decide (a.k = 5) && decide (t.ids = []))
theorem act_steps (fs : List Fr) (st : LS) (a : La) : Steps st (act fs st a).2 (idle a (act fs st a).1) := by
  unfold act
  by_cases k0 : a.k = 0
  · rw [if_pos k0]; have := reserve_steps fs st a.id a.q a.un (IntKind.i64.wrap ((st.ver : Int) - a.old)) a.sl; simpa [idle, k0] using this
  rw [if_neg k0]
  by_cases k1 : a.k = 1
  · rw [if_pos k1]; have := commit_steps st a.id a.now a.un; simpa [idle, k1] using this
  rw [if_neg k1]
  by_cases k2 : a.k = 2
  · rw [if_pos k2]; have := grow_steps fs st a.id (a.sl.head?.getD noSl); simpa [idle, k2] using this
  rw [if_neg k2]
  by_cases k3 : a.k = 3
  · rw [if_pos k3]; have := shrink_steps fs st a.id; simpa [idle, k3] using this
  rw [if_neg k3]
  by_cases k4 : a.k = 4
  · rw [if_pos k4]; have := release_steps fs st a.id; simpa [idle, k4] using this
  rw [if_neg k4]
  by_cases k5 : a.k = 5
  · rw [if_pos k5]; have := expire_steps fs st a.now; simpa [idle, k5] using this
  rw [if_neg k5]
  by_cases k6 : a.k = 6
  · rw [if_pos k6]; have := drain_steps fs st a.id; simpa [idle, k6] using this
  rw [if_neg k6]
  have := undrain_steps st a.id
  simpa [idle, k5] using this
theorem act_ver (fs : List Fr) (st : LS) (a : La) : (act fs st a).2.ver ≤ st.ver + 1 := by
  rcases act_steps fs st a with ⟨_, h⟩ | ⟨_, h⟩
  · rw [h]; omega
  · omega
end LM
theorem LaAt.up {w w' : World} {B B' b o : Nat} {a : La} (h : LaAt w B b o a) (hb : b < B) (hk : Below B w w') (hB : B ≤ B') : LaAt w' B' b o a := by
  obtain ⟨A, c, h1, h2⟩ := h
  exact ⟨A, c, fun j u hj => (hk.cell (p := ⟨b, o + j, none⟩) hb).trans (h1 j u hj), Slots.keep h2 hk hB⟩
theorem Las.up {w w' : World} {B B' : Nat} {A : Option Addr} {l : List La} (h : Las w B A l) (hk : Below B w w') (hB : B ≤ B') : Las w' B' A l := h.imp hB fun _ _ _ hb hd => hd.up hb hk hB
theorem Slots.old {w : World} {B : Nat} {A : Option Addr} {l : List PM.Sl} {F : Nat → Prop} (h : Slots w B A l) (hF : ∀ i, F i → B ≤ i) : l ≠ [] → Off A F := fun hne b off e hf => by
  rcases h with h | ⟨b', off', e', hb, _⟩
  · exact hne h
  · rw [e] at e'; cases e'
    have := hF b hf; omega
end Go.Proofs.YtgpfmlidchogcaaGreat
