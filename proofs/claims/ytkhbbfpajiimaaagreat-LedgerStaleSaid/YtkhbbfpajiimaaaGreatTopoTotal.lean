/- What a topology tells: Total. -/
import Derived.StillTailTactics
import Derived.Test.YtkhbbfpajiimaaaGreatTopoAll
namespace Go.Proofs.YtkhbbfpajiimaaaGreat
open Go.RowKit

def gsum (l : List Fr) : Nat := (l.map fun f => MM.cnt f.m).sum
def csum (l : List Fr) : Nat := (l.map fun f => f.c).sum
theorem gsum_next {l : List Fr} {k : Nat} {f : Fr} (h : l[k]? = some f) : gsum (l.take (k + 1)) = gsum (l.take k) + MM.cnt f.m := by
  unfold gsum; rw [take_next h]; simp
theorem csum_next {l : List Fr} {k : Nat} {f : Fr} (h : l[k]? = some f) : csum (l.take (k + 1)) = csum (l.take k) + f.c := by
  unfold csum; rw [take_next h]; simp
theorem sums_le : ∀ (l : List Fr), (∀ f ∈ l, f.m < 18446744073709551616 ∧ f.c ≤ 1024) → gsum l ≤ 64 * l.length ∧ csum l ≤ 1024 * l.length
  | [], _ => ⟨Nat.le_refl _, Nat.le_refl _⟩
  | f :: l, h => by
    obtain ⟨h1, h2⟩ := sums_le l fun x hx => h x (List.mem_cons_of_mem _ hx)
    have := (h f (by simp)).2
    have := MM.cnt_le f.m
    simp only [gsum, csum, List.map_cons, List.sum_cons, List.length_cons] at h1 h2 ⊢
    omega
end Go.Proofs.YtkhbbfpajiimaaaGreat
