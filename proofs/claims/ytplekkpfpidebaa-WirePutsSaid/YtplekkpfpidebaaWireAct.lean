/- Acts in memory; the table's rows. -/
import Derived.Laws.StructEq
import Derived.Test.YtplekkpfpidebaaWireTake
import Derived.Test.YtplekkpfpidebaaWireFld
import Derived.Test.YtplekkpfpidebaaHeldOn
set_option linter.unusedVariables false
set_option maxRecDepth 100000
namespace Go.Proofs.Ytplekkpfpidebaa
open Go.RowKit
def acA (a : WM.Ac) : Array Value := #[.int .i64 a.k, .int .i64 a.n, .int .i64 a.id, .int .i64 a.q, .int .i64 a.p, .int .i64 a.r, .int .i64 a.g, .int .i64 a.c, .int .i64 a.mn, .int .i64 a.mx]
def acV (a : WM.Ac) : Value := .agg (acA a)
theorem tab_row {X Y Z : Option Addr} {w : World} {p k : Nat} (hk : k < 8) (hT : TabF w p X Y Z) : ∃ (A : Option Addr) (n : Nat), n = (fdsA p k).length ∧ n ≤ 8 ∧ (∀ W : World, (Instr.index 71 (tabV X Y Z) (.int .i64 k)).run Try.prog W = .ok (.slice A n n) W) ∧ Els fpC 2 w w.heap.size A (fdsA p k) := by
  obtain ⟨h1, h2, h3⟩ := hT
  match k, hk with
  | 0, _ => exact ⟨X, 8, rfl, by omega, fun W => by unfold tabV; go_simp; rfl, h1⟩
  | 1, _ => exact ⟨Y, 1, rfl, by omega, fun W => by unfold tabV; go_simp; rfl, h2⟩
  | 2, _ => exact ⟨Y, 1, rfl, by omega, fun W => by unfold tabV; go_simp; rfl, h2⟩
  | 3, _ => exact ⟨Z, 1, rfl, by omega, fun W => by unfold tabV; go_simp; rfl, h3⟩
  | 4, _ => exact ⟨Z, 1, rfl, by omega, fun W => by unfold tabV; go_simp; rfl, h3⟩
  | 5, _ => exact ⟨none, 0, rfl, by omega, fun W => by unfold tabV; go_simp; rfl, .inl rfl⟩
  | 6, _ => exact ⟨Z, 1, rfl, by omega, fun W => by unfold tabV; go_simp; rfl, h3⟩
  | 7, _ => exact ⟨Y, 1, rfl, by omega, fun W => by unfold tabV; go_simp; rfl, h2⟩
/-- The table in a block: a row's cell. -/
def tabA (X Y Z : Option Addr) : Array Value := #[.slice X 8 8, .slice Y 1 1, .slice Y 1 1, .slice Z 1 1, .slice Z 1 1, .slice none 0 0, .slice Z 1 1, .slice Y 1 1]
theorem tab_cell {X Y Z : Option Addr} {w : World} {p k : Nat} (hk : k < 8) (hT : TabF w p X Y Z) : ∃ (A : Option Addr) (n : Nat), n = (fdsA p k).length ∧ n ≤ 8 ∧ (tabA X Y Z)[k]? = some (.slice A n n) ∧ Els fpC 2 w w.heap.size A (fdsA p k) := by
  obtain ⟨h1, h2, h3⟩ := hT
  match k, hk with
  | 0, _ => exact ⟨X, 8, rfl, by omega, rfl, h1⟩
  | 1, _ => exact ⟨Y, 1, rfl, by omega, rfl, h2⟩
  | 2, _ => exact ⟨Y, 1, rfl, by omega, rfl, h2⟩
  | 3, _ => exact ⟨Z, 1, rfl, by omega, rfl, h3⟩
  | 4, _ => exact ⟨Z, 1, rfl, by omega, rfl, h3⟩
  | 5, _ => exact ⟨none, 0, rfl, by omega, rfl, .inl rfl⟩
  | 6, _ => exact ⟨Z, 1, rfl, by omega, rfl, h3⟩
  | 7, _ => exact ⟨Y, 1, rfl, by omega, rfl, h2⟩
theorem fdsA_ok {p k : Nat} : ∀ x ∈ fdsA p k, (x.2.2 = 1 ∨ x.2.2 = 2 ∨ x.2.2 = 3) ∧ x.1 = p ∧ x.2.1 < 10 := by
  unfold fdsA
  split <;> simp
theorem acA_int {a : WM.Ac} {i : Nat} {v : Value} (h : (acA a)[i]? = some v) : ∃ n : Int, v = .int .i64 n := by
  have hi := (Array.getElem?_eq_some_iff.1 h).1
  have hi2 : i < 10 := hi
  unfold acA at h
  match i, hi2 with
  | 0, _ | 1, _ | 2, _ | 3, _ | 4, _ | 5, _ | 6, _ | 7, _ | 8, _ | 9, _ => simp at h; exact ⟨_, h.symm⟩
theorem not_act {w : World} {p b o : Nat} {a : WM.Ac} {ty : TypeId} {x : Option Addr} (h : w.heap[p]? = some (.cells (acA a) ty (0, 0))) (hc : w.cell? ⟨b, o, none⟩ = some (.pointer x)) : b ≠ p := by
  rintro rfl
  rw [cell_of_row w b o (acA a) ty (0, 0) h] at hc
  obtain ⟨n, hn⟩ := acA_int hc
  cases hn
end Go.Proofs.Ytplekkpfpidebaa
