/- Gangs that wait: what is meant, in plain words; the small functions of package order. -/
import Derived.Deep.QuietTactic
import Derived.BigQuiet
import Derived.Deep.RegionWith
import Derived.Test.YtdeniikaddlifaaElem
import Derived.Test.YtdeniikaddlifaaHeldOn
import Derived.Test.YtdeniikaddlifaaProg
namespace Go.Proofs.Ytdeniikaddlifaa
open Go.RowKit

/-- A gang that waits: its job's numbers, since when, and the how manieth it was. -/
structure Wt where
  id : Int
  q : Int
  p : Int
  r : Int
  g : Int
  c : Int
  mn : Int
  mx : Int
  s : Int
  n : Int
  deriving DecidableEq
def wtC (x : Wt) : List Value := [.int .i64 x.id, .int .i64 x.q, .int .i64 x.p, .int .i64 x.r, .int .i64 x.g, .int .i64 x.c, .int .i64 x.mn, .int .i64 x.mx, .int .i64 x.s, .int .i64 x.n]
def wtA (x : Wt) : Array Value := #[.int .i64 x.id, .int .i64 x.q, .int .i64 x.p, .int .i64 x.r, .int .i64 x.g, .int .i64 x.c, .int .i64 x.mn, .int .i64 x.mx, .int .i64 x.s, .int .i64 x.n]
def wtV (x : Wt) : Value := .agg (wtA x)
theorem wtC_len (x : Wt) : (wtC x).length = 10 := rfl
/-- They came in as numbers of 64 bits. -/
structure WtW (x : Wt) : Prop where
  id : (Lit.int .i64 x.id).wf = true
  q : (Lit.int .i64 x.q).wf = true
  p : (Lit.int .i64 x.p).wf = true
  r : (Lit.int .i64 x.r).wf = true
  g : (Lit.int .i64 x.g).wf = true
  c : (Lit.int .i64 x.c).wf = true
  mn : (Lit.int .i64 x.mn).wf = true
  mx : (Lit.int .i64 x.mx).wf = true
  s : (Lit.int .i64 x.s).wf = true
  n : (Lit.int .i64 x.n).wf = true
/-- A tick may be. -/
def mayT (n : Int) : Bool := decide (0 ≤ n) && decide (n ≤ 1073741824)
theorem mayT_iff {n : Int} : mayT n = true ↔ 0 ≤ n ∧ n ≤ 1073741824 := by simp [mayT]
/-- A wait may be. -/
def mayW (x : Wt) : Bool := decide (0 ≤ x.p) && decide (x.p ≤ 15) && mayT x.s
theorem mayW_iff {x : Wt} : mayW x = true ↔ 0 ≤ x.p ∧ x.p ≤ 15 ∧ 0 ≤ x.s ∧ x.s ≤ 1073741824 := by simp [mayW, mayT, and_assoc]
/-- A tick and a step of age may be. -/
def mayA (now age : Int) : Bool := mayT now && decide (1 ≤ age) && decide (age ≤ 1024)
theorem mayA_iff {now age : Int} : mayA now age = true ↔ 0 ≤ now ∧ now ≤ 1073741824 ∧ 1 ≤ age ∧ age ≤ 1024 := by simp [mayA, mayT, and_assoc]
/-- A rank. -/
def rankF (x : Wt) (tick age : Int) : Int := x.p + (tick - x.s) / age
/-- Two numbers held against each other. -/
def cmpI (a b : Int) : Int := if a < b then -1 else if b < a then 1 else 0
/-- Two waits held against each other. -/
def cmpW (tick age : Int) (a b : Wt) : Int :=
  if cmpI (rankF b tick age) (rankF a tick age) ≠ 0 then cmpI (rankF b tick age) (rankF a tick age) else if cmpI a.n b.n ≠ 0 then cmpI a.n b.n else cmpI a.id b.id
/-- Who is ahead. -/
def aheadF (tick age : Int) (a b : Wt) : Bool :=
  decide (rankF b tick age < rankF a tick age ∨ (rankF b tick age = rankF a tick age ∧ (a.n < b.n ∨ (a.n = b.n ∧ a.id < b.id))))
theorem cmpI_neg {a b : Int} : cmpI a b < 0 ↔ a < b := by unfold cmpI; split <;> (try split) <;> omega
theorem cmpI_zero {a b : Int} : cmpI a b = 0 ↔ a = b := by unfold cmpI; split <;> (try split) <;> omega
theorem cmpI_small (a b : Int) : -1 ≤ cmpI a b ∧ cmpI a b ≤ 1 := by unfold cmpI; split <;> (try split) <;> omega
theorem cmpW_neg (tick age : Int) (a b : Wt) : decide (cmpW tick age a b < 0) = aheadF tick age a b := by
  have h1 := @cmpI_neg (rankF b tick age) (rankF a tick age)
  have h2 := @cmpI_zero (rankF b tick age) (rankF a tick age)
  have h3 := @cmpI_neg a.n b.n
  have h4 := @cmpI_zero a.n b.n
  have h5 := @cmpI_neg a.id b.id
  unfold cmpW aheadF
  rw [decide_eq_decide]
  split
  · rw [h1]; omega
  · split
    · rw [h3]; omega
    · rw [h5]; omega

/-! ### The small functions -/
theorem istick_any (n : Int) (w : World) : Calls Try.prog 43 #[.int .i64 n] w fun e w' => e = .returned (.bool (mayT n)) ∧ w = w' := by
  unfold mayT
  obtain ⟨x, hx⟩ : ∃ x, x = decide (0 ≤ n) := ⟨_, rfl⟩
  rw [← hx]
  cases x
  · have t1 := hx.symm
    clear hx
    go_enter Try.func43, Try.ntmps43
    go_wp2
    go_ret
    exact ⟨rfl, rfl⟩
  · have t1 := hx.symm
    clear hx
    go_enter Try.func43, Try.ntmps43
    go_wp2
    go_ret
    exact ⟨by simp, rfl⟩
theorem isnan_any (a : Int) (w : World) : Calls Try.prog 56 #[.int .i64 a] w fun e w' => e = .returned (.bool false) ∧ w = w' := by
  go_enter Try.func56, Try.ntmps56
  go_wp2
  go_ret
  exact ⟨by simp, rfl⟩
theorem compare_any (a b : Int) (w : World) : Calls Try.prog 48 #[.int .i64 a, .int .i64 b] w fun e w' => e = .returned (.int .i64 (cmpI a b)) ∧ w = w' := by
  unfold cmpI
  by_cases h1 : a < b
  · rw [if_pos h1]
    have t1 : decide (a < b) = true := decide_eq_true h1
    clear h1
    go_enter Try.func48, Try.ntmps48
    go_wp2_with (go_at_call 56; refine (isnan_any _ _).mono ?_; rintro e w' ⟨rfl, rfl⟩)
    go_ret
    exact ⟨rfl, rfl⟩
  · rw [if_neg h1]
    by_cases h2 : b < a
    · rw [if_pos h2]
      have t1 : decide (a < b) = false := decide_eq_false h1
      have t2 : decide (b < a) = true := decide_eq_true h2
      clear h1 h2
      go_enter Try.func48, Try.ntmps48
      go_wp2_with (go_at_call 56; refine (isnan_any _ _).mono ?_; rintro e w' ⟨rfl, rfl⟩)
      go_ret
      exact ⟨rfl, rfl⟩
    · rw [if_neg h2]
      have t1 : decide (a < b) = false := decide_eq_false h1
      have t2 : decide (b < a) = false := decide_eq_false h2
      clear h1 h2
      go_enter Try.func48, Try.ntmps48
      go_wp2_with (go_at_call 56; refine (isnan_any _ _).mono ?_; rintro e w' ⟨rfl, rfl⟩)
      go_ret
      exact ⟨rfl, rfl⟩
end Go.Proofs.Ytdeniikaddlifaa
