/- How many members a gang gets: plain facts. No program is walked. -/
import Derived.Test.YtppapmacngdefaaDoorFilM
import Derived.Test.YtppapmacngdefaaDoorPackS
import Derived.Test.YtppapmacngdefaaDoorElBase
set_option linter.unusedVariables false
namespace Go.Proofs.YtppapmacngdefaaDoor
open Go.RowKit
namespace PR
/-- The error of so many members: none; no room; more than is left. -/
def plE (S : Shp) (lv : List Fe) (g c : Int) (n : Nat) : Int := if roomF S lv < n then 7 else if S.g * n ≤ g ∧ S.c * n ≤ c then 0 else 6
theorem plE_zero {S : Shp} {lv : List Fe} {g c : Int} {n : Nat} : plE S lv g c n = 0 ↔ n ≤ roomF S lv ∧ S.g * n ≤ g ∧ S.c * n ≤ c := by
  unfold plE
  by_cases h1 : roomF S lv < n
  · rw [if_pos h1]
    exact Iff.intro (fun h => by cases h) (fun h => by omega)
  · rw [if_neg h1]
    by_cases h2 : S.g * n ≤ g ∧ S.c * n ≤ c
    · rw [if_pos h2]
      exact Iff.intro (fun _ => And.intro (by omega) h2) (fun _ => rfl)
    · rw [if_neg h2]
      exact Iff.intro (fun h => by cases h) (fun h => absurd h.2 h2)
/-- The most of so many for which nothing is told; else what is told of the least. -/
def Top (R : Nat → Int → Prop) (lo hi n : Nat) (E : Int) : Prop :=
  (E = 0 ∧ lo ≤ n ∧ n ≤ hi ∧ R n 0 ∧ ∀ m, n < m → m ≤ hi → ∃ r, r ≠ 0 ∧ R m r) ∨ (E ≠ 0 ∧ R lo E ∧ ∀ m, lo ≤ m → m ≤ hi → ∃ r, r ≠ 0 ∧ R m r)
theorem Top.same {R : Nat → Int → Prop} {lo hi n n' : Nat} {E E' : Int} (hR : ∀ m r r', R m r → R m r' → r = r') (h : Top R lo hi n E) (k : Top R lo hi n' E') : E = E' ∧ (E = 0 → n = n') := by
  rcases h with ⟨h0, h1, h2, h3, h4⟩ | ⟨h0, h1, h2⟩ <;> rcases k with ⟨k0, k1, k2, k3, k4⟩ | ⟨k0, k1, k2⟩
  · refine ⟨by omega, fun _ => ?_⟩
    rcases Nat.lt_trichotomy n n' with e | e | e
    · obtain ⟨r, a, b⟩ := h4 n' e k2; exact absurd (hR _ _ _ b k3) a
    · exact e
    · obtain ⟨r, a, b⟩ := k4 n e h2; exact absurd (hR _ _ _ b h3) a
  · obtain ⟨r, a, b⟩ := k2 n h1 h2; exact absurd (hR _ _ _ b h3) a
  · obtain ⟨r, a, b⟩ := h2 n' k1 k2; exact absurd (hR _ _ _ b k3) a
  · exact ⟨hR _ _ _ h1 k1, fun e => absurd e h0⟩
/-- What Most tells, of a shape that may be. -/
abbrev MostR (S : Shp) (lv : List Fe) (g c : Int) (n : Nat) (E : Int) : Prop := Top (fun m r => r = plE S lv g c m) S.mn.toNat S.mx.toNat n E
/-- One more wouldn't go. -/
theorem MostR.more {S : Shp} {lv : List Fe} {g c : Int} {n : Nat} (h : MostR S lv g c n 0) : n = S.mx.toNat ∨ roomF S lv ≤ n ∨ g < S.g * (n + 1 : Nat) ∨ c < S.c * (n + 1 : Nat) := by
  rcases h with ⟨_, h1, h2, h3, h4⟩ | ⟨h0, _⟩
  · by_cases e : n = S.mx.toNat
    · exact .inl e
    · obtain ⟨r, hr, e2⟩ := h4 (n + 1) (by omega) (by omega)
      subst e2
      by_cases h5 : roomF S lv < n + 1
      · exact .inr (.inl (by omega))
      · refine .inr (.inr ?_)
        rw [Ne, plE_zero] at hr
        by_cases h6 : g < S.g * (n + 1 : Nat)
        · exact .inl h6
        · refine .inr ?_
          apply Int.not_le.1
          intro h7
          exact hr ⟨by omega, by omega, h7⟩
  · exact absurd rfl h0
/-- All slots alike. -/
theorem gs_all {l : List Fe} {k : Nat} (h : ∀ s ∈ l, MM.cnt s.m = k) : gs l = k * l.length := by
  induction l with
  | nil => simp [gs]
  | cons x l ih =>
    have e : gs (x :: l) = MM.cnt x.m + gs l := by simp [gs]
    rw [e, ih fun s hs => h s (List.mem_cons_of_mem _ hs), h x (by simp), List.length_cons, Nat.mul_succ]
    omega
theorem cs_all {l : List Fe} {k : Int} (h : ∀ s ∈ l, s.c = k) : cs l = k * l.length := by
  induction l with
  | nil => simp [cs]
  | cons x l ih =>
    have e : cs (x :: l) = x.c + cs l := by simp [cs]
    rw [e, ih fun s hs => h s (List.mem_cons_of_mem _ hs), h x (by simp), List.length_cons]
    have : k * ((l.length + 1 : Nat) : Int) = k * (l.length : Int) + k := by rw [Int.natCast_add, Int.mul_add]; simp
    omega
theorem placeF_units {S : Shp} {lv : List Fe} {n : Nat} (hw : S.Wf) (hok : S.ok = true) (hf : ∀ f ∈ lv, FeOk f) (h : n ≤ roomF S lv) : (gs (placeF S lv n) : Int) = S.g * n ∧ cs (placeF S lv n) = S.c * n := by
  have hl := placeF_len h
  have hall := placeL_ok hw hf (orderF (fitsL S lv)) n
  have h0 : 0 ≤ S.g := by unfold Shp.ok at hok; simp at hok; omega
  have e1 := gs_all (l := placeF S lv n) (k := S.g.toNat) fun s hs => (hall s hs).2.1
  have e2 := cs_all (l := placeF S lv n) (k := S.c) fun s hs => (hall s hs).2.2
  rw [hl] at e1 e2
  refine ⟨?_, e2⟩
  rw [e1, Int.natCast_mul, Int.toNat_of_nonneg h0]
/-- A hold of slots. -/
def hoOf (q u : Int) (s : List Fe) : Ho := ⟨0, q, u, false, none, 0, s⟩
/-- What letting a hold tells. -/
def LetR (L : Lk) (id q u : Int) (s : List Fe) (r : Int) : Prop :=
  ((headL L = none ∨ id = L.hd) ∧ r = 0) ∨ (id ≠ L.hd ∧ ∃ X, headL L = some X ∧ ((leftL L X.q = none ∧ r = 5) ∨ ∃ U, leftL L X.q = some U ∧ ∃ T E, Aft L.now L.lv U.g U.c L.le X (hoOf q u s) T E ∧ r = if safeB L.now L.pr T E = true then 0 else 5))
theorem LetR.same {L : Lk} {id q u r r' : Int} {s : List Fe} (h : LetR L id q u s r) (k : LetR L id q u s r') : r = r' := by
  rcases h with ⟨h0, h1⟩ | ⟨h0, X, hX, h⟩ <;> rcases k with ⟨k0, k1⟩ | ⟨k0, Y, hY, k⟩
  · rw [h1, k1]
  · rcases h0 with h0 | h0
    · rw [h0] at hY; cases hY
    · exact absurd h0 k0
  · rcases k0 with k0 | k0
    · rw [k0] at hX; cases hX
    · exact absurd k0 h0
  · rw [hX] at hY; injection hY with e; subst e
    rcases h with ⟨h1, h2⟩ | ⟨U, hU, T, E, hA, h2⟩ <;> rcases k with ⟨k1, k2⟩ | ⟨V, hV, T', E', kA, k2⟩
    · rw [h2, k2]
    · rw [h1] at hV; cases hV
    · rw [k1] at hU; cases hU
    · rw [hU] at hV; injection hV with e; subst e
      obtain ⟨rfl, rfl⟩ := hA.same kA
      rw [h2, k2]
theorem LetR.vals {L : Lk} {id q u r : Int} {s : List Fe} (h : LetR L id q u s r) : r = 0 ∨ r = 5 := by
  rcases h with ⟨_, h⟩ | ⟨_, _, _, ⟨_, h⟩ | ⟨_, _, _, _, _, h⟩⟩
  · exact .inl h
  · exact .inr h
  · rw [h]; split
    · exact .inl rfl
    · exact .inr rfl
end PR
end Go.Proofs.YtppapmacngdefaaDoor
