/- How many members a gang gets: plain facts. No program is walked. -/
import Derived.Test.YtppapmacngdefaaDoorFilM
import Derived.Test.YtppapmacngdefaaDoorPackS
import Derived.Test.YtppapmacngdefaaDoorElBase
set_option linter.unusedVariables false
namespace Go.Proofs.YtppapmacngdefaaDoor
open Go.RowKit
namespace PR
/-- The error of so many members: none; no room; more than is left. -/
def plE (S : Shp) (lv : List Fe) (g c : Int) (n : Nat) : Int := if roomF S lv < n then 7 else if S.g * n ≤ g ∧ S.c * n ≤ c then 0 else 6
theorem plE_zero {S : Shp} {lv : List Fe} {g c : Int} {n : Nat} : plE S lv g c n = 0 ↔ n ≤ roomF S lv ∧ S.g * n ≤ g ∧ S.c * n ≤ c := by
  unfold plE
  by_cases h1 : roomF S lv < n
  · rw [if_pos h1]
    exact Iff.intro (fun h => by cases h) (fun h => by omega)
  · rw [if_neg h1]
    by_cases h2 : S.g * n ≤ g ∧ S.c * n ≤ c
    · rw [if_pos h2]
      exact Iff.intro (fun _ => And.intro (by omega) h2) (fun _ => rfl)
    · rw [if_neg h2]
      exact Iff.intro (fun h => by cases h) (fun h => absurd h.2 h2)
/-- The most of so many for which nothing is told; else what is told of the least. -/
def Top (R : Nat → Int → Prop) (lo hi n : Nat) (E : Int) : Prop :=
  (E = 0 ∧ lo ≤ n ∧ n ≤ hi ∧ R n 0 ∧ ∀ m, n < m → m ≤ hi → ∃ r, r ≠ 0 ∧ R m r) ∨ (E ≠ 0 ∧ R lo E ∧ ∀ m, lo ≤ m → m ≤ hi → ∃ r, r ≠ 0 ∧ R m r)
theorem Top.same {R : Nat → Int → Prop} {lo hi n n' : Nat} {E E' : Int} (hR : ∀ m r r', R m r → R m r' → r = r') (h : Top R lo hi n E) (k : Top R lo hi n' E') : E = E' ∧ (E = 0 → n = n') := by
  rcases h with ⟨h0, h1, h2, h3, h4⟩ | ⟨h0, h1, h2⟩ <;> rcases k with ⟨k0, k1, k2, k3, k4⟩ | ⟨k0, k1, k2⟩
  · refine ⟨by omega, fun _ => ?_⟩
    rcases Nat.lt_trichotomy n n' with e | e | e
    · obtain ⟨r, a, b⟩ := h4 n' e k2; exact absurd (hR _ _ _ b k3) a
    · exact e
    · obtain ⟨r, a, b⟩ := k4 n e h2; exact absurd (hR _ _ _ b h3) a
  · obtain ⟨r, a, b⟩ := k2 n h1 h2; exact absurd (hR _ _ _ b h3) a
  · obtain ⟨r, a, b⟩ := h2 n' k1 k2; exact absurd (hR _ _ _ b k3) a
  · exact ⟨hR _ _ _ h1 k1, fun e => absurd e h0⟩
/-- What Most tells, of a shape that may be. -/
abbrev MostR (S : Shp) (lv : List Fe) (g c : Int) (n : Nat) (E : Int) : Prop := Top (fun m r => r = plE S lv g c m) S.mn.toNat S.mx.toNat n E
theorem roomF_mx {S : Shp} {lv : List Fe} {x : Int} (h : S.ok = true) (h' : Shp.ok { S with mx := x } = true) : roomF { S with mx := x } lv = roomF S lv := by
  unfold roomF fitsL
  congr 1
  refine List.map_congr_left fun f _ => ?_
  unfold fitF
  rw [if_pos h, if_pos h']
/-- With more left, and a higher Max, it gets no fewer. -/
theorem MostR.grow {S : Shp} {lv : List Fe} {g c g' c' x : Int} {n n' : Nat} {E' : Int} (h : S.ok = true) (h' : Shp.ok { S with mx := x } = true) (hx : S.mx ≤ x) (hg : g ≤ g') (hc : c ≤ c') (k : MostR S lv g c n 0) (k' : MostR { S with mx := x } lv g' c' n' E') : E' = 0 ∧ n ≤ n' := by
  rcases k with ⟨_, h1, h2, h3, h4⟩ | ⟨h0, _⟩
  · have hz : plE { S with mx := x } lv g' c' n = 0 := by
      obtain ⟨a, b, d⟩ := plE_zero.1 h3.symm
      exact plE_zero.2 ⟨by rw [roomF_mx h h']; exact a, Int.le_trans b hg, Int.le_trans d hc⟩
    rcases k' with ⟨e, k1, k2, k3, k4⟩ | ⟨e, k1, k2⟩
    · refine ⟨e, Nat.le_of_not_lt fun hlt => ?_⟩
      obtain ⟨r, hr, e2⟩ := k4 n hlt (by simp only; omega)
      exact hr (e2.trans hz)
    · obtain ⟨r, hr, e2⟩ := k2 n h1 (by simp only; omega)
      exact absurd (e2.trans hz) hr
  · exact absurd rfl h0
theorem at_of {lv : List Fe} {g c : Int} {l : List Ho} {X : Wa} {H H' : Ho} {t : Int} (hq : H'.q = H.q) (hu : H'.u = H.u) (hs : H'.sl = H.sl) : at_ lv g c (l ++ [H']) X t = at_ lv g c (l ++ [H]) X t := by
  have e1 : sl (over (l ++ [H']) t) = sl (over (l ++ [H]) t) := by
    rw [over_one, over_one, sl_app, sl_app, hu]
    split <;> simp [sl, hs]
  have e2 : mine (over (l ++ [H']) t) X.q = mine (over (l ++ [H]) t) X.q := by
    rw [over_one, over_one, mine_app, mine_app, hu]
    split
    · by_cases h : H.q = X.q <;> simp [mine, sl, hs, hq, h]
    · rfl
  unfold at_
  rw [e1, e2]
theorem cand_of {now : Int} {l : List Ho} {H H' : Ho} (hu : H'.u = H.u) (x : Int) : Cand now (l ++ [H']) x ↔ Cand now (l ++ [H]) x := by
  unfold Cand
  simp only [List.mem_append, List.mem_singleton]
  constructor
  · rintro (h | ⟨⟨y, hy | rfl, e⟩, h⟩)
    · exact .inl h
    · exact .inr ⟨⟨y, .inl hy, e⟩, h⟩
    · exact .inr ⟨⟨H, .inr rfl, by rw [← hu]; exact e⟩, h⟩
  · rintro (h | ⟨⟨y, hy | rfl, e⟩, h⟩)
    · exact .inl h
    · exact .inr ⟨⟨y, .inl hy, e⟩, h⟩
    · exact .inr ⟨⟨H', .inr rfl, by rw [hu]; exact e⟩, h⟩
theorem Earl.of_ {now : Int} {lv : List Fe} {g c : Int} {l : List Ho} {X : Wa} {H H' : Ho} {T E : Int} (hq : H'.q = H.q) (hu : H'.u = H.u) (hs : H'.sl = H.sl) (h : Earl now lv g c (l ++ [H]) X T E) : Earl now lv g c (l ++ [H']) X T E := by
  have e0 : sl (l ++ [H']) = sl (l ++ [H]) := by rw [sl_one, sl_one, hs]
  unfold Earl at *
  rw [e0]
  rcases h with h | ⟨h0, h | ⟨h1, h2, h3⟩⟩
  · exact .inl h
  · exact .inr ⟨h0, .inl h⟩
  · exact .inr ⟨h0, .inr ⟨h1, h2, h3.ext (fun x => cand_of hu x) fun x => at_of hq hu hs⟩⟩
/-- An Id, and where the slots lie, play no part. -/
theorem Aft.of_ {now : Int} {lv : List Fe} {g c : Int} {l : List Ho} {X : Wa} {H H' : Ho} {T E : Int} (hq : H'.q = H.q) (hu : H'.u = H.u) (hs : H'.sl = H.sl) (h : Aft now lv g c l X H T E) : Aft now lv g c l X H' T E := by
  unfold Aft at *
  have e1 : hg H' X.q = hg H X.q := by unfold hg; rw [hq, hs]
  have e2 : hc H' X.q = hc H X.q := by unfold hc; rw [hq, hs]
  rw [hs, e1, e2]
  rcases h with h | ⟨h0, h⟩
  · exact .inl h
  · exact .inr ⟨h0, h.of_ hq hu hs⟩
/-- A hold of slots. -/
def hoOf (q u : Int) (s : List Fe) : Ho := ⟨0, q, u, false, none, 0, s⟩
/-- What letting a hold tells. -/
def LetR (L : Lk) (id q u : Int) (s : List Fe) (r : Int) : Prop :=
  ((headL L = none ∨ id = L.hd) ∧ r = 0) ∨ (id ≠ L.hd ∧ ∃ X, headL L = some X ∧ ((leftL L X.q = none ∧ r = 5) ∨ ∃ U, leftL L X.q = some U ∧ ∃ T E, Aft L.now L.lv U.g U.c L.le X (hoOf q u s) T E ∧ r = if safeB L.now L.pr T E = true then 0 else 5))
theorem LetR.same {L : Lk} {id q u r r' : Int} {s : List Fe} (h : LetR L id q u s r) (k : LetR L id q u s r') : r = r' := by
  rcases h with ⟨h0, h1⟩ | ⟨h0, X, hX, h⟩ <;> rcases k with ⟨k0, k1⟩ | ⟨k0, Y, hY, k⟩
  · rw [h1, k1]
  · rcases h0 with h0 | h0
    · rw [h0] at hY; cases hY
    · exact absurd h0 k0
  · rcases k0 with k0 | k0
    · rw [k0] at hX; cases hX
    · exact absurd k0 h0
  · rw [hX] at hY; injection hY with e; subst e
    rcases h with ⟨h1, h2⟩ | ⟨U, hU, T, E, hA, h2⟩ <;> rcases k with ⟨k1, k2⟩ | ⟨V, hV, T', E', kA, k2⟩
    · rw [h2, k2]
    · rw [h1] at hV; cases hV
    · rw [k1] at hU; cases hU
    · rw [hU] at hV; injection hV with e; subst e
      obtain ⟨rfl, rfl⟩ := hA.same kA
      rw [h2, k2]
theorem LetR.none_ {L : Lk} {id q u r : Int} {s : List Fe} (h : LetR L id q u s r) (h0 : headL L = none ∨ id = L.hd) : r = 0 := by
  rcases h with ⟨_, h⟩ | ⟨h1, X, hX, _⟩
  · exact h
  · rcases h0 with h0 | h0
    · rw [h0] at hX; cases hX
    · exact absurd h0 h1
/-- What Fill tells, where Most tells n members. -/
abbrev FillR (L : Lk) (id q u : Int) (S : Shp) (n n' : Nat) (E : Int) : Prop := Top (fun m r => LetR L id q u (placeF S L.lv m) r) S.mn.toNat n n' E
end PR
end Go.Proofs.YtppapmacngdefaaDoor
