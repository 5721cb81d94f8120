/- What one more hold changes: plain facts of views, of ticks at which it fits, of the least one. No program is walked. -/
import Derived.Test.YtmejcmoodbbmoaaGreatDoorProR
import Derived.Test.YtmejcmoodbbmoaaGreatDoorPackBack
set_option linter.unusedVariables false
namespace Go.Proofs.YtmejcmoodbbmoaaGreatDoor
open Go.RowKit
namespace PR
def hg (H : Ho) (q : Int) : Nat := if H.q = q then gs H.sl else 0
def hc (H : Ho) (q : Int) : Int := if H.q = q then cs H.sl else 0
theorem sl_one (l : List Ho) (H : Ho) : sl (l ++ [H]) = sl l ++ H.sl := by rw [sl_app]; simp [sl]
theorem mine_one (l : List Ho) (H : Ho) (q : Int) : mine (l ++ [H]) q = mine l q ++ if H.q = q then H.sl else [] := by
 rw [mine_app]
 congr 1
 unfold mine sl
 by_cases e : H.q = q
 ·simp [e]
 ·simp [e]
theorem gs_one (l : List Ho) (H : Ho) (q : Int) : gs (mine (l ++ [H]) q) = gs (mine l q) + hg H q := by
 rw [mine_one, gs_app]; unfold hg; split <;> rfl
theorem cs_one (l : List Ho) (H : Ho) (q : Int) : cs (mine (l ++ [H]) q) = cs (mine l q) + hc H q := by
 rw [mine_one, cs_app]; unfold hc; split <;> rfl
theorem over_one (l : List Ho) (H : Ho) (t : Int) : over (l ++ [H]) t = over l t ++ if H.u ≤ t then [H] else [] := by
 unfold over
 rw [List.filter_append]
 congr 1
 by_cases e : H.u ≤ t
 ·simp [e]
 ·simp [e]
theorem turn_put {lv lv' hs : List Fe} (hb : ∀ f ∈ lv, f.c ≤ 1048576) (h : turnL lessC lv hs = (0, lv')) (x : List Fe) : turnL moreC lv' (hs ++ x) = turnL moreC lv x := by
 have h1 := more_back hs hb h
 rw [turn_app (by rw [h1]), h1]
theorem turn_with {lv lv' hs : List Fe} (hb : ∀ f ∈ lv, f.c ≤ 1048576) (h : turnL lessC lv hs = (0, lv')) {x : List Fe} (h0 : (turnL moreC lv' (x ++ hs)).1 = 0) : turnL moreC lv' (x ++ hs) = turnL moreC lv x := by
 rw [← turn_perm (List.perm_append_comm (l₁ := x) (l₂ := hs)) h0, turn_put hb h]
theorem at_over {lv lv' : List Fe} {g c : Int} {l : List Ho} {H : Ho} {X : Wa} {t : Int} (hb : ∀ f ∈ lv, f.c ≤ 1048576) (h : turnL lessC lv H.sl = (0, lv')) (h0 : (turnL moreC lv' (sl (l ++ [H]))).1 = 0) (hu : H.u ≤ t) :
  at_ lv' (g - hg H X.q) (c - hc H X.q) (l ++ [H]) X t = at_ lv g c l X t := by
 have h1 := turn_over h0 t
 unfold at_
 rw [over_one, if_pos hu] at h1 ⊢
 rw [gs_one, cs_one]
 rw [sl_one] at h1 ⊢
 rw [turn_with hb h h1]
 congr 1 <;> omega
theorem Least.le_from {l l' : List Fe} {g c g' c' : Int} {W : Wa} {now t u : Int} {hs hs' : List Ho} (h : Least now hs (at_ l g c hs W) t) (k : Least now hs' (at_ l' g' c' hs' W) u) (h0 : now ≤ 1073741824) (hm : ∀ x, now ≤ x → at_ l g c hs W x = true → at_ l' g' c' hs' W x = true) : u ≤ t := by
 have hb := h.bounds h0
 have hb' := k.bounds h0
 by_cases ht : t = 1073741825
 ·omega
 ·rcases h with ⟨e, _⟩ | ⟨_, h2, _⟩
  ·exact absurd e ht
  ·exact k.le_of hb.1 (by omega) (hm t hb.1 h2)
theorem Earl.err {now : Int} {lv : List Fe} {g c : Int} {l : List Ho} {X : Wa} {u f : Int} (k : Earl now lv g c l X u f) (h1 : X.ok = true) (h2 : 0 ≤ now) (h3 : now ≤ 1073741824) (h0 : (turnL moreC lv (sl l)).1 = 0) : f = 0 ∧ Least now l (at_ lv g c l X) u := by
 rcases k with ⟨k, _⟩ | ⟨_, ⟨k, _⟩ | ⟨_, k, e⟩⟩
 ·exact absurd ⟨h1, h2, h3⟩ k
 ·exact absurd h0 k
 ·exact ⟨k, e⟩
theorem turn_less0 {lv lv' : List Fe} {l : List Ho} {H : Ho} (hb : ∀ f ∈ lv, f.c ≤ 1048576) (h : turnL lessC lv H.sl = (0, lv')) (h0 : (turnL moreC lv' (sl (l ++ [H]))).1 = 0) : (turnL moreC lv (sl l)).1 = 0 := by
 rw [sl_one] at h0
 rw [← turn_with hb h h0]; exact h0
theorem Earl.past {now : Int} {lv lv' : List Fe} {g c : Int} {l : List Ho} {H : Ho} {X : Wa} {t u f : Int} (hb : ∀ f ∈ lv, f.c ≤ 1048576) (hl : turnL lessC lv H.sl = (0, lv')) (hu : H.u ≤ now)
  (h : Earl now lv' (g - hg H X.q) (c - hc H X.q) (l ++ [H]) X t 0) (k : Earl now lv g c l X u f) : f = 0 ∧ t = u := by
 obtain ⟨h1, h2, h3, h4, h5⟩ := h.ok
 obtain ⟨k1, k2⟩ := k.err h1 h2 h3 (turn_less0 hb hl h4)
 refine ⟨k1, Int.le_antisymm (k2.le_from h5 h3 fun x hx hy => ?_) (h5.le_from k2 h3 fun x hx hy => ?_)⟩
 ·rw [at_over hb hl h4 (Int.le_trans hu hx)]; exact hy
 ·rw [at_over hb hl h4 (Int.le_trans hu hx)] at hy; exact hy
def Aft (now : Int) (lv : List Fe) (g c : Int) (l : List Ho) (X : Wa) (H : Ho) (T E : Int) : Prop :=
 ((turnL lessC lv H.sl).1 ≠ 0 ∧ T = 0 ∧ E = (turnL lessC lv H.sl).1) ∨ ((turnL lessC lv H.sl).1 = 0 ∧ Earl now (turnL lessC lv H.sl).2 (g - hg H X.q) (c - hc H X.q) (l ++ [H]) X T E)
theorem Aft.same {now : Int} {lv : List Fe} {g c : Int} {l : List Ho} {X : Wa} {H : Ho} {T E T' E' : Int} (h : Aft now lv g c l X H T E) (k : Aft now lv g c l X H T' E') : T = T' ∧ E = E' := by
 rcases h with ⟨h0, h1, h2⟩ | ⟨h0, h⟩ <;> rcases k with ⟨k0, k1, k2⟩ | ⟨k0, k⟩
 ·omega
 ·exact absurd k0 h0
 ·exact absurd h0 k0
 ·exact h.same k
theorem Aft.ok {now : Int} {lv : List Fe} {g c : Int} {l : List Ho} {X : Wa} {H : Ho} {T : Int} (h : Aft now lv g c l X H T 0) : turnL lessC lv H.sl = (0, (turnL lessC lv H.sl).2) ∧ Earl now (turnL lessC lv H.sl).2 (g - hg H X.q) (c - hc H X.q) (l ++ [H]) X T 0 := by
 rcases h with ⟨h0, _, h⟩ | ⟨h0, h⟩
 ·exact absurd h.symm h0
 ·exact ⟨Prod.ext h0 rfl, h⟩
def safeB (now promised T E : Int) : Bool := decide (E = 0 ∧ (T ≤ promised ∨ T ≤ now))
end PR
end Go.Proofs.YtmejcmoodbbmoaaGreatDoor
