/- With less held, or held for less long, or more left, it is no later: plain facts. -/
import Derived.Test.YtenldgnfjjchiaaDoorProT
set_option linter.unusedVariables false
set_option linter.unusedSimpArgs false
namespace Go.Proofs.YtenldgnfjjchiaaDoor
open Go.RowKit
open PR
/-- A hold without its end. -/
def flat (x : Ho) : Ho := { x with u := 0 }
theorem sl_flat (l : List Ho) : sl (l.map flat) = sl l := by unfold sl; rw [List.flatMap_map]; rfl
theorem mine_flat (l : List Ho) (q : Int) : mine (l.map flat) q = mine l q := by
  unfold mine
  rw [List.filter_map, sl_flat]
  rfl
theorem over_app (a b : List Ho) (t : Int) : over (a ++ b) t = over a t ++ over b t := by unfold over; rw [List.filter_append]
theorem over_cons (x : Ho) (b : List Ho) (t : Int) : over (x :: b) t = (if x.u ≤ t then [x] else []) ++ over b t := by
  unfold over; rw [List.filter_cons]; by_cases e : x.u ≤ t <;> simp [e]
theorem at_more {lv : List Fe} {g c g' c' : Int} {l : List Ho} {X : Wa} {t : Int} (hg : g ≤ g') (hc : c ≤ c') (h : at_ lv g c l X t = true) : at_ lv g' c' l X t = true := by
  unfold at_ at *
  exact fits_more h (Nat.le_refl _) (by omega) (by omega)
/-- One hold ends earlier. -/
theorem at_early {lv : List Fe} {g c : Int} {a b : List Ho} {x : Ho} {u : Int} {X : Wa} {t : Int} (hv : View lv) (hu : u ≤ x.u) (h0 : (turnL moreC lv (sl (a ++ x :: b))).1 = 0) (h : at_ lv g c (a ++ x :: b) X t = true) : at_ lv g c (a ++ { x with u := u } :: b) X t = true := by
  have hsl : sl (a ++ { x with u := u } :: b) = sl (a ++ x :: b) := by simp [sl]
  have h0' : (turnL moreC lv (sl (a ++ { x with u := u } :: b))).1 = 0 := by rw [hsl]; exact h0
  have hz := turn_over h0' t
  have key : ∃ e, ((over (a ++ x :: b) t).map flat ++ e).Perm ((over (a ++ { x with u := u } :: b) t).map flat) := by
    rw [over_app, over_app, over_cons, over_cons]
    by_cases hx : x.u ≤ t
    · have hx2 : u ≤ t := by omega
      simp only [hx, hx2, if_true]
      exact ⟨[], by simp [flat]⟩
    · by_cases hx2 : u ≤ t
      · rw [if_neg hx, if_pos hx2]
        refine ⟨[flat x], ?_⟩
        simp only [List.nil_append, List.map_append, List.map_cons, List.map_nil, List.singleton_append]
        show ((over a t).map flat ++ (over b t).map flat ++ [flat x]).Perm ((over a t).map flat ++ flat x :: (over b t).map flat)
        rw [List.append_assoc]
        exact List.Perm.append_left _ List.perm_append_comm
      · simp only [hx, hx2, if_false]
        exact ⟨[], by simp⟩
  obtain ⟨e, he⟩ := key
  unfold at_ at *
  have h9 := at_grow (l := lv) (g := g) (c := c) (g' := g) (c' := c) (W := X) he (by rw [sl_flat]; exact hz) (fun s hs => by rw [sl_flat] at hs; exact (turn_bounds (fun f hf => (hv.ok f hf).2.1) hz s hs).1) (Int.le_refl _) (Int.le_refl _) (by rw [sl_flat, mine_flat]; exact h)
  rwa [sl_flat, mine_flat] at h9
/-- One hold less, its slots free. -/
theorem at_less {lv : List Fe} {g c : Int} {a b : List Ho} {x : Ho} {X : Wa} {t : Int} (hq : x.q ≠ X.q) (h0 : (turnL moreC lv (sl (a ++ x :: b))).1 = 0) (h : at_ lv g c (a ++ x :: b) X t = true) :
    (turnL moreC lv x.sl).1 = 0 ∧ (turnL moreC (turnL moreC lv x.sl).2 (sl (a ++ b))).1 = 0 ∧ at_ (turnL moreC lv x.sl).2 g c (a ++ b) X t = true := by
  have hp : (sl (a ++ x :: b)).Perm (x.sl ++ sl (a ++ b)) := by
    have : (a ++ x :: b).Perm (x :: (a ++ b)) := List.perm_middle
    have := sl_perm this
    simpa [sl] using this
  have h1 : (turnL moreC lv (x.sl ++ sl (a ++ b))).1 = 0 := by rw [turn_perm hp h0]; exact h0
  have h2 := turn_left h1
  have h3 : (turnL moreC (turnL moreC lv x.sl).2 (sl (a ++ b))).1 = 0 := by rw [← turn_app h2]; exact h1
  refine ⟨h2, h3, ?_⟩
  have hmine : mine (over (a ++ x :: b) t) X.q = mine (over (a ++ b) t) X.q := by
    rw [over_app, over_app, over_cons, mine_app, mine_app, mine_app]
    by_cases hx : x.u ≤ t
    · rw [if_pos hx]; simp [mine, sl, hq]
    · rw [if_neg hx]; simp [mine, sl]
  have h4 := turn_over h3 t
  have h5 := turn_over h0 t
  unfold at_ at *
  rw [hmine] at h
  refine fits_more h ?_ (Int.le_refl _) (Int.le_refl _)
  by_cases hx : x.u ≤ t
  · have hp2 : (sl (over (a ++ x :: b) t)).Perm (x.sl ++ sl (over (a ++ b) t)) := by
      rw [over_app, over_app, over_cons, if_pos hx]
      have : (over a t ++ ([x] ++ over b t)).Perm (x :: (over a t ++ over b t)) := List.perm_middle
      have := sl_perm this
      simpa [sl] using this
    rw [← turn_app h2, turn_perm hp2 h5]
    exact Nat.le_refl _
  · have e : over (a ++ x :: b) t = over (a ++ b) t := by rw [over_app, over_app, over_cons, if_neg hx, List.nil_append]
    rw [e] at h5 ⊢
    have h6 : (turnL moreC lv (sl (over (a ++ b) t) ++ x.sl)).1 = 0 := by
      have h7 : (turnL moreC lv (x.sl ++ sl (over (a ++ b) t))).1 = 0 := by rw [turn_app h2]; exact h4
      rw [turn_perm List.perm_append_comm h7]; exact h7
    have h8 : turnL moreC (turnL moreC lv x.sl).2 (sl (over (a ++ b) t)) = turnL moreC (turnL moreC lv (sl (over (a ++ b) t))).2 x.sl := by
      rw [← turn_app h2, ← turn_app h5]
      exact (turn_perm List.perm_append_comm h6)
    rw [h8]
    exact more_room _ _ (by rw [← turn_app h5]; exact h6)
/-- Where whatever fits does so still, what is told is no later. -/
theorem Earl_le {lv lv' : List Fe} {g c g' c' : Int} {l l' : List Ho} {X : Wa} {now T T' E' : Int} (h : Earl now lv g c l X T 0) (h' : Earl now lv' g' c' l' X T' E') (h0 : (turnL moreC lv' (sl l')).1 = 0) (hm : ∀ t, at_ lv g c l X t = true → at_ lv' g' c' l' X t = true) : E' = 0 ∧ T' ≤ T := by
  obtain ⟨o1, o2, o3, o4, o5⟩ := h.ok
  rcases h' with ⟨hb, _⟩ | ⟨_, ⟨hne, _⟩ | ⟨_, he, hl⟩⟩
  · exact absurd ⟨o1, o2, o3⟩ hb
  · exact absurd h0 hne
  · exact ⟨he, o5.le hl o3 hm⟩
theorem own_some {w : World} {B n c k : Nat} {t : TypeId} {A : Option Addr} {xs : List Value} (h : w.ownsRow B t k (.slice A n c) n xs) (hn : 0 < n) : ∃ g, A = some ⟨g, 0, none⟩ ∧ B ≤ g ∧ g < w.heap.size ∧ w.frozen? ⟨g, 0, none⟩ = false ∧ n ≤ c ∧ c ≤ maxLen := by
  rcases h.2 with ⟨e, h0⟩ | ⟨g, cap, cur, e, hgb, hg, h5, h6, h7, h8⟩
  · omega
  · injection e with e1 _ e3
    subst e3
    exact ⟨g, e1, hgb, blk_lt hg, frozen_blk hg, h5, h6⟩
theorem own_frz {w : World} {B n c k g o : Nat} {t : TypeId} {xs : List Value} (h : w.ownsRow B t k (.slice (some ⟨g, 0, none⟩) n c) n xs) : w.frozen? ⟨g, o, none⟩ = false := by
  rcases h.2 with ⟨e, h0⟩ | ⟨g', cap, cur, e, hgb, hg, h5, h6, h7, h8⟩
  · cases e
  · injection e with e1 _ e3
    injection e1 with e1
    injection e1 with e1
    subst e1
    exact frozen_blk hg
theorem ho_set : ∀ {l : List Ho} {k : Nat} {x : Ho} (u : Int), l[k]? = some x → (l.set k { x with u := u }).flatMap hoC = (l.flatMap hoC).set (k * 5 + 2) (.int .i64 u)
  | [], _, _, _, h => by simp at h
  | y :: l, 0, x, u, h => by simp at h; subst h; simp [hoC]
  | y :: l, k + 1, x, u, h => by
    have ih := ho_set u (l := l) (k := k) (x := x) (by simpa using h)
    rw [List.set_cons_succ, List.flatMap_cons, ih, List.flatMap_cons, show (k + 1) * 5 + 2 = k * 5 + 2 + 5 by omega]
    simp [hoC]
theorem own_until {w : World} {B n c g k : Nat} {t : TypeId} {l : List Ho} {x : Ho} (u : Int) (h : w.ownsRow B t 5 (.slice (some ⟨g, 0, none⟩) n c) n (l.flatMap hoC)) (hx : l[k]? = some x) :
    (w.setCell ⟨g, k * 5 + 2, none⟩ (.int .i64 u)).ownsRow B t 5 (.slice (some ⟨g, 0, none⟩) n c) n ((l.set k { x with u := u }).flatMap hoC) := by
  rcases h.2 with ⟨e, h0⟩ | ⟨g', cap, cur, e, hgb, hg, h5, h6, h7, h8⟩
  · cases e
  · injection e with e1 _ e3
    injection e1 with e1
    injection e1 with e1
    subst e1; subst e3
    rw [ho_set u hx]
    refine ⟨by rw [List.length_set]; exact h.1, .inr ⟨g, c, _, rfl, hgb, blk_put _ hg, h5, h6, by simpa using h7, ?_⟩⟩
    rw [← h8]
    simp only [Array.toList_setIfInBounds, List.take_set]
theorem own_hos {w : World} {B n c : Nat} {t : TypeId} {A : Option Addr} {l : List Ho} (h : w.ownsRow B t 5 (.slice A n c) n (l.flatMap hoC)) (hn : l.length = n) : Hos w w.heap.size A l := (els_own hoC_len h hn).1
theorem split_at {l : List Ho} {k : Nat} {x : Ho} (h : l[k]? = some x) : l = l.take k ++ x :: l.drop (k + 1) ∧ ∀ y, l.set k y = l.take k ++ y :: l.drop (k + 1) := by
  have hk := (List.getElem?_eq_some_iff.1 h).1
  have e : l = l.take k ++ x :: l.drop (k + 1) := by
    conv => lhs; rw [← List.take_append_drop k l, List.drop_eq_getElem_cons hk]
    rw [(List.getElem?_eq_some_iff.1 h).2]
  refine ⟨e, fun y => ?_⟩
  rw [List.set_eq_take_append_cons_drop, if_pos hk]
theorem fe_moved {w w' : World} {b o : Nat} {f : Fe} (e : w'.heap[b]? = w.heap[b]?) (h : FeAt w b o f) : FeAt w' b o f :=
  ⟨(World.cell?_of_block e).trans h.1, (World.cell?_of_block e).trans h.2.1, (World.cell?_of_block e).trans h.2.2.1, (World.cell?_of_block e).trans h.2.2.2⟩
theorem turn_one {lv : List Fe} {a b : List Ho} {x : Ho} (h0 : (turnL moreC lv (sl (a ++ x :: b))).1 = 0) : (turnL moreC lv x.sl).1 = 0 ∧ (turnL moreC (turnL moreC lv x.sl).2 (sl (a ++ b))).1 = 0 := by
  have hp : (sl (a ++ x :: b)).Perm (x.sl ++ sl (a ++ b)) := by
    have : (a ++ x :: b).Perm (x :: (a ++ b)) := List.perm_middle
    have := sl_perm this
    simpa [sl] using this
  have h1 : (turnL moreC lv (x.sl ++ sl (a ++ b))).1 = 0 := by rw [turn_perm hp h0]; exact h0
  have h2 := turn_left h1
  exact ⟨h2, by rw [← turn_app h2]; exact h1⟩
theorem grown_lit {U w5 : World} {o : Obj} (g5 : (U.alloc o).grownBy w5 (Value.slice (some ⟨U.heap.size, 0, none⟩) 0 0).ownBlock) {p : Nat} (hp : p < U.heap.size) : w5.heap[p]? = U.heap[p]? :=
  (g5.block p (by rw [World.size_alloc]; omega) (fun e => by have e : some p = some U.heap.size := e; injection e with e; omega)).trans (Below.heap_alloc _ _ _ hp)
theorem grown_below {w U w5 : World} {o : Obj} (hB : Below w.heap.size w U) (g5 : (U.alloc o).grownBy w5 (Value.slice (some ⟨U.heap.size, 0, none⟩) 0 0).ownBlock) : Below w.heap.size w w5 :=
  (hB.alloc hB.size _).grown g5 (by rw [World.size_alloc]; have := hB.size; omega) (fun i e => by have e : some U.heap.size = some i := e; injection e with e; have := hB.size; omega)
theorem own_hold_cell {w : World} {B n c g k : Nat} {t : TypeId} {l : List Ho} {x : Ho} (h : w.ownsRow B t 5 (.slice (some ⟨g, 0, none⟩) n c) n (l.flatMap hoC)) (hx : l[k]? = some x) (hn : l.length = n) : w.cell? ⟨g, k * 5 + 2, none⟩ = some (.int .i64 x.u) := by
  have hk := (List.getElem?_eq_some_iff.1 hx).1
  rw [h.cellAt (k * 5 + 2) (by omega), flat_get hoC_len hx (by omega)]
  rfl
end Go.Proofs.YtenldgnfjjchiaaDoor
