/- A view that is all held, by one hold: plain facts. -/
import Derived.Test.YtenldgnfjjchiaaDoorProT
set_option linter.unusedVariables false
namespace Go.Proofs.YtenldgnfjjchiaaDoor
open Go.RowKit
open PR
def bare (f : Fe) : Fe := ⟨f.n, f.d, 0, 0⟩
def bareL (l : List Fe) : List Fe := l.map bare
theorem bare_spots (l : List Fe) : spotsL (bareL l) = spotsL l := by unfold spotsL bareL; rw [List.map_map]; rfl
theorem bare_view {l : List Fe} (h : View l) : View (bareL l) := ⟨fun f hf => by
  unfold bareL at hf
  obtain ⟨x, hx, rfl⟩ := List.mem_map.1 hf
  have := (h.ok x hx).1
  exact ⟨⟨this.n, this.d, (by unfold bare; simp), (by unfold bare; exact WalkArith.wf_i64 (by simp))⟩, Int.le_refl _, (by unfold bare; simp)⟩, by rw [bare_spots]; exact h.one⟩
theorem bare_none {S : Shp} (l : List Fe) (hok : S.ok = true) : roomF S (bareL l) = 0 := by
  have h1 : ∀ f, fitF S (bare f) = 0 := fun f => by
    unfold fitF bare
    rw [if_pos hok]
    obtain ⟨g, c, mn, mx⟩ := S
    obtain ⟨a, b, rfl, rfl, ha, hb, hab⟩ := Shp.nat hok
    have e0 : MM.cnt 0 = 0 := by decide +kernel
    unfold fitZ fitN tms
    simp only [Int.toNat_natCast, e0]
    by_cases h : a = 0
    · have : b ≠ 0 := by omega
      simp [this]
    · simp [h]
  unfold roomF fitsL bareL
  rw [List.map_map]
  induction l with
  | nil => rfl
  | cons x l ih => rw [List.map_cons, List.sum_cons, ih]; simp [h1]
/-- All of it is put back. -/
theorem bare_fill {l : List Fe} (h : View l) : ∀ k, k ≤ l.length → turnL moreC (bareL l) (l.take k) = (0, l.take k ++ (bareL l).drop k)
  | 0, _ => by rw [List.take_zero, turnL]; rfl
  | k + 1, hk => by
    have ih := bare_fill h k (by omega)
    obtain ⟨f, hf⟩ := get_lt (l := l) (k := k) (by omega)
    rw [turnL_next ih hf]
    have hfo := h.ok f (List.mem_of_getElem? hf)
    have hb : (bareL l)[k]? = some (bare f) := by unfold bareL; rw [List.getElem?_map, hf]; rfl
    have hlk : (l.take k).length = k := by rw [List.length_take]; omega
    have hat : (l.take k ++ (bareL l).drop k)[k]? = some (bare f) := by
      rw [List.getElem?_append_right (by omega), hlk, Nat.sub_self, List.getElem?_drop, Nat.add_zero, hb]
    have hsp : spotsL (l.take k ++ (bareL l).drop k) = spotsL l := by
      have e1 : spotsL (l.take k ++ (bareL l).drop k) = (spotsL l).take k ++ (spotsL (bareL l)).drop k := by unfold spotsL; rw [List.map_append, List.map_take, List.map_drop]
      rw [e1, bare_spots, List.take_append_drop]
    have hhit := hitL_at (l := l.take k ++ (bareL l).drop k) (by rw [hsp]; exact h.one) hat
    rw [step_of (f := bare f) hfo.2.1 (show hitL _ f.n f.d = some k from hhit) hat (by unfold bare; simp) (by unfold bare; have := hfo.2.2; simp only; omega)]
    congr 1
    rw [List.set_append_right _ _ (by omega), hlk, Nat.sub_self]
    have hd : (bareL l).drop k = bare f :: (bareL l).drop (k + 1) := by
      rw [List.drop_eq_getElem_cons (by unfold bareL; rw [List.length_map]; omega)]
      congr 1
      exact Option.some.inj ((List.getElem?_eq_getElem _).symm.trans hb)
    rw [hd, List.set_cons_zero, take_next hf, List.append_assoc]
    congr 1
    simp [bare]
theorem bare_all {l : List Fe} (h : View l) : turnL moreC (bareL l) l = (0, l) := by
  have := bare_fill h l.length (Nat.le_refl _)
  rw [List.take_length, List.drop_eq_nil_of_le (by unfold bareL; simp), List.append_nil] at this
  exact this
/-- With all of it held, it is when that ends, if it fits then. -/
theorem room_held {l : List Fe} {X : Wa} {x : Ho} {now T E : Int} (hv : View l) (hx : x.sl = l) (hq : x.q ≠ X.q) (hok : X.ok = true) (h0 : 0 ≤ now) (h1 : now < x.u) (h2 : x.u ≤ 1073741824)
    (h : Earl now (bareL l) 1048576 1048576 [x] X T E) : E = 0 ∧ T = if X.n ≤ roomF X.S l then x.u else 1073741825 := by
  have hsl : sl [x] = l := by simp [sl, hx]
  have ht := bare_all hv
  have hb : 0 ≤ X.g ∧ X.g ≤ 256 ∧ 0 ≤ X.c ∧ X.c ≤ 16384 := Wa.need_le
  have eg : X.S.g * X.n = X.g := by unfold Wa.g; rw [hok]; rfl
  have ec : X.S.c * X.n = X.c := by unfold Wa.c; rw [hok]; rfl
  have hn1 : 1 ≤ X.n := by unfold Wa.ok at hok; simp only [Bool.and_eq_true, decide_eq_true_eq] at hok; exact hok.2.1
  have hS : X.S.ok = true := by unfold Wa.ok at hok; simp only [Bool.and_eq_true] at hok; exact hok.1
  have aNow : at_ (bareL l) 1048576 1048576 [x] X now = false := by
    unfold at_
    have e : over [x] now = [] := by unfold over; rw [List.filter_cons, if_neg (by simp; omega)]; rfl
    rw [e]
    unfold fits
    rw [show (turnL moreC (bareL l) (sl [])).2 = bareL l from rfl, bare_none l hS]
    have : ¬ X.n ≤ ((0 : Nat) : Int) := by omega
    rw [decide_eq_false (fun h => this h.2.2), Bool.and_false]
  have aU : at_ (bareL l) 1048576 1048576 [x] X x.u = decide (X.n ≤ roomF X.S l) := by
    unfold at_
    have e : over [x] x.u = [x] := by unfold over; simp
    have em : mine [x] X.q = [] := by unfold mine sl; rw [List.filter_cons, if_neg (by simpa using hq)]; rfl
    rw [e, hsl, em, ht]
    unfold fits
    rw [hok, eg, ec, show gs [] = 0 from rfl, show cs [] = 0 from rfl]
    have h3 : X.g ≤ 1048576 + ((0 : Nat) : Int) := by omega
    have h4 : X.c ≤ 1048576 + 0 := by omega
    simp only [h3, h4, true_and, Bool.true_and]
  have hT0 : (turnL moreC (bareL l) (sl [x])).1 = 0 := by rw [hsl, ht]
  rcases h with ⟨hb, _⟩ | ⟨_, ⟨hne, _⟩ | ⟨_, he, hl⟩⟩
  · exact absurd ⟨hok, h0, by omega⟩ hb
  · exact absurd hT0 hne
  · refine ⟨he, ?_⟩
    by_cases hfit : X.n ≤ roomF X.S l
    · rw [if_pos hfit]
      refine hl.same (.inr ⟨.inr ⟨⟨x, by simp, rfl⟩, h1, by omega⟩, by rw [aU]; exact decide_eq_true hfit, fun y hy hp => ?_⟩)
      rcases hy with e | ⟨⟨z, hz, e⟩, _⟩
      · rw [e, aNow] at hp; cases hp
      · simp at hz; subst hz; omega
    · rw [if_neg hfit]
      refine hl.same (.inl ⟨rfl, fun y hy => ?_⟩)
      rcases hy with e | ⟨⟨z, hz, e⟩, _⟩
      · rw [e]; exact aNow
      · simp at hz; subst hz; rw [← e, aU]; exact decide_eq_false hfit
theorem room_now {l : List Fe} {X : Wa} {now T E : Int} (hok : X.ok = true) (h0 : 0 ≤ now) (h1 : now ≤ 1073741824) (h : Earl now l 1048576 1048576 [] X T E) : E = 0 ∧ T = if X.n ≤ roomF X.S l then now else 1073741825 := by
  have hE : E = 0 := by
    rcases h with ⟨hb, _⟩ | ⟨_, ⟨hne, _⟩ | ⟨_, he, _⟩⟩
    · exact absurd ⟨hok, h0, h1⟩ hb
    · exact absurd (turn_nil0 l) hne
    · exact he
  refine ⟨hE, ?_⟩
  have hb : 0 ≤ X.g ∧ X.g ≤ 256 ∧ 0 ≤ X.c ∧ X.c ≤ 16384 := Wa.need_le
  have eg : X.S.g * X.n = X.g := by unfold Wa.g; rw [hok]; rfl
  have ec : X.S.c * X.n = X.c := by unfold Wa.c; rw [hok]; rfl
  have hf : PR.fits l 1048576 1048576 X = decide (X.n ≤ roomF X.S l) := by
    unfold PR.fits
    rw [hok, eg, ec]
    have h3 : X.g ≤ 1048576 := by omega
    have h4 : X.c ≤ 1048576 := by omega
    simp only [h3, h4, true_and, Bool.true_and]
  obtain ⟨_, ⟨e, h9⟩ | ⟨e, h9⟩⟩ := Earl_nil h hE
  · rw [hf] at h9; rw [if_pos (of_decide_eq_true h9), e]
  · rw [hf] at h9; rw [if_neg (of_decide_eq_false h9), e]
theorem wrap_next {q : Int} (h : (Lit.int .i64 q).wf = true) : ∃ q1, wrap64 (q + 1) = q1 ∧ q1 ≠ q ∧ (Lit.int .i64 q1).wf = true := by
  obtain ⟨b1, b2⟩ := bounds_i64 h
  by_cases hq : q = 9223372036854775807
  · subst hq; exact ⟨-9223372036854775808, by unfold wrap64; omega, by decide, by decide⟩
  · exact ⟨q + 1, IntWalk.wrap64_in _ (by omega), by omega, WalkArith.wf_i64 (by omega)⟩
theorem own_cap {w : World} {B n c k : Nat} {t : TypeId} {A : Option Addr} {xs : List Value} (h : w.ownsRow B t k (.slice A n c) n xs) : n ≤ c ∧ c ≤ maxLen := by
  rcases h.2 with ⟨e, h0⟩ | ⟨g, cap, cur, e, hgb, hg, h5, h6, h7, h8⟩
  · injection e with _ e2 e3
    subst e3
    exact ⟨by omega, Nat.zero_le _⟩
  · injection e with _ _ e3
    subst e3
    exact ⟨h5, h6⟩
/-- Two slices whose blocks differ. -/
def Apart2 (v v' : Value) : Prop := ∀ b, v.ownBlock = some b → v'.ownBlock ≠ some b
theorem one_cells {w : World} {g : Nat} {t : TypeId} {f : Fe} (h : w.heap[g]? = some (.cells #[.int .i64 f.n, .int .i64 f.d, .int .u64 (f.m : Nat), .int .i64 f.c] t (0, 0))) : Els feC 4 w w.heap.size (some ⟨g, 0, none⟩) [f] :=
  .inr ⟨g, 0, rfl, blk_lt h, fun i x hx => by
    match i, hx with
    | 0, hx =>
      simp at hx; subst hx
      intro r u hr
      rw [Nat.zero_mul, Nat.add_zero, Nat.zero_add]
      exact cell_blk h (by simpa [feC] using hr)⟩
theorem one_els (w : World) (f : Fe) : Els feC 4 (w.drew.alloc (.cells #[.int .i64 f.n, .int .i64 f.d, .int .u64 (f.m : Nat), .int .i64 f.c] 52)) (w.drew.alloc (.cells #[.int .i64 f.n, .int .i64 f.d, .int .u64 (f.m : Nat), .int .i64 f.c] 52)).heap.size (some ⟨w.heap.size, 0, none⟩) [f] :=
  one_cells (heap_alloc_new w.drew _)
theorem one_elsF (w : World) (f : Fe) : Els feC 4 (w.alloc (.cells #[.int .i64 f.n, .int .i64 f.d, .int .u64 (f.m : Nat), .int .i64 f.c] 51)) (w.alloc (.cells #[.int .i64 f.n, .int .i64 f.d, .int .u64 (f.m : Nat), .int .i64 f.c] 51)).heap.size (some ⟨w.heap.size, 0, none⟩) [f] :=
  one_cells (heap_alloc_new w _)
end Go.Proofs.YtenldgnfjjchiaaDoor
