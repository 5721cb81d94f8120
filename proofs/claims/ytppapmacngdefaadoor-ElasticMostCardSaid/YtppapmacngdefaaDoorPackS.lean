/- turn, Less, More of package pack: slot by slot, what is taken off a view, or put to it. -/
/- turn of package pack, with the closures of Less and More; Less and More whole. -/
/- What is left of a view behind a placing; and put back. Plain facts. -/
import Derived.Maps.AppendAt
import Derived.Deep.AppendLies
import Derived.StillTailTactics
import Derived.Test.YtppapmacngdefaaDoorPackR
import Derived.WalkArith
import Derived.Test.YtppapmacngdefaaDoorKitP
set_option maxRecDepth 100000
namespace Go.Proofs.YtppapmacngdefaaDoor
open Go.RowKit
def hitL (l : List Fe) (n d : Int) : Option Nat := l.findIdx? (fun f => f.n == n && f.d == d)
def stepL (ch : Fe → Fe → Int × Fe) (l : List Fe) (s : Fe) : Int × List Fe :=
  if s.c < 0 then (1, l) else match hitL l s.n s.d with
  | none => (3, l)
  | some k => match l[k]? with
    | none => (3, l)
    | some f => ((ch f s).1, if (ch f s).1 = 0 then l.set k (ch f s).2 else l)
def turnL (ch : Fe → Fe → Int × Fe) : List Fe → List Fe → Int × List Fe
  | l, [] => (0, l)
  | l, s :: ss => if (stepL ch l s).1 = 0 then turnL ch (stepL ch l s).2 ss else stepL ch l s
theorem turnL_app (ch : Fe → Fe → Int × Fe) : ∀ (a b l : List Fe), turnL ch l (a ++ b) = if (turnL ch l a).1 = 0 then turnL ch (turnL ch l a).2 b else turnL ch l a
  | [], b, l => by simp [turnL]
  | s :: a, b, l => by
    rw [List.cons_append, turnL, turnL]
    by_cases h : (stepL ch l s).1 = 0
    · rw [if_pos h, if_pos h, turnL_app ch a b]
    · rw [if_neg h, if_neg h, if_neg h]
theorem turnL_next {ch : Fe → Fe → Int × Fe} {l l' ss : List Fe} {j : Nat} {s : Fe} (h : turnL ch l (ss.take j) = (0, l')) (hs : ss[j]? = some s) : turnL ch l (ss.take (j + 1)) = stepL ch l' s := by
  rw [take_next hs, turnL_app, h, if_pos rfl, turnL]
  by_cases h2 : (stepL ch l' s).1 = 0
  · rw [if_pos h2, turnL]; exact Prod.ext h2.symm rfl
  · rw [if_neg h2]
theorem turnL_stop {ch : Fe → Fe → Int × Fe} {l l' ss : List Fe} {j : Nat} {s : Fe} (h : turnL ch l (ss.take j) = (0, l')) (hs : ss[j]? = some s) (he : (stepL ch l' s).1 ≠ 0) : turnL ch l ss = stepL ch l' s := by
  have h1 := turnL_next h hs
  conv => lhs; rw [← List.take_append_drop (j + 1) ss]
  rw [turnL_app, h1, if_neg he]
/-- The view's spots, each with its place. -/
def spotsL (l : List Fe) : List (Int × Int) := l.map fun f => (f.n, f.d)
theorem hitL_some {l : List Fe} {n d : Int} {k : Nat} (h : hitL l n d = some k) : ∃ f, l[k]? = some f ∧ f.n = n ∧ f.d = d := by
  unfold hitL at h
  rw [List.findIdx?_eq_some_iff_getElem] at h
  obtain ⟨hk, h1, _⟩ := h
  exact ⟨_, List.getElem?_eq_getElem hk, by simpa using h1⟩
theorem spotsL_set {l : List Fe} {k : Nat} {f g : Fe} (h : l[k]? = some f) (h1 : g.n = f.n) (h2 : g.d = f.d) : spotsL (l.set k g) = spotsL l := by
  unfold spotsL
  rw [List.map_set, h1, h2]
  refine List.ext_getElem? fun i => ?_
  by_cases e : k = i
  · subst e
    have hk := (List.getElem?_eq_some_iff.1 h).1
    rw [List.getElem?_set_self (by simpa using hk), List.getElem?_map, h]; rfl
  · rw [List.getElem?_set_ne e]
/-- What a view is. -/
structure View (l : List Fe) : Prop where
  ok : ∀ f ∈ l, FeOk f ∧ 0 ≤ f.c ∧ f.c ≤ 1048576
  one : (spotsL l).Nodup
theorem view_of_right {l : List Fe} (hf : ∀ f ∈ l, FeOk f) (h : rightL l = true) : View l := by
  unfold rightL at h
  rw [List.all_eq_true] at h
  have hk : ∀ k f, l[k]? = some f → cpuOk f = true ∧ findL (l.take k) f.n f.d < 0 := fun k f hx => by
    have := h k (by simpa using (List.getElem?_eq_some_iff.1 hx).1)
    unfold okAt at this
    rw [hx] at this
    simp only [Bool.and_eq_true, decide_eq_true_eq] at this
    exact this
  refine ⟨fun f hm => ?_, ?_⟩
  · obtain ⟨k, hx⟩ := List.mem_iff_getElem?.1 hm
    have := (hk k f hx).1
    unfold cpuOk at this
    exact ⟨hf f hm, of_decide_eq_true this⟩
  · unfold spotsL
    refine List.pairwise_iff_getElem.2 fun i j hi hj hij e => ?_
    rw [List.length_map] at hi hj
    simp only [List.getElem_map] at e
    have h1 := (hk j l[j] (List.getElem?_eq_getElem hj)).2
    unfold findL at h1
    cases hq : (l.take j).findIdx? (fun f => f.n == l[j].n && f.d == l[j].d) with
    | some q => rw [hq] at h1; simp at h1; omega
    | none =>
      rw [List.findIdx?_eq_none_iff] at hq
      have hm : l[i] ∈ l.take j := by
        rw [List.mem_iff_getElem?]
        exact ⟨i, by rw [List.getElem?_take, if_pos hij, List.getElem?_eq_getElem]⟩
      have := hq _ hm
      have e1 := congrArg Prod.fst e
      have e2 := congrArg Prod.snd e
      simp only at e1 e2
      simp [e1, e2] at this
theorem info_freeP : (Tryd.prog.info? 52).map (fun i => (i.zero, i.size, i.bytes)) = some (some (.agg #[.int .i64 0, .int .i64 0, .int .u64 0, .int .i64 0]), 4, 32) := by kernel_rfl
end Go.Proofs.YtppapmacngdefaaDoor

namespace Go.Proofs.YtppapmacngdefaaDoor
open Go.RowKit
theorem lessC_keep {f s : Fe} (hf : FeOk f) (h0 : 0 ≤ f.c) (h1 : f.c ≤ 1048576) (_ : FeOk s) (hs0 : 0 ≤ s.c) (h : (lessC f s).1 = 0) : (lessC f s).2.n = f.n ∧ (lessC f s).2.d = f.d ∧ FeOk (lessC f s).2 ∧ 0 ≤ (lessC f s).2.c ∧ (lessC f s).2.c ≤ 1048576 := by
  unfold lessC at *
  by_cases hc : MM.sub s.m f.m ≠ 0 ∨ f.c < s.c
  · rw [if_pos hc] at h; exact absurd h (by simp)
  · rw [if_neg hc]
    have : ¬ f.c < s.c := fun h => hc (.inr h)
    refine ⟨rfl, rfl, ⟨hf.n, hf.d, MM.sub_lt _ hf.m, ?_⟩, ?_, ?_⟩
    · exact WalkArith.wf_i64 (by simp only; omega)
    · simp only; omega
    · simp only; omega
theorem moreC_keep {f s : Fe} (hf : FeOk f) (h0 : 0 ≤ f.c) (h1 : f.c ≤ 1048576) (hs : FeOk s) (hs0 : 0 ≤ s.c) (h : (moreC f s).1 = 0) : (moreC f s).2.n = f.n ∧ (moreC f s).2.d = f.d ∧ FeOk (moreC f s).2 ∧ 0 ≤ (moreC f s).2.c ∧ (moreC f s).2.c ≤ 1048576 := by
  unfold moreC at *
  by_cases hc : s.m &&& f.m ≠ 0
  · rw [if_pos hc] at h; exact absurd h (by simp)
  · rw [if_neg hc] at h ⊢
    by_cases hc2 : 1048576 - f.c < s.c
    · rw [if_pos hc2] at h; exact absurd h (by simp)
    · rw [if_neg hc2]
      refine ⟨rfl, rfl, ⟨hf.n, hf.d, MM.or_lt hf.m hs.m, ?_⟩, ?_, ?_⟩
      · exact WalkArith.wf_i64 (by simp only; omega)
      · simp only; omega
      · simp only; omega
end Go.Proofs.YtppapmacngdefaaDoor

namespace Go.Proofs.YtppapmacngdefaaDoor
open Go.RowKit
open PK
theorem hitL_at {l : List Fe} {k : Nat} {f : Fe} (hn : (spotsL l).Nodup) (h : l[k]? = some f) : hitL l f.n f.d = some k := by
  unfold hitL
  obtain ⟨hk, rfl⟩ := List.getElem?_eq_some_iff.1 h
  rw [List.findIdx?_eq_some_iff_getElem]
  refine ⟨hk, by simp, fun j hj => ?_⟩
  have := List.pairwise_iff_getElem.1 hn j k (by unfold spotsL; rw [List.length_map]; omega) (by unfold spotsL; rw [List.length_map]; exact hk) hj
  unfold spotsL at this
  simp only [List.getElem_map] at this
  simp only [Bool.and_eq_true, beq_iff_eq]
  exact fun ⟨e1, e2⟩ => this (by rw [e1, e2])
theorem roomF_set {S : Shp} : ∀ {l : List Fe} {k : Nat} {f : Fe} (g : Fe), l[k]? = some f → roomF S (l.set k g) + fitF S f = roomF S l + fitF S g
  | [], _, _, _, h => by simp at h
  | x :: l, 0, f, g, h => by
    simp at h; subst h
    unfold roomF fitsL
    simp only [List.set_cons_zero, List.map_cons, List.sum_cons]; omega
  | x :: l, k + 1, f, g, h => by
    have ih := roomF_set (S := S) (l := l) (k := k) (f := f) g (by simpa using h)
    unfold roomF fitsL at *
    simp only [List.set_cons_succ, List.map_cons, List.sum_cons]; omega
theorem fitF_mono {S : Shp} {f g : Fe} (hm : MM.cnt f.m ≤ MM.cnt g.m) (hc : f.c ≤ g.c) : fitF S f ≤ fitF S g := by
  unfold fitF
  split
  · exact fitZ_more hm hc
  · omega
theorem restF_le {S : Shp} {f : Fe} (h : 0 < fitF S f) : fitF S (restF S f) ≤ fitF S f := by
  obtain ⟨hok, g, c, k, hg, hc, hk, e, h1, h2⟩ := fit_pos' h
  refine fitF_mono ?_ ?_
  · unfold restF; simp only; rw [MM.cnt_rest]; omega
  · unfold restF; simp only; omega
theorem low_sub (m g : Nat) : MM.sub (MM.low m g) m = 0 := Nat.eq_of_testBit_eq fun i => by
  rw [MM.testBit_sub, Nat.zero_testBit]
  cases h : (MM.low m g).testBit i
  · rfl
  · have := MM.low_in _ _ _ h; simp [this]
/-- One piece, taken off. -/
theorem less_piece {S : Shp} {l : List Fe} {k : Nat} {f : Fe} (hn : (spotsL l).Nodup) (hk : l[k]? = some f) (h : 0 < fitF S f) : stepL lessC l (slotF S f) = (0, l.set k (restF S f)) := by
  obtain ⟨hok, g, c, q, hg, hc, hq, e, h1, h2⟩ := fit_pos' h
  unfold stepL
  have hs : ¬ (slotF S f).c < 0 := by unfold slotF; simp only; omega
  rw [if_neg hs]
  have hh : hitL l (slotF S f).n (slotF S f).d = some k := by show hitL l f.n f.d = some k; exact hitL_at hn hk
  rw [hh]
  simp only [hk]
  have hl : lessC f (slotF S f) = (0, restF S f) := by
    unfold lessC
    rw [if_neg (by
      rintro (hx | hx)
      · exact hx (low_sub _ _)
      · unfold slotF at hx; simp only at hx; omega)]
    rfl
  rw [hl]
  rfl
/-- So many pieces, taken off. -/
theorem less_pieces {S : Shp} : ∀ (x : Nat) {l : List Fe} {k : Nat} {f : Fe}, (spotsL l).Nodup → l[k]? = some f → x ≤ fitF S f →
    turnL lessC l (pieces S f x) = (0, l.set k (rests S f x)) ∧ fitF S (rests S f x) ≤ fitF S f ∧ fitF S f ≤ fitF S (rests S f x) + x
  | 0, l, k, f, hn, hk, hx => by
    obtain ⟨hkl, rfl⟩ := List.getElem?_eq_some_iff.1 hk
    refine ⟨?_, Nat.le_refl _, by rw [rests]; omega⟩
    rw [pieces, turnL, rests]
    simp
  | x + 1, l, k, f, hn, hk, hx => by
    have hpos : 0 < fitF S f := by omega
    have h1 := less_piece hn hk hpos
    have hkl := (List.getElem?_eq_some_iff.1 hk).1
    have h2 := restF_fit hpos
    have h3 := restF_le hpos
    have ih := less_pieces (S := S) x (l := l.set k (restF S f)) (k := k) (f := restF S f) (by rw [spotsL_set (g := restF S f) hk rfl rfl]; exact hn) (List.getElem?_set_self hkl) (by omega)
    refine ⟨?_, by rw [rests]; omega, by rw [rests]; omega⟩
    rw [pieces, turnL, h1, if_pos rfl]
    rw [show (0, l.set k (restF S f)).2 = l.set k (restF S f) from rfl, ih.1, List.set_set, rests]
/-- A whole placing, taken off. -/
theorem less_place {S : Shp} {l0 : List Fe} : ∀ (Z : List Nat) (r : Nat) {l : List Fe}, Z.Nodup → (spotsL l).Nodup → (∀ k ∈ Z, l[k]? = l0[k]?) →
    ∃ l', turnL lessC l (placeL S l0 Z r) = (0, l') ∧ spotsL l' = spotsL l ∧ roomF S l' ≤ roomF S l ∧ roomF S l ≤ roomF S l' + r
  | [], r, l, _, _, _ => ⟨l, by rw [placeL, turnL], rfl, Nat.le_refl _, by omega⟩
  | k :: Z, r, l, hz, hn, hl => by
    obtain ⟨hz1, hz2⟩ := List.nodup_cons.1 hz
    rw [placeL]
    cases hk : l0[k]? with
    | none => exact less_place (S := S) (l0 := l0) Z r hz2 hn fun j hj => hl j (List.mem_cons_of_mem _ hj)
    | some f =>
      simp only
      have hkl : l[k]? = some f := by rw [hl k (by simp), hk]
      obtain ⟨a1, a2, a3⟩ := less_pieces (S := S) (min (fitF S f) r) hn hkl (by omega)
      have hlen := (List.getElem?_eq_some_iff.1 hkl).1
      have hsp := spotsL_set hkl (g := rests S f (min (fitF S f) r)) (rests_spot S _ f).1 (rests_spot S _ f).2
      obtain ⟨l', b1, b2, b3, b4⟩ := less_place (S := S) (l0 := l0) Z (r - min (fitF S f) r) (l := l.set k (rests S f (min (fitF S f) r))) hz2 (by rw [hsp]; exact hn) (fun j hj => by
        have hne : k ≠ j := fun e => hz1 (e ▸ hj)
        rw [List.getElem?_set_ne hne]
        exact hl j (List.mem_cons_of_mem _ hj))
      have hr := roomF_set (S := S) (rests S f (min (fitF S f) r)) hkl
      refine ⟨l', ?_, by rw [b2, hsp], by omega, by omega⟩
      rw [turnL_app, a1]
      exact b1
theorem less_placeF {S : Shp} {l : List Fe} {p : Nat} (hn : (spotsL l).Nodup) : ∃ l', turnL lessC l (placeF S l p) = (0, l') ∧ spotsL l' = spotsL l ∧ roomF S l' ≤ roomF S l ∧ roomF S l ≤ roomF S l' + p :=
  less_place _ p ((orderF_perm' S l).nodup_iff.2 List.nodup_range) hn fun _ _ => rfl
theorem slots_ok {S : Shp} (hw : S.Wf) : ∀ (x : Nat) {f : Fe}, FeOk f → x ≤ fitF S f → ∀ s ∈ pieces S f x, FeOk s ∧ MM.cnt s.m = S.g.toNat ∧ s.c = S.c
  | 0, f, _, _, s, hs => by rw [pieces] at hs; cases hs
  | x + 1, f, hf, hx, s, hs => by
    have hpos : 0 < fitF S f := by omega
    have h2 := restF_fit hpos
    rw [pieces] at hs
    rcases List.mem_cons.1 hs with rfl | hs
    · obtain ⟨hok, g, c, k, hg, hc, hk, e, h1, h3⟩ := fit_pos' hpos
      refine ⟨slotF_ok hw hf, ?_, rfl⟩
      unfold slotF; simp only
      rw [MM.cnt_low (by rw [hg]; exact h1)]
    · exact slots_ok hw x (restF_ok hf hpos) (by omega) s hs
theorem placeL_ok {S : Shp} {l : List Fe} (hw : S.Wf) (hf : ∀ f ∈ l, FeOk f) : ∀ (Z : List Nat) (r : Nat), ∀ s ∈ placeL S l Z r, FeOk s ∧ MM.cnt s.m = S.g.toNat ∧ s.c = S.c
  | [], r, s, hs => by rw [placeL] at hs; cases hs
  | k :: Z, r, s, hs => by
    rw [placeL] at hs
    cases hk : l[k]? with
    | none => rw [hk] at hs; exact placeL_ok hw hf Z r s hs
    | some f =>
      rw [hk] at hs
      simp only at hs
      rcases List.mem_append.1 hs with hs | hs
      · exact slots_ok hw _ (hf f (List.mem_of_getElem? hk)) (by omega) s hs
      · exact placeL_ok hw hf Z _ s hs
end Go.Proofs.YtppapmacngdefaaDoor
