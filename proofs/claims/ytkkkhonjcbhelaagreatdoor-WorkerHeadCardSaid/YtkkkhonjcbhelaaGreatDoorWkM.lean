import Derived.Test.YtkkkhonjcbhelaaGreatDoorElSafeM
import Derived.Test.YtkkkhonjcbhelaaGreatDoorElGrow
set_option linter.unusedVariables false
namespace Go.Proofs.YtkkkhonjcbhelaaGreatDoor
open Go.RowKit
open PR
def lat (L : Lk) (r : Int) : Int := L.now + L.to + r
def hdB (L : Lk) (id : Int) : Bool := L.hd != 0 && id == L.hd
theorem hdB_true {L : Lk} {id : Int} : hdB L id = true ↔ L.hd ≠ 0 ∧ id = L.hd := by
 unfold hdB
 simp
structure WkF (L : Lk) : Prop where
 f : LkF L
 n0 : 0 ≤ L.now
 n1 : L.now ≤ 1073741824
 t0 : 0 ≤ L.to
 t1 : L.to ≤ 1073741824
 r : ∀ x ∈ L.lw, 0 ≤ x.r ∧ x.r ≤ 1073741824
theorem WkF.lat {L : Lk} (h : WkF L) {x : Wt} (hx : x ∈ L.lw) : 0 ≤ lat L x.r ∧ lat L x.r ≤ 3221225472 := by
 have := h.n0;have := h.n1;have := h.t0;have := h.t1;have := h.r x hx;unfold Go.Proofs.YtkkkhonjcbhelaaGreatDoor.lat;omega
def HeadY (L : Lk) (id : Int) (s : List Fe) : Prop := L.hd ≠ 0 ∧ id = L.hd ∧ ∃ x n, L.lw.find? (fun x => hdB L x.id) = some x ∧ MostE L x.J n 0 ∧ s = placeF x.J.S L.lv n
def HeadN (L : Lk) : Prop := L.lw.find? (fun x => hdB L x.id) = none ∨ ∃ x n E, L.lw.find? (fun x => hdB L x.id) = some x ∧ MostE L x.J n E ∧ E ≠ 0
def FillN1 (L : Lk) (x : Wt) : Prop := hdB L x.id = true ∨ ∃ n n' E, FillE L x.J (lat L x.r) n n' E ∧ E ≠ 0
def FillY (L : Lk) (id : Int) (s : List Fe) : Prop := ∃ k x n n', L.lw[k]? = some x ∧ (∀ y ∈ L.lw.take k, FillN1 L y) ∧ hdB L x.id = false ∧ id = x.id ∧ FillE L x.J (lat L x.r) n n' 0 ∧ s = placeF x.J.S L.lv n'
def FillN (L : Lk) : Prop := ∀ y ∈ L.lw, FillN1 L y
def GrowK (L : Lk) (j : Jb) (u : Int) (f : Fe) : Prop := FeOk f ∧ LetR L j.id j.q u [f] 0 ∧ j.S.ok = true ∧ ∃ U, leftL L j.q = some U ∧ plE j.S L.lv U.g U.c 1 = 0 ∧ placeF j.S L.lv 1 = [f]
def GrowY (L : Lk) (id : Int) (s : List Fe) : Prop := ∃ r H f, r ∈ L.lr ∧ id = r.id ∧ L.le.find? (fun h => h.id == r.id) = some H ∧ s = [f] ∧ GrowK L r.J H.u f
def ChoiceR (L : Lk) (d id : Int) (s : List Fe) : Prop :=
 (d = 1 ∧ HeadY L id s) ∨ (HeadN L ∧ ((d = 2 ∧ FillY L id s) ∨ (FillN L ∧ ((d = 3 ∧ GrowY L id s) ∨ (d = 0 ∧ id = 0 ∧ s = [])))))
def jobL (L : Lk) (d id : Int) : Option Jb := if d = 3 then (L.lr.find? (fun r => r.id == id)).map Rc.J else (L.lw.find? (fun x => x.id == id)).map Wt.J
def Once (L : Lk) : Prop := (∀ x ∈ L.lw, ∀ y ∈ L.lw, x.id = y.id → x = y) ∧ ∀ x ∈ L.lr, ∀ y ∈ L.lr, x.id = y.id → x = y
def FitR (L : Lk) (j : Jb) (n : Nat) (s : List Fe) : Prop := j.S.ok = true ∧ s = placeF j.S L.lv n ∧ ∃ U, leftL L j.q = some U ∧ plE j.S L.lv U.g U.c n = 0
theorem Shp.ok_pos {S : Shp} (h : S.ok = true) : 0 ≤ S.g ∧ 0 ≤ S.c ∧ 1 ≤ S.mn ∧ S.mn ≤ S.mx ∧ S.mx ≤ 16 := by
 unfold Shp.ok at h;simp at h;omega
theorem plE_fewer {S : Shp} {lv : List Fe} {g c : Int} {n m : Nat} (hok : S.ok = true) (h : plE S lv g c n = 0) (hm : m ≤ n) : plE S lv g c m = 0 := by
 obtain ⟨h1, h2, h3⟩ := plE_zero.1 h;obtain ⟨g0, c0, _⟩ := Shp.ok_pos hok;have e1 := Int.mul_le_mul_of_nonneg_left (show ((m : Nat) : Int) ≤ (n : Nat) by omega) g0;have e2 := Int.mul_le_mul_of_nonneg_left (show ((m : Nat) : Int) ≤ (n : Nat) by omega) c0;exact plE_zero.2 ⟨by omega, by omega, by omega⟩
theorem MostE.fit {L : Lk} {j : Jb} {n : Nat} (h : MostE L j n 0) : FitR L j n (placeF j.S L.lv n) ∧ j.S.mn.toNat ≤ n ∧ n ≤ j.S.mx.toNat := by
 obtain ⟨h0, h1, h2, h3, U, hU, hM⟩ := most_bounds h;refine ⟨⟨h0, rfl, U, hU, ?_⟩, h1, h2⟩;rcases hM with ⟨_, _, _, h9, _⟩ | ⟨h9, _⟩
 ·exact h9.symm
 ·exact absurd rfl h9
theorem FillE.fit {L : Lk} {j : Jb} {un : Int} {n n' : Nat} (h : FillE L j un n n' 0) : (FitR L j n' (placeF j.S L.lv n') ∧ j.S.mn.toNat ≤ n' ∧ n' ≤ j.S.mx.toNat) ∧ LetR L j.id j.q un (placeF j.S L.lv n') 0 := by
 rcases h with ⟨E, _, h0, h1⟩ | ⟨hE, h⟩
 ·exact absurd h1.symm h0
 ·obtain ⟨⟨f1, f2, U, hU, f3⟩, b1, b2⟩ := hE.fit;rcases h with ⟨_, h1, h2, h3, _⟩ | ⟨h9, _⟩
  ·exact ⟨⟨⟨f1, rfl, U, hU, plE_fewer f1 f3 h2⟩, h1, by omega⟩, h3⟩
  ·exact absurd rfl h9
theorem GrowK.fit {L : Lk} {j : Jb} {u : Int} {f : Fe} (h : GrowK L j u f) : FitR L j 1 [f] := by
 obtain ⟨_, _, h3, U, hU, h4, h5⟩ := h;exact ⟨h3, h5.symm, U, hU, h4⟩
theorem FitR.facts {L : Lk} {j : Jb} {n : Nat} {s : List Fe} (hW : LkW L) (hj : JbW j) (hV : View L.lv) (h : FitR L j n s) :
  s.length = n ∧ (∀ f ∈ s, FeOk f) ∧ (∃ U, leftL L j.q = some U ∧ (gs s : Int) ≤ U.g ∧ cs s ≤ U.c) ∧ (turnL lessC L.lv s).1 = 0 := by
 obtain ⟨h1, rfl, U, hU, h2⟩ := h;obtain ⟨r1, r2, r3⟩ := plE_zero.1 h2;obtain ⟨u1, u2⟩ := placeF_units hj.S h1 hW.v r1;obtain ⟨l', hl, _⟩ := less_placeF (S := j.S) (l := L.lv) (p := n) hV.one;exact ⟨placeF_len r1, fun f hf => (placeL_ok hj.S hW.v _ _ f hf).1, ⟨U, hU, by rw [u1]; exact r2, by rw [u2]; exact r3⟩, by rw [hl]⟩
theorem find_id {α : Type} {l : List α} {f : α → Int} {id : Int} {x : α} (hx : x ∈ l) (h : f x = id) : ∃ y, l.find? (fun z => f z == id) = some y ∧ y ∈ l ∧ f y = id := by
 cases hy : l.find? (fun z => f z == id) with
 | none => exact absurd (by simp [h] : (f x == id) = true) (by have := List.find?_eq_none.1 hy x hx; simpa using this)
 | some y => exact ⟨y, rfl, List.mem_of_find?_eq_some hy, by have := List.find?_some hy; simpa using this⟩
theorem ChoiceR.job {L : Lk} {d id : Int} {s : List Fe} (hW : LkW L) (h : ChoiceR L d id s) (h0 : d ≠ 0) : (d = 1 ∨ d = 2 ∨ d = 3) ∧ ∃ j, jobL L d id = some j ∧ JbW j ∧ j.id = id := by
 have hw : ∀ x ∈ L.lw, x.id = id → d ≠ 3 → ∃ j, jobL L d id = some j ∧ JbW j ∧ j.id = id := fun x hx e h3 => by
  obtain ⟨y, e1, e2, e3⟩ := find_id (f := Wt.id) hx e;refine ⟨y.J, ?_, (hW.t y e2).J, e3⟩;unfold jobL;rw [if_neg h3, e1]; rfl
 rcases h with ⟨rfl, _, e, x, n, hx, _⟩ | ⟨_, ⟨rfl, k, x, n, n', hx, _, _, e, _⟩ | ⟨_, ⟨rfl, r, H, f, hr, e, _⟩ | ⟨e, _⟩⟩⟩
 ·refine ⟨.inl rfl, hw x (List.mem_of_find?_eq_some hx) ?_ (by decide)⟩;have := List.find?_some hx;rw [e, (hdB_true.1 this).2]
 ·exact ⟨.inr (.inl rfl), hw x (List.mem_of_getElem? hx) e.symm (by decide)⟩
 ·obtain ⟨y, e1, e2, e3⟩ := find_id (f := Rc.id) hr e.symm;refine ⟨.inr (.inr rfl), y.J, ?_, hW.r y e2, e3⟩;unfold jobL;rw [if_pos rfl, e1]; rfl
 ·exact absurd e h0
theorem ChoiceR.fit {L : Lk} {d id : Int} {s : List Fe} {j : Jb} (hW : LkW L) (ho : Once L) (h : ChoiceR L d id s) (hj : jobL L d id = some j) (h0 : d ≠ 0) :
  ∃ n, FitR L j n s ∧ (d = 3 → n = 1) ∧ (d ≠ 3 → j.S.mn.toNat ≤ n ∧ n ≤ j.S.mx.toNat) ∧ (d = 1 → hdB L id = true) ∧ (d = 2 → hdB L id = false) := by
 have hw : ∀ x ∈ L.lw, x.id = id → d ≠ 3 → j = x.J := fun x hx e h3 => by
  unfold jobL at hj;rw [if_neg h3] at hj;obtain ⟨y, hy, e2⟩ := Option.map_eq_some_iff.1 hj;have := List.find?_some hy;have e3 := ho.1 x hx y (List.mem_of_find?_eq_some hy) (by simp at this; omega);rw [e3, e2]
 rcases h with ⟨rfl, h1, e, x, n, hx, hM, rfl⟩ | ⟨_, ⟨rfl, k, x, n, n', hx, _, hb, e, hF, rfl⟩ | ⟨_, ⟨rfl, r, H, f, hr, e, hH, rfl, hG⟩ | ⟨e, _⟩⟩⟩
 ·have h9 := List.find?_some hx;obtain rfl := hw x (List.mem_of_find?_eq_some hx) (by rw [e, (hdB_true.1 h9).2]) (by decide);obtain ⟨f1, f2⟩ := hM.fit;exact ⟨n, f1, (fun e => absurd e (by decide)), fun _ => f2, fun _ => hdB_true.2 ⟨h1, e⟩, fun e => absurd e (by decide)⟩
 ·obtain rfl := hw x (List.mem_of_getElem? hx) e.symm (by decide);obtain ⟨⟨f1, f2⟩, _⟩ := hF.fit;exact ⟨n', f1, (fun e => absurd e (by decide)), fun _ => f2, (fun e => absurd e (by decide)), fun _ => by rw [e]; exact hb⟩
 ·have e9 : j = r.J := by
   unfold jobL at hj;rw [if_pos rfl] at hj;obtain ⟨y, hy, e2⟩ := Option.map_eq_some_iff.1 hj;have := List.find?_some hy;have e3 := ho.2 r hr y (List.mem_of_find?_eq_some hy) (by simp at this; omega);rw [e3, e2]
  subst e9;exact ⟨1, hG.fit, fun _ => rfl, (fun e => absurd rfl e), (fun e => absurd e (by decide)), fun e => absurd e (by decide)⟩
 ·exact absurd e h0
theorem headL_some {L : Lk} {X : Wa} (h : headL L = some X) : L.hd ≠ 0 ∧ ∃ x, L.lw.find? (fun x => hdB L x.id) = some x ∧ x.id = L.hd ∧ X = ⟨x.q, x.mn, x.J.S⟩ := by
 unfold headL at h
 split at h
 ·cases h
 ·rename_i h0
  split at h
  ·cases h
  ·rename_i x hx
   injection h with h;have e : (fun x : Wt => hdB L x.id) = fun x => x.id == L.hd := by funext y; simp [hdB, h0]
   exact ⟨h0, x, by rw [e]; exact hx, by have := List.find?_some hx; simpa using this, h.symm⟩
theorem fits_head {L : Lk} {x : Wt} {U : Lu} (hn : L.lv.length ≤ 70) : fits L.lv U.g U.c ⟨x.q, x.mn, x.J.S⟩ = true ↔ x.J.S.ok = true ∧ plE x.J.S L.lv U.g U.c x.mn.toNat = 0 := by
 unfold fits Wa.ok;simp only [Bool.and_eq_true, decide_eq_true_eq];constructor
 ·rintro ⟨⟨h1, h2⟩, h3, h4, h5⟩;refine ⟨h1, plE_zero.2 ⟨by omega, ?_, ?_⟩⟩
  ·rw [Int.toNat_of_nonneg (by omega)]; exact h3
  ·rw [Int.toNat_of_nonneg (by omega)]; exact h4
 ·rintro ⟨h1, h2⟩;obtain ⟨h3, h4, h5⟩ := plE_zero.1 h2;have h9 := Shp.ok_pos h1;have e : x.J.S.mn = x.mn := rfl;rw [Int.toNat_of_nonneg (by omega)] at h4 h5;exact ⟨⟨h1, by omega, by omega⟩, h4, h5, by omega⟩
theorem ChoiceR.head {L : Lk} {d id : Int} {s : List Fe} {X : Wa} {U : Lu} (hn : L.lv.length ≤ 70) (hX : headL L = some X) (hU : leftL L X.q = some U) (h : ChoiceR L d id s) :
  (fits L.lv U.g U.c X = true → d = 1 ∧ id = L.hd) ∧ (fits L.lv U.g U.c X = false → d ≠ 1) := by
 obtain ⟨h0, x, hx, hi, rfl⟩ := headL_some hX;have hU2 : leftL L x.J.q = some U := hU;constructor
 ·intro hf;obtain ⟨f1, f2⟩ := (fits_head hn).1 hf;rcases h with ⟨rfl, _, e, _⟩ | ⟨hN, _⟩
  ·exact ⟨rfl, e⟩
  ·exfalso;rcases hN with hN | ⟨y, n, E, hy, hM, hE⟩
   ·rw [hx] at hN; cases hN
   ·rw [hx] at hy; injection hy with hy; subst hy;rcases hM with ⟨h9, _⟩ | ⟨_, ⟨h9, _⟩ | ⟨V, hV, hM⟩⟩
    ·rw [f1] at h9; cases h9
    ·rw [hU2] at h9; cases h9
    ·rw [hU2] at hV; injection hV with hV; subst hV;rcases hM with ⟨e, _⟩ | ⟨_, h9, _⟩
     ·exact hE e
     ·exact hE (h9.trans f2)
 ·intro hf e;subst e;rcases h with ⟨_, _, _, y, n, hy, hM, _⟩ | ⟨_, ⟨e, _⟩ | ⟨_, ⟨e, _⟩ | ⟨e, _⟩⟩⟩
  ·rw [hx] at hy; injection hy with hy; subst hy;obtain ⟨⟨g1, _, V, hV, g2⟩, g3, _⟩ := hM.fit;rw [hU2] at hV; injection hV with hV; subst hV;rw [(fits_head hn).2 ⟨g1, plE_fewer g1 g2 g3⟩] at hf
   cases hf
  ·exact absurd e (by decide)
  ·exact absurd e (by decide)
  ·exact absurd e (by decide)
def tillL (L : Lk) (d id r : Int) : Int := if d = 3 then ((L.le.find? (fun h => h.id == id)).map Ho.u).getD (lat L r) else lat L r
theorem ChoiceR.safe {L : Lk} {d id : Int} {s : List Fe} {j : Jb} {X : Wa} {U : Lu} (hW : LkW L) (ho : Once L) (hX : headL L = some X) (hU : leftL L X.q = some U) (h : ChoiceR L d id s) (hj : jobL L d id = some j) (h0 : d ≠ 0) (h1 : d ≠ 1) (hr : ∀ r ∈ L.lr, r.id ≠ L.hd) :
  ∃ T E, Aft L.now L.lv U.g U.c L.le X (hoOf j.q (tillL L d id j.r) s) T E ∧ safeB L.now L.pr T E = true := by
 obtain ⟨hz, _⟩ := headL_some hX;have fin : ∀ u, LetR L j.id j.q u s 0 → j.id ≠ L.hd → ∃ T E, Aft L.now L.lv U.g U.c L.le X (hoOf j.q u s) T E ∧ safeB L.now L.pr T E = true := fun u hl hne => by
  obtain ⟨V, hV, h9⟩ := LetR.safe hl hne hX;rw [hU] at hV; injection hV with hV; subst hV;exact h9
 rcases h with ⟨rfl, _⟩ | ⟨_, ⟨rfl, k, x, n, n', hx, _, hb, e, hF, rfl⟩ | ⟨_, ⟨rfl, r, H, f, hrm, e, hH, rfl, hG⟩ | ⟨e, _⟩⟩⟩
 ·exact absurd rfl h1
 ·have e9 : j = x.J := by
   unfold jobL at hj;rw [if_neg (by decide)] at hj;obtain ⟨y, hy, e2⟩ := Option.map_eq_some_iff.1 hj;have := List.find?_some hy;have e3 := ho.1 x (List.mem_of_getElem? hx) y (List.mem_of_find?_eq_some hy) (by simp at this; omega);rw [e3, e2]
  subst e9;unfold tillL;rw [if_neg (by decide)];refine fin _ hF.fit.2 fun e2 => ?_
  have : hdB L x.id = true := hdB_true.2 ⟨hz, e2⟩;rw [hb] at this; cases this
 ·have e9 : j = r.J := by
   unfold jobL at hj;rw [if_pos rfl] at hj;obtain ⟨y, hy, e2⟩ := Option.map_eq_some_iff.1 hj;have := List.find?_some hy;have e3 := ho.2 r hrm y (List.mem_of_find?_eq_some hy) (by simp at this; omega);rw [e3, e2]
  subst e9;unfold tillL;rw [if_pos rfl, e, hH];exact fin _ hG.2.1 (hr r hrm)
 ·exact absurd e h0
end Go.Proofs.YtkkkhonjcbhelaaGreatDoor
