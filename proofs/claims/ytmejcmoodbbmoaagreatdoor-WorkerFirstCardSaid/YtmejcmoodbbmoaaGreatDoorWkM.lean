/- What a worker chooses: plain facts. No program is walked. -/
import Derived.Test.YtmejcmoodbbmoaaGreatDoorElSafeM
import Derived.Test.YtmejcmoodbbmoaaGreatDoorElGrow
set_option linter.unusedVariables false
namespace Go.Proofs.YtmejcmoodbbmoaaGreatDoor
open Go.RowKit
open PR
def lat (L : Lk) (r : Int) : Int := L.now + L.to + r
def hdB (L : Lk) (id : Int) : Bool := L.hd != 0 && id == L.hd
theorem hdB_true {L : Lk} {id : Int} : hdB L id = true ↔ L.hd ≠ 0 ∧ id = L.hd := by
 unfold hdB
 simp
structure WkF (L : Lk) : Prop where
 f : LkF L
 n0 : 0 ≤ L.now
 n1 : L.now ≤ 1073741824
 t0 : 0 ≤ L.to
 t1 : L.to ≤ 1073741824
 r : ∀ x ∈ L.lw, 0 ≤ x.r ∧ x.r ≤ 1073741824
theorem WkF.lat {L : Lk} (h : WkF L) {x : Wt} (hx : x ∈ L.lw) : 0 ≤ lat L x.r ∧ lat L x.r ≤ 3221225472 := by
 have := h.n0
 have := h.n1
 have := h.t0
 have := h.t1
 have := h.r x hx
 unfold Go.Proofs.YtmejcmoodbbmoaaGreatDoor.lat
 omega
def HeadY (L : Lk) (id : Int) (s : List Fe) : Prop := L.hd ≠ 0 ∧ id = L.hd ∧ ∃ x n, L.lw.find? (fun x => hdB L x.id) = some x ∧ MostE L x.J n 0 ∧ s = placeF x.J.S L.lv n
def HeadN (L : Lk) : Prop := L.lw.find? (fun x => hdB L x.id) = none ∨ ∃ x n E, L.lw.find? (fun x => hdB L x.id) = some x ∧ MostE L x.J n E ∧ E ≠ 0
def FillN1 (L : Lk) (x : Wt) : Prop := hdB L x.id = true ∨ ∃ n n' E, FillE L x.J (lat L x.r) n n' E ∧ E ≠ 0
def FillY (L : Lk) (id : Int) (s : List Fe) : Prop := ∃ k x n n', L.lw[k]? = some x ∧ (∀ y ∈ L.lw.take k, FillN1 L y) ∧ hdB L x.id = false ∧ id = x.id ∧ FillE L x.J (lat L x.r) n n' 0 ∧ s = placeF x.J.S L.lv n'
def FillN (L : Lk) : Prop := ∀ y ∈ L.lw, FillN1 L y
def GrowK (L : Lk) (j : Jb) (u : Int) (f : Fe) : Prop := FeOk f ∧ LetR L j.id j.q u [f] 0 ∧ j.S.ok = true ∧ ∃ U, leftL L j.q = some U ∧ plE j.S L.lv U.g U.c 1 = 0 ∧ placeF j.S L.lv 1 = [f]
def GrowY (L : Lk) (id : Int) (s : List Fe) : Prop := ∃ r H f, r ∈ L.lr ∧ id = r.id ∧ L.le.find? (fun h => h.id == r.id) = some H ∧ s = [f] ∧ GrowK L r.J H.u f
def ChoiceR (L : Lk) (d id : Int) (s : List Fe) : Prop :=
 (d = 1 ∧ HeadY L id s) ∨ (HeadN L ∧ ((d = 2 ∧ FillY L id s) ∨ (FillN L ∧ ((d = 3 ∧ GrowY L id s) ∨ (d = 0 ∧ id = 0 ∧ s = [])))))
def jobL (L : Lk) (d id : Int) : Option Jb := if d = 3 then (L.lr.find? (fun r => r.id == id)).map Rc.J else (L.lw.find? (fun x => x.id == id)).map Wt.J
def Once (L : Lk) : Prop := (∀ x ∈ L.lw, ∀ y ∈ L.lw, x.id = y.id → x = y) ∧ ∀ x ∈ L.lr, ∀ y ∈ L.lr, x.id = y.id → x = y
def FitR (L : Lk) (j : Jb) (n : Nat) (s : List Fe) : Prop := j.S.ok = true ∧ s = placeF j.S L.lv n ∧ ∃ U, leftL L j.q = some U ∧ plE j.S L.lv U.g U.c n = 0
theorem Shp.ok_pos {S : Shp} (h : S.ok = true) : 0 ≤ S.g ∧ 0 ≤ S.c ∧ 1 ≤ S.mn ∧ S.mn ≤ S.mx ∧ S.mx ≤ 16 := by
 unfold Shp.ok at h
 simp at h
 omega
theorem plE_fewer {S : Shp} {lv : List Fe} {g c : Int} {n m : Nat} (hok : S.ok = true) (h : plE S lv g c n = 0) (hm : m ≤ n) : plE S lv g c m = 0 := by
 obtain ⟨h1, h2, h3⟩ := plE_zero.1 h
 obtain ⟨g0, c0, _⟩ := Shp.ok_pos hok
 have e1 := Int.mul_le_mul_of_nonneg_left (show ((m : Nat) : Int) ≤ (n : Nat) by omega) g0
 have e2 := Int.mul_le_mul_of_nonneg_left (show ((m : Nat) : Int) ≤ (n : Nat) by omega) c0
 exact plE_zero.2 ⟨by omega, by omega, by omega⟩
theorem MostE.fit {L : Lk} {j : Jb} {n : Nat} (h : MostE L j n 0) : FitR L j n (placeF j.S L.lv n) ∧ j.S.mn.toNat ≤ n ∧ n ≤ j.S.mx.toNat := by
 obtain ⟨h0, h1, h2, h3, U, hU, hM⟩ := most_bounds h
 refine ⟨⟨h0, rfl, U, hU, ?_⟩, h1, h2⟩
 rcases hM with ⟨_, _, _, h9, _⟩ | ⟨h9, _⟩
 ·exact h9.symm
 ·exact absurd rfl h9
theorem FillE.fit {L : Lk} {j : Jb} {un : Int} {n n' : Nat} (h : FillE L j un n n' 0) : (FitR L j n' (placeF j.S L.lv n') ∧ j.S.mn.toNat ≤ n' ∧ n' ≤ j.S.mx.toNat) ∧ LetR L j.id j.q un (placeF j.S L.lv n') 0 := by
 rcases h with ⟨E, _, h0, h1⟩ | ⟨hE, h⟩
 ·exact absurd h1.symm h0
 ·obtain ⟨⟨f1, f2, U, hU, f3⟩, b1, b2⟩ := hE.fit
  rcases h with ⟨_, h1, h2, h3, _⟩ | ⟨h9, _⟩
  ·exact ⟨⟨⟨f1, rfl, U, hU, plE_fewer f1 f3 h2⟩, h1, by omega⟩, h3⟩
  ·exact absurd rfl h9
theorem GrowK.fit {L : Lk} {j : Jb} {u : Int} {f : Fe} (h : GrowK L j u f) : FitR L j 1 [f] := by
 obtain ⟨_, _, h3, U, hU, h4, h5⟩ := h
 exact ⟨h3, h5.symm, U, hU, h4⟩
theorem ChoiceR.fit {L : Lk} {d id : Int} {s : List Fe} {j : Jb} (hW : LkW L) (ho : Once L) (h : ChoiceR L d id s) (hj : jobL L d id = some j) (h0 : d ≠ 0) :
  ∃ n, FitR L j n s ∧ (d = 3 → n = 1) ∧ (d ≠ 3 → j.S.mn.toNat ≤ n ∧ n ≤ j.S.mx.toNat) ∧ (d = 1 → hdB L id = true) ∧ (d = 2 → hdB L id = false) := by
 have hw : ∀ x ∈ L.lw, x.id = id → d ≠ 3 → j = x.J := fun x hx e h3 => by
  unfold jobL at hj
  rw [if_neg h3] at hj
  obtain ⟨y, hy, e2⟩ := Option.map_eq_some_iff.1 hj
  have := List.find?_some hy
  have e3 := ho.1 x hx y (List.mem_of_find?_eq_some hy) (by simp at this; omega)
  rw [e3, e2]
 rcases h with ⟨rfl, h1, e, x, n, hx, hM, rfl⟩ | ⟨_, ⟨rfl, k, x, n, n', hx, _, hb, e, hF, rfl⟩ | ⟨_, ⟨rfl, r, H, f, hr, e, hH, rfl, hG⟩ | ⟨e, _⟩⟩⟩
 ·have h9 := List.find?_some hx
  obtain rfl := hw x (List.mem_of_find?_eq_some hx) (by rw [e, (hdB_true.1 h9).2]) (by decide)
  obtain ⟨f1, f2⟩ := hM.fit
  exact ⟨n, f1, (fun e => absurd e (by decide)), fun _ => f2, fun _ => hdB_true.2 ⟨h1, e⟩, fun e => absurd e (by decide)⟩
 ·obtain rfl := hw x (List.mem_of_getElem? hx) e.symm (by decide)
  obtain ⟨⟨f1, f2⟩, _⟩ := hF.fit
  exact ⟨n', f1, (fun e => absurd e (by decide)), fun _ => f2, (fun e => absurd e (by decide)), fun _ => by rw [e]; exact hb⟩
 ·have e9 : j = r.J := by
   unfold jobL at hj
   rw [if_pos rfl] at hj
   obtain ⟨y, hy, e2⟩ := Option.map_eq_some_iff.1 hj
   have := List.find?_some hy
   have e3 := ho.2 r hr y (List.mem_of_find?_eq_some hy) (by simp at this; omega)
   rw [e3, e2]
  subst e9
  exact ⟨1, hG.fit, fun _ => rfl, (fun e => absurd rfl e), (fun e => absurd e (by decide)), fun e => absurd e (by decide)⟩
 ·exact absurd e h0
end Go.Proofs.YtmejcmoodbbmoaaGreatDoor
