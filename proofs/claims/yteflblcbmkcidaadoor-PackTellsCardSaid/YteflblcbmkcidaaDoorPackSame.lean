/- Lists of slots (of what is free), held against one another by the document; the order of a placing, as one function. -/
import Derived.Deep.QuietTactic
import Derived.BigQuiet
import Derived.Test.YteflblcbmkcidaaDoorSame
import Derived.Test.YteflblcbmkcidaaDoorPackView
namespace Go.Proofs.YteflblcbmkcidaaDoor
open Go.RowKit
open PK
set_option maxRecDepth 100000 in
set_option maxHeartbeats 1000000 in
theorem same_slots (A1 A2 : Option Addr) (c1 c2 B : Nat) (l : List Fe) (w : World) (h1 : Fes w B A1 l) (h2 : Fes w B A2 l) (hn : l.length ≤ 500000) :
    Calls Tryd.prog 10 #[.slice A1 l.length c1, .slice A2 l.length c2] w fun e w' => e = .returned (.bool true) ∧ Below w.heap.size w w' := by
  obtain ⟨q, hq⟩ : ∃ q, l.length = q := ⟨_, rfl⟩
  have H := Lib.hid (And.intro h1 (And.intro h2 hq))
  rw [hq] at hn ⊢
  clear h1 h2 hq
  have t0 : ((q : Int) != (q : Int)) = false := by simp
  go_enter Tryd.func10, Tryd.ntmps10
  go_wp2
  go_loopw [5] (fun i wr => ∃ k : Nat, i = .int .i64 k ∧ k ≤ q ∧ Hid (∃ m, wr = w.drewN m)) (fun i _ => q - (intOf i).toNat)
  case atStart => exact ⟨0, rfl, by omega, Lib.hid ⟨0, rfl⟩⟩
  case round =>
    obtain ⟨k, rfl, hk, hW⟩ := hrel
    by_cases hlt : k < q
    · obtain ⟨f, hx⟩ := get_lt (l := l) (k := k) (by rw [H.out.2.2]; exact hlt)
      obtain ⟨b, off, rfl, hb, hc⟩ := H.out.1.at_ hx
      obtain ⟨b', off', rfl, hb', hc'⟩ := H.out.2.1.at_ hx
      have hcell : ∀ p : Addr, wr.cell? p = w.cell? p := fun p => by obtain ⟨m, e⟩ := hW.out; rw [e]; rfl
      obtain ⟨f0, f1, f2, f3⟩ := hc k f hx
      obtain ⟨g0, g1, g2, g3⟩ := hc' k f hx
      rw [← hcell] at f0 f1 f2 f3 g0 g1 g2 g3
      have j1 : (k : Int) < (q : Int) := by omega
      have t1 : decide (k < q) = true := decide_eq_true hlt
      have hne := fun W => slot_ne f.n f.d f.m f.c W
      clear hc hc' hx hcell hb hb'
      go_wp2_with fail
      go_quiet (fail)
      have hW2 : Hid (∃ m, wr.drewN nq = w.drewN m) := Lib.hid (by obtain ⟨m, e⟩ := hW.out; exact ⟨m + nq, by rw [e, World.drewN_drewN]⟩)
      clear f0 f1 f2 f3 g0 g1 g2 g3 hne hW
      generalize wr.drewN nq = W2 at hW2 ⊢
      go_wp2
      go_roundw
      case rel => exact ⟨k + 1, by go_num, by omega, hW2⟩
      case measure => simp [intOf]; omega
    · obtain rfl : k = q := by omega
      have HB : Hid (Below w.heap.size w wr) := Lib.hid (by obtain ⟨m, e⟩ := hW.out; rw [e]; exact ⟨rfl, rfl, rfl, Nat.le_refl _, fun _ _ => rfl⟩)
      have t1 : decide (k < k) = false := decide_eq_false (by omega)
      clear hlt hW
      go_wp2
      go_ret
      exact ⟨rfl, HB.out⟩
def orderF (L : List Nat) : List Nat := (List.range L.length).mergeSort (fun a b => decide (keyL L a ≤ keyL L b))
theorem orderF_perm (L : List Nat) : (orderF L).Perm (List.range L.length) := List.mergeSort_perm _ _
theorem orderF_asc (L : List Nat) : Asc (keyL L) (orderF L) := by
  have := List.pairwise_mergeSort (le := fun a b => decide (keyL L a ≤ keyL L b)) (fun a b c h1 h2 => by simp at *; omega) (fun a b => by simp; omega) (List.range L.length)
  exact this.imp fun h => by simpa using h
theorem order_is {L Z : List Nat} {n : Nat} (hL : L.length = n) (hZ : Z.Perm (List.range n)) (aZ : Asc (keyL L) Z) : Z = orderF L :=
  order_unique hL hZ (by have := orderF_perm L; rwa [hL] at this) aZ (orderF_asc L)
/-- The slots of so many members. -/
def placeF (S : Shp) (l : List Fe) (p : Nat) : List Fe := placeL S l (orderF (fitsL S l)) p
theorem orderF_perm' (S : Shp) (l : List Fe) : (orderF (fitsL S l)).Perm (List.range l.length) := by have := orderF_perm (fitsL S l); rwa [fitsL_len] at this
theorem placeF_len {S : Shp} {l : List Fe} {p : Nat} (h : p ≤ roomF S l) : (placeF S l p).length = p := by
  unfold placeF
  rw [placeL_len, fitSum_perm (orderF_perm' S l)]; omega
theorem placeL_zero (S : Shp) (l : List Fe) (Z : List Nat) : placeL S l Z 0 = [] := List.length_eq_zero_iff.1 (by rw [placeL_len]; omega)
theorem pieces_take (S : Shp) : ∀ (k j : Nat) (f : Fe), j ≤ k → (pieces S f k).take j = pieces S f j
  | _, 0, f, _ => by simp [pieces]
  | 0, j + 1, f, h => by omega
  | k + 1, j + 1, f, h => by
    rw [pieces, pieces, List.take_succ_cons, pieces_take S k j _ (by omega)]
theorem placeL_take (S : Shp) (l : List Fe) : ∀ (Z : List Nat) (r r' : Nat), r' ≤ r → (placeL S l Z r).take r' = placeL S l Z r'
  | [], r, r', h => by simp [placeL]
  | k :: Z, r, r', h => by
    unfold placeL
    cases hk : l[k]? with
    | none => exact placeL_take S l Z r r' h
    | some f =>
      simp only
      rcases Nat.le_or_ge r' (min (fitF S f) r) with h1 | h1
      · rw [List.take_append_of_le_length (by rw [pieces_len]; exact h1), pieces_take _ _ _ _ h1, show min (fitF S f) r' = r' by omega, Nat.sub_self, placeL_zero, List.append_nil]
      · rw [List.take_append, pieces_len, List.take_of_length_le (by rw [pieces_len]; exact h1), placeL_take S l Z _ _ (by omega)]
        rcases Nat.lt_or_ge (fitF S f) r with h2 | h2
        · rw [show min (fitF S f) r = fitF S f by omega, show min (fitF S f) r' = fitF S f by omega]
        · have e : r' = r := by omega
          subst e
          rw [show min (fitF S f) r' = r' by omega]
theorem placeF_take {S : Shp} {l : List Fe} {r r' : Nat} (h : r' ≤ r) : (placeF S l r).take r' = placeF S l r' := placeL_take S l _ r r' h
/-- Place, where there is room: the slots lie in a block of their own. -/
theorem place_row (A : Option Addr) (cap B : Nat) (l : List Fe) (S : Shp) (p : Nat) (w : World) (h : Fes w B A l) (hB : B ≤ w.heap.size) (hn : l.length ≤ 500000) (hw : S.Wf) (hf : ∀ f ∈ l, FeOk f) (hT : Tab w) (hok : S.ok = true) (h1 : 1 ≤ p) (h16 : p ≤ 16) (hr : p ≤ roomF S l) :
    Calls Tryd.prog 6 #[.slice A l.length cap, shV S, .int .i64 (p : Nat)] w fun e w' => ∃ b off cap', e = .returned (.tuple #[.slice (some ⟨b, off, none⟩) p cap', .int .i64 0]) ∧ p ≤ cap' ∧ Below w.heap.size w w' ∧ Hid (Fes w' w'.heap.size (some ⟨b, off, none⟩) (placeF S l p)) :=
  (place_ok A cap B l S p w h hB hn hw hf hT hok h1 h16 hr).mono (by
    rintro e w' ⟨A', cap', he, hb, hz⟩
    obtain ⟨Z, zp, za, ho⟩ := hz.out
    rw [order_is (by rw [fitsL_len]) zp za] at ho
    have hcap : p ≤ cap' := by
      rcases ho.2 with ⟨_, h0⟩ | ⟨g, c, cur, e1, _, _, h5, _⟩
      · omega
      · cases e1; exact h5
    have hl := placeF_len hr
    have ho' : w'.ownsRow w.heap.size 41 4 (.slice A' (placeF S l p).length cap') (placeF S l p).length ((placeF S l p).flatMap feC) := by rw [hl]; exact ho
    have hF := fe_own ho'
    rcases hF with e0 | ⟨b, off, rfl, hbb, hc⟩
    · rw [e0] at hl; simp at hl; omega
    · exact ⟨b, off, cap', he, hcap, hb, Lib.hid (.inr ⟨b, off, rfl, hbb, hc⟩)⟩)
end Go.Proofs.YteflblcbmkcidaaDoor
