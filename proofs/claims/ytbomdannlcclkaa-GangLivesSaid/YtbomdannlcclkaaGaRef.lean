/- Gangs: the document's book. -/
import Derived.Deep.QuietTactic
import Derived.BigQuiet
import Derived.Test.YtbomdannlcclkaaGaOps
set_option linter.unusedVariables false
namespace Go.Proofs.Ytbomdannlcclkaa
open Go.RowKit
namespace GL
theorem next_of {s v : Int} (hs : 1 ≤ s ∧ s ≤ 6) (hv : 1 ≤ v ∧ v ≤ 6) : nextS s v = toS s v ∧ nextE s v = if toS s v = 0 then 8 else 0 := by
  have hm := may_iff.2 ⟨hs.1, hs.2, hv.1, hv.2⟩
  unfold nextS nextE
  rw [hm]
  exact ⟨rfl, rfl⟩
theorem resE_of {x : Rc} (h : ROk x) (m : Int) : resE x m = if x.st ≠ 1 then 8 else if fitB x m then 0 else 1 := by
  have h1 := (next_of h.st (v := 1) (by decide)).2
  have h2 := toS_or x.st 1
  unfold resE
  rw [h1]
  by_cases hs : x.st = 1
  · rw [if_neg (show toS x.st 1 ≠ 0 by rw [hs]; decide)]
    simp [hs]
  · rw [if_pos (show toS x.st 1 = 0 by omega), if_pos (by decide), if_pos hs]
theorem resR_of {x : Rc} (h : x.st = 1) (m l k : Int) : resR x m l k = { x with st := 2, me := m, li := l, wo := k } := by
  have e : nextS x.st 1 = 2 := by rw [h]; decide
  unfold resR ledR
  rw [e]
theorem staE_of {x : Rc} (h : ROk x) (n : Int) : staE x n = if x.st ≠ 2 then 8 else if 0 ≤ n ∧ n ≤ 1073741824 then 0 else 1 := by
  have h1 := (next_of h.st (v := 2) (by decide)).2
  have h2 := toS_or x.st 2
  unfold staE
  rw [h1]
  by_cases hs : x.st = 2
  · rw [if_neg (show toS x.st 2 ≠ 0 by rw [hs]; decide)]
    simp [hs]
  · rw [if_pos (show toS x.st 2 = 0 by omega), if_pos (by decide), if_pos hs]
theorem staR_of {x : Rc} (h : x.st = 2) (n : Int) : staR x n = { x with st := 3, li := 0, wo := 0, bg := n, en := endT x n } := by
  have e : nextS x.st 2 = 3 := by rw [h]; decide
  unfold staR ledR
  rw [e]
  rfl
theorem turE_of (x : Rc) (v : Int) : turE x v = if v < 3 ∨ 6 < v then 1 else nextE x.st v := by
  unfold turE
  by_cases h : v = 3 ∨ v = 4 ∨ v = 5 ∨ v = 6
  · rw [if_pos h, if_neg (by omega)]
  · rw [if_neg h, if_pos (by omega)]
theorem turR_of {x : Rc} {v : Int} (hv : 3 ≤ v) (h : nextE x.st v = 0) : turR x v = { x with st := nextS x.st v, me := 0, li := 0, wo := 0 } := by
  have h1 := lead_or h
  unfold turR ledR
  rw [if_neg (by omega)]
end GL
theorem toS_dec (s v : Int) (hs : 1 ≤ s ∧ s ≤ 6) (hv : 1 ≤ v ∧ v ≤ 6) : True := trivial
set_option maxRecDepth 100000 in
set_option maxHeartbeats 4000000 in
theorem rnext_any (s v : Int) (w : World) : Calls Try.prog 11 #[.int .i64 s, .int .i64 v] w fun e w' => e = .returned (.tuple #[.int .i64 (GL.nextS s v), .int .i64 (GL.nextE s v)]) ∧ w = w' := by
  cases hm : GL.may s v
  · have hS : GL.nextS s v = 0 := by unfold GL.nextS; rw [hm]; rfl
    have hE : GL.nextE s v = 1 := by unfold GL.nextE; rw [hm]; rfl
    rw [hS, hE]
    have hn : ¬ (1 ≤ s ∧ s ≤ 6 ∧ 1 ≤ v ∧ v ≤ 6) := fun h => by rw [GL.may_iff.2 h] at hm; cases hm
    clear hm hS hE
    by_cases h1 : s < 1
    · have t1 : decide (s < 1) = true := by simpa using h1
      clear hn h1
      go_enter Try.func11, Try.ntmps11
      go_wp2
      go_ret2
      exact ⟨rfl, rfl⟩
    · have t1 : decide (s < 1) = false := by simpa using h1
      by_cases h2 : 6 < s
      · have t2 : decide (6 < s) = true := by simpa using h2
        clear hn h1 h2
        go_enter Try.func11, Try.ntmps11
        go_wp2
        go_ret2
        exact ⟨rfl, rfl⟩
      · have t2 : decide (6 < s) = false := by simpa using h2
        by_cases h3 : v < 1
        · have t3 : decide (v < 1) = true := by simpa using h3
          clear hn h1 h2 h3
          go_enter Try.func11, Try.ntmps11
          go_wp2
          go_ret2
          exact ⟨rfl, rfl⟩
        · have t3 : decide (v < 1) = false := by simpa using h3
          have t4 : decide (6 < v) = true := by simp; omega
          clear hn h1 h2 h3
          go_enter Try.func11, Try.ntmps11
          go_wp2
          go_ret2
          exact ⟨rfl, rfl⟩
  · have hr := GL.may_iff.1 hm
    clear hm
    obtain rfl | rfl | rfl | rfl | rfl | rfl : s = 1 ∨ s = 2 ∨ s = 3 ∨ s = 4 ∨ s = 5 ∨ s = 6 := by omega
    all_goals obtain rfl | rfl | rfl | rfl | rfl | rfl : v = 1 ∨ v = 2 ∨ v = 3 ∨ v = 4 ∨ v = 5 ∨ v = 6 := by omega
    all_goals (
      clear hr
      go_enter Try.func11, Try.ntmps11
      go_wp2
      go_ret2
      exact ⟨by rfl, rfl⟩)
/-- Where the document finds an Id. -/
def FoundR (L : List Rc) (id : Int) (e : Ending) : Prop :=
  (GL.hasI L id = false ∧ e = .returned (.int .i64 (-1))) ∨ ∃ x, L[GL.pos L id]? = some x ∧ x.id = id ∧ GL.hasI L id = true ∧ e = .returned (.int .i64 (GL.pos L id : Nat))
set_option maxHeartbeats 2000000 in
theorem rfind_any (T : TypeId) (p : Nat) (V : Value) (L : List Rc) (id : Int) (w : World) (h : GaAt T w p V L) :
    Calls Try.prog 39 #[.pointer (some ⟨p, 0, none⟩), .int .i64 id] w fun e w' => FoundR L id e ∧ w = w' := by
  obtain ⟨A, g, c, hV, hc1, hc2, hR, hA, hEl, hA2⟩ := own_slc h.own
  have c0 := h.head
  rw [hV] at c0
  have hfew := h.len
  obtain ⟨n, hn⟩ : ∃ n, n = L.length := ⟨_, rfl⟩
  rw [← hn] at c0 hfew
  have H := Lib.hid (And.intro hn hR)
  clear h hn hV hR hA hEl hA2 hc1
  go_enter Try.func39, Try.ntmps39
  go_wp2
  go_loopw [5] (fun j wr => ∃ k : Nat, j = .int .i64 k ∧ k ≤ n ∧ w = wr ∧ Hid (∀ i y, i < k → L[i]? = some y → y.id ≠ id)) (fun j _ => match j with | .int _ i => n - i.toNat | _ => 0)
  case atStart => exact ⟨0, rfl, by omega, rfl, Lib.hid (fun i y h => by omega)⟩
  case round =>
    obtain ⟨k, rfl, hk, rfl, hall⟩ := hrel
    by_cases hlt : k < n
    · obtain ⟨x, hx⟩ : ∃ x, L[k]? = some x := ⟨_, List.getElem?_eq_getElem (by rw [← H.out.1]; exact hlt)⟩
      obtain ⟨hA, _, hr⟩ := H.out.2 k x hx
      have z0 : w.cell? ⟨g, k * 16, none⟩ = some (.int .i64 x.id) := hr 0 _ rfl
      subst hA
      have t1 : decide (k < n) = true := decide_eq_true hlt
      have Hx := Lib.hid hx
      clear hx hr
      by_cases e : x.id = id
      · have t2 : (x.id == id) = true := by simpa using e
        have He := Lib.hid e
        clear e
        go_wp2
        go_ret
        have hp := GL.pos_at Hx.out He.out hall.out
        exact ⟨.inr ⟨x, by rw [hp]; exact Hx.out, He.out, GL.hasI_true.2 ⟨x, List.mem_of_getElem? Hx.out, He.out⟩, by rw [hp]; rfl⟩, rfl⟩
      · have t2 : (x.id == id) = false := by simpa using e
        have Hall : Hid (∀ i y, i < k + 1 → L[i]? = some y → y.id ≠ id) := Lib.hid (fun i y hi hy => by
          by_cases e2 : i = k
          · subst e2; rw [Hx.out] at hy; cases hy; exact e
          · exact hall.out i y (by omega) hy)
        clear hall e
        go_wp2
        go_roundw
        case rel => exact ⟨k + 1, by go_num, by omega, by first | rfl | trivial, Hall⟩
        case measure => simp; omega
    · have t1 : decide (k < n) = false := decide_eq_false hlt
      have Hn : Hid (GL.hasI L id = false) := Lib.hid (by
        cases hh : GL.hasI L id
        · rfl
        · obtain ⟨y, hy, hyi⟩ := GL.hasI_true.1 hh
          obtain ⟨i, hi⟩ := List.getElem?_of_mem hy
          have := (List.getElem?_eq_some_iff.1 hi).1
          exact absurd hyi (hall.out i y (by have := H.out.1; omega) hi))
      clear hlt hall
      go_wp2
      go_ret
      exact ⟨.inl ⟨Hn.out, rfl⟩, rfl⟩
theorem set_mid (a b c : List Value) (i : Nat) (v : Value) (hi : i < b.length) : (a ++ b ++ c).set (a.length + i) v = a ++ b.set i v ++ c := by
  rw [List.append_assoc, List.set_append_right _ _ (by omega), Nat.add_sub_cancel_left, List.set_append_left _ _ hi, List.append_assoc]
/-- A cell of a record is written. -/
theorem GaAt.cell {T : TypeId} {w : World} {p g k i : Nat} {V : Value} {L : List Rc} {x y : Rc} (v : Value) (h : GaAt T w p V L) (hg : V.ownBlock = some g) (hx : L[k]? = some x) (hi : i < 16) (e : (rcC x).set i v = rcC y) : GaAt T (w.setCell ⟨g, k * 16 + i, none⟩ v) p V (L.set k y) := by
  have hk := (List.getElem?_eq_some_iff.1 hx).1
  have hxe : L.set k x = L := by
    rw [← (List.getElem?_eq_some_iff.1 hx).2]; exact List.set_getElem_self hk
  refine ⟨(Below.heap_setCell w ⟨g, k * 16 + i, none⟩ v p (Ne.symm (h.ap g hg))).trans h.obj, ?_, h.ap, by rw [List.length_set]; exact h.len⟩
  rw [List.length_set]
  rcases h.own.2 with ⟨e1, _⟩ | ⟨g', cap, cur, e1, h5, h6, h7, h8, h9, h10⟩
  · rw [e1] at hg; cases hg
  · have : g' = g := by rw [e1] at hg; simpa [Value.ownBlock] using hg
    subst this
    have hb := blk_put (i := k * 16 + i) v h6
    refine ⟨by rw [flat_len rcC_len, List.length_set], .inr ⟨g', cap, _, e1, h5, hb, h7, h8, by simpa using h9, ?_⟩⟩
    have f1 := flat_set rcC rcC_len L k x hk
    rw [hxe] at f1
    have f2 := flat_set rcC rcC_len L k y hk
    rw [f2, ← e]
    have hl : ((L.flatMap rcC).take (k * 16)).length = k * 16 := by
      rw [List.length_take, flat_len rcC_len]; omega
    have := set_mid ((L.flatMap rcC).take (k * 16)) (rcC x) ((L.flatMap rcC).drop (k * 16 + 16)) i v (by rw [rcC_len]; exact hi)
    rw [← f1, hl] at this
    rw [← this, ← h10, Array.toList_setIfInBounds, List.take_set]
theorem GaAt.cells {T : TypeId} {w : World} {p g k : Nat} {V : Value} {L : List Rc} {x : Rc} (h : GaAt T w p V L) (hg : V.ownBlock = some g) (hx : L[k]? = some x) (i : Nat) (v : Value) (hv : (rcC x)[i]? = some v) : w.cell? ⟨g, k * 16 + i, none⟩ = some v := h.rec_ hg hx i v hv
theorem GaAt.frozen {T : TypeId} {w : World} {p g : Nat} {V : Value} {L : List Rc} (h : GaAt T w p V L) (hg : V.ownBlock = some g) (i : Nat) : w.frozen? ⟨g, i, none⟩ = false := by
  rcases h.own.2 with ⟨e1, _⟩ | ⟨g', cap, cur, e1, h5, h6, h7, h8, h9, h10⟩
  · rw [e1] at hg; cases hg
  · have : g' = g := by rw [e1] at hg; simpa [Value.ownBlock] using hg
    subst this
    exact frozen_blk h6
theorem set_get {L : List Rc} {k : Nat} {x : Rc} (y : Rc) (hx : L[k]? = some x) : (L.set k y)[k]? = some y := by
  rw [List.getElem?_set_self (List.getElem?_eq_some_iff.1 hx).1]

set_option maxRecDepth 100000 in
set_option maxHeartbeats 4000000 in
theorem rreserve_any (T : TypeId) (p : Nat) (F : Nat → Prop) (L : List Rc) (id m l k : Int) (w : World) (h : GaObj T w p F L) (hI : GL.Inv L) :
    Calls Try.prog 29 #[.pointer (some ⟨p, 0, none⟩), .int .i64 id, .int .i64 m, .int .i64 l, .int .i64 k] w fun e w' => e = .returned (.int .i64 (GL.chE L id (GL.resE · m))) ∧ GaObj T w' p F (GL.chL L id (GL.resE · m) (GL.resR · m l k)) ∧ Foot F w w' := by
  obtain ⟨V, hV, hF⟩ := h
  have HF := Lib.hid (rfind_any T p V L id w hV)
  have HV := Lib.hid (And.intro hV hF)
  have HI := Lib.hid hI
  clear hV hF hI
  go_enter Try.func29, Try.ntmps29
  go_wp2_with fail
  refine HF.out.mono ?_
  rintro e w1 ⟨hfo, rfl⟩
  rcases hfo with ⟨hno, rfl⟩ | ⟨x, hx, hxi, hh, rfl⟩
  · have HN := Lib.hid hno
    clear hno HF
    go_wp2
    go_ret
    have hch := GL.ch_no HN.out (GL.resE · m) (GL.resR · m l k)
    rw [hch.1, hch.2]
    exact ⟨rfl, ⟨V, HV.out⟩, Foot.refl _ _⟩
  · obtain ⟨A, g, c, hVs, hc1, hc2, hR, hA, hEl, hA2⟩ := own_slc HV.out.1.own
    have hne : L ≠ [] := fun e => by rw [e] at hx; simp at hx
    obtain ⟨e1, hg⟩ := hA2 hne
    subst e1
    have c0 := HV.out.1.head
    rw [hVs] at c0
    have hch := GL.ch_yes hx (GL.resE · m) (GL.resR · m l k)
    have hok : GL.ROk x := HI.out.ok x (List.mem_of_getElem? hx)
    rw [GL.resE_of hok] at hch
    obtain ⟨k0, hk0⟩ : ∃ k0, k0 = GL.pos L id := ⟨_, rfl⟩
    rw [← hk0] at hx hch ⊢
    have hkl := (List.getElem?_eq_some_iff.1 hx).1
    have hlen := HV.out.1.len
    have hcs := HV.out.1.cells hg hx
    have d8 : w.cell? ⟨g, k0 * 16 + 8, none⟩ = some (.int .i64 x.st) := hcs 8 _ rfl
    have d6 : w.cell? ⟨g, k0 * 16 + 6, none⟩ = some (.int .i64 x.mn) := hcs 6 _ rfl
    have d7 : w.cell? ⟨g, k0 * 16 + 7, none⟩ = some (.int .i64 x.mx) := hcs 7 _ rfl
    have d11 : w.cell? ⟨g, k0 * 16 + 11, none⟩ = some (.int .i64 x.me) := hcs 11 _ rfl
    have d14 : w.cell? ⟨g, k0 * 16 + 14, none⟩ = some (.int .i64 x.li) := hcs 14 _ rfl
    have d15 : w.cell? ⟨g, k0 * 16 + 15, none⟩ = some (.int .i64 x.wo) := hcs 15 _ rfl
    have hfz := HV.out.1.frozen hg
    have f8 : w.frozen? ⟨g, k0 * 16 + 8, none⟩ = false := hfz _
    have f11 : w.frozen? ⟨g, k0 * 16 + 11, none⟩ = false := hfz _
    have f14 : w.frozen? ⟨g, k0 * 16 + 14, none⟩ = false := hfz _
    have f15 : w.frozen? ⟨g, k0 * 16 + 15, none⟩ = false := hfz _
    have HX := Lib.hid (And.intro hx (And.intro hg hch))
    obtain ⟨n0, hn0⟩ : ∃ n0, n0 = L.length := ⟨_, rfl⟩
    rw [← hn0] at c0 hkl hlen hc1
    have t0 : decide ((k0 : Int) < 0) = false := by simp
    clear hx hxi hh hk0 hR hA hEl hA2 hne hcs hfz hVs hch HF hn0
    by_cases h1 : x.st = 1
    · have t1 : (x.st != 1) = false := by simp [h1]
      have hf : GL.fitB x m = (decide (x.mn ≤ m) && decide (m ≤ x.mx)) := rfl
      have H1 := Lib.hid h1
      by_cases h2 : m < x.mn
      · have t2 : decide (m < x.mn) = true := by simpa using h2
        have HE : Hid (GL.fitB x m = false) := Lib.hid (by rw [hf]; simp; omega)
        clear h1 h2 hf
        go_wp2
        go_ret
        have hch := HX.out.2.2
        rw [if_neg (by simpa using H1.out), HE.out] at hch
        simp only [Bool.false_eq_true, if_false] at hch
        rw [hch.1, hch.2]
        exact ⟨rfl, ⟨V, HV.out⟩, Foot.refl _ _⟩
      · have t2 : decide (m < x.mn) = false := by simpa using h2
        by_cases h3 : x.mx < m
        · have t3 : decide (x.mx < m) = true := by simpa using h3
          have HE : Hid (GL.fitB x m = false) := Lib.hid (by rw [hf]; simp; omega)
          clear h1 h2 h3 hf
          go_wp2
          go_ret
          have hch := HX.out.2.2
          rw [if_neg (by simpa using H1.out), HE.out] at hch
          simp only [Bool.false_eq_true, if_false] at hch
          rw [hch.1, hch.2]
          exact ⟨rfl, ⟨V, HV.out⟩, Foot.refl _ _⟩
        · have t3 : decide (x.mx < m) = false := by simpa using h3
          have HE : Hid (GL.fitB x m = true) := Lib.hid (by rw [hf]; simp; omega)
          clear h1 h2 h3 hf
          go_wp2
          go_ret
          have hch := HX.out.2.2
          rw [if_neg (by simpa using H1.out), HE.out] at hch
          simp only [if_true] at hch
          rw [hch.1, hch.2]
          have z0 := GaAt.cell (i := 8) (y := { x with st := 2 }) (.int .i64 (2)) (HV.out.1) HX.out.2.1 (HX.out.1) (by decide) rfl
          have z1 := GaAt.cell (i := 11) (y := { x with st := 2, me := m }) (.int .i64 (m)) (z0) HX.out.2.1 (set_get ({ x with st := 2 }) HX.out.1) (by decide) rfl
          rw [List.set_set] at z1
          have z2 := GaAt.cell (i := 14) (y := { x with st := 2, me := m, li := l }) (.int .i64 (l)) (z1) HX.out.2.1 (set_get ({ x with st := 2, me := m }) HX.out.1) (by decide) rfl
          rw [List.set_set] at z2
          have z3 := GaAt.cell (i := 15) (y := { x with st := 2, me := m, li := l, wo := k }) (.int .i64 (k)) (z2) HX.out.2.1 (set_get ({ x with st := 2, me := m, li := l }) HX.out.1) (by decide) rfl
          rw [List.set_set] at z3
          have zf := ((((Foot.refl F w).setCell (p := ⟨g, k0 * 16 + 8, none⟩) (.inl ((HV.out.2 g).2 (.inr HX.out.2.1))) (.int .i64 (2))).setCell (p := ⟨g, k0 * 16 + 11, none⟩) (.inl ((HV.out.2 g).2 (.inr HX.out.2.1))) (.int .i64 (m))).setCell (p := ⟨g, k0 * 16 + 14, none⟩) (.inl ((HV.out.2 g).2 (.inr HX.out.2.1))) (.int .i64 (l))).setCell (p := ⟨g, k0 * 16 + 15, none⟩) (.inl ((HV.out.2 g).2 (.inr HX.out.2.1))) (.int .i64 (k))
          exact ⟨rfl, ⟨V, by rw [GL.resR_of H1.out]; exact z3, HV.out.2⟩, zf⟩
    · have t1 : (x.st != 1) = true := by simpa using h1
      have H1 := Lib.hid h1
      clear h1
      go_wp2
      go_ret
      have hch := HX.out.2.2
      rw [if_pos H1.out] at hch
      simp only [show (8 : Int) = 0 ↔ False by decide, if_false] at hch
      rw [hch.1, hch.2]
      exact ⟨rfl, ⟨V, HV.out⟩, Foot.refl _ _⟩

set_option maxRecDepth 100000 in
set_option maxHeartbeats 4000000 in
theorem rstart_any (T : TypeId) (p : Nat) (F : Nat → Prop) (L : List Rc) (id n : Int) (w : World) (h : GaObj T w p F L) (hI : GL.Inv L) :
    Calls Try.prog 30 #[.pointer (some ⟨p, 0, none⟩), .int .i64 id, .int .i64 n] w fun e w' => e = .returned (.tuple #[.int .i64 (GL.staN L id n), .int .i64 (GL.chE L id (GL.staE · n))]) ∧ GaObj T w' p F (GL.chL L id (GL.staE · n) (GL.staR · n)) ∧ Foot F w w' := by
  obtain ⟨V, hV, hF⟩ := h
  have HF := Lib.hid (rfind_any T p V L id w hV)
  have HV := Lib.hid (And.intro hV hF)
  have HI := Lib.hid hI
  clear hV hF hI
  go_enter Try.func30, Try.ntmps30
  go_wp2_with fail
  refine HF.out.mono ?_
  rintro e w1 ⟨hfo, rfl⟩
  rcases hfo with ⟨hno, rfl⟩ | ⟨x, hx, hxi, hh, rfl⟩
  · have HN := Lib.hid hno
    clear hno HF
    go_wp2
    refine bodyPost_ret (v := .tuple #[.int .i64 0, .int .i64 3]) (by simp [results, Try.results30, go_sem]) rfl ?_
    have hch := GL.ch_no HN.out (GL.staE · n) (GL.staR · n)
    rw [hch.1, hch.2]
    rw [show GL.staN L id n = 0 by unfold GL.staN; rw [(GL.pos_no HN.out).1]]
    exact ⟨rfl, ⟨V, HV.out⟩, Foot.refl _ _⟩
  · obtain ⟨A, g, c, hVs, hc1, hc2, hR, hA, hEl, hA2⟩ := own_slc HV.out.1.own
    have hne : L ≠ [] := fun e => by rw [e] at hx; simp at hx
    obtain ⟨e1, hg⟩ := hA2 hne
    subst e1
    have c0 := HV.out.1.head
    rw [hVs] at c0
    have hch := GL.ch_yes hx (GL.staE · n) (GL.staR · n)
    have hok : GL.ROk x := HI.out.ok x (List.mem_of_getElem? hx)
    have hsn : GL.staN L id n = if GL.staE x n = 0 then GL.endT x n else 0 := by unfold GL.staN; rw [hx]
    rw [GL.staE_of hok] at hch hsn
    have HSN := Lib.hid hsn
    clear hsn
    obtain ⟨k0, hk0⟩ : ∃ k0, k0 = GL.pos L id := ⟨_, rfl⟩
    rw [← hk0] at hx hch ⊢
    have hkl := (List.getElem?_eq_some_iff.1 hx).1
    have hlen := HV.out.1.len
    have hcs := HV.out.1.cells hg hx
    have d8 : w.cell? ⟨g, k0 * 16 + 8, none⟩ = some (.int .i64 x.st) := hcs 8 _ rfl
    have d3 : w.cell? ⟨g, k0 * 16 + 3, none⟩ = some (.int .i64 x.r) := hcs 3 _ rfl
    have d12 : w.cell? ⟨g, k0 * 16 + 12, none⟩ = some (.int .i64 x.bg) := hcs 12 _ rfl
    have d13 : w.cell? ⟨g, k0 * 16 + 13, none⟩ = some (.int .i64 x.en) := hcs 13 _ rfl
    have d14 : w.cell? ⟨g, k0 * 16 + 14, none⟩ = some (.int .i64 x.li) := hcs 14 _ rfl
    have d15 : w.cell? ⟨g, k0 * 16 + 15, none⟩ = some (.int .i64 x.wo) := hcs 15 _ rfl
    have hfz := HV.out.1.frozen hg
    have f8 : w.frozen? ⟨g, k0 * 16 + 8, none⟩ = false := hfz _
    have f12 : w.frozen? ⟨g, k0 * 16 + 12, none⟩ = false := hfz _
    have f13 : w.frozen? ⟨g, k0 * 16 + 13, none⟩ = false := hfz _
    have f14 : w.frozen? ⟨g, k0 * 16 + 14, none⟩ = false := hfz _
    have f15 : w.frozen? ⟨g, k0 * 16 + 15, none⟩ = false := hfz _
    have HX := Lib.hid (And.intro hx (And.intro hg hch))
    obtain ⟨n0, hn0⟩ : ∃ n0, n0 = L.length := ⟨_, rfl⟩
    rw [← hn0] at c0 hkl hlen hc1
    have t0 : decide ((k0 : Int) < 0) = false := by simp
    clear hx hxi hh hk0 hR hA hEl hA2 hne hcs hfz hVs hch HF hn0
    have hw : IntKind.i64.wrap (n + x.r) = GL.endT x n := rfl
    by_cases h1 : x.st = 2
    · have t1 : (x.st != 2) = false := by simp [h1]
      have H1 := Lib.hid h1
      by_cases h2 : 0 ≤ n ∧ n ≤ 1073741824
      · have t2 : decide (n < 0) = false := by simp; omega
        have t3 : decide (1073741824 < n) = false := by simp; omega
        have H2 := Lib.hid h2
        obtain ⟨tt, htt⟩ : ∃ tt, tt = GL.endT x n := ⟨_, rfl⟩
        rw [← htt] at hw
        have HT := Lib.hid htt
        clear h1 h2 htt
        go_wp2
        refine bodyPost_ret (v := .tuple #[.int .i64 tt, .int .i64 0]) (by simp [results, Try.results30, go_sem]) rfl ?_
        have hch := HX.out.2.2
        have hsn := HSN.out
        rw [if_neg (show ¬ (x.st ≠ 2) by simpa using H1.out), if_pos H2.out] at hch hsn
        simp only [if_true] at hch hsn
        rw [hch.1, hch.2, hsn, HT.out]
        have z0 := GaAt.cell (i := 8) (y := { x with st := 3 }) (.int .i64 (3)) (HV.out.1) HX.out.2.1 (HX.out.1) (by decide) rfl
        have z1 := GaAt.cell (i := 12) (y := { x with st := 3, bg := n }) (.int .i64 (n)) (z0) HX.out.2.1 (set_get ({ x with st := 3 }) HX.out.1) (by decide) rfl
        rw [List.set_set] at z1
        have z2 := GaAt.cell (i := 13) (y := { x with st := 3, bg := n, en := GL.endT x n }) (.int .i64 (GL.endT x n)) (z1) HX.out.2.1 (set_get ({ x with st := 3, bg := n }) HX.out.1) (by decide) rfl
        rw [List.set_set] at z2
        have z3 := GaAt.cell (i := 14) (y := { x with st := 3, bg := n, en := GL.endT x n, li := 0 }) (.int .i64 (0)) (z2) HX.out.2.1 (set_get ({ x with st := 3, bg := n, en := GL.endT x n }) HX.out.1) (by decide) rfl
        rw [List.set_set] at z3
        have z4 := GaAt.cell (i := 15) (y := { x with st := 3, bg := n, en := GL.endT x n, li := 0, wo := 0 }) (.int .i64 (0)) (z3) HX.out.2.1 (set_get ({ x with st := 3, bg := n, en := GL.endT x n, li := 0 }) HX.out.1) (by decide) rfl
        rw [List.set_set] at z4
        have zf := (((((Foot.refl F w).setCell (p := ⟨g, k0 * 16 + 8, none⟩) (.inl ((HV.out.2 g).2 (.inr HX.out.2.1))) (.int .i64 (3))).setCell (p := ⟨g, k0 * 16 + 12, none⟩) (.inl ((HV.out.2 g).2 (.inr HX.out.2.1))) (.int .i64 (n))).setCell (p := ⟨g, k0 * 16 + 13, none⟩) (.inl ((HV.out.2 g).2 (.inr HX.out.2.1))) (.int .i64 (GL.endT x n))).setCell (p := ⟨g, k0 * 16 + 14, none⟩) (.inl ((HV.out.2 g).2 (.inr HX.out.2.1))) (.int .i64 (0))).setCell (p := ⟨g, k0 * 16 + 15, none⟩) (.inl ((HV.out.2 g).2 (.inr HX.out.2.1))) (.int .i64 (0))
        exact ⟨rfl, ⟨V, by rw [GL.staR_of H1.out]; exact z4, HV.out.2⟩, zf⟩
      · have H2 := Lib.hid h2
        by_cases h3 : n < 0
        · have t2 : decide (n < 0) = true := by simpa using h3
          clear h1 h2 h3
          go_wp2
          refine bodyPost_ret (v := .tuple #[.int .i64 0, .int .i64 1]) (by simp [results, Try.results30, go_sem]) rfl ?_
          have hch := HX.out.2.2
          have hsn := HSN.out
          rw [if_neg (show ¬ (x.st ≠ 2) by simpa using H1.out), if_neg H2.out] at hch hsn
          simp only [show (1 : Int) = 0 ↔ False by decide, if_false] at hch hsn
          rw [hch.1, hch.2, hsn]
          exact ⟨rfl, ⟨V, HV.out⟩, Foot.refl _ _⟩
        · have t2 : decide (n < 0) = false := by simpa using h3
          have t3 : decide (1073741824 < n) = true := by simp; omega
          clear h1 h2 h3
          go_wp2
          refine bodyPost_ret (v := .tuple #[.int .i64 0, .int .i64 1]) (by simp [results, Try.results30, go_sem]) rfl ?_
          have hch := HX.out.2.2
          have hsn := HSN.out
          rw [if_neg (show ¬ (x.st ≠ 2) by simpa using H1.out), if_neg H2.out] at hch hsn
          simp only [show (1 : Int) = 0 ↔ False by decide, if_false] at hch hsn
          rw [hch.1, hch.2, hsn]
          exact ⟨rfl, ⟨V, HV.out⟩, Foot.refl _ _⟩
    · have t1 : (x.st != 2) = true := by simpa using h1
      have H1 := Lib.hid h1
      clear h1
      go_wp2
      refine bodyPost_ret (v := .tuple #[.int .i64 0, .int .i64 8]) (by simp [results, Try.results30, go_sem]) rfl ?_
      have hch := HX.out.2.2
      have hsn := HSN.out
      rw [if_pos H1.out] at hch hsn
      simp only [show (8 : Int) = 0 ↔ False by decide, if_false] at hch hsn
      rw [hch.1, hch.2, hsn]
      exact ⟨rfl, ⟨V, HV.out⟩, Foot.refl _ _⟩

set_option maxRecDepth 100000 in
set_option maxHeartbeats 4000000 in
theorem rturn_any (T : TypeId) (p : Nat) (F : Nat → Prop) (L : List Rc) (id v : Int) (w : World) (h : GaObj T w p F L) (hI : GL.Inv L) :
    Calls Try.prog 31 #[.pointer (some ⟨p, 0, none⟩), .int .i64 id, .int .i64 v] w fun e w' => e = .returned (.int .i64 (GL.chE L id (GL.turE · v))) ∧ GaObj T w' p F (GL.chL L id (GL.turE · v) (GL.turR · v)) ∧ Foot F w w' := by
  obtain ⟨V, hV, hF⟩ := h
  have HF := Lib.hid (rfind_any T p V L id w hV)
  have HV := Lib.hid (And.intro hV hF)
  have HI := Lib.hid hI
  clear hV hF hI
  go_enter Try.func31, Try.ntmps31
  go_wp2_with fail
  refine HF.out.mono ?_
  rintro e w1 ⟨hfo, rfl⟩
  rcases hfo with ⟨hno, rfl⟩ | ⟨x, hx, hxi, hh, rfl⟩
  · have HN := Lib.hid hno
    clear hno HF
    go_wp2
    go_ret
    have hch := GL.ch_no HN.out (GL.turE · v) (GL.turR · v)
    rw [hch.1, hch.2]
    exact ⟨rfl, ⟨V, HV.out⟩, Foot.refl _ _⟩
  · obtain ⟨A, g, c, hVs, hc1, hc2, hR, hA, hEl, hA2⟩ := own_slc HV.out.1.own
    have hne : L ≠ [] := fun e => by rw [e] at hx; simp at hx
    obtain ⟨e1, hg⟩ := hA2 hne
    subst e1
    have c0 := HV.out.1.head
    rw [hVs] at c0
    have hch := GL.ch_yes hx (GL.turE · v) (GL.turR · v)
    have hok : GL.ROk x := HI.out.ok x (List.mem_of_getElem? hx)
    rw [GL.turE_of x v] at hch
    obtain ⟨k0, hk0⟩ : ∃ k0, k0 = GL.pos L id := ⟨_, rfl⟩
    rw [← hk0] at hx hch ⊢
    have hkl := (List.getElem?_eq_some_iff.1 hx).1
    have hlen := HV.out.1.len
    have hcs := HV.out.1.cells hg hx
    have d8 : w.cell? ⟨g, k0 * 16 + 8, none⟩ = some (.int .i64 x.st) := hcs 8 _ rfl
    have d11 : w.cell? ⟨g, k0 * 16 + 11, none⟩ = some (.int .i64 x.me) := hcs 11 _ rfl
    have d14 : w.cell? ⟨g, k0 * 16 + 14, none⟩ = some (.int .i64 x.li) := hcs 14 _ rfl
    have d15 : w.cell? ⟨g, k0 * 16 + 15, none⟩ = some (.int .i64 x.wo) := hcs 15 _ rfl
    have hfz := HV.out.1.frozen hg
    have f8 : w.frozen? ⟨g, k0 * 16 + 8, none⟩ = false := hfz _
    have f11 : w.frozen? ⟨g, k0 * 16 + 11, none⟩ = false := hfz _
    have f14 : w.frozen? ⟨g, k0 * 16 + 14, none⟩ = false := hfz _
    have f15 : w.frozen? ⟨g, k0 * 16 + 15, none⟩ = false := hfz _
    have HX := Lib.hid (And.intro hx (And.intro hg hch))
    obtain ⟨n0, hn0⟩ : ∃ n0, n0 = L.length := ⟨_, rfl⟩
    rw [← hn0] at c0 hkl hlen hc1
    have t0 : decide ((k0 : Int) < 0) = false := by simp
    clear hx hxi hh hk0 hR hA hEl hA2 hne hcs hfz hVs hch HF hn0
    by_cases h1 : v < 3 ∨ 6 < v
    · have H1 := Lib.hid h1
      by_cases h3 : v < 3
      · have t2 : decide (v < 3) = true := by simpa using h3
        clear h1 h3
        go_wp2
        go_ret
        have hch := HX.out.2.2
        rw [if_pos H1.out] at hch
        simp only [show (1 : Int) = 0 ↔ False by decide, if_false] at hch
        rw [hch.1, hch.2]
        exact ⟨rfl, ⟨V, HV.out⟩, Foot.refl _ _⟩
      · have t2 : decide (v < 3) = false := by simpa using h3
        have t3 : decide (6 < v) = true := by simp; omega
        clear h1 h3
        go_wp2
        go_ret
        have hch := HX.out.2.2
        rw [if_pos H1.out] at hch
        simp only [show (1 : Int) = 0 ↔ False by decide, if_false] at hch
        rw [hch.1, hch.2]
        exact ⟨rfl, ⟨V, HV.out⟩, Foot.refl _ _⟩
    · have t2 : decide (v < 3) = false := by simp; omega
      have t3 : decide (6 < v) = false := by simp; omega
      have H1 := Lib.hid h1
      have HN := Lib.hid (rnext_any x.st v w)
      obtain ⟨s, hs⟩ : ∃ s, s = GL.nextS x.st v := ⟨_, rfl⟩
      obtain ⟨d, hd⟩ : ∃ d, d = GL.nextE x.st v := ⟨_, rfl⟩
      rw [← hs, ← hd] at HN
      have HS := Lib.hid (And.intro hs hd)
      clear h1 hs hd
      go_wp2_with fail
      refine HN.out.mono ?_
      rintro e w1 ⟨rfl, rfl⟩
      by_cases h0 : d = 0
      · subst h0
        go_wp2
        go_ret
        have hch := HX.out.2.2
        rw [if_neg H1.out, ← HS.out.2] at hch
        simp only [if_true] at hch
        rw [hch.1, hch.2]
        have z0 := GaAt.cell (i := 8) (y := { x with st := s }) (.int .i64 s) (HV.out.1) HX.out.2.1 (HX.out.1) (by decide) rfl
        have z1 := GaAt.cell (i := 11) (y := { x with st := s, me := 0 }) (.int .i64 (0)) (z0) HX.out.2.1 (set_get ({ x with st := s }) HX.out.1) (by decide) rfl
        rw [List.set_set] at z1
        have z2 := GaAt.cell (i := 14) (y := { x with st := s, me := 0, li := 0 }) (.int .i64 (0)) (z1) HX.out.2.1 (set_get ({ x with st := s, me := 0 }) HX.out.1) (by decide) rfl
        rw [List.set_set] at z2
        have z3 := GaAt.cell (i := 15) (y := { x with st := s, me := 0, li := 0, wo := 0 }) (.int .i64 (0)) (z2) HX.out.2.1 (set_get ({ x with st := s, me := 0, li := 0 }) HX.out.1) (by decide) rfl
        rw [List.set_set] at z3
        have zf := ((((Foot.refl F w).setCell (p := ⟨g, k0 * 16 + 8, none⟩) (.inl ((HV.out.2 g).2 (.inr HX.out.2.1))) (.int .i64 s)).setCell (p := ⟨g, k0 * 16 + 11, none⟩) (.inl ((HV.out.2 g).2 (.inr HX.out.2.1))) (.int .i64 (0))).setCell (p := ⟨g, k0 * 16 + 14, none⟩) (.inl ((HV.out.2 g).2 (.inr HX.out.2.1))) (.int .i64 (0))).setCell (p := ⟨g, k0 * 16 + 15, none⟩) (.inl ((HV.out.2 g).2 (.inr HX.out.2.1))) (.int .i64 (0))
        exact ⟨rfl, ⟨V, by rw [GL.turR_of (by have := H1.out; omega) HS.out.2.symm, ← HS.out.1]; exact z3, HV.out.2⟩, zf⟩
      · have t4 : (d != 0) = true := by simpa using h0
        have h0' := Lib.hid h0
        clear h0
        go_wp2
        go_ret
        have hch := HX.out.2.2
        rw [if_neg H1.out, ← HS.out.2, if_neg h0'.out] at hch
        rw [hch.1, hch.2]
        exact ⟨rfl, ⟨V, HV.out⟩, Foot.refl _ _⟩

set_option maxRecDepth 100000 in
set_option maxHeartbeats 4000000 in
theorem rresize_any (T : TypeId) (p : Nat) (F : Nat → Prop) (L : List Rc) (id v : Int) (w : World) (h : GaObj T w p F L) (hI : GL.Inv L) :
    Calls Try.prog 32 #[.pointer (some ⟨p, 0, none⟩), .int .i64 id, .int .i64 v] w fun e w' => e = .returned (.int .i64 (GL.chE L id (GL.sizE · v))) ∧ GaObj T w' p F (GL.chL L id (GL.sizE · v) (GL.sizR · v)) ∧ Foot F w w' := by
  obtain ⟨V, hV, hF⟩ := h
  have HF := Lib.hid (rfind_any T p V L id w hV)
  have HV := Lib.hid (And.intro hV hF)
  have HI := Lib.hid hI
  clear hV hF hI
  go_enter Try.func32, Try.ntmps32
  go_wp2_with fail
  refine HF.out.mono ?_
  rintro e w1 ⟨hfo, rfl⟩
  rcases hfo with ⟨hno, rfl⟩ | ⟨x, hx, hxi, hh, rfl⟩
  · have HN := Lib.hid hno
    clear hno HF
    go_wp2
    go_ret
    have hch := GL.ch_no HN.out (GL.sizE · v) (GL.sizR · v)
    rw [hch.1, hch.2]
    exact ⟨rfl, ⟨V, HV.out⟩, Foot.refl _ _⟩
  · obtain ⟨A, g, c, hVs, hc1, hc2, hR, hA, hEl, hA2⟩ := own_slc HV.out.1.own
    have hne : L ≠ [] := fun e => by rw [e] at hx; simp at hx
    obtain ⟨e1, hg⟩ := hA2 hne
    subst e1
    have c0 := HV.out.1.head
    rw [hVs] at c0
    have hch := GL.ch_yes hx (GL.sizE · v) (GL.sizR · v)
    have hok : GL.ROk x := HI.out.ok x (List.mem_of_getElem? hx)
    have hE : GL.sizE x v = if x.st ≠ 3 then 8 else if (v ≠ 1 ∧ v ≠ -1) ∨ GL.fitB x (GL.sizM x v) = false then 1 else 0 := rfl
    have hR : GL.sizR x v = { x with me := GL.sizM x v } := rfl
    have hwu : IntKind.i64.wrap (x.me + v) = GL.sizM x v := rfl
    have hfi : GL.fitB x (GL.sizM x v) = (decide (x.mn ≤ GL.sizM x v) && decide (GL.sizM x v ≤ x.mx)) := rfl
    rw [hE, hR] at hch
    obtain ⟨u, hu⟩ : ∃ u, u = GL.sizM x v := ⟨_, rfl⟩
    rw [← hu] at hch hwu hfi
    have HFI := Lib.hid hfi
    clear hE hR hu hfi
    obtain ⟨k0, hk0⟩ : ∃ k0, k0 = GL.pos L id := ⟨_, rfl⟩
    rw [← hk0] at hx hch ⊢
    have hkl := (List.getElem?_eq_some_iff.1 hx).1
    have hlen := HV.out.1.len
    have hcs := HV.out.1.cells hg hx
    have d8 : w.cell? ⟨g, k0 * 16 + 8, none⟩ = some (.int .i64 x.st) := hcs 8 _ rfl
    have d11 : w.cell? ⟨g, k0 * 16 + 11, none⟩ = some (.int .i64 x.me) := hcs 11 _ rfl
    have d6 : w.cell? ⟨g, k0 * 16 + 6, none⟩ = some (.int .i64 x.mn) := hcs 6 _ rfl
    have d7 : w.cell? ⟨g, k0 * 16 + 7, none⟩ = some (.int .i64 x.mx) := hcs 7 _ rfl
    have hfz := HV.out.1.frozen hg
    have f8 : w.frozen? ⟨g, k0 * 16 + 8, none⟩ = false := hfz _
    have f11 : w.frozen? ⟨g, k0 * 16 + 11, none⟩ = false := hfz _
    have HX := Lib.hid (And.intro hx (And.intro hg hch))
    obtain ⟨n0, hn0⟩ : ∃ n0, n0 = L.length := ⟨_, rfl⟩
    rw [← hn0] at c0 hkl hlen hc1
    have t0 : decide ((k0 : Int) < 0) = false := by simp
    clear hx hxi hh hk0 hR hA hEl hA2 hne hcs hfz hVs hch HF hn0
    by_cases h1 : x.st = 3
    · have t1 : (x.st != 3) = false := by simp [h1]
      have H1 := Lib.hid h1
      clear h1
      by_cases v1 : v = 1
      · have s1 : (v != 1) = false := by simpa using v1
        have hvv : Hid (¬ (v ≠ 1 ∧ v ≠ -1)) := Lib.hid (fun h => h.1 v1)
        clear v1
        by_cases h2 : u < x.mn
        · have t2 : decide (u < x.mn) = true := by simpa using h2
          have HC : Hid ((v ≠ 1 ∧ v ≠ -1) ∨ GL.fitB x u = false) := Lib.hid (.inr (by rw [HFI.out]; simp; omega))
          clear h2
          go_wp2
          go_quiet (fail)
          go_wp2
          go_ret
          have hch := HX.out.2.2
          rw [if_neg (by simpa using H1.out), if_pos HC.out] at hch
          simp only [show (1 : Int) = 0 ↔ False by decide, if_false] at hch
          rw [hch.1, hch.2]
          exact ⟨rfl, ⟨V, HV.out.1.keep (below_drewN (Below.refl _ _) _), HV.out.2⟩, Foot.of_below (below_drewN (Below.refl _ _) _)⟩
        · have t2 : decide (u < x.mn) = false := by simpa using h2
          by_cases h3 : x.mx < u
          · have t3 : decide (x.mx < u) = true := by simpa using h3
            have HC : Hid ((v ≠ 1 ∧ v ≠ -1) ∨ GL.fitB x u = false) := Lib.hid (.inr (by rw [HFI.out]; simp; omega))
            clear h2 h3
            go_wp2
            go_quiet (fail)
            go_wp2
            go_ret
            have hch := HX.out.2.2
            rw [if_neg (by simpa using H1.out), if_pos HC.out] at hch
            simp only [show (1 : Int) = 0 ↔ False by decide, if_false] at hch
            rw [hch.1, hch.2]
            exact ⟨rfl, ⟨V, HV.out.1.keep (below_drewN (Below.refl _ _) _), HV.out.2⟩, Foot.of_below (below_drewN (Below.refl _ _) _)⟩
          · have t3 : decide (x.mx < u) = false := by simpa using h3
            have HC : Hid (¬ ((v ≠ 1 ∧ v ≠ -1) ∨ GL.fitB x u = false)) := Lib.hid (fun h => by
              rcases h with h | h
              · exact hvv.out h
              · rw [HFI.out] at h; simp at h; omega)
            clear h2 h3
            go_wp2
            go_quiet (fail)
            go_wp2
            go_ret
            have hch := HX.out.2.2
            rw [if_neg (by simpa using H1.out), if_neg HC.out] at hch
            simp only [if_true] at hch
            rw [hch.1, hch.2]
            have hVd : GaAt T (w.drewN nq) p V L := HV.out.1.keep (below_drewN (Below.refl _ _) _)
            have z0 := GaAt.cell (i := 11) (y := { x with me := u }) (.int .i64 u) hVd HX.out.2.1 HX.out.1 (by decide) rfl
            have zf : Foot F w ((w.drewN nq).setCell ⟨g, k0 * 16 + 11, none⟩ (.int .i64 u)) := (Foot.of_below (F := F) (below_drewN (Below.refl _ _) nq)).setCell (.inl ((HV.out.2 g).2 (.inr HX.out.2.1))) _
            exact ⟨rfl, ⟨V, z0, HV.out.2⟩, zf⟩
      · by_cases v2 : v = -1
        · have s1 : (v != 1) = true := by simpa using v1
          have s2 : (v != -1) = false := by simpa using v2
          have hvv : Hid (¬ (v ≠ 1 ∧ v ≠ -1)) := Lib.hid (fun h => h.2 v2)
          clear v1 v2
          by_cases h2 : u < x.mn
          · have t2 : decide (u < x.mn) = true := by simpa using h2
            have HC : Hid ((v ≠ 1 ∧ v ≠ -1) ∨ GL.fitB x u = false) := Lib.hid (.inr (by rw [HFI.out]; simp; omega))
            clear h2
            go_wp2
            go_quiet (fail)
            go_wp2
            go_ret
            have hch := HX.out.2.2
            rw [if_neg (by simpa using H1.out), if_pos HC.out] at hch
            simp only [show (1 : Int) = 0 ↔ False by decide, if_false] at hch
            rw [hch.1, hch.2]
            exact ⟨rfl, ⟨V, HV.out.1.keep (below_drewN (Below.refl _ _) _), HV.out.2⟩, Foot.of_below (below_drewN (Below.refl _ _) _)⟩
          · have t2 : decide (u < x.mn) = false := by simpa using h2
            by_cases h3 : x.mx < u
            · have t3 : decide (x.mx < u) = true := by simpa using h3
              have HC : Hid ((v ≠ 1 ∧ v ≠ -1) ∨ GL.fitB x u = false) := Lib.hid (.inr (by rw [HFI.out]; simp; omega))
              clear h2 h3
              go_wp2
              go_quiet (fail)
              go_wp2
              go_ret
              have hch := HX.out.2.2
              rw [if_neg (by simpa using H1.out), if_pos HC.out] at hch
              simp only [show (1 : Int) = 0 ↔ False by decide, if_false] at hch
              rw [hch.1, hch.2]
              exact ⟨rfl, ⟨V, HV.out.1.keep (below_drewN (Below.refl _ _) _), HV.out.2⟩, Foot.of_below (below_drewN (Below.refl _ _) _)⟩
            · have t3 : decide (x.mx < u) = false := by simpa using h3
              have HC : Hid (¬ ((v ≠ 1 ∧ v ≠ -1) ∨ GL.fitB x u = false)) := Lib.hid (fun h => by
                rcases h with h | h
                · exact hvv.out h
                · rw [HFI.out] at h; simp at h; omega)
              clear h2 h3
              go_wp2
              go_quiet (fail)
              go_wp2
              go_ret
              have hch := HX.out.2.2
              rw [if_neg (by simpa using H1.out), if_neg HC.out] at hch
              simp only [if_true] at hch
              rw [hch.1, hch.2]
              have hVd : GaAt T (w.drewN nq) p V L := HV.out.1.keep (below_drewN (Below.refl _ _) _)
              have z0 := GaAt.cell (i := 11) (y := { x with me := u }) (.int .i64 u) hVd HX.out.2.1 HX.out.1 (by decide) rfl
              have zf : Foot F w ((w.drewN nq).setCell ⟨g, k0 * 16 + 11, none⟩ (.int .i64 u)) := (Foot.of_below (F := F) (below_drewN (Below.refl _ _) nq)).setCell (.inl ((HV.out.2 g).2 (.inr HX.out.2.1))) _
              exact ⟨rfl, ⟨V, z0, HV.out.2⟩, zf⟩
        · have s1 : (v != 1) = true := by simpa using v1
          have s2 : (v != -1) = true := by simpa using v2
          have HC : Hid ((v ≠ 1 ∧ v ≠ -1) ∨ GL.fitB x u = false) := Lib.hid (.inl ⟨v1, v2⟩)
          clear v1 v2
          go_wp2
          go_quiet (fail)
          go_wp2
          go_ret
          have hch := HX.out.2.2
          rw [if_neg (by simpa using H1.out), if_pos HC.out] at hch
          simp only [show (1 : Int) = 0 ↔ False by decide, if_false] at hch
          rw [hch.1, hch.2]
          exact ⟨rfl, ⟨V, HV.out.1.keep (below_drewN (Below.refl _ _) _), HV.out.2⟩, Foot.of_below (below_drewN (Below.refl _ _) _)⟩
    · have t1 : (x.st != 3) = true := by simpa using h1
      have H1 := Lib.hid h1
      clear h1
      go_wp2
      go_ret
      have hch := HX.out.2.2
      rw [if_pos H1.out] at hch
      simp only [show (8 : Int) = 0 ↔ False by decide, if_false] at hch
      rw [hch.1, hch.2]
      exact ⟨rfl, ⟨V, HV.out⟩, Foot.refl _ _⟩

end Go.Proofs.Ytbomdannlcclkaa
