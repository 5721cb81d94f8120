/- Slots, and holds, held against one another by the document: any two rows. -/
import Derived.Test.YtfbecfikeiecmaaGreatLedSame
set_option maxRecDepth 100000
set_option linter.unusedVariables false
namespace Go.Proofs.YtfbecfikeiecmaaGreat
open Go.RowKit

theorem sl_cell {w w' : World} {b o : Nat} {f : PM.Sl} (h : ∀ p : Addr, p.block = b → w'.cell? p = w.cell? p) (hc : SlAt w b o f) : SlAt w' b o f := by
  obtain ⟨h0, h1, h2, h3⟩ := hc
  exact ⟨(h _ rfl).trans h0, (h _ rfl).trans h1, (h _ rfl).trans h2, (h _ rfl).trans h3⟩
theorem slot_any (u v : PM.Sl) (W : World) : ∃ r : Bool, (r = true ↔ u = v) ∧ (binOp .neq 41 (.agg #[.int .i64 u.n, .int .i64 u.d, .int .u64 (u.m : Nat), .int .i64 u.c]) (.agg #[.int .i64 v.n, .int .i64 v.d, .int .u64 (v.m : Nat), .int .i64 v.c])).run Tryz.prog W = .ok (.bool (!r)) W := by
  obtain ⟨a, b, m, c⟩ := u
  obtain ⟨a', b', m', c'⟩ := v
  by_cases h1 : a = a'
  · by_cases h2 : b = b'
    · by_cases h3 : m = m'
      · by_cases h4 : c = c'
        · exact ⟨true, by simp [h1, h2, h3, h4], by go_simp; (try simp [h1, h2, h3, h4])⟩
        · exact ⟨false, by simp [h4], by go_simp; (try simp [h1, h2, h3, h4])⟩
      · have h3' : (m : Int) ≠ (m' : Int) := by omega
        exact ⟨false, by simp [h3], by go_simp; (try simp [h1, h2, h3, h3'])⟩
    · exact ⟨false, by simp [h2], by go_simp; (try simp [h1, h2])⟩
  · exact ⟨false, by simp [h1], by go_simp; (try simp [h1])⟩
theorem truth (P : Prop) : ∃ R : Bool, (R = true ↔ P) := ⟨@decide P (Classical.propDecidable P), @decide_eq_true_iff P (Classical.propDecidable P)⟩
set_option maxRecDepth 100000 in
set_option maxHeartbeats 2000000 in
theorem same_sl2 (A A' : Option Addr) (c c' B : Nat) (l l' : List PM.Sl) (w : World) (h : Slots w B A l) (h' : Slots w B A' l') (hn : l.length ≤ 500000) :
    Calls Tryz.prog 24 #[.slice A l.length c, .slice A' l'.length c'] w fun e w' => ∃ R : Bool, e = .returned (.bool R) ∧ (R = true ↔ l = l') ∧ Below w.heap.size w w' := by
  obtain ⟨R, hR⟩ := truth (l = l')
  obtain ⟨n, hln⟩ : ∃ n, n = l.length := ⟨_, rfl⟩
  obtain ⟨m, hlm⟩ : ∃ m, m = l'.length := ⟨_, rfl⟩
  have H := Lib.hid (And.intro hR (And.intro h (And.intro h' (And.intro hln hlm))))
  have HR := Lib.hid hR
  rw [← hln] at hn ⊢
  rw [← hlm]
  clear hR h h' hln hlm
  suffices hh : Calls Tryz.prog 24 #[.slice A n c, .slice A' m c'] w fun e w' => e = .returned (.bool R) ∧ Below w.heap.size w w' from hh.mono fun e w' ⟨e1, e2⟩ => ⟨R, e1, HR.out, e2⟩
  by_cases hnm : n = m
  · subst hnm
    have t0 : ((n : Int) != (n : Int)) = false := by simp
    go_enter Tryz.func24, Tryz.ntmps24
    go_wp2
    go_loopw [5] (fun i wr => ∃ k : Nat, i = .int .i64 k ∧ k ≤ n ∧ Hid (∃ m, wr = w.drewN m) ∧ Hid (l.take k = l'.take k)) (fun i _ => n - (intOf i).toNat)
    case atStart => exact ⟨0, rfl, by omega, Lib.hid ⟨0, rfl⟩, Lib.hid rfl⟩
    case round =>
      obtain ⟨k, rfl, hk, hW, hall⟩ := hrel
      by_cases hlt : k < n
      · obtain ⟨u, hx⟩ := get_lt (l := l) (k := k) (by rw [← H.out.2.2.2.1]; exact hlt)
        obtain ⟨v, hy⟩ := get_lt (l := l') (k := k) (by rw [← H.out.2.2.2.2]; exact hlt)
        obtain ⟨b, off, rfl, hb, hc⟩ := H.out.2.1.at_ hx
        obtain ⟨b', off', rfl, hb', hc'⟩ := H.out.2.2.1.at_ hy
        have hcell : ∀ p : Addr, wr.cell? p = w.cell? p := fun p => by obtain ⟨m, e⟩ := hW.out; rw [e]; rfl
        obtain ⟨f0, f1, f2, f3⟩ := hc k u hx
        obtain ⟨g0, g1, g2, g3⟩ := hc' k v hy
        rw [← hcell] at f0 f1 f2 f3 g0 g1 g2 g3
        have j1 : (k : Int) < (n : Int) := by omega
        have t1 : decide (k < n) = true := decide_eq_true hlt
        obtain ⟨r, hr, _⟩ := slot_any u v w
        have hne : ∀ W, (binOp .neq 41 (.agg #[.int .i64 u.n, .int .i64 u.d, .int .u64 (u.m : Nat), .int .i64 u.c]) (.agg #[.int .i64 v.n, .int .i64 v.d, .int .u64 (v.m : Nat), .int .i64 v.c])).run Tryz.prog W = .ok (.bool (!r)) W := fun W => by
          obtain ⟨r', hr', h⟩ := slot_any u v W
          have : r' = r := by cases r <;> cases r' <;> simp_all
          rw [this] at h; exact h
        have N := Lib.hid (And.intro hx hy)
        obtain ⟨un, ud, um, uc⟩ := u
        obtain ⟨vn, vd, vm, vc⟩ := v
        simp only at f0 f1 f2 f3 g0 g1 g2 g3 hne
        clear hc hc' hx hy hcell hb hb'
        cases r
        · have e : ¬ (⟨un, ud, um, uc⟩ : PM.Sl) = ⟨vn, vd, vm, vc⟩ := fun e => by have := hr.2 e; cases this
          have eR : R = false := by
            cases R
            · rfl
            · have e1 := H.out.1.1 rfl
              have h1 := N.out.1
              rw [e1, N.out.2] at h1; injection h1 with h1; exact absurd h1.symm e
          subst eR
          simp only [Bool.not_false] at hne
          clear e hr
          go_wp2_with fail
          go_quiet (fail)
          have hW2 : Hid (∃ m, wr.drewN nq = w.drewN m) := Lib.hid (by obtain ⟨m, e⟩ := hW.out; exact ⟨m + nq, by rw [e, World.drewN_drewN]⟩)
          clear f0 f1 f2 f3 g0 g1 g2 g3 hne hW
          generalize wr.drewN nq = W2 at hW2 ⊢
          go_wp2
          go_ret
          exact ⟨rfl, by obtain ⟨m, e⟩ := hW2.out; rw [e]; exact ⟨rfl, rfl, rfl, Nat.le_refl _, fun _ _ => rfl⟩⟩
        · have E := Lib.hid (hr.1 rfl)
          simp only [Bool.not_true] at hne
          clear hr
          go_wp2_with fail
          go_quiet (fail)
          have hW2 : Hid (∃ m, wr.drewN nq = w.drewN m) := Lib.hid (by obtain ⟨m, e⟩ := hW.out; exact ⟨m + nq, by rw [e, World.drewN_drewN]⟩)
          clear f0 f1 f2 f3 g0 g1 g2 g3 hne hW
          generalize wr.drewN nq = W2 at hW2 ⊢
          go_wp2
          go_roundw
          case rel => exact ⟨k + 1, by go_num, by omega, hW2, Lib.hid (by rw [take_next N.out.1, take_next N.out.2, hall.out, E.out])⟩
          case measure => simp [intOf]; omega
      · obtain rfl : k = n := by omega
        have eR : R = true := by
          have e := hall.out
          refine H.out.1.2 ?_
          rw [H.out.2.2.2.1] at e
          rw [List.take_length, ← H.out.2.2.2.1, H.out.2.2.2.2, List.take_length] at e
          exact e
        subst eR
        have HB : Hid (Below w.heap.size w wr) := Lib.hid (by obtain ⟨m, e⟩ := hW.out; rw [e]; exact ⟨rfl, rfl, rfl, Nat.le_refl _, fun _ _ => rfl⟩)
        have t1 : decide (k < k) = false := decide_eq_false (by omega)
        clear hlt hW
        go_wp2
        go_ret
        exact ⟨rfl, HB.out⟩
  · have eR : R = false := by
      cases R
      · rfl
      · have e := H.out.1.1 rfl
        exact absurd (by rw [H.out.2.2.2.1, H.out.2.2.2.2, e]) hnm
    subst eR
    have t0 : ((n : Int) != (m : Int)) = true := by simp; omega
    clear hnm
    go_enter Tryz.func24, Tryz.ntmps24
    go_wp2
    go_ret
    exact ⟨rfl, Below.refl _ _⟩
set_option maxHeartbeats 8000000 in
theorem same_holds2 (A A' : Option Addr) (c c' : Nat) (G G' : Nat → Prop) (hs hs' : List Hd) (w : World) (h : HL w G A hs) (h' : HL w G' A' hs') (hn : hs.length ≤ 100000) (hk : ∀ g ∈ hs, g.sl.length ≤ 16) (hk' : ∀ g ∈ hs', g.sl.length ≤ 16) :
    Calls Tryz.prog 22 #[.slice A hs.length c, .slice A' hs'.length c'] w fun e w' => ∃ R : Bool, e = .returned (.bool R) ∧ (R = true ↔ hs = hs') ∧ Below w.heap.size w w' := by
  obtain ⟨R, hR⟩ := truth (hs = hs')
  obtain ⟨n, hln⟩ : ∃ n, n = hs.length := ⟨_, rfl⟩
  obtain ⟨m, hlm⟩ : ∃ m, m = hs'.length := ⟨_, rfl⟩
  have H := Lib.hid (And.intro h (And.intro h' (And.intro hln (And.intro hlm (And.intro hk hk')))))
  have HR := Lib.hid hR
  rw [← hln] at hn ⊢
  rw [← hlm]
  clear hR h h' hln hlm hk hk'
  suffices hh : Calls Tryz.prog 22 #[.slice A n c, .slice A' m c'] w fun e w' => e = .returned (.bool R) ∧ Below w.heap.size w w' from hh.mono fun e w' ⟨e1, e2⟩ => ⟨R, e1, HR.out, e2⟩
  by_cases hnm : n = m
  · subst hnm
    have t0 : ((n : Int) != (n : Int)) = false := by simp
    go_enter Tryz.func22, Tryz.ntmps22
    go_wp2
    go_loopw [5] (fun i wr => ∃ k : Nat, i = .int .i64 k ∧ k ≤ n ∧ Hid (Below w.heap.size w wr) ∧ Hid (hs.take k = hs'.take k)) (fun i _ => n - (intOf i).toNat)
    case atStart => exact ⟨0, rfl, by omega, Lib.hid (Below.refl _ _), Lib.hid rfl⟩
    case round =>
      obtain ⟨k, rfl, hk, hW, hall⟩ := hrel
      by_cases hlt : k < n
      · obtain ⟨h1, h2, hq, hq', hsl, hsl'⟩ := H.out
        obtain ⟨L, e1, l2, l3, _, _⟩ := h1.keep hW.out
        obtain ⟨L', e1', l2', l3', _, _⟩ := h2.keep hW.out
        obtain ⟨x, hx⟩ := get_lt (l := L) (k := k) (by have := congrArg List.length e1; simp at this; omega)
        obtain ⟨y, hy⟩ := get_lt (l := L') (k := k) (by have := congrArg List.length e1'; simp at this; omega)
        have hxk : hs[k]? = some x.h := by rw [← e1, List.getElem?_map, hx]; rfl
        have hyk : hs'[k]? = some y.h := by rw [← e1', List.getElem?_map, hy]; rfl
        have hxm : x.h ∈ hs := List.mem_of_getElem? hxk
        have hym : y.h ∈ hs' := List.mem_of_getElem? hyk
        obtain ⟨b, off, rfl, hb, hc⟩ := l2.at_ hx
        obtain ⟨b', off', rfl, hb', hc'⟩ := l2'.at_ hy
        have f0 := hc k x hx 0 _ rfl
        have f1 := hc k x hx 1 _ rfl
        have f2 := hc k x hx 2 _ rfl
        have f3 := hc k x hx 3 _ rfl
        have f4 := hc k x hx 4 _ rfl
        have g0 := hc' k y hy 0 _ rfl
        have g1 := hc' k y hy 1 _ rfl
        have g2 := hc' k y hy 2 _ rfl
        have g3 := hc' k y hy 3 _ rfl
        have g4 := hc' k y hy 4 _ rfl
        simp only [hsV] at f4 g4
        rw [Nat.add_zero] at f0 g0
        have hS := same_sl2 x.A y.A x.c y.c wr.heap.size x.h.sl y.h.sl
        obtain ⟨xm, hm⟩ : ∃ m, x.h.sl.length = m := ⟨_, rfl⟩
        obtain ⟨ym, hm'⟩ : ∃ m, y.h.sl.length = m := ⟨_, rfl⟩
        have hm16 : xm ≤ 16 := by rw [← hm]; exact hsl _ hxm
        rw [hm] at f4 hS
        rw [hm'] at g4 hS
        have hSl := l3 x (List.mem_of_getElem? hx)
        have hSl' := l3' y (List.mem_of_getElem? hy)
        have HS := Lib.hid (hS wr.drew (Slots.keep hSl (Below.refl _ _).drew (Nat.le_refl _)) (Slots.keep hSl' (Below.refl _ _).drew (Nat.le_refl _)) (by omega))
        have HX := Lib.hid (And.intro hxk hyk)
        have hxy : (x.h.id = y.h.id ∧ x.h.q = y.h.q ∧ x.h.un = y.h.un ∧ x.h.run = y.h.run ∧ x.h.sl = y.h.sl) → x.h = y.h := fun ⟨a1, a2, a3, a4, a5⟩ => by
          obtain ⟨⟨_, _, _, _, _⟩, _, _⟩ := x
          obtain ⟨⟨_, _, _, _, _⟩, _, _⟩ := y
          simp_all
        have hyx : x.h = y.h → (x.h.id = y.h.id ∧ x.h.q = y.h.q ∧ x.h.un = y.h.un ∧ x.h.run = y.h.run ∧ x.h.sl = y.h.sl) := fun e => by rw [e]; simp
        have eRF : x.h ≠ y.h → R = false := fun e => by
          cases R
          · rfl
          · have e2 := HR.out.1 rfl
            rw [e2, hyk] at hxk; injection hxk with hxk; exact absurd hxk.symm e
        obtain ⟨xsl, exsl⟩ : ∃ v, v = x.h.sl := ⟨_, rfl⟩
        obtain ⟨ysl, eysl⟩ : ∃ v, v = y.h.sl := ⟨_, rfl⟩
        rw [← exsl, ← eysl] at hxy hyx HS
        obtain ⟨xh, exh⟩ : ∃ v, v = x.h := ⟨_, rfl⟩
        obtain ⟨yh, eyh⟩ : ∃ v, v = y.h := ⟨_, rfl⟩
        rw [← exh] at hxy hyx eRF f0 f1 f2 f3 HX
        rw [← eyh] at hxy hyx eRF g0 g1 g2 g3 HX
        obtain ⟨xi, exi⟩ : ∃ v, v = xh.id := ⟨_, rfl⟩
        obtain ⟨yi, eyi⟩ : ∃ v, v = yh.id := ⟨_, rfl⟩
        obtain ⟨xq, exq⟩ : ∃ v, v = xh.q := ⟨_, rfl⟩
        obtain ⟨yq, eyq⟩ : ∃ v, v = yh.q := ⟨_, rfl⟩
        obtain ⟨xu, exu⟩ : ∃ v, v = xh.un := ⟨_, rfl⟩
        obtain ⟨yu, eyu⟩ : ∃ v, v = yh.un := ⟨_, rfl⟩
        obtain ⟨xr, exr⟩ : ∃ v, v = xh.run := ⟨_, rfl⟩
        obtain ⟨yr, eyr⟩ : ∃ v, v = yh.run := ⟨_, rfl⟩
        obtain ⟨xA, exA⟩ : ∃ v, v = x.A := ⟨_, rfl⟩
        obtain ⟨xc, exc⟩ : ∃ v, v = x.c := ⟨_, rfl⟩
        obtain ⟨yA, eyA⟩ : ∃ v, v = y.A := ⟨_, rfl⟩
        obtain ⟨yc, eyc⟩ : ∃ v, v = y.c := ⟨_, rfl⟩
        rw [← exi] at f0 hxy hyx
        rw [← eyi] at g0 hxy hyx
        rw [← exq] at f1 hxy hyx
        rw [← eyq] at g1 hxy hyx
        rw [← exu] at f2 hxy hyx
        rw [← eyu] at g2 hxy hyx
        rw [← exr] at f3 hxy hyx
        rw [← eyr] at g3 hxy hyx
        rw [← exA, ← exc] at f4
        rw [← eyA, ← eyc] at g4
        rw [← exA, ← exc, ← eyA, ← eyc] at HS
        have j1 : (k : Int) < (n : Int) := by omega
        have t1 : decide (k < n) = true := decide_eq_true hlt
        have lbw : b < wr.heap.size := hb
        have lbw' : b' < wr.heap.size := hb'
        have HXY := Lib.hid (And.intro hxy (And.intro hyx eRF))
        clear hc hc' hx hy hxy hyx hxk hyk eRF hxm hym e1 e1' l2 l2' l3 l3' h1 h2 hq hq' hsl hsl' hm hm' hSl hSl' hS exsl eysl exh eyh exi eyi exq eyq exu eyu exr eyr exA eyA exc eyc
        by_cases ci : xi = yi
        rotate_left
        · have n0 : (xi != yi) = true := by rw [bne_iff_ne]; exact ci
          have eR : R = false := HXY.out.2.2 fun e => by have := HXY.out.2.1 e; simp_all
          subst eR
          clear HXY
          clear ci
          go_wp2
          refine held_begin (fun w' : World => w'.cell? ⟨b, off + k * 5, none⟩ = some (.int .i64 xi) ∧ w'.cell? ⟨b, off + k * 5 + 1, none⟩ = some (.int .i64 xq) ∧ w'.cell? ⟨b, off + k * 5 + 2, none⟩ = some (.int .i64 xu) ∧ w'.cell? ⟨b, off + k * 5 + 3, none⟩ = some (.bool xr) ∧ w'.cell? ⟨b, off + k * 5 + 4, none⟩ = some (.slice xA xm xc) ∧ w'.cell? ⟨b', off' + k * 5, none⟩ = some (.int .i64 yi) ∧ w'.cell? ⟨b', off' + k * 5 + 1, none⟩ = some (.int .i64 yq) ∧ w'.cell? ⟨b', off' + k * 5 + 2, none⟩ = some (.int .i64 yu) ∧ w'.cell? ⟨b', off' + k * 5 + 3, none⟩ = some (.bool yr) ∧ w'.cell? ⟨b', off' + k * 5 + 4, none⟩ = some (.slice yA ym yc)) (by kernel_rfl) ?_
          have hBh0 : Below wr.heap.size wr wr.drew := (Below.refl _ _).drew
          have hSh0 : (fun w' : World => w'.cell? ⟨b, off + k * 5, none⟩ = some (.int .i64 xi) ∧ w'.cell? ⟨b, off + k * 5 + 1, none⟩ = some (.int .i64 xq) ∧ w'.cell? ⟨b, off + k * 5 + 2, none⟩ = some (.int .i64 xu) ∧ w'.cell? ⟨b, off + k * 5 + 3, none⟩ = some (.bool xr) ∧ w'.cell? ⟨b, off + k * 5 + 4, none⟩ = some (.slice xA xm xc) ∧ w'.cell? ⟨b', off' + k * 5, none⟩ = some (.int .i64 yi) ∧ w'.cell? ⟨b', off' + k * 5 + 1, none⟩ = some (.int .i64 yq) ∧ w'.cell? ⟨b', off' + k * 5 + 2, none⟩ = some (.int .i64 yu) ∧ w'.cell? ⟨b', off' + k * 5 + 3, none⟩ = some (.bool yr) ∧ w'.cell? ⟨b', off' + k * 5 + 4, none⟩ = some (.slice yA ym yc)) wr.drew := ⟨f0, f1, f2, f3, f4, g0, g1, g2, g3, g4⟩
          refine held_take (v := ?_) 0 17 rfl rfl (by kernel_rfl) (by kernel_rfl) (by kernel_rfl) (fun _ _ _ h => h) ⟨by rfl, ?_⟩ hSh0 ?_
          rotate_left
          · intro w' hw'; obtain ⟨x0, x1, x2, x3, x4, x5, x6, x7, x8, x9⟩ := hw'; go_simp; (try with_reducible rfl)
          simp only [Act.put, List.setIfInBounds_toArray, List.set_cons_zero, List.set_cons_succ]
          refine held_take (v := ?_) 1 18 rfl rfl (by kernel_rfl) (by kernel_rfl) (by kernel_rfl) (fun _ _ _ h => h) ⟨by rfl, ?_⟩ hSh0 ?_
          rotate_left
          · intro w' hw'; obtain ⟨x0, x1, x2, x3, x4, x5, x6, x7, x8, x9⟩ := hw'; go_simp; (try with_reducible rfl)
          simp only [Act.put, List.setIfInBounds_toArray, List.set_cons_zero, List.set_cons_succ]
          refine held_take (v := ?_) 2 19 rfl rfl (by kernel_rfl) (by kernel_rfl) (by kernel_rfl) (fun _ _ _ h => h) ⟨by rfl, ?_⟩ hSh0 ?_
          rotate_left
          · intro w' hw'; obtain ⟨x0, x1, x2, x3, x4, x5, x6, x7, x8, x9⟩ := hw'; go_simp; (try with_reducible rfl)
          simp only [Act.put, List.setIfInBounds_toArray, List.set_cons_zero, List.set_cons_succ]
          refine held_take (v := ?_) 3 20 rfl rfl (by kernel_rfl) (by kernel_rfl) (by kernel_rfl) (fun _ _ _ h => h) ⟨by rfl, ?_⟩ hSh0 ?_
          rotate_left
          · intro w' hw'; obtain ⟨x0, x1, x2, x3, x4, x5, x6, x7, x8, x9⟩ := hw'; go_simp; (try with_reducible rfl)
          simp only [Act.put, List.setIfInBounds_toArray, List.set_cons_zero, List.set_cons_succ]
          refine held_take (v := ?_) 4 21 rfl rfl (by kernel_rfl) (by kernel_rfl) (by kernel_rfl) (fun _ _ _ h => h) ⟨by rfl, ?_⟩ hSh0 ?_
          rotate_left
          · intro w' hw'; obtain ⟨x0, x1, x2, x3, x4, x5, x6, x7, x8, x9⟩ := hw'; go_simp; (try with_reducible rfl)
          simp only [Act.put, List.setIfInBounds_toArray, List.set_cons_zero, List.set_cons_succ]
          refine held_take (v := ?_) 5 22 rfl rfl (by kernel_rfl) (by kernel_rfl) (by kernel_rfl) (fun _ _ _ h => h) ⟨by rfl, ?_⟩ hSh0 ?_
          rotate_left
          · intro w' hw'; obtain ⟨x0, x1, x2, x3, x4, x5, x6, x7, x8, x9⟩ := hw'; go_simp; (try with_reducible rfl)
          simp only [Act.put, List.setIfInBounds_toArray, List.set_cons_zero, List.set_cons_succ]
          refine held_take (v := ?_) 6 23 rfl rfl (by kernel_rfl) (by kernel_rfl) (by kernel_rfl) (fun _ _ _ h => h) ⟨by rfl, ?_⟩ hSh0 ?_
          rotate_left
          · intro w' hw'; obtain ⟨x0, x1, x2, x3, x4, x5, x6, x7, x8, x9⟩ := hw'; go_simp; (try with_reducible rfl)
          simp only [Act.put, List.setIfInBounds_toArray, List.set_cons_zero, List.set_cons_succ]
          refine held_take (v := ?_) 7 24 rfl rfl (by kernel_rfl) (by kernel_rfl) (by kernel_rfl) (fun _ _ _ h => h) ⟨by rfl, ?_⟩ hSh0 ?_
          rotate_left
          · intro w' hw'; obtain ⟨x0, x1, x2, x3, x4, x5, x6, x7, x8, x9⟩ := hw'; go_simp; (try with_reducible rfl)
          simp only [Act.put, List.setIfInBounds_toArray, List.set_cons_zero, List.set_cons_succ]
          refine held_take (v := ?_) 8 25 rfl rfl (by kernel_rfl) (by kernel_rfl) (by kernel_rfl) (fun _ _ _ h => h) ⟨by rfl, ?_⟩ hSh0 ?_
          rotate_left
          · intro w' hw'; obtain ⟨x0, x1, x2, x3, x4, x5, x6, x7, x8, x9⟩ := hw'; go_simp; (try with_reducible rfl)
          simp only [Act.put, List.setIfInBounds_toArray, List.set_cons_zero, List.set_cons_succ]
          refine held_take (v := ?_) 9 26 rfl rfl (by kernel_rfl) (by kernel_rfl) (by kernel_rfl) (fun _ _ _ h => h) ⟨by rfl, ?_⟩ hSh0 ?_
          rotate_left
          · intro w' hw'; obtain ⟨x0, x1, x2, x3, x4, x5, x6, x7, x8, x9⟩ := hw'; go_simp; (try with_reducible rfl)
          simp only [Act.put, List.setIfInBounds_toArray, List.set_cons_zero, List.set_cons_succ]
          refine held_take (v := ?_) 10 27 rfl rfl (by kernel_rfl) (by kernel_rfl) (by kernel_rfl) (fun _ _ _ h => h) ⟨by rfl, ?_⟩ hSh0 ?_
          rotate_left
          · intro w' hw'; obtain ⟨x0, x1, x2, x3, x4, x5, x6, x7, x8, x9⟩ := hw'; go_simp; (try with_reducible rfl)
          simp only [Act.put, List.setIfInBounds_toArray, List.set_cons_zero, List.set_cons_succ]
          refine held_take (v := ?_) 11 28 rfl rfl (by kernel_rfl) (by kernel_rfl) (by kernel_rfl) (fun _ _ _ h => h) ⟨by rfl, ?_⟩ hSh0 ?_
          rotate_left
          · intro w' hw'; obtain ⟨x0, x1, x2, x3, x4, x5, x6, x7, x8, x9⟩ := hw'; go_simp; (try with_reducible rfl)
          simp only [Act.put, List.setIfInBounds_toArray, List.set_cons_zero, List.set_cons_succ]
          refine held_skip 12 29 rfl rfl (by kernel_rfl) (by kernel_rfl) (by kernel_rfl) (fun _ _ _ h => h) (by rfl) hSh0 ?_
          simp only [Act.put, List.setIfInBounds_toArray, List.set_cons_zero, List.set_cons_succ]
          refine held_skip 13 30 rfl rfl (by kernel_rfl) (by kernel_rfl) (by kernel_rfl) (fun _ _ _ h => h) (by rfl) hSh0 ?_
          simp only [Act.put, List.setIfInBounds_toArray, List.set_cons_zero, List.set_cons_succ]
          refine held_skip 14 31 rfl rfl (by kernel_rfl) (by kernel_rfl) (by kernel_rfl) (fun _ _ _ h => h) (by rfl) hSh0 ?_
          simp only [Act.put, List.setIfInBounds_toArray, List.set_cons_zero, List.set_cons_succ]
          refine held_skip 15 32 rfl rfl (by kernel_rfl) (by kernel_rfl) (by kernel_rfl) (fun _ _ _ h => h) (by rfl) hSh0 ?_
          simp only [Act.put, List.setIfInBounds_toArray, List.set_cons_zero, List.set_cons_succ]
          refine held_skip 16 33 rfl rfl (by kernel_rfl) (by kernel_rfl) (by kernel_rfl) (fun _ _ _ h => h) (by rfl) hSh0 ?_
          simp only [Act.put, List.setIfInBounds_toArray, List.set_cons_zero, List.set_cons_succ]
          refine held_skip 17 34 rfl rfl (by kernel_rfl) (by kernel_rfl) (by kernel_rfl) (fun _ _ _ h => h) (by rfl) hSh0 ?_
          simp only [Act.put, List.setIfInBounds_toArray, List.set_cons_zero, List.set_cons_succ]
          refine held_skip 18 35 rfl rfl (by kernel_rfl) (by kernel_rfl) (by kernel_rfl) (fun _ _ _ h => h) (by rfl) hSh0 ?_
          simp only [Act.put, List.setIfInBounds_toArray, List.set_cons_zero, List.set_cons_succ]
          refine held_skip 19 36 rfl rfl (by kernel_rfl) (by kernel_rfl) (by kernel_rfl) (fun _ _ _ h => h) (by rfl) hSh0 ?_
          simp only [Act.put, List.setIfInBounds_toArray, List.set_cons_zero, List.set_cons_succ]
          refine held_skip 20 37 rfl rfl (by kernel_rfl) (by kernel_rfl) (by kernel_rfl) (fun _ _ _ h => h) (by rfl) hSh0 ?_
          simp only [Act.put, List.setIfInBounds_toArray, List.set_cons_zero, List.set_cons_succ]
          refine held_skip 21 38 rfl rfl (by kernel_rfl) (by kernel_rfl) (by kernel_rfl) (fun _ _ _ h => h) (by rfl) hSh0 ?_
          simp only [Act.put, List.setIfInBounds_toArray, List.set_cons_zero, List.set_cons_succ]
          refine held_skip 22 39 rfl rfl (by kernel_rfl) (by kernel_rfl) (by kernel_rfl) (fun _ _ _ h => h) (by rfl) hSh0 ?_
          simp only [Act.put, List.setIfInBounds_toArray, List.set_cons_zero, List.set_cons_succ]
          refine held_take (v := ?_) 23 40 rfl rfl (by kernel_rfl) (by kernel_rfl) (by kernel_rfl) (fun _ _ _ h => h) ⟨by rfl, ?_⟩ hSh0 ?_
          rotate_left
          · intro w' hw'; obtain ⟨x0, x1, x2, x3, x4, x5, x6, x7, x8, x9⟩ := hw'; go_simp; (try with_reducible rfl)
          simp only [Act.put, List.setIfInBounds_toArray, List.set_cons_zero, List.set_cons_succ]
          refine held_take (v := ?_) 24 41 rfl rfl (by kernel_rfl) (by kernel_rfl) (by kernel_rfl) (fun _ _ _ h => h) ⟨by rfl, ?_⟩ hSh0 ?_
          rotate_left
          · intro w' hw'; obtain ⟨x0, x1, x2, x3, x4, x5, x6, x7, x8, x9⟩ := hw'; go_simp; (try with_reducible rfl)
          simp only [Act.put, List.setIfInBounds_toArray, List.set_cons_zero, List.set_cons_succ]
          refine held_skip 25 42 rfl rfl (by kernel_rfl) (by kernel_rfl) (by kernel_rfl) (fun _ _ _ h => h) (by rfl) hSh0 ?_
          simp only [Act.put, List.setIfInBounds_toArray, List.set_cons_zero, List.set_cons_succ]
          refine held_skip 26 43 rfl rfl (by kernel_rfl) (by kernel_rfl) (by kernel_rfl) (fun _ _ _ h => h) (by rfl) hSh0 ?_
          simp only [Act.put, List.setIfInBounds_toArray, List.set_cons_zero, List.set_cons_succ]
          refine held_skip 27 44 rfl rfl (by kernel_rfl) (by kernel_rfl) (by kernel_rfl) (fun _ _ _ h => h) (by rfl) hSh0 ?_
          simp only [Act.put, List.setIfInBounds_toArray, List.set_cons_zero, List.set_cons_succ]
          refine held_skip 28 45 rfl rfl (by kernel_rfl) (by kernel_rfl) (by kernel_rfl) (fun _ _ _ h => h) (by rfl) hSh0 ?_
          simp only [Act.put, List.setIfInBounds_toArray, List.set_cons_zero, List.set_cons_succ]
          refine held_skip 29 46 rfl rfl (by kernel_rfl) (by kernel_rfl) (by kernel_rfl) (fun _ _ _ h => h) (by rfl) hSh0 ?_
          simp only [Act.put, List.setIfInBounds_toArray, List.set_cons_zero, List.set_cons_succ]
          refine held_skip 30 47 rfl rfl (by kernel_rfl) (by kernel_rfl) (by kernel_rfl) (fun _ _ _ h => h) (by rfl) hSh0 ?_
          simp only [Act.put, List.setIfInBounds_toArray, List.set_cons_zero, List.set_cons_succ]
          refine held_skip 31 48 rfl rfl (by kernel_rfl) (by kernel_rfl) (by kernel_rfl) (fun _ _ _ h => h) (by rfl) hSh0 ?_
          simp only [Act.put, List.setIfInBounds_toArray, List.set_cons_zero, List.set_cons_succ]
          refine held_skip 32 49 rfl rfl (by kernel_rfl) (by kernel_rfl) (by kernel_rfl) (fun _ _ _ h => h) (by rfl) hSh0 ?_
          simp only [Act.put, List.setIfInBounds_toArray, List.set_cons_zero, List.set_cons_succ]
          refine held_skip 33 50 rfl rfl (by kernel_rfl) (by kernel_rfl) (by kernel_rfl) (fun _ _ _ h => h) (by rfl) hSh0 ?_
          simp only [Act.put, List.setIfInBounds_toArray, List.set_cons_zero, List.set_cons_succ]
          refine held_skip 34 51 rfl rfl (by kernel_rfl) (by kernel_rfl) (by kernel_rfl) (fun _ _ _ h => h) (by rfl) hSh0 ?_
          simp only [Act.put, List.setIfInBounds_toArray, List.set_cons_zero, List.set_cons_succ]
          refine held_skip 35 52 rfl rfl (by kernel_rfl) (by kernel_rfl) (by kernel_rfl) (fun _ _ _ h => h) (by rfl) hSh0 ?_
          simp only [Act.put, List.setIfInBounds_toArray, List.set_cons_zero, List.set_cons_succ]
          refine held_take (v := ?_) 36 53 rfl rfl (by kernel_rfl) (by kernel_rfl) (by kernel_rfl) (fun _ _ _ h => h) ⟨by rfl, ?_⟩ hSh0 ?_
          rotate_left
          · intro w' hw'; obtain ⟨x0, x1, x2, x3, x4, x5, x6, x7, x8, x9⟩ := hw'; go_simp; (try with_reducible rfl)
          simp only [Act.put, List.setIfInBounds_toArray, List.set_cons_zero, List.set_cons_succ]
          refine held_take (v := ?_) 37 54 rfl rfl (by kernel_rfl) (by kernel_rfl) (by kernel_rfl) (fun _ _ _ h => h) ⟨by rfl, ?_⟩ hSh0 ?_
          rotate_left
          · intro w' hw'; obtain ⟨x0, x1, x2, x3, x4, x5, x6, x7, x8, x9⟩ := hw'; go_simp; (try with_reducible rfl)
          simp only [Act.put, List.setIfInBounds_toArray, List.set_cons_zero, List.set_cons_succ]
          refine held_skip 38 55 rfl rfl (by kernel_rfl) (by kernel_rfl) (by kernel_rfl) (fun _ _ _ h => h) (by rfl) hSh0 ?_
          simp only [Act.put, List.setIfInBounds_toArray, List.set_cons_zero, List.set_cons_succ]
          refine held_skip 39 56 rfl rfl (by kernel_rfl) (by kernel_rfl) (by kernel_rfl) (fun _ _ _ h => h) (by rfl) hSh0 ?_
          simp only [Act.put, List.setIfInBounds_toArray, List.set_cons_zero, List.set_cons_succ]
          refine held_skip 40 57 rfl rfl (by kernel_rfl) (by kernel_rfl) (by kernel_rfl) (fun _ _ _ h => h) (by rfl) hSh0 ?_
          simp only [Act.put, List.setIfInBounds_toArray, List.set_cons_zero, List.set_cons_succ]
          refine held_skip 41 58 rfl rfl (by kernel_rfl) (by kernel_rfl) (by kernel_rfl) (fun _ _ _ h => h) (by rfl) hSh0 ?_
          simp only [Act.put, List.setIfInBounds_toArray, List.set_cons_zero, List.set_cons_succ]
          refine held_skip 42 59 rfl rfl (by kernel_rfl) (by kernel_rfl) (by kernel_rfl) (fun _ _ _ h => h) (by rfl) hSh0 ?_
          simp only [Act.put, List.setIfInBounds_toArray, List.set_cons_zero, List.set_cons_succ]
          refine held_skip 43 60 rfl rfl (by kernel_rfl) (by kernel_rfl) (by kernel_rfl) (fun _ _ _ h => h) (by rfl) hSh0 ?_
          simp only [Act.put, List.setIfInBounds_toArray, List.set_cons_zero, List.set_cons_succ]
          refine held_skip 44 61 rfl rfl (by kernel_rfl) (by kernel_rfl) (by kernel_rfl) (fun _ _ _ h => h) (by rfl) hSh0 ?_
          simp only [Act.put, List.setIfInBounds_toArray, List.set_cons_zero, List.set_cons_succ]
          refine held_skip 45 62 rfl rfl (by kernel_rfl) (by kernel_rfl) (by kernel_rfl) (fun _ _ _ h => h) (by rfl) hSh0 ?_
          simp only [Act.put, List.setIfInBounds_toArray, List.set_cons_zero, List.set_cons_succ]
          refine held_skip 46 63 rfl rfl (by kernel_rfl) (by kernel_rfl) (by kernel_rfl) (fun _ _ _ h => h) (by rfl) hSh0 ?_
          simp only [Act.put, List.setIfInBounds_toArray, List.set_cons_zero, List.set_cons_succ]
          refine held_skip 47 64 rfl rfl (by kernel_rfl) (by kernel_rfl) (by kernel_rfl) (fun _ _ _ h => h) (by rfl) hSh0 ?_
          simp only [Act.put, List.setIfInBounds_toArray, List.set_cons_zero, List.set_cons_succ]
          refine held_skip 48 65 rfl rfl (by kernel_rfl) (by kernel_rfl) (by kernel_rfl) (fun _ _ _ h => h) (by rfl) hSh0 ?_
          simp only [Act.put, List.setIfInBounds_toArray, List.set_cons_zero, List.set_cons_succ]
          refine held_take (v := ?_) 49 66 rfl rfl (by kernel_rfl) (by kernel_rfl) (by kernel_rfl) (fun _ _ _ h => h) ⟨by rfl, ?_⟩ hSh0 ?_
          rotate_left
          · intro w' hw'; obtain ⟨x0, x1, x2, x3, x4, x5, x6, x7, x8, x9⟩ := hw'; go_simp; (try with_reducible rfl)
          simp only [Act.put, List.setIfInBounds_toArray, List.set_cons_zero, List.set_cons_succ]
          refine held_take (v := ?_) 50 67 rfl rfl (by kernel_rfl) (by kernel_rfl) (by kernel_rfl) (fun _ _ _ h => h) ⟨by rfl, ?_⟩ hSh0 ?_
          rotate_left
          · intro w' hw'; obtain ⟨x0, x1, x2, x3, x4, x5, x6, x7, x8, x9⟩ := hw'; go_simp; (try with_reducible rfl)
          simp only [Act.put, List.setIfInBounds_toArray, List.set_cons_zero, List.set_cons_succ]
          refine held_skip 51 68 rfl rfl (by kernel_rfl) (by kernel_rfl) (by kernel_rfl) (fun _ _ _ h => h) (by rfl) hSh0 ?_
          simp only [Act.put, List.setIfInBounds_toArray, List.set_cons_zero, List.set_cons_succ]
          refine held_skip 52 69 rfl rfl (by kernel_rfl) (by kernel_rfl) (by kernel_rfl) (fun _ _ _ h => h) (by rfl) hSh0 ?_
          simp only [Act.put, List.setIfInBounds_toArray, List.set_cons_zero, List.set_cons_succ]
          refine held_skip 53 70 rfl rfl (by kernel_rfl) (by kernel_rfl) (by kernel_rfl) (fun _ _ _ h => h) (by rfl) hSh0 ?_
          simp only [Act.put, List.setIfInBounds_toArray, List.set_cons_zero, List.set_cons_succ]
          refine held_skip 54 71 rfl rfl (by kernel_rfl) (by kernel_rfl) (by kernel_rfl) (fun _ _ _ h => h) (by rfl) hSh0 ?_
          simp only [Act.put, List.setIfInBounds_toArray, List.set_cons_zero, List.set_cons_succ]
          refine held_skip 55 72 rfl rfl (by kernel_rfl) (by kernel_rfl) (by kernel_rfl) (fun _ _ _ h => h) (by rfl) hSh0 ?_
          simp only [Act.put, List.setIfInBounds_toArray, List.set_cons_zero, List.set_cons_succ]
          refine held_skip 56 73 rfl rfl (by kernel_rfl) (by kernel_rfl) (by kernel_rfl) (fun _ _ _ h => h) (by rfl) hSh0 ?_
          simp only [Act.put, List.setIfInBounds_toArray, List.set_cons_zero, List.set_cons_succ]
          refine held_skip 57 74 rfl rfl (by kernel_rfl) (by kernel_rfl) (by kernel_rfl) (fun _ _ _ h => h) (by rfl) hSh0 ?_
          simp only [Act.put, List.setIfInBounds_toArray, List.set_cons_zero, List.set_cons_succ]
          refine held_skip 58 75 rfl rfl (by kernel_rfl) (by kernel_rfl) (by kernel_rfl) (fun _ _ _ h => h) (by rfl) hSh0 ?_
          simp only [Act.put, List.setIfInBounds_toArray, List.set_cons_zero, List.set_cons_succ]
          refine held_skip 59 76 rfl rfl (by kernel_rfl) (by kernel_rfl) (by kernel_rfl) (fun _ _ _ h => h) (by rfl) hSh0 ?_
          simp only [Act.put, List.setIfInBounds_toArray, List.set_cons_zero, List.set_cons_succ]
          refine held_skip 60 77 rfl rfl (by kernel_rfl) (by kernel_rfl) (by kernel_rfl) (fun _ _ _ h => h) (by rfl) hSh0 ?_
          simp only [Act.put, List.setIfInBounds_toArray, List.set_cons_zero, List.set_cons_succ]
          refine held_skip 61 78 rfl rfl (by kernel_rfl) (by kernel_rfl) (by kernel_rfl) (fun _ _ _ h => h) (by rfl) hSh0 ?_
          simp only [Act.put, List.setIfInBounds_toArray, List.set_cons_zero, List.set_cons_succ]
          refine held_skip 62 79 rfl rfl (by kernel_rfl) (by kernel_rfl) (by kernel_rfl) (fun _ _ _ h => h) (by rfl) hSh0 ?_
          simp only [Act.put, List.setIfInBounds_toArray, List.set_cons_zero, List.set_cons_succ]
          refine held_take (v := ?_) 63 80 rfl rfl (by kernel_rfl) (by kernel_rfl) (by kernel_rfl) (fun _ _ _ h => h) ⟨by rfl, ?_⟩ hSh0 ?_
          rotate_left
          · intro w' hw'; obtain ⟨x0, x1, x2, x3, x4, x5, x6, x7, x8, x9⟩ := hw'; go_simp; (try with_reducible rfl)
          simp only [Act.put, List.setIfInBounds_toArray, List.set_cons_zero, List.set_cons_succ]
          refine wpAnyH_done (by kernel_rfl) ?_ _
          have HB9 := Lib.hid (hW.out.trans (hBh0.mono hW.out.size))
          clear hBh0 hSh0 hW
          go_wp2
          go_ret
          exact ⟨rfl, HB9.out⟩
        subst ci
        have n0 : (xi != xi) = false := by simp
        by_cases cq : xq = yq
        rotate_left
        · have n1 : (xq != yq) = true := by rw [bne_iff_ne]; exact cq
          have eR : R = false := HXY.out.2.2 fun e => by have := HXY.out.2.1 e; simp_all
          subst eR
          clear HXY
          clear cq
          go_wp2
          refine held_begin (fun w' : World => w'.cell? ⟨b, off + k * 5, none⟩ = some (.int .i64 xi) ∧ w'.cell? ⟨b, off + k * 5 + 1, none⟩ = some (.int .i64 xq) ∧ w'.cell? ⟨b, off + k * 5 + 2, none⟩ = some (.int .i64 xu) ∧ w'.cell? ⟨b, off + k * 5 + 3, none⟩ = some (.bool xr) ∧ w'.cell? ⟨b, off + k * 5 + 4, none⟩ = some (.slice xA xm xc) ∧ w'.cell? ⟨b', off' + k * 5, none⟩ = some (.int .i64 xi) ∧ w'.cell? ⟨b', off' + k * 5 + 1, none⟩ = some (.int .i64 yq) ∧ w'.cell? ⟨b', off' + k * 5 + 2, none⟩ = some (.int .i64 yu) ∧ w'.cell? ⟨b', off' + k * 5 + 3, none⟩ = some (.bool yr) ∧ w'.cell? ⟨b', off' + k * 5 + 4, none⟩ = some (.slice yA ym yc)) (by kernel_rfl) ?_
          have hBh0 : Below wr.heap.size wr wr.drew := (Below.refl _ _).drew
          have hSh0 : (fun w' : World => w'.cell? ⟨b, off + k * 5, none⟩ = some (.int .i64 xi) ∧ w'.cell? ⟨b, off + k * 5 + 1, none⟩ = some (.int .i64 xq) ∧ w'.cell? ⟨b, off + k * 5 + 2, none⟩ = some (.int .i64 xu) ∧ w'.cell? ⟨b, off + k * 5 + 3, none⟩ = some (.bool xr) ∧ w'.cell? ⟨b, off + k * 5 + 4, none⟩ = some (.slice xA xm xc) ∧ w'.cell? ⟨b', off' + k * 5, none⟩ = some (.int .i64 xi) ∧ w'.cell? ⟨b', off' + k * 5 + 1, none⟩ = some (.int .i64 yq) ∧ w'.cell? ⟨b', off' + k * 5 + 2, none⟩ = some (.int .i64 yu) ∧ w'.cell? ⟨b', off' + k * 5 + 3, none⟩ = some (.bool yr) ∧ w'.cell? ⟨b', off' + k * 5 + 4, none⟩ = some (.slice yA ym yc)) wr.drew := ⟨f0, f1, f2, f3, f4, g0, g1, g2, g3, g4⟩
          refine held_take (v := ?_) 0 17 rfl rfl (by kernel_rfl) (by kernel_rfl) (by kernel_rfl) (fun _ _ _ h => h) ⟨by rfl, ?_⟩ hSh0 ?_
          rotate_left
          · intro w' hw'; obtain ⟨x0, x1, x2, x3, x4, x5, x6, x7, x8, x9⟩ := hw'; go_simp; (try with_reducible rfl)
          simp only [Act.put, List.setIfInBounds_toArray, List.set_cons_zero, List.set_cons_succ]
          refine held_take (v := ?_) 1 18 rfl rfl (by kernel_rfl) (by kernel_rfl) (by kernel_rfl) (fun _ _ _ h => h) ⟨by rfl, ?_⟩ hSh0 ?_
          rotate_left
          · intro w' hw'; obtain ⟨x0, x1, x2, x3, x4, x5, x6, x7, x8, x9⟩ := hw'; go_simp; (try with_reducible rfl)
          simp only [Act.put, List.setIfInBounds_toArray, List.set_cons_zero, List.set_cons_succ]
          refine held_take (v := ?_) 2 19 rfl rfl (by kernel_rfl) (by kernel_rfl) (by kernel_rfl) (fun _ _ _ h => h) ⟨by rfl, ?_⟩ hSh0 ?_
          rotate_left
          · intro w' hw'; obtain ⟨x0, x1, x2, x3, x4, x5, x6, x7, x8, x9⟩ := hw'; go_simp; (try with_reducible rfl)
          simp only [Act.put, List.setIfInBounds_toArray, List.set_cons_zero, List.set_cons_succ]
          refine held_take (v := ?_) 3 20 rfl rfl (by kernel_rfl) (by kernel_rfl) (by kernel_rfl) (fun _ _ _ h => h) ⟨by rfl, ?_⟩ hSh0 ?_
          rotate_left
          · intro w' hw'; obtain ⟨x0, x1, x2, x3, x4, x5, x6, x7, x8, x9⟩ := hw'; go_simp; (try with_reducible rfl)
          simp only [Act.put, List.setIfInBounds_toArray, List.set_cons_zero, List.set_cons_succ]
          refine held_take (v := ?_) 4 21 rfl rfl (by kernel_rfl) (by kernel_rfl) (by kernel_rfl) (fun _ _ _ h => h) ⟨by rfl, ?_⟩ hSh0 ?_
          rotate_left
          · intro w' hw'; obtain ⟨x0, x1, x2, x3, x4, x5, x6, x7, x8, x9⟩ := hw'; go_simp; (try with_reducible rfl)
          simp only [Act.put, List.setIfInBounds_toArray, List.set_cons_zero, List.set_cons_succ]
          refine held_take (v := ?_) 5 22 rfl rfl (by kernel_rfl) (by kernel_rfl) (by kernel_rfl) (fun _ _ _ h => h) ⟨by rfl, ?_⟩ hSh0 ?_
          rotate_left
          · intro w' hw'; obtain ⟨x0, x1, x2, x3, x4, x5, x6, x7, x8, x9⟩ := hw'; go_simp; (try with_reducible rfl)
          simp only [Act.put, List.setIfInBounds_toArray, List.set_cons_zero, List.set_cons_succ]
          refine held_take (v := ?_) 6 23 rfl rfl (by kernel_rfl) (by kernel_rfl) (by kernel_rfl) (fun _ _ _ h => h) ⟨by rfl, ?_⟩ hSh0 ?_
          rotate_left
          · intro w' hw'; obtain ⟨x0, x1, x2, x3, x4, x5, x6, x7, x8, x9⟩ := hw'; go_simp; (try with_reducible rfl)
          simp only [Act.put, List.setIfInBounds_toArray, List.set_cons_zero, List.set_cons_succ]
          refine held_take (v := ?_) 7 24 rfl rfl (by kernel_rfl) (by kernel_rfl) (by kernel_rfl) (fun _ _ _ h => h) ⟨by rfl, ?_⟩ hSh0 ?_
          rotate_left
          · intro w' hw'; obtain ⟨x0, x1, x2, x3, x4, x5, x6, x7, x8, x9⟩ := hw'; go_simp; (try with_reducible rfl)
          simp only [Act.put, List.setIfInBounds_toArray, List.set_cons_zero, List.set_cons_succ]
          refine held_take (v := ?_) 8 25 rfl rfl (by kernel_rfl) (by kernel_rfl) (by kernel_rfl) (fun _ _ _ h => h) ⟨by rfl, ?_⟩ hSh0 ?_
          rotate_left
          · intro w' hw'; obtain ⟨x0, x1, x2, x3, x4, x5, x6, x7, x8, x9⟩ := hw'; go_simp; (try with_reducible rfl)
          simp only [Act.put, List.setIfInBounds_toArray, List.set_cons_zero, List.set_cons_succ]
          refine held_take (v := ?_) 9 26 rfl rfl (by kernel_rfl) (by kernel_rfl) (by kernel_rfl) (fun _ _ _ h => h) ⟨by rfl, ?_⟩ hSh0 ?_
          rotate_left
          · intro w' hw'; obtain ⟨x0, x1, x2, x3, x4, x5, x6, x7, x8, x9⟩ := hw'; go_simp; (try with_reducible rfl)
          simp only [Act.put, List.setIfInBounds_toArray, List.set_cons_zero, List.set_cons_succ]
          refine held_take (v := ?_) 10 27 rfl rfl (by kernel_rfl) (by kernel_rfl) (by kernel_rfl) (fun _ _ _ h => h) ⟨by rfl, ?_⟩ hSh0 ?_
          rotate_left
          · intro w' hw'; obtain ⟨x0, x1, x2, x3, x4, x5, x6, x7, x8, x9⟩ := hw'; go_simp; (try with_reducible rfl)
          simp only [Act.put, List.setIfInBounds_toArray, List.set_cons_zero, List.set_cons_succ]
          refine held_take (v := ?_) 11 28 rfl rfl (by kernel_rfl) (by kernel_rfl) (by kernel_rfl) (fun _ _ _ h => h) ⟨by rfl, ?_⟩ hSh0 ?_
          rotate_left
          · intro w' hw'; obtain ⟨x0, x1, x2, x3, x4, x5, x6, x7, x8, x9⟩ := hw'; go_simp; (try with_reducible rfl)
          simp only [Act.put, List.setIfInBounds_toArray, List.set_cons_zero, List.set_cons_succ]
          refine held_take (v := ?_) 12 29 rfl rfl (by kernel_rfl) (by kernel_rfl) (by kernel_rfl) (fun _ _ _ h => h) ⟨by rfl, ?_⟩ hSh0 ?_
          rotate_left
          · intro w' hw'; obtain ⟨x0, x1, x2, x3, x4, x5, x6, x7, x8, x9⟩ := hw'; go_simp; (try with_reducible rfl)
          simp only [Act.put, List.setIfInBounds_toArray, List.set_cons_zero, List.set_cons_succ]
          refine held_take (v := ?_) 13 30 rfl rfl (by kernel_rfl) (by kernel_rfl) (by kernel_rfl) (fun _ _ _ h => h) ⟨by rfl, ?_⟩ hSh0 ?_
          rotate_left
          · intro w' hw'; obtain ⟨x0, x1, x2, x3, x4, x5, x6, x7, x8, x9⟩ := hw'; go_simp; (try with_reducible rfl)
          simp only [Act.put, List.setIfInBounds_toArray, List.set_cons_zero, List.set_cons_succ]
          refine held_take (v := ?_) 14 31 rfl rfl (by kernel_rfl) (by kernel_rfl) (by kernel_rfl) (fun _ _ _ h => h) ⟨by rfl, ?_⟩ hSh0 ?_
          rotate_left
          · intro w' hw'; obtain ⟨x0, x1, x2, x3, x4, x5, x6, x7, x8, x9⟩ := hw'; go_simp; (try with_reducible rfl)
          simp only [Act.put, List.setIfInBounds_toArray, List.set_cons_zero, List.set_cons_succ]
          refine held_take (v := ?_) 15 32 rfl rfl (by kernel_rfl) (by kernel_rfl) (by kernel_rfl) (fun _ _ _ h => h) ⟨by rfl, ?_⟩ hSh0 ?_
          rotate_left
          · intro w' hw'; obtain ⟨x0, x1, x2, x3, x4, x5, x6, x7, x8, x9⟩ := hw'; go_simp; (try with_reducible rfl)
          simp only [Act.put, List.setIfInBounds_toArray, List.set_cons_zero, List.set_cons_succ]
          refine held_take (v := ?_) 16 33 rfl rfl (by kernel_rfl) (by kernel_rfl) (by kernel_rfl) (fun _ _ _ h => h) ⟨by rfl, ?_⟩ hSh0 ?_
          rotate_left
          · intro w' hw'; obtain ⟨x0, x1, x2, x3, x4, x5, x6, x7, x8, x9⟩ := hw'; go_simp; (try with_reducible rfl)
          simp only [Act.put, List.setIfInBounds_toArray, List.set_cons_zero, List.set_cons_succ]
          refine held_take (v := ?_) 17 34 rfl rfl (by kernel_rfl) (by kernel_rfl) (by kernel_rfl) (fun _ _ _ h => h) ⟨by rfl, ?_⟩ hSh0 ?_
          rotate_left
          · intro w' hw'; obtain ⟨x0, x1, x2, x3, x4, x5, x6, x7, x8, x9⟩ := hw'; go_simp; (try with_reducible rfl)
          simp only [Act.put, List.setIfInBounds_toArray, List.set_cons_zero, List.set_cons_succ]
          refine held_take (v := ?_) 18 35 rfl rfl (by kernel_rfl) (by kernel_rfl) (by kernel_rfl) (fun _ _ _ h => h) ⟨by rfl, ?_⟩ hSh0 ?_
          rotate_left
          · intro w' hw'; obtain ⟨x0, x1, x2, x3, x4, x5, x6, x7, x8, x9⟩ := hw'; go_simp; (try with_reducible rfl)
          simp only [Act.put, List.setIfInBounds_toArray, List.set_cons_zero, List.set_cons_succ]
          refine held_take (v := ?_) 19 36 rfl rfl (by kernel_rfl) (by kernel_rfl) (by kernel_rfl) (fun _ _ _ h => h) ⟨by rfl, ?_⟩ hSh0 ?_
          rotate_left
          · intro w' hw'; obtain ⟨x0, x1, x2, x3, x4, x5, x6, x7, x8, x9⟩ := hw'; go_simp; (try with_reducible rfl)
          simp only [Act.put, List.setIfInBounds_toArray, List.set_cons_zero, List.set_cons_succ]
          refine held_take (v := ?_) 20 37 rfl rfl (by kernel_rfl) (by kernel_rfl) (by kernel_rfl) (fun _ _ _ h => h) ⟨by rfl, ?_⟩ hSh0 ?_
          rotate_left
          · intro w' hw'; obtain ⟨x0, x1, x2, x3, x4, x5, x6, x7, x8, x9⟩ := hw'; go_simp; (try with_reducible rfl)
          simp only [Act.put, List.setIfInBounds_toArray, List.set_cons_zero, List.set_cons_succ]
          refine held_take (v := ?_) 21 38 rfl rfl (by kernel_rfl) (by kernel_rfl) (by kernel_rfl) (fun _ _ _ h => h) ⟨by rfl, ?_⟩ hSh0 ?_
          rotate_left
          · intro w' hw'; obtain ⟨x0, x1, x2, x3, x4, x5, x6, x7, x8, x9⟩ := hw'; go_simp; (try with_reducible rfl)
          simp only [Act.put, List.setIfInBounds_toArray, List.set_cons_zero, List.set_cons_succ]
          refine held_take (v := ?_) 22 39 rfl rfl (by kernel_rfl) (by kernel_rfl) (by kernel_rfl) (fun _ _ _ h => h) ⟨by rfl, ?_⟩ hSh0 ?_
          rotate_left
          · intro w' hw'; obtain ⟨x0, x1, x2, x3, x4, x5, x6, x7, x8, x9⟩ := hw'; go_simp; (try with_reducible rfl)
          simp only [Act.put, List.setIfInBounds_toArray, List.set_cons_zero, List.set_cons_succ]
          refine held_take (v := ?_) 23 40 rfl rfl (by kernel_rfl) (by kernel_rfl) (by kernel_rfl) (fun _ _ _ h => h) ⟨by rfl, ?_⟩ hSh0 ?_
          rotate_left
          · intro w' hw'; obtain ⟨x0, x1, x2, x3, x4, x5, x6, x7, x8, x9⟩ := hw'; go_simp; (try with_reducible rfl)
          simp only [Act.put, List.setIfInBounds_toArray, List.set_cons_zero, List.set_cons_succ]
          refine held_take (v := ?_) 24 41 rfl rfl (by kernel_rfl) (by kernel_rfl) (by kernel_rfl) (fun _ _ _ h => h) ⟨by rfl, ?_⟩ hSh0 ?_
          rotate_left
          · intro w' hw'; obtain ⟨x0, x1, x2, x3, x4, x5, x6, x7, x8, x9⟩ := hw'; go_simp; (try with_reducible rfl)
          simp only [Act.put, List.setIfInBounds_toArray, List.set_cons_zero, List.set_cons_succ]
          refine held_skip 25 42 rfl rfl (by kernel_rfl) (by kernel_rfl) (by kernel_rfl) (fun _ _ _ h => h) (by rfl) hSh0 ?_
          simp only [Act.put, List.setIfInBounds_toArray, List.set_cons_zero, List.set_cons_succ]
          refine held_skip 26 43 rfl rfl (by kernel_rfl) (by kernel_rfl) (by kernel_rfl) (fun _ _ _ h => h) (by rfl) hSh0 ?_
          simp only [Act.put, List.setIfInBounds_toArray, List.set_cons_zero, List.set_cons_succ]
          refine held_skip 27 44 rfl rfl (by kernel_rfl) (by kernel_rfl) (by kernel_rfl) (fun _ _ _ h => h) (by rfl) hSh0 ?_
          simp only [Act.put, List.setIfInBounds_toArray, List.set_cons_zero, List.set_cons_succ]
          refine held_skip 28 45 rfl rfl (by kernel_rfl) (by kernel_rfl) (by kernel_rfl) (fun _ _ _ h => h) (by rfl) hSh0 ?_
          simp only [Act.put, List.setIfInBounds_toArray, List.set_cons_zero, List.set_cons_succ]
          refine held_skip 29 46 rfl rfl (by kernel_rfl) (by kernel_rfl) (by kernel_rfl) (fun _ _ _ h => h) (by rfl) hSh0 ?_
          simp only [Act.put, List.setIfInBounds_toArray, List.set_cons_zero, List.set_cons_succ]
          refine held_skip 30 47 rfl rfl (by kernel_rfl) (by kernel_rfl) (by kernel_rfl) (fun _ _ _ h => h) (by rfl) hSh0 ?_
          simp only [Act.put, List.setIfInBounds_toArray, List.set_cons_zero, List.set_cons_succ]
          refine held_skip 31 48 rfl rfl (by kernel_rfl) (by kernel_rfl) (by kernel_rfl) (fun _ _ _ h => h) (by rfl) hSh0 ?_
          simp only [Act.put, List.setIfInBounds_toArray, List.set_cons_zero, List.set_cons_succ]
          refine held_skip 32 49 rfl rfl (by kernel_rfl) (by kernel_rfl) (by kernel_rfl) (fun _ _ _ h => h) (by rfl) hSh0 ?_
          simp only [Act.put, List.setIfInBounds_toArray, List.set_cons_zero, List.set_cons_succ]
          refine held_skip 33 50 rfl rfl (by kernel_rfl) (by kernel_rfl) (by kernel_rfl) (fun _ _ _ h => h) (by rfl) hSh0 ?_
          simp only [Act.put, List.setIfInBounds_toArray, List.set_cons_zero, List.set_cons_succ]
          refine held_skip 34 51 rfl rfl (by kernel_rfl) (by kernel_rfl) (by kernel_rfl) (fun _ _ _ h => h) (by rfl) hSh0 ?_
          simp only [Act.put, List.setIfInBounds_toArray, List.set_cons_zero, List.set_cons_succ]
          refine held_skip 35 52 rfl rfl (by kernel_rfl) (by kernel_rfl) (by kernel_rfl) (fun _ _ _ h => h) (by rfl) hSh0 ?_
          simp only [Act.put, List.setIfInBounds_toArray, List.set_cons_zero, List.set_cons_succ]
          refine held_take (v := ?_) 36 53 rfl rfl (by kernel_rfl) (by kernel_rfl) (by kernel_rfl) (fun _ _ _ h => h) ⟨by rfl, ?_⟩ hSh0 ?_
          rotate_left
          · intro w' hw'; obtain ⟨x0, x1, x2, x3, x4, x5, x6, x7, x8, x9⟩ := hw'; go_simp; (try with_reducible rfl)
          simp only [Act.put, List.setIfInBounds_toArray, List.set_cons_zero, List.set_cons_succ]
          refine held_take (v := ?_) 37 54 rfl rfl (by kernel_rfl) (by kernel_rfl) (by kernel_rfl) (fun _ _ _ h => h) ⟨by rfl, ?_⟩ hSh0 ?_
          rotate_left
          · intro w' hw'; obtain ⟨x0, x1, x2, x3, x4, x5, x6, x7, x8, x9⟩ := hw'; go_simp; (try with_reducible rfl)
          simp only [Act.put, List.setIfInBounds_toArray, List.set_cons_zero, List.set_cons_succ]
          refine held_skip 38 55 rfl rfl (by kernel_rfl) (by kernel_rfl) (by kernel_rfl) (fun _ _ _ h => h) (by rfl) hSh0 ?_
          simp only [Act.put, List.setIfInBounds_toArray, List.set_cons_zero, List.set_cons_succ]
          refine held_skip 39 56 rfl rfl (by kernel_rfl) (by kernel_rfl) (by kernel_rfl) (fun _ _ _ h => h) (by rfl) hSh0 ?_
          simp only [Act.put, List.setIfInBounds_toArray, List.set_cons_zero, List.set_cons_succ]
          refine held_skip 40 57 rfl rfl (by kernel_rfl) (by kernel_rfl) (by kernel_rfl) (fun _ _ _ h => h) (by rfl) hSh0 ?_
          simp only [Act.put, List.setIfInBounds_toArray, List.set_cons_zero, List.set_cons_succ]
          refine held_skip 41 58 rfl rfl (by kernel_rfl) (by kernel_rfl) (by kernel_rfl) (fun _ _ _ h => h) (by rfl) hSh0 ?_
          simp only [Act.put, List.setIfInBounds_toArray, List.set_cons_zero, List.set_cons_succ]
          refine held_skip 42 59 rfl rfl (by kernel_rfl) (by kernel_rfl) (by kernel_rfl) (fun _ _ _ h => h) (by rfl) hSh0 ?_
          simp only [Act.put, List.setIfInBounds_toArray, List.set_cons_zero, List.set_cons_succ]
          refine held_skip 43 60 rfl rfl (by kernel_rfl) (by kernel_rfl) (by kernel_rfl) (fun _ _ _ h => h) (by rfl) hSh0 ?_
          simp only [Act.put, List.setIfInBounds_toArray, List.set_cons_zero, List.set_cons_succ]
          refine held_skip 44 61 rfl rfl (by kernel_rfl) (by kernel_rfl) (by kernel_rfl) (fun _ _ _ h => h) (by rfl) hSh0 ?_
          simp only [Act.put, List.setIfInBounds_toArray, List.set_cons_zero, List.set_cons_succ]
          refine held_skip 45 62 rfl rfl (by kernel_rfl) (by kernel_rfl) (by kernel_rfl) (fun _ _ _ h => h) (by rfl) hSh0 ?_
          simp only [Act.put, List.setIfInBounds_toArray, List.set_cons_zero, List.set_cons_succ]
          refine held_skip 46 63 rfl rfl (by kernel_rfl) (by kernel_rfl) (by kernel_rfl) (fun _ _ _ h => h) (by rfl) hSh0 ?_
          simp only [Act.put, List.setIfInBounds_toArray, List.set_cons_zero, List.set_cons_succ]
          refine held_skip 47 64 rfl rfl (by kernel_rfl) (by kernel_rfl) (by kernel_rfl) (fun _ _ _ h => h) (by rfl) hSh0 ?_
          simp only [Act.put, List.setIfInBounds_toArray, List.set_cons_zero, List.set_cons_succ]
          refine held_skip 48 65 rfl rfl (by kernel_rfl) (by kernel_rfl) (by kernel_rfl) (fun _ _ _ h => h) (by rfl) hSh0 ?_
          simp only [Act.put, List.setIfInBounds_toArray, List.set_cons_zero, List.set_cons_succ]
          refine held_take (v := ?_) 49 66 rfl rfl (by kernel_rfl) (by kernel_rfl) (by kernel_rfl) (fun _ _ _ h => h) ⟨by rfl, ?_⟩ hSh0 ?_
          rotate_left
          · intro w' hw'; obtain ⟨x0, x1, x2, x3, x4, x5, x6, x7, x8, x9⟩ := hw'; go_simp; (try with_reducible rfl)
          simp only [Act.put, List.setIfInBounds_toArray, List.set_cons_zero, List.set_cons_succ]
          refine held_take (v := ?_) 50 67 rfl rfl (by kernel_rfl) (by kernel_rfl) (by kernel_rfl) (fun _ _ _ h => h) ⟨by rfl, ?_⟩ hSh0 ?_
          rotate_left
          · intro w' hw'; obtain ⟨x0, x1, x2, x3, x4, x5, x6, x7, x8, x9⟩ := hw'; go_simp; (try with_reducible rfl)
          simp only [Act.put, List.setIfInBounds_toArray, List.set_cons_zero, List.set_cons_succ]
          refine held_skip 51 68 rfl rfl (by kernel_rfl) (by kernel_rfl) (by kernel_rfl) (fun _ _ _ h => h) (by rfl) hSh0 ?_
          simp only [Act.put, List.setIfInBounds_toArray, List.set_cons_zero, List.set_cons_succ]
          refine held_skip 52 69 rfl rfl (by kernel_rfl) (by kernel_rfl) (by kernel_rfl) (fun _ _ _ h => h) (by rfl) hSh0 ?_
          simp only [Act.put, List.setIfInBounds_toArray, List.set_cons_zero, List.set_cons_succ]
          refine held_skip 53 70 rfl rfl (by kernel_rfl) (by kernel_rfl) (by kernel_rfl) (fun _ _ _ h => h) (by rfl) hSh0 ?_
          simp only [Act.put, List.setIfInBounds_toArray, List.set_cons_zero, List.set_cons_succ]
          refine held_skip 54 71 rfl rfl (by kernel_rfl) (by kernel_rfl) (by kernel_rfl) (fun _ _ _ h => h) (by rfl) hSh0 ?_
          simp only [Act.put, List.setIfInBounds_toArray, List.set_cons_zero, List.set_cons_succ]
          refine held_skip 55 72 rfl rfl (by kernel_rfl) (by kernel_rfl) (by kernel_rfl) (fun _ _ _ h => h) (by rfl) hSh0 ?_
          simp only [Act.put, List.setIfInBounds_toArray, List.set_cons_zero, List.set_cons_succ]
          refine held_skip 56 73 rfl rfl (by kernel_rfl) (by kernel_rfl) (by kernel_rfl) (fun _ _ _ h => h) (by rfl) hSh0 ?_
          simp only [Act.put, List.setIfInBounds_toArray, List.set_cons_zero, List.set_cons_succ]
          refine held_skip 57 74 rfl rfl (by kernel_rfl) (by kernel_rfl) (by kernel_rfl) (fun _ _ _ h => h) (by rfl) hSh0 ?_
          simp only [Act.put, List.setIfInBounds_toArray, List.set_cons_zero, List.set_cons_succ]
          refine held_skip 58 75 rfl rfl (by kernel_rfl) (by kernel_rfl) (by kernel_rfl) (fun _ _ _ h => h) (by rfl) hSh0 ?_
          simp only [Act.put, List.setIfInBounds_toArray, List.set_cons_zero, List.set_cons_succ]
          refine held_skip 59 76 rfl rfl (by kernel_rfl) (by kernel_rfl) (by kernel_rfl) (fun _ _ _ h => h) (by rfl) hSh0 ?_
          simp only [Act.put, List.setIfInBounds_toArray, List.set_cons_zero, List.set_cons_succ]
          refine held_skip 60 77 rfl rfl (by kernel_rfl) (by kernel_rfl) (by kernel_rfl) (fun _ _ _ h => h) (by rfl) hSh0 ?_
          simp only [Act.put, List.setIfInBounds_toArray, List.set_cons_zero, List.set_cons_succ]
          refine held_skip 61 78 rfl rfl (by kernel_rfl) (by kernel_rfl) (by kernel_rfl) (fun _ _ _ h => h) (by rfl) hSh0 ?_
          simp only [Act.put, List.setIfInBounds_toArray, List.set_cons_zero, List.set_cons_succ]
          refine held_skip 62 79 rfl rfl (by kernel_rfl) (by kernel_rfl) (by kernel_rfl) (fun _ _ _ h => h) (by rfl) hSh0 ?_
          simp only [Act.put, List.setIfInBounds_toArray, List.set_cons_zero, List.set_cons_succ]
          refine held_take (v := ?_) 63 80 rfl rfl (by kernel_rfl) (by kernel_rfl) (by kernel_rfl) (fun _ _ _ h => h) ⟨by rfl, ?_⟩ hSh0 ?_
          rotate_left
          · intro w' hw'; obtain ⟨x0, x1, x2, x3, x4, x5, x6, x7, x8, x9⟩ := hw'; go_simp; (try with_reducible rfl)
          simp only [Act.put, List.setIfInBounds_toArray, List.set_cons_zero, List.set_cons_succ]
          refine wpAnyH_done (by kernel_rfl) ?_ _
          have HB9 := Lib.hid (hW.out.trans (hBh0.mono hW.out.size))
          clear hBh0 hSh0 hW
          go_wp2
          go_ret
          exact ⟨rfl, HB9.out⟩
        subst cq
        have n1 : (xq != xq) = false := by simp
        by_cases cu : xu = yu
        rotate_left
        · have n2 : (xu != yu) = true := by rw [bne_iff_ne]; exact cu
          have eR : R = false := HXY.out.2.2 fun e => by have := HXY.out.2.1 e; simp_all
          subst eR
          clear HXY
          clear cu
          go_wp2
          refine held_begin (fun w' : World => w'.cell? ⟨b, off + k * 5, none⟩ = some (.int .i64 xi) ∧ w'.cell? ⟨b, off + k * 5 + 1, none⟩ = some (.int .i64 xq) ∧ w'.cell? ⟨b, off + k * 5 + 2, none⟩ = some (.int .i64 xu) ∧ w'.cell? ⟨b, off + k * 5 + 3, none⟩ = some (.bool xr) ∧ w'.cell? ⟨b, off + k * 5 + 4, none⟩ = some (.slice xA xm xc) ∧ w'.cell? ⟨b', off' + k * 5, none⟩ = some (.int .i64 xi) ∧ w'.cell? ⟨b', off' + k * 5 + 1, none⟩ = some (.int .i64 xq) ∧ w'.cell? ⟨b', off' + k * 5 + 2, none⟩ = some (.int .i64 yu) ∧ w'.cell? ⟨b', off' + k * 5 + 3, none⟩ = some (.bool yr) ∧ w'.cell? ⟨b', off' + k * 5 + 4, none⟩ = some (.slice yA ym yc)) (by kernel_rfl) ?_
          have hBh0 : Below wr.heap.size wr wr.drew := (Below.refl _ _).drew
          have hSh0 : (fun w' : World => w'.cell? ⟨b, off + k * 5, none⟩ = some (.int .i64 xi) ∧ w'.cell? ⟨b, off + k * 5 + 1, none⟩ = some (.int .i64 xq) ∧ w'.cell? ⟨b, off + k * 5 + 2, none⟩ = some (.int .i64 xu) ∧ w'.cell? ⟨b, off + k * 5 + 3, none⟩ = some (.bool xr) ∧ w'.cell? ⟨b, off + k * 5 + 4, none⟩ = some (.slice xA xm xc) ∧ w'.cell? ⟨b', off' + k * 5, none⟩ = some (.int .i64 xi) ∧ w'.cell? ⟨b', off' + k * 5 + 1, none⟩ = some (.int .i64 xq) ∧ w'.cell? ⟨b', off' + k * 5 + 2, none⟩ = some (.int .i64 yu) ∧ w'.cell? ⟨b', off' + k * 5 + 3, none⟩ = some (.bool yr) ∧ w'.cell? ⟨b', off' + k * 5 + 4, none⟩ = some (.slice yA ym yc)) wr.drew := ⟨f0, f1, f2, f3, f4, g0, g1, g2, g3, g4⟩
          refine held_take (v := ?_) 0 17 rfl rfl (by kernel_rfl) (by kernel_rfl) (by kernel_rfl) (fun _ _ _ h => h) ⟨by rfl, ?_⟩ hSh0 ?_
          rotate_left
          · intro w' hw'; obtain ⟨x0, x1, x2, x3, x4, x5, x6, x7, x8, x9⟩ := hw'; go_simp; (try with_reducible rfl)
          simp only [Act.put, List.setIfInBounds_toArray, List.set_cons_zero, List.set_cons_succ]
          refine held_take (v := ?_) 1 18 rfl rfl (by kernel_rfl) (by kernel_rfl) (by kernel_rfl) (fun _ _ _ h => h) ⟨by rfl, ?_⟩ hSh0 ?_
          rotate_left
          · intro w' hw'; obtain ⟨x0, x1, x2, x3, x4, x5, x6, x7, x8, x9⟩ := hw'; go_simp; (try with_reducible rfl)
          simp only [Act.put, List.setIfInBounds_toArray, List.set_cons_zero, List.set_cons_succ]
          refine held_take (v := ?_) 2 19 rfl rfl (by kernel_rfl) (by kernel_rfl) (by kernel_rfl) (fun _ _ _ h => h) ⟨by rfl, ?_⟩ hSh0 ?_
          rotate_left
          · intro w' hw'; obtain ⟨x0, x1, x2, x3, x4, x5, x6, x7, x8, x9⟩ := hw'; go_simp; (try with_reducible rfl)
          simp only [Act.put, List.setIfInBounds_toArray, List.set_cons_zero, List.set_cons_succ]
          refine held_take (v := ?_) 3 20 rfl rfl (by kernel_rfl) (by kernel_rfl) (by kernel_rfl) (fun _ _ _ h => h) ⟨by rfl, ?_⟩ hSh0 ?_
          rotate_left
          · intro w' hw'; obtain ⟨x0, x1, x2, x3, x4, x5, x6, x7, x8, x9⟩ := hw'; go_simp; (try with_reducible rfl)
          simp only [Act.put, List.setIfInBounds_toArray, List.set_cons_zero, List.set_cons_succ]
          refine held_take (v := ?_) 4 21 rfl rfl (by kernel_rfl) (by kernel_rfl) (by kernel_rfl) (fun _ _ _ h => h) ⟨by rfl, ?_⟩ hSh0 ?_
          rotate_left
          · intro w' hw'; obtain ⟨x0, x1, x2, x3, x4, x5, x6, x7, x8, x9⟩ := hw'; go_simp; (try with_reducible rfl)
          simp only [Act.put, List.setIfInBounds_toArray, List.set_cons_zero, List.set_cons_succ]
          refine held_take (v := ?_) 5 22 rfl rfl (by kernel_rfl) (by kernel_rfl) (by kernel_rfl) (fun _ _ _ h => h) ⟨by rfl, ?_⟩ hSh0 ?_
          rotate_left
          · intro w' hw'; obtain ⟨x0, x1, x2, x3, x4, x5, x6, x7, x8, x9⟩ := hw'; go_simp; (try with_reducible rfl)
          simp only [Act.put, List.setIfInBounds_toArray, List.set_cons_zero, List.set_cons_succ]
          refine held_take (v := ?_) 6 23 rfl rfl (by kernel_rfl) (by kernel_rfl) (by kernel_rfl) (fun _ _ _ h => h) ⟨by rfl, ?_⟩ hSh0 ?_
          rotate_left
          · intro w' hw'; obtain ⟨x0, x1, x2, x3, x4, x5, x6, x7, x8, x9⟩ := hw'; go_simp; (try with_reducible rfl)
          simp only [Act.put, List.setIfInBounds_toArray, List.set_cons_zero, List.set_cons_succ]
          refine held_take (v := ?_) 7 24 rfl rfl (by kernel_rfl) (by kernel_rfl) (by kernel_rfl) (fun _ _ _ h => h) ⟨by rfl, ?_⟩ hSh0 ?_
          rotate_left
          · intro w' hw'; obtain ⟨x0, x1, x2, x3, x4, x5, x6, x7, x8, x9⟩ := hw'; go_simp; (try with_reducible rfl)
          simp only [Act.put, List.setIfInBounds_toArray, List.set_cons_zero, List.set_cons_succ]
          refine held_take (v := ?_) 8 25 rfl rfl (by kernel_rfl) (by kernel_rfl) (by kernel_rfl) (fun _ _ _ h => h) ⟨by rfl, ?_⟩ hSh0 ?_
          rotate_left
          · intro w' hw'; obtain ⟨x0, x1, x2, x3, x4, x5, x6, x7, x8, x9⟩ := hw'; go_simp; (try with_reducible rfl)
          simp only [Act.put, List.setIfInBounds_toArray, List.set_cons_zero, List.set_cons_succ]
          refine held_take (v := ?_) 9 26 rfl rfl (by kernel_rfl) (by kernel_rfl) (by kernel_rfl) (fun _ _ _ h => h) ⟨by rfl, ?_⟩ hSh0 ?_
          rotate_left
          · intro w' hw'; obtain ⟨x0, x1, x2, x3, x4, x5, x6, x7, x8, x9⟩ := hw'; go_simp; (try with_reducible rfl)
          simp only [Act.put, List.setIfInBounds_toArray, List.set_cons_zero, List.set_cons_succ]
          refine held_take (v := ?_) 10 27 rfl rfl (by kernel_rfl) (by kernel_rfl) (by kernel_rfl) (fun _ _ _ h => h) ⟨by rfl, ?_⟩ hSh0 ?_
          rotate_left
          · intro w' hw'; obtain ⟨x0, x1, x2, x3, x4, x5, x6, x7, x8, x9⟩ := hw'; go_simp; (try with_reducible rfl)
          simp only [Act.put, List.setIfInBounds_toArray, List.set_cons_zero, List.set_cons_succ]
          refine held_take (v := ?_) 11 28 rfl rfl (by kernel_rfl) (by kernel_rfl) (by kernel_rfl) (fun _ _ _ h => h) ⟨by rfl, ?_⟩ hSh0 ?_
          rotate_left
          · intro w' hw'; obtain ⟨x0, x1, x2, x3, x4, x5, x6, x7, x8, x9⟩ := hw'; go_simp; (try with_reducible rfl)
          simp only [Act.put, List.setIfInBounds_toArray, List.set_cons_zero, List.set_cons_succ]
          refine held_take (v := ?_) 12 29 rfl rfl (by kernel_rfl) (by kernel_rfl) (by kernel_rfl) (fun _ _ _ h => h) ⟨by rfl, ?_⟩ hSh0 ?_
          rotate_left
          · intro w' hw'; obtain ⟨x0, x1, x2, x3, x4, x5, x6, x7, x8, x9⟩ := hw'; go_simp; (try with_reducible rfl)
          simp only [Act.put, List.setIfInBounds_toArray, List.set_cons_zero, List.set_cons_succ]
          refine held_take (v := ?_) 13 30 rfl rfl (by kernel_rfl) (by kernel_rfl) (by kernel_rfl) (fun _ _ _ h => h) ⟨by rfl, ?_⟩ hSh0 ?_
          rotate_left
          · intro w' hw'; obtain ⟨x0, x1, x2, x3, x4, x5, x6, x7, x8, x9⟩ := hw'; go_simp; (try with_reducible rfl)
          simp only [Act.put, List.setIfInBounds_toArray, List.set_cons_zero, List.set_cons_succ]
          refine held_take (v := ?_) 14 31 rfl rfl (by kernel_rfl) (by kernel_rfl) (by kernel_rfl) (fun _ _ _ h => h) ⟨by rfl, ?_⟩ hSh0 ?_
          rotate_left
          · intro w' hw'; obtain ⟨x0, x1, x2, x3, x4, x5, x6, x7, x8, x9⟩ := hw'; go_simp; (try with_reducible rfl)
          simp only [Act.put, List.setIfInBounds_toArray, List.set_cons_zero, List.set_cons_succ]
          refine held_take (v := ?_) 15 32 rfl rfl (by kernel_rfl) (by kernel_rfl) (by kernel_rfl) (fun _ _ _ h => h) ⟨by rfl, ?_⟩ hSh0 ?_
          rotate_left
          · intro w' hw'; obtain ⟨x0, x1, x2, x3, x4, x5, x6, x7, x8, x9⟩ := hw'; go_simp; (try with_reducible rfl)
          simp only [Act.put, List.setIfInBounds_toArray, List.set_cons_zero, List.set_cons_succ]
          refine held_take (v := ?_) 16 33 rfl rfl (by kernel_rfl) (by kernel_rfl) (by kernel_rfl) (fun _ _ _ h => h) ⟨by rfl, ?_⟩ hSh0 ?_
          rotate_left
          · intro w' hw'; obtain ⟨x0, x1, x2, x3, x4, x5, x6, x7, x8, x9⟩ := hw'; go_simp; (try with_reducible rfl)
          simp only [Act.put, List.setIfInBounds_toArray, List.set_cons_zero, List.set_cons_succ]
          refine held_take (v := ?_) 17 34 rfl rfl (by kernel_rfl) (by kernel_rfl) (by kernel_rfl) (fun _ _ _ h => h) ⟨by rfl, ?_⟩ hSh0 ?_
          rotate_left
          · intro w' hw'; obtain ⟨x0, x1, x2, x3, x4, x5, x6, x7, x8, x9⟩ := hw'; go_simp; (try with_reducible rfl)
          simp only [Act.put, List.setIfInBounds_toArray, List.set_cons_zero, List.set_cons_succ]
          refine held_take (v := ?_) 18 35 rfl rfl (by kernel_rfl) (by kernel_rfl) (by kernel_rfl) (fun _ _ _ h => h) ⟨by rfl, ?_⟩ hSh0 ?_
          rotate_left
          · intro w' hw'; obtain ⟨x0, x1, x2, x3, x4, x5, x6, x7, x8, x9⟩ := hw'; go_simp; (try with_reducible rfl)
          simp only [Act.put, List.setIfInBounds_toArray, List.set_cons_zero, List.set_cons_succ]
          refine held_take (v := ?_) 19 36 rfl rfl (by kernel_rfl) (by kernel_rfl) (by kernel_rfl) (fun _ _ _ h => h) ⟨by rfl, ?_⟩ hSh0 ?_
          rotate_left
          · intro w' hw'; obtain ⟨x0, x1, x2, x3, x4, x5, x6, x7, x8, x9⟩ := hw'; go_simp; (try with_reducible rfl)
          simp only [Act.put, List.setIfInBounds_toArray, List.set_cons_zero, List.set_cons_succ]
          refine held_take (v := ?_) 20 37 rfl rfl (by kernel_rfl) (by kernel_rfl) (by kernel_rfl) (fun _ _ _ h => h) ⟨by rfl, ?_⟩ hSh0 ?_
          rotate_left
          · intro w' hw'; obtain ⟨x0, x1, x2, x3, x4, x5, x6, x7, x8, x9⟩ := hw'; go_simp; (try with_reducible rfl)
          simp only [Act.put, List.setIfInBounds_toArray, List.set_cons_zero, List.set_cons_succ]
          refine held_take (v := ?_) 21 38 rfl rfl (by kernel_rfl) (by kernel_rfl) (by kernel_rfl) (fun _ _ _ h => h) ⟨by rfl, ?_⟩ hSh0 ?_
          rotate_left
          · intro w' hw'; obtain ⟨x0, x1, x2, x3, x4, x5, x6, x7, x8, x9⟩ := hw'; go_simp; (try with_reducible rfl)
          simp only [Act.put, List.setIfInBounds_toArray, List.set_cons_zero, List.set_cons_succ]
          refine held_take (v := ?_) 22 39 rfl rfl (by kernel_rfl) (by kernel_rfl) (by kernel_rfl) (fun _ _ _ h => h) ⟨by rfl, ?_⟩ hSh0 ?_
          rotate_left
          · intro w' hw'; obtain ⟨x0, x1, x2, x3, x4, x5, x6, x7, x8, x9⟩ := hw'; go_simp; (try with_reducible rfl)
          simp only [Act.put, List.setIfInBounds_toArray, List.set_cons_zero, List.set_cons_succ]
          refine held_take (v := ?_) 23 40 rfl rfl (by kernel_rfl) (by kernel_rfl) (by kernel_rfl) (fun _ _ _ h => h) ⟨by rfl, ?_⟩ hSh0 ?_
          rotate_left
          · intro w' hw'; obtain ⟨x0, x1, x2, x3, x4, x5, x6, x7, x8, x9⟩ := hw'; go_simp; (try with_reducible rfl)
          simp only [Act.put, List.setIfInBounds_toArray, List.set_cons_zero, List.set_cons_succ]
          refine held_take (v := ?_) 24 41 rfl rfl (by kernel_rfl) (by kernel_rfl) (by kernel_rfl) (fun _ _ _ h => h) ⟨by rfl, ?_⟩ hSh0 ?_
          rotate_left
          · intro w' hw'; obtain ⟨x0, x1, x2, x3, x4, x5, x6, x7, x8, x9⟩ := hw'; go_simp; (try with_reducible rfl)
          simp only [Act.put, List.setIfInBounds_toArray, List.set_cons_zero, List.set_cons_succ]
          refine held_take (v := ?_) 25 42 rfl rfl (by kernel_rfl) (by kernel_rfl) (by kernel_rfl) (fun _ _ _ h => h) ⟨by rfl, ?_⟩ hSh0 ?_
          rotate_left
          · intro w' hw'; obtain ⟨x0, x1, x2, x3, x4, x5, x6, x7, x8, x9⟩ := hw'; go_simp; (try with_reducible rfl)
          simp only [Act.put, List.setIfInBounds_toArray, List.set_cons_zero, List.set_cons_succ]
          refine held_take (v := ?_) 26 43 rfl rfl (by kernel_rfl) (by kernel_rfl) (by kernel_rfl) (fun _ _ _ h => h) ⟨by rfl, ?_⟩ hSh0 ?_
          rotate_left
          · intro w' hw'; obtain ⟨x0, x1, x2, x3, x4, x5, x6, x7, x8, x9⟩ := hw'; go_simp; (try with_reducible rfl)
          simp only [Act.put, List.setIfInBounds_toArray, List.set_cons_zero, List.set_cons_succ]
          refine held_take (v := ?_) 27 44 rfl rfl (by kernel_rfl) (by kernel_rfl) (by kernel_rfl) (fun _ _ _ h => h) ⟨by rfl, ?_⟩ hSh0 ?_
          rotate_left
          · intro w' hw'; obtain ⟨x0, x1, x2, x3, x4, x5, x6, x7, x8, x9⟩ := hw'; go_simp; (try with_reducible rfl)
          simp only [Act.put, List.setIfInBounds_toArray, List.set_cons_zero, List.set_cons_succ]
          refine held_take (v := ?_) 28 45 rfl rfl (by kernel_rfl) (by kernel_rfl) (by kernel_rfl) (fun _ _ _ h => h) ⟨by rfl, ?_⟩ hSh0 ?_
          rotate_left
          · intro w' hw'; obtain ⟨x0, x1, x2, x3, x4, x5, x6, x7, x8, x9⟩ := hw'; go_simp; (try with_reducible rfl)
          simp only [Act.put, List.setIfInBounds_toArray, List.set_cons_zero, List.set_cons_succ]
          refine held_take (v := ?_) 29 46 rfl rfl (by kernel_rfl) (by kernel_rfl) (by kernel_rfl) (fun _ _ _ h => h) ⟨by rfl, ?_⟩ hSh0 ?_
          rotate_left
          · intro w' hw'; obtain ⟨x0, x1, x2, x3, x4, x5, x6, x7, x8, x9⟩ := hw'; go_simp; (try with_reducible rfl)
          simp only [Act.put, List.setIfInBounds_toArray, List.set_cons_zero, List.set_cons_succ]
          refine held_take (v := ?_) 30 47 rfl rfl (by kernel_rfl) (by kernel_rfl) (by kernel_rfl) (fun _ _ _ h => h) ⟨by rfl, ?_⟩ hSh0 ?_
          rotate_left
          · intro w' hw'; obtain ⟨x0, x1, x2, x3, x4, x5, x6, x7, x8, x9⟩ := hw'; go_simp; (try with_reducible rfl)
          simp only [Act.put, List.setIfInBounds_toArray, List.set_cons_zero, List.set_cons_succ]
          refine held_take (v := ?_) 31 48 rfl rfl (by kernel_rfl) (by kernel_rfl) (by kernel_rfl) (fun _ _ _ h => h) ⟨by rfl, ?_⟩ hSh0 ?_
          rotate_left
          · intro w' hw'; obtain ⟨x0, x1, x2, x3, x4, x5, x6, x7, x8, x9⟩ := hw'; go_simp; (try with_reducible rfl)
          simp only [Act.put, List.setIfInBounds_toArray, List.set_cons_zero, List.set_cons_succ]
          refine held_take (v := ?_) 32 49 rfl rfl (by kernel_rfl) (by kernel_rfl) (by kernel_rfl) (fun _ _ _ h => h) ⟨by rfl, ?_⟩ hSh0 ?_
          rotate_left
          · intro w' hw'; obtain ⟨x0, x1, x2, x3, x4, x5, x6, x7, x8, x9⟩ := hw'; go_simp; (try with_reducible rfl)
          simp only [Act.put, List.setIfInBounds_toArray, List.set_cons_zero, List.set_cons_succ]
          refine held_take (v := ?_) 33 50 rfl rfl (by kernel_rfl) (by kernel_rfl) (by kernel_rfl) (fun _ _ _ h => h) ⟨by rfl, ?_⟩ hSh0 ?_
          rotate_left
          · intro w' hw'; obtain ⟨x0, x1, x2, x3, x4, x5, x6, x7, x8, x9⟩ := hw'; go_simp; (try with_reducible rfl)
          simp only [Act.put, List.setIfInBounds_toArray, List.set_cons_zero, List.set_cons_succ]
          refine held_take (v := ?_) 34 51 rfl rfl (by kernel_rfl) (by kernel_rfl) (by kernel_rfl) (fun _ _ _ h => h) ⟨by rfl, ?_⟩ hSh0 ?_
          rotate_left
          · intro w' hw'; obtain ⟨x0, x1, x2, x3, x4, x5, x6, x7, x8, x9⟩ := hw'; go_simp; (try with_reducible rfl)
          simp only [Act.put, List.setIfInBounds_toArray, List.set_cons_zero, List.set_cons_succ]
          refine held_take (v := ?_) 35 52 rfl rfl (by kernel_rfl) (by kernel_rfl) (by kernel_rfl) (fun _ _ _ h => h) ⟨by rfl, ?_⟩ hSh0 ?_
          rotate_left
          · intro w' hw'; obtain ⟨x0, x1, x2, x3, x4, x5, x6, x7, x8, x9⟩ := hw'; go_simp; (try with_reducible rfl)
          simp only [Act.put, List.setIfInBounds_toArray, List.set_cons_zero, List.set_cons_succ]
          refine held_take (v := ?_) 36 53 rfl rfl (by kernel_rfl) (by kernel_rfl) (by kernel_rfl) (fun _ _ _ h => h) ⟨by rfl, ?_⟩ hSh0 ?_
          rotate_left
          · intro w' hw'; obtain ⟨x0, x1, x2, x3, x4, x5, x6, x7, x8, x9⟩ := hw'; go_simp; (try with_reducible rfl)
          simp only [Act.put, List.setIfInBounds_toArray, List.set_cons_zero, List.set_cons_succ]
          refine held_take (v := ?_) 37 54 rfl rfl (by kernel_rfl) (by kernel_rfl) (by kernel_rfl) (fun _ _ _ h => h) ⟨by rfl, ?_⟩ hSh0 ?_
          rotate_left
          · intro w' hw'; obtain ⟨x0, x1, x2, x3, x4, x5, x6, x7, x8, x9⟩ := hw'; go_simp; (try with_reducible rfl)
          simp only [Act.put, List.setIfInBounds_toArray, List.set_cons_zero, List.set_cons_succ]
          refine held_skip 38 55 rfl rfl (by kernel_rfl) (by kernel_rfl) (by kernel_rfl) (fun _ _ _ h => h) (by rfl) hSh0 ?_
          simp only [Act.put, List.setIfInBounds_toArray, List.set_cons_zero, List.set_cons_succ]
          refine held_skip 39 56 rfl rfl (by kernel_rfl) (by kernel_rfl) (by kernel_rfl) (fun _ _ _ h => h) (by rfl) hSh0 ?_
          simp only [Act.put, List.setIfInBounds_toArray, List.set_cons_zero, List.set_cons_succ]
          refine held_skip 40 57 rfl rfl (by kernel_rfl) (by kernel_rfl) (by kernel_rfl) (fun _ _ _ h => h) (by rfl) hSh0 ?_
          simp only [Act.put, List.setIfInBounds_toArray, List.set_cons_zero, List.set_cons_succ]
          refine held_skip 41 58 rfl rfl (by kernel_rfl) (by kernel_rfl) (by kernel_rfl) (fun _ _ _ h => h) (by rfl) hSh0 ?_
          simp only [Act.put, List.setIfInBounds_toArray, List.set_cons_zero, List.set_cons_succ]
          refine held_skip 42 59 rfl rfl (by kernel_rfl) (by kernel_rfl) (by kernel_rfl) (fun _ _ _ h => h) (by rfl) hSh0 ?_
          simp only [Act.put, List.setIfInBounds_toArray, List.set_cons_zero, List.set_cons_succ]
          refine held_skip 43 60 rfl rfl (by kernel_rfl) (by kernel_rfl) (by kernel_rfl) (fun _ _ _ h => h) (by rfl) hSh0 ?_
          simp only [Act.put, List.setIfInBounds_toArray, List.set_cons_zero, List.set_cons_succ]
          refine held_skip 44 61 rfl rfl (by kernel_rfl) (by kernel_rfl) (by kernel_rfl) (fun _ _ _ h => h) (by rfl) hSh0 ?_
          simp only [Act.put, List.setIfInBounds_toArray, List.set_cons_zero, List.set_cons_succ]
          refine held_skip 45 62 rfl rfl (by kernel_rfl) (by kernel_rfl) (by kernel_rfl) (fun _ _ _ h => h) (by rfl) hSh0 ?_
          simp only [Act.put, List.setIfInBounds_toArray, List.set_cons_zero, List.set_cons_succ]
          refine held_skip 46 63 rfl rfl (by kernel_rfl) (by kernel_rfl) (by kernel_rfl) (fun _ _ _ h => h) (by rfl) hSh0 ?_
          simp only [Act.put, List.setIfInBounds_toArray, List.set_cons_zero, List.set_cons_succ]
          refine held_skip 47 64 rfl rfl (by kernel_rfl) (by kernel_rfl) (by kernel_rfl) (fun _ _ _ h => h) (by rfl) hSh0 ?_
          simp only [Act.put, List.setIfInBounds_toArray, List.set_cons_zero, List.set_cons_succ]
          refine held_skip 48 65 rfl rfl (by kernel_rfl) (by kernel_rfl) (by kernel_rfl) (fun _ _ _ h => h) (by rfl) hSh0 ?_
          simp only [Act.put, List.setIfInBounds_toArray, List.set_cons_zero, List.set_cons_succ]
          refine held_take (v := ?_) 49 66 rfl rfl (by kernel_rfl) (by kernel_rfl) (by kernel_rfl) (fun _ _ _ h => h) ⟨by rfl, ?_⟩ hSh0 ?_
          rotate_left
          · intro w' hw'; obtain ⟨x0, x1, x2, x3, x4, x5, x6, x7, x8, x9⟩ := hw'; go_simp; (try with_reducible rfl)
          simp only [Act.put, List.setIfInBounds_toArray, List.set_cons_zero, List.set_cons_succ]
          refine held_take (v := ?_) 50 67 rfl rfl (by kernel_rfl) (by kernel_rfl) (by kernel_rfl) (fun _ _ _ h => h) ⟨by rfl, ?_⟩ hSh0 ?_
          rotate_left
          · intro w' hw'; obtain ⟨x0, x1, x2, x3, x4, x5, x6, x7, x8, x9⟩ := hw'; go_simp; (try with_reducible rfl)
          simp only [Act.put, List.setIfInBounds_toArray, List.set_cons_zero, List.set_cons_succ]
          refine held_skip 51 68 rfl rfl (by kernel_rfl) (by kernel_rfl) (by kernel_rfl) (fun _ _ _ h => h) (by rfl) hSh0 ?_
          simp only [Act.put, List.setIfInBounds_toArray, List.set_cons_zero, List.set_cons_succ]
          refine held_skip 52 69 rfl rfl (by kernel_rfl) (by kernel_rfl) (by kernel_rfl) (fun _ _ _ h => h) (by rfl) hSh0 ?_
          simp only [Act.put, List.setIfInBounds_toArray, List.set_cons_zero, List.set_cons_succ]
          refine held_skip 53 70 rfl rfl (by kernel_rfl) (by kernel_rfl) (by kernel_rfl) (fun _ _ _ h => h) (by rfl) hSh0 ?_
          simp only [Act.put, List.setIfInBounds_toArray, List.set_cons_zero, List.set_cons_succ]
          refine held_skip 54 71 rfl rfl (by kernel_rfl) (by kernel_rfl) (by kernel_rfl) (fun _ _ _ h => h) (by rfl) hSh0 ?_
          simp only [Act.put, List.setIfInBounds_toArray, List.set_cons_zero, List.set_cons_succ]
          refine held_skip 55 72 rfl rfl (by kernel_rfl) (by kernel_rfl) (by kernel_rfl) (fun _ _ _ h => h) (by rfl) hSh0 ?_
          simp only [Act.put, List.setIfInBounds_toArray, List.set_cons_zero, List.set_cons_succ]
          refine held_skip 56 73 rfl rfl (by kernel_rfl) (by kernel_rfl) (by kernel_rfl) (fun _ _ _ h => h) (by rfl) hSh0 ?_
          simp only [Act.put, List.setIfInBounds_toArray, List.set_cons_zero, List.set_cons_succ]
          refine held_skip 57 74 rfl rfl (by kernel_rfl) (by kernel_rfl) (by kernel_rfl) (fun _ _ _ h => h) (by rfl) hSh0 ?_
          simp only [Act.put, List.setIfInBounds_toArray, List.set_cons_zero, List.set_cons_succ]
          refine held_skip 58 75 rfl rfl (by kernel_rfl) (by kernel_rfl) (by kernel_rfl) (fun _ _ _ h => h) (by rfl) hSh0 ?_
          simp only [Act.put, List.setIfInBounds_toArray, List.set_cons_zero, List.set_cons_succ]
          refine held_skip 59 76 rfl rfl (by kernel_rfl) (by kernel_rfl) (by kernel_rfl) (fun _ _ _ h => h) (by rfl) hSh0 ?_
          simp only [Act.put, List.setIfInBounds_toArray, List.set_cons_zero, List.set_cons_succ]
          refine held_skip 60 77 rfl rfl (by kernel_rfl) (by kernel_rfl) (by kernel_rfl) (fun _ _ _ h => h) (by rfl) hSh0 ?_
          simp only [Act.put, List.setIfInBounds_toArray, List.set_cons_zero, List.set_cons_succ]
          refine held_skip 61 78 rfl rfl (by kernel_rfl) (by kernel_rfl) (by kernel_rfl) (fun _ _ _ h => h) (by rfl) hSh0 ?_
          simp only [Act.put, List.setIfInBounds_toArray, List.set_cons_zero, List.set_cons_succ]
          refine held_skip 62 79 rfl rfl (by kernel_rfl) (by kernel_rfl) (by kernel_rfl) (fun _ _ _ h => h) (by rfl) hSh0 ?_
          simp only [Act.put, List.setIfInBounds_toArray, List.set_cons_zero, List.set_cons_succ]
          refine held_take (v := ?_) 63 80 rfl rfl (by kernel_rfl) (by kernel_rfl) (by kernel_rfl) (fun _ _ _ h => h) ⟨by rfl, ?_⟩ hSh0 ?_
          rotate_left
          · intro w' hw'; obtain ⟨x0, x1, x2, x3, x4, x5, x6, x7, x8, x9⟩ := hw'; go_simp; (try with_reducible rfl)
          simp only [Act.put, List.setIfInBounds_toArray, List.set_cons_zero, List.set_cons_succ]
          refine wpAnyH_done (by kernel_rfl) ?_ _
          have HB9 := Lib.hid (hW.out.trans (hBh0.mono hW.out.size))
          clear hBh0 hSh0 hW
          go_wp2
          go_ret
          exact ⟨rfl, HB9.out⟩
        subst cu
        have n2 : (xu != xu) = false := by simp
        by_cases cr : xr = yr
        rotate_left
        · have n3 : (xr != yr) = true := by rw [bne_iff_ne]; exact cr
          have eR : R = false := HXY.out.2.2 fun e => by have := HXY.out.2.1 e; simp_all
          subst eR
          clear HXY
          have hxy2 : (xr = true ∧ yr = false) ∨ (xr = false ∧ yr = true) := by revert cr; cases xr <;> cases yr <;> simp
          clear cr
          rcases hxy2 with ⟨rfl, rfl⟩ | ⟨rfl, rfl⟩
          · go_wp2
            refine held_begin (fun w' : World => w'.cell? ⟨b, off + k * 5, none⟩ = some (.int .i64 xi) ∧ w'.cell? ⟨b, off + k * 5 + 1, none⟩ = some (.int .i64 xq) ∧ w'.cell? ⟨b, off + k * 5 + 2, none⟩ = some (.int .i64 xu) ∧ w'.cell? ⟨b, off + k * 5 + 3, none⟩ = some (.bool true) ∧ w'.cell? ⟨b, off + k * 5 + 4, none⟩ = some (.slice xA xm xc) ∧ w'.cell? ⟨b', off' + k * 5, none⟩ = some (.int .i64 xi) ∧ w'.cell? ⟨b', off' + k * 5 + 1, none⟩ = some (.int .i64 xq) ∧ w'.cell? ⟨b', off' + k * 5 + 2, none⟩ = some (.int .i64 xu) ∧ w'.cell? ⟨b', off' + k * 5 + 3, none⟩ = some (.bool false) ∧ w'.cell? ⟨b', off' + k * 5 + 4, none⟩ = some (.slice yA ym yc)) (by kernel_rfl) ?_
            have hBh0 : Below wr.heap.size wr wr.drew := (Below.refl _ _).drew
            have hSh0 : (fun w' : World => w'.cell? ⟨b, off + k * 5, none⟩ = some (.int .i64 xi) ∧ w'.cell? ⟨b, off + k * 5 + 1, none⟩ = some (.int .i64 xq) ∧ w'.cell? ⟨b, off + k * 5 + 2, none⟩ = some (.int .i64 xu) ∧ w'.cell? ⟨b, off + k * 5 + 3, none⟩ = some (.bool true) ∧ w'.cell? ⟨b, off + k * 5 + 4, none⟩ = some (.slice xA xm xc) ∧ w'.cell? ⟨b', off' + k * 5, none⟩ = some (.int .i64 xi) ∧ w'.cell? ⟨b', off' + k * 5 + 1, none⟩ = some (.int .i64 xq) ∧ w'.cell? ⟨b', off' + k * 5 + 2, none⟩ = some (.int .i64 xu) ∧ w'.cell? ⟨b', off' + k * 5 + 3, none⟩ = some (.bool false) ∧ w'.cell? ⟨b', off' + k * 5 + 4, none⟩ = some (.slice yA ym yc)) wr.drew := ⟨f0, f1, f2, f3, f4, g0, g1, g2, g3, g4⟩
            refine held_take (v := ?_) 0 17 rfl rfl (by kernel_rfl) (by kernel_rfl) (by kernel_rfl) (fun _ _ _ h => h) ⟨by rfl, ?_⟩ hSh0 ?_
            rotate_left
            · intro w' hw'; obtain ⟨x0, x1, x2, x3, x4, x5, x6, x7, x8, x9⟩ := hw'; go_simp; (try with_reducible rfl)
            simp only [Act.put, List.setIfInBounds_toArray, List.set_cons_zero, List.set_cons_succ]
            refine held_take (v := ?_) 1 18 rfl rfl (by kernel_rfl) (by kernel_rfl) (by kernel_rfl) (fun _ _ _ h => h) ⟨by rfl, ?_⟩ hSh0 ?_
            rotate_left
            · intro w' hw'; obtain ⟨x0, x1, x2, x3, x4, x5, x6, x7, x8, x9⟩ := hw'; go_simp; (try with_reducible rfl)
            simp only [Act.put, List.setIfInBounds_toArray, List.set_cons_zero, List.set_cons_succ]
            refine held_take (v := ?_) 2 19 rfl rfl (by kernel_rfl) (by kernel_rfl) (by kernel_rfl) (fun _ _ _ h => h) ⟨by rfl, ?_⟩ hSh0 ?_
            rotate_left
            · intro w' hw'; obtain ⟨x0, x1, x2, x3, x4, x5, x6, x7, x8, x9⟩ := hw'; go_simp; (try with_reducible rfl)
            simp only [Act.put, List.setIfInBounds_toArray, List.set_cons_zero, List.set_cons_succ]
            refine held_take (v := ?_) 3 20 rfl rfl (by kernel_rfl) (by kernel_rfl) (by kernel_rfl) (fun _ _ _ h => h) ⟨by rfl, ?_⟩ hSh0 ?_
            rotate_left
            · intro w' hw'; obtain ⟨x0, x1, x2, x3, x4, x5, x6, x7, x8, x9⟩ := hw'; go_simp; (try with_reducible rfl)
            simp only [Act.put, List.setIfInBounds_toArray, List.set_cons_zero, List.set_cons_succ]
            refine held_take (v := ?_) 4 21 rfl rfl (by kernel_rfl) (by kernel_rfl) (by kernel_rfl) (fun _ _ _ h => h) ⟨by rfl, ?_⟩ hSh0 ?_
            rotate_left
            · intro w' hw'; obtain ⟨x0, x1, x2, x3, x4, x5, x6, x7, x8, x9⟩ := hw'; go_simp; (try with_reducible rfl)
            simp only [Act.put, List.setIfInBounds_toArray, List.set_cons_zero, List.set_cons_succ]
            refine held_take (v := ?_) 5 22 rfl rfl (by kernel_rfl) (by kernel_rfl) (by kernel_rfl) (fun _ _ _ h => h) ⟨by rfl, ?_⟩ hSh0 ?_
            rotate_left
            · intro w' hw'; obtain ⟨x0, x1, x2, x3, x4, x5, x6, x7, x8, x9⟩ := hw'; go_simp; (try with_reducible rfl)
            simp only [Act.put, List.setIfInBounds_toArray, List.set_cons_zero, List.set_cons_succ]
            refine held_take (v := ?_) 6 23 rfl rfl (by kernel_rfl) (by kernel_rfl) (by kernel_rfl) (fun _ _ _ h => h) ⟨by rfl, ?_⟩ hSh0 ?_
            rotate_left
            · intro w' hw'; obtain ⟨x0, x1, x2, x3, x4, x5, x6, x7, x8, x9⟩ := hw'; go_simp; (try with_reducible rfl)
            simp only [Act.put, List.setIfInBounds_toArray, List.set_cons_zero, List.set_cons_succ]
            refine held_take (v := ?_) 7 24 rfl rfl (by kernel_rfl) (by kernel_rfl) (by kernel_rfl) (fun _ _ _ h => h) ⟨by rfl, ?_⟩ hSh0 ?_
            rotate_left
            · intro w' hw'; obtain ⟨x0, x1, x2, x3, x4, x5, x6, x7, x8, x9⟩ := hw'; go_simp; (try with_reducible rfl)
            simp only [Act.put, List.setIfInBounds_toArray, List.set_cons_zero, List.set_cons_succ]
            refine held_take (v := ?_) 8 25 rfl rfl (by kernel_rfl) (by kernel_rfl) (by kernel_rfl) (fun _ _ _ h => h) ⟨by rfl, ?_⟩ hSh0 ?_
            rotate_left
            · intro w' hw'; obtain ⟨x0, x1, x2, x3, x4, x5, x6, x7, x8, x9⟩ := hw'; go_simp; (try with_reducible rfl)
            simp only [Act.put, List.setIfInBounds_toArray, List.set_cons_zero, List.set_cons_succ]
            refine held_take (v := ?_) 9 26 rfl rfl (by kernel_rfl) (by kernel_rfl) (by kernel_rfl) (fun _ _ _ h => h) ⟨by rfl, ?_⟩ hSh0 ?_
            rotate_left
            · intro w' hw'; obtain ⟨x0, x1, x2, x3, x4, x5, x6, x7, x8, x9⟩ := hw'; go_simp; (try with_reducible rfl)
            simp only [Act.put, List.setIfInBounds_toArray, List.set_cons_zero, List.set_cons_succ]
            refine held_take (v := ?_) 10 27 rfl rfl (by kernel_rfl) (by kernel_rfl) (by kernel_rfl) (fun _ _ _ h => h) ⟨by rfl, ?_⟩ hSh0 ?_
            rotate_left
            · intro w' hw'; obtain ⟨x0, x1, x2, x3, x4, x5, x6, x7, x8, x9⟩ := hw'; go_simp; (try with_reducible rfl)
            simp only [Act.put, List.setIfInBounds_toArray, List.set_cons_zero, List.set_cons_succ]
            refine held_take (v := ?_) 11 28 rfl rfl (by kernel_rfl) (by kernel_rfl) (by kernel_rfl) (fun _ _ _ h => h) ⟨by rfl, ?_⟩ hSh0 ?_
            rotate_left
            · intro w' hw'; obtain ⟨x0, x1, x2, x3, x4, x5, x6, x7, x8, x9⟩ := hw'; go_simp; (try with_reducible rfl)
            simp only [Act.put, List.setIfInBounds_toArray, List.set_cons_zero, List.set_cons_succ]
            refine held_take (v := ?_) 12 29 rfl rfl (by kernel_rfl) (by kernel_rfl) (by kernel_rfl) (fun _ _ _ h => h) ⟨by rfl, ?_⟩ hSh0 ?_
            rotate_left
            · intro w' hw'; obtain ⟨x0, x1, x2, x3, x4, x5, x6, x7, x8, x9⟩ := hw'; go_simp; (try with_reducible rfl)
            simp only [Act.put, List.setIfInBounds_toArray, List.set_cons_zero, List.set_cons_succ]
            refine held_take (v := ?_) 13 30 rfl rfl (by kernel_rfl) (by kernel_rfl) (by kernel_rfl) (fun _ _ _ h => h) ⟨by rfl, ?_⟩ hSh0 ?_
            rotate_left
            · intro w' hw'; obtain ⟨x0, x1, x2, x3, x4, x5, x6, x7, x8, x9⟩ := hw'; go_simp; (try with_reducible rfl)
            simp only [Act.put, List.setIfInBounds_toArray, List.set_cons_zero, List.set_cons_succ]
            refine held_take (v := ?_) 14 31 rfl rfl (by kernel_rfl) (by kernel_rfl) (by kernel_rfl) (fun _ _ _ h => h) ⟨by rfl, ?_⟩ hSh0 ?_
            rotate_left
            · intro w' hw'; obtain ⟨x0, x1, x2, x3, x4, x5, x6, x7, x8, x9⟩ := hw'; go_simp; (try with_reducible rfl)
            simp only [Act.put, List.setIfInBounds_toArray, List.set_cons_zero, List.set_cons_succ]
            refine held_take (v := ?_) 15 32 rfl rfl (by kernel_rfl) (by kernel_rfl) (by kernel_rfl) (fun _ _ _ h => h) ⟨by rfl, ?_⟩ hSh0 ?_
            rotate_left
            · intro w' hw'; obtain ⟨x0, x1, x2, x3, x4, x5, x6, x7, x8, x9⟩ := hw'; go_simp; (try with_reducible rfl)
            simp only [Act.put, List.setIfInBounds_toArray, List.set_cons_zero, List.set_cons_succ]
            refine held_take (v := ?_) 16 33 rfl rfl (by kernel_rfl) (by kernel_rfl) (by kernel_rfl) (fun _ _ _ h => h) ⟨by rfl, ?_⟩ hSh0 ?_
            rotate_left
            · intro w' hw'; obtain ⟨x0, x1, x2, x3, x4, x5, x6, x7, x8, x9⟩ := hw'; go_simp; (try with_reducible rfl)
            simp only [Act.put, List.setIfInBounds_toArray, List.set_cons_zero, List.set_cons_succ]
            refine held_take (v := ?_) 17 34 rfl rfl (by kernel_rfl) (by kernel_rfl) (by kernel_rfl) (fun _ _ _ h => h) ⟨by rfl, ?_⟩ hSh0 ?_
            rotate_left
            · intro w' hw'; obtain ⟨x0, x1, x2, x3, x4, x5, x6, x7, x8, x9⟩ := hw'; go_simp; (try with_reducible rfl)
            simp only [Act.put, List.setIfInBounds_toArray, List.set_cons_zero, List.set_cons_succ]
            refine held_take (v := ?_) 18 35 rfl rfl (by kernel_rfl) (by kernel_rfl) (by kernel_rfl) (fun _ _ _ h => h) ⟨by rfl, ?_⟩ hSh0 ?_
            rotate_left
            · intro w' hw'; obtain ⟨x0, x1, x2, x3, x4, x5, x6, x7, x8, x9⟩ := hw'; go_simp; (try with_reducible rfl)
            simp only [Act.put, List.setIfInBounds_toArray, List.set_cons_zero, List.set_cons_succ]
            refine held_take (v := ?_) 19 36 rfl rfl (by kernel_rfl) (by kernel_rfl) (by kernel_rfl) (fun _ _ _ h => h) ⟨by rfl, ?_⟩ hSh0 ?_
            rotate_left
            · intro w' hw'; obtain ⟨x0, x1, x2, x3, x4, x5, x6, x7, x8, x9⟩ := hw'; go_simp; (try with_reducible rfl)
            simp only [Act.put, List.setIfInBounds_toArray, List.set_cons_zero, List.set_cons_succ]
            refine held_take (v := ?_) 20 37 rfl rfl (by kernel_rfl) (by kernel_rfl) (by kernel_rfl) (fun _ _ _ h => h) ⟨by rfl, ?_⟩ hSh0 ?_
            rotate_left
            · intro w' hw'; obtain ⟨x0, x1, x2, x3, x4, x5, x6, x7, x8, x9⟩ := hw'; go_simp; (try with_reducible rfl)
            simp only [Act.put, List.setIfInBounds_toArray, List.set_cons_zero, List.set_cons_succ]
            refine held_take (v := ?_) 21 38 rfl rfl (by kernel_rfl) (by kernel_rfl) (by kernel_rfl) (fun _ _ _ h => h) ⟨by rfl, ?_⟩ hSh0 ?_
            rotate_left
            · intro w' hw'; obtain ⟨x0, x1, x2, x3, x4, x5, x6, x7, x8, x9⟩ := hw'; go_simp; (try with_reducible rfl)
            simp only [Act.put, List.setIfInBounds_toArray, List.set_cons_zero, List.set_cons_succ]
            refine held_take (v := ?_) 22 39 rfl rfl (by kernel_rfl) (by kernel_rfl) (by kernel_rfl) (fun _ _ _ h => h) ⟨by rfl, ?_⟩ hSh0 ?_
            rotate_left
            · intro w' hw'; obtain ⟨x0, x1, x2, x3, x4, x5, x6, x7, x8, x9⟩ := hw'; go_simp; (try with_reducible rfl)
            simp only [Act.put, List.setIfInBounds_toArray, List.set_cons_zero, List.set_cons_succ]
            refine held_take (v := ?_) 23 40 rfl rfl (by kernel_rfl) (by kernel_rfl) (by kernel_rfl) (fun _ _ _ h => h) ⟨by rfl, ?_⟩ hSh0 ?_
            rotate_left
            · intro w' hw'; obtain ⟨x0, x1, x2, x3, x4, x5, x6, x7, x8, x9⟩ := hw'; go_simp; (try with_reducible rfl)
            simp only [Act.put, List.setIfInBounds_toArray, List.set_cons_zero, List.set_cons_succ]
            refine held_take (v := ?_) 24 41 rfl rfl (by kernel_rfl) (by kernel_rfl) (by kernel_rfl) (fun _ _ _ h => h) ⟨by rfl, ?_⟩ hSh0 ?_
            rotate_left
            · intro w' hw'; obtain ⟨x0, x1, x2, x3, x4, x5, x6, x7, x8, x9⟩ := hw'; go_simp; (try with_reducible rfl)
            simp only [Act.put, List.setIfInBounds_toArray, List.set_cons_zero, List.set_cons_succ]
            refine held_take (v := ?_) 25 42 rfl rfl (by kernel_rfl) (by kernel_rfl) (by kernel_rfl) (fun _ _ _ h => h) ⟨by rfl, ?_⟩ hSh0 ?_
            rotate_left
            · intro w' hw'; obtain ⟨x0, x1, x2, x3, x4, x5, x6, x7, x8, x9⟩ := hw'; go_simp; (try with_reducible rfl)
            simp only [Act.put, List.setIfInBounds_toArray, List.set_cons_zero, List.set_cons_succ]
            refine held_take (v := ?_) 26 43 rfl rfl (by kernel_rfl) (by kernel_rfl) (by kernel_rfl) (fun _ _ _ h => h) ⟨by rfl, ?_⟩ hSh0 ?_
            rotate_left
            · intro w' hw'; obtain ⟨x0, x1, x2, x3, x4, x5, x6, x7, x8, x9⟩ := hw'; go_simp; (try with_reducible rfl)
            simp only [Act.put, List.setIfInBounds_toArray, List.set_cons_zero, List.set_cons_succ]
            refine held_take (v := ?_) 27 44 rfl rfl (by kernel_rfl) (by kernel_rfl) (by kernel_rfl) (fun _ _ _ h => h) ⟨by rfl, ?_⟩ hSh0 ?_
            rotate_left
            · intro w' hw'; obtain ⟨x0, x1, x2, x3, x4, x5, x6, x7, x8, x9⟩ := hw'; go_simp; (try with_reducible rfl)
            simp only [Act.put, List.setIfInBounds_toArray, List.set_cons_zero, List.set_cons_succ]
            refine held_take (v := ?_) 28 45 rfl rfl (by kernel_rfl) (by kernel_rfl) (by kernel_rfl) (fun _ _ _ h => h) ⟨by rfl, ?_⟩ hSh0 ?_
            rotate_left
            · intro w' hw'; obtain ⟨x0, x1, x2, x3, x4, x5, x6, x7, x8, x9⟩ := hw'; go_simp; (try with_reducible rfl)
            simp only [Act.put, List.setIfInBounds_toArray, List.set_cons_zero, List.set_cons_succ]
            refine held_take (v := ?_) 29 46 rfl rfl (by kernel_rfl) (by kernel_rfl) (by kernel_rfl) (fun _ _ _ h => h) ⟨by rfl, ?_⟩ hSh0 ?_
            rotate_left
            · intro w' hw'; obtain ⟨x0, x1, x2, x3, x4, x5, x6, x7, x8, x9⟩ := hw'; go_simp; (try with_reducible rfl)
            simp only [Act.put, List.setIfInBounds_toArray, List.set_cons_zero, List.set_cons_succ]
            refine held_take (v := ?_) 30 47 rfl rfl (by kernel_rfl) (by kernel_rfl) (by kernel_rfl) (fun _ _ _ h => h) ⟨by rfl, ?_⟩ hSh0 ?_
            rotate_left
            · intro w' hw'; obtain ⟨x0, x1, x2, x3, x4, x5, x6, x7, x8, x9⟩ := hw'; go_simp; (try with_reducible rfl)
            simp only [Act.put, List.setIfInBounds_toArray, List.set_cons_zero, List.set_cons_succ]
            refine held_take (v := ?_) 31 48 rfl rfl (by kernel_rfl) (by kernel_rfl) (by kernel_rfl) (fun _ _ _ h => h) ⟨by rfl, ?_⟩ hSh0 ?_
            rotate_left
            · intro w' hw'; obtain ⟨x0, x1, x2, x3, x4, x5, x6, x7, x8, x9⟩ := hw'; go_simp; (try with_reducible rfl)
            simp only [Act.put, List.setIfInBounds_toArray, List.set_cons_zero, List.set_cons_succ]
            refine held_take (v := ?_) 32 49 rfl rfl (by kernel_rfl) (by kernel_rfl) (by kernel_rfl) (fun _ _ _ h => h) ⟨by rfl, ?_⟩ hSh0 ?_
            rotate_left
            · intro w' hw'; obtain ⟨x0, x1, x2, x3, x4, x5, x6, x7, x8, x9⟩ := hw'; go_simp; (try with_reducible rfl)
            simp only [Act.put, List.setIfInBounds_toArray, List.set_cons_zero, List.set_cons_succ]
            refine held_take (v := ?_) 33 50 rfl rfl (by kernel_rfl) (by kernel_rfl) (by kernel_rfl) (fun _ _ _ h => h) ⟨by rfl, ?_⟩ hSh0 ?_
            rotate_left
            · intro w' hw'; obtain ⟨x0, x1, x2, x3, x4, x5, x6, x7, x8, x9⟩ := hw'; go_simp; (try with_reducible rfl)
            simp only [Act.put, List.setIfInBounds_toArray, List.set_cons_zero, List.set_cons_succ]
            refine held_take (v := ?_) 34 51 rfl rfl (by kernel_rfl) (by kernel_rfl) (by kernel_rfl) (fun _ _ _ h => h) ⟨by rfl, ?_⟩ hSh0 ?_
            rotate_left
            · intro w' hw'; obtain ⟨x0, x1, x2, x3, x4, x5, x6, x7, x8, x9⟩ := hw'; go_simp; (try with_reducible rfl)
            simp only [Act.put, List.setIfInBounds_toArray, List.set_cons_zero, List.set_cons_succ]
            refine held_take (v := ?_) 35 52 rfl rfl (by kernel_rfl) (by kernel_rfl) (by kernel_rfl) (fun _ _ _ h => h) ⟨by rfl, ?_⟩ hSh0 ?_
            rotate_left
            · intro w' hw'; obtain ⟨x0, x1, x2, x3, x4, x5, x6, x7, x8, x9⟩ := hw'; go_simp; (try with_reducible rfl)
            simp only [Act.put, List.setIfInBounds_toArray, List.set_cons_zero, List.set_cons_succ]
            refine held_take (v := ?_) 36 53 rfl rfl (by kernel_rfl) (by kernel_rfl) (by kernel_rfl) (fun _ _ _ h => h) ⟨by rfl, ?_⟩ hSh0 ?_
            rotate_left
            · intro w' hw'; obtain ⟨x0, x1, x2, x3, x4, x5, x6, x7, x8, x9⟩ := hw'; go_simp; (try with_reducible rfl)
            simp only [Act.put, List.setIfInBounds_toArray, List.set_cons_zero, List.set_cons_succ]
            refine held_take (v := ?_) 37 54 rfl rfl (by kernel_rfl) (by kernel_rfl) (by kernel_rfl) (fun _ _ _ h => h) ⟨by rfl, ?_⟩ hSh0 ?_
            rotate_left
            · intro w' hw'; obtain ⟨x0, x1, x2, x3, x4, x5, x6, x7, x8, x9⟩ := hw'; go_simp; (try with_reducible rfl)
            simp only [Act.put, List.setIfInBounds_toArray, List.set_cons_zero, List.set_cons_succ]
            refine held_take (v := ?_) 38 55 rfl rfl (by kernel_rfl) (by kernel_rfl) (by kernel_rfl) (fun _ _ _ h => h) ⟨by rfl, ?_⟩ hSh0 ?_
            rotate_left
            · intro w' hw'; obtain ⟨x0, x1, x2, x3, x4, x5, x6, x7, x8, x9⟩ := hw'; go_simp; (try with_reducible rfl)
            simp only [Act.put, List.setIfInBounds_toArray, List.set_cons_zero, List.set_cons_succ]
            refine held_take (v := ?_) 39 56 rfl rfl (by kernel_rfl) (by kernel_rfl) (by kernel_rfl) (fun _ _ _ h => h) ⟨by rfl, ?_⟩ hSh0 ?_
            rotate_left
            · intro w' hw'; obtain ⟨x0, x1, x2, x3, x4, x5, x6, x7, x8, x9⟩ := hw'; go_simp; (try with_reducible rfl)
            simp only [Act.put, List.setIfInBounds_toArray, List.set_cons_zero, List.set_cons_succ]
            refine held_take (v := ?_) 40 57 rfl rfl (by kernel_rfl) (by kernel_rfl) (by kernel_rfl) (fun _ _ _ h => h) ⟨by rfl, ?_⟩ hSh0 ?_
            rotate_left
            · intro w' hw'; obtain ⟨x0, x1, x2, x3, x4, x5, x6, x7, x8, x9⟩ := hw'; go_simp; (try with_reducible rfl)
            simp only [Act.put, List.setIfInBounds_toArray, List.set_cons_zero, List.set_cons_succ]
            refine held_take (v := ?_) 41 58 rfl rfl (by kernel_rfl) (by kernel_rfl) (by kernel_rfl) (fun _ _ _ h => h) ⟨by rfl, ?_⟩ hSh0 ?_
            rotate_left
            · intro w' hw'; obtain ⟨x0, x1, x2, x3, x4, x5, x6, x7, x8, x9⟩ := hw'; go_simp; (try with_reducible rfl)
            simp only [Act.put, List.setIfInBounds_toArray, List.set_cons_zero, List.set_cons_succ]
            refine held_take (v := ?_) 42 59 rfl rfl (by kernel_rfl) (by kernel_rfl) (by kernel_rfl) (fun _ _ _ h => h) ⟨by rfl, ?_⟩ hSh0 ?_
            rotate_left
            · intro w' hw'; obtain ⟨x0, x1, x2, x3, x4, x5, x6, x7, x8, x9⟩ := hw'; go_simp; (try with_reducible rfl)
            simp only [Act.put, List.setIfInBounds_toArray, List.set_cons_zero, List.set_cons_succ]
            refine held_take (v := ?_) 43 60 rfl rfl (by kernel_rfl) (by kernel_rfl) (by kernel_rfl) (fun _ _ _ h => h) ⟨by rfl, ?_⟩ hSh0 ?_
            rotate_left
            · intro w' hw'; obtain ⟨x0, x1, x2, x3, x4, x5, x6, x7, x8, x9⟩ := hw'; go_simp; (try with_reducible rfl)
            simp only [Act.put, List.setIfInBounds_toArray, List.set_cons_zero, List.set_cons_succ]
            refine held_take (v := ?_) 44 61 rfl rfl (by kernel_rfl) (by kernel_rfl) (by kernel_rfl) (fun _ _ _ h => h) ⟨by rfl, ?_⟩ hSh0 ?_
            rotate_left
            · intro w' hw'; obtain ⟨x0, x1, x2, x3, x4, x5, x6, x7, x8, x9⟩ := hw'; go_simp; (try with_reducible rfl)
            simp only [Act.put, List.setIfInBounds_toArray, List.set_cons_zero, List.set_cons_succ]
            refine held_take (v := ?_) 45 62 rfl rfl (by kernel_rfl) (by kernel_rfl) (by kernel_rfl) (fun _ _ _ h => h) ⟨by rfl, ?_⟩ hSh0 ?_
            rotate_left
            · intro w' hw'; obtain ⟨x0, x1, x2, x3, x4, x5, x6, x7, x8, x9⟩ := hw'; go_simp; (try with_reducible rfl)
            simp only [Act.put, List.setIfInBounds_toArray, List.set_cons_zero, List.set_cons_succ]
            refine held_take (v := ?_) 46 63 rfl rfl (by kernel_rfl) (by kernel_rfl) (by kernel_rfl) (fun _ _ _ h => h) ⟨by rfl, ?_⟩ hSh0 ?_
            rotate_left
            · intro w' hw'; obtain ⟨x0, x1, x2, x3, x4, x5, x6, x7, x8, x9⟩ := hw'; go_simp; (try with_reducible rfl)
            simp only [Act.put, List.setIfInBounds_toArray, List.set_cons_zero, List.set_cons_succ]
            refine held_take (v := ?_) 47 64 rfl rfl (by kernel_rfl) (by kernel_rfl) (by kernel_rfl) (fun _ _ _ h => h) ⟨by rfl, ?_⟩ hSh0 ?_
            rotate_left
            · intro w' hw'; obtain ⟨x0, x1, x2, x3, x4, x5, x6, x7, x8, x9⟩ := hw'; go_simp; (try with_reducible rfl)
            simp only [Act.put, List.setIfInBounds_toArray, List.set_cons_zero, List.set_cons_succ]
            refine held_take (v := ?_) 48 65 rfl rfl (by kernel_rfl) (by kernel_rfl) (by kernel_rfl) (fun _ _ _ h => h) ⟨by rfl, ?_⟩ hSh0 ?_
            rotate_left
            · intro w' hw'; obtain ⟨x0, x1, x2, x3, x4, x5, x6, x7, x8, x9⟩ := hw'; go_simp; (try with_reducible rfl)
            simp only [Act.put, List.setIfInBounds_toArray, List.set_cons_zero, List.set_cons_succ]
            refine held_take (v := ?_) 49 66 rfl rfl (by kernel_rfl) (by kernel_rfl) (by kernel_rfl) (fun _ _ _ h => h) ⟨by rfl, ?_⟩ hSh0 ?_
            rotate_left
            · intro w' hw'; obtain ⟨x0, x1, x2, x3, x4, x5, x6, x7, x8, x9⟩ := hw'; go_simp; (try with_reducible rfl)
            simp only [Act.put, List.setIfInBounds_toArray, List.set_cons_zero, List.set_cons_succ]
            refine held_take (v := ?_) 50 67 rfl rfl (by kernel_rfl) (by kernel_rfl) (by kernel_rfl) (fun _ _ _ h => h) ⟨by rfl, ?_⟩ hSh0 ?_
            rotate_left
            · intro w' hw'; obtain ⟨x0, x1, x2, x3, x4, x5, x6, x7, x8, x9⟩ := hw'; go_simp; (try with_reducible rfl)
            simp only [Act.put, List.setIfInBounds_toArray, List.set_cons_zero, List.set_cons_succ]
            refine held_skip 51 68 rfl rfl (by kernel_rfl) (by kernel_rfl) (by kernel_rfl) (fun _ _ _ h => h) (by rfl) hSh0 ?_
            simp only [Act.put, List.setIfInBounds_toArray, List.set_cons_zero, List.set_cons_succ]
            refine held_skip 52 69 rfl rfl (by kernel_rfl) (by kernel_rfl) (by kernel_rfl) (fun _ _ _ h => h) (by rfl) hSh0 ?_
            simp only [Act.put, List.setIfInBounds_toArray, List.set_cons_zero, List.set_cons_succ]
            refine held_skip 53 70 rfl rfl (by kernel_rfl) (by kernel_rfl) (by kernel_rfl) (fun _ _ _ h => h) (by rfl) hSh0 ?_
            simp only [Act.put, List.setIfInBounds_toArray, List.set_cons_zero, List.set_cons_succ]
            refine held_skip 54 71 rfl rfl (by kernel_rfl) (by kernel_rfl) (by kernel_rfl) (fun _ _ _ h => h) (by rfl) hSh0 ?_
            simp only [Act.put, List.setIfInBounds_toArray, List.set_cons_zero, List.set_cons_succ]
            refine held_skip 55 72 rfl rfl (by kernel_rfl) (by kernel_rfl) (by kernel_rfl) (fun _ _ _ h => h) (by rfl) hSh0 ?_
            simp only [Act.put, List.setIfInBounds_toArray, List.set_cons_zero, List.set_cons_succ]
            refine held_skip 56 73 rfl rfl (by kernel_rfl) (by kernel_rfl) (by kernel_rfl) (fun _ _ _ h => h) (by rfl) hSh0 ?_
            simp only [Act.put, List.setIfInBounds_toArray, List.set_cons_zero, List.set_cons_succ]
            refine held_skip 57 74 rfl rfl (by kernel_rfl) (by kernel_rfl) (by kernel_rfl) (fun _ _ _ h => h) (by rfl) hSh0 ?_
            simp only [Act.put, List.setIfInBounds_toArray, List.set_cons_zero, List.set_cons_succ]
            refine held_skip 58 75 rfl rfl (by kernel_rfl) (by kernel_rfl) (by kernel_rfl) (fun _ _ _ h => h) (by rfl) hSh0 ?_
            simp only [Act.put, List.setIfInBounds_toArray, List.set_cons_zero, List.set_cons_succ]
            refine held_skip 59 76 rfl rfl (by kernel_rfl) (by kernel_rfl) (by kernel_rfl) (fun _ _ _ h => h) (by rfl) hSh0 ?_
            simp only [Act.put, List.setIfInBounds_toArray, List.set_cons_zero, List.set_cons_succ]
            refine held_skip 60 77 rfl rfl (by kernel_rfl) (by kernel_rfl) (by kernel_rfl) (fun _ _ _ h => h) (by rfl) hSh0 ?_
            simp only [Act.put, List.setIfInBounds_toArray, List.set_cons_zero, List.set_cons_succ]
            refine held_skip 61 78 rfl rfl (by kernel_rfl) (by kernel_rfl) (by kernel_rfl) (fun _ _ _ h => h) (by rfl) hSh0 ?_
            simp only [Act.put, List.setIfInBounds_toArray, List.set_cons_zero, List.set_cons_succ]
            refine held_skip 62 79 rfl rfl (by kernel_rfl) (by kernel_rfl) (by kernel_rfl) (fun _ _ _ h => h) (by rfl) hSh0 ?_
            simp only [Act.put, List.setIfInBounds_toArray, List.set_cons_zero, List.set_cons_succ]
            refine held_take (v := ?_) 63 80 rfl rfl (by kernel_rfl) (by kernel_rfl) (by kernel_rfl) (fun _ _ _ h => h) ⟨by rfl, ?_⟩ hSh0 ?_
            rotate_left
            · intro w' hw'; obtain ⟨x0, x1, x2, x3, x4, x5, x6, x7, x8, x9⟩ := hw'; go_simp; (try with_reducible rfl)
            simp only [Act.put, List.setIfInBounds_toArray, List.set_cons_zero, List.set_cons_succ]
            refine wpAnyH_done (by kernel_rfl) ?_ _
            have HB9 := Lib.hid (hW.out.trans (hBh0.mono hW.out.size))
            clear hBh0 hSh0 hW
            go_wp2
            go_ret
            exact ⟨rfl, HB9.out⟩
          · go_wp2
            refine held_begin (fun w' : World => w'.cell? ⟨b, off + k * 5, none⟩ = some (.int .i64 xi) ∧ w'.cell? ⟨b, off + k * 5 + 1, none⟩ = some (.int .i64 xq) ∧ w'.cell? ⟨b, off + k * 5 + 2, none⟩ = some (.int .i64 xu) ∧ w'.cell? ⟨b, off + k * 5 + 3, none⟩ = some (.bool false) ∧ w'.cell? ⟨b, off + k * 5 + 4, none⟩ = some (.slice xA xm xc) ∧ w'.cell? ⟨b', off' + k * 5, none⟩ = some (.int .i64 xi) ∧ w'.cell? ⟨b', off' + k * 5 + 1, none⟩ = some (.int .i64 xq) ∧ w'.cell? ⟨b', off' + k * 5 + 2, none⟩ = some (.int .i64 xu) ∧ w'.cell? ⟨b', off' + k * 5 + 3, none⟩ = some (.bool true) ∧ w'.cell? ⟨b', off' + k * 5 + 4, none⟩ = some (.slice yA ym yc)) (by kernel_rfl) ?_
            have hBh0 : Below wr.heap.size wr wr.drew := (Below.refl _ _).drew
            have hSh0 : (fun w' : World => w'.cell? ⟨b, off + k * 5, none⟩ = some (.int .i64 xi) ∧ w'.cell? ⟨b, off + k * 5 + 1, none⟩ = some (.int .i64 xq) ∧ w'.cell? ⟨b, off + k * 5 + 2, none⟩ = some (.int .i64 xu) ∧ w'.cell? ⟨b, off + k * 5 + 3, none⟩ = some (.bool false) ∧ w'.cell? ⟨b, off + k * 5 + 4, none⟩ = some (.slice xA xm xc) ∧ w'.cell? ⟨b', off' + k * 5, none⟩ = some (.int .i64 xi) ∧ w'.cell? ⟨b', off' + k * 5 + 1, none⟩ = some (.int .i64 xq) ∧ w'.cell? ⟨b', off' + k * 5 + 2, none⟩ = some (.int .i64 xu) ∧ w'.cell? ⟨b', off' + k * 5 + 3, none⟩ = some (.bool true) ∧ w'.cell? ⟨b', off' + k * 5 + 4, none⟩ = some (.slice yA ym yc)) wr.drew := ⟨f0, f1, f2, f3, f4, g0, g1, g2, g3, g4⟩
            refine held_take (v := ?_) 0 17 rfl rfl (by kernel_rfl) (by kernel_rfl) (by kernel_rfl) (fun _ _ _ h => h) ⟨by rfl, ?_⟩ hSh0 ?_
            rotate_left
            · intro w' hw'; obtain ⟨x0, x1, x2, x3, x4, x5, x6, x7, x8, x9⟩ := hw'; go_simp; (try with_reducible rfl)
            simp only [Act.put, List.setIfInBounds_toArray, List.set_cons_zero, List.set_cons_succ]
            refine held_take (v := ?_) 1 18 rfl rfl (by kernel_rfl) (by kernel_rfl) (by kernel_rfl) (fun _ _ _ h => h) ⟨by rfl, ?_⟩ hSh0 ?_
            rotate_left
            · intro w' hw'; obtain ⟨x0, x1, x2, x3, x4, x5, x6, x7, x8, x9⟩ := hw'; go_simp; (try with_reducible rfl)
            simp only [Act.put, List.setIfInBounds_toArray, List.set_cons_zero, List.set_cons_succ]
            refine held_take (v := ?_) 2 19 rfl rfl (by kernel_rfl) (by kernel_rfl) (by kernel_rfl) (fun _ _ _ h => h) ⟨by rfl, ?_⟩ hSh0 ?_
            rotate_left
            · intro w' hw'; obtain ⟨x0, x1, x2, x3, x4, x5, x6, x7, x8, x9⟩ := hw'; go_simp; (try with_reducible rfl)
            simp only [Act.put, List.setIfInBounds_toArray, List.set_cons_zero, List.set_cons_succ]
            refine held_take (v := ?_) 3 20 rfl rfl (by kernel_rfl) (by kernel_rfl) (by kernel_rfl) (fun _ _ _ h => h) ⟨by rfl, ?_⟩ hSh0 ?_
            rotate_left
            · intro w' hw'; obtain ⟨x0, x1, x2, x3, x4, x5, x6, x7, x8, x9⟩ := hw'; go_simp; (try with_reducible rfl)
            simp only [Act.put, List.setIfInBounds_toArray, List.set_cons_zero, List.set_cons_succ]
            refine held_take (v := ?_) 4 21 rfl rfl (by kernel_rfl) (by kernel_rfl) (by kernel_rfl) (fun _ _ _ h => h) ⟨by rfl, ?_⟩ hSh0 ?_
            rotate_left
            · intro w' hw'; obtain ⟨x0, x1, x2, x3, x4, x5, x6, x7, x8, x9⟩ := hw'; go_simp; (try with_reducible rfl)
            simp only [Act.put, List.setIfInBounds_toArray, List.set_cons_zero, List.set_cons_succ]
            refine held_take (v := ?_) 5 22 rfl rfl (by kernel_rfl) (by kernel_rfl) (by kernel_rfl) (fun _ _ _ h => h) ⟨by rfl, ?_⟩ hSh0 ?_
            rotate_left
            · intro w' hw'; obtain ⟨x0, x1, x2, x3, x4, x5, x6, x7, x8, x9⟩ := hw'; go_simp; (try with_reducible rfl)
            simp only [Act.put, List.setIfInBounds_toArray, List.set_cons_zero, List.set_cons_succ]
            refine held_take (v := ?_) 6 23 rfl rfl (by kernel_rfl) (by kernel_rfl) (by kernel_rfl) (fun _ _ _ h => h) ⟨by rfl, ?_⟩ hSh0 ?_
            rotate_left
            · intro w' hw'; obtain ⟨x0, x1, x2, x3, x4, x5, x6, x7, x8, x9⟩ := hw'; go_simp; (try with_reducible rfl)
            simp only [Act.put, List.setIfInBounds_toArray, List.set_cons_zero, List.set_cons_succ]
            refine held_take (v := ?_) 7 24 rfl rfl (by kernel_rfl) (by kernel_rfl) (by kernel_rfl) (fun _ _ _ h => h) ⟨by rfl, ?_⟩ hSh0 ?_
            rotate_left
            · intro w' hw'; obtain ⟨x0, x1, x2, x3, x4, x5, x6, x7, x8, x9⟩ := hw'; go_simp; (try with_reducible rfl)
            simp only [Act.put, List.setIfInBounds_toArray, List.set_cons_zero, List.set_cons_succ]
            refine held_take (v := ?_) 8 25 rfl rfl (by kernel_rfl) (by kernel_rfl) (by kernel_rfl) (fun _ _ _ h => h) ⟨by rfl, ?_⟩ hSh0 ?_
            rotate_left
            · intro w' hw'; obtain ⟨x0, x1, x2, x3, x4, x5, x6, x7, x8, x9⟩ := hw'; go_simp; (try with_reducible rfl)
            simp only [Act.put, List.setIfInBounds_toArray, List.set_cons_zero, List.set_cons_succ]
            refine held_take (v := ?_) 9 26 rfl rfl (by kernel_rfl) (by kernel_rfl) (by kernel_rfl) (fun _ _ _ h => h) ⟨by rfl, ?_⟩ hSh0 ?_
            rotate_left
            · intro w' hw'; obtain ⟨x0, x1, x2, x3, x4, x5, x6, x7, x8, x9⟩ := hw'; go_simp; (try with_reducible rfl)
            simp only [Act.put, List.setIfInBounds_toArray, List.set_cons_zero, List.set_cons_succ]
            refine held_take (v := ?_) 10 27 rfl rfl (by kernel_rfl) (by kernel_rfl) (by kernel_rfl) (fun _ _ _ h => h) ⟨by rfl, ?_⟩ hSh0 ?_
            rotate_left
            · intro w' hw'; obtain ⟨x0, x1, x2, x3, x4, x5, x6, x7, x8, x9⟩ := hw'; go_simp; (try with_reducible rfl)
            simp only [Act.put, List.setIfInBounds_toArray, List.set_cons_zero, List.set_cons_succ]
            refine held_take (v := ?_) 11 28 rfl rfl (by kernel_rfl) (by kernel_rfl) (by kernel_rfl) (fun _ _ _ h => h) ⟨by rfl, ?_⟩ hSh0 ?_
            rotate_left
            · intro w' hw'; obtain ⟨x0, x1, x2, x3, x4, x5, x6, x7, x8, x9⟩ := hw'; go_simp; (try with_reducible rfl)
            simp only [Act.put, List.setIfInBounds_toArray, List.set_cons_zero, List.set_cons_succ]
            refine held_take (v := ?_) 12 29 rfl rfl (by kernel_rfl) (by kernel_rfl) (by kernel_rfl) (fun _ _ _ h => h) ⟨by rfl, ?_⟩ hSh0 ?_
            rotate_left
            · intro w' hw'; obtain ⟨x0, x1, x2, x3, x4, x5, x6, x7, x8, x9⟩ := hw'; go_simp; (try with_reducible rfl)
            simp only [Act.put, List.setIfInBounds_toArray, List.set_cons_zero, List.set_cons_succ]
            refine held_take (v := ?_) 13 30 rfl rfl (by kernel_rfl) (by kernel_rfl) (by kernel_rfl) (fun _ _ _ h => h) ⟨by rfl, ?_⟩ hSh0 ?_
            rotate_left
            · intro w' hw'; obtain ⟨x0, x1, x2, x3, x4, x5, x6, x7, x8, x9⟩ := hw'; go_simp; (try with_reducible rfl)
            simp only [Act.put, List.setIfInBounds_toArray, List.set_cons_zero, List.set_cons_succ]
            refine held_take (v := ?_) 14 31 rfl rfl (by kernel_rfl) (by kernel_rfl) (by kernel_rfl) (fun _ _ _ h => h) ⟨by rfl, ?_⟩ hSh0 ?_
            rotate_left
            · intro w' hw'; obtain ⟨x0, x1, x2, x3, x4, x5, x6, x7, x8, x9⟩ := hw'; go_simp; (try with_reducible rfl)
            simp only [Act.put, List.setIfInBounds_toArray, List.set_cons_zero, List.set_cons_succ]
            refine held_take (v := ?_) 15 32 rfl rfl (by kernel_rfl) (by kernel_rfl) (by kernel_rfl) (fun _ _ _ h => h) ⟨by rfl, ?_⟩ hSh0 ?_
            rotate_left
            · intro w' hw'; obtain ⟨x0, x1, x2, x3, x4, x5, x6, x7, x8, x9⟩ := hw'; go_simp; (try with_reducible rfl)
            simp only [Act.put, List.setIfInBounds_toArray, List.set_cons_zero, List.set_cons_succ]
            refine held_take (v := ?_) 16 33 rfl rfl (by kernel_rfl) (by kernel_rfl) (by kernel_rfl) (fun _ _ _ h => h) ⟨by rfl, ?_⟩ hSh0 ?_
            rotate_left
            · intro w' hw'; obtain ⟨x0, x1, x2, x3, x4, x5, x6, x7, x8, x9⟩ := hw'; go_simp; (try with_reducible rfl)
            simp only [Act.put, List.setIfInBounds_toArray, List.set_cons_zero, List.set_cons_succ]
            refine held_take (v := ?_) 17 34 rfl rfl (by kernel_rfl) (by kernel_rfl) (by kernel_rfl) (fun _ _ _ h => h) ⟨by rfl, ?_⟩ hSh0 ?_
            rotate_left
            · intro w' hw'; obtain ⟨x0, x1, x2, x3, x4, x5, x6, x7, x8, x9⟩ := hw'; go_simp; (try with_reducible rfl)
            simp only [Act.put, List.setIfInBounds_toArray, List.set_cons_zero, List.set_cons_succ]
            refine held_take (v := ?_) 18 35 rfl rfl (by kernel_rfl) (by kernel_rfl) (by kernel_rfl) (fun _ _ _ h => h) ⟨by rfl, ?_⟩ hSh0 ?_
            rotate_left
            · intro w' hw'; obtain ⟨x0, x1, x2, x3, x4, x5, x6, x7, x8, x9⟩ := hw'; go_simp; (try with_reducible rfl)
            simp only [Act.put, List.setIfInBounds_toArray, List.set_cons_zero, List.set_cons_succ]
            refine held_take (v := ?_) 19 36 rfl rfl (by kernel_rfl) (by kernel_rfl) (by kernel_rfl) (fun _ _ _ h => h) ⟨by rfl, ?_⟩ hSh0 ?_
            rotate_left
            · intro w' hw'; obtain ⟨x0, x1, x2, x3, x4, x5, x6, x7, x8, x9⟩ := hw'; go_simp; (try with_reducible rfl)
            simp only [Act.put, List.setIfInBounds_toArray, List.set_cons_zero, List.set_cons_succ]
            refine held_take (v := ?_) 20 37 rfl rfl (by kernel_rfl) (by kernel_rfl) (by kernel_rfl) (fun _ _ _ h => h) ⟨by rfl, ?_⟩ hSh0 ?_
            rotate_left
            · intro w' hw'; obtain ⟨x0, x1, x2, x3, x4, x5, x6, x7, x8, x9⟩ := hw'; go_simp; (try with_reducible rfl)
            simp only [Act.put, List.setIfInBounds_toArray, List.set_cons_zero, List.set_cons_succ]
            refine held_take (v := ?_) 21 38 rfl rfl (by kernel_rfl) (by kernel_rfl) (by kernel_rfl) (fun _ _ _ h => h) ⟨by rfl, ?_⟩ hSh0 ?_
            rotate_left
            · intro w' hw'; obtain ⟨x0, x1, x2, x3, x4, x5, x6, x7, x8, x9⟩ := hw'; go_simp; (try with_reducible rfl)
            simp only [Act.put, List.setIfInBounds_toArray, List.set_cons_zero, List.set_cons_succ]
            refine held_take (v := ?_) 22 39 rfl rfl (by kernel_rfl) (by kernel_rfl) (by kernel_rfl) (fun _ _ _ h => h) ⟨by rfl, ?_⟩ hSh0 ?_
            rotate_left
            · intro w' hw'; obtain ⟨x0, x1, x2, x3, x4, x5, x6, x7, x8, x9⟩ := hw'; go_simp; (try with_reducible rfl)
            simp only [Act.put, List.setIfInBounds_toArray, List.set_cons_zero, List.set_cons_succ]
            refine held_take (v := ?_) 23 40 rfl rfl (by kernel_rfl) (by kernel_rfl) (by kernel_rfl) (fun _ _ _ h => h) ⟨by rfl, ?_⟩ hSh0 ?_
            rotate_left
            · intro w' hw'; obtain ⟨x0, x1, x2, x3, x4, x5, x6, x7, x8, x9⟩ := hw'; go_simp; (try with_reducible rfl)
            simp only [Act.put, List.setIfInBounds_toArray, List.set_cons_zero, List.set_cons_succ]
            refine held_take (v := ?_) 24 41 rfl rfl (by kernel_rfl) (by kernel_rfl) (by kernel_rfl) (fun _ _ _ h => h) ⟨by rfl, ?_⟩ hSh0 ?_
            rotate_left
            · intro w' hw'; obtain ⟨x0, x1, x2, x3, x4, x5, x6, x7, x8, x9⟩ := hw'; go_simp; (try with_reducible rfl)
            simp only [Act.put, List.setIfInBounds_toArray, List.set_cons_zero, List.set_cons_succ]
            refine held_take (v := ?_) 25 42 rfl rfl (by kernel_rfl) (by kernel_rfl) (by kernel_rfl) (fun _ _ _ h => h) ⟨by rfl, ?_⟩ hSh0 ?_
            rotate_left
            · intro w' hw'; obtain ⟨x0, x1, x2, x3, x4, x5, x6, x7, x8, x9⟩ := hw'; go_simp; (try with_reducible rfl)
            simp only [Act.put, List.setIfInBounds_toArray, List.set_cons_zero, List.set_cons_succ]
            refine held_take (v := ?_) 26 43 rfl rfl (by kernel_rfl) (by kernel_rfl) (by kernel_rfl) (fun _ _ _ h => h) ⟨by rfl, ?_⟩ hSh0 ?_
            rotate_left
            · intro w' hw'; obtain ⟨x0, x1, x2, x3, x4, x5, x6, x7, x8, x9⟩ := hw'; go_simp; (try with_reducible rfl)
            simp only [Act.put, List.setIfInBounds_toArray, List.set_cons_zero, List.set_cons_succ]
            refine held_take (v := ?_) 27 44 rfl rfl (by kernel_rfl) (by kernel_rfl) (by kernel_rfl) (fun _ _ _ h => h) ⟨by rfl, ?_⟩ hSh0 ?_
            rotate_left
            · intro w' hw'; obtain ⟨x0, x1, x2, x3, x4, x5, x6, x7, x8, x9⟩ := hw'; go_simp; (try with_reducible rfl)
            simp only [Act.put, List.setIfInBounds_toArray, List.set_cons_zero, List.set_cons_succ]
            refine held_take (v := ?_) 28 45 rfl rfl (by kernel_rfl) (by kernel_rfl) (by kernel_rfl) (fun _ _ _ h => h) ⟨by rfl, ?_⟩ hSh0 ?_
            rotate_left
            · intro w' hw'; obtain ⟨x0, x1, x2, x3, x4, x5, x6, x7, x8, x9⟩ := hw'; go_simp; (try with_reducible rfl)
            simp only [Act.put, List.setIfInBounds_toArray, List.set_cons_zero, List.set_cons_succ]
            refine held_take (v := ?_) 29 46 rfl rfl (by kernel_rfl) (by kernel_rfl) (by kernel_rfl) (fun _ _ _ h => h) ⟨by rfl, ?_⟩ hSh0 ?_
            rotate_left
            · intro w' hw'; obtain ⟨x0, x1, x2, x3, x4, x5, x6, x7, x8, x9⟩ := hw'; go_simp; (try with_reducible rfl)
            simp only [Act.put, List.setIfInBounds_toArray, List.set_cons_zero, List.set_cons_succ]
            refine held_take (v := ?_) 30 47 rfl rfl (by kernel_rfl) (by kernel_rfl) (by kernel_rfl) (fun _ _ _ h => h) ⟨by rfl, ?_⟩ hSh0 ?_
            rotate_left
            · intro w' hw'; obtain ⟨x0, x1, x2, x3, x4, x5, x6, x7, x8, x9⟩ := hw'; go_simp; (try with_reducible rfl)
            simp only [Act.put, List.setIfInBounds_toArray, List.set_cons_zero, List.set_cons_succ]
            refine held_take (v := ?_) 31 48 rfl rfl (by kernel_rfl) (by kernel_rfl) (by kernel_rfl) (fun _ _ _ h => h) ⟨by rfl, ?_⟩ hSh0 ?_
            rotate_left
            · intro w' hw'; obtain ⟨x0, x1, x2, x3, x4, x5, x6, x7, x8, x9⟩ := hw'; go_simp; (try with_reducible rfl)
            simp only [Act.put, List.setIfInBounds_toArray, List.set_cons_zero, List.set_cons_succ]
            refine held_take (v := ?_) 32 49 rfl rfl (by kernel_rfl) (by kernel_rfl) (by kernel_rfl) (fun _ _ _ h => h) ⟨by rfl, ?_⟩ hSh0 ?_
            rotate_left
            · intro w' hw'; obtain ⟨x0, x1, x2, x3, x4, x5, x6, x7, x8, x9⟩ := hw'; go_simp; (try with_reducible rfl)
            simp only [Act.put, List.setIfInBounds_toArray, List.set_cons_zero, List.set_cons_succ]
            refine held_take (v := ?_) 33 50 rfl rfl (by kernel_rfl) (by kernel_rfl) (by kernel_rfl) (fun _ _ _ h => h) ⟨by rfl, ?_⟩ hSh0 ?_
            rotate_left
            · intro w' hw'; obtain ⟨x0, x1, x2, x3, x4, x5, x6, x7, x8, x9⟩ := hw'; go_simp; (try with_reducible rfl)
            simp only [Act.put, List.setIfInBounds_toArray, List.set_cons_zero, List.set_cons_succ]
            refine held_take (v := ?_) 34 51 rfl rfl (by kernel_rfl) (by kernel_rfl) (by kernel_rfl) (fun _ _ _ h => h) ⟨by rfl, ?_⟩ hSh0 ?_
            rotate_left
            · intro w' hw'; obtain ⟨x0, x1, x2, x3, x4, x5, x6, x7, x8, x9⟩ := hw'; go_simp; (try with_reducible rfl)
            simp only [Act.put, List.setIfInBounds_toArray, List.set_cons_zero, List.set_cons_succ]
            refine held_take (v := ?_) 35 52 rfl rfl (by kernel_rfl) (by kernel_rfl) (by kernel_rfl) (fun _ _ _ h => h) ⟨by rfl, ?_⟩ hSh0 ?_
            rotate_left
            · intro w' hw'; obtain ⟨x0, x1, x2, x3, x4, x5, x6, x7, x8, x9⟩ := hw'; go_simp; (try with_reducible rfl)
            simp only [Act.put, List.setIfInBounds_toArray, List.set_cons_zero, List.set_cons_succ]
            refine held_take (v := ?_) 36 53 rfl rfl (by kernel_rfl) (by kernel_rfl) (by kernel_rfl) (fun _ _ _ h => h) ⟨by rfl, ?_⟩ hSh0 ?_
            rotate_left
            · intro w' hw'; obtain ⟨x0, x1, x2, x3, x4, x5, x6, x7, x8, x9⟩ := hw'; go_simp; (try with_reducible rfl)
            simp only [Act.put, List.setIfInBounds_toArray, List.set_cons_zero, List.set_cons_succ]
            refine held_take (v := ?_) 37 54 rfl rfl (by kernel_rfl) (by kernel_rfl) (by kernel_rfl) (fun _ _ _ h => h) ⟨by rfl, ?_⟩ hSh0 ?_
            rotate_left
            · intro w' hw'; obtain ⟨x0, x1, x2, x3, x4, x5, x6, x7, x8, x9⟩ := hw'; go_simp; (try with_reducible rfl)
            simp only [Act.put, List.setIfInBounds_toArray, List.set_cons_zero, List.set_cons_succ]
            refine held_take (v := ?_) 38 55 rfl rfl (by kernel_rfl) (by kernel_rfl) (by kernel_rfl) (fun _ _ _ h => h) ⟨by rfl, ?_⟩ hSh0 ?_
            rotate_left
            · intro w' hw'; obtain ⟨x0, x1, x2, x3, x4, x5, x6, x7, x8, x9⟩ := hw'; go_simp; (try with_reducible rfl)
            simp only [Act.put, List.setIfInBounds_toArray, List.set_cons_zero, List.set_cons_succ]
            refine held_take (v := ?_) 39 56 rfl rfl (by kernel_rfl) (by kernel_rfl) (by kernel_rfl) (fun _ _ _ h => h) ⟨by rfl, ?_⟩ hSh0 ?_
            rotate_left
            · intro w' hw'; obtain ⟨x0, x1, x2, x3, x4, x5, x6, x7, x8, x9⟩ := hw'; go_simp; (try with_reducible rfl)
            simp only [Act.put, List.setIfInBounds_toArray, List.set_cons_zero, List.set_cons_succ]
            refine held_take (v := ?_) 40 57 rfl rfl (by kernel_rfl) (by kernel_rfl) (by kernel_rfl) (fun _ _ _ h => h) ⟨by rfl, ?_⟩ hSh0 ?_
            rotate_left
            · intro w' hw'; obtain ⟨x0, x1, x2, x3, x4, x5, x6, x7, x8, x9⟩ := hw'; go_simp; (try with_reducible rfl)
            simp only [Act.put, List.setIfInBounds_toArray, List.set_cons_zero, List.set_cons_succ]
            refine held_take (v := ?_) 41 58 rfl rfl (by kernel_rfl) (by kernel_rfl) (by kernel_rfl) (fun _ _ _ h => h) ⟨by rfl, ?_⟩ hSh0 ?_
            rotate_left
            · intro w' hw'; obtain ⟨x0, x1, x2, x3, x4, x5, x6, x7, x8, x9⟩ := hw'; go_simp; (try with_reducible rfl)
            simp only [Act.put, List.setIfInBounds_toArray, List.set_cons_zero, List.set_cons_succ]
            refine held_take (v := ?_) 42 59 rfl rfl (by kernel_rfl) (by kernel_rfl) (by kernel_rfl) (fun _ _ _ h => h) ⟨by rfl, ?_⟩ hSh0 ?_
            rotate_left
            · intro w' hw'; obtain ⟨x0, x1, x2, x3, x4, x5, x6, x7, x8, x9⟩ := hw'; go_simp; (try with_reducible rfl)
            simp only [Act.put, List.setIfInBounds_toArray, List.set_cons_zero, List.set_cons_succ]
            refine held_take (v := ?_) 43 60 rfl rfl (by kernel_rfl) (by kernel_rfl) (by kernel_rfl) (fun _ _ _ h => h) ⟨by rfl, ?_⟩ hSh0 ?_
            rotate_left
            · intro w' hw'; obtain ⟨x0, x1, x2, x3, x4, x5, x6, x7, x8, x9⟩ := hw'; go_simp; (try with_reducible rfl)
            simp only [Act.put, List.setIfInBounds_toArray, List.set_cons_zero, List.set_cons_succ]
            refine held_take (v := ?_) 44 61 rfl rfl (by kernel_rfl) (by kernel_rfl) (by kernel_rfl) (fun _ _ _ h => h) ⟨by rfl, ?_⟩ hSh0 ?_
            rotate_left
            · intro w' hw'; obtain ⟨x0, x1, x2, x3, x4, x5, x6, x7, x8, x9⟩ := hw'; go_simp; (try with_reducible rfl)
            simp only [Act.put, List.setIfInBounds_toArray, List.set_cons_zero, List.set_cons_succ]
            refine held_take (v := ?_) 45 62 rfl rfl (by kernel_rfl) (by kernel_rfl) (by kernel_rfl) (fun _ _ _ h => h) ⟨by rfl, ?_⟩ hSh0 ?_
            rotate_left
            · intro w' hw'; obtain ⟨x0, x1, x2, x3, x4, x5, x6, x7, x8, x9⟩ := hw'; go_simp; (try with_reducible rfl)
            simp only [Act.put, List.setIfInBounds_toArray, List.set_cons_zero, List.set_cons_succ]
            refine held_take (v := ?_) 46 63 rfl rfl (by kernel_rfl) (by kernel_rfl) (by kernel_rfl) (fun _ _ _ h => h) ⟨by rfl, ?_⟩ hSh0 ?_
            rotate_left
            · intro w' hw'; obtain ⟨x0, x1, x2, x3, x4, x5, x6, x7, x8, x9⟩ := hw'; go_simp; (try with_reducible rfl)
            simp only [Act.put, List.setIfInBounds_toArray, List.set_cons_zero, List.set_cons_succ]
            refine held_take (v := ?_) 47 64 rfl rfl (by kernel_rfl) (by kernel_rfl) (by kernel_rfl) (fun _ _ _ h => h) ⟨by rfl, ?_⟩ hSh0 ?_
            rotate_left
            · intro w' hw'; obtain ⟨x0, x1, x2, x3, x4, x5, x6, x7, x8, x9⟩ := hw'; go_simp; (try with_reducible rfl)
            simp only [Act.put, List.setIfInBounds_toArray, List.set_cons_zero, List.set_cons_succ]
            refine held_take (v := ?_) 48 65 rfl rfl (by kernel_rfl) (by kernel_rfl) (by kernel_rfl) (fun _ _ _ h => h) ⟨by rfl, ?_⟩ hSh0 ?_
            rotate_left
            · intro w' hw'; obtain ⟨x0, x1, x2, x3, x4, x5, x6, x7, x8, x9⟩ := hw'; go_simp; (try with_reducible rfl)
            simp only [Act.put, List.setIfInBounds_toArray, List.set_cons_zero, List.set_cons_succ]
            refine held_take (v := ?_) 49 66 rfl rfl (by kernel_rfl) (by kernel_rfl) (by kernel_rfl) (fun _ _ _ h => h) ⟨by rfl, ?_⟩ hSh0 ?_
            rotate_left
            · intro w' hw'; obtain ⟨x0, x1, x2, x3, x4, x5, x6, x7, x8, x9⟩ := hw'; go_simp; (try with_reducible rfl)
            simp only [Act.put, List.setIfInBounds_toArray, List.set_cons_zero, List.set_cons_succ]
            refine held_take (v := ?_) 50 67 rfl rfl (by kernel_rfl) (by kernel_rfl) (by kernel_rfl) (fun _ _ _ h => h) ⟨by rfl, ?_⟩ hSh0 ?_
            rotate_left
            · intro w' hw'; obtain ⟨x0, x1, x2, x3, x4, x5, x6, x7, x8, x9⟩ := hw'; go_simp; (try with_reducible rfl)
            simp only [Act.put, List.setIfInBounds_toArray, List.set_cons_zero, List.set_cons_succ]
            refine held_skip 51 68 rfl rfl (by kernel_rfl) (by kernel_rfl) (by kernel_rfl) (fun _ _ _ h => h) (by rfl) hSh0 ?_
            simp only [Act.put, List.setIfInBounds_toArray, List.set_cons_zero, List.set_cons_succ]
            refine held_skip 52 69 rfl rfl (by kernel_rfl) (by kernel_rfl) (by kernel_rfl) (fun _ _ _ h => h) (by rfl) hSh0 ?_
            simp only [Act.put, List.setIfInBounds_toArray, List.set_cons_zero, List.set_cons_succ]
            refine held_skip 53 70 rfl rfl (by kernel_rfl) (by kernel_rfl) (by kernel_rfl) (fun _ _ _ h => h) (by rfl) hSh0 ?_
            simp only [Act.put, List.setIfInBounds_toArray, List.set_cons_zero, List.set_cons_succ]
            refine held_skip 54 71 rfl rfl (by kernel_rfl) (by kernel_rfl) (by kernel_rfl) (fun _ _ _ h => h) (by rfl) hSh0 ?_
            simp only [Act.put, List.setIfInBounds_toArray, List.set_cons_zero, List.set_cons_succ]
            refine held_skip 55 72 rfl rfl (by kernel_rfl) (by kernel_rfl) (by kernel_rfl) (fun _ _ _ h => h) (by rfl) hSh0 ?_
            simp only [Act.put, List.setIfInBounds_toArray, List.set_cons_zero, List.set_cons_succ]
            refine held_skip 56 73 rfl rfl (by kernel_rfl) (by kernel_rfl) (by kernel_rfl) (fun _ _ _ h => h) (by rfl) hSh0 ?_
            simp only [Act.put, List.setIfInBounds_toArray, List.set_cons_zero, List.set_cons_succ]
            refine held_skip 57 74 rfl rfl (by kernel_rfl) (by kernel_rfl) (by kernel_rfl) (fun _ _ _ h => h) (by rfl) hSh0 ?_
            simp only [Act.put, List.setIfInBounds_toArray, List.set_cons_zero, List.set_cons_succ]
            refine held_skip 58 75 rfl rfl (by kernel_rfl) (by kernel_rfl) (by kernel_rfl) (fun _ _ _ h => h) (by rfl) hSh0 ?_
            simp only [Act.put, List.setIfInBounds_toArray, List.set_cons_zero, List.set_cons_succ]
            refine held_skip 59 76 rfl rfl (by kernel_rfl) (by kernel_rfl) (by kernel_rfl) (fun _ _ _ h => h) (by rfl) hSh0 ?_
            simp only [Act.put, List.setIfInBounds_toArray, List.set_cons_zero, List.set_cons_succ]
            refine held_skip 60 77 rfl rfl (by kernel_rfl) (by kernel_rfl) (by kernel_rfl) (fun _ _ _ h => h) (by rfl) hSh0 ?_
            simp only [Act.put, List.setIfInBounds_toArray, List.set_cons_zero, List.set_cons_succ]
            refine held_skip 61 78 rfl rfl (by kernel_rfl) (by kernel_rfl) (by kernel_rfl) (fun _ _ _ h => h) (by rfl) hSh0 ?_
            simp only [Act.put, List.setIfInBounds_toArray, List.set_cons_zero, List.set_cons_succ]
            refine held_skip 62 79 rfl rfl (by kernel_rfl) (by kernel_rfl) (by kernel_rfl) (fun _ _ _ h => h) (by rfl) hSh0 ?_
            simp only [Act.put, List.setIfInBounds_toArray, List.set_cons_zero, List.set_cons_succ]
            refine held_take (v := ?_) 63 80 rfl rfl (by kernel_rfl) (by kernel_rfl) (by kernel_rfl) (fun _ _ _ h => h) ⟨by rfl, ?_⟩ hSh0 ?_
            rotate_left
            · intro w' hw'; obtain ⟨x0, x1, x2, x3, x4, x5, x6, x7, x8, x9⟩ := hw'; go_simp; (try with_reducible rfl)
            simp only [Act.put, List.setIfInBounds_toArray, List.set_cons_zero, List.set_cons_succ]
            refine wpAnyH_done (by kernel_rfl) ?_ _
            have HB9 := Lib.hid (hW.out.trans (hBh0.mono hW.out.size))
            clear hBh0 hSh0 hW
            go_wp2
            go_ret
            exact ⟨rfl, HB9.out⟩
        subst cr
        have n3 : (xr != xr) = false := by simp
        go_wp2
        refine held_begin (fun w' : World => w'.cell? ⟨b, off + k * 5, none⟩ = some (.int .i64 xi) ∧ w'.cell? ⟨b, off + k * 5 + 1, none⟩ = some (.int .i64 xq) ∧ w'.cell? ⟨b, off + k * 5 + 2, none⟩ = some (.int .i64 xu) ∧ w'.cell? ⟨b, off + k * 5 + 3, none⟩ = some (.bool xr) ∧ w'.cell? ⟨b, off + k * 5 + 4, none⟩ = some (.slice xA xm xc) ∧ w'.cell? ⟨b', off' + k * 5, none⟩ = some (.int .i64 xi) ∧ w'.cell? ⟨b', off' + k * 5 + 1, none⟩ = some (.int .i64 xq) ∧ w'.cell? ⟨b', off' + k * 5 + 2, none⟩ = some (.int .i64 xu) ∧ w'.cell? ⟨b', off' + k * 5 + 3, none⟩ = some (.bool xr) ∧ w'.cell? ⟨b', off' + k * 5 + 4, none⟩ = some (.slice yA ym yc)) (by kernel_rfl) ?_
        have hBh0 : Below wr.heap.size wr wr.drew := (Below.refl _ _).drew
        have hSh0 : (fun w' : World => w'.cell? ⟨b, off + k * 5, none⟩ = some (.int .i64 xi) ∧ w'.cell? ⟨b, off + k * 5 + 1, none⟩ = some (.int .i64 xq) ∧ w'.cell? ⟨b, off + k * 5 + 2, none⟩ = some (.int .i64 xu) ∧ w'.cell? ⟨b, off + k * 5 + 3, none⟩ = some (.bool xr) ∧ w'.cell? ⟨b, off + k * 5 + 4, none⟩ = some (.slice xA xm xc) ∧ w'.cell? ⟨b', off' + k * 5, none⟩ = some (.int .i64 xi) ∧ w'.cell? ⟨b', off' + k * 5 + 1, none⟩ = some (.int .i64 xq) ∧ w'.cell? ⟨b', off' + k * 5 + 2, none⟩ = some (.int .i64 xu) ∧ w'.cell? ⟨b', off' + k * 5 + 3, none⟩ = some (.bool xr) ∧ w'.cell? ⟨b', off' + k * 5 + 4, none⟩ = some (.slice yA ym yc)) wr.drew := ⟨f0, f1, f2, f3, f4, g0, g1, g2, g3, g4⟩
        refine held_take (v := ?_) 0 17 rfl rfl (by kernel_rfl) (by kernel_rfl) (by kernel_rfl) (fun _ _ _ h => h) ⟨by rfl, ?_⟩ hSh0 ?_
        rotate_left
        · intro w' hw'; obtain ⟨x0, x1, x2, x3, x4, x5, x6, x7, x8, x9⟩ := hw'; go_simp; (try with_reducible rfl)
        simp only [Act.put, List.setIfInBounds_toArray, List.set_cons_zero, List.set_cons_succ]
        refine held_take (v := ?_) 1 18 rfl rfl (by kernel_rfl) (by kernel_rfl) (by kernel_rfl) (fun _ _ _ h => h) ⟨by rfl, ?_⟩ hSh0 ?_
        rotate_left
        · intro w' hw'; obtain ⟨x0, x1, x2, x3, x4, x5, x6, x7, x8, x9⟩ := hw'; go_simp; (try with_reducible rfl)
        simp only [Act.put, List.setIfInBounds_toArray, List.set_cons_zero, List.set_cons_succ]
        refine held_take (v := ?_) 2 19 rfl rfl (by kernel_rfl) (by kernel_rfl) (by kernel_rfl) (fun _ _ _ h => h) ⟨by rfl, ?_⟩ hSh0 ?_
        rotate_left
        · intro w' hw'; obtain ⟨x0, x1, x2, x3, x4, x5, x6, x7, x8, x9⟩ := hw'; go_simp; (try with_reducible rfl)
        simp only [Act.put, List.setIfInBounds_toArray, List.set_cons_zero, List.set_cons_succ]
        refine held_take (v := ?_) 3 20 rfl rfl (by kernel_rfl) (by kernel_rfl) (by kernel_rfl) (fun _ _ _ h => h) ⟨by rfl, ?_⟩ hSh0 ?_
        rotate_left
        · intro w' hw'; obtain ⟨x0, x1, x2, x3, x4, x5, x6, x7, x8, x9⟩ := hw'; go_simp; (try with_reducible rfl)
        simp only [Act.put, List.setIfInBounds_toArray, List.set_cons_zero, List.set_cons_succ]
        refine held_take (v := ?_) 4 21 rfl rfl (by kernel_rfl) (by kernel_rfl) (by kernel_rfl) (fun _ _ _ h => h) ⟨by rfl, ?_⟩ hSh0 ?_
        rotate_left
        · intro w' hw'; obtain ⟨x0, x1, x2, x3, x4, x5, x6, x7, x8, x9⟩ := hw'; go_simp; (try with_reducible rfl)
        simp only [Act.put, List.setIfInBounds_toArray, List.set_cons_zero, List.set_cons_succ]
        refine held_take (v := ?_) 5 22 rfl rfl (by kernel_rfl) (by kernel_rfl) (by kernel_rfl) (fun _ _ _ h => h) ⟨by rfl, ?_⟩ hSh0 ?_
        rotate_left
        · intro w' hw'; obtain ⟨x0, x1, x2, x3, x4, x5, x6, x7, x8, x9⟩ := hw'; go_simp; (try with_reducible rfl)
        simp only [Act.put, List.setIfInBounds_toArray, List.set_cons_zero, List.set_cons_succ]
        refine held_take (v := ?_) 6 23 rfl rfl (by kernel_rfl) (by kernel_rfl) (by kernel_rfl) (fun _ _ _ h => h) ⟨by rfl, ?_⟩ hSh0 ?_
        rotate_left
        · intro w' hw'; obtain ⟨x0, x1, x2, x3, x4, x5, x6, x7, x8, x9⟩ := hw'; go_simp; (try with_reducible rfl)
        simp only [Act.put, List.setIfInBounds_toArray, List.set_cons_zero, List.set_cons_succ]
        refine held_take (v := ?_) 7 24 rfl rfl (by kernel_rfl) (by kernel_rfl) (by kernel_rfl) (fun _ _ _ h => h) ⟨by rfl, ?_⟩ hSh0 ?_
        rotate_left
        · intro w' hw'; obtain ⟨x0, x1, x2, x3, x4, x5, x6, x7, x8, x9⟩ := hw'; go_simp; (try with_reducible rfl)
        simp only [Act.put, List.setIfInBounds_toArray, List.set_cons_zero, List.set_cons_succ]
        refine held_take (v := ?_) 8 25 rfl rfl (by kernel_rfl) (by kernel_rfl) (by kernel_rfl) (fun _ _ _ h => h) ⟨by rfl, ?_⟩ hSh0 ?_
        rotate_left
        · intro w' hw'; obtain ⟨x0, x1, x2, x3, x4, x5, x6, x7, x8, x9⟩ := hw'; go_simp; (try with_reducible rfl)
        simp only [Act.put, List.setIfInBounds_toArray, List.set_cons_zero, List.set_cons_succ]
        refine held_take (v := ?_) 9 26 rfl rfl (by kernel_rfl) (by kernel_rfl) (by kernel_rfl) (fun _ _ _ h => h) ⟨by rfl, ?_⟩ hSh0 ?_
        rotate_left
        · intro w' hw'; obtain ⟨x0, x1, x2, x3, x4, x5, x6, x7, x8, x9⟩ := hw'; go_simp; (try with_reducible rfl)
        simp only [Act.put, List.setIfInBounds_toArray, List.set_cons_zero, List.set_cons_succ]
        refine held_take (v := ?_) 10 27 rfl rfl (by kernel_rfl) (by kernel_rfl) (by kernel_rfl) (fun _ _ _ h => h) ⟨by rfl, ?_⟩ hSh0 ?_
        rotate_left
        · intro w' hw'; obtain ⟨x0, x1, x2, x3, x4, x5, x6, x7, x8, x9⟩ := hw'; go_simp; (try with_reducible rfl)
        simp only [Act.put, List.setIfInBounds_toArray, List.set_cons_zero, List.set_cons_succ]
        refine held_take (v := ?_) 11 28 rfl rfl (by kernel_rfl) (by kernel_rfl) (by kernel_rfl) (fun _ _ _ h => h) ⟨by rfl, ?_⟩ hSh0 ?_
        rotate_left
        · intro w' hw'; obtain ⟨x0, x1, x2, x3, x4, x5, x6, x7, x8, x9⟩ := hw'; go_simp; (try with_reducible rfl)
        simp only [Act.put, List.setIfInBounds_toArray, List.set_cons_zero, List.set_cons_succ]
        refine held_take (v := ?_) 12 29 rfl rfl (by kernel_rfl) (by kernel_rfl) (by kernel_rfl) (fun _ _ _ h => h) ⟨by rfl, ?_⟩ hSh0 ?_
        rotate_left
        · intro w' hw'; obtain ⟨x0, x1, x2, x3, x4, x5, x6, x7, x8, x9⟩ := hw'; go_simp; (try with_reducible rfl)
        simp only [Act.put, List.setIfInBounds_toArray, List.set_cons_zero, List.set_cons_succ]
        refine held_take (v := ?_) 13 30 rfl rfl (by kernel_rfl) (by kernel_rfl) (by kernel_rfl) (fun _ _ _ h => h) ⟨by rfl, ?_⟩ hSh0 ?_
        rotate_left
        · intro w' hw'; obtain ⟨x0, x1, x2, x3, x4, x5, x6, x7, x8, x9⟩ := hw'; go_simp; (try with_reducible rfl)
        simp only [Act.put, List.setIfInBounds_toArray, List.set_cons_zero, List.set_cons_succ]
        refine held_take (v := ?_) 14 31 rfl rfl (by kernel_rfl) (by kernel_rfl) (by kernel_rfl) (fun _ _ _ h => h) ⟨by rfl, ?_⟩ hSh0 ?_
        rotate_left
        · intro w' hw'; obtain ⟨x0, x1, x2, x3, x4, x5, x6, x7, x8, x9⟩ := hw'; go_simp; (try with_reducible rfl)
        simp only [Act.put, List.setIfInBounds_toArray, List.set_cons_zero, List.set_cons_succ]
        refine held_take (v := ?_) 15 32 rfl rfl (by kernel_rfl) (by kernel_rfl) (by kernel_rfl) (fun _ _ _ h => h) ⟨by rfl, ?_⟩ hSh0 ?_
        rotate_left
        · intro w' hw'; obtain ⟨x0, x1, x2, x3, x4, x5, x6, x7, x8, x9⟩ := hw'; go_simp; (try with_reducible rfl)
        simp only [Act.put, List.setIfInBounds_toArray, List.set_cons_zero, List.set_cons_succ]
        refine held_take (v := ?_) 16 33 rfl rfl (by kernel_rfl) (by kernel_rfl) (by kernel_rfl) (fun _ _ _ h => h) ⟨by rfl, ?_⟩ hSh0 ?_
        rotate_left
        · intro w' hw'; obtain ⟨x0, x1, x2, x3, x4, x5, x6, x7, x8, x9⟩ := hw'; go_simp; (try with_reducible rfl)
        simp only [Act.put, List.setIfInBounds_toArray, List.set_cons_zero, List.set_cons_succ]
        refine held_take (v := ?_) 17 34 rfl rfl (by kernel_rfl) (by kernel_rfl) (by kernel_rfl) (fun _ _ _ h => h) ⟨by rfl, ?_⟩ hSh0 ?_
        rotate_left
        · intro w' hw'; obtain ⟨x0, x1, x2, x3, x4, x5, x6, x7, x8, x9⟩ := hw'; go_simp; (try with_reducible rfl)
        simp only [Act.put, List.setIfInBounds_toArray, List.set_cons_zero, List.set_cons_succ]
        refine held_take (v := ?_) 18 35 rfl rfl (by kernel_rfl) (by kernel_rfl) (by kernel_rfl) (fun _ _ _ h => h) ⟨by rfl, ?_⟩ hSh0 ?_
        rotate_left
        · intro w' hw'; obtain ⟨x0, x1, x2, x3, x4, x5, x6, x7, x8, x9⟩ := hw'; go_simp; (try with_reducible rfl)
        simp only [Act.put, List.setIfInBounds_toArray, List.set_cons_zero, List.set_cons_succ]
        refine held_take (v := ?_) 19 36 rfl rfl (by kernel_rfl) (by kernel_rfl) (by kernel_rfl) (fun _ _ _ h => h) ⟨by rfl, ?_⟩ hSh0 ?_
        rotate_left
        · intro w' hw'; obtain ⟨x0, x1, x2, x3, x4, x5, x6, x7, x8, x9⟩ := hw'; go_simp; (try with_reducible rfl)
        simp only [Act.put, List.setIfInBounds_toArray, List.set_cons_zero, List.set_cons_succ]
        refine held_take (v := ?_) 20 37 rfl rfl (by kernel_rfl) (by kernel_rfl) (by kernel_rfl) (fun _ _ _ h => h) ⟨by rfl, ?_⟩ hSh0 ?_
        rotate_left
        · intro w' hw'; obtain ⟨x0, x1, x2, x3, x4, x5, x6, x7, x8, x9⟩ := hw'; go_simp; (try with_reducible rfl)
        simp only [Act.put, List.setIfInBounds_toArray, List.set_cons_zero, List.set_cons_succ]
        refine held_take (v := ?_) 21 38 rfl rfl (by kernel_rfl) (by kernel_rfl) (by kernel_rfl) (fun _ _ _ h => h) ⟨by rfl, ?_⟩ hSh0 ?_
        rotate_left
        · intro w' hw'; obtain ⟨x0, x1, x2, x3, x4, x5, x6, x7, x8, x9⟩ := hw'; go_simp; (try with_reducible rfl)
        simp only [Act.put, List.setIfInBounds_toArray, List.set_cons_zero, List.set_cons_succ]
        refine held_take (v := ?_) 22 39 rfl rfl (by kernel_rfl) (by kernel_rfl) (by kernel_rfl) (fun _ _ _ h => h) ⟨by rfl, ?_⟩ hSh0 ?_
        rotate_left
        · intro w' hw'; obtain ⟨x0, x1, x2, x3, x4, x5, x6, x7, x8, x9⟩ := hw'; go_simp; (try with_reducible rfl)
        simp only [Act.put, List.setIfInBounds_toArray, List.set_cons_zero, List.set_cons_succ]
        refine held_take (v := ?_) 23 40 rfl rfl (by kernel_rfl) (by kernel_rfl) (by kernel_rfl) (fun _ _ _ h => h) ⟨by rfl, ?_⟩ hSh0 ?_
        rotate_left
        · intro w' hw'; obtain ⟨x0, x1, x2, x3, x4, x5, x6, x7, x8, x9⟩ := hw'; go_simp; (try with_reducible rfl)
        simp only [Act.put, List.setIfInBounds_toArray, List.set_cons_zero, List.set_cons_succ]
        refine held_take (v := ?_) 24 41 rfl rfl (by kernel_rfl) (by kernel_rfl) (by kernel_rfl) (fun _ _ _ h => h) ⟨by rfl, ?_⟩ hSh0 ?_
        rotate_left
        · intro w' hw'; obtain ⟨x0, x1, x2, x3, x4, x5, x6, x7, x8, x9⟩ := hw'; go_simp; (try with_reducible rfl)
        simp only [Act.put, List.setIfInBounds_toArray, List.set_cons_zero, List.set_cons_succ]
        refine held_take (v := ?_) 25 42 rfl rfl (by kernel_rfl) (by kernel_rfl) (by kernel_rfl) (fun _ _ _ h => h) ⟨by rfl, ?_⟩ hSh0 ?_
        rotate_left
        · intro w' hw'; obtain ⟨x0, x1, x2, x3, x4, x5, x6, x7, x8, x9⟩ := hw'; go_simp; (try with_reducible rfl)
        simp only [Act.put, List.setIfInBounds_toArray, List.set_cons_zero, List.set_cons_succ]
        refine held_take (v := ?_) 26 43 rfl rfl (by kernel_rfl) (by kernel_rfl) (by kernel_rfl) (fun _ _ _ h => h) ⟨by rfl, ?_⟩ hSh0 ?_
        rotate_left
        · intro w' hw'; obtain ⟨x0, x1, x2, x3, x4, x5, x6, x7, x8, x9⟩ := hw'; go_simp; (try with_reducible rfl)
        simp only [Act.put, List.setIfInBounds_toArray, List.set_cons_zero, List.set_cons_succ]
        refine held_take (v := ?_) 27 44 rfl rfl (by kernel_rfl) (by kernel_rfl) (by kernel_rfl) (fun _ _ _ h => h) ⟨by rfl, ?_⟩ hSh0 ?_
        rotate_left
        · intro w' hw'; obtain ⟨x0, x1, x2, x3, x4, x5, x6, x7, x8, x9⟩ := hw'; go_simp; (try with_reducible rfl)
        simp only [Act.put, List.setIfInBounds_toArray, List.set_cons_zero, List.set_cons_succ]
        refine held_take (v := ?_) 28 45 rfl rfl (by kernel_rfl) (by kernel_rfl) (by kernel_rfl) (fun _ _ _ h => h) ⟨by rfl, ?_⟩ hSh0 ?_
        rotate_left
        · intro w' hw'; obtain ⟨x0, x1, x2, x3, x4, x5, x6, x7, x8, x9⟩ := hw'; go_simp; (try with_reducible rfl)
        simp only [Act.put, List.setIfInBounds_toArray, List.set_cons_zero, List.set_cons_succ]
        refine held_take (v := ?_) 29 46 rfl rfl (by kernel_rfl) (by kernel_rfl) (by kernel_rfl) (fun _ _ _ h => h) ⟨by rfl, ?_⟩ hSh0 ?_
        rotate_left
        · intro w' hw'; obtain ⟨x0, x1, x2, x3, x4, x5, x6, x7, x8, x9⟩ := hw'; go_simp; (try with_reducible rfl)
        simp only [Act.put, List.setIfInBounds_toArray, List.set_cons_zero, List.set_cons_succ]
        refine held_take (v := ?_) 30 47 rfl rfl (by kernel_rfl) (by kernel_rfl) (by kernel_rfl) (fun _ _ _ h => h) ⟨by rfl, ?_⟩ hSh0 ?_
        rotate_left
        · intro w' hw'; obtain ⟨x0, x1, x2, x3, x4, x5, x6, x7, x8, x9⟩ := hw'; go_simp; (try with_reducible rfl)
        simp only [Act.put, List.setIfInBounds_toArray, List.set_cons_zero, List.set_cons_succ]
        refine held_take (v := ?_) 31 48 rfl rfl (by kernel_rfl) (by kernel_rfl) (by kernel_rfl) (fun _ _ _ h => h) ⟨by rfl, ?_⟩ hSh0 ?_
        rotate_left
        · intro w' hw'; obtain ⟨x0, x1, x2, x3, x4, x5, x6, x7, x8, x9⟩ := hw'; go_simp; (try with_reducible rfl)
        simp only [Act.put, List.setIfInBounds_toArray, List.set_cons_zero, List.set_cons_succ]
        refine held_take (v := ?_) 32 49 rfl rfl (by kernel_rfl) (by kernel_rfl) (by kernel_rfl) (fun _ _ _ h => h) ⟨by rfl, ?_⟩ hSh0 ?_
        rotate_left
        · intro w' hw'; obtain ⟨x0, x1, x2, x3, x4, x5, x6, x7, x8, x9⟩ := hw'; go_simp; (try with_reducible rfl)
        simp only [Act.put, List.setIfInBounds_toArray, List.set_cons_zero, List.set_cons_succ]
        refine held_take (v := ?_) 33 50 rfl rfl (by kernel_rfl) (by kernel_rfl) (by kernel_rfl) (fun _ _ _ h => h) ⟨by rfl, ?_⟩ hSh0 ?_
        rotate_left
        · intro w' hw'; obtain ⟨x0, x1, x2, x3, x4, x5, x6, x7, x8, x9⟩ := hw'; go_simp; (try with_reducible rfl)
        simp only [Act.put, List.setIfInBounds_toArray, List.set_cons_zero, List.set_cons_succ]
        refine held_take (v := ?_) 34 51 rfl rfl (by kernel_rfl) (by kernel_rfl) (by kernel_rfl) (fun _ _ _ h => h) ⟨by rfl, ?_⟩ hSh0 ?_
        rotate_left
        · intro w' hw'; obtain ⟨x0, x1, x2, x3, x4, x5, x6, x7, x8, x9⟩ := hw'; go_simp; (try with_reducible rfl)
        simp only [Act.put, List.setIfInBounds_toArray, List.set_cons_zero, List.set_cons_succ]
        refine held_take (v := ?_) 35 52 rfl rfl (by kernel_rfl) (by kernel_rfl) (by kernel_rfl) (fun _ _ _ h => h) ⟨by rfl, ?_⟩ hSh0 ?_
        rotate_left
        · intro w' hw'; obtain ⟨x0, x1, x2, x3, x4, x5, x6, x7, x8, x9⟩ := hw'; go_simp; (try with_reducible rfl)
        simp only [Act.put, List.setIfInBounds_toArray, List.set_cons_zero, List.set_cons_succ]
        refine held_take (v := ?_) 36 53 rfl rfl (by kernel_rfl) (by kernel_rfl) (by kernel_rfl) (fun _ _ _ h => h) ⟨by rfl, ?_⟩ hSh0 ?_
        rotate_left
        · intro w' hw'; obtain ⟨x0, x1, x2, x3, x4, x5, x6, x7, x8, x9⟩ := hw'; go_simp; (try with_reducible rfl)
        simp only [Act.put, List.setIfInBounds_toArray, List.set_cons_zero, List.set_cons_succ]
        refine held_take (v := ?_) 37 54 rfl rfl (by kernel_rfl) (by kernel_rfl) (by kernel_rfl) (fun _ _ _ h => h) ⟨by rfl, ?_⟩ hSh0 ?_
        rotate_left
        · intro w' hw'; obtain ⟨x0, x1, x2, x3, x4, x5, x6, x7, x8, x9⟩ := hw'; go_simp; (try with_reducible rfl)
        simp only [Act.put, List.setIfInBounds_toArray, List.set_cons_zero, List.set_cons_succ]
        refine held_take (v := ?_) 38 55 rfl rfl (by kernel_rfl) (by kernel_rfl) (by kernel_rfl) (fun _ _ _ h => h) ⟨by rfl, ?_⟩ hSh0 ?_
        rotate_left
        · intro w' hw'; obtain ⟨x0, x1, x2, x3, x4, x5, x6, x7, x8, x9⟩ := hw'; go_simp; (try with_reducible rfl)
        simp only [Act.put, List.setIfInBounds_toArray, List.set_cons_zero, List.set_cons_succ]
        refine held_take (v := ?_) 39 56 rfl rfl (by kernel_rfl) (by kernel_rfl) (by kernel_rfl) (fun _ _ _ h => h) ⟨by rfl, ?_⟩ hSh0 ?_
        rotate_left
        · intro w' hw'; obtain ⟨x0, x1, x2, x3, x4, x5, x6, x7, x8, x9⟩ := hw'; go_simp; (try with_reducible rfl)
        simp only [Act.put, List.setIfInBounds_toArray, List.set_cons_zero, List.set_cons_succ]
        refine held_take (v := ?_) 40 57 rfl rfl (by kernel_rfl) (by kernel_rfl) (by kernel_rfl) (fun _ _ _ h => h) ⟨by rfl, ?_⟩ hSh0 ?_
        rotate_left
        · intro w' hw'; obtain ⟨x0, x1, x2, x3, x4, x5, x6, x7, x8, x9⟩ := hw'; go_simp; (try with_reducible rfl)
        simp only [Act.put, List.setIfInBounds_toArray, List.set_cons_zero, List.set_cons_succ]
        refine held_take (v := ?_) 41 58 rfl rfl (by kernel_rfl) (by kernel_rfl) (by kernel_rfl) (fun _ _ _ h => h) ⟨by rfl, ?_⟩ hSh0 ?_
        rotate_left
        · intro w' hw'; obtain ⟨x0, x1, x2, x3, x4, x5, x6, x7, x8, x9⟩ := hw'; go_simp; (try with_reducible rfl)
        simp only [Act.put, List.setIfInBounds_toArray, List.set_cons_zero, List.set_cons_succ]
        refine held_take (v := ?_) 42 59 rfl rfl (by kernel_rfl) (by kernel_rfl) (by kernel_rfl) (fun _ _ _ h => h) ⟨by rfl, ?_⟩ hSh0 ?_
        rotate_left
        · intro w' hw'; obtain ⟨x0, x1, x2, x3, x4, x5, x6, x7, x8, x9⟩ := hw'; go_simp; (try with_reducible rfl)
        simp only [Act.put, List.setIfInBounds_toArray, List.set_cons_zero, List.set_cons_succ]
        refine held_take (v := ?_) 43 60 rfl rfl (by kernel_rfl) (by kernel_rfl) (by kernel_rfl) (fun _ _ _ h => h) ⟨by rfl, ?_⟩ hSh0 ?_
        rotate_left
        · intro w' hw'; obtain ⟨x0, x1, x2, x3, x4, x5, x6, x7, x8, x9⟩ := hw'; go_simp; (try with_reducible rfl)
        simp only [Act.put, List.setIfInBounds_toArray, List.set_cons_zero, List.set_cons_succ]
        refine held_take (v := ?_) 44 61 rfl rfl (by kernel_rfl) (by kernel_rfl) (by kernel_rfl) (fun _ _ _ h => h) ⟨by rfl, ?_⟩ hSh0 ?_
        rotate_left
        · intro w' hw'; obtain ⟨x0, x1, x2, x3, x4, x5, x6, x7, x8, x9⟩ := hw'; go_simp; (try with_reducible rfl)
        simp only [Act.put, List.setIfInBounds_toArray, List.set_cons_zero, List.set_cons_succ]
        refine held_take (v := ?_) 45 62 rfl rfl (by kernel_rfl) (by kernel_rfl) (by kernel_rfl) (fun _ _ _ h => h) ⟨by rfl, ?_⟩ hSh0 ?_
        rotate_left
        · intro w' hw'; obtain ⟨x0, x1, x2, x3, x4, x5, x6, x7, x8, x9⟩ := hw'; go_simp; (try with_reducible rfl)
        simp only [Act.put, List.setIfInBounds_toArray, List.set_cons_zero, List.set_cons_succ]
        refine held_take (v := ?_) 46 63 rfl rfl (by kernel_rfl) (by kernel_rfl) (by kernel_rfl) (fun _ _ _ h => h) ⟨by rfl, ?_⟩ hSh0 ?_
        rotate_left
        · intro w' hw'; obtain ⟨x0, x1, x2, x3, x4, x5, x6, x7, x8, x9⟩ := hw'; go_simp; (try with_reducible rfl)
        simp only [Act.put, List.setIfInBounds_toArray, List.set_cons_zero, List.set_cons_succ]
        refine held_take (v := ?_) 47 64 rfl rfl (by kernel_rfl) (by kernel_rfl) (by kernel_rfl) (fun _ _ _ h => h) ⟨by rfl, ?_⟩ hSh0 ?_
        rotate_left
        · intro w' hw'; obtain ⟨x0, x1, x2, x3, x4, x5, x6, x7, x8, x9⟩ := hw'; go_simp; (try with_reducible rfl)
        simp only [Act.put, List.setIfInBounds_toArray, List.set_cons_zero, List.set_cons_succ]
        refine held_take (v := ?_) 48 65 rfl rfl (by kernel_rfl) (by kernel_rfl) (by kernel_rfl) (fun _ _ _ h => h) ⟨by rfl, ?_⟩ hSh0 ?_
        rotate_left
        · intro w' hw'; obtain ⟨x0, x1, x2, x3, x4, x5, x6, x7, x8, x9⟩ := hw'; go_simp; (try with_reducible rfl)
        simp only [Act.put, List.setIfInBounds_toArray, List.set_cons_zero, List.set_cons_succ]
        refine held_take (v := ?_) 49 66 rfl rfl (by kernel_rfl) (by kernel_rfl) (by kernel_rfl) (fun _ _ _ h => h) ⟨by rfl, ?_⟩ hSh0 ?_
        rotate_left
        · intro w' hw'; obtain ⟨x0, x1, x2, x3, x4, x5, x6, x7, x8, x9⟩ := hw'; go_simp; (try with_reducible rfl)
        simp only [Act.put, List.setIfInBounds_toArray, List.set_cons_zero, List.set_cons_succ]
        refine held_take (v := ?_) 50 67 rfl rfl (by kernel_rfl) (by kernel_rfl) (by kernel_rfl) (fun _ _ _ h => h) ⟨by rfl, ?_⟩ hSh0 ?_
        rotate_left
        · intro w' hw'; obtain ⟨x0, x1, x2, x3, x4, x5, x6, x7, x8, x9⟩ := hw'; go_simp; (try with_reducible rfl)
        simp only [Act.put, List.setIfInBounds_toArray, List.set_cons_zero, List.set_cons_succ]
        refine held_take (v := ?_) 51 68 rfl rfl (by kernel_rfl) (by kernel_rfl) (by kernel_rfl) (fun _ _ _ h => h) ⟨by rfl, ?_⟩ hSh0 ?_
        rotate_left
        · intro w' hw'; obtain ⟨x0, x1, x2, x3, x4, x5, x6, x7, x8, x9⟩ := hw'; go_simp; (try with_reducible rfl)
        simp only [Act.put, List.setIfInBounds_toArray, List.set_cons_zero, List.set_cons_succ]
        refine held_take (v := ?_) 52 69 rfl rfl (by kernel_rfl) (by kernel_rfl) (by kernel_rfl) (fun _ _ _ h => h) ⟨by rfl, ?_⟩ hSh0 ?_
        rotate_left
        · intro w' hw'; obtain ⟨x0, x1, x2, x3, x4, x5, x6, x7, x8, x9⟩ := hw'; go_simp; (try with_reducible rfl)
        simp only [Act.put, List.setIfInBounds_toArray, List.set_cons_zero, List.set_cons_succ]
        refine held_take (v := ?_) 53 70 rfl rfl (by kernel_rfl) (by kernel_rfl) (by kernel_rfl) (fun _ _ _ h => h) ⟨by rfl, ?_⟩ hSh0 ?_
        rotate_left
        · intro w' hw'; obtain ⟨x0, x1, x2, x3, x4, x5, x6, x7, x8, x9⟩ := hw'; go_simp; (try with_reducible rfl)
        simp only [Act.put, List.setIfInBounds_toArray, List.set_cons_zero, List.set_cons_succ]
        refine held_take (v := ?_) 54 71 rfl rfl (by kernel_rfl) (by kernel_rfl) (by kernel_rfl) (fun _ _ _ h => h) ⟨by rfl, ?_⟩ hSh0 ?_
        rotate_left
        · intro w' hw'; obtain ⟨x0, x1, x2, x3, x4, x5, x6, x7, x8, x9⟩ := hw'; go_simp; (try with_reducible rfl)
        simp only [Act.put, List.setIfInBounds_toArray, List.set_cons_zero, List.set_cons_succ]
        refine held_take (v := ?_) 55 72 rfl rfl (by kernel_rfl) (by kernel_rfl) (by kernel_rfl) (fun _ _ _ h => h) ⟨by rfl, ?_⟩ hSh0 ?_
        rotate_left
        · intro w' hw'; obtain ⟨x0, x1, x2, x3, x4, x5, x6, x7, x8, x9⟩ := hw'; go_simp; (try with_reducible rfl)
        simp only [Act.put, List.setIfInBounds_toArray, List.set_cons_zero, List.set_cons_succ]
        refine held_take (v := ?_) 56 73 rfl rfl (by kernel_rfl) (by kernel_rfl) (by kernel_rfl) (fun _ _ _ h => h) ⟨by rfl, ?_⟩ hSh0 ?_
        rotate_left
        · intro w' hw'; obtain ⟨x0, x1, x2, x3, x4, x5, x6, x7, x8, x9⟩ := hw'; go_simp; (try with_reducible rfl)
        simp only [Act.put, List.setIfInBounds_toArray, List.set_cons_zero, List.set_cons_succ]
        refine held_take (v := ?_) 57 74 rfl rfl (by kernel_rfl) (by kernel_rfl) (by kernel_rfl) (fun _ _ _ h => h) ⟨by rfl, ?_⟩ hSh0 ?_
        rotate_left
        · intro w' hw'; obtain ⟨x0, x1, x2, x3, x4, x5, x6, x7, x8, x9⟩ := hw'; go_simp; (try with_reducible rfl)
        simp only [Act.put, List.setIfInBounds_toArray, List.set_cons_zero, List.set_cons_succ]
        refine held_take (v := ?_) 58 75 rfl rfl (by kernel_rfl) (by kernel_rfl) (by kernel_rfl) (fun _ _ _ h => h) ⟨by rfl, ?_⟩ hSh0 ?_
        rotate_left
        · intro w' hw'; obtain ⟨x0, x1, x2, x3, x4, x5, x6, x7, x8, x9⟩ := hw'; go_simp; (try with_reducible rfl)
        simp only [Act.put, List.setIfInBounds_toArray, List.set_cons_zero, List.set_cons_succ]
        refine held_take (v := ?_) 59 76 rfl rfl (by kernel_rfl) (by kernel_rfl) (by kernel_rfl) (fun _ _ _ h => h) ⟨by rfl, ?_⟩ hSh0 ?_
        rotate_left
        · intro w' hw'; obtain ⟨x0, x1, x2, x3, x4, x5, x6, x7, x8, x9⟩ := hw'; go_simp; (try with_reducible rfl)
        simp only [Act.put, List.setIfInBounds_toArray, List.set_cons_zero, List.set_cons_succ]
        refine held_take (v := ?_) 60 77 rfl rfl (by kernel_rfl) (by kernel_rfl) (by kernel_rfl) (fun _ _ _ h => h) ⟨by rfl, ?_⟩ hSh0 ?_
        rotate_left
        · intro w' hw'; obtain ⟨x0, x1, x2, x3, x4, x5, x6, x7, x8, x9⟩ := hw'; go_simp; (try with_reducible rfl)
        simp only [Act.put, List.setIfInBounds_toArray, List.set_cons_zero, List.set_cons_succ]
        refine held_one 61 rfl (by kernel_rfl) (by rfl) (fun K hK => ?_)
        go_simp
        go_at_call 24
        refine (HS.out).mono ?_
        rintro e wh1 ⟨R2, rfl, hR2, hbh1⟩
        have hBh1 : Below wr.heap.size wr wh1 := below_step hBh0 hbh1
        have hSh1 : (fun w' : World => w'.cell? ⟨b, off + k * 5, none⟩ = some (.int .i64 xi) ∧ w'.cell? ⟨b, off + k * 5 + 1, none⟩ = some (.int .i64 xq) ∧ w'.cell? ⟨b, off + k * 5 + 2, none⟩ = some (.int .i64 xu) ∧ w'.cell? ⟨b, off + k * 5 + 3, none⟩ = some (.bool xr) ∧ w'.cell? ⟨b, off + k * 5 + 4, none⟩ = some (.slice xA xm xc) ∧ w'.cell? ⟨b', off' + k * 5, none⟩ = some (.int .i64 xi) ∧ w'.cell? ⟨b', off' + k * 5 + 1, none⟩ = some (.int .i64 xq) ∧ w'.cell? ⟨b', off' + k * 5 + 2, none⟩ = some (.int .i64 xu) ∧ w'.cell? ⟨b', off' + k * 5 + 3, none⟩ = some (.bool xr) ∧ w'.cell? ⟨b', off' + k * 5 + 4, none⟩ = some (.slice yA ym yc)) wh1 := ⟨(hBh1.cell (p := ⟨b, off + k * 5, none⟩) (lbw)).trans f0, (hBh1.cell (p := ⟨b, off + k * 5 + 1, none⟩) (lbw)).trans f1, (hBh1.cell (p := ⟨b, off + k * 5 + 2, none⟩) (lbw)).trans f2, (hBh1.cell (p := ⟨b, off + k * 5 + 3, none⟩) (lbw)).trans f3, (hBh1.cell (p := ⟨b, off + k * 5 + 4, none⟩) (lbw)).trans f4, (hBh1.cell (p := ⟨b', off' + k * 5, none⟩) (lbw')).trans g0, (hBh1.cell (p := ⟨b', off' + k * 5 + 1, none⟩) (lbw')).trans g1, (hBh1.cell (p := ⟨b', off' + k * 5 + 2, none⟩) (lbw')).trans g2, (hBh1.cell (p := ⟨b', off' + k * 5 + 3, none⟩) (lbw')).trans g3, (hBh1.cell (p := ⟨b', off' + k * 5 + 4, none⟩) (lbw')).trans g4⟩
        refine hK.out _ _ hSh1 ?_
        clear hK K
        refine held_take (v := ?_) 62 79 rfl rfl (by kernel_rfl) (by kernel_rfl) (by kernel_rfl) (fun _ _ _ h => h) ⟨by rfl, ?_⟩ hSh1 ?_
        rotate_left
        · intro w' hw'; obtain ⟨x0, x1, x2, x3, x4, x5, x6, x7, x8, x9⟩ := hw'; go_simp; (try with_reducible rfl)
        simp only [Act.put, List.setIfInBounds_toArray, List.set_cons_zero, List.set_cons_succ]
        refine held_take (v := ?_) 63 80 rfl rfl (by kernel_rfl) (by kernel_rfl) (by kernel_rfl) (fun _ _ _ h => h) ⟨by rfl, ?_⟩ hSh1 ?_
        rotate_left
        · intro w' hw'; obtain ⟨x0, x1, x2, x3, x4, x5, x6, x7, x8, x9⟩ := hw'; go_simp; (try with_reducible rfl)
        simp only [Act.put, List.setIfInBounds_toArray, List.set_cons_zero, List.set_cons_succ]
        refine wpAnyH_done (by kernel_rfl) ?_ _
        have N := Lib.hid (And.intro hR2 (hW.out.trans (hBh1.mono hW.out.size)))
        clear hBh0 hSh0 hBh1 hSh1 hbh1 hR2 f0 f1 f2 f3 f4 g0 g1 g2 g3 g4 hW
        cases R2
        · have eR : R = false := HXY.out.2.2 fun e => by have h1 := (HXY.out.2.1 e).2.2.2.2; have h2 := N.out.1.2 h1; cases h2
          subst eR
          go_wp2
          go_ret
          exact ⟨rfl, N.out.2⟩
        · have E := Lib.hid (HXY.out.1 ⟨by first | trivial | rfl, by first | trivial | rfl, by first | trivial | rfl, by first | trivial | rfl, N.out.1.1 rfl⟩)
          go_wp2
          go_roundw
          case rel => exact ⟨k + 1, by go_num, by omega, Lib.hid N.out.2, Lib.hid (by rw [take_next HX.out.1, take_next HX.out.2, hall.out, E.out])⟩
          case measure => simp [intOf]; omega
      · obtain rfl : k = n := by omega
        have eR : R = true := by
          have e := hall.out
          refine HR.out.2 ?_
          rw [H.out.2.2.1] at e
          rw [List.take_length, ← H.out.2.2.1, H.out.2.2.2.1, List.take_length] at e
          exact e
        subst eR
        have t1 : decide (k < k) = false := decide_eq_false (by omega)
        clear hlt
        go_wp2
        go_ret
        exact ⟨rfl, hW.out⟩
  · have eR : R = false := by
      cases R
      · rfl
      · have e := HR.out.1 rfl
        exact absurd (by rw [H.out.2.2.1, H.out.2.2.2.1, e]) hnm
    subst eR
    have t0 : ((n : Int) != (m : Int)) = true := by simp; omega
    clear hnm
    go_enter Tryz.func22, Tryz.ntmps22
    go_wp2
    go_ret
    exact ⟨rfl, Below.refl _ _⟩
end Go.Proofs.YtfbecfikeiecmaaGreat
