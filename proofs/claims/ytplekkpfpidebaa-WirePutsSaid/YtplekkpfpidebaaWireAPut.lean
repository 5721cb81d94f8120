/- Put: an act's bytes. -/
import Derived.Test.YtplekkpfpidebaaHeldTwo
import Derived.Test.YtplekkpfpidebaaWireBare
set_option linter.unusedVariables false
set_option linter.unusedSimpArgs false
set_option maxRecDepth 100000
namespace Go.Proofs.Ytplekkpfpidebaa
open Go.RowKit
structure AcOk (a : WM.Ac) : Prop where
  n : I64 a.n
  id : I64 a.id
  q : I64 a.q
  p : I64 a.p
  r : I64 a.r
  g : I64 a.g
  c : I64 a.c
  mn : I64 a.mn
  mx : I64 a.mx
theorem conv_own {w : World} {base : Nat} {v : Value} {T : List UInt8} (h : w.ownsRow base 5 1 v T.length (T.flatMap u8C)) : (convert 67 9 v).run Try.prog w = .ok (.string (bs T)) w := by
  obtain ⟨A, c, rfl⟩ := own_formE h
  obtain ⟨hE, _⟩ := els_own u8C_len h rfl
  rcases hE with rfl | ⟨b, off, rfl, hb, hc⟩
  · rcases h.2 with ⟨e, _⟩ | ⟨g, cap, cur, e, h2, h3, h4⟩
    · injection e with e1 _ _
      subst e1
      exact run_convert_bytes_nil w 67 5 Try.underlying67 Try.underlying5 0 c 9 Try.underlying9
    · injection e with e1 _ _
      subst e1
      exact run_convert_bytes_arg w 67 5 Try.underlying67 Try.underlying5 g 0 0 c [] rfl (fun i hi => absurd hi (by omega)) 9 Try.underlying9
  · have h9 := run_convert_bytes_arg w 67 5 Try.underlying67 Try.underlying5 b off T.length c (T.map fun x => (x.toNat : Int)) (by simp) (fun i hi => by
      have h1 := hc i _ (List.getElem?_eq_getElem hi) 0 _ rfl
      rw [Nat.mul_one] at h1
      rw [List.getD_eq_getElem?_getD, List.getElem?_map, List.getElem?_eq_getElem hi]
      exact h1) 9 Try.underlying9
    rw [h9]
    congr 2
    unfold strOfNums bs
    rw [List.map_map]
    congr 2
    exact (List.map_congr_left fun x _ => by simp).trans (List.map_id _)
theorem fit_all (a : WM.Ac) (p kk : Nat) (h : a.k = kk) (hk : kk < 8) : fitF (fdsA p kk) (WM.flds a) = WM.fitAll a ∧ encF (fdsA p kk) (WM.flds a) = WM.encs (((WM.flds a).map Int.toNat).zip (WM.wid a.k)) ∧ (fdsA p kk).length = (WM.flds a).length := by
  unfold fitF WM.fitAll encF WM.flds WM.wid
  rw [h]
  match kk, hk with
  | 0, _ | 1, _ | 2, _ | 3, _ | 4, _ | 5, _ | 6, _ | 7, _ => simp [fdsA, WM.encs]
theorem nums_act {w : World} {p kk : Nat} {a : WM.Ac} {ty : TypeId} (h : a.k = kk) (hk : kk < 8) (hA : AcOk a) (hp : w.heap[p]? = some (.cells (acA a) ty (0, 0))) : NumsAt w (fdsA p kk) (WM.flds a) := by
  refine ⟨(fit_all a p kk h hk).2.2, fun k x v hx hv => ?_⟩
  have key : (acA a)[x.2.1]? = some (.int .i64 v) ∧ x.1 = p ∧ I64 v := by
    unfold WM.flds at hv
    rw [h] at hv
    match kk, hk with
    | 0, _ =>
      have hk8 : k < 8 := (List.getElem?_eq_some_iff.1 hx).1
      match k, hk8 with
      | 0, _ => simp [fdsA] at hx hv; subst hx; subst hv; exact ⟨rfl, rfl, hA.id⟩
      | 1, _ => simp [fdsA] at hx hv; subst hx; subst hv; exact ⟨rfl, rfl, hA.q⟩
      | 2, _ => simp [fdsA] at hx hv; subst hx; subst hv; exact ⟨rfl, rfl, hA.p⟩
      | 3, _ => simp [fdsA] at hx hv; subst hx; subst hv; exact ⟨rfl, rfl, hA.r⟩
      | 4, _ => simp [fdsA] at hx hv; subst hx; subst hv; exact ⟨rfl, rfl, hA.g⟩
      | 5, _ => simp [fdsA] at hx hv; subst hx; subst hv; exact ⟨rfl, rfl, hA.c⟩
      | 6, _ => simp [fdsA] at hx hv; subst hx; subst hv; exact ⟨rfl, rfl, hA.mn⟩
      | 7, _ => simp [fdsA] at hx hv; subst hx; subst hv; exact ⟨rfl, rfl, hA.mx⟩
    | 5, _ => simp [fdsA] at hx
    | 1, _ | 2, _ | 3, _ | 4, _ | 6, _ | 7, _ =>
      match k with
      | 0 => simp [fdsA] at hx hv; subst hx; subst hv; exact ⟨rfl, rfl, hA.n⟩
      | k + 1 => simp [fdsA] at hx
  obtain ⟨x0, x1, W⟩ := x
  obtain ⟨h1, h2, h3⟩ := key
  simp only at h1 h2
  subst h2
  exact ⟨cell_blk hp h1, h3⟩
theorem u8_row {w : World} {Z : Nat} {d : UInt8} (bz : w.heap[Z]? = some (.cells #[.int .u8 (d.toNat : Nat)] 5 (0, 0))) : w.ownsRow Z 5 1 (.slice (some ⟨Z, 0, none⟩) 1 1) [d].length ([d].flatMap u8C) :=
  ⟨rfl, .inr ⟨Z, 1, #[.int .u8 (d.toNat : Nat)], rfl, Nat.le_refl _, bz, Nat.le_refl _, by unfold maxLen; omega, rfl, rfl⟩⟩
theorem put_one (p Z : Nat) (d : UInt8) (a : WM.Ac) (w : World) (bz : w.heap[Z]? = some (.cells #[.int .u8 (d.toNat : Nat)] 5 (0, 0))) (hp : w.heap[p]? = some (.cells (acA a) 27 (0, 0))) (A : Option Addr) (n : Nat) (kk : Nat) (hak : a.k = kk) (hk : kk < 8) (hn : n = (fdsA p kk).length) (hE : Els fpC 2 w w.heap.size A (fdsA p kk)) (hA : AcOk a) (hne : p ≠ Z) :
    Calls Try.prog 21 #[.slice (some ⟨Z, 0, none⟩) 1 1, .slice A n n] w fun e w' => ∃ v, e = .returned (.tuple #[v, .bool (WM.fitAll a)]) ∧ Hid (WM.fitAll a = true → w'.ownsRow Z 5 1 v (d :: WM.encs (((WM.flds a).map Int.toNat).zip (WM.wid a.k))).length ((d :: WM.encs (((WM.flds a).map Int.toNat).zip (WM.wid a.k))).flatMap u8C)) ∧ Hid (Foot (· = Z) w w') := by
  obtain ⟨f1, f2, f3⟩ := fit_all a p kk hak hk
  have hl := blk_lt hp
  have hZ := blk_lt bz
  have h9 := put_any (· = Z) Z (.slice (some ⟨Z, 0, none⟩) 1 1) [d] w (u8_row bz) (by omega) (by simp) (fun i hi => by simpa [Value.ownBlock] using hi.symm) A n (fdsA p kk) (WM.flds a) hE
    (fun b off k x e hx => by
      obtain ⟨b2, off2, e2, _, hc⟩ := hE.at_ hx
      rw [e] at e2
      cases e2
      have := hc k x hx 0 _ rfl
      rintro rfl
      rw [cell_of_row w b _ _ _ (0, 0) bz] at this
      have h2 := (Array.getElem?_eq_some_iff.1 this).1
      simp only [List.size_toArray, List.length_singleton] at h2
      rw [show off + k * 2 + 0 = 0 by omega] at this
      simp at this)
    (fun x hx => by
      obtain ⟨g1, g2, _⟩ := fdsA_ok x hx
      exact ⟨g1, by rw [g2]; exact hl, by rw [g2]; exact hne⟩) (by
      rw [← hn]
      rcases Nat.lt_or_ge 8 n with h | h
      · exfalso
        match kk, hk with
        | 0, _ | 1, _ | 2, _ | 3, _ | 4, _ | 5, _ | 6, _ | 7, _ => simp [fdsA] at hn; omega
      · exact h) (nums_act hak hk hA hp)
  rw [← hn, f1, f2] at h9
  refine h9.mono ?_
  rintro e w' ⟨h1, h2, h3⟩
  cases hf : WM.fitAll a with
  | true =>
    obtain ⟨v, rfl, hO⟩ := h1 hf
    exact ⟨v, rfl, Lib.hid fun _ => hO.out.1, h3⟩
  | false =>
    exact ⟨_, h2 hf, Lib.hid fun h => absurd h (by simp), h3⟩
theorem putA_no {a : WM.Ac} (h : WM.formOk a = true) (h2 : WM.fitAll a = false) : WM.putA a = ([], 1) := by unfold WM.putA; rw [if_pos h, if_neg (by rw [h2]; decide)]
theorem putA_yes {a : WM.Ac} (h : WM.formOk a = true) (h2 : WM.fitAll a = true) : WM.putA a = (UInt8.ofNat a.k.toNat :: WM.encs (((WM.flds a).map Int.toNat).zip (WM.wid a.k)), 0) := by unfold WM.putA; rw [if_pos h, if_pos h2]
theorem putA_bad {a : WM.Ac} (h : WM.formOk a = false) : WM.putA a = ([], 10) := by unfold WM.putA; rw [if_neg (by rw [h]; decide)]
set_option maxHeartbeats 4000000 in
theorem aput_any (a : WM.Ac) (hA : AcOk a) (w : World) :
    Calls Try.prog 11 #[acV a] w fun e w' => e = .returned (.tuple #[.string (bs (WM.putA a).1), .int .i64 (WM.putA a).2]) ∧ Below w.heap.size w w' := by
  have HAc := Lib.hid hA
  clear hA
  by_cases hk : 0 ≤ a.k ∧ a.k < 8
  · obtain ⟨kk, hak⟩ : ∃ kk : Nat, a.k = kk := ⟨a.k.toNat, by omega⟩
    have hkk : kk < 8 := by omega
    have Hak := Lib.hid hak
    have u0 : decide (a.k < 0) = false := decide_eq_false (by omega)
    have u1 : decide (8 ≤ a.k) = false := decide_eq_false (by omega)
    obtain ⟨d, hd⟩ : ∃ d : UInt8, d = UInt8.ofNat a.k.toNat := ⟨_, rfl⟩
    have hkd : IntKind.u8.wrap a.k = (d.toNat : Int) := by rw [IntKind.wrap_u8, hd, show a.k.toNat = a.k.toNat % 256 by omega, WM.byte_toNat]; omega
    have HD := Lib.hid hd
    have HBa := Lib.hid (fun W => bare_any a kk hak hkk W)
    clear hak hk hd
    obtain ⟨PR, hPR⟩ : ∃ PR, PR = WM.putA a := ⟨_, rfl⟩
    obtain ⟨P1, P2⟩ := PR
    rw [← hPR]
    have HPR := Lib.hid hPR
    clear hPR
    unfold acV acA at HBa ⊢
    go_enter Try.func11, Try.ntmps11
    go_wp2_with fail
    obtain ⟨w1, hw1⟩ : ∃ w1, w1 = w.alloc (.cells #[.int .i64 a.k, .int .i64 a.n, .int .i64 a.id, .int .i64 a.q, .int .i64 a.p, .int .i64 a.r, .int .i64 a.g, .int .i64 a.c, .int .i64 a.mn, .int .i64 a.mx] 27) := ⟨_, rfl⟩
    obtain ⟨p, hp⟩ : ∃ p, p = w.heap.size := ⟨_, rfl⟩
    rw [← hw1, ← hp]
    have HB1 : Hid (Below w.heap.size w w1) := Lib.hid (by rw [hw1]; exact (Below.refl _ _).alloc (Nat.le_refl _) _)
    have HP1 : Hid (w1.heap[p]? = some (.cells (acA a) 27 (0, 0))) := Lib.hid (by rw [hw1, hp]; exact heap_alloc_new _ _)
    have hp1 : p < w1.heap.size := blk_lt HP1.out
    obtain ⟨c0, c1, c2, c3, c4, c5, c6, c7, c8, c9⟩ := cells10 HP1.out
    have hwp : w.heap.size ≤ p := by omega
    clear hw1 hp
    cases hfm : WM.formOk a with
    | false =>
      have hR := HPR.out.trans (putA_bad hfm)
      simp only [Prod.mk.injEq] at hR
      obtain ⟨rfl, rfl⟩ := hR
      rw [hfm] at HBa
      clear hfm HPR
      refine (HBa.out _).mono ?_
      rintro e w2 ⟨rfl, hb⟩
      have HB2 := Lib.hid (HB1.out.trans (hb.mono HB1.out.size))
      clear hb
      go_wp2_with fail
      go_ret2
      exact ⟨rfl, HB2.out⟩
    | true =>
      have HFm := Lib.hid hfm
      rw [hfm] at HBa
      clear hfm
      refine (HBa.out _).mono ?_
      rintro e w2 ⟨rfl, hb⟩
      have HB2 := Lib.hid (HB1.out.trans (hb.mono HB1.out.size))
      have HP2 : Hid (w2.heap[p]? = some (.cells (acA a) 27 (0, 0))) := Lib.hid ((hb.block p hp1).trans HP1.out)
      have hp2 : p < w2.heap.size := blk_lt HP2.out
      clear hb c0 c1 c2 c3 c4 c5 c6 c7 c8 c9 HP1 hp1
      have c0 : w2.cell? ⟨p, 0, none⟩ = some (.int .i64 a.k) := cell_blk (i := 0) HP2.out rfl
      have HBh := Lib.hid (fun W (h : p < W.heap.size) => behind_any p W h)
      go_wp2_with fail
      refine held_begin (fun w' : World => w'.cell? ⟨p, 0, none⟩ = some (.int .i64 a.k)) (by kernel_rfl) ?_
      have hBh0 : Below w2.heap.size w2 w2.drew := (Below.refl _ _).drew
      have hSh0 : (fun w' : World => w'.cell? ⟨p, 0, none⟩ = some (.int .i64 a.k)) w2.drew := c0
      refine held_take (v := ?_) 0 20 rfl rfl (by kernel_rfl) (by kernel_rfl) (by kernel_rfl) (fun _ _ _ h => h) ⟨by rfl, ?_⟩ hSh0 ?_
      rotate_left
      · intro w' hw'; obtain x0 := hw'; go_simp; (try with_reducible rfl)
      simp only [Act.put, List.setIfInBounds_toArray, List.set_cons_zero, List.set_cons_succ]
      refine held_take (v := ?_) 1 21 rfl rfl (by kernel_rfl) (by kernel_rfl) (by kernel_rfl) (fun _ _ _ h => h) ⟨by rfl, ?_⟩ hSh0 ?_
      rotate_left
      · intro w' hw'; obtain x0 := hw'; go_simp; (try with_reducible rfl)
      simp only [Act.put, List.setIfInBounds_toArray, List.set_cons_zero, List.set_cons_succ]
      refine held_take (v := ?_) 2 22 rfl rfl (by kernel_rfl) (by kernel_rfl) (by kernel_rfl) (fun _ _ _ h => h) ⟨by rfl, ?_⟩ hSh0 ?_
      rotate_left
      · intro w' hw'; obtain x0 := hw'; go_simp; (try with_reducible rfl)
      simp only [Act.put, List.setIfInBounds_toArray, List.set_cons_zero, List.set_cons_succ]
      refine held_take (v := ?_) 5 25 rfl rfl (by kernel_rfl) (by kernel_rfl) (by kernel_rfl) (fun _ _ _ h => h) ⟨by rfl, ?_⟩ hSh0 ?_
      rotate_left
      · intro w' hw'; obtain x0 := hw'; go_simp; (try with_reducible rfl)
      simp only [Act.put, List.setIfInBounds_toArray, List.set_cons_zero, List.set_cons_succ]
      refine held_take (v := ?_) 6 26 rfl rfl (by kernel_rfl) (by kernel_rfl) (by kernel_rfl) (fun _ _ _ h => h) ⟨by rfl, ?_⟩ hSh0 ?_
      rotate_left
      · intro w' hw'; obtain x0 := hw'; go_simp; (try with_reducible rfl)
      simp only [Act.put, List.setIfInBounds_toArray, List.set_cons_zero, List.set_cons_succ]
      refine held_two 3 4 rfl rfl (by kernel_rfl) (by rfl) (by rfl) (fun K hK => ?_) (fun K hK => ?_)
      · go_simp
        obtain ⟨wa, hwa⟩ : ∃ wld, wld = (w2.alloc (.cells #[.int .u8 (d.toNat : Nat)] 5)).drew := ⟨_, rfl⟩
        have hBa : Below w2.heap.size w2 wa := by rw [hwa]; exact ((Below.refl _ _).alloc (Nat.le_refl _) _).drew
        have bz : wa.heap[w2.heap.size]? = some (.cells #[.int .u8 (d.toNat : Nat)] 5 (0, 0)) := by rw [hwa]; exact heap_alloc_new _ _
        have hSa : (fun w' : World => w'.cell? ⟨p, 0, none⟩ = some (.int .i64 a.k)) wa := (hBa.cell (p := ⟨p, 0, none⟩) hp2).trans c0
        rw [← hwa]
        refine hK.out _ _ hSa ?_
        clear hK K
        try simp only [Act.put, List.setIfInBounds_toArray, List.set_cons_zero, List.set_cons_succ]
        generalize hZ : w2.heap.size = Z at bz ⊢
        have gz : w2.heap.size ≤ Z := Nat.le_of_eq hZ
        have lz : Z < wa.heap.size := blk_lt bz
        clear hwa
        refine held_one 4 rfl (by kernel_rfl) (by rfl) (fun K hK => ?_)
        go_simp
        go_at_call 22
        refine (HBh.out wa (by have := hBa.size; omega)).mono ?_
        rintro e wb ⟨X, Y, Z1, rfl, HT, hb1⟩
        have hBb : Below w2.heap.size w2 wb := below_step hBa hb1
        have hSb : (fun w' : World => w'.cell? ⟨p, 0, none⟩ = some (.int .i64 a.k)) wb := (hBb.cell (p := ⟨p, 0, none⟩) hp2).trans c0
        obtain ⟨A, n, hn, hn8, hix, hE⟩ := tab_row hkk HT.out
        have Hn := Lib.hid hn
        have HE := Lib.hid hE
        have HIX := Lib.hid hix
        clear hn hE HT hix
        have bz2 : wb.heap[Z]? = some (.cells #[.int .u8 (d.toNat : Nat)] 5 (0, 0)) := (hb1.block Z lz).trans bz
        have hEb : Els fpC 2 wb wb.heap.size A (fdsA p kk) := HE.out
        clear bz
        refine hK.out _ _ hSb ?_
        clear hK K
        try simp only [Act.put, List.setIfInBounds_toArray, List.set_cons_zero, List.set_cons_succ]
        refine held_take (v := ?_) 7 27 rfl rfl (by kernel_rfl) (by kernel_rfl) (by kernel_rfl) (fun _ _ _ h => h) ⟨by rfl, ?_⟩ hSb ?_
        rotate_left
        · intro w' hw'; obtain x0 := hw'; rw [Hak.out]; have hix9 := HIX.out; go_simp; (try with_reducible rfl)
        simp only [Act.put, List.setIfInBounds_toArray, List.set_cons_zero, List.set_cons_succ]
        have hpb : wb.heap[p]? = some (.cells (acA a) 27 (0, 0)) := (hBb.block p hp2).trans HP2.out
        refine held_one 8 rfl (by kernel_rfl) (by rfl) (fun K hK => ?_)
        go_simp
        go_at_call 21
        refine (put_one p Z d a wb bz2 hpb A n kk Hak.out hkk Hn.out hEb HAc.out (by omega)).mono ?_
        rintro e wc ⟨v, rfl, hO, hF⟩
        have hBc : Below w2.heap.size w2 wc := hBb.trans (hF.out.below (by have := hBb.size; omega) (fun i hi => by omega))
        have hSc : (fun w' : World => w'.cell? ⟨p, 0, none⟩ = some (.int .i64 a.k)) wc := (hBc.cell (p := ⟨p, 0, none⟩) hp2).trans c0
        refine hK.out _ _ hSc ?_
        clear hK K
        try simp only [Act.put, List.setIfInBounds_toArray, List.set_cons_zero, List.set_cons_succ]
        refine held_take (v := ?_) 9 19 rfl rfl (by kernel_rfl) (by kernel_rfl) (by kernel_rfl) (fun _ _ _ h => h) ⟨by rfl, ?_⟩ hSc ?_
        rotate_left
        · intro w' hw'; obtain x0 := hw'; go_simp; (try with_reducible rfl)
        simp only [Act.put, List.setIfInBounds_toArray, List.set_cons_zero, List.set_cons_succ]
        refine held_take (v := ?_) 10 29 rfl rfl (by kernel_rfl) (by kernel_rfl) (by kernel_rfl) (fun _ _ _ h => h) ⟨by rfl, ?_⟩ hSc ?_
        rotate_left
        · intro w' hw'; obtain x0 := hw'; go_simp; (try with_reducible rfl)
        simp only [Act.put, List.setIfInBounds_toArray, List.set_cons_zero, List.set_cons_succ]
        refine held_take (v := ?_) 11 30 rfl rfl (by kernel_rfl) (by kernel_rfl) (by kernel_rfl) (fun _ _ _ h => h) ⟨by rfl, ?_⟩ hSc ?_
        rotate_left
        · intro w' hw'; obtain x0 := hw'; go_simp; (try with_reducible rfl)
        simp only [Act.put, List.setIfInBounds_toArray, List.set_cons_zero, List.set_cons_succ]
        refine held_take (v := ?_) 12 4 rfl rfl (by kernel_rfl) (by kernel_rfl) (by kernel_rfl) (fun _ _ _ h => h) ⟨by rfl, ?_⟩ hSc ?_
        rotate_left
        · intro w' hw'; obtain x0 := hw'; go_simp; (try with_reducible rfl)
        simp only [Act.put, List.setIfInBounds_toArray, List.set_cons_zero, List.set_cons_succ]
        refine held_take (v := ?_) 13 5 rfl rfl (by kernel_rfl) (by kernel_rfl) (by kernel_rfl) (fun _ _ _ h => h) ⟨by rfl, ?_⟩ hSc ?_
        rotate_left
        · intro w' hw'; obtain x0 := hw'; go_simp; (try with_reducible rfl)
        simp only [Act.put, List.setIfInBounds_toArray, List.set_cons_zero, List.set_cons_succ]
        refine wpAnyH_done (by kernel_rfl) ?_ _
        have HBc := Lib.hid hBc
        clear hSc hBc hSb hBb hSa hBa hBh0 hSh0 hb1 bz2 gz hEb hpb hF
        have HBE : Hid (Below w.heap.size w wc) := Lib.hid (HB2.out.trans (HBc.out.mono HB2.out.size))
        clear HBc
        cases hfit : WM.fitAll a with
        | false =>
          have hR := HPR.out.trans (putA_no HFm.out hfit)
          simp only [Prod.mk.injEq] at hR
          obtain ⟨rfl, rfl⟩ := hR
          clear hfit hO HPR
          go_wp2_with fail
          go_ret2
          exact ⟨rfl, HBE.out⟩
        | true =>
          have hcv := conv_own (hO.out hfit)
          have hR := HPR.out.trans (putA_yes HFm.out hfit)
          rw [← HD.out] at hR
          simp only [Prod.mk.injEq] at hR
          obtain ⟨rfl, rfl⟩ := hR
          clear hfit hO HPR
          go_wp2_with fail
          go_ret2
          exact ⟨rfl, HBE.out⟩
      · go_simp
        go_at_call 22
        refine (HBh.out w2.drew (by have := hBh0.size; omega)).mono ?_
        rintro e wa ⟨X, Y, Z1, rfl, HT, hb1⟩
        have hBa : Below w2.heap.size w2 wa := below_step hBh0 hb1
        have hSa : (fun w' : World => w'.cell? ⟨p, 0, none⟩ = some (.int .i64 a.k)) wa := (hBa.cell (p := ⟨p, 0, none⟩) hp2).trans c0
        obtain ⟨A, n, hn, hn8, hix, hE⟩ := tab_row hkk HT.out
        have Hn := Lib.hid hn
        have HE := Lib.hid hE
        have HIX := Lib.hid hix
        clear hn hE HT hix
        refine hK.out _ _ hSa ?_
        clear hK K
        try simp only [Act.put, List.setIfInBounds_toArray, List.set_cons_zero, List.set_cons_succ]
        refine held_take (v := ?_) 7 27 rfl rfl (by kernel_rfl) (by kernel_rfl) (by kernel_rfl) (fun _ _ _ h => h) ⟨by rfl, ?_⟩ hSa ?_
        rotate_left
        · intro w' hw'; obtain x0 := hw'; rw [Hak.out]; have hix9 := HIX.out; go_simp; (try with_reducible rfl)
        simp only [Act.put, List.setIfInBounds_toArray, List.set_cons_zero, List.set_cons_succ]
        refine held_one 3 rfl (by kernel_rfl) (by rfl) (fun K hK => ?_)
        go_simp
        obtain ⟨wb, hwb⟩ : ∃ wld, wld = wa.alloc (.cells #[.int .u8 (d.toNat : Nat)] 5) := ⟨_, rfl⟩
        have hBb : Below w2.heap.size w2 wb := by rw [hwb]; exact hBa.alloc hBa.size _
        have bz : wb.heap[wa.heap.size]? = some (.cells #[.int .u8 (d.toNat : Nat)] 5 (0, 0)) := by rw [hwb]; exact heap_alloc_new _ _
        have hSb : (fun w' : World => w'.cell? ⟨p, 0, none⟩ = some (.int .i64 a.k)) wb := (hBb.cell (p := ⟨p, 0, none⟩) hp2).trans c0
        rw [← hwb]
        refine hK.out _ _ hSb ?_
        clear hK K
        try simp only [Act.put, List.setIfInBounds_toArray, List.set_cons_zero, List.set_cons_succ]
        generalize hZ : wa.heap.size = Z at bz ⊢
        have gz : w2.heap.size ≤ Z := by rw [← hZ]; exact hBa.size
        have bz2 := bz
        have hEb : Els fpC 2 wb wb.heap.size A (fdsA p kk) := by rw [hwb]; exact HE.out.keep ((Below.refl _ _).alloc (Nat.le_refl _) _) (by simp)
        clear bz hwb
        have hpb : wb.heap[p]? = some (.cells (acA a) 27 (0, 0)) := (hBb.block p hp2).trans HP2.out
        refine held_one 8 rfl (by kernel_rfl) (by rfl) (fun K hK => ?_)
        go_simp
        go_at_call 21
        refine (put_one p Z d a wb bz2 hpb A n kk Hak.out hkk Hn.out hEb HAc.out (by omega)).mono ?_
        rintro e wc ⟨v, rfl, hO, hF⟩
        have hBc : Below w2.heap.size w2 wc := hBb.trans (hF.out.below (by have := hBb.size; omega) (fun i hi => by omega))
        have hSc : (fun w' : World => w'.cell? ⟨p, 0, none⟩ = some (.int .i64 a.k)) wc := (hBc.cell (p := ⟨p, 0, none⟩) hp2).trans c0
        refine hK.out _ _ hSc ?_
        clear hK K
        try simp only [Act.put, List.setIfInBounds_toArray, List.set_cons_zero, List.set_cons_succ]
        refine held_take (v := ?_) 9 19 rfl rfl (by kernel_rfl) (by kernel_rfl) (by kernel_rfl) (fun _ _ _ h => h) ⟨by rfl, ?_⟩ hSc ?_
        rotate_left
        · intro w' hw'; obtain x0 := hw'; go_simp; (try with_reducible rfl)
        simp only [Act.put, List.setIfInBounds_toArray, List.set_cons_zero, List.set_cons_succ]
        refine held_take (v := ?_) 10 29 rfl rfl (by kernel_rfl) (by kernel_rfl) (by kernel_rfl) (fun _ _ _ h => h) ⟨by rfl, ?_⟩ hSc ?_
        rotate_left
        · intro w' hw'; obtain x0 := hw'; go_simp; (try with_reducible rfl)
        simp only [Act.put, List.setIfInBounds_toArray, List.set_cons_zero, List.set_cons_succ]
        refine held_take (v := ?_) 11 30 rfl rfl (by kernel_rfl) (by kernel_rfl) (by kernel_rfl) (fun _ _ _ h => h) ⟨by rfl, ?_⟩ hSc ?_
        rotate_left
        · intro w' hw'; obtain x0 := hw'; go_simp; (try with_reducible rfl)
        simp only [Act.put, List.setIfInBounds_toArray, List.set_cons_zero, List.set_cons_succ]
        refine held_take (v := ?_) 12 4 rfl rfl (by kernel_rfl) (by kernel_rfl) (by kernel_rfl) (fun _ _ _ h => h) ⟨by rfl, ?_⟩ hSc ?_
        rotate_left
        · intro w' hw'; obtain x0 := hw'; go_simp; (try with_reducible rfl)
        simp only [Act.put, List.setIfInBounds_toArray, List.set_cons_zero, List.set_cons_succ]
        refine held_take (v := ?_) 13 5 rfl rfl (by kernel_rfl) (by kernel_rfl) (by kernel_rfl) (fun _ _ _ h => h) ⟨by rfl, ?_⟩ hSc ?_
        rotate_left
        · intro w' hw'; obtain x0 := hw'; go_simp; (try with_reducible rfl)
        simp only [Act.put, List.setIfInBounds_toArray, List.set_cons_zero, List.set_cons_succ]
        refine wpAnyH_done (by kernel_rfl) ?_ _
        have HBc := Lib.hid hBc
        clear hSc hBc hSb hBb hSa hBa hBh0 hSh0 hb1 bz2 gz hEb hpb hF
        have HBE : Hid (Below w.heap.size w wc) := Lib.hid (HB2.out.trans (HBc.out.mono HB2.out.size))
        clear HBc
        cases hfit : WM.fitAll a with
        | false =>
          have hR := HPR.out.trans (putA_no HFm.out hfit)
          simp only [Prod.mk.injEq] at hR
          obtain ⟨rfl, rfl⟩ := hR
          clear hfit hO HPR
          go_wp2_with fail
          go_ret2
          exact ⟨rfl, HBE.out⟩
        | true =>
          have hcv := conv_own (hO.out hfit)
          have hR := HPR.out.trans (putA_yes HFm.out hfit)
          rw [← HD.out] at hR
          simp only [Prod.mk.injEq] at hR
          obtain ⟨rfl, rfl⟩ := hR
          clear hfit hO HPR
          go_wp2_with fail
          go_ret2
          exact ⟨rfl, HBE.out⟩

  · have hfm : WM.formOk a = false := by
      cases h : WM.formOk a with
      | false => rfl
      | true =>
        unfold WM.formOk at h
        simp only [Bool.and_eq_true] at h
        have := WM.size_cases h.1.1.1
        omega
    rw [putA_bad hfm]
    unfold acV acA
    clear hfm
    go_enter Try.func11, Try.ntmps11
    by_cases h0 : a.k < 0
    · have u0 : decide (a.k < 0) = true := decide_eq_true h0
      go_wp2
      go_ret2
      exact ⟨rfl, (Below.refl _ _).alloc (Nat.le_refl _) _⟩
    · have u0 : decide (a.k < 0) = false := decide_eq_false h0
      have u1 : decide (8 ≤ a.k) = true := decide_eq_true (by omega)
      go_wp2
      go_ret2
      exact ⟨rfl, (Below.refl _ _).alloc (Nat.le_refl _) _⟩
end Go.Proofs.Ytplekkpfpidebaa
