/- Entries: what bytes have. -/
import Derived.Test.YtplekkpfpidebaaWireRow
set_option linter.unusedVariables false
set_option linter.unusedSimpArgs false
set_option maxRecDepth 100000
namespace Go.Proofs.Ytplekkpfpidebaa
open Go.RowKit
attribute [local go_sem] bs_size bs_get bs_list
theorem byt_get {l : List UInt8} {t : Nat} (h : t < l.length) : ∃ (k : UInt8), l.drop t = k :: l.drop (t + 1) ∧ k.toNat = byt l t := by
  refine ⟨l[t], (List.drop_eq_getElem_cons h), ?_⟩
  unfold byt
  rw [List.getD_eq_getElem?_getD, List.getElem?_eq_getElem h]
  rfl
set_option maxHeartbeats 4000000 in
theorem entries_any (l : List UInt8) (hl : l.length ≤ 10000) (w : World) :
    Calls Try.prog 15 #[.string (bs l)] w fun e w' => ∃ A c, e = .returned (.slice A (WM.entL 0 l).length c) ∧ Hid (Els enC 12 w' w'.heap.size A (WM.entL 0 l) ∧ (∀ b off, A = some ⟨b, off, none⟩ → w.heap.size ≤ b)) ∧ Below w.heap.size w w' := by
  obtain ⟨i0, hi, hz0, hz1, hz2⟩ := info_parts info_en
  obtain ⟨L, hL⟩ : ∃ L, L = WM.entL 0 l := ⟨_, rfl⟩
  rw [← hL]
  have HLe := Lib.hid hL
  obtain ⟨m, hm⟩ : ∃ m, m = l.length := ⟨_, rfl⟩
  have hs : (bs l).size = m := by rw [bs_size, hm]
  have Hm := Lib.hid hm
  rw [← hm] at hl
  clear hL hm
  go_enter Try.func15, Try.ntmps15
  go_wp2_with fail
  obtain ⟨w1, hw1⟩ : ∃ w1, w1 = w.alloc (.cells #[.int .i64 0, .int .i64 0, .int .i64 0, .int .i64 0, .int .i64 0, .int .i64 0, .int .i64 0, .int .i64 0, .int .i64 0, .int .i64 0] 27) := ⟨_, rfl⟩
  obtain ⟨p, hp⟩ : ∃ p, p = w.heap.size := ⟨_, rfl⟩
  rw [← hw1, ← hp]
  have HB1 : Hid (Below w.heap.size w w1) := Lib.hid (by rw [hw1]; exact (Below.refl _ _).alloc (Nat.le_refl _) _)
  have HP1 : Hid (w1.heap[p]? = some (.cells (acA WM.Ac.zero) 27 (0, 0))) := Lib.hid (by rw [hw1, hp]; exact heap_alloc_new _ _)
  have hp1 : p < w1.heap.size := blk_lt HP1.out
  have hwp : w.heap.size ≤ p := by omega
  clear hw1 hp
  refine (behind_any p w1 hp1).mono ?_
  rintro e w2 ⟨X, Y, Z, rfl, HT, hb⟩
  unfold tabV
  go_wp2_with fail
  obtain ⟨w0, hw0⟩ : ∃ w0, w0 = w2.alloc (.cells (tabA X Y Z) 71) := ⟨_, rfl⟩
  unfold tabA at hw0
  obtain ⟨q, hq⟩ : ∃ q, q = w2.heap.size := ⟨_, rfl⟩
  rw [← hw0, ← hq]
  have HB0 : Hid (Below w.heap.size w w0) := Lib.hid (by rw [hw0]; exact (HB1.out.trans (hb.mono HB1.out.size)).alloc (by have := HB1.out.size; have := hb.size; omega) _)
  have HP0 : Hid (w0.heap[p]? = some (.cells (acA WM.Ac.zero) 27 (0, 0))) := Lib.hid (by rw [hw0]; exact (Below.heap_alloc _ _ _ (by have := hb.size; omega)).trans ((hb.block p hp1).trans HP1.out))
  have HQ0 : Hid (w0.heap[q]? = some (.cells (tabA X Y Z) 71 (0, 0))) := Lib.hid (by rw [hw0, hq]; exact heap_alloc_new _ _)
  have HT0 : Hid (TabF w0 p X Y Z) := Lib.hid (by
    have hx : Below w2.heap.size w2 w0 := by rw [hw0]; exact (Below.refl _ _).alloc (Nat.le_refl _) _
    exact ⟨HT.out.1.keep hx hx.size, HT.out.2.1.keep hx hx.size, HT.out.2.2.keep hx hx.size⟩)
  have hpq : p ≠ q := by have := hb.size; omega
  have hqp : q ≠ p := by omega
  have hq0 : q < w0.heap.size := blk_lt HQ0.out
  have hp0 : p < w0.heap.size := blk_lt HP0.out
  have hww0 : w.heap.size ≤ w0.heap.size := HB0.out.size
  clear hw0 hq HB1 HP1 hp1 HT hb
  obtain ⟨B0, hB0⟩ : ∃ B0, B0 = w0.heap.size := ⟨_, rfl⟩
  have HEQ := Lib.hid hB0
  clear hB0
  go_wp2_with fail
  go_loopw [3, 6] (fun s i wr => ∃ (t : Nat) (D : List WM.We) (a : Option Addr) (cp : Nat) (act : WM.Ac), i = .int .i64 t ∧ s = .slice a D.length cp ∧ t ≤ m ∧ D.length ≤ t ∧ Hid (L = D ++ WM.entL t (l.drop t)) ∧ Hid (wr.heap[p]? = some (.cells (acA act) 27 (0, 0))) ∧ Hid (wr.ownsRow B0 49 12 (.slice a D.length cp) D.length (D.flatMap enC)) ∧ Hid (Foot (· = p) w0 wr) ∧ Hid (∀ i, (Value.slice a D.length cp).ownBlock = some i → w0.heap.size ≤ i)) (fun _ i _ => m - (intOf i).toNat)
  case atStart => exact ⟨0, [], none, 0, WM.Ac.zero, rfl, rfl, Nat.zero_le _, Nat.le_refl _, Lib.hid (by rw [HLe.out]; simp), HP0, Lib.hid ⟨rfl, .inl ⟨rfl, rfl⟩⟩, Lib.hid (Foot.refl _ _), Lib.hid fun i hi => by simp [Value.ownBlock] at hi⟩
  case round =>
    obtain ⟨t, D, a, cp, act, rfl, rfl, ht, hDt, hLD, hP, hO, hFt, hLB⟩ := hrel
    have hsz := hFt.out.size
    have hpr : p < wr.heap.size := by omega
    have hB0r : B0 ≤ wr.heap.size := by rw [HEQ.out]; exact hsz
    by_cases hlt : t < m
    · obtain ⟨kb, hkb, hkn⟩ := byt_get (l := l) (t := t) (by rw [← Hm.out]; exact hlt)
      obtain ⟨kk, hkk⟩ : ∃ kk, kk = byt l t := ⟨_, rfl⟩
      have hk256 : kk < 256 := by rw [hkk]; exact byt_lt l t
      have HK := Lib.hid (And.intro hkb (hkn.trans hkk.symm))
      have hkk2 := hkk.symm
      clear hkb hkn hkk
      by_cases h8 : kk < 8
      · have t8 : decide ((8 : Int) ≤ kk) = false := decide_eq_false (by omega)
        obtain ⟨sz, hsz, _, hs11⟩ := size_some kk h8
        obtain ⟨r0, hr0⟩ : ∃ r0, r0 = l.drop (t + 1) := ⟨_, rfl⟩
        have hx2 : (bs l).extract (t + 1) m = bs r0 := by rw [bs_cut, hr0]; congr 1; rw [List.take_of_length_le]; have := Hm.out; simp; omega
        have hr0l : r0.length = m - (t + 1) := by rw [hr0, List.length_drop, Hm.out]
        have Hr0 := Lib.hid hr0
        have HSZ := Lib.hid hsz
        obtain ⟨A, n, hn, hn8, htc, hE0⟩ := tab_cell h8 HT0.out
        have Hn := Lib.hid hn
        have HTC := Lib.hid htc
        have HE0 := Lib.hid hE0
        have hwr : IntKind.i64.wrap ((t : Int) + 1) = ((t + 1 : Nat) : Int) := by rw [IntWalk.i64_in _ (by omega)]; rfl
        have hc1 : (0 : Int) ≤ (t : Int) + 1 := by omega
        have hc2 : (t : Int) + 1 ≤ m := by omega
        have h8i : (kk : Int) < 8 := by omega
        clear hr0 hn htc hE0 hsz
        go_wp2_with (refine wpList_store_act rfl _ _ rfl p (kindA kk) rfl rfl act hP.out ?_; intro w2 hP2 hF2 hO2; have c0 : w2.cell? ⟨p, 0, none⟩ = some (.int .i64 kk) := cell_blk (i := 0) hP2 rfl; have HP2 := Lib.hid hP2; have hFt2 : Hid (Foot (· = p) w0 w2) := Lib.hid (hFt.out.trans hF2 fun i hi => .inl hi); have hOO : Hid (w2.ownsRow B0 49 12 (.slice a D.length cp) D.length (D.flatMap enC)) := Lib.hid (own_stay hO.out fun i hi => hO2 i (by have := hLB.out i hi; omega)); have hs2 := hF2.size; have hB02 : B0 ≤ w2.heap.size := (by omega); clear hP2 hF2 hO2)
        have hq2 : q < w2.heap.size := by have := hFt2.out.size; omega
        have hqk : w2.cell? ⟨q, kk, none⟩ = some (.slice A n n) := (hFt2.out.cell (p := ⟨q, kk, none⟩) hq0 hqp).trans (cell_blk HQ0.out HTC.out)
        have HE : Hid (Els fpC 2 w2 w2.heap.size A (fdsA p kk)) := Lib.hid (row_keep HE0.out HP0.out hFt2.out)
        have hp2 : p < w2.heap.size := by omega
        refine held_begin (fun w' : World => w'.cell? ⟨p, 0, none⟩ = some (.int .i64 kk) ∧ w'.cell? ⟨q, kk, none⟩ = some (.slice A n n)) (by kernel_rfl) ?_
        have hBm0 : Foot (· = p) w2 w2.drew := (Foot.refl _ _).drew
        have hSm0 : (fun w' : World => w'.cell? ⟨p, 0, none⟩ = some (.int .i64 kk) ∧ w'.cell? ⟨q, kk, none⟩ = some (.slice A n n)) w2.drew := ⟨c0, hqk⟩
        refine held_take (v := ?_) 0 30 rfl rfl (by kernel_rfl) (by kernel_rfl) (by kernel_rfl) (fun _ _ _ h => h) ⟨by rfl, ?_⟩ hSm0 ?_
        rotate_left
        · intro w' hw'; obtain ⟨x0, x1⟩ := hw'; go_simp; (try with_reducible rfl)
        simp only [Act.put, List.setIfInBounds_toArray, List.set_cons_zero, List.set_cons_succ]
        refine held_take (v := ?_) 1 31 rfl rfl (by kernel_rfl) (by kernel_rfl) (by kernel_rfl) (fun _ _ _ h => h) ⟨by rfl, ?_⟩ hSm0 ?_
        rotate_left
        · intro w' hw'; obtain ⟨x0, x1⟩ := hw'; go_simp; (try with_reducible rfl)
        simp only [Act.put, List.setIfInBounds_toArray, List.set_cons_zero, List.set_cons_succ]
        refine held_take (v := ?_) 2 32 rfl rfl (by kernel_rfl) (by kernel_rfl) (by kernel_rfl) (fun _ _ _ h => h) ⟨by rfl, ?_⟩ hSm0 ?_
        rotate_left
        · intro w' hw'; obtain ⟨x0, x1⟩ := hw'; go_simp; (try with_reducible rfl)
        simp only [Act.put, List.setIfInBounds_toArray, List.set_cons_zero, List.set_cons_succ]
        refine held_take (v := ?_) 3 33 rfl rfl (by kernel_rfl) (by kernel_rfl) (by kernel_rfl) (fun _ _ _ h => h) ⟨by rfl, ?_⟩ hSm0 ?_
        rotate_left
        · intro w' hw'; obtain ⟨x0, x1⟩ := hw'; go_simp; (try with_reducible rfl)
        simp only [Act.put, List.setIfInBounds_toArray, List.set_cons_zero, List.set_cons_succ]
        refine held_take (v := ?_) 4 34 rfl rfl (by kernel_rfl) (by kernel_rfl) (by kernel_rfl) (fun _ _ _ h => h) ⟨by rfl, ?_⟩ hSm0 ?_
        rotate_left
        · intro w' hw'; obtain ⟨x0, x1⟩ := hw'; go_simp; (try with_reducible rfl)
        simp only [Act.put, List.setIfInBounds_toArray, List.set_cons_zero, List.set_cons_succ]
        refine held_take (v := ?_) 5 35 rfl rfl (by kernel_rfl) (by kernel_rfl) (by kernel_rfl) (fun _ _ _ h => h) ⟨by rfl, ?_⟩ hSm0 ?_
        rotate_left
        · intro w' hw'; obtain ⟨x0, x1⟩ := hw'; go_simp; (try with_reducible rfl)
        simp only [Act.put, List.setIfInBounds_toArray, List.set_cons_zero, List.set_cons_succ]
        refine held_take (v := ?_) 6 36 rfl rfl (by kernel_rfl) (by kernel_rfl) (by kernel_rfl) (fun _ _ _ h => h) ⟨by rfl, ?_⟩ hSm0 ?_
        rotate_left
        · intro w' hw'; obtain ⟨x0, x1⟩ := hw'; go_simp; (try with_reducible rfl)
        simp only [Act.put, List.setIfInBounds_toArray, List.set_cons_zero, List.set_cons_succ]
        refine held_take (v := ?_) 7 37 rfl rfl (by kernel_rfl) (by kernel_rfl) (by kernel_rfl) (fun _ _ _ h => h) ⟨by rfl, ?_⟩ hSm0 ?_
        rotate_left
        · intro w' hw'; obtain ⟨x0, x1⟩ := hw'; go_simp; (try with_reducible rfl)
        simp only [Act.put, List.setIfInBounds_toArray, List.set_cons_zero, List.set_cons_succ]
        refine held_one 8 rfl (by kernel_rfl) (by rfl) (fun K hK => ?_)
        go_simp
        go_at_call 28
        refine (take_act p kk sz h8 HSZ.out r0 (by omega) w2.drew HP2.out A n Hn.out HE.out).mono ?_
        rintro e wm1 ⟨ac, r, rfl, hbm1, hcp, HR⟩
        have hBm1 : Foot (· = p) w2 wm1 := hBm0.trans hbm1 (fun i hi => .inl hi)
        have hSm1 : (fun w' : World => w'.cell? ⟨p, 0, none⟩ = some (.int .i64 kk) ∧ w'.cell? ⟨q, kk, none⟩ = some (.slice A n n)) wm1 := ⟨hcp, (hBm1.cell (p := ⟨q, kk, none⟩) (hq2) (hqp)).trans hqk⟩
        have hFt3 : Hid (Foot (· = p) w0 wm1) := Lib.hid (hFt2.out.trans hBm1 fun i hi => .inl hi)
        have hOO3 : Hid (wm1.ownsRow B0 49 12 (.slice a D.length cp) D.length (D.flatMap enC)) := Lib.hid (own_stay hOO.out fun i hi => hBm1.block i (hOO.out.lt i hi).2 (by have := hLB.out i hi; omega))
        have hs3 := hBm1.size
        refine hK.out _ _ hSm1 ?_
        clear hK K
        refine held_take (v := ?_) 9 29 rfl rfl (by kernel_rfl) (by kernel_rfl) (by kernel_rfl) (fun _ _ _ h => h) ⟨by rfl, ?_⟩ hSm1 ?_
        rotate_left
        · intro w' hw'; obtain ⟨x0, x1⟩ := hw'; go_simp; (try with_reducible rfl)
        simp only [Act.put, List.setIfInBounds_toArray, List.set_cons_zero, List.set_cons_succ]
        refine held_take (v := ?_) 10 39 rfl rfl (by kernel_rfl) (by kernel_rfl) (by kernel_rfl) (fun _ _ _ h => h) ⟨by rfl, ?_⟩ hSm1 ?_
        rotate_left
        · intro w' hw'; obtain ⟨x0, x1⟩ := hw'; go_simp; (try with_reducible rfl)
        simp only [Act.put, List.setIfInBounds_toArray, List.set_cons_zero, List.set_cons_succ]
        refine held_take (v := ?_) 11 40 rfl rfl (by kernel_rfl) (by kernel_rfl) (by kernel_rfl) (fun _ _ _ h => h) ⟨by rfl, ?_⟩ hSm1 ?_
        rotate_left
        · intro w' hw'; obtain ⟨x0, x1⟩ := hw'; go_simp; (try with_reducible rfl)
        simp only [Act.put, List.setIfInBounds_toArray, List.set_cons_zero, List.set_cons_succ]
        refine held_take (v := ?_) 12 7 rfl rfl (by kernel_rfl) (by kernel_rfl) (by kernel_rfl) (fun _ _ _ h => h) ⟨by rfl, ?_⟩ hSm1 ?_
        rotate_left
        · intro w' hw'; obtain ⟨x0, x1⟩ := hw'; go_simp; (try with_reducible rfl)
        simp only [Act.put, List.setIfInBounds_toArray, List.set_cons_zero, List.set_cons_succ]
        refine held_take (v := ?_) 13 8 rfl rfl (by kernel_rfl) (by kernel_rfl) (by kernel_rfl) (fun _ _ _ h => h) ⟨by rfl, ?_⟩ hSm1 ?_
        rotate_left
        · intro w' hw'; obtain ⟨x0, x1⟩ := hw'; go_simp; (try with_reducible rfl)
        simp only [Act.put, List.setIfInBounds_toArray, List.set_cons_zero, List.set_cons_succ]
        refine wpAnyH_done (by kernel_rfl) ?_ _
        have HP2 : Hid (wm1.heap[p]? = some (.cells (acA ac) 27 (0, 0))) := Lib.hid HR.out.1
        have hFt2 := hFt3
        have hOO := hOO3
        have hpm : p < wm1.heap.size := by omega
        have hB02 : B0 ≤ wm1.heap.size := by omega
        clear c0 hqk hcp hBm0 hBm1 hSm0 hSm1 hbm1 hx2
        by_cases hwh : sz ≤ r0.length
        · have u8 : decide (sz ≤ m - (t + 1)) = true := by rw [← hr0l]; exact decide_eq_true hwh
          obtain ⟨hr, hac⟩ := HR.out.2 hwh
          obtain ⟨x, hx⟩ : ∃ x, x = r.length := ⟨_, rfl⟩
          have hrs : (bs r).size = x := by rw [bs_size, hx]
          have hxm : m - x = t + 1 + sz ∧ x ≤ m := by rw [hx, hr, List.length_drop]; omega
          have HAC := Lib.hid hac
          clear hr hx hac
          go_wp2_with (first | (refine wpList_load_act rfl _ rfl p 0 ac rfl (at_blk HP2.out) ?_) | (at_builtin; refine wpList_append_lies _ rfl _ _ 44 rfl B0 49 i0 _ 12 96 Try.underlying44 hi hz0 hz1 hz2 rfl (by decide) (.slice a D.length cp) D.length (D.flatMap enC) rfl (own_alloc hOO.out _) ⟨wm1.heap.size, 0, none⟩ 1 1 [.int .i64 ac.k, .int .i64 ac.n, .int .i64 ac.id, .int .i64 ac.q, .int .i64 ac.p, .int .i64 ac.r, .int .i64 ac.g, .int .i64 ac.c, .int .i64 ac.mn, .int .i64 ac.mx, .int .i64 0, .int .i64 t] rfl rfl (World.news_of_block (cs := #[.int .i64 ac.k, .int .i64 ac.n, .int .i64 ac.id, .int .i64 ac.q, .int .i64 ac.p, .int .i64 ac.r, .int .i64 ac.g, .int .i64 ac.c, .int .i64 ac.mn, .int .i64 ac.mx, .int .i64 0, .int .i64 t]) (t := 49) (fr := (0, 0)) (heap_alloc_new wm1 _)) (by simp [Value.oneCell']) (by omega) (by unfold maxLen; omega) (by omega) (by simp; omega) (wm1.heap.size + 1) (by simp) ?_; intro gg cap' w5 hown5 hgrow hat hlt5))
          have HF5 : Hid (Foot (· = p) w0 w5) := Lib.hid ((hFt2.out.alloc _).grown hgrow fun i hi => .inr (hLB.out i hi))
          have HO5 : Hid (w5.ownsRow B0 49 12 (.slice (some ⟨gg, 0, none⟩) (D ++ [(⟨ac, 0, t⟩ : WM.We)]).length cap') (D ++ [(⟨ac, 0, t⟩ : WM.We)]).length ((D ++ [(⟨ac, 0, t⟩ : WM.We)]).flatMap enC)) := Lib.hid (by
            rw [List.length_append, List.flatMap_append]
            simpa [enC, WM.Ac.zero] using hown5)
          have HL5 : Hid (∀ i, (Value.slice (some ⟨gg, 0, none⟩) (D ++ [(⟨ac, 0, t⟩ : WM.We)]).length cap').ownBlock = some i → w0.heap.size ≤ i) := Lib.hid fun i hi => by
            obtain rfl : gg = i := by simpa [Value.ownBlock] using hi
            rcases hat with h | h
            · exact hLB.out _ h
            · have := hFt2.out.size; omega
          have HP5 : Hid (w5.heap[p]? = some (.cells (acA ac) 27 (0, 0))) := Lib.hid (((hgrow.block p (by simp; omega) (fun e => by have := hLB.out p e.symm; omega)).trans (Below.heap_alloc _ _ _ (by omega))).trans HP2.out)
          have HLN : Hid (L = (D ++ [(⟨ac, 0, t⟩ : WM.We)]) ++ WM.entL (t + 1 + sz) (l.drop (t + 1 + sz))) := Lib.hid (by
            have hk := HK.out
            rw [hLD.out, hk.1, WM.entL_ok (n := sz) (by rw [hk.2]; exact HSZ.out) (by rw [← Hr0.out]; exact hwh), hk.2, HAC.out, Hr0.out, List.drop_drop, List.append_assoc]
            rfl)
          clear hown5 hgrow hat hlt5 hFt2 hOO hP hO hFt hLB
          go_wp2_with fail
          go_roundw
          case rel => exact ⟨t + 1 + sz, D ++ [(⟨ac, 0, t⟩ : WM.We)], _, _, ac, by go_num, by simp, by omega, by simp; omega, HLN, HP5, HO5, HF5, HL5⟩
          case measure => simp [intOf]; omega
        · have u8 : decide (sz ≤ m - (t + 1)) = false := by rw [← hr0l]; exact decide_eq_false hwh
          go_wp2_with (at_builtin; refine wpList_append_lies _ rfl _ _ 44 rfl B0 49 i0 _ 12 96 Try.underlying44 hi hz0 hz1 hz2 rfl (by decide) (.slice a D.length cp) D.length (D.flatMap enC) rfl (own_alloc hOO.out _) ⟨wm1.heap.size, 0, none⟩ 1 1 [.int .i64 0, .int .i64 0, .int .i64 0, .int .i64 0, .int .i64 0, .int .i64 0, .int .i64 0, .int .i64 0, .int .i64 0, .int .i64 0, .int .i64 11, .int .i64 t] rfl rfl (World.news_of_block (cs := #[.int .i64 0, .int .i64 0, .int .i64 0, .int .i64 0, .int .i64 0, .int .i64 0, .int .i64 0, .int .i64 0, .int .i64 0, .int .i64 0, .int .i64 11, .int .i64 t]) (t := 49) (fr := (0, 0)) (heap_alloc_new wm1 _)) (by simp [Value.oneCell']) (by omega) (by unfold maxLen; omega) (by omega) (by simp; omega) (wm1.heap.size + 1) (by simp) ?_; intro gg cap' w5 hown5 hgrow hat hlt5)
          have HF5 : Hid (Foot (· = p) w0 w5) := Lib.hid ((hFt2.out.alloc _).grown hgrow fun i hi => .inr (hLB.out i hi))
          have HO5 : Hid (w5.ownsRow B0 49 12 (.slice (some ⟨gg, 0, none⟩) (D ++ [(⟨WM.Ac.zero, 11, t⟩ : WM.We)]).length cap') (D ++ [(⟨WM.Ac.zero, 11, t⟩ : WM.We)]).length ((D ++ [(⟨WM.Ac.zero, 11, t⟩ : WM.We)]).flatMap enC)) := Lib.hid (by
            rw [List.length_append, List.flatMap_append]
            simpa [enC, WM.Ac.zero] using hown5)
          have HL5 : Hid (∀ i, (Value.slice (some ⟨gg, 0, none⟩) (D ++ [(⟨WM.Ac.zero, 11, t⟩ : WM.We)]).length cap').ownBlock = some i → w0.heap.size ≤ i) := Lib.hid fun i hi => by
            obtain rfl : gg = i := by simpa [Value.ownBlock] using hi
            rcases hat with h | h
            · exact hLB.out _ h
            · have := hFt2.out.size; omega
          have HP5 : Hid (w5.heap[p]? = some (.cells (acA ac) 27 (0, 0))) := Lib.hid (((hgrow.block p (by simp; omega) (fun e => by have := hLB.out p e.symm; omega)).trans (Below.heap_alloc _ _ _ (by omega))).trans HP2.out)
          have HLN : Hid (L = D ++ [(⟨WM.Ac.zero, 11, t⟩ : WM.We)]) := Lib.hid (by
            have hk := HK.out
            rw [hLD.out, hk.1, WM.entL_short (n := sz) (by rw [hk.2]; exact HSZ.out) (by rw [← Hr0.out]; omega)])
          have HBE : Hid (Below w.heap.size w w5) := Lib.hid (HB0.out.trans (HF5.out.below hww0 fun i hi => by omega))
          clear hown5 hgrow hat hlt5 hFt2 hOO hP hO hFt hLB
          go_wp2_with fail
          go_ret
          have h9 := els_own enC_len HO5.out rfl
          rw [HLN.out]
          exact ⟨some ⟨gg, 0, none⟩, cap', by simp, Lib.hid ⟨h9.1, fun b off e => by have := (h9.2 b off e).1; have := HEQ.out; omega⟩, HBE.out⟩
      · have t8 : decide ((8 : Int) ≤ kk) = true := decide_eq_true (by omega)
        go_wp2_with (first | (refine wpList_store_act rfl _ _ rfl p (kindA kk) rfl rfl act hP.out ?_; intro w2 hP2 hF2 hO2; have c0 : w2.cell? ⟨p, 0, none⟩ = some (.int .i64 kk) := cell_blk (i := 0) hP2 rfl; have HP2 := Lib.hid hP2; have hFt2 : Hid (Foot (· = p) w0 w2) := Lib.hid (hFt.out.trans hF2 fun i hi => .inl hi); have hOO : Hid (w2.ownsRow B0 49 12 (.slice a D.length cp) D.length (D.flatMap enC)) := Lib.hid (own_stay hO.out fun i hi => hO2 i (by have := hLB.out i hi; omega)); have hs2 := hF2.size; have hB02 : B0 ≤ w2.heap.size := (by omega); clear hP2 hF2 hO2) | (at_builtin; refine wpList_append_lies _ rfl _ _ 44 rfl B0 49 i0 _ 12 96 Try.underlying44 hi hz0 hz1 hz2 rfl (by decide) (.slice a D.length cp) D.length (D.flatMap enC) rfl (own_alloc hOO.out _) ⟨w2.heap.size, 0, none⟩ 1 1 [.int .i64 0, .int .i64 0, .int .i64 0, .int .i64 0, .int .i64 0, .int .i64 0, .int .i64 0, .int .i64 0, .int .i64 0, .int .i64 0, .int .i64 10, .int .i64 t] rfl rfl (World.news_of_block (cs := #[.int .i64 0, .int .i64 0, .int .i64 0, .int .i64 0, .int .i64 0, .int .i64 0, .int .i64 0, .int .i64 0, .int .i64 0, .int .i64 0, .int .i64 10, .int .i64 t]) (t := 49) (fr := (0, 0)) (heap_alloc_new w2 _)) (by simp [Value.oneCell']) (by omega) (by unfold maxLen; omega) (by omega) (by simp; omega) (w2.heap.size + 1) (by simp) ?_; intro gg cap' w5 hown5 hgrow hat hlt5))
        have HF5 : Hid (Foot (· = p) w0 w5) := Lib.hid ((hFt2.out.alloc _).grown hgrow fun i hi => .inr (hLB.out i hi))
        have HO5 : Hid (w5.ownsRow B0 49 12 (.slice (some ⟨gg, 0, none⟩) (D ++ [(⟨WM.Ac.zero, 10, t⟩ : WM.We)]).length cap') (D ++ [(⟨WM.Ac.zero, 10, t⟩ : WM.We)]).length ((D ++ [(⟨WM.Ac.zero, 10, t⟩ : WM.We)]).flatMap enC)) := Lib.hid (by
          rw [List.length_append, List.flatMap_append]
          simpa [enC, WM.Ac.zero] using hown5)
        have HL5 : Hid (∀ i, (Value.slice (some ⟨gg, 0, none⟩) (D ++ [(⟨WM.Ac.zero, 10, t⟩ : WM.We)]).length cap').ownBlock = some i → w0.heap.size ≤ i) := Lib.hid fun i hi => by
          obtain rfl : gg = i := by simpa [Value.ownBlock] using hi
          rcases hat with h | h
          · exact hLB.out _ h
          · have := hFt2.out.size; omega
        have HP5 : Hid (w5.heap[p]? = some (.cells (acA (kindA kk)) 27 (0, 0))) := Lib.hid (((hgrow.block p (by simp; omega) (fun e => by have := hLB.out p e.symm; omega)).trans (Below.heap_alloc _ _ _ (by omega))).trans HP2.out)
        have HLN : Hid (L = (D ++ [(⟨WM.Ac.zero, 10, t⟩ : WM.We)]) ++ WM.entL (t + 1) (l.drop (t + 1))) := Lib.hid (by
          have hk := HK.out
          rw [hLD.out, hk.1, WM.entL_bad (by rw [hk.2]; exact size_none kk h8), List.append_assoc]
          rfl)
        clear hown5 hgrow hat hlt5 hFt2 hOO hP hO hFt hLB
        go_wp2_with fail
        go_roundw
        case rel => exact ⟨t + 1, D ++ [(⟨WM.Ac.zero, 10, t⟩ : WM.We)], _, _, kindA kk, by go_num, by simp, by omega, by simp; omega, HLN, HP5, HO5, HF5, HL5⟩
        case measure => simp [intOf]; omega
    · obtain rfl : t = m := by omega
      have HLN : Hid (L = D) := Lib.hid (by rw [hLD.out, List.drop_of_length_le (by have := Hm.out; omega), WM.entL_nil, List.append_nil])
      have HBE : Hid (Below w.heap.size w wr) := Lib.hid (HB0.out.trans (hFt.out.below hww0 fun i hi => by omega))
      go_wp2_with fail
      go_ret
      have h9 := els_own enC_len hO.out rfl
      rw [HLN.out]
      exact ⟨_, _, rfl, Lib.hid ⟨h9.1, fun b off e => by have := (h9.2 b off e).1; have := HEQ.out; omega⟩, HBE.out⟩
end Go.Proofs.Ytplekkpfpidebaa
