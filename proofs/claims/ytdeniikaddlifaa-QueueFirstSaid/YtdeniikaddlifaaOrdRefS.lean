/- The document's Sort: put in one by one. -/
import Derived.Deep.DrawnRows
import Derived.Test.YtdeniikaddlifaaHeldTwo
import Derived.Test.YtdeniikaddlifaaOrdRef
import Derived.Test.YtdeniikaddlifaaOrdSorts
set_option maxRecDepth 100000
namespace Go.Proofs.Ytdeniikaddlifaa
open Go.RowKit
/-- Where a slice begins that is cut at k. -/
def atA (A : Option Addr) (k c : Nat) : Option Addr := if c = k then A else A.map (·.add (k * 10))
theorem run_slice_to {oi : Oper} {ρ : Operand → Value} {W : World} {p q : Operand} {A : Option Addr} {n c k : Nat} (ho : oi.op = .slice 31 p none (some q) none) (hp : ρ p = .slice A n c) (hq : ρ q = .int .i64 (k : Nat)) (hk : k ≤ c) :
    (execOp ρ oi).run Try.prog W = .ok (.value (.slice (atA A 0 c) k c)) W := by
  have ht : Try.prog.underlying 31 = some (.slice (Try.prog.elem 31)) := by kernel_rfl
  have he : Try.prog.elem 31 = 39 := by kernel_rfl
  unfold execOp
  simp only [ho, hp, hq, Option.map_none, Option.map_some, Sem.run_bind, run_sliceAt_slice W _ _ _ _ _ ht, run_slice_h W _ A n c ht .i64 (k : Nat) (by omega) (by omega), he, Try.sizeOf39, Result.andThen_ok, Sem.run_pure, sliced, Int.toNat_natCast, atA, Nat.sub_zero, Nat.zero_mul]
theorem run_slice_from {oi : Oper} {ρ : Operand → Value} {W : World} {p q : Operand} {A : Option Addr} {n c k : Nat} (ho : oi.op = .slice 31 p (some q) none none) (hp : ρ p = .slice A n c) (hq : ρ q = .int .i64 (k : Nat)) (hk : k ≤ n) :
    (execOp ρ oi).run Try.prog W = .ok (.value (.slice (atA A k c) (n - k) (c - k))) W := by
  have ht : Try.prog.underlying 31 = some (.slice (Try.prog.elem 31)) := by kernel_rfl
  have he : Try.prog.elem 31 = 39 := by kernel_rfl
  unfold execOp
  simp only [ho, hp, hq, Option.map_none, Option.map_some, Sem.run_bind, run_sliceAt_slice W _ _ _ _ _ ht, run_slice_l W _ A n c ht .i64 (k : Nat) (by omega) (by omega), he, Try.sizeOf39, Result.andThen_ok, Sem.run_pure, sliced, Int.toNat_natCast, atA]
theorem wts_from {w : World} {B : Nat} {A : Option Addr} {L : List Wt} (h : Wts w B A L) (k c : Nat) (hc : L.length ≤ c) : Wts w B (atA A k c) (L.drop k) := by
  unfold atA
  by_cases e : c = k
  · exact .inl (List.drop_eq_nil_of_le (by omega))
  · rw [if_neg e]
    rcases h with rfl | ⟨b, off, rfl, hb, hcc⟩
    · exact .inl (by simp)
    · refine .inr ⟨b, off + k * 10, by rw [Option.map_some, Addr.add_lit], hb, fun i x hx => ?_⟩
      rw [show off + k * 10 + i * 10 = off + (k + i) * 10 by omega]
      exact hcc (k + i) x (by rwa [List.getElem?_drop] at hx)
theorem wts_to {w : World} {B : Nat} {A : Option Addr} {L : List Wt} (h : Wts w B A L) (k c : Nat) (hc : L.length ≤ c) : Wts w B (atA A 0 c) (L.take k) := by
  rcases wts_from h 0 c hc with h | ⟨b, off, e, hb, hcc⟩
  · rw [List.drop_zero] at h; rw [h]; exact .inl (by simp)
  · refine .inr ⟨b, off, e, hb, fun i x hx => hcc i x ?_⟩
    rw [List.drop_zero]
    rw [List.getElem?_take] at hx
    split at hx
    · exact hx
    · cases hx
theorem own_base {w : World} {B B' k n : Nat} {t : TypeId} {v : Value} {xs : List Value} (h : w.ownsRow B t k v n xs) (hB : B' ≤ B) : w.ownsRow B' t k v n xs := by
  refine ⟨h.1, ?_⟩
  rcases h.2 with h1 | ⟨g, cap, cur, e, h2, h3⟩
  · exact .inl h1
  · exact .inr ⟨g, cap, cur, e, Nat.le_trans hB h2, h3⟩
set_option maxHeartbeats 40000000 in
theorem refsort_any (A0 : Option Addr) (c0 : Nat) (l : List Wt) (now age : Int) (w : World) (h : Wts w w.heap.size A0 l) (hn : l.length ≤ 1000) (h1 : 0 ≤ now) (h2 : now ≤ 2147483648) (h3 : 1 ≤ age) (h4 : age ≤ 1024) (hm : l.all mayW = true) :
    Calls Try.prog 23 #[.slice A0 l.length c0, .int .i64 now, .int .i64 age] w fun e w' => ∃ v D, e = .returned v ∧ Sorted now age l w w' v D ∧ Below w.heap.size w w' := by
  obtain ⟨i0, hi, hz0, hz1, hz2⟩ := info_parts info_wt
  obtain ⟨n, hl⟩ : ∃ n, n = l.length := ⟨_, rfl⟩
  have HA0 := Lib.hid (fun (x y : Wt) (hx : mayW x = true) (hy : mayW y = true) W => refahead_any x y now age W h1 h2 h3 h4 hx hy)
  have HL := Lib.hid (And.intro hl (And.intro h hm))
  rw [← hl] at hn ⊢
  have HX : Hid (∃ D : List Nat, D.Perm (List.range 0) ∧ D.Pairwise (OW.bef now age (eW l)) ∧ w.ownsRow w.heap.size 39 10 (.slice none 0 0) 0 ((D.map (eW l)).flatMap wtC)) := Lib.hid ⟨[], List.Perm.refl _, List.Pairwise.nil, World.ownsRow_nil _ _ _ _⟩
  have HB0 := Lib.hid (Below.refl w.heap.size w)
  clear hl h hm
  go_enter Try.func23, Try.ntmps23
  go_wp2
  go_loopw [7, 8] (fun vo vi wr => ∃ (i : Nat) (A : Option Addr) (c : Nat), vo = .slice A i c ∧ vi = .int .i64 (i : Nat) ∧ i ≤ n ∧ Hid (Below w.heap.size w wr) ∧ Hid (∃ D : List Nat, D.Perm (List.range i) ∧ D.Pairwise (OW.bef now age (eW l)) ∧ wr.ownsRow w.heap.size 39 10 (.slice A i c) i ((D.map (eW l)).flatMap wtC))) (fun _ vi _ => n - (intOf vi).toNat)
  case atStart => exact ⟨0, none, 0, rfl, rfl, by omega, HB0, HX⟩
  case round =>
    clear HB0 HX
    obtain ⟨i, A, c, rfl, rfl, hin, hB, hX⟩ := hrel
    by_cases hlt : i < n
    · obtain ⟨x, hx⟩ := get_lt (l := l) (k := i) (by rw [← HL.out.1]; exact hlt)
      obtain ⟨b, off, rfl, hb, hc⟩ := HL.out.2.1.at_ hx
      have hmx := List.all_eq_true.1 HL.out.2.2 x (List.mem_of_getElem? hx)
      have HCx := Lib.hid (hc i x hx)
      have HEx := Lib.hid (eW_at hx)
      have HMx := Lib.hid hmx
      obtain ⟨D, d1, d2, d3⟩ := hX.out
      have dl : D.length = i := by have := d1.length_eq; rwa [List.length_range] at this
      obtain ⟨els, elt⟩ := els_own wtC_len d3 (by rw [List.length_map, dl])
      have hic : i ≤ c := by
        rcases d3.2 with ⟨e, _⟩ | ⟨g, cap, cur, e, _, _, hcap, _⟩
        · injection e with _ e2 e3; omega
        · injection e with _ _ e3; omega
      have hcm : c ≤ maxLen := by
        rcases d3.2 with ⟨e, _⟩ | ⟨g, cap, cur, e, _, _, hcap, hm, _⟩
        · injection e with _ e2 e3; unfold maxLen; omega
        · injection e with _ _ e3; omega
      have hA0 : ∀ g go, A = some ⟨g, go, none⟩ → go = 0 := by
        intro g go e9
        rcases d3.2 with ⟨e, _⟩ | ⟨g', cap, cur, e, _⟩
        · injection e with e1 _ _; rw [e1] at e9; cases e9
        · injection e with e1 _ _; rw [e1] at e9; injection e9 with e9; injection e9 with _ e9; exact e9.symm
      have HA00 := Lib.hid hA0
      clear hA0
      have HD0 := Lib.hid (And.intro d1 (And.intro d2 (And.intro dl (And.intro els elt))))
      have hos := hB.out.size
      have HBo := hB
      obtain ⟨wo, hwo⟩ : ∃ wo, wo = wr := ⟨_, rfl⟩
      rw [← hwo] at HBo HD0 hos
      have t1 : decide (i < n) = true := decide_eq_true hlt
      have HP0 : Hid (Below wo.heap.size wo wr) := Lib.hid (by rw [hwo]; exact Below.refl _ _)
      have HI0 : Hid (∀ j y, i ≤ j → D[j]? = some y → aheadF now age (eW l i) (eW l y) = true) := Lib.hid (fun j y hj hy => by have := (List.getElem?_eq_some_iff.1 hy).1; omega)
      clear hx hmx hc d1 d2 d3 els elt hX hB hwo dl
      go_wp2
      go_loopw [9] (fun vk wr => ∃ k : Nat, vk = .int .i64 (k : Nat) ∧ k ≤ i ∧ Hid (Below wo.heap.size wo wr) ∧ Hid (∀ j y, k ≤ j → D[j]? = some y → aheadF now age (eW l i) (eW l y) = true)) (fun vk _ => (intOf vk).toNat)
      case atStart => exact ⟨i, rfl, Nat.le_refl _, HP0, HI0⟩
      case round =>
        clear HP0 HI0
        obtain ⟨k, rfl, hki, hP, hI⟩ := hrel
        by_cases hk0 : 0 < k
        · obtain ⟨kp, rfl⟩ : ∃ q, k = q + 1 := ⟨k - 1, by omega⟩
          obtain ⟨d1, d2, dl, els, elt⟩ := HD0.out
          obtain ⟨z, hz⟩ := get_lt (l := D) (k := kp) (by omega)
          obtain ⟨y, hy⟩ : ∃ y, y = eW l z := ⟨_, rfl⟩
          have hzr : z < l.length := by have := List.mem_range.1 (d1.mem_iff.1 (List.mem_of_getElem? hz)); have := HL.out.1; omega
          have hmy : mayW y = true := by rw [hy]; exact eW_may HL.out.2.2 hzr
          have hyD : (D.map (eW l))[kp]? = some y := by rw [List.getElem?_map, hz, hy]; rfl
          obtain ⟨g, go, rfl, hgb, hgc⟩ := els.at_ hyD
          have hgo : go = 0 := HA00.out g go rfl
          subst hgo
          have hsz := hP.out.size
          have c2 : WtAt wr g (kp * 10) y := by have := (hgc kp y hyD).keep hgb hP.out; rwa [Nat.zero_add] at this
          have c1 : WtAt wr b (off + i * 10) x := HCx.out.keep hb (HBo.out.trans (hP.out.mono hos))
          have lb : b < wr.heap.size := by omega
          have lg : g < wr.heap.size := by omega
          have HA := Lib.hid (fun W => HA0.out x y HMx.out hmy W)
          simp only [wtV] at HA
          obtain ⟨u, hu⟩ : ∃ u, u = aheadF now age x y := ⟨_, rfl⟩
          rw [← hu] at HA
          have HU : Hid (u = aheadF now age (eW l i) (eW l z)) := Lib.hid (by rw [hu, HEx.out, hy])
          have ea : ((kp : Int) + 1).toNat = kp + 1 := by omega
          have wk : IntKind.i64.wrap (kp : Int) = (kp : Int) := IntWalk.i64_in _ (by omega)
          have lk : kp < i := by omega
          have t2 : decide (0 < kp + 1) = true := decide_eq_true (by omega)
          have Hz := Lib.hid hz
          clear d1 d2 dl els elt hz hy hzr hmy hyD hgc hu
          cases u
          · go_wp2_with fail
            refine held_begin (fun w' : World => WtAt w' b (off + i * 10) x ∧ WtAt w' g (kp * 10) y) (by kernel_rfl) ?_
            have hBq0 : Below wr.heap.size wr wr.drew := (Below.refl _ _).drew
            have hSq0 : (fun w' : World => WtAt w' b (off + i * 10) x ∧ WtAt w' g (kp * 10) y) wr.drew := ⟨c1, c2⟩
            refine held_take (v := ?_) 0 18 rfl rfl (by kernel_rfl) (by kernel_rfl) (by kernel_rfl) (fun _ _ _ h => h) ⟨by rfl, ?_⟩ hSq0 ?_
            rotate_left
            · intro w' hw'; obtain ⟨x0, x1⟩ := hw'; go_simp; (try with_reducible rfl)
            simp only [Act.put, List.setIfInBounds_toArray, List.set_cons_zero, List.set_cons_succ]
            refine held_take (v := ?_) 1 19 rfl rfl (by kernel_rfl) (by kernel_rfl) (by kernel_rfl) (fun _ _ _ h => h) ⟨by rfl, ?_⟩ hSq0 ?_
            rotate_left
            · intro w' hw'; obtain ⟨x0, x1⟩ := hw'; go_simp; (try with_reducible rfl)
            simp only [Act.put, List.setIfInBounds_toArray, List.set_cons_zero, List.set_cons_succ]
            refine held_take (v := ?_) 2 20 rfl rfl (by kernel_rfl) (by kernel_rfl) (by kernel_rfl) (fun _ _ _ h => h) ⟨by rfl, ?_⟩ hSq0 ?_
            rotate_left
            · intro w' hw'; obtain ⟨x0, x1⟩ := hw'; go_simp; (try with_reducible rfl)
            simp only [Act.put, List.setIfInBounds_toArray, List.set_cons_zero, List.set_cons_succ]
            refine held_take (v := ?_) 3 21 rfl rfl (by kernel_rfl) (by kernel_rfl) (by kernel_rfl) (fun _ _ _ h => h) ⟨by rfl, ?_⟩ hSq0 ?_
            rotate_left
            · intro w' hw'; obtain ⟨x0, x1⟩ := hw'; go_simp; (try with_reducible rfl)
            simp only [Act.put, List.setIfInBounds_toArray, List.set_cons_zero, List.set_cons_succ]
            refine held_take (v := ?_) 4 22 rfl rfl (by kernel_rfl) (by kernel_rfl) (by kernel_rfl) (fun _ _ _ h => h) ⟨by rfl, ?_⟩ hSq0 ?_
            rotate_left
            · intro w' hw'; obtain ⟨x0, x1⟩ := hw'; go_simp; (try with_reducible rfl)
            simp only [Act.put, List.setIfInBounds_toArray, List.set_cons_zero, List.set_cons_succ]
            refine held_take (v := ?_) 5 23 rfl rfl (by kernel_rfl) (by kernel_rfl) (by kernel_rfl) (fun _ _ _ h => h) ⟨by rfl, ?_⟩ hSq0 ?_
            rotate_left
            · intro w' hw'; obtain ⟨x0, x1⟩ := hw'; go_simp; (try with_reducible rfl)
            simp only [Act.put, List.setIfInBounds_toArray, List.set_cons_zero, List.set_cons_succ]
            refine held_take (v := ?_) 6 24 rfl rfl (by kernel_rfl) (by kernel_rfl) (by kernel_rfl) (fun _ _ _ h => h) ⟨by rfl, ?_⟩ hSq0 ?_
            rotate_left
            · intro w' hw'; obtain ⟨x0, x1⟩ := hw'; refine Eq.trans (run_load_wt (by rfl) (by rfl) x0) ?_; (with_reducible rfl)
            simp only [Act.put, List.setIfInBounds_toArray, List.set_cons_zero, List.set_cons_succ]
            refine held_take (v := ?_) 7 25 rfl rfl (by kernel_rfl) (by kernel_rfl) (by kernel_rfl) (fun _ _ _ h => h) ⟨by rfl, ?_⟩ hSq0 ?_
            rotate_left
            · intro w' hw'; obtain ⟨x0, x1⟩ := hw'; go_simp; (try with_reducible rfl)
            simp only [Act.put, List.setIfInBounds_toArray, List.set_cons_zero, List.set_cons_succ]
            refine held_take (v := ?_) 8 26 rfl rfl (by kernel_rfl) (by kernel_rfl) (by kernel_rfl) (fun _ _ _ h => h) ⟨by rfl, ?_⟩ hSq0 ?_
            rotate_left
            · intro w' hw'; obtain ⟨x0, x1⟩ := hw'; go_simp; (try with_reducible rfl)
            simp only [Act.put, List.setIfInBounds_toArray, List.set_cons_zero, List.set_cons_succ]
            refine held_take (v := ?_) 9 27 rfl rfl (by kernel_rfl) (by kernel_rfl) (by kernel_rfl) (fun _ _ _ h => h) ⟨by rfl, ?_⟩ hSq0 ?_
            rotate_left
            · intro w' hw'; obtain ⟨x0, x1⟩ := hw'; go_simp; (try with_reducible rfl)
            simp only [Act.put, List.setIfInBounds_toArray, List.set_cons_zero, List.set_cons_succ]
            refine held_take (v := ?_) 10 28 rfl rfl (by kernel_rfl) (by kernel_rfl) (by kernel_rfl) (fun _ _ _ h => h) ⟨by rfl, ?_⟩ hSq0 ?_
            rotate_left
            · intro w' hw'; obtain ⟨x0, x1⟩ := hw'; go_simp; (try with_reducible rfl)
            simp only [Act.put, List.setIfInBounds_toArray, List.set_cons_zero, List.set_cons_succ]
            refine held_take (v := ?_) 11 29 rfl rfl (by kernel_rfl) (by kernel_rfl) (by kernel_rfl) (fun _ _ _ h => h) ⟨by rfl, ?_⟩ hSq0 ?_
            rotate_left
            · intro w' hw'; obtain ⟨x0, x1⟩ := hw'; refine Eq.trans (run_load_wt (by rfl) (by rfl) x1) ?_; (with_reducible rfl)
            simp only [Act.put, List.setIfInBounds_toArray, List.set_cons_zero, List.set_cons_succ]
            refine held_take (v := ?_) 12 30 rfl rfl (by kernel_rfl) (by kernel_rfl) (by kernel_rfl) (fun _ _ _ h => h) ⟨by rfl, ?_⟩ hSq0 ?_
            rotate_left
            · intro w' hw'; obtain ⟨x0, x1⟩ := hw'; go_simp; (try with_reducible rfl)
            simp only [Act.put, List.setIfInBounds_toArray, List.set_cons_zero, List.set_cons_succ]
            refine held_take (v := ?_) 13 31 rfl rfl (by kernel_rfl) (by kernel_rfl) (by kernel_rfl) (fun _ _ _ h => h) ⟨by rfl, ?_⟩ hSq0 ?_
            rotate_left
            · intro w' hw'; obtain ⟨x0, x1⟩ := hw'; go_simp; (try with_reducible rfl)
            simp only [Act.put, List.setIfInBounds_toArray, List.set_cons_zero, List.set_cons_succ]
            refine held_one 14 rfl (by kernel_rfl) (by rfl) (fun K hK => ?_)
            go_simp
            go_at_call 32
            refine (HA.out wr.drew).mono ?_
            rintro e wq1 ⟨rfl, hbq1⟩
            have hBq1 : Below wr.heap.size wr wq1 := below_step hBq0 hbq1
            have hSq1 : (fun w' : World => WtAt w' b (off + i * 10) x ∧ WtAt w' g (kp * 10) y) wq1 := ⟨c1.keep lb hBq1, c2.keep lg hBq1⟩
            refine hK.out _ _ hSq1 ?_
            clear hK K
            refine held_take (v := ?_) 15 33 rfl rfl (by kernel_rfl) (by kernel_rfl) (by kernel_rfl) (fun _ _ _ h => h) ⟨by rfl, ?_⟩ hSq1 ?_
            rotate_left
            · intro w' hw'; obtain ⟨x0, x1⟩ := hw'; go_simp; (try with_reducible rfl)
            simp only [Act.put, List.setIfInBounds_toArray, List.set_cons_zero, List.set_cons_succ]
            refine wpAnyH_done (by kernel_rfl) ?_ _
            have HQ := Lib.hid (below_step hP.out hBq1)
            have HNo : Hid (kp + 1 = 0 ∨ ∃ y, D[kp + 1 - 1]? = some y ∧ aheadF now age (eW l i) (eW l y) = false) := Lib.hid (.inr ⟨z, by rw [Nat.add_sub_cancel]; exact Hz.out, HU.out.symm⟩)
            have hki' : kp + 1 ≤ i := hki
            obtain ⟨k, hk⟩ : ∃ k, k = kp + 1 := ⟨_, rfl⟩
            rw [← hk] at HNo hI hki'
            have ek : (kp : Int) + 1 = (k : Int) := by omega
            rw [ek]
            obtain ⟨A, hA⟩ : ∃ A : Option Addr, A = some ⟨g, 0, none⟩ := ⟨_, rfl⟩
            rw [← hA] at HD0 ⊢
            clear hA HA00
            clear HA HU c1 c2 lb lg ea wk lk t2 Hz hP hki hsz hgb hk ek hBq0 hSq0 hbq1 hBq1 hSq1
            generalize wq1 = wq at HQ ⊢
            have hki := hki'
            clear hki'
            have Hwq := Lib.hid (show w.heap.size ≤ wq.heap.size by have := HBo.out.size; have := HQ.out.size; omega)
            have HBq := Lib.hid (HBo.out.trans (HQ.out.mono hos))
            obtain ⟨d1, d2, dl, els, elt⟩ := HD0.out
            have hmn : (D.map (eW l)).length ≤ c := by rw [List.length_map, dl]; exact hic
            obtain ⟨Lt, hLt⟩ : ∃ L, L = (D.map (eW l)).take k := ⟨_, rfl⟩
            obtain ⟨Ld, hLd⟩ : ∃ L, L = (D.map (eW l)).drop k := ⟨_, rfl⟩
            have hlk : Lt.length = k := by rw [hLt, List.length_take, List.length_map, dl]; omega
            have hld : Ld.length = i - k := by rw [hLd, List.length_drop, List.length_map, dl]
            have elq : Wts wq wq.heap.size A (D.map (eW l)) := els.keep HQ.out HQ.out.size
            have ht := Lib.hid (hLt ▸ wts_to elq k c hmn)
            have hd := Lib.hid (hLd ▸ wts_from elq k c hmn)
            obtain ⟨D2, hD2⟩ : ∃ M, M = D.take k ++ i :: D.drop k := ⟨_, rfl⟩
            have HP2 : Hid (D2.Perm (List.range (i + 1)) ∧ D2.Pairwise (OW.bef now age (eW l))) := Lib.hid (by rw [hD2]; exact OW.put_bef d1 d2 (by omega) HNo.out (fun j y hj hy => hI.out j y hj hy))
            have HD : Hid ((D2.map (eW l)).flatMap wtC = Lt.flatMap wtC ++ [x].flatMap wtC ++ Ld.flatMap wtC) := Lib.hid (by
              rw [hD2, hLt, hLd, List.map_append, List.map_cons, HEx.out, List.flatMap_append, List.flatMap_cons, List.map_take, List.map_drop]
              simp)
            have hkc : k ≤ c := by omega
            have lb : b < wq.heap.size := by have := Hwq.out; omega
            have c1 : WtAt wq b (off + i * 10) x := HCx.out.keep hb HBq.out
            clear d1 d2 els elt hmn hLt hLd elq hD2 HNo hI HQ HD0 dl
            go_wp2_with fail
            refine held_begin (fun w' : World => WtAt w' b (off + i * 10) x) (by kernel_rfl) ?_
            have hB0 : Below wq.heap.size wq wq.drew := (Below.refl _ _).drew
            have hS0 : (fun w' : World => WtAt w' b (off + i * 10) x) wq.drew := c1
            generalize wq.drew = wd at hB0 hS0 ⊢
            have sd := hB0.size
            refine held_take (v := ?_) 1 37 rfl rfl (by kernel_rfl) (by kernel_rfl) (by kernel_rfl) (fun _ _ _ h => h) ⟨by rfl, ?_⟩ hS0 ?_
            rotate_left
            · intro w' hw'; go_simp; (try with_reducible rfl)
            simp only [Act.put, List.setIfInBounds_toArray, List.set_cons_zero, List.set_cons_succ]
            refine held_take (v := ?_) 2 38 rfl rfl (by kernel_rfl) (by kernel_rfl) (by kernel_rfl) (fun _ _ _ h => h) ⟨by rfl, ?_⟩ hS0 ?_
            rotate_left
            · intro w' hw'; go_simp; (try with_reducible rfl)
            simp only [Act.put, List.setIfInBounds_toArray, List.set_cons_zero, List.set_cons_succ]
            refine held_take (v := ?_) 3 39 rfl rfl (by kernel_rfl) (by kernel_rfl) (by kernel_rfl) (fun _ _ _ h => h) ⟨by rfl, ?_⟩ hS0 ?_
            rotate_left
            · intro w' hw'; refine Eq.trans (run_slice_to (k := k) (by rfl) (by rfl) (by rfl) hkc) ?_; (with_reducible rfl)
            simp only [Act.put, List.setIfInBounds_toArray, List.set_cons_zero, List.set_cons_succ]
            refine held_take (v := ?_) 5 41 rfl rfl (by kernel_rfl) (by kernel_rfl) (by kernel_rfl) (fun _ _ _ h => h) ⟨by rfl, ?_⟩ hS0 ?_
            rotate_left
            · intro w' hw'; go_simp; (try with_reducible rfl)
            simp only [Act.put, List.setIfInBounds_toArray, List.set_cons_zero, List.set_cons_succ]
            refine held_take (v := ?_) 6 42 rfl rfl (by kernel_rfl) (by kernel_rfl) (by kernel_rfl) (fun _ _ _ h => h) ⟨by rfl, ?_⟩ hS0 ?_
            rotate_left
            · intro w' hw'; go_simp; (try with_reducible rfl)
            simp only [Act.put, List.setIfInBounds_toArray, List.set_cons_zero, List.set_cons_succ]
            refine held_take (v := ?_) 7 43 rfl rfl (by kernel_rfl) (by kernel_rfl) (by kernel_rfl) (fun _ _ _ h => h) ⟨by rfl, ?_⟩ hS0 ?_
            rotate_left
            · intro w' hw'; go_simp; (try with_reducible rfl)
            simp only [Act.put, List.setIfInBounds_toArray, List.set_cons_zero, List.set_cons_succ]
            refine held_take (v := ?_) 8 44 rfl rfl (by kernel_rfl) (by kernel_rfl) (by kernel_rfl) (fun _ _ _ h => h) ⟨by rfl, ?_⟩ hS0 ?_
            rotate_left
            · intro w' hw'; refine Eq.trans (run_load_wt (by rfl) (by rfl) hw') ?_; (with_reducible rfl)
            simp only [Act.put, List.setIfInBounds_toArray, List.set_cons_zero, List.set_cons_succ]
            refine held_take (v := ?_) 11 47 rfl rfl (by kernel_rfl) (by kernel_rfl) (by kernel_rfl) (fun _ _ _ h => h) ⟨by rfl, ?_⟩ hS0 ?_
            rotate_left
            · intro w' hw'; go_simp; (try with_reducible rfl)
            simp only [Act.put, List.setIfInBounds_toArray, List.set_cons_zero, List.set_cons_succ]
            refine held_take (v := ?_) 12 48 rfl rfl (by kernel_rfl) (by kernel_rfl) (by kernel_rfl) (fun _ _ _ h => h) ⟨by rfl, ?_⟩ hS0 ?_
            rotate_left
            · intro w' hw'; go_simp; (try with_reducible rfl)
            simp only [Act.put, List.setIfInBounds_toArray, List.set_cons_zero, List.set_cons_succ]
            refine held_take (v := ?_) 13 49 rfl rfl (by kernel_rfl) (by kernel_rfl) (by kernel_rfl) (fun _ _ _ h => h) ⟨by rfl, ?_⟩ hS0 ?_
            rotate_left
            · intro w' hw'; refine Eq.trans (run_slice_from (k := k) (by rfl) (by rfl) (by rfl) hki) ?_; (with_reducible rfl)
            simp only [Act.put, List.setIfInBounds_toArray, List.set_cons_zero, List.set_cons_succ]
            refine held_two 0 9 rfl rfl (by kernel_rfl) (by rfl) (by rfl) (fun K hK => ?_) (fun K hK => ?_)
            · go_simp
              obtain ⟨wa, hwa⟩ : ∃ x, x = wd.alloc (.cells #[] 39) := ⟨_, rfl⟩
              have ownE : wa.ownsRow wq.heap.size 39 10 (.slice (some ⟨wd.heap.size, 0, none⟩) 0 0) 0 [] := by rw [hwa]; exact World.ownsRow_lit wd #[] 0 (by omega) (by unfold maxLen; omega) rfl
              have hBa : Below wq.heap.size wq wa := by rw [hwa]; exact hB0.alloc hB0.size _
              have swa : wd.heap.size < wa.heap.size := by rw [hwa]; simp
              have bwa : Below wd.heap.size wd wa := by rw [hwa]; exact (Below.refl _ _).alloc (Nat.le_refl _) _
              have hSa : (fun w' : World => WtAt w' b (off + i * 10) x) wa := CellsAt.keep hS0 (by omega) bwa
              rw [← hwa]
              refine hK.out _ _ hSa ?_
              clear hK K hwa
              try simp only [Act.put, List.setIfInBounds_toArray, List.set_cons_zero, List.set_cons_succ]
              refine held_two 4 9 rfl rfl (by kernel_rfl) (by rfl) (by rfl) (fun K hK => ?_) (fun K hK => ?_)
              · simp only [Go.wp_at_zero, Go.wp_at_succ]
                refine wp_append_els (C := wtC) (k := 10) _ _ _ 31 rfl wq.heap.size 39 i0 _ 80 Try.underlying31 hi hz0 hz1 hz2 rfl (by decide) (.slice (some ⟨wd.heap.size, 0, none⟩) 0 0) 0 [] rfl ownE wq.heap.size (atA A 0 c) c k Lt rfl (ht.out.keep (hBa) (Nat.le_refl _)) hlk.symm wtC_len wtC_one (by unfold maxLen; omega) (by omega) (by omega) ?_
                intro A5 c5 wb own5 gwb kwb
                rw [Nat.zero_add] at own5 ⊢
                rw [List.nil_append] at own5
                have hob : ∀ j, (Value.slice (some ⟨wd.heap.size, 0, none⟩) 0 0).ownBlock = some j → j = wd.heap.size := fun j hj => by simpa [Value.ownBlock] using hj.symm
                have hBb : Below wq.heap.size wq wb := hBa.grown gwb (by omega) (fun j hj => by have := hob j hj; omega)
                have swb := gwb.size
                have hSb : (fun w' : World => WtAt w' b (off + i * 10) x) wb := CellsAt.of hSa (gwb.block b (by omega) (fun e => by have := hob b e.symm; omega))
                refine hK.out _ _ hSb ?_
                clear hK K
                try simp only [Act.put, List.setIfInBounds_toArray, List.set_cons_zero, List.set_cons_succ]
                have Own5 := Lib.hid own5
                clear own5 gwb kwb hob
                refine held_one 9 rfl (by kernel_rfl) (by rfl) (fun K hK => ?_)
                simp only [wtA]
                go_simp
                obtain ⟨wc, hwc⟩ : ∃ z, z = wb.alloc (wtO x) := ⟨_, rfl⟩
                have elsB : Wts wc wc.heap.size (some ⟨wb.heap.size, 0, none⟩) [x] := by rw [hwc]; exact els_blk wtC_len (wt_new wb x) (fun j v hj => by simpa [wtC, wtA] using hj)
                have hBc : Below wq.heap.size wq wc := by rw [hwc]; exact hBb.alloc hBb.size _
                have swc : wb.heap.size < wc.heap.size := by rw [hwc]; simp
                have bwc : Below wb.heap.size wb wc := by rw [hwc]; exact (Below.refl _ _).alloc (Nat.le_refl _) _
                have hSc : (fun w' : World => WtAt w' b (off + i * 10) x) wc := CellsAt.keep hSb (by omega) bwc
                simp only [wtO, wtA] at hwc
                rw [← hwc]
                refine hK.out _ _ hSc ?_
                clear hK K hwc
                try simp only [Act.put, List.setIfInBounds_toArray, List.set_cons_zero, List.set_cons_succ]
                have own5 := own_keep Own5.out bwc
                refine held_one 10 rfl (by kernel_rfl) (by rfl) (fun K hK => ?_)
                simp only [Go.wp_at_zero, Go.wp_at_succ]
                refine wp_append_els (C := wtC) (k := 10) _ _ _ 31 rfl wq.heap.size 39 i0 _ 80 Try.underlying31 hi hz0 hz1 hz2 rfl (by decide) (.slice A5 k c5) k _ rfl own5 _ (some ⟨wb.heap.size, 0, none⟩) 1 1 [x] rfl elsB rfl wtC_len wtC_one (by unfold maxLen; omega) (by omega) (by omega) ?_
                intro A7 c7 w7 own7 g7 k7
                have hob5 : ∀ j, (Value.slice A5 k c5).ownBlock = some j → wq.heap.size ≤ j := fun j hj => (own5.lt j hj).1
                have hB7 : Below wq.heap.size wq w7 := hBc.grown g7 (by omega) (fun j hj => by have := hob5 j hj; omega)
                have s7 := g7.size
                have hS7 : (fun w' : World => WtAt w' b (off + i * 10) x) w7 := CellsAt.of hSc (g7.block b (by omega) (fun e => by have := hob5 b e.symm; omega))
                refine hK.out _ _ hS7 ?_
                clear hK K
                try simp only [Act.put, List.setIfInBounds_toArray, List.set_cons_zero, List.set_cons_succ]
                refine held_one 14 rfl (by kernel_rfl) (by rfl) (fun K hK => ?_)
                simp only [Go.wp_at_zero, Go.wp_at_succ]
                refine wp_append_els (C := wtC) (k := 10) _ _ _ 31 rfl wq.heap.size 39 i0 _ 80 Try.underlying31 hi hz0 hz1 hz2 rfl (by decide) (.slice A7 (k + 1) c7) (k + 1) _ rfl own7 wq.heap.size (atA A k c) (c - k) (i - k) Ld rfl (hd.out.keep hB7 (Nat.le_refl _)) hld.symm wtC_len wtC_one (by unfold maxLen; omega) (by omega) (by omega) ?_
                intro A8 c8 w8 own8 g8 k8
                have hob7 : ∀ j, (Value.slice A7 (k + 1) c7).ownBlock = some j → wq.heap.size ≤ j := fun j hj => (own7.lt j hj).1
                have hB8 : Below wq.heap.size wq w8 := hB7.grown g8 (by omega) (fun j hj => by have := hob7 j hj; omega)
                have s8 := g8.size
                have hS8 : (fun w' : World => WtAt w' b (off + i * 10) x) w8 := CellsAt.of hS7 (g8.block b (by omega) (fun e => by have := hob7 b e.symm; omega))
                refine hK.out _ _ hS8 ?_
                clear hK K
                try simp only [Act.put, List.setIfInBounds_toArray, List.set_cons_zero, List.set_cons_succ]
                refine held_one 15 rfl (by kernel_rfl) (by rfl) (fun K hK => ?_)
                go_simp
                refine hK.out _ _ hS8 ?_
                clear hK K
                try simp only [Act.put, List.setIfInBounds_toArray, List.set_cons_zero, List.set_cons_succ]
                refine wpAnyH_done (by kernel_rfl) ?_ _
                have HO : Hid (w8.ownsRow w.heap.size 39 10 (.slice A8 (i + 1) c8) (i + 1) ((D2.map (eW l)).flatMap wtC)) := Lib.hid (by
                  have h1 := own8
                  rw [← HD.out, show k + 1 + (i - k) = i + 1 by omega] at h1
                  exact own_base h1 Hwq.out)
                have HB := Lib.hid (HBq.out.trans (hB8.mono Hwq.out))
                have ek : k + 1 + (i - k) = i + 1 := by omega
                rw [ek]
                clear own8 own7 own5 hS8 hS7 hob7 hob5 g8 g7 k8 k7 hB8 hB7 ek
                go_wp2
                go_roundw
                case rel => exact ⟨i + 1, _, _, rfl, by go_num, by omega, HB, Lib.hid ⟨D2, HP2.out.1, HP2.out.2, HO.out⟩⟩
                case measure => simp [intOf]; omega

              · simp only [wtA]
                go_simp
                obtain ⟨wb, hwb⟩ : ∃ z, z = wa.alloc (wtO x) := ⟨_, rfl⟩
                have elsB : Wts wb wb.heap.size (some ⟨wa.heap.size, 0, none⟩) [x] := by rw [hwb]; exact els_blk wtC_len (wt_new wa x) (fun j v hj => by simpa [wtC, wtA] using hj)
                have hBb : Below wq.heap.size wq wb := by rw [hwb]; exact hBa.alloc hBa.size _
                have swb : wa.heap.size < wb.heap.size := by rw [hwb]; simp
                have bwb : Below wa.heap.size wa wb := by rw [hwb]; exact (Below.refl _ _).alloc (Nat.le_refl _) _
                have hSb : (fun w' : World => WtAt w' b (off + i * 10) x) wb := CellsAt.keep hSa (by omega) bwb
                simp only [wtO, wtA] at hwb
                rw [← hwb]
                refine hK.out _ _ hSb ?_
                clear hK K hwb
                try simp only [Act.put, List.setIfInBounds_toArray, List.set_cons_zero, List.set_cons_succ]
                have ownE := own_keep ownE bwb
                refine held_one 4 rfl (by kernel_rfl) (by rfl) (fun K hK => ?_)
                simp only [Go.wp_at_zero, Go.wp_at_succ]
                refine wp_append_els (C := wtC) (k := 10) _ _ _ 31 rfl wq.heap.size 39 i0 _ 80 Try.underlying31 hi hz0 hz1 hz2 rfl (by decide) (.slice (some ⟨wd.heap.size, 0, none⟩) 0 0) 0 [] rfl ownE wq.heap.size (atA A 0 c) c k Lt rfl (ht.out.keep (hBb) (Nat.le_refl _)) hlk.symm wtC_len wtC_one (by unfold maxLen; omega) (by omega) (by omega) ?_
                intro A5 c5 wc own5 gwc kwc
                rw [Nat.zero_add] at own5 ⊢
                rw [List.nil_append] at own5
                have hob : ∀ j, (Value.slice (some ⟨wd.heap.size, 0, none⟩) 0 0).ownBlock = some j → j = wd.heap.size := fun j hj => by simpa [Value.ownBlock] using hj.symm
                have hBc : Below wq.heap.size wq wc := hBb.grown gwc (by omega) (fun j hj => by have := hob j hj; omega)
                have swc := gwc.size
                have hSc : (fun w' : World => WtAt w' b (off + i * 10) x) wc := CellsAt.of hSb (gwc.block b (by omega) (fun e => by have := hob b e.symm; omega))
                have elsB : Wts wc wc.heap.size (some ⟨wa.heap.size, 0, none⟩) [x] := (elsB.off (w' := wc) fun b2 o2 e2 hb2 => gwc.block b2 hb2 (fun e => by have := hob b2 e.symm; injection e2 with e2; injection e2 with e2; omega)).imp swc fun _ _ _ _ hd => hd
                refine hK.out _ _ hSc ?_
                clear hK K
                try simp only [Act.put, List.setIfInBounds_toArray, List.set_cons_zero, List.set_cons_succ]
                refine held_one 10 rfl (by kernel_rfl) (by rfl) (fun K hK => ?_)
                simp only [Go.wp_at_zero, Go.wp_at_succ]
                refine wp_append_els (C := wtC) (k := 10) _ _ _ 31 rfl wq.heap.size 39 i0 _ 80 Try.underlying31 hi hz0 hz1 hz2 rfl (by decide) (.slice A5 k c5) k _ rfl own5 _ (some ⟨wa.heap.size, 0, none⟩) 1 1 [x] rfl elsB rfl wtC_len wtC_one (by unfold maxLen; omega) (by omega) (by omega) ?_
                intro A7 c7 w7 own7 g7 k7
                have hob5 : ∀ j, (Value.slice A5 k c5).ownBlock = some j → wq.heap.size ≤ j := fun j hj => (own5.lt j hj).1
                have hB7 : Below wq.heap.size wq w7 := hBc.grown g7 (by omega) (fun j hj => by have := hob5 j hj; omega)
                have s7 := g7.size
                have hS7 : (fun w' : World => WtAt w' b (off + i * 10) x) w7 := CellsAt.of hSc (g7.block b (by omega) (fun e => by have := hob5 b e.symm; omega))
                refine hK.out _ _ hS7 ?_
                clear hK K
                try simp only [Act.put, List.setIfInBounds_toArray, List.set_cons_zero, List.set_cons_succ]
                refine held_one 14 rfl (by kernel_rfl) (by rfl) (fun K hK => ?_)
                simp only [Go.wp_at_zero, Go.wp_at_succ]
                refine wp_append_els (C := wtC) (k := 10) _ _ _ 31 rfl wq.heap.size 39 i0 _ 80 Try.underlying31 hi hz0 hz1 hz2 rfl (by decide) (.slice A7 (k + 1) c7) (k + 1) _ rfl own7 wq.heap.size (atA A k c) (c - k) (i - k) Ld rfl (hd.out.keep hB7 (Nat.le_refl _)) hld.symm wtC_len wtC_one (by unfold maxLen; omega) (by omega) (by omega) ?_
                intro A8 c8 w8 own8 g8 k8
                have hob7 : ∀ j, (Value.slice A7 (k + 1) c7).ownBlock = some j → wq.heap.size ≤ j := fun j hj => (own7.lt j hj).1
                have hB8 : Below wq.heap.size wq w8 := hB7.grown g8 (by omega) (fun j hj => by have := hob7 j hj; omega)
                have s8 := g8.size
                have hS8 : (fun w' : World => WtAt w' b (off + i * 10) x) w8 := CellsAt.of hS7 (g8.block b (by omega) (fun e => by have := hob7 b e.symm; omega))
                refine hK.out _ _ hS8 ?_
                clear hK K
                try simp only [Act.put, List.setIfInBounds_toArray, List.set_cons_zero, List.set_cons_succ]
                refine held_one 15 rfl (by kernel_rfl) (by rfl) (fun K hK => ?_)
                go_simp
                refine hK.out _ _ hS8 ?_
                clear hK K
                try simp only [Act.put, List.setIfInBounds_toArray, List.set_cons_zero, List.set_cons_succ]
                refine wpAnyH_done (by kernel_rfl) ?_ _
                have HO : Hid (w8.ownsRow w.heap.size 39 10 (.slice A8 (i + 1) c8) (i + 1) ((D2.map (eW l)).flatMap wtC)) := Lib.hid (by
                  have h1 := own8
                  rw [← HD.out, show k + 1 + (i - k) = i + 1 by omega] at h1
                  exact own_base h1 Hwq.out)
                have HB := Lib.hid (HBq.out.trans (hB8.mono Hwq.out))
                have ek : k + 1 + (i - k) = i + 1 := by omega
                rw [ek]
                clear own8 own7 own5 hS8 hS7 hob7 hob5 g8 g7 k8 k7 hB8 hB7 ek
                go_wp2
                go_roundw
                case rel => exact ⟨i + 1, _, _, rfl, by go_num, by omega, HB, Lib.hid ⟨D2, HP2.out.1, HP2.out.2, HO.out⟩⟩
                case measure => simp [intOf]; omega


            · simp only [wtA]
              go_simp
              obtain ⟨wa, hwa⟩ : ∃ z, z = wd.alloc (wtO x) := ⟨_, rfl⟩
              have elsB : Wts wa wa.heap.size (some ⟨wd.heap.size, 0, none⟩) [x] := by rw [hwa]; exact els_blk wtC_len (wt_new wd x) (fun j v hj => by simpa [wtC, wtA] using hj)
              have hBa : Below wq.heap.size wq wa := by rw [hwa]; exact hB0.alloc hB0.size _
              have swa : wd.heap.size < wa.heap.size := by rw [hwa]; simp
              have bwa : Below wd.heap.size wd wa := by rw [hwa]; exact (Below.refl _ _).alloc (Nat.le_refl _) _
              have hSa : (fun w' : World => WtAt w' b (off + i * 10) x) wa := CellsAt.keep hS0 (by omega) bwa
              simp only [wtO, wtA] at hwa
              rw [← hwa]
              refine hK.out _ _ hSa ?_
              clear hK K hwa
              try simp only [Act.put, List.setIfInBounds_toArray, List.set_cons_zero, List.set_cons_succ]
              refine held_one 0 rfl (by kernel_rfl) (by rfl) (fun K hK => ?_)
              go_simp
              obtain ⟨wb, hwb⟩ : ∃ x, x = wa.alloc (.cells #[] 39) := ⟨_, rfl⟩
              have ownE : wb.ownsRow wq.heap.size 39 10 (.slice (some ⟨wa.heap.size, 0, none⟩) 0 0) 0 [] := by rw [hwb]; exact World.ownsRow_lit wa #[] 0 (by omega) (by unfold maxLen; omega) rfl
              have hBb : Below wq.heap.size wq wb := by rw [hwb]; exact hBa.alloc hBa.size _
              have swb : wa.heap.size < wb.heap.size := by rw [hwb]; simp
              have bwb : Below wa.heap.size wa wb := by rw [hwb]; exact (Below.refl _ _).alloc (Nat.le_refl _) _
              have hSb : (fun w' : World => WtAt w' b (off + i * 10) x) wb := CellsAt.keep hSa (by omega) bwb
              rw [← hwb]
              refine hK.out _ _ hSb ?_
              clear hK K hwb
              try simp only [Act.put, List.setIfInBounds_toArray, List.set_cons_zero, List.set_cons_succ]
              have elsB : Wts wb wb.heap.size (some ⟨wd.heap.size, 0, none⟩) [x] := elsB.keep bwb (by omega)
              refine held_one 4 rfl (by kernel_rfl) (by rfl) (fun K hK => ?_)
              simp only [Go.wp_at_zero, Go.wp_at_succ]
              refine wp_append_els (C := wtC) (k := 10) _ _ _ 31 rfl wq.heap.size 39 i0 _ 80 Try.underlying31 hi hz0 hz1 hz2 rfl (by decide) (.slice (some ⟨wa.heap.size, 0, none⟩) 0 0) 0 [] rfl ownE wq.heap.size (atA A 0 c) c k Lt rfl (ht.out.keep (hBb) (Nat.le_refl _)) hlk.symm wtC_len wtC_one (by unfold maxLen; omega) (by omega) (by omega) ?_
              intro A5 c5 wc own5 gwc kwc
              rw [Nat.zero_add] at own5 ⊢
              rw [List.nil_append] at own5
              have hob : ∀ j, (Value.slice (some ⟨wa.heap.size, 0, none⟩) 0 0).ownBlock = some j → j = wa.heap.size := fun j hj => by simpa [Value.ownBlock] using hj.symm
              have hBc : Below wq.heap.size wq wc := hBb.grown gwc (by omega) (fun j hj => by have := hob j hj; omega)
              have swc := gwc.size
              have hSc : (fun w' : World => WtAt w' b (off + i * 10) x) wc := CellsAt.of hSb (gwc.block b (by omega) (fun e => by have := hob b e.symm; omega))
              have elsB : Wts wc wc.heap.size (some ⟨wd.heap.size, 0, none⟩) [x] := (elsB.off (w' := wc) fun b2 o2 e2 hb2 => gwc.block b2 hb2 (fun e => by have := hob b2 e.symm; injection e2 with e2; injection e2 with e2; omega)).imp swc fun _ _ _ _ hd => hd
              refine hK.out _ _ hSc ?_
              clear hK K
              try simp only [Act.put, List.setIfInBounds_toArray, List.set_cons_zero, List.set_cons_succ]
              refine held_one 10 rfl (by kernel_rfl) (by rfl) (fun K hK => ?_)
              simp only [Go.wp_at_zero, Go.wp_at_succ]
              refine wp_append_els (C := wtC) (k := 10) _ _ _ 31 rfl wq.heap.size 39 i0 _ 80 Try.underlying31 hi hz0 hz1 hz2 rfl (by decide) (.slice A5 k c5) k _ rfl own5 _ (some ⟨wd.heap.size, 0, none⟩) 1 1 [x] rfl elsB rfl wtC_len wtC_one (by unfold maxLen; omega) (by omega) (by omega) ?_
              intro A7 c7 w7 own7 g7 k7
              have hob5 : ∀ j, (Value.slice A5 k c5).ownBlock = some j → wq.heap.size ≤ j := fun j hj => (own5.lt j hj).1
              have hB7 : Below wq.heap.size wq w7 := hBc.grown g7 (by omega) (fun j hj => by have := hob5 j hj; omega)
              have s7 := g7.size
              have hS7 : (fun w' : World => WtAt w' b (off + i * 10) x) w7 := CellsAt.of hSc (g7.block b (by omega) (fun e => by have := hob5 b e.symm; omega))
              refine hK.out _ _ hS7 ?_
              clear hK K
              try simp only [Act.put, List.setIfInBounds_toArray, List.set_cons_zero, List.set_cons_succ]
              refine held_one 14 rfl (by kernel_rfl) (by rfl) (fun K hK => ?_)
              simp only [Go.wp_at_zero, Go.wp_at_succ]
              refine wp_append_els (C := wtC) (k := 10) _ _ _ 31 rfl wq.heap.size 39 i0 _ 80 Try.underlying31 hi hz0 hz1 hz2 rfl (by decide) (.slice A7 (k + 1) c7) (k + 1) _ rfl own7 wq.heap.size (atA A k c) (c - k) (i - k) Ld rfl (hd.out.keep hB7 (Nat.le_refl _)) hld.symm wtC_len wtC_one (by unfold maxLen; omega) (by omega) (by omega) ?_
              intro A8 c8 w8 own8 g8 k8
              have hob7 : ∀ j, (Value.slice A7 (k + 1) c7).ownBlock = some j → wq.heap.size ≤ j := fun j hj => (own7.lt j hj).1
              have hB8 : Below wq.heap.size wq w8 := hB7.grown g8 (by omega) (fun j hj => by have := hob7 j hj; omega)
              have s8 := g8.size
              have hS8 : (fun w' : World => WtAt w' b (off + i * 10) x) w8 := CellsAt.of hS7 (g8.block b (by omega) (fun e => by have := hob7 b e.symm; omega))
              refine hK.out _ _ hS8 ?_
              clear hK K
              try simp only [Act.put, List.setIfInBounds_toArray, List.set_cons_zero, List.set_cons_succ]
              refine held_one 15 rfl (by kernel_rfl) (by rfl) (fun K hK => ?_)
              go_simp
              refine hK.out _ _ hS8 ?_
              clear hK K
              try simp only [Act.put, List.setIfInBounds_toArray, List.set_cons_zero, List.set_cons_succ]
              refine wpAnyH_done (by kernel_rfl) ?_ _
              have HO : Hid (w8.ownsRow w.heap.size 39 10 (.slice A8 (i + 1) c8) (i + 1) ((D2.map (eW l)).flatMap wtC)) := Lib.hid (by
                have h1 := own8
                rw [← HD.out, show k + 1 + (i - k) = i + 1 by omega] at h1
                exact own_base h1 Hwq.out)
              have HB := Lib.hid (HBq.out.trans (hB8.mono Hwq.out))
              have ek : k + 1 + (i - k) = i + 1 := by omega
              rw [ek]
              clear own8 own7 own5 hS8 hS7 hob7 hob5 g8 g7 k8 k7 hB8 hB7 ek
              go_wp2
              go_roundw
              case rel => exact ⟨i + 1, _, _, rfl, by go_num, by omega, HB, Lib.hid ⟨D2, HP2.out.1, HP2.out.2, HO.out⟩⟩
              case measure => simp [intOf]; omega


          · go_wp2_with fail
            refine held_begin (fun w' : World => WtAt w' b (off + i * 10) x ∧ WtAt w' g (kp * 10) y) (by kernel_rfl) ?_
            have hBq0 : Below wr.heap.size wr wr.drew := (Below.refl _ _).drew
            have hSq0 : (fun w' : World => WtAt w' b (off + i * 10) x ∧ WtAt w' g (kp * 10) y) wr.drew := ⟨c1, c2⟩
            refine held_take (v := ?_) 0 18 rfl rfl (by kernel_rfl) (by kernel_rfl) (by kernel_rfl) (fun _ _ _ h => h) ⟨by rfl, ?_⟩ hSq0 ?_
            rotate_left
            · intro w' hw'; obtain ⟨x0, x1⟩ := hw'; go_simp; (try with_reducible rfl)
            simp only [Act.put, List.setIfInBounds_toArray, List.set_cons_zero, List.set_cons_succ]
            refine held_take (v := ?_) 1 19 rfl rfl (by kernel_rfl) (by kernel_rfl) (by kernel_rfl) (fun _ _ _ h => h) ⟨by rfl, ?_⟩ hSq0 ?_
            rotate_left
            · intro w' hw'; obtain ⟨x0, x1⟩ := hw'; go_simp; (try with_reducible rfl)
            simp only [Act.put, List.setIfInBounds_toArray, List.set_cons_zero, List.set_cons_succ]
            refine held_take (v := ?_) 2 20 rfl rfl (by kernel_rfl) (by kernel_rfl) (by kernel_rfl) (fun _ _ _ h => h) ⟨by rfl, ?_⟩ hSq0 ?_
            rotate_left
            · intro w' hw'; obtain ⟨x0, x1⟩ := hw'; go_simp; (try with_reducible rfl)
            simp only [Act.put, List.setIfInBounds_toArray, List.set_cons_zero, List.set_cons_succ]
            refine held_take (v := ?_) 3 21 rfl rfl (by kernel_rfl) (by kernel_rfl) (by kernel_rfl) (fun _ _ _ h => h) ⟨by rfl, ?_⟩ hSq0 ?_
            rotate_left
            · intro w' hw'; obtain ⟨x0, x1⟩ := hw'; go_simp; (try with_reducible rfl)
            simp only [Act.put, List.setIfInBounds_toArray, List.set_cons_zero, List.set_cons_succ]
            refine held_take (v := ?_) 4 22 rfl rfl (by kernel_rfl) (by kernel_rfl) (by kernel_rfl) (fun _ _ _ h => h) ⟨by rfl, ?_⟩ hSq0 ?_
            rotate_left
            · intro w' hw'; obtain ⟨x0, x1⟩ := hw'; go_simp; (try with_reducible rfl)
            simp only [Act.put, List.setIfInBounds_toArray, List.set_cons_zero, List.set_cons_succ]
            refine held_take (v := ?_) 5 23 rfl rfl (by kernel_rfl) (by kernel_rfl) (by kernel_rfl) (fun _ _ _ h => h) ⟨by rfl, ?_⟩ hSq0 ?_
            rotate_left
            · intro w' hw'; obtain ⟨x0, x1⟩ := hw'; go_simp; (try with_reducible rfl)
            simp only [Act.put, List.setIfInBounds_toArray, List.set_cons_zero, List.set_cons_succ]
            refine held_take (v := ?_) 6 24 rfl rfl (by kernel_rfl) (by kernel_rfl) (by kernel_rfl) (fun _ _ _ h => h) ⟨by rfl, ?_⟩ hSq0 ?_
            rotate_left
            · intro w' hw'; obtain ⟨x0, x1⟩ := hw'; refine Eq.trans (run_load_wt (by rfl) (by rfl) x0) ?_; (with_reducible rfl)
            simp only [Act.put, List.setIfInBounds_toArray, List.set_cons_zero, List.set_cons_succ]
            refine held_take (v := ?_) 7 25 rfl rfl (by kernel_rfl) (by kernel_rfl) (by kernel_rfl) (fun _ _ _ h => h) ⟨by rfl, ?_⟩ hSq0 ?_
            rotate_left
            · intro w' hw'; obtain ⟨x0, x1⟩ := hw'; go_simp; (try with_reducible rfl)
            simp only [Act.put, List.setIfInBounds_toArray, List.set_cons_zero, List.set_cons_succ]
            refine held_take (v := ?_) 8 26 rfl rfl (by kernel_rfl) (by kernel_rfl) (by kernel_rfl) (fun _ _ _ h => h) ⟨by rfl, ?_⟩ hSq0 ?_
            rotate_left
            · intro w' hw'; obtain ⟨x0, x1⟩ := hw'; go_simp; (try with_reducible rfl)
            simp only [Act.put, List.setIfInBounds_toArray, List.set_cons_zero, List.set_cons_succ]
            refine held_take (v := ?_) 9 27 rfl rfl (by kernel_rfl) (by kernel_rfl) (by kernel_rfl) (fun _ _ _ h => h) ⟨by rfl, ?_⟩ hSq0 ?_
            rotate_left
            · intro w' hw'; obtain ⟨x0, x1⟩ := hw'; go_simp; (try with_reducible rfl)
            simp only [Act.put, List.setIfInBounds_toArray, List.set_cons_zero, List.set_cons_succ]
            refine held_take (v := ?_) 10 28 rfl rfl (by kernel_rfl) (by kernel_rfl) (by kernel_rfl) (fun _ _ _ h => h) ⟨by rfl, ?_⟩ hSq0 ?_
            rotate_left
            · intro w' hw'; obtain ⟨x0, x1⟩ := hw'; go_simp; (try with_reducible rfl)
            simp only [Act.put, List.setIfInBounds_toArray, List.set_cons_zero, List.set_cons_succ]
            refine held_take (v := ?_) 11 29 rfl rfl (by kernel_rfl) (by kernel_rfl) (by kernel_rfl) (fun _ _ _ h => h) ⟨by rfl, ?_⟩ hSq0 ?_
            rotate_left
            · intro w' hw'; obtain ⟨x0, x1⟩ := hw'; refine Eq.trans (run_load_wt (by rfl) (by rfl) x1) ?_; (with_reducible rfl)
            simp only [Act.put, List.setIfInBounds_toArray, List.set_cons_zero, List.set_cons_succ]
            refine held_take (v := ?_) 12 30 rfl rfl (by kernel_rfl) (by kernel_rfl) (by kernel_rfl) (fun _ _ _ h => h) ⟨by rfl, ?_⟩ hSq0 ?_
            rotate_left
            · intro w' hw'; obtain ⟨x0, x1⟩ := hw'; go_simp; (try with_reducible rfl)
            simp only [Act.put, List.setIfInBounds_toArray, List.set_cons_zero, List.set_cons_succ]
            refine held_take (v := ?_) 13 31 rfl rfl (by kernel_rfl) (by kernel_rfl) (by kernel_rfl) (fun _ _ _ h => h) ⟨by rfl, ?_⟩ hSq0 ?_
            rotate_left
            · intro w' hw'; obtain ⟨x0, x1⟩ := hw'; go_simp; (try with_reducible rfl)
            simp only [Act.put, List.setIfInBounds_toArray, List.set_cons_zero, List.set_cons_succ]
            refine held_one 14 rfl (by kernel_rfl) (by rfl) (fun K hK => ?_)
            go_simp
            go_at_call 32
            refine (HA.out wr.drew).mono ?_
            rintro e wq1 ⟨rfl, hbq1⟩
            have hBq1 : Below wr.heap.size wr wq1 := below_step hBq0 hbq1
            have hSq1 : (fun w' : World => WtAt w' b (off + i * 10) x ∧ WtAt w' g (kp * 10) y) wq1 := ⟨c1.keep lb hBq1, c2.keep lg hBq1⟩
            refine hK.out _ _ hSq1 ?_
            clear hK K
            refine held_take (v := ?_) 15 33 rfl rfl (by kernel_rfl) (by kernel_rfl) (by kernel_rfl) (fun _ _ _ h => h) ⟨by rfl, ?_⟩ hSq1 ?_
            rotate_left
            · intro w' hw'; obtain ⟨x0, x1⟩ := hw'; go_simp; (try with_reducible rfl)
            simp only [Act.put, List.setIfInBounds_toArray, List.set_cons_zero, List.set_cons_succ]
            refine wpAnyH_done (by kernel_rfl) ?_ _
            have HQ := Lib.hid (below_step hP.out hBq1)
            have HN : Hid (∀ j y, kp ≤ j → D[j]? = some y → aheadF now age (eW l i) (eW l y) = true) := Lib.hid (fun j y2 hj hy2 => by
              by_cases e : j = kp
              · subst e
                have := Hz.out.symm.trans hy2
                cases this
                exact HU.out.symm
              · exact hI.out j y2 (by omega) hy2)
            clear HA HU c1 c2 lb lg ea t2 Hz hP hI hsz hgb hBq0 hSq0 hbq1 hBq1 hSq1
            generalize wq1 = wq at HQ ⊢
            go_wp2
            go_roundw
            case rel => exact ⟨kp, by go_num, by omega, HQ, HN⟩
            case measure => simp [intOf]
        · obtain rfl : k = 0 := by omega
          have t2 : decide ((0 : Int) < 0) = false := by decide
          have t3 : decide ((0 : Nat) < 0) = false := by decide
          go_wp2_with fail
          refine held_begin (fun w' : World => True) (by kernel_rfl) ?_
          have hBs0 : Below wr.heap.size wr wr.drew := (Below.refl _ _).drew
          have hSs0 : (fun w' : World => True) wr.drew := trivial
          refine held_take (v := ?_) 0 18 rfl rfl (by kernel_rfl) (by kernel_rfl) (by kernel_rfl) (fun _ _ _ h => h) ⟨by rfl, ?_⟩ hSs0 ?_
          rotate_left
          · intro w' hw'; obtain _ := hw'; go_simp; (try with_reducible rfl)
          simp only [Act.put, List.setIfInBounds_toArray, List.set_cons_zero, List.set_cons_succ]
          refine held_take (v := ?_) 1 19 rfl rfl (by kernel_rfl) (by kernel_rfl) (by kernel_rfl) (fun _ _ _ h => h) ⟨by rfl, ?_⟩ hSs0 ?_
          rotate_left
          · intro w' hw'; obtain _ := hw'; go_simp; (try with_reducible rfl)
          simp only [Act.put, List.setIfInBounds_toArray, List.set_cons_zero, List.set_cons_succ]
          refine held_take (v := ?_) 2 20 rfl rfl (by kernel_rfl) (by kernel_rfl) (by kernel_rfl) (fun _ _ _ h => h) ⟨by rfl, ?_⟩ hSs0 ?_
          rotate_left
          · intro w' hw'; obtain _ := hw'; go_simp; (try with_reducible rfl)
          simp only [Act.put, List.setIfInBounds_toArray, List.set_cons_zero, List.set_cons_succ]
          refine held_skip 3 21 rfl rfl (by kernel_rfl) (by kernel_rfl) (by kernel_rfl) (fun _ _ _ h => h) (by rfl) hSs0 ?_
          simp only [Act.put, List.setIfInBounds_toArray, List.set_cons_zero, List.set_cons_succ]
          refine held_skip 4 22 rfl rfl (by kernel_rfl) (by kernel_rfl) (by kernel_rfl) (fun _ _ _ h => h) (by rfl) hSs0 ?_
          simp only [Act.put, List.setIfInBounds_toArray, List.set_cons_zero, List.set_cons_succ]
          refine held_skip 5 23 rfl rfl (by kernel_rfl) (by kernel_rfl) (by kernel_rfl) (fun _ _ _ h => h) (by rfl) hSs0 ?_
          simp only [Act.put, List.setIfInBounds_toArray, List.set_cons_zero, List.set_cons_succ]
          refine held_skip 6 24 rfl rfl (by kernel_rfl) (by kernel_rfl) (by kernel_rfl) (fun _ _ _ h => h) (by rfl) hSs0 ?_
          simp only [Act.put, List.setIfInBounds_toArray, List.set_cons_zero, List.set_cons_succ]
          refine held_skip 7 25 rfl rfl (by kernel_rfl) (by kernel_rfl) (by kernel_rfl) (fun _ _ _ h => h) (by rfl) hSs0 ?_
          simp only [Act.put, List.setIfInBounds_toArray, List.set_cons_zero, List.set_cons_succ]
          refine held_skip 8 26 rfl rfl (by kernel_rfl) (by kernel_rfl) (by kernel_rfl) (fun _ _ _ h => h) (by rfl) hSs0 ?_
          simp only [Act.put, List.setIfInBounds_toArray, List.set_cons_zero, List.set_cons_succ]
          refine held_skip 9 27 rfl rfl (by kernel_rfl) (by kernel_rfl) (by kernel_rfl) (fun _ _ _ h => h) (by rfl) hSs0 ?_
          simp only [Act.put, List.setIfInBounds_toArray, List.set_cons_zero, List.set_cons_succ]
          refine held_skip 10 28 rfl rfl (by kernel_rfl) (by kernel_rfl) (by kernel_rfl) (fun _ _ _ h => h) (by rfl) hSs0 ?_
          simp only [Act.put, List.setIfInBounds_toArray, List.set_cons_zero, List.set_cons_succ]
          refine held_skip 11 29 rfl rfl (by kernel_rfl) (by kernel_rfl) (by kernel_rfl) (fun _ _ _ h => h) (by rfl) hSs0 ?_
          simp only [Act.put, List.setIfInBounds_toArray, List.set_cons_zero, List.set_cons_succ]
          refine held_skip 12 30 rfl rfl (by kernel_rfl) (by kernel_rfl) (by kernel_rfl) (fun _ _ _ h => h) (by rfl) hSs0 ?_
          simp only [Act.put, List.setIfInBounds_toArray, List.set_cons_zero, List.set_cons_succ]
          refine held_skip 13 31 rfl rfl (by kernel_rfl) (by kernel_rfl) (by kernel_rfl) (fun _ _ _ h => h) (by rfl) hSs0 ?_
          simp only [Act.put, List.setIfInBounds_toArray, List.set_cons_zero, List.set_cons_succ]
          refine held_skip 14 32 rfl rfl (by kernel_rfl) (by kernel_rfl) (by kernel_rfl) (fun _ _ _ h => h) (by rfl) hSs0 ?_
          simp only [Act.put, List.setIfInBounds_toArray, List.set_cons_zero, List.set_cons_succ]
          refine held_take (v := ?_) 15 33 rfl rfl (by kernel_rfl) (by kernel_rfl) (by kernel_rfl) (fun _ _ _ h => h) ⟨by rfl, ?_⟩ hSs0 ?_
          rotate_left
          · intro w' hw'; obtain _ := hw'; go_simp; (try with_reducible rfl)
          simp only [Act.put, List.setIfInBounds_toArray, List.set_cons_zero, List.set_cons_succ]
          refine wpAnyH_done (by kernel_rfl) ?_ _
          have HQ := Lib.hid (hP.out.drew)
          clear hP t2 t3 hk0 hBs0 hSs0
          generalize wr.drew = wq at HQ ⊢
          obtain ⟨k, hk⟩ : ∃ k : Nat, k = 0 := ⟨_, rfl⟩
          have ek : ((0 : Nat) : Int) = (k : Int) := by rw [hk]
          rw [← hk] at hI hki
          have HNo : Hid (k = 0 ∨ ∃ y, D[k - 1]? = some y ∧ aheadF now age (eW l i) (eW l y) = false) := Lib.hid (.inl hk)
          rw [ek]
          clear hk ek
          have Hwq := Lib.hid (show w.heap.size ≤ wq.heap.size by have := HBo.out.size; have := HQ.out.size; omega)
          have HBq := Lib.hid (HBo.out.trans (HQ.out.mono hos))
          obtain ⟨d1, d2, dl, els, elt⟩ := HD0.out
          have hmn : (D.map (eW l)).length ≤ c := by rw [List.length_map, dl]; exact hic
          obtain ⟨Lt, hLt⟩ : ∃ L, L = (D.map (eW l)).take k := ⟨_, rfl⟩
          obtain ⟨Ld, hLd⟩ : ∃ L, L = (D.map (eW l)).drop k := ⟨_, rfl⟩
          have hlk : Lt.length = k := by rw [hLt, List.length_take, List.length_map, dl]; omega
          have hld : Ld.length = i - k := by rw [hLd, List.length_drop, List.length_map, dl]
          have elq : Wts wq wq.heap.size A (D.map (eW l)) := els.keep HQ.out HQ.out.size
          have ht := Lib.hid (hLt ▸ wts_to elq k c hmn)
          have hd := Lib.hid (hLd ▸ wts_from elq k c hmn)
          obtain ⟨D2, hD2⟩ : ∃ M, M = D.take k ++ i :: D.drop k := ⟨_, rfl⟩
          have HP2 : Hid (D2.Perm (List.range (i + 1)) ∧ D2.Pairwise (OW.bef now age (eW l))) := Lib.hid (by rw [hD2]; exact OW.put_bef d1 d2 (by omega) HNo.out (fun j y hj hy => hI.out j y hj hy))
          have HD : Hid ((D2.map (eW l)).flatMap wtC = Lt.flatMap wtC ++ [x].flatMap wtC ++ Ld.flatMap wtC) := Lib.hid (by
            rw [hD2, hLt, hLd, List.map_append, List.map_cons, HEx.out, List.flatMap_append, List.flatMap_cons, List.map_take, List.map_drop]
            simp)
          have hkc : k ≤ c := by omega
          have lb : b < wq.heap.size := by have := Hwq.out; omega
          have c1 : WtAt wq b (off + i * 10) x := HCx.out.keep hb HBq.out
          clear d1 d2 els elt hmn hLt hLd elq hD2 HNo hI HQ HD0 dl
          go_wp2_with fail
          refine held_begin (fun w' : World => WtAt w' b (off + i * 10) x) (by kernel_rfl) ?_
          have hB0 : Below wq.heap.size wq wq.drew := (Below.refl _ _).drew
          have hS0 : (fun w' : World => WtAt w' b (off + i * 10) x) wq.drew := c1
          generalize wq.drew = wd at hB0 hS0 ⊢
          have sd := hB0.size
          refine held_take (v := ?_) 1 37 rfl rfl (by kernel_rfl) (by kernel_rfl) (by kernel_rfl) (fun _ _ _ h => h) ⟨by rfl, ?_⟩ hS0 ?_
          rotate_left
          · intro w' hw'; go_simp; (try with_reducible rfl)
          simp only [Act.put, List.setIfInBounds_toArray, List.set_cons_zero, List.set_cons_succ]
          refine held_take (v := ?_) 2 38 rfl rfl (by kernel_rfl) (by kernel_rfl) (by kernel_rfl) (fun _ _ _ h => h) ⟨by rfl, ?_⟩ hS0 ?_
          rotate_left
          · intro w' hw'; go_simp; (try with_reducible rfl)
          simp only [Act.put, List.setIfInBounds_toArray, List.set_cons_zero, List.set_cons_succ]
          refine held_take (v := ?_) 3 39 rfl rfl (by kernel_rfl) (by kernel_rfl) (by kernel_rfl) (fun _ _ _ h => h) ⟨by rfl, ?_⟩ hS0 ?_
          rotate_left
          · intro w' hw'; refine Eq.trans (run_slice_to (k := k) (by rfl) (by rfl) (by rfl) hkc) ?_; (with_reducible rfl)
          simp only [Act.put, List.setIfInBounds_toArray, List.set_cons_zero, List.set_cons_succ]
          refine held_take (v := ?_) 5 41 rfl rfl (by kernel_rfl) (by kernel_rfl) (by kernel_rfl) (fun _ _ _ h => h) ⟨by rfl, ?_⟩ hS0 ?_
          rotate_left
          · intro w' hw'; go_simp; (try with_reducible rfl)
          simp only [Act.put, List.setIfInBounds_toArray, List.set_cons_zero, List.set_cons_succ]
          refine held_take (v := ?_) 6 42 rfl rfl (by kernel_rfl) (by kernel_rfl) (by kernel_rfl) (fun _ _ _ h => h) ⟨by rfl, ?_⟩ hS0 ?_
          rotate_left
          · intro w' hw'; go_simp; (try with_reducible rfl)
          simp only [Act.put, List.setIfInBounds_toArray, List.set_cons_zero, List.set_cons_succ]
          refine held_take (v := ?_) 7 43 rfl rfl (by kernel_rfl) (by kernel_rfl) (by kernel_rfl) (fun _ _ _ h => h) ⟨by rfl, ?_⟩ hS0 ?_
          rotate_left
          · intro w' hw'; go_simp; (try with_reducible rfl)
          simp only [Act.put, List.setIfInBounds_toArray, List.set_cons_zero, List.set_cons_succ]
          refine held_take (v := ?_) 8 44 rfl rfl (by kernel_rfl) (by kernel_rfl) (by kernel_rfl) (fun _ _ _ h => h) ⟨by rfl, ?_⟩ hS0 ?_
          rotate_left
          · intro w' hw'; refine Eq.trans (run_load_wt (by rfl) (by rfl) hw') ?_; (with_reducible rfl)
          simp only [Act.put, List.setIfInBounds_toArray, List.set_cons_zero, List.set_cons_succ]
          refine held_take (v := ?_) 11 47 rfl rfl (by kernel_rfl) (by kernel_rfl) (by kernel_rfl) (fun _ _ _ h => h) ⟨by rfl, ?_⟩ hS0 ?_
          rotate_left
          · intro w' hw'; go_simp; (try with_reducible rfl)
          simp only [Act.put, List.setIfInBounds_toArray, List.set_cons_zero, List.set_cons_succ]
          refine held_take (v := ?_) 12 48 rfl rfl (by kernel_rfl) (by kernel_rfl) (by kernel_rfl) (fun _ _ _ h => h) ⟨by rfl, ?_⟩ hS0 ?_
          rotate_left
          · intro w' hw'; go_simp; (try with_reducible rfl)
          simp only [Act.put, List.setIfInBounds_toArray, List.set_cons_zero, List.set_cons_succ]
          refine held_take (v := ?_) 13 49 rfl rfl (by kernel_rfl) (by kernel_rfl) (by kernel_rfl) (fun _ _ _ h => h) ⟨by rfl, ?_⟩ hS0 ?_
          rotate_left
          · intro w' hw'; refine Eq.trans (run_slice_from (k := k) (by rfl) (by rfl) (by rfl) hki) ?_; (with_reducible rfl)
          simp only [Act.put, List.setIfInBounds_toArray, List.set_cons_zero, List.set_cons_succ]
          refine held_two 0 9 rfl rfl (by kernel_rfl) (by rfl) (by rfl) (fun K hK => ?_) (fun K hK => ?_)
          · go_simp
            obtain ⟨wa, hwa⟩ : ∃ x, x = wd.alloc (.cells #[] 39) := ⟨_, rfl⟩
            have ownE : wa.ownsRow wq.heap.size 39 10 (.slice (some ⟨wd.heap.size, 0, none⟩) 0 0) 0 [] := by rw [hwa]; exact World.ownsRow_lit wd #[] 0 (by omega) (by unfold maxLen; omega) rfl
            have hBa : Below wq.heap.size wq wa := by rw [hwa]; exact hB0.alloc hB0.size _
            have swa : wd.heap.size < wa.heap.size := by rw [hwa]; simp
            have bwa : Below wd.heap.size wd wa := by rw [hwa]; exact (Below.refl _ _).alloc (Nat.le_refl _) _
            have hSa : (fun w' : World => WtAt w' b (off + i * 10) x) wa := CellsAt.keep hS0 (by omega) bwa
            rw [← hwa]
            refine hK.out _ _ hSa ?_
            clear hK K hwa
            try simp only [Act.put, List.setIfInBounds_toArray, List.set_cons_zero, List.set_cons_succ]
            refine held_two 4 9 rfl rfl (by kernel_rfl) (by rfl) (by rfl) (fun K hK => ?_) (fun K hK => ?_)
            · simp only [Go.wp_at_zero, Go.wp_at_succ]
              refine wp_append_els (C := wtC) (k := 10) _ _ _ 31 rfl wq.heap.size 39 i0 _ 80 Try.underlying31 hi hz0 hz1 hz2 rfl (by decide) (.slice (some ⟨wd.heap.size, 0, none⟩) 0 0) 0 [] rfl ownE wq.heap.size (atA A 0 c) c k Lt rfl (ht.out.keep (hBa) (Nat.le_refl _)) hlk.symm wtC_len wtC_one (by unfold maxLen; omega) (by omega) (by omega) ?_
              intro A5 c5 wb own5 gwb kwb
              rw [Nat.zero_add] at own5 ⊢
              rw [List.nil_append] at own5
              have hob : ∀ j, (Value.slice (some ⟨wd.heap.size, 0, none⟩) 0 0).ownBlock = some j → j = wd.heap.size := fun j hj => by simpa [Value.ownBlock] using hj.symm
              have hBb : Below wq.heap.size wq wb := hBa.grown gwb (by omega) (fun j hj => by have := hob j hj; omega)
              have swb := gwb.size
              have hSb : (fun w' : World => WtAt w' b (off + i * 10) x) wb := CellsAt.of hSa (gwb.block b (by omega) (fun e => by have := hob b e.symm; omega))
              refine hK.out _ _ hSb ?_
              clear hK K
              try simp only [Act.put, List.setIfInBounds_toArray, List.set_cons_zero, List.set_cons_succ]
              have Own5 := Lib.hid own5
              clear own5 gwb kwb hob
              refine held_one 9 rfl (by kernel_rfl) (by rfl) (fun K hK => ?_)
              simp only [wtA]
              go_simp
              obtain ⟨wc, hwc⟩ : ∃ z, z = wb.alloc (wtO x) := ⟨_, rfl⟩
              have elsB : Wts wc wc.heap.size (some ⟨wb.heap.size, 0, none⟩) [x] := by rw [hwc]; exact els_blk wtC_len (wt_new wb x) (fun j v hj => by simpa [wtC, wtA] using hj)
              have hBc : Below wq.heap.size wq wc := by rw [hwc]; exact hBb.alloc hBb.size _
              have swc : wb.heap.size < wc.heap.size := by rw [hwc]; simp
              have bwc : Below wb.heap.size wb wc := by rw [hwc]; exact (Below.refl _ _).alloc (Nat.le_refl _) _
              have hSc : (fun w' : World => WtAt w' b (off + i * 10) x) wc := CellsAt.keep hSb (by omega) bwc
              simp only [wtO, wtA] at hwc
              rw [← hwc]
              refine hK.out _ _ hSc ?_
              clear hK K hwc
              try simp only [Act.put, List.setIfInBounds_toArray, List.set_cons_zero, List.set_cons_succ]
              have own5 := own_keep Own5.out bwc
              refine held_one 10 rfl (by kernel_rfl) (by rfl) (fun K hK => ?_)
              simp only [Go.wp_at_zero, Go.wp_at_succ]
              refine wp_append_els (C := wtC) (k := 10) _ _ _ 31 rfl wq.heap.size 39 i0 _ 80 Try.underlying31 hi hz0 hz1 hz2 rfl (by decide) (.slice A5 k c5) k _ rfl own5 _ (some ⟨wb.heap.size, 0, none⟩) 1 1 [x] rfl elsB rfl wtC_len wtC_one (by unfold maxLen; omega) (by omega) (by omega) ?_
              intro A7 c7 w7 own7 g7 k7
              have hob5 : ∀ j, (Value.slice A5 k c5).ownBlock = some j → wq.heap.size ≤ j := fun j hj => (own5.lt j hj).1
              have hB7 : Below wq.heap.size wq w7 := hBc.grown g7 (by omega) (fun j hj => by have := hob5 j hj; omega)
              have s7 := g7.size
              have hS7 : (fun w' : World => WtAt w' b (off + i * 10) x) w7 := CellsAt.of hSc (g7.block b (by omega) (fun e => by have := hob5 b e.symm; omega))
              refine hK.out _ _ hS7 ?_
              clear hK K
              try simp only [Act.put, List.setIfInBounds_toArray, List.set_cons_zero, List.set_cons_succ]
              refine held_one 14 rfl (by kernel_rfl) (by rfl) (fun K hK => ?_)
              simp only [Go.wp_at_zero, Go.wp_at_succ]
              refine wp_append_els (C := wtC) (k := 10) _ _ _ 31 rfl wq.heap.size 39 i0 _ 80 Try.underlying31 hi hz0 hz1 hz2 rfl (by decide) (.slice A7 (k + 1) c7) (k + 1) _ rfl own7 wq.heap.size (atA A k c) (c - k) (i - k) Ld rfl (hd.out.keep hB7 (Nat.le_refl _)) hld.symm wtC_len wtC_one (by unfold maxLen; omega) (by omega) (by omega) ?_
              intro A8 c8 w8 own8 g8 k8
              have hob7 : ∀ j, (Value.slice A7 (k + 1) c7).ownBlock = some j → wq.heap.size ≤ j := fun j hj => (own7.lt j hj).1
              have hB8 : Below wq.heap.size wq w8 := hB7.grown g8 (by omega) (fun j hj => by have := hob7 j hj; omega)
              have s8 := g8.size
              have hS8 : (fun w' : World => WtAt w' b (off + i * 10) x) w8 := CellsAt.of hS7 (g8.block b (by omega) (fun e => by have := hob7 b e.symm; omega))
              refine hK.out _ _ hS8 ?_
              clear hK K
              try simp only [Act.put, List.setIfInBounds_toArray, List.set_cons_zero, List.set_cons_succ]
              refine held_one 15 rfl (by kernel_rfl) (by rfl) (fun K hK => ?_)
              go_simp
              refine hK.out _ _ hS8 ?_
              clear hK K
              try simp only [Act.put, List.setIfInBounds_toArray, List.set_cons_zero, List.set_cons_succ]
              refine wpAnyH_done (by kernel_rfl) ?_ _
              have HO : Hid (w8.ownsRow w.heap.size 39 10 (.slice A8 (i + 1) c8) (i + 1) ((D2.map (eW l)).flatMap wtC)) := Lib.hid (by
                have h1 := own8
                rw [← HD.out, show k + 1 + (i - k) = i + 1 by omega] at h1
                exact own_base h1 Hwq.out)
              have HB := Lib.hid (HBq.out.trans (hB8.mono Hwq.out))
              have ek : k + 1 + (i - k) = i + 1 := by omega
              rw [ek]
              clear own8 own7 own5 hS8 hS7 hob7 hob5 g8 g7 k8 k7 hB8 hB7 ek
              go_wp2
              go_roundw
              case rel => exact ⟨i + 1, _, _, rfl, by go_num, by omega, HB, Lib.hid ⟨D2, HP2.out.1, HP2.out.2, HO.out⟩⟩
              case measure => simp [intOf]; omega

            · simp only [wtA]
              go_simp
              obtain ⟨wb, hwb⟩ : ∃ z, z = wa.alloc (wtO x) := ⟨_, rfl⟩
              have elsB : Wts wb wb.heap.size (some ⟨wa.heap.size, 0, none⟩) [x] := by rw [hwb]; exact els_blk wtC_len (wt_new wa x) (fun j v hj => by simpa [wtC, wtA] using hj)
              have hBb : Below wq.heap.size wq wb := by rw [hwb]; exact hBa.alloc hBa.size _
              have swb : wa.heap.size < wb.heap.size := by rw [hwb]; simp
              have bwb : Below wa.heap.size wa wb := by rw [hwb]; exact (Below.refl _ _).alloc (Nat.le_refl _) _
              have hSb : (fun w' : World => WtAt w' b (off + i * 10) x) wb := CellsAt.keep hSa (by omega) bwb
              simp only [wtO, wtA] at hwb
              rw [← hwb]
              refine hK.out _ _ hSb ?_
              clear hK K hwb
              try simp only [Act.put, List.setIfInBounds_toArray, List.set_cons_zero, List.set_cons_succ]
              have ownE := own_keep ownE bwb
              refine held_one 4 rfl (by kernel_rfl) (by rfl) (fun K hK => ?_)
              simp only [Go.wp_at_zero, Go.wp_at_succ]
              refine wp_append_els (C := wtC) (k := 10) _ _ _ 31 rfl wq.heap.size 39 i0 _ 80 Try.underlying31 hi hz0 hz1 hz2 rfl (by decide) (.slice (some ⟨wd.heap.size, 0, none⟩) 0 0) 0 [] rfl ownE wq.heap.size (atA A 0 c) c k Lt rfl (ht.out.keep (hBb) (Nat.le_refl _)) hlk.symm wtC_len wtC_one (by unfold maxLen; omega) (by omega) (by omega) ?_
              intro A5 c5 wc own5 gwc kwc
              rw [Nat.zero_add] at own5 ⊢
              rw [List.nil_append] at own5
              have hob : ∀ j, (Value.slice (some ⟨wd.heap.size, 0, none⟩) 0 0).ownBlock = some j → j = wd.heap.size := fun j hj => by simpa [Value.ownBlock] using hj.symm
              have hBc : Below wq.heap.size wq wc := hBb.grown gwc (by omega) (fun j hj => by have := hob j hj; omega)
              have swc := gwc.size
              have hSc : (fun w' : World => WtAt w' b (off + i * 10) x) wc := CellsAt.of hSb (gwc.block b (by omega) (fun e => by have := hob b e.symm; omega))
              have elsB : Wts wc wc.heap.size (some ⟨wa.heap.size, 0, none⟩) [x] := (elsB.off (w' := wc) fun b2 o2 e2 hb2 => gwc.block b2 hb2 (fun e => by have := hob b2 e.symm; injection e2 with e2; injection e2 with e2; omega)).imp swc fun _ _ _ _ hd => hd
              refine hK.out _ _ hSc ?_
              clear hK K
              try simp only [Act.put, List.setIfInBounds_toArray, List.set_cons_zero, List.set_cons_succ]
              refine held_one 10 rfl (by kernel_rfl) (by rfl) (fun K hK => ?_)
              simp only [Go.wp_at_zero, Go.wp_at_succ]
              refine wp_append_els (C := wtC) (k := 10) _ _ _ 31 rfl wq.heap.size 39 i0 _ 80 Try.underlying31 hi hz0 hz1 hz2 rfl (by decide) (.slice A5 k c5) k _ rfl own5 _ (some ⟨wa.heap.size, 0, none⟩) 1 1 [x] rfl elsB rfl wtC_len wtC_one (by unfold maxLen; omega) (by omega) (by omega) ?_
              intro A7 c7 w7 own7 g7 k7
              have hob5 : ∀ j, (Value.slice A5 k c5).ownBlock = some j → wq.heap.size ≤ j := fun j hj => (own5.lt j hj).1
              have hB7 : Below wq.heap.size wq w7 := hBc.grown g7 (by omega) (fun j hj => by have := hob5 j hj; omega)
              have s7 := g7.size
              have hS7 : (fun w' : World => WtAt w' b (off + i * 10) x) w7 := CellsAt.of hSc (g7.block b (by omega) (fun e => by have := hob5 b e.symm; omega))
              refine hK.out _ _ hS7 ?_
              clear hK K
              try simp only [Act.put, List.setIfInBounds_toArray, List.set_cons_zero, List.set_cons_succ]
              refine held_one 14 rfl (by kernel_rfl) (by rfl) (fun K hK => ?_)
              simp only [Go.wp_at_zero, Go.wp_at_succ]
              refine wp_append_els (C := wtC) (k := 10) _ _ _ 31 rfl wq.heap.size 39 i0 _ 80 Try.underlying31 hi hz0 hz1 hz2 rfl (by decide) (.slice A7 (k + 1) c7) (k + 1) _ rfl own7 wq.heap.size (atA A k c) (c - k) (i - k) Ld rfl (hd.out.keep hB7 (Nat.le_refl _)) hld.symm wtC_len wtC_one (by unfold maxLen; omega) (by omega) (by omega) ?_
              intro A8 c8 w8 own8 g8 k8
              have hob7 : ∀ j, (Value.slice A7 (k + 1) c7).ownBlock = some j → wq.heap.size ≤ j := fun j hj => (own7.lt j hj).1
              have hB8 : Below wq.heap.size wq w8 := hB7.grown g8 (by omega) (fun j hj => by have := hob7 j hj; omega)
              have s8 := g8.size
              have hS8 : (fun w' : World => WtAt w' b (off + i * 10) x) w8 := CellsAt.of hS7 (g8.block b (by omega) (fun e => by have := hob7 b e.symm; omega))
              refine hK.out _ _ hS8 ?_
              clear hK K
              try simp only [Act.put, List.setIfInBounds_toArray, List.set_cons_zero, List.set_cons_succ]
              refine held_one 15 rfl (by kernel_rfl) (by rfl) (fun K hK => ?_)
              go_simp
              refine hK.out _ _ hS8 ?_
              clear hK K
              try simp only [Act.put, List.setIfInBounds_toArray, List.set_cons_zero, List.set_cons_succ]
              refine wpAnyH_done (by kernel_rfl) ?_ _
              have HO : Hid (w8.ownsRow w.heap.size 39 10 (.slice A8 (i + 1) c8) (i + 1) ((D2.map (eW l)).flatMap wtC)) := Lib.hid (by
                have h1 := own8
                rw [← HD.out, show k + 1 + (i - k) = i + 1 by omega] at h1
                exact own_base h1 Hwq.out)
              have HB := Lib.hid (HBq.out.trans (hB8.mono Hwq.out))
              have ek : k + 1 + (i - k) = i + 1 := by omega
              rw [ek]
              clear own8 own7 own5 hS8 hS7 hob7 hob5 g8 g7 k8 k7 hB8 hB7 ek
              go_wp2
              go_roundw
              case rel => exact ⟨i + 1, _, _, rfl, by go_num, by omega, HB, Lib.hid ⟨D2, HP2.out.1, HP2.out.2, HO.out⟩⟩
              case measure => simp [intOf]; omega


          · simp only [wtA]
            go_simp
            obtain ⟨wa, hwa⟩ : ∃ z, z = wd.alloc (wtO x) := ⟨_, rfl⟩
            have elsB : Wts wa wa.heap.size (some ⟨wd.heap.size, 0, none⟩) [x] := by rw [hwa]; exact els_blk wtC_len (wt_new wd x) (fun j v hj => by simpa [wtC, wtA] using hj)
            have hBa : Below wq.heap.size wq wa := by rw [hwa]; exact hB0.alloc hB0.size _
            have swa : wd.heap.size < wa.heap.size := by rw [hwa]; simp
            have bwa : Below wd.heap.size wd wa := by rw [hwa]; exact (Below.refl _ _).alloc (Nat.le_refl _) _
            have hSa : (fun w' : World => WtAt w' b (off + i * 10) x) wa := CellsAt.keep hS0 (by omega) bwa
            simp only [wtO, wtA] at hwa
            rw [← hwa]
            refine hK.out _ _ hSa ?_
            clear hK K hwa
            try simp only [Act.put, List.setIfInBounds_toArray, List.set_cons_zero, List.set_cons_succ]
            refine held_one 0 rfl (by kernel_rfl) (by rfl) (fun K hK => ?_)
            go_simp
            obtain ⟨wb, hwb⟩ : ∃ x, x = wa.alloc (.cells #[] 39) := ⟨_, rfl⟩
            have ownE : wb.ownsRow wq.heap.size 39 10 (.slice (some ⟨wa.heap.size, 0, none⟩) 0 0) 0 [] := by rw [hwb]; exact World.ownsRow_lit wa #[] 0 (by omega) (by unfold maxLen; omega) rfl
            have hBb : Below wq.heap.size wq wb := by rw [hwb]; exact hBa.alloc hBa.size _
            have swb : wa.heap.size < wb.heap.size := by rw [hwb]; simp
            have bwb : Below wa.heap.size wa wb := by rw [hwb]; exact (Below.refl _ _).alloc (Nat.le_refl _) _
            have hSb : (fun w' : World => WtAt w' b (off + i * 10) x) wb := CellsAt.keep hSa (by omega) bwb
            rw [← hwb]
            refine hK.out _ _ hSb ?_
            clear hK K hwb
            try simp only [Act.put, List.setIfInBounds_toArray, List.set_cons_zero, List.set_cons_succ]
            have elsB : Wts wb wb.heap.size (some ⟨wd.heap.size, 0, none⟩) [x] := elsB.keep bwb (by omega)
            refine held_one 4 rfl (by kernel_rfl) (by rfl) (fun K hK => ?_)
            simp only [Go.wp_at_zero, Go.wp_at_succ]
            refine wp_append_els (C := wtC) (k := 10) _ _ _ 31 rfl wq.heap.size 39 i0 _ 80 Try.underlying31 hi hz0 hz1 hz2 rfl (by decide) (.slice (some ⟨wa.heap.size, 0, none⟩) 0 0) 0 [] rfl ownE wq.heap.size (atA A 0 c) c k Lt rfl (ht.out.keep (hBb) (Nat.le_refl _)) hlk.symm wtC_len wtC_one (by unfold maxLen; omega) (by omega) (by omega) ?_
            intro A5 c5 wc own5 gwc kwc
            rw [Nat.zero_add] at own5 ⊢
            rw [List.nil_append] at own5
            have hob : ∀ j, (Value.slice (some ⟨wa.heap.size, 0, none⟩) 0 0).ownBlock = some j → j = wa.heap.size := fun j hj => by simpa [Value.ownBlock] using hj.symm
            have hBc : Below wq.heap.size wq wc := hBb.grown gwc (by omega) (fun j hj => by have := hob j hj; omega)
            have swc := gwc.size
            have hSc : (fun w' : World => WtAt w' b (off + i * 10) x) wc := CellsAt.of hSb (gwc.block b (by omega) (fun e => by have := hob b e.symm; omega))
            have elsB : Wts wc wc.heap.size (some ⟨wd.heap.size, 0, none⟩) [x] := (elsB.off (w' := wc) fun b2 o2 e2 hb2 => gwc.block b2 hb2 (fun e => by have := hob b2 e.symm; injection e2 with e2; injection e2 with e2; omega)).imp swc fun _ _ _ _ hd => hd
            refine hK.out _ _ hSc ?_
            clear hK K
            try simp only [Act.put, List.setIfInBounds_toArray, List.set_cons_zero, List.set_cons_succ]
            refine held_one 10 rfl (by kernel_rfl) (by rfl) (fun K hK => ?_)
            simp only [Go.wp_at_zero, Go.wp_at_succ]
            refine wp_append_els (C := wtC) (k := 10) _ _ _ 31 rfl wq.heap.size 39 i0 _ 80 Try.underlying31 hi hz0 hz1 hz2 rfl (by decide) (.slice A5 k c5) k _ rfl own5 _ (some ⟨wd.heap.size, 0, none⟩) 1 1 [x] rfl elsB rfl wtC_len wtC_one (by unfold maxLen; omega) (by omega) (by omega) ?_
            intro A7 c7 w7 own7 g7 k7
            have hob5 : ∀ j, (Value.slice A5 k c5).ownBlock = some j → wq.heap.size ≤ j := fun j hj => (own5.lt j hj).1
            have hB7 : Below wq.heap.size wq w7 := hBc.grown g7 (by omega) (fun j hj => by have := hob5 j hj; omega)
            have s7 := g7.size
            have hS7 : (fun w' : World => WtAt w' b (off + i * 10) x) w7 := CellsAt.of hSc (g7.block b (by omega) (fun e => by have := hob5 b e.symm; omega))
            refine hK.out _ _ hS7 ?_
            clear hK K
            try simp only [Act.put, List.setIfInBounds_toArray, List.set_cons_zero, List.set_cons_succ]
            refine held_one 14 rfl (by kernel_rfl) (by rfl) (fun K hK => ?_)
            simp only [Go.wp_at_zero, Go.wp_at_succ]
            refine wp_append_els (C := wtC) (k := 10) _ _ _ 31 rfl wq.heap.size 39 i0 _ 80 Try.underlying31 hi hz0 hz1 hz2 rfl (by decide) (.slice A7 (k + 1) c7) (k + 1) _ rfl own7 wq.heap.size (atA A k c) (c - k) (i - k) Ld rfl (hd.out.keep hB7 (Nat.le_refl _)) hld.symm wtC_len wtC_one (by unfold maxLen; omega) (by omega) (by omega) ?_
            intro A8 c8 w8 own8 g8 k8
            have hob7 : ∀ j, (Value.slice A7 (k + 1) c7).ownBlock = some j → wq.heap.size ≤ j := fun j hj => (own7.lt j hj).1
            have hB8 : Below wq.heap.size wq w8 := hB7.grown g8 (by omega) (fun j hj => by have := hob7 j hj; omega)
            have s8 := g8.size
            have hS8 : (fun w' : World => WtAt w' b (off + i * 10) x) w8 := CellsAt.of hS7 (g8.block b (by omega) (fun e => by have := hob7 b e.symm; omega))
            refine hK.out _ _ hS8 ?_
            clear hK K
            try simp only [Act.put, List.setIfInBounds_toArray, List.set_cons_zero, List.set_cons_succ]
            refine held_one 15 rfl (by kernel_rfl) (by rfl) (fun K hK => ?_)
            go_simp
            refine hK.out _ _ hS8 ?_
            clear hK K
            try simp only [Act.put, List.setIfInBounds_toArray, List.set_cons_zero, List.set_cons_succ]
            refine wpAnyH_done (by kernel_rfl) ?_ _
            have HO : Hid (w8.ownsRow w.heap.size 39 10 (.slice A8 (i + 1) c8) (i + 1) ((D2.map (eW l)).flatMap wtC)) := Lib.hid (by
              have h1 := own8
              rw [← HD.out, show k + 1 + (i - k) = i + 1 by omega] at h1
              exact own_base h1 Hwq.out)
            have HB := Lib.hid (HBq.out.trans (hB8.mono Hwq.out))
            have ek : k + 1 + (i - k) = i + 1 := by omega
            rw [ek]
            clear own8 own7 own5 hS8 hS7 hob7 hob5 g8 g7 k8 k7 hB8 hB7 ek
            go_wp2
            go_roundw
            case rel => exact ⟨i + 1, _, _, rfl, by go_num, by omega, HB, Lib.hid ⟨D2, HP2.out.1, HP2.out.2, HO.out⟩⟩
            case measure => simp [intOf]; omega


    · obtain rfl : i = n := by omega
      obtain ⟨D, d1, d2, d3⟩ := hX.out
      have HE : Hid (Sorted now age l w wr (.slice A i c) D) := Lib.hid (by
        have dl : D.length = i := by have := d1.length_eq; rwa [List.length_range] at this
        obtain ⟨els, elt⟩ := els_own wtC_len d3 (by rw [List.length_map, dl])
        refine ⟨by rw [← HL.out.1]; exact d1, d2, A, c, by rw [HL.out.1], els, fun b off e => (elt b off e).1⟩)
      have t1 : decide (i < i) = false := decide_eq_false hlt
      clear d1 d2 d3 hX hlt
      go_wp2
      refine bodyPost_ret (v := .slice A i c) (by simp [results, Try.results23, go_sem]) rfl ?_
      exact ⟨_, D, rfl, HE.out, hB.out⟩
end Go.Proofs.Ytdeniikaddlifaa
