/- bare: has an act nothing but what its Kind has bytes for? -/
import Derived.Test.YtplekkpfpidebaaWireAct
set_option linter.unusedVariables false
set_option linter.unusedSimpArgs false
namespace Go.Proofs.Ytplekkpfpidebaa
open Go.RowKit
set_option maxRecDepth 100000
set_option maxHeartbeats 1000000
def zer (n : Nat) : List Nat := List.replicate n 0
theorem bare_eq (a : WM.Ac) (kk : Nat) (h : a.k = kk) (hk : kk < 8) (p : Nat) : ∃ b : WM.Ac, setF (acA a) (fdsA p kk) (zer 8) = acA b ∧ b.k = kk ∧ decide (b = { WM.Ac.zero with k := kk }) = WM.formOk a := by
  obtain ⟨k, n, id, q, p', r, g, c, mn, mx⟩ := a
  simp only at h
  subst h
  match kk, hk with
  | 0, _ => exact ⟨⟨0, n, 0, 0, 0, 0, 0, 0, 0, 0⟩, by simp [setF, fdsA, acA, zer, List.replicate], rfl, by simp [WM.formOk, WM.size, WM.jobz, WM.Ac.zero]⟩
  | 1, _ => exact ⟨⟨1, 0, id, q, p', r, g, c, mn, mx⟩, by simp [setF, fdsA, acA, zer, List.replicate], rfl, by simp [WM.formOk, WM.size, WM.jobz, WM.Ac.zero, and_assoc, Bool.and_assoc]⟩
  | 2, _ => exact ⟨⟨2, 0, id, q, p', r, g, c, mn, mx⟩, by simp [setF, fdsA, acA, zer, List.replicate], rfl, by simp [WM.formOk, WM.size, WM.jobz, WM.Ac.zero, and_assoc, Bool.and_assoc]⟩
  | 3, _ => exact ⟨⟨3, 0, id, q, p', r, g, c, mn, mx⟩, by simp [setF, fdsA, acA, zer, List.replicate], rfl, by simp [WM.formOk, WM.size, WM.jobz, WM.Ac.zero, and_assoc, Bool.and_assoc]⟩
  | 4, _ => exact ⟨⟨4, 0, id, q, p', r, g, c, mn, mx⟩, by simp [setF, fdsA, acA, zer, List.replicate], rfl, by simp [WM.formOk, WM.size, WM.jobz, WM.Ac.zero, and_assoc, Bool.and_assoc]⟩
  | 5, _ => exact ⟨⟨5, n, id, q, p', r, g, c, mn, mx⟩, by simp [setF, fdsA, acA, zer, List.replicate], rfl, by simp [WM.formOk, WM.size, WM.jobz, WM.Ac.zero, and_assoc, Bool.and_assoc]; cases decide (n = 0) <;> simp⟩
  | 6, _ => exact ⟨⟨6, 0, id, q, p', r, g, c, mn, mx⟩, by simp [setF, fdsA, acA, zer, List.replicate], rfl, by simp [WM.formOk, WM.size, WM.jobz, WM.Ac.zero, and_assoc, Bool.and_assoc]⟩
  | 7, _ => exact ⟨⟨7, 0, id, q, p', r, g, c, mn, mx⟩, by simp [setF, fdsA, acA, zer, List.replicate], rfl, by simp [WM.formOk, WM.size, WM.jobz, WM.Ac.zero, and_assoc, Bool.and_assoc]⟩
theorem setF_take : ∀ (fs : List FldP) (vs : List Nat) (cs : Array Value) {j : Nat}, fs.length ≤ j → setF cs fs (vs.take j) = setF cs fs vs
  | [], _, _, _, _ => by simp [setF]
  | _ :: _, [], _, _, _ => by simp [setF]
  | x :: fs, v :: vs, cs, j, h => by
    obtain ⟨i, rfl⟩ : ∃ i, j = i + 1 := ⟨j - 1, by simp at h; omega⟩
    simp only [List.take_succ_cons, setF]
    exact setF_take fs vs _ (by simpa using h)
set_option maxHeartbeats 4000000 in
theorem bare_any (a : WM.Ac) (kk : Nat) (hak : a.k = kk) (hkk : kk < 8) (w : World) :
    Calls Try.prog 20 #[acV a] w fun e w' => e = .returned (.bool (WM.formOk a)) ∧ Below w.heap.size w w' := by
  go_enter Try.func20, Try.ntmps20
  have HBh := Lib.hid (fun W (h : w.heap.size < W.heap.size) => behind_any w.heap.size W h)
  unfold acV acA
  have Hak := Lib.hid hak
  clear hak
  go_wp2_with fail
  obtain ⟨w1, hw1⟩ : ∃ w1, w1 = w.alloc (.cells #[.int .i64 a.k, .int .i64 a.n, .int .i64 a.id, .int .i64 a.q, .int .i64 a.p, .int .i64 a.r, .int .i64 a.g, .int .i64 a.c, .int .i64 a.mn, .int .i64 a.mx] 27) := ⟨_, rfl⟩
  obtain ⟨p, hp⟩ : ∃ p, p = w.heap.size := ⟨_, rfl⟩
  rw [← hp] at HBh
  rw [← hw1, ← hp]
  have HB1 : Hid (Below w.heap.size w w1) := Lib.hid (by rw [hw1]; exact (Below.refl _ _).alloc (Nat.le_refl _) _)
  have HP1 : Hid (w1.heap[p]? = some (.cells (acA a) 27 (0, 0))) := Lib.hid (by rw [hw1, hp]; exact heap_alloc_new _ _)
  have hp1 : p < w1.heap.size := blk_lt HP1.out
  have c0 : w1.cell? ⟨p, 0, none⟩ = some (.int .i64 a.k) := cell_blk (i := 0) HP1.out rfl
  have hwp : w.heap.size ≤ p := by omega
  clear hw1 hp
  refine held_begin (fun w' : World => w'.cell? ⟨p, 0, none⟩ = some (.int .i64 a.k)) (by kernel_rfl) ?_
  have hBm0 : Below w1.heap.size w1 w1.drew := (Below.refl _ _).drew
  have hSm0 : (fun w' : World => w'.cell? ⟨p, 0, none⟩ = some (.int .i64 a.k)) w1.drew := c0
  refine held_take (v := ?_) 1 6 rfl rfl (by kernel_rfl) (by kernel_rfl) (by kernel_rfl) (fun _ _ _ h => h) ⟨by rfl, ?_⟩ hSm0 ?_
  rotate_left
  · intro w' hw'; obtain x0 := hw'; go_simp; (try with_reducible rfl)
  simp only [Act.put, List.setIfInBounds_toArray, List.set_cons_zero, List.set_cons_succ]
  refine held_take (v := ?_) 2 7 rfl rfl (by kernel_rfl) (by kernel_rfl) (by kernel_rfl) (fun _ _ _ h => h) ⟨by rfl, ?_⟩ hSm0 ?_
  rotate_left
  · intro w' hw'; obtain x0 := hw'; go_simp; (try with_reducible rfl)
  simp only [Act.put, List.setIfInBounds_toArray, List.set_cons_zero, List.set_cons_succ]
  refine held_take (v := ?_) 5 10 rfl rfl (by kernel_rfl) (by kernel_rfl) (by kernel_rfl) (fun _ _ _ h => h) ⟨by rfl, ?_⟩ hSm0 ?_
  rotate_left
  · intro w' hw'; obtain x0 := hw'; go_simp; (try with_reducible rfl)
  simp only [Act.put, List.setIfInBounds_toArray, List.set_cons_zero, List.set_cons_succ]
  refine held_one 0 rfl (by kernel_rfl) (by rfl) (fun K hK => ?_)
  go_simp
  go_at_call 22
  refine (HBh.out _ (by have := hBm0.size; omega)).mono ?_
  rintro e wm1 ⟨X, Y, Z, rfl, HT, hbm1⟩
  have hBm1 : Below w1.heap.size w1 wm1 := below_step hBm0 hbm1
  have hSm1 : (fun w' : World => w'.cell? ⟨p, 0, none⟩ = some (.int .i64 a.k)) wm1 := (hBm1.cell (p := ⟨p, 0, none⟩) (hp1)).trans c0
  obtain ⟨A, n, hn, hn8, hix, hE⟩ := tab_row hkk HT.out
  have Hn := Lib.hid hn
  clear hn
  refine hK.out _ _ hSm1 ?_
  clear hK K
  refine held_take (v := ?_) 3 8 rfl rfl (by kernel_rfl) (by kernel_rfl) (by kernel_rfl) (fun _ _ _ h => h) ⟨by rfl, ?_⟩ hSm1 ?_
  rotate_left
  · intro w' hw'; obtain x0 := hw'; rw [Hak.out]; go_simp; (try with_reducible rfl)
  simp only [Act.put, List.setIfInBounds_toArray, List.set_cons_zero, List.set_cons_succ]
  refine held_take (v := ?_) 4 9 rfl rfl (by kernel_rfl) (by kernel_rfl) (by kernel_rfl) (fun _ _ _ h => h) ⟨by rfl, ?_⟩ hSm1 ?_
  rotate_left
  · intro w' hw'; obtain x0 := hw'; go_simp; (try with_reducible rfl)
  simp only [Act.put, List.setIfInBounds_toArray, List.set_cons_zero, List.set_cons_succ]
  refine wpAnyH_done (by kernel_rfl) ?_ _
  have HP2 : Hid (wm1.heap[p]? = some (.cells (acA a) 27 (0, 0))) := Lib.hid ((hBm1.block p hp1).trans HP1.out)
  have HB2 : Hid (Below w.heap.size w wm1) := Lib.hid (HB1.out.trans (hBm1.mono (by omega)))
  have HE := Lib.hid hE
  have hp2 : p < wm1.heap.size := blk_lt HP2.out
  have hz0 : wm1.heap.size = wm1.heap.size := rfl
  clear hE hix HT HP1 HB1 c0 hp1 hz0
  go_wp2_with fail
  go_loopw [10] (fun i wr => ∃ j : Nat, i = .int .i64 j ∧ j ≤ n ∧ Hid (wr.heap[p]? = some (.cells (setF (acA a) ((fdsA p kk).take j) ((zer 8).take j)) 27 (0, 0))) ∧ Hid (Foot (· = p) wm1 wr)) (fun i _ => n - (intOf i).toNat)
  case atStart => exact ⟨0, rfl, Nat.zero_le _, Lib.hid (by simpa [setF] using HP2.out), Lib.hid (Foot.refl _ _)⟩
  case round =>
    obtain ⟨j, rfl, hj, hP, hFt⟩ := hrel
    have hsz := hFt.out.size
    by_cases hlt : j < n
    · obtain ⟨x, hx⟩ := get_lt (l := fdsA p kk) (k := j) (by rw [← Hn.out]; exact hlt)
      obtain ⟨b, off, rfl, hb, hc⟩ := HE.out.at_ hx
      have hnF : b ≠ p := not_act HP2.out (hc j x hx 0 _ rfl)
      obtain ⟨hxw, hxl, hxF⟩ := fdsA_ok x (List.mem_of_getElem? hx)
      have f0 := (hFt.out.cell (p := ⟨b, off + j * 2, none⟩) hb hnF).trans (hc j x hx 0 _ rfl)
      have f1 := (hFt.out.cell (p := ⟨b, off + j * 2 + 1, none⟩) hb hnF).trans (hc j x hx 1 _ rfl)
      obtain ⟨x0, x1, W⟩ := x
      simp only at f0 f1 hxw hxl hxF
      subst x0
      have hsp : p < wr.heap.size := by omega
      obtain ⟨q, hq⟩ : ∃ q, q = wr.heap.size := ⟨_, rfl⟩
      have HP3 : Hid (wr.heap[p]? = some (.cells (setF (acA a) ((fdsA p kk).take j) ((zer 8).take j)) 27 (0, 0))) := hP
      obtain ⟨ov, hov⟩ : ∃ ov, (setF (acA a) ((fdsA p kk).take j) ((zer 8).take j))[x1]? = some ov := ⟨_, Array.getElem?_eq_getElem (by rw [setF_size]; exact hxF)⟩
      have y0 := cell_blk (i := x1) hP.out hov
      have y1 : wr.frozen? ⟨p, x1, none⟩ = false := frozen_blk hP.out
      have hn1 : Hid (setF (acA a) ((fdsA p kk).take (j + 1)) ((zer 8).take (j + 1)) = (setF (acA a) ((fdsA p kk).take j) ((zer 8).take j)).setIfInBounds x1 (.int .i64 0)) := Lib.hid (setF_next _ _ _ j _ 0 hx (by unfold zer; rw [List.getElem?_replicate, if_pos (by omega)]))
      clear hx hc hb hov hq
      go_wp2_with fail
      refine ⟨⟨j + 1, by go_num, by omega, Lib.hid ?_, Lib.hid ((hFt.out.setCell (p := ⟨p, x1, none⟩) (.inl rfl) _).alloc _)⟩, by simp [intOf]; omega⟩
      rw [hn1.out]
      exact (Below.heap_alloc _ _ _ (by simp; omega)).trans (blk_put _ hP.out)
    · obtain rfl : j = n := by omega
      have hk2 : (fdsA p kk).take j = fdsA p kk := List.take_of_length_le (by have := Hn.out; omega)
      obtain ⟨b, hb1, hb2, hb3⟩ := bare_eq a kk Hak.out hkk p
      have HPb : Hid (wr.heap[p]? = some (.cells (acA b) 27 (0, 0))) := Lib.hid (by
        rw [← hb1]
        have := hP.out
        rw [hk2] at this
        rw [this, setF_take _ _ _ (by rw [← Hn.out]; exact Nat.le_refl _)])
      obtain ⟨k, m, id, q, p', r, g, c, mn, mx⟩ := b
      simp only at hb2
      subst hb2
      have HB9 := Lib.hid hb3
      obtain ⟨z0, z1, z2, z3, z4, z5, z6, z7, z8, z9⟩ := cells10 HPb.out
      have HBE : Hid (Below w.heap.size w wr) := Lib.hid (HB2.out.trans (hFt.out.below (by have := HB2.out.size; omega) (fun i hi => by omega)))
      clear hb1 hb3 hk2 hP hFt
      go_wp2_with fail
      all_goals go_ret
      all_goals refine ⟨?_, HBE.out⟩
      all_goals rw [← HB9.out]
      all_goals simp_all [WM.Ac.zero]
end Go.Proofs.Ytplekkpfpidebaa
