/- A heap's sink. -/
import Derived.Test.YtdoaihmeldkahaaTimerRise
set_option linter.unusedVariables false
namespace Go.Proofs.Ytdoaihmeldkahaa
open Go.RowKit

set_option maxRecDepth 100000 in
set_option maxHeartbeats 4000000 in
theorem sink_any (p : Nat) (u v : Value) (H : List En) (s : Nat) (w : World) (h : HpAt w p u v H) (hs : s < H.length) (hX : TM.DownX (TM.at_ H) H.length s) :
    Calls Try.prog 27 #[.pointer (some ⟨p, 0, none⟩), .int .i64 (s : Nat)] w fun e w' => e = .returned (.tuple #[]) ∧ ∃ H', HpAt w' p u v H' ∧ H'.Perm H ∧ TM.Heap (TM.at_ H') H'.length ∧ Foot (vB v) w w' := by
  obtain ⟨g, cap, rfl, hg, hgp⟩ := h.form (by omega)
  have hfew := h.few
  obtain ⟨n, hn⟩ : ∃ n, n = H.length := ⟨_, rfl⟩
  have H0 := Lib.hid (show ∃ H', HpAt w p u (.slice (some ⟨g, 0, none⟩) n cap) H' ∧ H'.Perm H ∧ H'.length = n ∧ TM.DownX (TM.at_ H') n s ∧ Foot (vB (.slice (some ⟨g, 0, none⟩) n cap)) w w from
    ⟨H, by rw [hn]; exact h, List.Perm.refl _, hn.symm, by rw [hn]; exact hX, Foot.refl _ _⟩)
  rw [← hn] at hs hfew ⊢
  clear h hX hn
  go_enter Try.func27, Try.ntmps27
  go_wp2
  go_loopw [1, 4] (fun i _ wr => ∃ k : Nat, i = .int .i64 k ∧ k < n ∧ Hid (∃ H', HpAt wr p u (.slice (some ⟨g, 0, none⟩) n cap) H' ∧ H'.Perm H ∧ H'.length = n ∧ TM.DownX (TM.at_ H') n k ∧ Foot (vB (.slice (some ⟨g, 0, none⟩) n cap)) w wr)) (fun i _ _ => n - (intOf i).toNat)
  case atStart => exact ⟨s, rfl, hs, H0⟩
  case round =>
    clear H0
    obtain ⟨k, rfl, hk, hin⟩ := hrel
    obtain ⟨H1, hA, hP, hl, hor, hF⟩ := hin.out
    obtain ⟨c0, c1⟩ := hA.head
    by_cases h0 : 2 * k + 1 < n
    · obtain ⟨c, hc⟩ : ∃ c, c = 2 * k + 1 := ⟨_, rfl⟩
      have t0 : decide (2 * k + 1 < n) = true := decide_eq_true h0
      have HZ := Lib.hid (And.intro hA (And.intro hP (And.intro hl (And.intro hor hF))))
      clear hA hP hl hor hF hin
      have hk2 : 2 * k + 1 = c := hc.symm
      go_wp2_with fail
      rw [show (2 : Int) * (k : Int) + 1 = (c : Int) by omega]
      obtain ⟨d, hd⟩ : ∃ d, d = c + 1 := ⟨_, rfl⟩
      have ew : IntKind.i64.wrap ((c : Int) + 1) = (d : Int) := by rw [IntWalk.i64_in _ (by omega)]; omega
      obtain ⟨hpl, hgl⟩ := HZ.out.1.lt
      have hgl := hgl g rfl
      by_cases h1 : d < n
      · have hA' := HZ.out.1
        rw [← HZ.out.2.2.1] at hA'
        obtain ⟨⟨xk, xi⟩, hx⟩ := get_lt (l := H1) (k := d) (by have := HZ.out.2.2.1; omega)
        obtain ⟨⟨yk, yi⟩, hy⟩ := get_lt (l := H1) (k := c) (by have := HZ.out.2.2.1; omega)
        obtain ⟨x0, x1, _, _⟩ := hA'.cells hx
        obtain ⟨y0, y1, _, _⟩ := hA'.cells hy
        have t1 : decide (d < n) = true := decide_eq_true h1
        have HA := Lib.hid (fun W => ahead_any ⟨xk, xi⟩ ⟨yk, yi⟩ W)
        obtain ⟨R, hR⟩ : ∃ R, R = TM.ltB ⟨xk, xi⟩ ⟨yk, yi⟩ := ⟨_, rfl⟩
        rw [← hR] at HA
        simp only [enV] at HA x0 x1 y0 y1
        have HX := Lib.hid (And.intro hx (And.intro hy hR))
        have HD := Lib.hid (And.intro hc hd)
        have hcn : c < n := by omega
        clear hA' hx hy hR hc hd hk2 t0 h0
        refine held_begin (fun w' : World => w'.cell? ⟨p, 0, none⟩ = some (.slice (some ⟨g, 0, none⟩) n cap) ∧ w'.cell? ⟨g, d * 2, none⟩ = some (.int .i64 xi) ∧ w'.cell? ⟨g, d * 2 + 1, none⟩ = some (.int .i64 xk) ∧ w'.cell? ⟨g, c * 2, none⟩ = some (.int .i64 yi) ∧ w'.cell? ⟨g, c * 2 + 1, none⟩ = some (.int .i64 yk)) (by kernel_rfl) ?_
        have hBh0 : Below wr.heap.size wr wr.drew := (Below.refl _ _).drew
        have hSh0 : (fun w' : World => w'.cell? ⟨p, 0, none⟩ = some (.slice (some ⟨g, 0, none⟩) n cap) ∧ w'.cell? ⟨g, d * 2, none⟩ = some (.int .i64 xi) ∧ w'.cell? ⟨g, d * 2 + 1, none⟩ = some (.int .i64 xk) ∧ w'.cell? ⟨g, c * 2, none⟩ = some (.int .i64 yi) ∧ w'.cell? ⟨g, c * 2 + 1, none⟩ = some (.int .i64 yk)) wr.drew := ⟨c0, x0, x1, y0, y1⟩
        refine held_take (v := ?_) 0 17 rfl rfl (by kernel_rfl) (by kernel_rfl) (by kernel_rfl) (fun _ _ _ h => h) ⟨by rfl, ?_⟩ hSh0 ?_
        rotate_left
        · intro w' hw'; obtain ⟨x0, x1, x2, x3, x4⟩ := hw'; go_simp; (try with_reducible rfl)
        simp only [Act.put, List.setIfInBounds_toArray, List.set_cons_zero, List.set_cons_succ]
        refine held_take (v := ?_) 1 18 rfl rfl (by kernel_rfl) (by kernel_rfl) (by kernel_rfl) (fun _ _ _ h => h) ⟨by rfl, ?_⟩ hSh0 ?_
        rotate_left
        · intro w' hw'; obtain ⟨x0, x1, x2, x3, x4⟩ := hw'; go_simp; (try with_reducible rfl)
        simp only [Act.put, List.setIfInBounds_toArray, List.set_cons_zero, List.set_cons_succ]
        refine held_take (v := ?_) 2 19 rfl rfl (by kernel_rfl) (by kernel_rfl) (by kernel_rfl) (fun _ _ _ h => h) ⟨by rfl, ?_⟩ hSh0 ?_
        rotate_left
        · intro w' hw'; obtain ⟨x0, x1, x2, x3, x4⟩ := hw'; go_simp; (try with_reducible rfl)
        simp only [Act.put, List.setIfInBounds_toArray, List.set_cons_zero, List.set_cons_succ]
        refine held_take (v := ?_) 3 20 rfl rfl (by kernel_rfl) (by kernel_rfl) (by kernel_rfl) (fun _ _ _ h => h) ⟨by rfl, ?_⟩ hSh0 ?_
        rotate_left
        · intro w' hw'; obtain ⟨x0, x1, x2, x3, x4⟩ := hw'; go_simp; (try with_reducible rfl)
        simp only [Act.put, List.setIfInBounds_toArray, List.set_cons_zero, List.set_cons_succ]
        refine held_take (v := ?_) 4 21 rfl rfl (by kernel_rfl) (by kernel_rfl) (by kernel_rfl) (fun _ _ _ h => h) ⟨by rfl, ?_⟩ hSh0 ?_
        rotate_left
        · intro w' hw'; obtain ⟨x0, x1, x2, x3, x4⟩ := hw'; go_simp; (try with_reducible rfl)
        simp only [Act.put, List.setIfInBounds_toArray, List.set_cons_zero, List.set_cons_succ]
        refine held_take (v := ?_) 5 22 rfl rfl (by kernel_rfl) (by kernel_rfl) (by kernel_rfl) (fun _ _ _ h => h) ⟨by rfl, ?_⟩ hSh0 ?_
        rotate_left
        · intro w' hw'; obtain ⟨x0, x1, x2, x3, x4⟩ := hw'; go_simp; (try with_reducible rfl)
        simp only [Act.put, List.setIfInBounds_toArray, List.set_cons_zero, List.set_cons_succ]
        refine held_take (v := ?_) 6 23 rfl rfl (by kernel_rfl) (by kernel_rfl) (by kernel_rfl) (fun _ _ _ h => h) ⟨by rfl, ?_⟩ hSh0 ?_
        rotate_left
        · intro w' hw'; obtain ⟨x0, x1, x2, x3, x4⟩ := hw'; go_simp; (try with_reducible rfl)
        simp only [Act.put, List.setIfInBounds_toArray, List.set_cons_zero, List.set_cons_succ]
        refine held_take (v := ?_) 7 24 rfl rfl (by kernel_rfl) (by kernel_rfl) (by kernel_rfl) (fun _ _ _ h => h) ⟨by rfl, ?_⟩ hSh0 ?_
        rotate_left
        · intro w' hw'; obtain ⟨x0, x1, x2, x3, x4⟩ := hw'; go_simp; (try with_reducible rfl)
        simp only [Act.put, List.setIfInBounds_toArray, List.set_cons_zero, List.set_cons_succ]
        refine held_take (v := ?_) 8 25 rfl rfl (by kernel_rfl) (by kernel_rfl) (by kernel_rfl) (fun _ _ _ h => h) ⟨by rfl, ?_⟩ hSh0 ?_
        rotate_left
        · intro w' hw'; obtain ⟨x0, x1, x2, x3, x4⟩ := hw'; go_simp; (try with_reducible rfl)
        simp only [Act.put, List.setIfInBounds_toArray, List.set_cons_zero, List.set_cons_succ]
        refine held_take (v := ?_) 9 26 rfl rfl (by kernel_rfl) (by kernel_rfl) (by kernel_rfl) (fun _ _ _ h => h) ⟨by rfl, ?_⟩ hSh0 ?_
        rotate_left
        · intro w' hw'; obtain ⟨x0, x1, x2, x3, x4⟩ := hw'; go_simp; (try with_reducible rfl)
        simp only [Act.put, List.setIfInBounds_toArray, List.set_cons_zero, List.set_cons_succ]
        refine held_take (v := ?_) 10 27 rfl rfl (by kernel_rfl) (by kernel_rfl) (by kernel_rfl) (fun _ _ _ h => h) ⟨by rfl, ?_⟩ hSh0 ?_
        rotate_left
        · intro w' hw'; obtain ⟨x0, x1, x2, x3, x4⟩ := hw'; go_simp; (try with_reducible rfl)
        simp only [Act.put, List.setIfInBounds_toArray, List.set_cons_zero, List.set_cons_succ]
        refine held_take (v := ?_) 11 28 rfl rfl (by kernel_rfl) (by kernel_rfl) (by kernel_rfl) (fun _ _ _ h => h) ⟨by rfl, ?_⟩ hSh0 ?_
        rotate_left
        · intro w' hw'; obtain ⟨x0, x1, x2, x3, x4⟩ := hw'; go_simp; (try with_reducible rfl)
        simp only [Act.put, List.setIfInBounds_toArray, List.set_cons_zero, List.set_cons_succ]
        refine held_take (v := ?_) 12 29 rfl rfl (by kernel_rfl) (by kernel_rfl) (by kernel_rfl) (fun _ _ _ h => h) ⟨by rfl, ?_⟩ hSh0 ?_
        rotate_left
        · intro w' hw'; obtain ⟨x0, x1, x2, x3, x4⟩ := hw'; go_simp; (try with_reducible rfl)
        simp only [Act.put, List.setIfInBounds_toArray, List.set_cons_zero, List.set_cons_succ]
        refine held_take (v := ?_) 13 30 rfl rfl (by kernel_rfl) (by kernel_rfl) (by kernel_rfl) (fun _ _ _ h => h) ⟨by rfl, ?_⟩ hSh0 ?_
        rotate_left
        · intro w' hw'; obtain ⟨x0, x1, x2, x3, x4⟩ := hw'; go_simp; (try with_reducible rfl)
        simp only [Act.put, List.setIfInBounds_toArray, List.set_cons_zero, List.set_cons_succ]
        refine held_take (v := ?_) 14 31 rfl rfl (by kernel_rfl) (by kernel_rfl) (by kernel_rfl) (fun _ _ _ h => h) ⟨by rfl, ?_⟩ hSh0 ?_
        rotate_left
        · intro w' hw'; obtain ⟨x0, x1, x2, x3, x4⟩ := hw'; go_simp; (try with_reducible rfl)
        simp only [Act.put, List.setIfInBounds_toArray, List.set_cons_zero, List.set_cons_succ]
        refine held_take (v := ?_) 15 32 rfl rfl (by kernel_rfl) (by kernel_rfl) (by kernel_rfl) (fun _ _ _ h => h) ⟨by rfl, ?_⟩ hSh0 ?_
        rotate_left
        · intro w' hw'; obtain ⟨x0, x1, x2, x3, x4⟩ := hw'; go_simp; (try with_reducible rfl)
        simp only [Act.put, List.setIfInBounds_toArray, List.set_cons_zero, List.set_cons_succ]
        refine held_take (v := ?_) 16 33 rfl rfl (by kernel_rfl) (by kernel_rfl) (by kernel_rfl) (fun _ _ _ h => h) ⟨by rfl, ?_⟩ hSh0 ?_
        rotate_left
        · intro w' hw'; obtain ⟨x0, x1, x2, x3, x4⟩ := hw'; go_simp; (try with_reducible rfl)
        simp only [Act.put, List.setIfInBounds_toArray, List.set_cons_zero, List.set_cons_succ]
        refine held_take (v := ?_) 17 34 rfl rfl (by kernel_rfl) (by kernel_rfl) (by kernel_rfl) (fun _ _ _ h => h) ⟨by rfl, ?_⟩ hSh0 ?_
        rotate_left
        · intro w' hw'; obtain ⟨x0, x1, x2, x3, x4⟩ := hw'; go_simp; (try with_reducible rfl)
        simp only [Act.put, List.setIfInBounds_toArray, List.set_cons_zero, List.set_cons_succ]
        refine held_take (v := ?_) 18 35 rfl rfl (by kernel_rfl) (by kernel_rfl) (by kernel_rfl) (fun _ _ _ h => h) ⟨by rfl, ?_⟩ hSh0 ?_
        rotate_left
        · intro w' hw'; obtain ⟨x0, x1, x2, x3, x4⟩ := hw'; go_simp; (try with_reducible rfl)
        simp only [Act.put, List.setIfInBounds_toArray, List.set_cons_zero, List.set_cons_succ]
        refine held_take (v := ?_) 19 36 rfl rfl (by kernel_rfl) (by kernel_rfl) (by kernel_rfl) (fun _ _ _ h => h) ⟨by rfl, ?_⟩ hSh0 ?_
        rotate_left
        · intro w' hw'; obtain ⟨x0, x1, x2, x3, x4⟩ := hw'; go_simp; (try with_reducible rfl)
        simp only [Act.put, List.setIfInBounds_toArray, List.set_cons_zero, List.set_cons_succ]
        refine held_take (v := ?_) 20 37 rfl rfl (by kernel_rfl) (by kernel_rfl) (by kernel_rfl) (fun _ _ _ h => h) ⟨by rfl, ?_⟩ hSh0 ?_
        rotate_left
        · intro w' hw'; obtain ⟨x0, x1, x2, x3, x4⟩ := hw'; go_simp; (try with_reducible rfl)
        simp only [Act.put, List.setIfInBounds_toArray, List.set_cons_zero, List.set_cons_succ]
        refine held_take (v := ?_) 21 38 rfl rfl (by kernel_rfl) (by kernel_rfl) (by kernel_rfl) (fun _ _ _ h => h) ⟨by rfl, ?_⟩ hSh0 ?_
        rotate_left
        · intro w' hw'; obtain ⟨x0, x1, x2, x3, x4⟩ := hw'; go_simp; (try with_reducible rfl)
        simp only [Act.put, List.setIfInBounds_toArray, List.set_cons_zero, List.set_cons_succ]
        refine held_take (v := ?_) 22 39 rfl rfl (by kernel_rfl) (by kernel_rfl) (by kernel_rfl) (fun _ _ _ h => h) ⟨by rfl, ?_⟩ hSh0 ?_
        rotate_left
        · intro w' hw'; obtain ⟨x0, x1, x2, x3, x4⟩ := hw'; go_simp; (try with_reducible rfl)
        simp only [Act.put, List.setIfInBounds_toArray, List.set_cons_zero, List.set_cons_succ]
        refine held_take (v := ?_) 23 40 rfl rfl (by kernel_rfl) (by kernel_rfl) (by kernel_rfl) (fun _ _ _ h => h) ⟨by rfl, ?_⟩ hSh0 ?_
        rotate_left
        · intro w' hw'; obtain ⟨x0, x1, x2, x3, x4⟩ := hw'; go_simp; (try with_reducible rfl)
        simp only [Act.put, List.setIfInBounds_toArray, List.set_cons_zero, List.set_cons_succ]
        refine held_take (v := ?_) 24 41 rfl rfl (by kernel_rfl) (by kernel_rfl) (by kernel_rfl) (fun _ _ _ h => h) ⟨by rfl, ?_⟩ hSh0 ?_
        rotate_left
        · intro w' hw'; obtain ⟨x0, x1, x2, x3, x4⟩ := hw'; go_simp; (try with_reducible rfl)
        simp only [Act.put, List.setIfInBounds_toArray, List.set_cons_zero, List.set_cons_succ]
        refine held_one 25 rfl (by kernel_rfl) (by rfl) (fun K hK => ?_)
        go_simp
        go_invoke; (first | go_upon | go_simp); go_at_call 43
        refine (HA.out wr.drew).mono ?_
        rintro e wh1 ⟨rfl, hbh1⟩
        have hBh1 : Below wr.heap.size wr wh1 := below_step hBh0 hbh1
        have hSh1 : (fun w' : World => w'.cell? ⟨p, 0, none⟩ = some (.slice (some ⟨g, 0, none⟩) n cap) ∧ w'.cell? ⟨g, d * 2, none⟩ = some (.int .i64 xi) ∧ w'.cell? ⟨g, d * 2 + 1, none⟩ = some (.int .i64 xk) ∧ w'.cell? ⟨g, c * 2, none⟩ = some (.int .i64 yi) ∧ w'.cell? ⟨g, c * 2 + 1, none⟩ = some (.int .i64 yk)) wh1 := ⟨(hBh1.cell (p := ⟨p, 0, none⟩) (show p < wr.heap.size by omega)).trans c0, (hBh1.cell (p := ⟨g, d * 2, none⟩) (show g < wr.heap.size by omega)).trans x0, (hBh1.cell (p := ⟨g, d * 2 + 1, none⟩) (show g < wr.heap.size by omega)).trans x1, (hBh1.cell (p := ⟨g, c * 2, none⟩) (show g < wr.heap.size by omega)).trans y0, (hBh1.cell (p := ⟨g, c * 2 + 1, none⟩) (show g < wr.heap.size by omega)).trans y1⟩
        refine hK.out _ _ hSh1 ?_
        clear hK K
        refine held_take (v := ?_) 26 43 rfl rfl (by kernel_rfl) (by kernel_rfl) (by kernel_rfl) (fun _ _ _ h => h) ⟨by rfl, ?_⟩ hSh1 ?_
        rotate_left
        · intro w' hw'; obtain ⟨x0, x1, x2, x3, x4⟩ := hw'; go_simp; (try with_reducible rfl)
        simp only [Act.put, List.setIfInBounds_toArray, List.set_cons_zero, List.set_cons_succ]
        refine wpAnyH_done (by kernel_rfl) ?_ _
        have HBh := Lib.hid hBh1
        clear hBh1 hbh1 hSh1 hSh0 hBh0 c0 x0 x1 y0 y1 HA c1
        cases R
        · have Hmin : Hid (∀ j, j < n → 1 ≤ j → (j - 1) / 2 = k → TM.le (TM.at_ H1 c) (TM.at_ H1 j)) := Lib.hid (fun j h2 h3 h4 => by
            obtain ⟨hx, hy, hR⟩ := HX.out
            obtain ⟨hc, hd⟩ := HD.out
            have hj : j = c ∨ j = d := by omega
            rcases hj with rfl | rfl
            · exact TM.le_refl _
            · rw [TM.at_get hx, TM.at_get hy]; exact hR.symm)
          have hck : k < c ∧ (c - 1) / 2 = k := by have := HD.out; omega
          clear HX HD ew t1
          have hA1 := HZ.out.1.keep HBh.out
          have hA1' := hA1
          rw [← HZ.out.2.2.1] at hA1'
          obtain ⟨⟨vk, vi⟩, hv⟩ := get_lt (l := H1) (k := c) (by have := HZ.out.2.2.1; omega)
          obtain ⟨⟨zk, zi⟩, hz⟩ := get_lt (l := H1) (k := k) (by have := HZ.out.2.2.1; omega)
          obtain ⟨v0, v1, _, _⟩ := hA1'.cells hv
          obtain ⟨z0, z1, _, _⟩ := hA1'.cells hz
          obtain ⟨c2, _⟩ := hA1.head
          have hpl1 := hA1.lt.1
          have hgl1 := hA1.lt.2 g rfl
          have HA2 := Lib.hid (fun W => ahead_any ⟨vk, vi⟩ ⟨zk, zi⟩ W)
          obtain ⟨R2, hR2⟩ : ∃ R2, R2 = TM.ltB ⟨vk, vi⟩ ⟨zk, zi⟩ := ⟨_, rfl⟩
          rw [← hR2] at HA2
          simp only [enV] at HA2 v0 v1 z0 z1
          have HY := Lib.hid (And.intro hA1 (And.intro hv (And.intro hz hR2)))
          clear hA1 hA1' hv hz hR2
          go_wp2_with fail
          refine held_begin (fun w' : World => w'.cell? ⟨p, 0, none⟩ = some (.slice (some ⟨g, 0, none⟩) n cap) ∧ w'.cell? ⟨g, c * 2, none⟩ = some (.int .i64 vi) ∧ w'.cell? ⟨g, c * 2 + 1, none⟩ = some (.int .i64 vk) ∧ w'.cell? ⟨g, k * 2, none⟩ = some (.int .i64 zi) ∧ w'.cell? ⟨g, k * 2 + 1, none⟩ = some (.int .i64 zk)) (by kernel_rfl) ?_
          have hBt0 : Below wh1.heap.size wh1 wh1.drew := (Below.refl _ _).drew
          have hSt0 : (fun w' : World => w'.cell? ⟨p, 0, none⟩ = some (.slice (some ⟨g, 0, none⟩) n cap) ∧ w'.cell? ⟨g, c * 2, none⟩ = some (.int .i64 vi) ∧ w'.cell? ⟨g, c * 2 + 1, none⟩ = some (.int .i64 vk) ∧ w'.cell? ⟨g, k * 2, none⟩ = some (.int .i64 zi) ∧ w'.cell? ⟨g, k * 2 + 1, none⟩ = some (.int .i64 zk)) wh1.drew := ⟨c2, v0, v1, z0, z1⟩
          refine held_take (v := ?_) 0 46 rfl rfl (by kernel_rfl) (by kernel_rfl) (by kernel_rfl) (fun _ _ _ h => h) ⟨by rfl, ?_⟩ hSt0 ?_
          rotate_left
          · intro w' hw'; obtain ⟨x0, x1, x2, x3, x4⟩ := hw'; go_simp; (try with_reducible rfl)
          simp only [Act.put, List.setIfInBounds_toArray, List.set_cons_zero, List.set_cons_succ]
          refine held_take (v := ?_) 1 47 rfl rfl (by kernel_rfl) (by kernel_rfl) (by kernel_rfl) (fun _ _ _ h => h) ⟨by rfl, ?_⟩ hSt0 ?_
          rotate_left
          · intro w' hw'; obtain ⟨x0, x1, x2, x3, x4⟩ := hw'; go_simp; (try with_reducible rfl)
          simp only [Act.put, List.setIfInBounds_toArray, List.set_cons_zero, List.set_cons_succ]
          refine held_take (v := ?_) 2 48 rfl rfl (by kernel_rfl) (by kernel_rfl) (by kernel_rfl) (fun _ _ _ h => h) ⟨by rfl, ?_⟩ hSt0 ?_
          rotate_left
          · intro w' hw'; obtain ⟨x0, x1, x2, x3, x4⟩ := hw'; go_simp; (try with_reducible rfl)
          simp only [Act.put, List.setIfInBounds_toArray, List.set_cons_zero, List.set_cons_succ]
          refine held_take (v := ?_) 3 49 rfl rfl (by kernel_rfl) (by kernel_rfl) (by kernel_rfl) (fun _ _ _ h => h) ⟨by rfl, ?_⟩ hSt0 ?_
          rotate_left
          · intro w' hw'; obtain ⟨x0, x1, x2, x3, x4⟩ := hw'; go_simp; (try with_reducible rfl)
          simp only [Act.put, List.setIfInBounds_toArray, List.set_cons_zero, List.set_cons_succ]
          refine held_take (v := ?_) 4 50 rfl rfl (by kernel_rfl) (by kernel_rfl) (by kernel_rfl) (fun _ _ _ h => h) ⟨by rfl, ?_⟩ hSt0 ?_
          rotate_left
          · intro w' hw'; obtain ⟨x0, x1, x2, x3, x4⟩ := hw'; go_simp; (try with_reducible rfl)
          simp only [Act.put, List.setIfInBounds_toArray, List.set_cons_zero, List.set_cons_succ]
          refine held_take (v := ?_) 5 51 rfl rfl (by kernel_rfl) (by kernel_rfl) (by kernel_rfl) (fun _ _ _ h => h) ⟨by rfl, ?_⟩ hSt0 ?_
          rotate_left
          · intro w' hw'; obtain ⟨x0, x1, x2, x3, x4⟩ := hw'; go_simp; (try with_reducible rfl)
          simp only [Act.put, List.setIfInBounds_toArray, List.set_cons_zero, List.set_cons_succ]
          refine held_take (v := ?_) 6 52 rfl rfl (by kernel_rfl) (by kernel_rfl) (by kernel_rfl) (fun _ _ _ h => h) ⟨by rfl, ?_⟩ hSt0 ?_
          rotate_left
          · intro w' hw'; obtain ⟨x0, x1, x2, x3, x4⟩ := hw'; go_simp; (try with_reducible rfl)
          simp only [Act.put, List.setIfInBounds_toArray, List.set_cons_zero, List.set_cons_succ]
          refine held_take (v := ?_) 7 53 rfl rfl (by kernel_rfl) (by kernel_rfl) (by kernel_rfl) (fun _ _ _ h => h) ⟨by rfl, ?_⟩ hSt0 ?_
          rotate_left
          · intro w' hw'; obtain ⟨x0, x1, x2, x3, x4⟩ := hw'; go_simp; (try with_reducible rfl)
          simp only [Act.put, List.setIfInBounds_toArray, List.set_cons_zero, List.set_cons_succ]
          refine held_take (v := ?_) 8 54 rfl rfl (by kernel_rfl) (by kernel_rfl) (by kernel_rfl) (fun _ _ _ h => h) ⟨by rfl, ?_⟩ hSt0 ?_
          rotate_left
          · intro w' hw'; obtain ⟨x0, x1, x2, x3, x4⟩ := hw'; go_simp; (try with_reducible rfl)
          simp only [Act.put, List.setIfInBounds_toArray, List.set_cons_zero, List.set_cons_succ]
          refine held_take (v := ?_) 9 55 rfl rfl (by kernel_rfl) (by kernel_rfl) (by kernel_rfl) (fun _ _ _ h => h) ⟨by rfl, ?_⟩ hSt0 ?_
          rotate_left
          · intro w' hw'; obtain ⟨x0, x1, x2, x3, x4⟩ := hw'; go_simp; (try with_reducible rfl)
          simp only [Act.put, List.setIfInBounds_toArray, List.set_cons_zero, List.set_cons_succ]
          refine held_take (v := ?_) 10 56 rfl rfl (by kernel_rfl) (by kernel_rfl) (by kernel_rfl) (fun _ _ _ h => h) ⟨by rfl, ?_⟩ hSt0 ?_
          rotate_left
          · intro w' hw'; obtain ⟨x0, x1, x2, x3, x4⟩ := hw'; go_simp; (try with_reducible rfl)
          simp only [Act.put, List.setIfInBounds_toArray, List.set_cons_zero, List.set_cons_succ]
          refine held_take (v := ?_) 11 57 rfl rfl (by kernel_rfl) (by kernel_rfl) (by kernel_rfl) (fun _ _ _ h => h) ⟨by rfl, ?_⟩ hSt0 ?_
          rotate_left
          · intro w' hw'; obtain ⟨x0, x1, x2, x3, x4⟩ := hw'; go_simp; (try with_reducible rfl)
          simp only [Act.put, List.setIfInBounds_toArray, List.set_cons_zero, List.set_cons_succ]
          refine held_take (v := ?_) 12 58 rfl rfl (by kernel_rfl) (by kernel_rfl) (by kernel_rfl) (fun _ _ _ h => h) ⟨by rfl, ?_⟩ hSt0 ?_
          rotate_left
          · intro w' hw'; obtain ⟨x0, x1, x2, x3, x4⟩ := hw'; go_simp; (try with_reducible rfl)
          simp only [Act.put, List.setIfInBounds_toArray, List.set_cons_zero, List.set_cons_succ]
          refine held_take (v := ?_) 13 59 rfl rfl (by kernel_rfl) (by kernel_rfl) (by kernel_rfl) (fun _ _ _ h => h) ⟨by rfl, ?_⟩ hSt0 ?_
          rotate_left
          · intro w' hw'; obtain ⟨x0, x1, x2, x3, x4⟩ := hw'; go_simp; (try with_reducible rfl)
          simp only [Act.put, List.setIfInBounds_toArray, List.set_cons_zero, List.set_cons_succ]
          refine held_take (v := ?_) 14 60 rfl rfl (by kernel_rfl) (by kernel_rfl) (by kernel_rfl) (fun _ _ _ h => h) ⟨by rfl, ?_⟩ hSt0 ?_
          rotate_left
          · intro w' hw'; obtain ⟨x0, x1, x2, x3, x4⟩ := hw'; go_simp; (try with_reducible rfl)
          simp only [Act.put, List.setIfInBounds_toArray, List.set_cons_zero, List.set_cons_succ]
          refine held_one 15 rfl (by kernel_rfl) (by rfl) (fun K hK => ?_)
          go_simp
          go_invoke; (first | go_upon | go_simp); go_at_call 43
          refine (HA2.out wh1.drew).mono ?_
          rintro e wt1 ⟨rfl, hbt1⟩
          have hBt1 : Below wh1.heap.size wh1 wt1 := below_step hBt0 hbt1
          have hSt1 : (fun w' : World => w'.cell? ⟨p, 0, none⟩ = some (.slice (some ⟨g, 0, none⟩) n cap) ∧ w'.cell? ⟨g, c * 2, none⟩ = some (.int .i64 vi) ∧ w'.cell? ⟨g, c * 2 + 1, none⟩ = some (.int .i64 vk) ∧ w'.cell? ⟨g, k * 2, none⟩ = some (.int .i64 zi) ∧ w'.cell? ⟨g, k * 2 + 1, none⟩ = some (.int .i64 zk)) wt1 := ⟨(hBt1.cell (p := ⟨p, 0, none⟩) (show p < wh1.heap.size by omega)).trans c2, (hBt1.cell (p := ⟨g, c * 2, none⟩) (show g < wh1.heap.size by omega)).trans v0, (hBt1.cell (p := ⟨g, c * 2 + 1, none⟩) (show g < wh1.heap.size by omega)).trans v1, (hBt1.cell (p := ⟨g, k * 2, none⟩) (show g < wh1.heap.size by omega)).trans z0, (hBt1.cell (p := ⟨g, k * 2 + 1, none⟩) (show g < wh1.heap.size by omega)).trans z1⟩
          refine hK.out _ _ hSt1 ?_
          clear hK K
          refine held_take (v := ?_) 16 62 rfl rfl (by kernel_rfl) (by kernel_rfl) (by kernel_rfl) (fun _ _ _ h => h) ⟨by rfl, ?_⟩ hSt1 ?_
          rotate_left
          · intro w' hw'; obtain ⟨x0, x1, x2, x3, x4⟩ := hw'; go_simp; (try with_reducible rfl)
          simp only [Act.put, List.setIfInBounds_toArray, List.set_cons_zero, List.set_cons_succ]
          refine wpAnyH_done (by kernel_rfl) ?_ _
          have HB4 := Lib.hid (below_step HBh.out (hBt1.mono (Nat.le_refl _)))
          clear hBt1 hbt1 hSt1 hSt0 hBt0 c2 v0 v1 z0 z1 HA2
          cases R2
          · go_wp2
            first | go_end0 | go_ret | (refine bodyPost_ret (v := .tuple #[]) (by simp [results, go_sem]) rfl ?_)
            obtain ⟨hA, hP, hl, hor, hF⟩ := HZ.out
            obtain ⟨_, hv, hz, hR2⟩ := HY.out
            refine ⟨rfl, H1, hA.keep HB4.out, hP, ?_, hF.trans (Foot.of_below HB4.out) (fun i hi => .inl hi)⟩
            rw [hl]
            refine TM.sink_stop hor fun j h1 h2 h3 => ?_
            refine TM.le_trans ?_ (Hmin.out j h1 h2 h3)
            rw [TM.at_get hv, TM.at_get hz]; exact hR2.symm
          · have HS := Lib.hid (swap_any p u (.slice (some ⟨g, 0, none⟩) n cap) H1 k c wt1 (HZ.out.1.keep HB4.out) (by have := HZ.out.2.2.1; omega) (by have := HZ.out.2.2.1; omega))
            go_wp2_with fail
            (with_reducible refine HS.out.mono ?_)
            rintro e w5 ⟨rfl, hA5, hF5⟩
            go_wp2_with fail
            go_roundw
            case rel =>
              obtain ⟨hA, hP, hl, hor, hF⟩ := HZ.out
              obtain ⟨_, hv, hz, hR2⟩ := HY.out
              refine ⟨c, rfl, by omega, Lib.hid ⟨TM.swapL H1 k c, hA5, (TM.swapL_perm (by omega) (by omega)).trans hP, by rw [TM.swapL_len]; exact hl, ?_, (hF.trans (Foot.of_below (F := fun _ => False) HB4.out) (fun i hi => hi.elim)).trans hF5 (fun i hi => .inl hi)⟩⟩
              rw [TM.swapL_at (by omega) (by omega)]
              exact TM.sink_step hor (by omega) (by omega) (by omega) (by rw [TM.at_get hv, TM.at_get hz]; exact hR2.symm) Hmin.out
            case measure => simp [intOf]; omega

        · have Hmin : Hid (∀ j, j < n → 1 ≤ j → (j - 1) / 2 = k → TM.le (TM.at_ H1 d) (TM.at_ H1 j)) := Lib.hid (fun j h2 h3 h4 => by
            obtain ⟨hx, hy, hR⟩ := HX.out
            obtain ⟨hc, hd⟩ := HD.out
            have hj : j = c ∨ j = d := by omega
            rcases hj with rfl | rfl
            · rw [TM.at_get hx, TM.at_get hy]; exact TM.le_of_lt hR.symm
            · exact TM.le_refl _)
          have hck : k < d ∧ (d - 1) / 2 = k := by have := HD.out; omega
          go_wp2_with fail
          clear HX HD ew t1
          have hA1 := HZ.out.1.keep HBh.out
          have hA1' := hA1
          rw [← HZ.out.2.2.1] at hA1'
          obtain ⟨⟨vk, vi⟩, hv⟩ := get_lt (l := H1) (k := d) (by have := HZ.out.2.2.1; omega)
          obtain ⟨⟨zk, zi⟩, hz⟩ := get_lt (l := H1) (k := k) (by have := HZ.out.2.2.1; omega)
          obtain ⟨v0, v1, _, _⟩ := hA1'.cells hv
          obtain ⟨z0, z1, _, _⟩ := hA1'.cells hz
          obtain ⟨c2, _⟩ := hA1.head
          have hpl1 := hA1.lt.1
          have hgl1 := hA1.lt.2 g rfl
          have HA2 := Lib.hid (fun W => ahead_any ⟨vk, vi⟩ ⟨zk, zi⟩ W)
          obtain ⟨R2, hR2⟩ : ∃ R2, R2 = TM.ltB ⟨vk, vi⟩ ⟨zk, zi⟩ := ⟨_, rfl⟩
          rw [← hR2] at HA2
          simp only [enV] at HA2 v0 v1 z0 z1
          have HY := Lib.hid (And.intro hA1 (And.intro hv (And.intro hz hR2)))
          clear hA1 hA1' hv hz hR2
          go_wp2_with fail
          refine held_begin (fun w' : World => w'.cell? ⟨p, 0, none⟩ = some (.slice (some ⟨g, 0, none⟩) n cap) ∧ w'.cell? ⟨g, d * 2, none⟩ = some (.int .i64 vi) ∧ w'.cell? ⟨g, d * 2 + 1, none⟩ = some (.int .i64 vk) ∧ w'.cell? ⟨g, k * 2, none⟩ = some (.int .i64 zi) ∧ w'.cell? ⟨g, k * 2 + 1, none⟩ = some (.int .i64 zk)) (by kernel_rfl) ?_
          have hBt0 : Below wh1.heap.size wh1 wh1.drew := (Below.refl _ _).drew
          have hSt0 : (fun w' : World => w'.cell? ⟨p, 0, none⟩ = some (.slice (some ⟨g, 0, none⟩) n cap) ∧ w'.cell? ⟨g, d * 2, none⟩ = some (.int .i64 vi) ∧ w'.cell? ⟨g, d * 2 + 1, none⟩ = some (.int .i64 vk) ∧ w'.cell? ⟨g, k * 2, none⟩ = some (.int .i64 zi) ∧ w'.cell? ⟨g, k * 2 + 1, none⟩ = some (.int .i64 zk)) wh1.drew := ⟨c2, v0, v1, z0, z1⟩
          refine held_take (v := ?_) 0 46 rfl rfl (by kernel_rfl) (by kernel_rfl) (by kernel_rfl) (fun _ _ _ h => h) ⟨by rfl, ?_⟩ hSt0 ?_
          rotate_left
          · intro w' hw'; obtain ⟨x0, x1, x2, x3, x4⟩ := hw'; go_simp; (try with_reducible rfl)
          simp only [Act.put, List.setIfInBounds_toArray, List.set_cons_zero, List.set_cons_succ]
          refine held_take (v := ?_) 1 47 rfl rfl (by kernel_rfl) (by kernel_rfl) (by kernel_rfl) (fun _ _ _ h => h) ⟨by rfl, ?_⟩ hSt0 ?_
          rotate_left
          · intro w' hw'; obtain ⟨x0, x1, x2, x3, x4⟩ := hw'; go_simp; (try with_reducible rfl)
          simp only [Act.put, List.setIfInBounds_toArray, List.set_cons_zero, List.set_cons_succ]
          refine held_take (v := ?_) 2 48 rfl rfl (by kernel_rfl) (by kernel_rfl) (by kernel_rfl) (fun _ _ _ h => h) ⟨by rfl, ?_⟩ hSt0 ?_
          rotate_left
          · intro w' hw'; obtain ⟨x0, x1, x2, x3, x4⟩ := hw'; go_simp; (try with_reducible rfl)
          simp only [Act.put, List.setIfInBounds_toArray, List.set_cons_zero, List.set_cons_succ]
          refine held_take (v := ?_) 3 49 rfl rfl (by kernel_rfl) (by kernel_rfl) (by kernel_rfl) (fun _ _ _ h => h) ⟨by rfl, ?_⟩ hSt0 ?_
          rotate_left
          · intro w' hw'; obtain ⟨x0, x1, x2, x3, x4⟩ := hw'; go_simp; (try with_reducible rfl)
          simp only [Act.put, List.setIfInBounds_toArray, List.set_cons_zero, List.set_cons_succ]
          refine held_take (v := ?_) 4 50 rfl rfl (by kernel_rfl) (by kernel_rfl) (by kernel_rfl) (fun _ _ _ h => h) ⟨by rfl, ?_⟩ hSt0 ?_
          rotate_left
          · intro w' hw'; obtain ⟨x0, x1, x2, x3, x4⟩ := hw'; go_simp; (try with_reducible rfl)
          simp only [Act.put, List.setIfInBounds_toArray, List.set_cons_zero, List.set_cons_succ]
          refine held_take (v := ?_) 5 51 rfl rfl (by kernel_rfl) (by kernel_rfl) (by kernel_rfl) (fun _ _ _ h => h) ⟨by rfl, ?_⟩ hSt0 ?_
          rotate_left
          · intro w' hw'; obtain ⟨x0, x1, x2, x3, x4⟩ := hw'; go_simp; (try with_reducible rfl)
          simp only [Act.put, List.setIfInBounds_toArray, List.set_cons_zero, List.set_cons_succ]
          refine held_take (v := ?_) 6 52 rfl rfl (by kernel_rfl) (by kernel_rfl) (by kernel_rfl) (fun _ _ _ h => h) ⟨by rfl, ?_⟩ hSt0 ?_
          rotate_left
          · intro w' hw'; obtain ⟨x0, x1, x2, x3, x4⟩ := hw'; go_simp; (try with_reducible rfl)
          simp only [Act.put, List.setIfInBounds_toArray, List.set_cons_zero, List.set_cons_succ]
          refine held_take (v := ?_) 7 53 rfl rfl (by kernel_rfl) (by kernel_rfl) (by kernel_rfl) (fun _ _ _ h => h) ⟨by rfl, ?_⟩ hSt0 ?_
          rotate_left
          · intro w' hw'; obtain ⟨x0, x1, x2, x3, x4⟩ := hw'; go_simp; (try with_reducible rfl)
          simp only [Act.put, List.setIfInBounds_toArray, List.set_cons_zero, List.set_cons_succ]
          refine held_take (v := ?_) 8 54 rfl rfl (by kernel_rfl) (by kernel_rfl) (by kernel_rfl) (fun _ _ _ h => h) ⟨by rfl, ?_⟩ hSt0 ?_
          rotate_left
          · intro w' hw'; obtain ⟨x0, x1, x2, x3, x4⟩ := hw'; go_simp; (try with_reducible rfl)
          simp only [Act.put, List.setIfInBounds_toArray, List.set_cons_zero, List.set_cons_succ]
          refine held_take (v := ?_) 9 55 rfl rfl (by kernel_rfl) (by kernel_rfl) (by kernel_rfl) (fun _ _ _ h => h) ⟨by rfl, ?_⟩ hSt0 ?_
          rotate_left
          · intro w' hw'; obtain ⟨x0, x1, x2, x3, x4⟩ := hw'; go_simp; (try with_reducible rfl)
          simp only [Act.put, List.setIfInBounds_toArray, List.set_cons_zero, List.set_cons_succ]
          refine held_take (v := ?_) 10 56 rfl rfl (by kernel_rfl) (by kernel_rfl) (by kernel_rfl) (fun _ _ _ h => h) ⟨by rfl, ?_⟩ hSt0 ?_
          rotate_left
          · intro w' hw'; obtain ⟨x0, x1, x2, x3, x4⟩ := hw'; go_simp; (try with_reducible rfl)
          simp only [Act.put, List.setIfInBounds_toArray, List.set_cons_zero, List.set_cons_succ]
          refine held_take (v := ?_) 11 57 rfl rfl (by kernel_rfl) (by kernel_rfl) (by kernel_rfl) (fun _ _ _ h => h) ⟨by rfl, ?_⟩ hSt0 ?_
          rotate_left
          · intro w' hw'; obtain ⟨x0, x1, x2, x3, x4⟩ := hw'; go_simp; (try with_reducible rfl)
          simp only [Act.put, List.setIfInBounds_toArray, List.set_cons_zero, List.set_cons_succ]
          refine held_take (v := ?_) 12 58 rfl rfl (by kernel_rfl) (by kernel_rfl) (by kernel_rfl) (fun _ _ _ h => h) ⟨by rfl, ?_⟩ hSt0 ?_
          rotate_left
          · intro w' hw'; obtain ⟨x0, x1, x2, x3, x4⟩ := hw'; go_simp; (try with_reducible rfl)
          simp only [Act.put, List.setIfInBounds_toArray, List.set_cons_zero, List.set_cons_succ]
          refine held_take (v := ?_) 13 59 rfl rfl (by kernel_rfl) (by kernel_rfl) (by kernel_rfl) (fun _ _ _ h => h) ⟨by rfl, ?_⟩ hSt0 ?_
          rotate_left
          · intro w' hw'; obtain ⟨x0, x1, x2, x3, x4⟩ := hw'; go_simp; (try with_reducible rfl)
          simp only [Act.put, List.setIfInBounds_toArray, List.set_cons_zero, List.set_cons_succ]
          refine held_take (v := ?_) 14 60 rfl rfl (by kernel_rfl) (by kernel_rfl) (by kernel_rfl) (fun _ _ _ h => h) ⟨by rfl, ?_⟩ hSt0 ?_
          rotate_left
          · intro w' hw'; obtain ⟨x0, x1, x2, x3, x4⟩ := hw'; go_simp; (try with_reducible rfl)
          simp only [Act.put, List.setIfInBounds_toArray, List.set_cons_zero, List.set_cons_succ]
          refine held_one 15 rfl (by kernel_rfl) (by rfl) (fun K hK => ?_)
          go_simp
          go_invoke; (first | go_upon | go_simp); go_at_call 43
          refine (HA2.out wh1.drew).mono ?_
          rintro e wt1 ⟨rfl, hbt1⟩
          have hBt1 : Below wh1.heap.size wh1 wt1 := below_step hBt0 hbt1
          have hSt1 : (fun w' : World => w'.cell? ⟨p, 0, none⟩ = some (.slice (some ⟨g, 0, none⟩) n cap) ∧ w'.cell? ⟨g, d * 2, none⟩ = some (.int .i64 vi) ∧ w'.cell? ⟨g, d * 2 + 1, none⟩ = some (.int .i64 vk) ∧ w'.cell? ⟨g, k * 2, none⟩ = some (.int .i64 zi) ∧ w'.cell? ⟨g, k * 2 + 1, none⟩ = some (.int .i64 zk)) wt1 := ⟨(hBt1.cell (p := ⟨p, 0, none⟩) (show p < wh1.heap.size by omega)).trans c2, (hBt1.cell (p := ⟨g, d * 2, none⟩) (show g < wh1.heap.size by omega)).trans v0, (hBt1.cell (p := ⟨g, d * 2 + 1, none⟩) (show g < wh1.heap.size by omega)).trans v1, (hBt1.cell (p := ⟨g, k * 2, none⟩) (show g < wh1.heap.size by omega)).trans z0, (hBt1.cell (p := ⟨g, k * 2 + 1, none⟩) (show g < wh1.heap.size by omega)).trans z1⟩
          refine hK.out _ _ hSt1 ?_
          clear hK K
          refine held_take (v := ?_) 16 62 rfl rfl (by kernel_rfl) (by kernel_rfl) (by kernel_rfl) (fun _ _ _ h => h) ⟨by rfl, ?_⟩ hSt1 ?_
          rotate_left
          · intro w' hw'; obtain ⟨x0, x1, x2, x3, x4⟩ := hw'; go_simp; (try with_reducible rfl)
          simp only [Act.put, List.setIfInBounds_toArray, List.set_cons_zero, List.set_cons_succ]
          refine wpAnyH_done (by kernel_rfl) ?_ _
          have HB4 := Lib.hid (below_step HBh.out (hBt1.mono (Nat.le_refl _)))
          clear hBt1 hbt1 hSt1 hSt0 hBt0 c2 v0 v1 z0 z1 HA2
          cases R2
          · go_wp2
            first | go_end0 | go_ret | (refine bodyPost_ret (v := .tuple #[]) (by simp [results, go_sem]) rfl ?_)
            obtain ⟨hA, hP, hl, hor, hF⟩ := HZ.out
            obtain ⟨_, hv, hz, hR2⟩ := HY.out
            refine ⟨rfl, H1, hA.keep HB4.out, hP, ?_, hF.trans (Foot.of_below HB4.out) (fun i hi => .inl hi)⟩
            rw [hl]
            refine TM.sink_stop hor fun j h1 h2 h3 => ?_
            refine TM.le_trans ?_ (Hmin.out j h1 h2 h3)
            rw [TM.at_get hv, TM.at_get hz]; exact hR2.symm
          · have HS := Lib.hid (swap_any p u (.slice (some ⟨g, 0, none⟩) n cap) H1 k d wt1 (HZ.out.1.keep HB4.out) (by have := HZ.out.2.2.1; omega) (by have := HZ.out.2.2.1; omega))
            go_wp2_with fail
            (with_reducible refine HS.out.mono ?_)
            rintro e w5 ⟨rfl, hA5, hF5⟩
            go_wp2_with fail
            go_roundw
            case rel =>
              obtain ⟨hA, hP, hl, hor, hF⟩ := HZ.out
              obtain ⟨_, hv, hz, hR2⟩ := HY.out
              refine ⟨d, rfl, by omega, Lib.hid ⟨TM.swapL H1 k d, hA5, (TM.swapL_perm (by omega) (by omega)).trans hP, by rw [TM.swapL_len]; exact hl, ?_, (hF.trans (Foot.of_below (F := fun _ => False) HB4.out) (fun i hi => hi.elim)).trans hF5 (fun i hi => .inl hi)⟩⟩
              rw [TM.swapL_at (by omega) (by omega)]
              exact TM.sink_step hor (by omega) (by omega) (by omega) (by rw [TM.at_get hv, TM.at_get hz]; exact hR2.symm) Hmin.out
            case measure => simp [intOf]; omega

      · have t1 : decide (d < n) = false := decide_eq_false h1
        have HD := Lib.hid (And.intro hc hd)
        have hcn : c < n := by omega
        clear hc hd hk2 t0 h0
        refine held_begin (fun w' : World => w'.cell? ⟨p, 0, none⟩ = some (.slice (some ⟨g, 0, none⟩) n cap)) (by kernel_rfl) ?_
        have hBz0 : Below wr.heap.size wr wr.drew := (Below.refl _ _).drew
        have hSz0 : (fun w' : World => w'.cell? ⟨p, 0, none⟩ = some (.slice (some ⟨g, 0, none⟩) n cap)) wr.drew := c0
        refine held_take (v := ?_) 0 17 rfl rfl (by kernel_rfl) (by kernel_rfl) (by kernel_rfl) (fun _ _ _ h => h) ⟨by rfl, ?_⟩ hSz0 ?_
        rotate_left
        · intro w' hw'; obtain x0 := hw'; go_simp; (try with_reducible rfl)
        simp only [Act.put, List.setIfInBounds_toArray, List.set_cons_zero, List.set_cons_succ]
        refine held_take (v := ?_) 1 18 rfl rfl (by kernel_rfl) (by kernel_rfl) (by kernel_rfl) (fun _ _ _ h => h) ⟨by rfl, ?_⟩ hSz0 ?_
        rotate_left
        · intro w' hw'; obtain x0 := hw'; go_simp; (try with_reducible rfl)
        simp only [Act.put, List.setIfInBounds_toArray, List.set_cons_zero, List.set_cons_succ]
        refine held_take (v := ?_) 2 19 rfl rfl (by kernel_rfl) (by kernel_rfl) (by kernel_rfl) (fun _ _ _ h => h) ⟨by rfl, ?_⟩ hSz0 ?_
        rotate_left
        · intro w' hw'; obtain x0 := hw'; go_simp; (try with_reducible rfl)
        simp only [Act.put, List.setIfInBounds_toArray, List.set_cons_zero, List.set_cons_succ]
        refine held_take (v := ?_) 3 20 rfl rfl (by kernel_rfl) (by kernel_rfl) (by kernel_rfl) (fun _ _ _ h => h) ⟨by rfl, ?_⟩ hSz0 ?_
        rotate_left
        · intro w' hw'; obtain x0 := hw'; go_simp; (try with_reducible rfl)
        simp only [Act.put, List.setIfInBounds_toArray, List.set_cons_zero, List.set_cons_succ]
        refine held_take (v := ?_) 4 21 rfl rfl (by kernel_rfl) (by kernel_rfl) (by kernel_rfl) (fun _ _ _ h => h) ⟨by rfl, ?_⟩ hSz0 ?_
        rotate_left
        · intro w' hw'; obtain x0 := hw'; go_simp; (try with_reducible rfl)
        simp only [Act.put, List.setIfInBounds_toArray, List.set_cons_zero, List.set_cons_succ]
        refine held_take (v := ?_) 5 22 rfl rfl (by kernel_rfl) (by kernel_rfl) (by kernel_rfl) (fun _ _ _ h => h) ⟨by rfl, ?_⟩ hSz0 ?_
        rotate_left
        · intro w' hw'; obtain x0 := hw'; go_simp; (try with_reducible rfl)
        simp only [Act.put, List.setIfInBounds_toArray, List.set_cons_zero, List.set_cons_succ]
        refine held_take (v := ?_) 6 23 rfl rfl (by kernel_rfl) (by kernel_rfl) (by kernel_rfl) (fun _ _ _ h => h) ⟨by rfl, ?_⟩ hSz0 ?_
        rotate_left
        · intro w' hw'; obtain x0 := hw'; go_simp; (try with_reducible rfl)
        simp only [Act.put, List.setIfInBounds_toArray, List.set_cons_zero, List.set_cons_succ]
        refine held_take (v := ?_) 7 24 rfl rfl (by kernel_rfl) (by kernel_rfl) (by kernel_rfl) (fun _ _ _ h => h) ⟨by rfl, ?_⟩ hSz0 ?_
        rotate_left
        · intro w' hw'; obtain x0 := hw'; go_simp; (try with_reducible rfl)
        simp only [Act.put, List.setIfInBounds_toArray, List.set_cons_zero, List.set_cons_succ]
        refine held_take (v := ?_) 8 25 rfl rfl (by kernel_rfl) (by kernel_rfl) (by kernel_rfl) (fun _ _ _ h => h) ⟨by rfl, ?_⟩ hSz0 ?_
        rotate_left
        · intro w' hw'; obtain x0 := hw'; go_simp; (try with_reducible rfl)
        simp only [Act.put, List.setIfInBounds_toArray, List.set_cons_zero, List.set_cons_succ]
        refine held_skip 9 26 rfl rfl (by kernel_rfl) (by kernel_rfl) (by kernel_rfl) (fun _ _ _ h => h) (by rfl) hSz0 ?_
        simp only [Act.put, List.setIfInBounds_toArray, List.set_cons_zero, List.set_cons_succ]
        refine held_skip 10 27 rfl rfl (by kernel_rfl) (by kernel_rfl) (by kernel_rfl) (fun _ _ _ h => h) (by rfl) hSz0 ?_
        simp only [Act.put, List.setIfInBounds_toArray, List.set_cons_zero, List.set_cons_succ]
        refine held_skip 11 28 rfl rfl (by kernel_rfl) (by kernel_rfl) (by kernel_rfl) (fun _ _ _ h => h) (by rfl) hSz0 ?_
        simp only [Act.put, List.setIfInBounds_toArray, List.set_cons_zero, List.set_cons_succ]
        refine held_skip 12 29 rfl rfl (by kernel_rfl) (by kernel_rfl) (by kernel_rfl) (fun _ _ _ h => h) (by rfl) hSz0 ?_
        simp only [Act.put, List.setIfInBounds_toArray, List.set_cons_zero, List.set_cons_succ]
        refine held_skip 13 30 rfl rfl (by kernel_rfl) (by kernel_rfl) (by kernel_rfl) (fun _ _ _ h => h) (by rfl) hSz0 ?_
        simp only [Act.put, List.setIfInBounds_toArray, List.set_cons_zero, List.set_cons_succ]
        refine held_skip 14 31 rfl rfl (by kernel_rfl) (by kernel_rfl) (by kernel_rfl) (fun _ _ _ h => h) (by rfl) hSz0 ?_
        simp only [Act.put, List.setIfInBounds_toArray, List.set_cons_zero, List.set_cons_succ]
        refine held_skip 15 32 rfl rfl (by kernel_rfl) (by kernel_rfl) (by kernel_rfl) (fun _ _ _ h => h) (by rfl) hSz0 ?_
        simp only [Act.put, List.setIfInBounds_toArray, List.set_cons_zero, List.set_cons_succ]
        refine held_skip 16 33 rfl rfl (by kernel_rfl) (by kernel_rfl) (by kernel_rfl) (fun _ _ _ h => h) (by rfl) hSz0 ?_
        simp only [Act.put, List.setIfInBounds_toArray, List.set_cons_zero, List.set_cons_succ]
        refine held_skip 17 34 rfl rfl (by kernel_rfl) (by kernel_rfl) (by kernel_rfl) (fun _ _ _ h => h) (by rfl) hSz0 ?_
        simp only [Act.put, List.setIfInBounds_toArray, List.set_cons_zero, List.set_cons_succ]
        refine held_skip 18 35 rfl rfl (by kernel_rfl) (by kernel_rfl) (by kernel_rfl) (fun _ _ _ h => h) (by rfl) hSz0 ?_
        simp only [Act.put, List.setIfInBounds_toArray, List.set_cons_zero, List.set_cons_succ]
        refine held_skip 19 36 rfl rfl (by kernel_rfl) (by kernel_rfl) (by kernel_rfl) (fun _ _ _ h => h) (by rfl) hSz0 ?_
        simp only [Act.put, List.setIfInBounds_toArray, List.set_cons_zero, List.set_cons_succ]
        refine held_skip 20 37 rfl rfl (by kernel_rfl) (by kernel_rfl) (by kernel_rfl) (fun _ _ _ h => h) (by rfl) hSz0 ?_
        simp only [Act.put, List.setIfInBounds_toArray, List.set_cons_zero, List.set_cons_succ]
        refine held_skip 21 38 rfl rfl (by kernel_rfl) (by kernel_rfl) (by kernel_rfl) (fun _ _ _ h => h) (by rfl) hSz0 ?_
        simp only [Act.put, List.setIfInBounds_toArray, List.set_cons_zero, List.set_cons_succ]
        refine held_skip 22 39 rfl rfl (by kernel_rfl) (by kernel_rfl) (by kernel_rfl) (fun _ _ _ h => h) (by rfl) hSz0 ?_
        simp only [Act.put, List.setIfInBounds_toArray, List.set_cons_zero, List.set_cons_succ]
        refine held_skip 23 40 rfl rfl (by kernel_rfl) (by kernel_rfl) (by kernel_rfl) (fun _ _ _ h => h) (by rfl) hSz0 ?_
        simp only [Act.put, List.setIfInBounds_toArray, List.set_cons_zero, List.set_cons_succ]
        refine held_skip 24 41 rfl rfl (by kernel_rfl) (by kernel_rfl) (by kernel_rfl) (fun _ _ _ h => h) (by rfl) hSz0 ?_
        simp only [Act.put, List.setIfInBounds_toArray, List.set_cons_zero, List.set_cons_succ]
        refine held_skip 25 42 rfl rfl (by kernel_rfl) (by kernel_rfl) (by kernel_rfl) (fun _ _ _ h => h) (by rfl) hSz0 ?_
        simp only [Act.put, List.setIfInBounds_toArray, List.set_cons_zero, List.set_cons_succ]
        refine held_take (v := ?_) 26 43 rfl rfl (by kernel_rfl) (by kernel_rfl) (by kernel_rfl) (fun _ _ _ h => h) ⟨by rfl, ?_⟩ hSz0 ?_
        rotate_left
        · intro w' hw'; obtain x0 := hw'; go_simp; (try with_reducible rfl)
        simp only [Act.put, List.setIfInBounds_toArray, List.set_cons_zero, List.set_cons_succ]
        refine wpAnyH_done (by kernel_rfl) ?_ _
        have HBh := Lib.hid ((Below.refl wr.heap.size wr).drew)
        clear hSz0 hBz0 c0 c1
        generalize wr.drew = wh1 at HBh ⊢
        have Hmin : Hid (∀ j, j < n → 1 ≤ j → (j - 1) / 2 = k → TM.le (TM.at_ H1 c) (TM.at_ H1 j)) := Lib.hid (fun j h2 h3 h4 => by
            obtain ⟨hc, hd⟩ := HD.out
            have hj : j = c := by omega
            rw [hj]
            exact TM.le_refl _)
        have hck : k < c ∧ (c - 1) / 2 = k := by have := HD.out; omega
        clear HD ew t1 h1
        have hA1 := HZ.out.1.keep HBh.out
        have hA1' := hA1
        rw [← HZ.out.2.2.1] at hA1'
        obtain ⟨⟨vk, vi⟩, hv⟩ := get_lt (l := H1) (k := c) (by have := HZ.out.2.2.1; omega)
        obtain ⟨⟨zk, zi⟩, hz⟩ := get_lt (l := H1) (k := k) (by have := HZ.out.2.2.1; omega)
        obtain ⟨v0, v1, _, _⟩ := hA1'.cells hv
        obtain ⟨z0, z1, _, _⟩ := hA1'.cells hz
        obtain ⟨c2, _⟩ := hA1.head
        have hpl1 := hA1.lt.1
        have hgl1 := hA1.lt.2 g rfl
        have HA2 := Lib.hid (fun W => ahead_any ⟨vk, vi⟩ ⟨zk, zi⟩ W)
        obtain ⟨R2, hR2⟩ : ∃ R2, R2 = TM.ltB ⟨vk, vi⟩ ⟨zk, zi⟩ := ⟨_, rfl⟩
        rw [← hR2] at HA2
        simp only [enV] at HA2 v0 v1 z0 z1
        have HY := Lib.hid (And.intro hA1 (And.intro hv (And.intro hz hR2)))
        clear hA1 hA1' hv hz hR2
        go_wp2_with fail
        refine held_begin (fun w' : World => w'.cell? ⟨p, 0, none⟩ = some (.slice (some ⟨g, 0, none⟩) n cap) ∧ w'.cell? ⟨g, c * 2, none⟩ = some (.int .i64 vi) ∧ w'.cell? ⟨g, c * 2 + 1, none⟩ = some (.int .i64 vk) ∧ w'.cell? ⟨g, k * 2, none⟩ = some (.int .i64 zi) ∧ w'.cell? ⟨g, k * 2 + 1, none⟩ = some (.int .i64 zk)) (by kernel_rfl) ?_
        have hBt0 : Below wh1.heap.size wh1 wh1.drew := (Below.refl _ _).drew
        have hSt0 : (fun w' : World => w'.cell? ⟨p, 0, none⟩ = some (.slice (some ⟨g, 0, none⟩) n cap) ∧ w'.cell? ⟨g, c * 2, none⟩ = some (.int .i64 vi) ∧ w'.cell? ⟨g, c * 2 + 1, none⟩ = some (.int .i64 vk) ∧ w'.cell? ⟨g, k * 2, none⟩ = some (.int .i64 zi) ∧ w'.cell? ⟨g, k * 2 + 1, none⟩ = some (.int .i64 zk)) wh1.drew := ⟨c2, v0, v1, z0, z1⟩
        refine held_take (v := ?_) 0 46 rfl rfl (by kernel_rfl) (by kernel_rfl) (by kernel_rfl) (fun _ _ _ h => h) ⟨by rfl, ?_⟩ hSt0 ?_
        rotate_left
        · intro w' hw'; obtain ⟨x0, x1, x2, x3, x4⟩ := hw'; go_simp; (try with_reducible rfl)
        simp only [Act.put, List.setIfInBounds_toArray, List.set_cons_zero, List.set_cons_succ]
        refine held_take (v := ?_) 1 47 rfl rfl (by kernel_rfl) (by kernel_rfl) (by kernel_rfl) (fun _ _ _ h => h) ⟨by rfl, ?_⟩ hSt0 ?_
        rotate_left
        · intro w' hw'; obtain ⟨x0, x1, x2, x3, x4⟩ := hw'; go_simp; (try with_reducible rfl)
        simp only [Act.put, List.setIfInBounds_toArray, List.set_cons_zero, List.set_cons_succ]
        refine held_take (v := ?_) 2 48 rfl rfl (by kernel_rfl) (by kernel_rfl) (by kernel_rfl) (fun _ _ _ h => h) ⟨by rfl, ?_⟩ hSt0 ?_
        rotate_left
        · intro w' hw'; obtain ⟨x0, x1, x2, x3, x4⟩ := hw'; go_simp; (try with_reducible rfl)
        simp only [Act.put, List.setIfInBounds_toArray, List.set_cons_zero, List.set_cons_succ]
        refine held_take (v := ?_) 3 49 rfl rfl (by kernel_rfl) (by kernel_rfl) (by kernel_rfl) (fun _ _ _ h => h) ⟨by rfl, ?_⟩ hSt0 ?_
        rotate_left
        · intro w' hw'; obtain ⟨x0, x1, x2, x3, x4⟩ := hw'; go_simp; (try with_reducible rfl)
        simp only [Act.put, List.setIfInBounds_toArray, List.set_cons_zero, List.set_cons_succ]
        refine held_take (v := ?_) 4 50 rfl rfl (by kernel_rfl) (by kernel_rfl) (by kernel_rfl) (fun _ _ _ h => h) ⟨by rfl, ?_⟩ hSt0 ?_
        rotate_left
        · intro w' hw'; obtain ⟨x0, x1, x2, x3, x4⟩ := hw'; go_simp; (try with_reducible rfl)
        simp only [Act.put, List.setIfInBounds_toArray, List.set_cons_zero, List.set_cons_succ]
        refine held_take (v := ?_) 5 51 rfl rfl (by kernel_rfl) (by kernel_rfl) (by kernel_rfl) (fun _ _ _ h => h) ⟨by rfl, ?_⟩ hSt0 ?_
        rotate_left
        · intro w' hw'; obtain ⟨x0, x1, x2, x3, x4⟩ := hw'; go_simp; (try with_reducible rfl)
        simp only [Act.put, List.setIfInBounds_toArray, List.set_cons_zero, List.set_cons_succ]
        refine held_take (v := ?_) 6 52 rfl rfl (by kernel_rfl) (by kernel_rfl) (by kernel_rfl) (fun _ _ _ h => h) ⟨by rfl, ?_⟩ hSt0 ?_
        rotate_left
        · intro w' hw'; obtain ⟨x0, x1, x2, x3, x4⟩ := hw'; go_simp; (try with_reducible rfl)
        simp only [Act.put, List.setIfInBounds_toArray, List.set_cons_zero, List.set_cons_succ]
        refine held_take (v := ?_) 7 53 rfl rfl (by kernel_rfl) (by kernel_rfl) (by kernel_rfl) (fun _ _ _ h => h) ⟨by rfl, ?_⟩ hSt0 ?_
        rotate_left
        · intro w' hw'; obtain ⟨x0, x1, x2, x3, x4⟩ := hw'; go_simp; (try with_reducible rfl)
        simp only [Act.put, List.setIfInBounds_toArray, List.set_cons_zero, List.set_cons_succ]
        refine held_take (v := ?_) 8 54 rfl rfl (by kernel_rfl) (by kernel_rfl) (by kernel_rfl) (fun _ _ _ h => h) ⟨by rfl, ?_⟩ hSt0 ?_
        rotate_left
        · intro w' hw'; obtain ⟨x0, x1, x2, x3, x4⟩ := hw'; go_simp; (try with_reducible rfl)
        simp only [Act.put, List.setIfInBounds_toArray, List.set_cons_zero, List.set_cons_succ]
        refine held_take (v := ?_) 9 55 rfl rfl (by kernel_rfl) (by kernel_rfl) (by kernel_rfl) (fun _ _ _ h => h) ⟨by rfl, ?_⟩ hSt0 ?_
        rotate_left
        · intro w' hw'; obtain ⟨x0, x1, x2, x3, x4⟩ := hw'; go_simp; (try with_reducible rfl)
        simp only [Act.put, List.setIfInBounds_toArray, List.set_cons_zero, List.set_cons_succ]
        refine held_take (v := ?_) 10 56 rfl rfl (by kernel_rfl) (by kernel_rfl) (by kernel_rfl) (fun _ _ _ h => h) ⟨by rfl, ?_⟩ hSt0 ?_
        rotate_left
        · intro w' hw'; obtain ⟨x0, x1, x2, x3, x4⟩ := hw'; go_simp; (try with_reducible rfl)
        simp only [Act.put, List.setIfInBounds_toArray, List.set_cons_zero, List.set_cons_succ]
        refine held_take (v := ?_) 11 57 rfl rfl (by kernel_rfl) (by kernel_rfl) (by kernel_rfl) (fun _ _ _ h => h) ⟨by rfl, ?_⟩ hSt0 ?_
        rotate_left
        · intro w' hw'; obtain ⟨x0, x1, x2, x3, x4⟩ := hw'; go_simp; (try with_reducible rfl)
        simp only [Act.put, List.setIfInBounds_toArray, List.set_cons_zero, List.set_cons_succ]
        refine held_take (v := ?_) 12 58 rfl rfl (by kernel_rfl) (by kernel_rfl) (by kernel_rfl) (fun _ _ _ h => h) ⟨by rfl, ?_⟩ hSt0 ?_
        rotate_left
        · intro w' hw'; obtain ⟨x0, x1, x2, x3, x4⟩ := hw'; go_simp; (try with_reducible rfl)
        simp only [Act.put, List.setIfInBounds_toArray, List.set_cons_zero, List.set_cons_succ]
        refine held_take (v := ?_) 13 59 rfl rfl (by kernel_rfl) (by kernel_rfl) (by kernel_rfl) (fun _ _ _ h => h) ⟨by rfl, ?_⟩ hSt0 ?_
        rotate_left
        · intro w' hw'; obtain ⟨x0, x1, x2, x3, x4⟩ := hw'; go_simp; (try with_reducible rfl)
        simp only [Act.put, List.setIfInBounds_toArray, List.set_cons_zero, List.set_cons_succ]
        refine held_take (v := ?_) 14 60 rfl rfl (by kernel_rfl) (by kernel_rfl) (by kernel_rfl) (fun _ _ _ h => h) ⟨by rfl, ?_⟩ hSt0 ?_
        rotate_left
        · intro w' hw'; obtain ⟨x0, x1, x2, x3, x4⟩ := hw'; go_simp; (try with_reducible rfl)
        simp only [Act.put, List.setIfInBounds_toArray, List.set_cons_zero, List.set_cons_succ]
        refine held_one 15 rfl (by kernel_rfl) (by rfl) (fun K hK => ?_)
        go_simp
        go_invoke; (first | go_upon | go_simp); go_at_call 43
        refine (HA2.out wh1.drew).mono ?_
        rintro e wt1 ⟨rfl, hbt1⟩
        have hBt1 : Below wh1.heap.size wh1 wt1 := below_step hBt0 hbt1
        have hSt1 : (fun w' : World => w'.cell? ⟨p, 0, none⟩ = some (.slice (some ⟨g, 0, none⟩) n cap) ∧ w'.cell? ⟨g, c * 2, none⟩ = some (.int .i64 vi) ∧ w'.cell? ⟨g, c * 2 + 1, none⟩ = some (.int .i64 vk) ∧ w'.cell? ⟨g, k * 2, none⟩ = some (.int .i64 zi) ∧ w'.cell? ⟨g, k * 2 + 1, none⟩ = some (.int .i64 zk)) wt1 := ⟨(hBt1.cell (p := ⟨p, 0, none⟩) (show p < wh1.heap.size by omega)).trans c2, (hBt1.cell (p := ⟨g, c * 2, none⟩) (show g < wh1.heap.size by omega)).trans v0, (hBt1.cell (p := ⟨g, c * 2 + 1, none⟩) (show g < wh1.heap.size by omega)).trans v1, (hBt1.cell (p := ⟨g, k * 2, none⟩) (show g < wh1.heap.size by omega)).trans z0, (hBt1.cell (p := ⟨g, k * 2 + 1, none⟩) (show g < wh1.heap.size by omega)).trans z1⟩
        refine hK.out _ _ hSt1 ?_
        clear hK K
        refine held_take (v := ?_) 16 62 rfl rfl (by kernel_rfl) (by kernel_rfl) (by kernel_rfl) (fun _ _ _ h => h) ⟨by rfl, ?_⟩ hSt1 ?_
        rotate_left
        · intro w' hw'; obtain ⟨x0, x1, x2, x3, x4⟩ := hw'; go_simp; (try with_reducible rfl)
        simp only [Act.put, List.setIfInBounds_toArray, List.set_cons_zero, List.set_cons_succ]
        refine wpAnyH_done (by kernel_rfl) ?_ _
        have HB4 := Lib.hid (below_step HBh.out (hBt1.mono (Nat.le_refl _)))
        clear hBt1 hbt1 hSt1 hSt0 hBt0 c2 v0 v1 z0 z1 HA2
        cases R2
        · go_wp2
          first | go_end0 | go_ret | (refine bodyPost_ret (v := .tuple #[]) (by simp [results, go_sem]) rfl ?_)
          obtain ⟨hA, hP, hl, hor, hF⟩ := HZ.out
          obtain ⟨_, hv, hz, hR2⟩ := HY.out
          refine ⟨rfl, H1, hA.keep HB4.out, hP, ?_, hF.trans (Foot.of_below HB4.out) (fun i hi => .inl hi)⟩
          rw [hl]
          refine TM.sink_stop hor fun j h1 h2 h3 => ?_
          refine TM.le_trans ?_ (Hmin.out j h1 h2 h3)
          rw [TM.at_get hv, TM.at_get hz]; exact hR2.symm
        · have HS := Lib.hid (swap_any p u (.slice (some ⟨g, 0, none⟩) n cap) H1 k c wt1 (HZ.out.1.keep HB4.out) (by have := HZ.out.2.2.1; omega) (by have := HZ.out.2.2.1; omega))
          go_wp2_with fail
          (with_reducible refine HS.out.mono ?_)
          rintro e w5 ⟨rfl, hA5, hF5⟩
          go_wp2_with fail
          go_roundw
          case rel =>
            obtain ⟨hA, hP, hl, hor, hF⟩ := HZ.out
            obtain ⟨_, hv, hz, hR2⟩ := HY.out
            refine ⟨c, rfl, by omega, Lib.hid ⟨TM.swapL H1 k c, hA5, (TM.swapL_perm (by omega) (by omega)).trans hP, by rw [TM.swapL_len]; exact hl, ?_, (hF.trans (Foot.of_below (F := fun _ => False) HB4.out) (fun i hi => hi.elim)).trans hF5 (fun i hi => .inl hi)⟩⟩
            rw [TM.swapL_at (by omega) (by omega)]
            exact TM.sink_step hor (by omega) (by omega) (by omega) (by rw [TM.at_get hv, TM.at_get hz]; exact hR2.symm) Hmin.out
          case measure => simp [intOf]; omega

    · have t0 : decide (2 * k + 1 < n) = false := decide_eq_false h0
      have HZ := Lib.hid (And.intro hA (And.intro hP (And.intro hl (And.intro hor hF))))
      clear hA hP hl hor hF hin
      go_wp2_with fail
      go_end0
      obtain ⟨hA, hP, hl, hor, hF⟩ := HZ.out
      refine ⟨rfl, H1, hA, hP, ?_, hF⟩
      rw [hl]
      exact TM.sink_stop hor fun j h1 h2 h3 => by omega
end Go.Proofs.Ytdoaihmeldkahaa
