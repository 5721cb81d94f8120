/- A heap's rise. -/
import Derived.Test.YtdoaihmeldkahaaTimerHeap
set_option linter.unusedVariables false
namespace Go.Proofs.Ytdoaihmeldkahaa
open Go.RowKit

theorem half_wrap (k q : Nat) (h1 : 1 ≤ k) (h2 : k ≤ 5000) (hq : q = (k - 1) / 2) : IntKind.i64.wrap ((IntKind.i64.wrap ((k : Int) - 1)).tdiv 2) = (q : Int) := by
  have e1 : IntKind.i64.wrap ((k : Int) - 1) = ((k - 1 : Nat) : Int) := by rw [IntWalk.i64_in _ (by omega)]; omega
  have e2 : ((k - 1 : Nat) : Int).tdiv 2 = (q : Int) := by rw [hq]; rfl
  rw [e1, e2, IntWalk.i64_in _ (by omega)]
set_option maxRecDepth 100000 in
set_option maxHeartbeats 4000000 in
theorem rise_any (p : Nat) (u v : Value) (H : List En) (s : Nat) (w : World) (h : HpAt w p u v H) (hs : s < H.length) (hX : TM.HeapX (TM.at_ H) H.length s) :
    Calls Try.prog 24 #[.pointer (some ⟨p, 0, none⟩), .int .i64 (s : Nat)] w fun e w' => e = .returned (.tuple #[]) ∧ ∃ H', HpAt w' p u v H' ∧ H'.Perm H ∧ TM.DownX (TM.at_ H') H'.length s ∧ Foot (vB v) w w' := by
  obtain ⟨g, cap, rfl, hg, hgp⟩ := h.form (by omega)
  have hfew := h.few
  obtain ⟨n, hn⟩ : ∃ n, n = H.length := ⟨_, rfl⟩
  have H0 := fun (t : Nat) (ht : t = s) => Lib.hid (show ∃ H', HpAt w p u (.slice (some ⟨g, 0, none⟩) n cap) H' ∧ H'.Perm H ∧ H'.length = n ∧ ((t = s ∧ TM.HeapX (TM.at_ H') n s) ∨ TM.UpX (TM.at_ H') n t) ∧ Foot (vB (.slice (some ⟨g, 0, none⟩) n cap)) w w from
    ⟨H, by rw [hn]; exact h, List.Perm.refl _, hn.symm, .inl ⟨ht, by rw [hn]; exact hX⟩, Foot.refl _ _⟩)
  rw [← hn] at hs hfew ⊢
  have H0 := Lib.hid H0
  clear h hX hn
  go_enter Try.func24, Try.ntmps24
  go_wp2
  go_loopw [1] (fun i wr => ∃ k : Nat, i = .int .i64 k ∧ k < n ∧ Hid (∃ H', HpAt wr p u (.slice (some ⟨g, 0, none⟩) n cap) H' ∧ H'.Perm H ∧ H'.length = n ∧ ((k = s ∧ TM.HeapX (TM.at_ H') n s) ∨ TM.UpX (TM.at_ H') n k) ∧ Foot (vB (.slice (some ⟨g, 0, none⟩) n cap)) w wr)) (fun i _ => (intOf i).toNat)
  case atStart => exact ⟨s, rfl, hs, H0.out s rfl⟩
  case round =>
    clear H0
    obtain ⟨k, rfl, hk, hin⟩ := hrel
    obtain ⟨H1, hA, hP, hl, hor, hF⟩ := hin.out
    by_cases h0 : k = 0
    · subst h0
      have HZ := Lib.hid (And.intro hA (And.intro hP (And.intro hl (And.intro hor hF))))
      have t0 : decide (0 < 0) = false := by decide
      clear hA hP hl hor hF hin
      go_wp2_with fail
      refine held_begin (fun w' : World => True) (by kernel_rfl) ?_
      have hBz0 : Below wr.heap.size wr wr.drew := (Below.refl _ _).drew
      have hSz0 : (fun w' : World => True) wr.drew := trivial
      refine held_take (v := ?_) 0 4 rfl rfl (by kernel_rfl) (by kernel_rfl) (by kernel_rfl) (fun _ _ _ h => h) ⟨by rfl, ?_⟩ hSz0 ?_
      rotate_left
      · intro w' hw'; obtain _ := hw'; go_simp; (try with_reducible rfl)
      simp only [Act.put, List.setIfInBounds_toArray, List.set_cons_zero, List.set_cons_succ]
      refine held_take (v := ?_) 1 5 rfl rfl (by kernel_rfl) (by kernel_rfl) (by kernel_rfl) (fun _ _ _ h => h) ⟨by rfl, ?_⟩ hSz0 ?_
      rotate_left
      · intro w' hw'; obtain _ := hw'; go_simp; (try with_reducible rfl)
      simp only [Act.put, List.setIfInBounds_toArray, List.set_cons_zero, List.set_cons_succ]
      refine held_take (v := ?_) 2 6 rfl rfl (by kernel_rfl) (by kernel_rfl) (by kernel_rfl) (fun _ _ _ h => h) ⟨by rfl, ?_⟩ hSz0 ?_
      rotate_left
      · intro w' hw'; obtain _ := hw'; go_simp; (try with_reducible rfl)
      simp only [Act.put, List.setIfInBounds_toArray, List.set_cons_zero, List.set_cons_succ]
      refine held_skip 3 7 rfl rfl (by kernel_rfl) (by kernel_rfl) (by kernel_rfl) (fun _ _ _ h => h) (by rfl) hSz0 ?_
      simp only [Act.put, List.setIfInBounds_toArray, List.set_cons_zero, List.set_cons_succ]
      refine held_skip 4 8 rfl rfl (by kernel_rfl) (by kernel_rfl) (by kernel_rfl) (fun _ _ _ h => h) (by rfl) hSz0 ?_
      simp only [Act.put, List.setIfInBounds_toArray, List.set_cons_zero, List.set_cons_succ]
      refine held_skip 5 9 rfl rfl (by kernel_rfl) (by kernel_rfl) (by kernel_rfl) (fun _ _ _ h => h) (by rfl) hSz0 ?_
      simp only [Act.put, List.setIfInBounds_toArray, List.set_cons_zero, List.set_cons_succ]
      refine held_skip 6 10 rfl rfl (by kernel_rfl) (by kernel_rfl) (by kernel_rfl) (fun _ _ _ h => h) (by rfl) hSz0 ?_
      simp only [Act.put, List.setIfInBounds_toArray, List.set_cons_zero, List.set_cons_succ]
      refine held_skip 7 11 rfl rfl (by kernel_rfl) (by kernel_rfl) (by kernel_rfl) (fun _ _ _ h => h) (by rfl) hSz0 ?_
      simp only [Act.put, List.setIfInBounds_toArray, List.set_cons_zero, List.set_cons_succ]
      refine held_skip 8 12 rfl rfl (by kernel_rfl) (by kernel_rfl) (by kernel_rfl) (fun _ _ _ h => h) (by rfl) hSz0 ?_
      simp only [Act.put, List.setIfInBounds_toArray, List.set_cons_zero, List.set_cons_succ]
      refine held_skip 9 13 rfl rfl (by kernel_rfl) (by kernel_rfl) (by kernel_rfl) (fun _ _ _ h => h) (by rfl) hSz0 ?_
      simp only [Act.put, List.setIfInBounds_toArray, List.set_cons_zero, List.set_cons_succ]
      refine held_skip 10 14 rfl rfl (by kernel_rfl) (by kernel_rfl) (by kernel_rfl) (fun _ _ _ h => h) (by rfl) hSz0 ?_
      simp only [Act.put, List.setIfInBounds_toArray, List.set_cons_zero, List.set_cons_succ]
      refine held_skip 11 15 rfl rfl (by kernel_rfl) (by kernel_rfl) (by kernel_rfl) (fun _ _ _ h => h) (by rfl) hSz0 ?_
      simp only [Act.put, List.setIfInBounds_toArray, List.set_cons_zero, List.set_cons_succ]
      refine held_skip 12 16 rfl rfl (by kernel_rfl) (by kernel_rfl) (by kernel_rfl) (fun _ _ _ h => h) (by rfl) hSz0 ?_
      simp only [Act.put, List.setIfInBounds_toArray, List.set_cons_zero, List.set_cons_succ]
      refine held_skip 13 17 rfl rfl (by kernel_rfl) (by kernel_rfl) (by kernel_rfl) (fun _ _ _ h => h) (by rfl) hSz0 ?_
      simp only [Act.put, List.setIfInBounds_toArray, List.set_cons_zero, List.set_cons_succ]
      refine held_skip 14 18 rfl rfl (by kernel_rfl) (by kernel_rfl) (by kernel_rfl) (fun _ _ _ h => h) (by rfl) hSz0 ?_
      simp only [Act.put, List.setIfInBounds_toArray, List.set_cons_zero, List.set_cons_succ]
      refine held_skip 15 19 rfl rfl (by kernel_rfl) (by kernel_rfl) (by kernel_rfl) (fun _ _ _ h => h) (by rfl) hSz0 ?_
      simp only [Act.put, List.setIfInBounds_toArray, List.set_cons_zero, List.set_cons_succ]
      refine held_skip 16 20 rfl rfl (by kernel_rfl) (by kernel_rfl) (by kernel_rfl) (fun _ _ _ h => h) (by rfl) hSz0 ?_
      simp only [Act.put, List.setIfInBounds_toArray, List.set_cons_zero, List.set_cons_succ]
      refine held_skip 17 21 rfl rfl (by kernel_rfl) (by kernel_rfl) (by kernel_rfl) (fun _ _ _ h => h) (by rfl) hSz0 ?_
      simp only [Act.put, List.setIfInBounds_toArray, List.set_cons_zero, List.set_cons_succ]
      refine held_skip 18 22 rfl rfl (by kernel_rfl) (by kernel_rfl) (by kernel_rfl) (fun _ _ _ h => h) (by rfl) hSz0 ?_
      simp only [Act.put, List.setIfInBounds_toArray, List.set_cons_zero, List.set_cons_succ]
      refine held_skip 19 23 rfl rfl (by kernel_rfl) (by kernel_rfl) (by kernel_rfl) (fun _ _ _ h => h) (by rfl) hSz0 ?_
      simp only [Act.put, List.setIfInBounds_toArray, List.set_cons_zero, List.set_cons_succ]
      refine held_skip 20 24 rfl rfl (by kernel_rfl) (by kernel_rfl) (by kernel_rfl) (fun _ _ _ h => h) (by rfl) hSz0 ?_
      simp only [Act.put, List.setIfInBounds_toArray, List.set_cons_zero, List.set_cons_succ]
      refine held_take (v := ?_) 21 25 rfl rfl (by kernel_rfl) (by kernel_rfl) (by kernel_rfl) (fun _ _ _ h => h) ⟨by rfl, ?_⟩ hSz0 ?_
      rotate_left
      · intro w' hw'; obtain _ := hw'; go_simp; (try with_reducible rfl)
      simp only [Act.put, List.setIfInBounds_toArray, List.set_cons_zero, List.set_cons_succ]
      refine wpAnyH_done (by kernel_rfl) ?_ _
      go_wp2
      go_end0
      obtain ⟨hA, hP, hl, hor, hF⟩ := HZ.out
      refine ⟨rfl, H1, hA.drew, hP, ?_, hF.drew⟩
      rw [hl]
      rcases hor with ⟨e, hor⟩ | hor
      · rw [← e] at hor ⊢; exact TM.rise_none hor (.inl rfl)
      · exact (TM.rise_stop hor (.inl rfl)).down _
    · obtain ⟨q, hq⟩ : ∃ q, q = (k - 1) / 2 := ⟨_, rfl⟩
      have hqk : q < k := by omega
      obtain ⟨⟨xk, xi⟩, hx⟩ := get_lt (l := H1) (k := k) (by omega)
      obtain ⟨⟨yk, yi⟩, hy⟩ := get_lt (l := H1) (k := q) (by omega)
      have hA' := hA
      rw [← hl] at hA'
      obtain ⟨x0, x1, x2, x3⟩ := hA'.cells hx
      obtain ⟨y0, y1, y2, y3⟩ := hA'.cells hy
      obtain ⟨c0, c1⟩ := hA.head
      obtain ⟨hpl, hgl⟩ := hA.lt
      have hgl := hgl g rfl
      have t0 : decide (0 < k) = true := decide_eq_true (by omega)
      have hqn : q < n := by omega
      have eq0 := half_wrap k q (by omega) (by omega) hq
      have HA := Lib.hid (fun W => ahead_any ⟨xk, xi⟩ ⟨yk, yi⟩ W)
      obtain ⟨R, hR⟩ : ∃ R, R = TM.ltB ⟨xk, xi⟩ ⟨yk, yi⟩ := ⟨_, rfl⟩
      rw [← hR] at HA
      simp only [enV] at HA x0 x1 y0 y1
      have HZ := Lib.hid (And.intro hA (And.intro hP (And.intro hl (And.intro hor (And.intro hF (And.intro hx (And.intro hy (And.intro hR hq))))))))
      clear hA hA' hP hl hor hF hin hx hy hR hq x2 x3 y2 y3 c1
      go_wp2_with fail
      refine held_begin (fun w' : World => w'.cell? ⟨p, 0, none⟩ = some (.slice (some ⟨g, 0, none⟩) n cap) ∧ w'.cell? ⟨g, k * 2, none⟩ = some (.int .i64 xi) ∧ w'.cell? ⟨g, k * 2 + 1, none⟩ = some (.int .i64 xk) ∧ w'.cell? ⟨g, q * 2, none⟩ = some (.int .i64 yi) ∧ w'.cell? ⟨g, q * 2 + 1, none⟩ = some (.int .i64 yk)) (by kernel_rfl) ?_
      have hBh0 : Below wr.heap.size wr wr.drew := (Below.refl _ _).drew
      have hSh0 : (fun w' : World => w'.cell? ⟨p, 0, none⟩ = some (.slice (some ⟨g, 0, none⟩) n cap) ∧ w'.cell? ⟨g, k * 2, none⟩ = some (.int .i64 xi) ∧ w'.cell? ⟨g, k * 2 + 1, none⟩ = some (.int .i64 xk) ∧ w'.cell? ⟨g, q * 2, none⟩ = some (.int .i64 yi) ∧ w'.cell? ⟨g, q * 2 + 1, none⟩ = some (.int .i64 yk)) wr.drew := ⟨c0, x0, x1, y0, y1⟩
      refine held_take (v := ?_) 0 4 rfl rfl (by kernel_rfl) (by kernel_rfl) (by kernel_rfl) (fun _ _ _ h => h) ⟨by rfl, ?_⟩ hSh0 ?_
      rotate_left
      · intro w' hw'; obtain ⟨x0, x1, x2, x3, x4⟩ := hw'; go_simp; (try with_reducible rfl)
      simp only [Act.put, List.setIfInBounds_toArray, List.set_cons_zero, List.set_cons_succ]
      refine held_take (v := ?_) 1 5 rfl rfl (by kernel_rfl) (by kernel_rfl) (by kernel_rfl) (fun _ _ _ h => h) ⟨by rfl, ?_⟩ hSh0 ?_
      rotate_left
      · intro w' hw'; obtain ⟨x0, x1, x2, x3, x4⟩ := hw'; go_simp; (try with_reducible rfl)
      simp only [Act.put, List.setIfInBounds_toArray, List.set_cons_zero, List.set_cons_succ]
      refine held_take (v := ?_) 2 6 rfl rfl (by kernel_rfl) (by kernel_rfl) (by kernel_rfl) (fun _ _ _ h => h) ⟨by rfl, ?_⟩ hSh0 ?_
      rotate_left
      · intro w' hw'; obtain ⟨x0, x1, x2, x3, x4⟩ := hw'; go_simp; (try with_reducible rfl)
      simp only [Act.put, List.setIfInBounds_toArray, List.set_cons_zero, List.set_cons_succ]
      refine held_take (v := ?_) 3 7 rfl rfl (by kernel_rfl) (by kernel_rfl) (by kernel_rfl) (fun _ _ _ h => h) ⟨by rfl, ?_⟩ hSh0 ?_
      rotate_left
      · intro w' hw'; obtain ⟨x0, x1, x2, x3, x4⟩ := hw'; go_simp; (try with_reducible rfl)
      simp only [Act.put, List.setIfInBounds_toArray, List.set_cons_zero, List.set_cons_succ]
      refine held_take (v := ?_) 4 8 rfl rfl (by kernel_rfl) (by kernel_rfl) (by kernel_rfl) (fun _ _ _ h => h) ⟨by rfl, ?_⟩ hSh0 ?_
      rotate_left
      · intro w' hw'; obtain ⟨x0, x1, x2, x3, x4⟩ := hw'; go_simp; (try with_reducible rfl)
      simp only [Act.put, List.setIfInBounds_toArray, List.set_cons_zero, List.set_cons_succ]
      refine held_take (v := ?_) 5 9 rfl rfl (by kernel_rfl) (by kernel_rfl) (by kernel_rfl) (fun _ _ _ h => h) ⟨by rfl, ?_⟩ hSh0 ?_
      rotate_left
      · intro w' hw'; obtain ⟨x0, x1, x2, x3, x4⟩ := hw'; go_simp; (try with_reducible rfl)
      simp only [Act.put, List.setIfInBounds_toArray, List.set_cons_zero, List.set_cons_succ]
      refine held_take (v := ?_) 6 10 rfl rfl (by kernel_rfl) (by kernel_rfl) (by kernel_rfl) (fun _ _ _ h => h) ⟨by rfl, ?_⟩ hSh0 ?_
      rotate_left
      · intro w' hw'; obtain ⟨x0, x1, x2, x3, x4⟩ := hw'; go_simp; (try with_reducible rfl)
      simp only [Act.put, List.setIfInBounds_toArray, List.set_cons_zero, List.set_cons_succ]
      refine held_take (v := ?_) 7 11 rfl rfl (by kernel_rfl) (by kernel_rfl) (by kernel_rfl) (fun _ _ _ h => h) ⟨by rfl, ?_⟩ hSh0 ?_
      rotate_left
      · intro w' hw'; obtain ⟨x0, x1, x2, x3, x4⟩ := hw'; go_simp; (try with_reducible rfl)
      simp only [Act.put, List.setIfInBounds_toArray, List.set_cons_zero, List.set_cons_succ]
      refine held_take (v := ?_) 8 12 rfl rfl (by kernel_rfl) (by kernel_rfl) (by kernel_rfl) (fun _ _ _ h => h) ⟨by rfl, ?_⟩ hSh0 ?_
      rotate_left
      · intro w' hw'; obtain ⟨x0, x1, x2, x3, x4⟩ := hw'; go_simp; (try with_reducible rfl)
      simp only [Act.put, List.setIfInBounds_toArray, List.set_cons_zero, List.set_cons_succ]
      refine held_take (v := ?_) 9 13 rfl rfl (by kernel_rfl) (by kernel_rfl) (by kernel_rfl) (fun _ _ _ h => h) ⟨by rfl, ?_⟩ hSh0 ?_
      rotate_left
      · intro w' hw'; obtain ⟨x0, x1, x2, x3, x4⟩ := hw'; go_simp; (try with_reducible rfl)
      simp only [Act.put, List.setIfInBounds_toArray, List.set_cons_zero, List.set_cons_succ]
      refine held_take (v := ?_) 10 14 rfl rfl (by kernel_rfl) (by kernel_rfl) (by kernel_rfl) (fun _ _ _ h => h) ⟨by rfl, ?_⟩ hSh0 ?_
      rotate_left
      · intro w' hw'; obtain ⟨x0, x1, x2, x3, x4⟩ := hw'; go_simp; (try with_reducible rfl)
      simp only [Act.put, List.setIfInBounds_toArray, List.set_cons_zero, List.set_cons_succ]
      refine held_take (v := ?_) 11 15 rfl rfl (by kernel_rfl) (by kernel_rfl) (by kernel_rfl) (fun _ _ _ h => h) ⟨by rfl, ?_⟩ hSh0 ?_
      rotate_left
      · intro w' hw'; obtain ⟨x0, x1, x2, x3, x4⟩ := hw'; go_simp; (try with_reducible rfl)
      simp only [Act.put, List.setIfInBounds_toArray, List.set_cons_zero, List.set_cons_succ]
      refine held_take (v := ?_) 12 16 rfl rfl (by kernel_rfl) (by kernel_rfl) (by kernel_rfl) (fun _ _ _ h => h) ⟨by rfl, ?_⟩ hSh0 ?_
      rotate_left
      · intro w' hw'; obtain ⟨x0, x1, x2, x3, x4⟩ := hw'; go_simp; (try with_reducible rfl)
      simp only [Act.put, List.setIfInBounds_toArray, List.set_cons_zero, List.set_cons_succ]
      refine held_take (v := ?_) 13 17 rfl rfl (by kernel_rfl) (by kernel_rfl) (by kernel_rfl) (fun _ _ _ h => h) ⟨by rfl, ?_⟩ hSh0 ?_
      rotate_left
      · intro w' hw'; obtain ⟨x0, x1, x2, x3, x4⟩ := hw'; go_simp; (try with_reducible rfl)
      simp only [Act.put, List.setIfInBounds_toArray, List.set_cons_zero, List.set_cons_succ]
      refine held_take (v := ?_) 14 18 rfl rfl (by kernel_rfl) (by kernel_rfl) (by kernel_rfl) (fun _ _ _ h => h) ⟨by rfl, ?_⟩ hSh0 ?_
      rotate_left
      · intro w' hw'; obtain ⟨x0, x1, x2, x3, x4⟩ := hw'; go_simp; (try with_reducible rfl)
      simp only [Act.put, List.setIfInBounds_toArray, List.set_cons_zero, List.set_cons_succ]
      refine held_take (v := ?_) 15 19 rfl rfl (by kernel_rfl) (by kernel_rfl) (by kernel_rfl) (fun _ _ _ h => h) ⟨by rfl, ?_⟩ hSh0 ?_
      rotate_left
      · intro w' hw'; obtain ⟨x0, x1, x2, x3, x4⟩ := hw'; go_simp; (try with_reducible rfl)
      simp only [Act.put, List.setIfInBounds_toArray, List.set_cons_zero, List.set_cons_succ]
      refine held_take (v := ?_) 16 20 rfl rfl (by kernel_rfl) (by kernel_rfl) (by kernel_rfl) (fun _ _ _ h => h) ⟨by rfl, ?_⟩ hSh0 ?_
      rotate_left
      · intro w' hw'; obtain ⟨x0, x1, x2, x3, x4⟩ := hw'; go_simp; (try with_reducible rfl)
      simp only [Act.put, List.setIfInBounds_toArray, List.set_cons_zero, List.set_cons_succ]
      refine held_take (v := ?_) 17 21 rfl rfl (by kernel_rfl) (by kernel_rfl) (by kernel_rfl) (fun _ _ _ h => h) ⟨by rfl, ?_⟩ hSh0 ?_
      rotate_left
      · intro w' hw'; obtain ⟨x0, x1, x2, x3, x4⟩ := hw'; go_simp; (try with_reducible rfl)
      simp only [Act.put, List.setIfInBounds_toArray, List.set_cons_zero, List.set_cons_succ]
      refine held_take (v := ?_) 18 22 rfl rfl (by kernel_rfl) (by kernel_rfl) (by kernel_rfl) (fun _ _ _ h => h) ⟨by rfl, ?_⟩ hSh0 ?_
      rotate_left
      · intro w' hw'; obtain ⟨x0, x1, x2, x3, x4⟩ := hw'; go_simp; (try with_reducible rfl)
      simp only [Act.put, List.setIfInBounds_toArray, List.set_cons_zero, List.set_cons_succ]
      refine held_take (v := ?_) 19 23 rfl rfl (by kernel_rfl) (by kernel_rfl) (by kernel_rfl) (fun _ _ _ h => h) ⟨by rfl, ?_⟩ hSh0 ?_
      rotate_left
      · intro w' hw'; obtain ⟨x0, x1, x2, x3, x4⟩ := hw'; go_simp; (try with_reducible rfl)
      simp only [Act.put, List.setIfInBounds_toArray, List.set_cons_zero, List.set_cons_succ]
      refine held_one 20 rfl (by kernel_rfl) (by rfl) (fun K hK => ?_)
      go_simp
      go_invoke; (first | go_upon | go_simp); go_at_call 43
      refine (HA.out wr.drew).mono ?_
      rintro e wh1 ⟨rfl, hbh1⟩
      have hBh1 : Below wr.heap.size wr wh1 := below_step hBh0 hbh1
      have hSh1 : (fun w' : World => w'.cell? ⟨p, 0, none⟩ = some (.slice (some ⟨g, 0, none⟩) n cap) ∧ w'.cell? ⟨g, k * 2, none⟩ = some (.int .i64 xi) ∧ w'.cell? ⟨g, k * 2 + 1, none⟩ = some (.int .i64 xk) ∧ w'.cell? ⟨g, q * 2, none⟩ = some (.int .i64 yi) ∧ w'.cell? ⟨g, q * 2 + 1, none⟩ = some (.int .i64 yk)) wh1 := ⟨(hBh1.cell (p := ⟨p, 0, none⟩) (show p < wr.heap.size by omega)).trans c0, (hBh1.cell (p := ⟨g, k * 2, none⟩) (show g < wr.heap.size by omega)).trans x0, (hBh1.cell (p := ⟨g, k * 2 + 1, none⟩) (show g < wr.heap.size by omega)).trans x1, (hBh1.cell (p := ⟨g, q * 2, none⟩) (show g < wr.heap.size by omega)).trans y0, (hBh1.cell (p := ⟨g, q * 2 + 1, none⟩) (show g < wr.heap.size by omega)).trans y1⟩
      refine hK.out _ _ hSh1 ?_
      clear hK K
      refine held_take (v := ?_) 21 25 rfl rfl (by kernel_rfl) (by kernel_rfl) (by kernel_rfl) (fun _ _ _ h => h) ⟨by rfl, ?_⟩ hSh1 ?_
      rotate_left
      · intro w' hw'; obtain ⟨x0, x1, x2, x3, x4⟩ := hw'; go_simp; (try with_reducible rfl)
      simp only [Act.put, List.setIfInBounds_toArray, List.set_cons_zero, List.set_cons_succ]
      refine wpAnyH_done (by kernel_rfl) ?_ _
      have HBh := Lib.hid hBh1
      clear hBh1 hbh1 hSh1 hSh0 hBh0 c0 x0 x1 y0 y1 HA
      cases R
      · go_wp2
        go_end0
        obtain ⟨hA, hP, hl, hor, hF, hx, hy, hR, hq⟩ := HZ.out
        refine ⟨rfl, H1, hA.keep HBh.out, hP, ?_, hF.trans (Foot.of_below HBh.out) (fun i hi => .inl hi)⟩
        rw [hl]
        have hle : TM.le (TM.at_ H1 ((k - 1) / 2)) (TM.at_ H1 k) := by
          rw [← hq, TM.at_get hx, TM.at_get hy]; exact hR.symm
        rcases hor with ⟨e, hor⟩ | hor
        · rw [← e] at hor ⊢; exact TM.rise_none hor (.inr hle)
        · exact (TM.rise_stop hor (.inr hle)).down _
      · have HS := Lib.hid (swap_any p u (.slice (some ⟨g, 0, none⟩) n cap) H1 k q wh1 (HZ.out.1.keep HBh.out) (by have := HZ.out.2.2.1; omega) (by have := HZ.out.2.2.1; omega))
        go_wp2_with fail
        have eq1 : ((k : Int) - 1) / 2 = (q : Int) := by have := HZ.out.2.2.2.2.2.2.2.2; omega
        rw [eq1]
        (with_reducible refine HS.out.mono ?_)
        rintro e w5 ⟨rfl, hA5, hF5⟩
        go_wp2_with fail
        go_roundw
        case rel =>
          obtain ⟨hA, hP, hl, hor, hF, hx, hy, hR, hq⟩ := HZ.out
          have hX : TM.HeapX (TM.at_ H1) n k := by
            rcases hor with ⟨e, hor⟩ | hor
            · rw [e]; exact hor
            · exact hor.toX
          refine ⟨q, by rw [eq1], hqn, Lib.hid ⟨TM.swapL H1 k q, hA5, (TM.swapL_perm (by omega) (by omega)).trans hP, by rw [TM.swapL_len]; exact hl, .inr ?_, (hF.trans (Foot.of_below (F := fun _ => False) HBh.out) (fun i hi => hi.elim)).trans hF5 (fun i hi => .inl hi)⟩⟩
          rw [TM.swapL_at (by omega) (by omega), hq]
          exact TM.rise_step hX (by omega) hk (by rw [← hq, TM.at_get hx, TM.at_get hy]; exact hR.symm)
        case measure => simp [intOf]; omega
end Go.Proofs.Ytdoaihmeldkahaa
