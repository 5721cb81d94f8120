/- The document's Same: slices of the same waits are the same. -/
import Derived.Laws.StructEq
import Derived.Test.YtbomdannlcclkaaGaMade
set_option maxRecDepth 100000
namespace Go.Proofs.Ytbomdannlcclkaa
open Go.RowKit
theorem rc_ne (x : Rc) (W : World) : (binOp .neq 42 (.agg (rcA x)) (.agg (rcA x))).run Try.prog W = .ok (.bool false) W := by
  unfold rcA
  go_simp
set_option maxHeartbeats 4000000 in
theorem refsame_eq (A1 A2 : Option Addr) (k1 k2 : Nat) (l : List Rc) (w : World) (h1 : Els rcC 16 w w.heap.size A1 l) (h2 : Els rcC 16 w w.heap.size A2 l) (hn : l.length ≤ 100000) :
    Calls Try.prog 16 #[.slice A1 l.length k1, .slice A2 l.length k2] w fun e w' => e = .returned (.bool true) ∧ Below w.heap.size w w' := by
  obtain ⟨n, hl⟩ : ∃ n, n = l.length := ⟨_, rfl⟩
  rw [← hl] at hn ⊢
  have H := Lib.hid (And.intro h1 (And.intro h2 hl))
  have HB0 := Lib.hid (Below.refl w.heap.size w)
  have t0 : (n != n) = false := by simp
  clear h1 h2 hl
  go_enter Try.func16, Try.ntmps16
  go_wp2
  go_loopw [5] (fun vi wr => ∃ k : Nat, vi = .int .i64 (k : Nat) ∧ k ≤ n ∧ Hid (Below w.heap.size w wr)) (fun vi _ => n - (match vi with | .int _ i => i.toNat | _ => 0))
  case atStart => exact ⟨0, rfl, by omega, HB0⟩
  case round =>
    clear HB0
    obtain ⟨k, rfl, hk, hB⟩ := hrel
    by_cases hlt : k < n
    · obtain ⟨x, hx⟩ := get_lt (l := l) (k := k) (by rw [← H.out.2.2]; exact hlt)
      obtain ⟨b1, o1, rfl, hb1, hc1⟩ := H.out.1.at_ hx
      obtain ⟨b2, o2, rfl, hb2, hc2⟩ := H.out.2.1.at_ hx
      have c1 : RcAt wr b1 (o1 + k * 16) x := (hc1 k x hx).keep hb1 hB.out
      have c2 : RcAt wr b2 (o2 + k * 16) x := (hc2 k x hx).keep hb2 hB.out
      have t1 : decide (k < n) = true := decide_eq_true hlt
      have hne := fun W => rc_ne x W
      clear hc1 hc2 hx hb1 hb2
      go_wp2_with fail
      refine held_begin (fun w' : World => RcAt w' b1 (o1 + k * 16) x ∧ RcAt w' b2 (o2 + k * 16) x) (by kernel_rfl) ?_
      have hBh0 : Below wr.heap.size wr wr.drew := (Below.refl _ _).drew
      have hSh0 : (fun w' : World => RcAt w' b1 (o1 + k * 16) x ∧ RcAt w' b2 (o2 + k * 16) x) wr.drew := ⟨c1, c2⟩
      refine held_take (v := ?_) 0 17 rfl rfl (by kernel_rfl) (by kernel_rfl) (by kernel_rfl) (fun _ _ _ h => h) ⟨by rfl, ?_⟩ hSh0 ?_
      rotate_left
      · intro w' hw'; obtain ⟨x0, x1⟩ := hw'; go_simp; (try with_reducible rfl)
      simp only [Act.put, List.setIfInBounds_toArray, List.set_cons_zero, List.set_cons_succ]
      refine held_take (v := ?_) 1 18 rfl rfl (by kernel_rfl) (by kernel_rfl) (by kernel_rfl) (fun _ _ _ h => h) ⟨by rfl, ?_⟩ hSh0 ?_
      rotate_left
      · intro w' hw'; obtain ⟨x0, x1⟩ := hw'; go_simp; (try with_reducible rfl)
      simp only [Act.put, List.setIfInBounds_toArray, List.set_cons_zero, List.set_cons_succ]
      refine held_take (v := ?_) 2 19 rfl rfl (by kernel_rfl) (by kernel_rfl) (by kernel_rfl) (fun _ _ _ h => h) ⟨by rfl, ?_⟩ hSh0 ?_
      rotate_left
      · intro w' hw'; obtain ⟨x0, x1⟩ := hw'; go_simp; (try with_reducible rfl)
      simp only [Act.put, List.setIfInBounds_toArray, List.set_cons_zero, List.set_cons_succ]
      refine held_take (v := ?_) 3 20 rfl rfl (by kernel_rfl) (by kernel_rfl) (by kernel_rfl) (fun _ _ _ h => h) ⟨by rfl, ?_⟩ hSh0 ?_
      rotate_left
      · intro w' hw'; obtain ⟨x0, x1⟩ := hw'; refine Eq.trans (run_load_rc (by rfl) (by rfl) x0) ?_; (with_reducible rfl)
      simp only [Act.put, List.setIfInBounds_toArray, List.set_cons_zero, List.set_cons_succ]
      refine held_take (v := ?_) 4 21 rfl rfl (by kernel_rfl) (by kernel_rfl) (by kernel_rfl) (fun _ _ _ h => h) ⟨by rfl, ?_⟩ hSh0 ?_
      rotate_left
      · intro w' hw'; obtain ⟨x0, x1⟩ := hw'; go_simp; (try with_reducible rfl)
      simp only [Act.put, List.setIfInBounds_toArray, List.set_cons_zero, List.set_cons_succ]
      refine held_take (v := ?_) 5 22 rfl rfl (by kernel_rfl) (by kernel_rfl) (by kernel_rfl) (fun _ _ _ h => h) ⟨by rfl, ?_⟩ hSh0 ?_
      rotate_left
      · intro w' hw'; obtain ⟨x0, x1⟩ := hw'; go_simp; (try with_reducible rfl)
      simp only [Act.put, List.setIfInBounds_toArray, List.set_cons_zero, List.set_cons_succ]
      refine held_take (v := ?_) 6 23 rfl rfl (by kernel_rfl) (by kernel_rfl) (by kernel_rfl) (fun _ _ _ h => h) ⟨by rfl, ?_⟩ hSh0 ?_
      rotate_left
      · intro w' hw'; obtain ⟨x0, x1⟩ := hw'; go_simp; (try with_reducible rfl)
      simp only [Act.put, List.setIfInBounds_toArray, List.set_cons_zero, List.set_cons_succ]
      refine held_take (v := ?_) 7 24 rfl rfl (by kernel_rfl) (by kernel_rfl) (by kernel_rfl) (fun _ _ _ h => h) ⟨by rfl, ?_⟩ hSh0 ?_
      rotate_left
      · intro w' hw'; obtain ⟨x0, x1⟩ := hw'; refine Eq.trans (run_load_rc (by rfl) (by rfl) x1) ?_; (with_reducible rfl)
      simp only [Act.put, List.setIfInBounds_toArray, List.set_cons_zero, List.set_cons_succ]
      refine held_take (v := ?_) 8 25 rfl rfl (by kernel_rfl) (by kernel_rfl) (by kernel_rfl) (fun _ _ _ h => h) ⟨by rfl, ?_⟩ hSh0 ?_
      rotate_left
      · intro w' hw'; obtain ⟨x0, x1⟩ := hw'; go_simp; (try with_reducible rfl)
      simp only [Act.put, List.setIfInBounds_toArray, List.set_cons_zero, List.set_cons_succ]
      refine wpAnyH_done (by kernel_rfl) ?_ _
      have HB1 := Lib.hid hB.out.drew
      clear hB c1 c2 hne hBh0 hSh0
      generalize wr.drew = W at HB1 ⊢
      go_wp2
      go_roundw
      case rel => exact ⟨k + 1, by go_num, by omega, HB1⟩
      case measure => simp; omega
    · have t1 : decide (k < n) = false := decide_eq_false hlt
      clear hlt
      go_wp2
      go_ret
      exact ⟨by first | rfl | (simp; done), hB.out⟩
end Go.Proofs.Ytbomdannlcclkaa
