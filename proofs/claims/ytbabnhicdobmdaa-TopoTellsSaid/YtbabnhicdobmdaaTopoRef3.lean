/- The document's answer for layer 2: Index. -/
import Derived.Laws.StructEq
import Derived.Test.YtbabnhicdobmdaaTopoRef2
namespace Go.Proofs.Ytbabnhicdobmdaa
open Go.RowKit
/-- Of two places of one spot there is but one. -/
theorem spot_once {ns : List (List (Int × Int))} {i j : Nat} {f g : Fr} (hi : (frees ns)[i]? = some f) (hj : (frees ns)[j]? = some g) (hn : f.n = g.n) (hd : f.d = g.d) : i = j := by
  have hnd := row_dup ns
  have e1 : ((frees ns).map spOf)[i]? = some (spOf f) := by rw [List.getElem?_map, hi]; rfl
  have e2 : ((frees ns).map spOf)[j]? = some (spOf f) := by rw [List.getElem?_map, hj]; simp [spOf, hn, hd]
  obtain ⟨l1, q1⟩ := List.getElem?_eq_some_iff.1 e1
  obtain ⟨l2, q2⟩ := List.getElem?_eq_some_iff.1 e2
  have hp := List.pairwise_iff_getElem.1 hnd
  rcases Nat.lt_trichotomy i j with h | h | h
  · exact absurd (q1.trans q2.symm) (hp i j l1 l2 h)
  · exact h
  · exact absurd (q2.trans q1.symm) (hp j i l2 l1 h)
set_option maxRecDepth 100000 in
set_option maxHeartbeats 2000000 in
theorem refindex_core (A : Option Addr) (c : Nat) (ns : List (List (Int × Int))) (x y : Int) (w W : World) (h : Nodes w w.heap.size A ns) (hB : Below w.heap.size w W) (hok : cluOk ns = true) (r : Int) (top : Nat)
    (hno : ∀ i f, i < top → (frees ns)[i]? = some f → ¬ ((f.n : Int) = x ∧ (f.d : Int) = y)) (hend : (top = (frees ns).length ∧ r = -1) ∨ ∃ f, (frees ns)[top]? = some f ∧ (f.n : Int) = x ∧ (f.d : Int) = y ∧ r = top) :
    Calls Try.prog 21 #[.agg #[.slice A ns.length c], .agg #[.int .i64 x, .int .i64 y]] W fun e w' => e = .returned (.int .i64 r) ∧ Below W.heap.size W w' := by
  have hfl := frees_len hok
  have htop : top ≤ (frees ns).length := by
    rcases hend with ⟨e, _⟩ | ⟨f, hf, _⟩
    · omega
    · have := (List.getElem?_eq_some_iff.1 hf).1; omega
  have hB0 := ((Below.refl W.heap.size W).alloc (Nat.le_refl _) (.cells #[.slice A ns.length c] 24)).alloc (by simp) (.cells #[.int .i64 x, .int .i64 y] 26)
  have hAl := Lib.hid (refall_any A c ns w _ h (hB.trans (hB0.mono hB.size)) hok)
  have bS : ((W.alloc (.cells #[.slice A ns.length c] 24)).alloc (.cells #[.int .i64 x, .int .i64 y] 26)).heap[W.heap.size + 1]? = some (.cells #[.int .i64 x, .int .i64 y] 26 (0, 0)) := by
    have := heap_alloc_new (W.alloc (.cells #[.slice A ns.length c] 24)) (.cells #[.int .i64 x, .int .i64 y] 26)
    simpa using this
  obtain ⟨n, hn⟩ : ∃ n, (frees ns).length = n := ⟨_, rfl⟩
  rw [hn] at hAl htop hfl hend
  have Q := Lib.hid (And.intro hn (And.intro hno (And.intro hend bS)))
  clear h hB hok hno hend hn bS
  go_enter Try.func21, Try.ntmps21
  go_wp2_with (go_at_call 12; refine hAl.out.mono ?_; rintro e w1 ⟨g, cp, rfl, hg, hcc, hb1⟩; have HC := Lib.hid hcc; clear hcc; have BS := Lib.hid ((hb1.block (W.heap.size + 1) (by simp)).trans Q.out.2.2.2); have hB1 := below_step hB0 hb1)
  go_loopw [6] (fun i wr => ∃ k : Nat, i = .int .i64 k ∧ k ≤ top ∧ Below w1.heap.size w1 wr) (fun i _ => top + 1 - (intOf i).toNat)
  case atStart => exact ⟨0, rfl, by omega, Below.refl _ _⟩
  case round =>
    obtain ⟨k, rfl, hk, hBr⟩ := hrel
    have bS := (hBr.block (W.heap.size + 1) (blk_lt BS.out)).trans BS.out
    have s0 : wr.cell? ⟨W.heap.size + 1, 0, none⟩ = some (.int .i64 x) := cell_blk (i := 0) bS rfl
    have s1 : wr.cell? ⟨W.heap.size + 1, 1, none⟩ = some (.int .i64 y) := cell_blk (i := 1) bS rfl
    have hBl := below_step hB1 hBr
    clear bS
    by_cases hlt : k < n
    · obtain ⟨f, hx⟩ := get_lt (l := frees ns) (k := k) (by rw [Q.out.1]; exact hlt)
      obtain ⟨f0, f1, f2, f3⟩ := (HC.out k f hx).keep hg hBr
      simp only [Nat.zero_add] at f0 f1 f2 f3
      have t0 : decide (k < n) = true := by simpa using hlt
      have j0 : (0 : Int) ≤ (k : Int) := by omega
      have j1 : (k : Int) < (n : Int) := by omega
      by_cases hkt : k < top
      · have hne := Q.out.2.1 k f hkt hx
        clear hx
        by_cases e1 : (f.n : Int) = x
        · have e2 : ¬ (f.d : Int) = y := fun e => hne ⟨e1, e⟩
          have d1 : ((f.n : Int) == x) = true := by simpa using e1
          have d2 : ((f.d : Int) == y) = false := by simpa using e2
          clear e1 e2 hne
          go_wp2_with fail
          go_quiet (fail)
          go_wp2
          go_roundw
          case rel => exact ⟨k + 1, by go_num, by omega, below_drewN hBr _⟩
          case measure => simp [intOf]; omega
        · have d1 : ((f.n : Int) == x) = false := by simpa using e1
          clear e1 hne
          go_wp2_with fail
          go_quiet (fail)
          go_wp2
          go_roundw
          case rel => exact ⟨k + 1, by go_num, by omega, below_drewN hBr _⟩
          case measure => simp [intOf]; omega
      · obtain rfl : k = top := by omega
        rcases Q.out.2.2.1 with ⟨e, _⟩ | ⟨f', hf', e1, e2, e3⟩
        · omega
        · obtain rfl : f' = f := Option.some.inj (hf'.symm.trans hx)
          have d1 : ((f'.n : Int) == x) = true := by simpa using e1
          have d2 : ((f'.d : Int) == y) = true := by simpa using e2
          have E3 := Lib.hid e3
          clear hx hf' e1 e2 e3
          go_wp2_with fail
          go_quiet (fail)
          go_wp2
          go_ret
          exact ⟨by rw [E3.out]; rfl, below_drewN hBl _⟩
    · rcases Q.out.2.2.1 with ⟨e, e3⟩ | ⟨f', hf', _⟩
      · obtain rfl : k = n := by omega
        have E3 := Lib.hid e3
        clear hlt e e3
        go_wp2
        go_ret
        exact ⟨by rw [E3.out]; rfl, hBl⟩
      · have := (List.getElem?_eq_some_iff.1 hf').1
        rw [Q.out.1] at this
        omega
end Go.Proofs.Ytbabnhicdobmdaa
