/- Queues: which are there, how many wait, where a wait of an Id is. -/
import Derived.RegionTactic
import Derived.BigRegion
import Derived.Deep.QuietTactic
import Derived.BigQuiet
import Derived.Deep.RegionWith
import Derived.Deep.LoopGhost
import Derived.WalkMore
import Derived.Test.YtdeniikaddlifaaQuObj
namespace Go.Proofs.Ytdeniikaddlifaa
open Go.RowKit
namespace QL
/-- There is such a queue. -/
def hasQ (R : List Int) (q : Int) : Bool := decide (0 ≤ q) && decide (q < (R.length : Int))
def lenQ (R : List Int) (L : List Wt) (q : Int) : Int := if hasQ R q then ((rowL L q.toNat).length : Int) else 0
def roomQ (R : List Int) (L : List Wt) (q : Int) : Int := if hasQ R q then roomOf R q.toNat - ((rowL L q.toNat).length : Int) else 0
theorem hasQ_iff {R : List Int} {q : Int} : hasQ R q = true ↔ 0 ≤ q ∧ q < (R.length : Int) := by simp [hasQ]
end QL
theorem QuAt.wait {w : World} {p g c : Nat} {V : Nat → Value} {R : List Int} {L : List Wt} (h : QuAt w p g c V R L) {k i : Nat} {x : Wt} (hk : k < R.length) (hx : (QL.rowL L k)[i]? = some x) :
    ∃ b m, V k = .slice (some ⟨b, 0, none⟩) (QL.rowL L k).length m ∧ (QL.rowL L k).length ≤ m ∧ m ≤ maxLen ∧ b < w.heap.size ∧ CellsAt w b (i * 10) (wtC x) := by
  obtain ⟨_, _, A, m, e, h1, h2, h3, h4⟩ := h.at_ hk
  obtain ⟨b, off, rfl, hb, hc⟩ := h3.at_ hx
  obtain ⟨rfl, _⟩ := h4 b off rfl
  exact ⟨b, m, e, h1, h2, hb, by have := hc i x hx; rwa [Nat.zero_add] at this⟩
set_option maxRecDepth 100000 in
set_option maxHeartbeats 1000000 in
theorem has_q (p g c : Nat) (V : Nat → Value) (R : List Int) (L : List Wt) (q : Int) (w : World) (h : QuAt w p g c V R L) :
    Calls Try.prog 30 #[.pointer (some ⟨p, 0, none⟩), .int .i64 q] w fun e w' => e = .returned (.bool (QL.hasQ R q)) ∧ w = w' := by
  have c0 := h.head
  obtain ⟨n, hn⟩ : ∃ n, n = R.length := ⟨_, rfl⟩
  unfold QL.hasQ
  rw [← hn] at c0 ⊢
  clear h hn
  cases h0 : decide (0 ≤ q)
  · go_enter Try.func30, Try.ntmps30
    go_wp2
    go_ret
    exact ⟨by first | rfl | simp, rfl⟩
  · go_enter Try.func30, Try.ntmps30
    go_wp2
    go_ret
    exact ⟨by first | rfl | simp, rfl⟩
set_option maxRecDepth 100000 in
set_option maxHeartbeats 1000000 in
theorem len_q (p g c : Nat) (V : Nat → Value) (R : List Int) (L : List Wt) (q : Int) (w : World) (h : QuAt w p g c V R L) :
    Calls Try.prog 19 #[.pointer (some ⟨p, 0, none⟩), .int .i64 q] w fun e w' => e = .returned (.int .i64 (QL.lenQ R L q)) ∧ w = w' := by
  have hH := Lib.hid (has_q p g c V R L q w h)
  unfold QL.lenQ
  cases hq : QL.hasQ R q
  · rw [hq] at hH
    rw [if_neg (by simp)]
    clear h hq
    go_enter Try.func19, Try.ntmps19
    go_wp2_with (go_at_call 30; refine hH.out.mono ?_; rintro e w1 ⟨rfl, rfl⟩)
    go_ret
    exact ⟨rfl, rfl⟩
  · rw [hq] at hH
    rw [if_pos rfl]
    obtain ⟨q0, q1⟩ := QL.hasQ_iff.1 hq
    obtain ⟨k, rfl⟩ : ∃ k : Nat, q = k := ⟨q.toNat, by omega⟩
    rw [Int.toNat_natCast]
    have hk : k < R.length := by omega
    have c0 := h.head
    have hr := h.inv.r.hi
    obtain ⟨_, c2, A, m, hV, h1, h2, _, _⟩ := h.at_ hk
    rw [hV] at c2
    obtain ⟨n, hn⟩ : ∃ n, n = R.length := ⟨_, rfl⟩
    obtain ⟨u, hu⟩ : ∃ u, u = (QL.rowL L k).length := ⟨_, rfl⟩
    rw [← hn] at c0 hk hr q1
    rw [← hu] at c2 h1 ⊢
    clear h hn hu hq hV
    go_enter Try.func19, Try.ntmps19
    go_wp2_with (go_at_call 30; refine hH.out.mono ?_; rintro e w1 ⟨rfl, rfl⟩)
    go_ret
    exact ⟨rfl, rfl⟩
theorem asked_cl (S : Nat) (id : Int) (x : Wt) (w : World) (h : w.cell? ⟨S, 0, none⟩ = some (.int .i64 id)) :
    Calls Try.prog 42 #[wtV x, .pointer (some ⟨S, 0, none⟩)] w fun e w' => e = .returned (.bool (decide (x.id = id))) ∧ Below w.heap.size w w' := by
  have hb := wt_new w x
  have hB := Lib.hid ((Below.refl w.heap.size w).alloc (Nat.le_refl _) (wtO x))
  have a0 : (w.alloc (wtO x)).cell? ⟨w.heap.size, 0, none⟩ = some (.int .i64 x.id) := cell_blk (i := 0) hb rfl
  have c0 : (w.alloc (wtO x)).cell? ⟨S, 0, none⟩ = some (.int .i64 id) := (hB.out.cell (p := ⟨S, 0, none⟩) (lt_of_cell h)).trans h
  clear hb h
  simp only [wtO, wtV, wtA] at *
  go_enter Try.func42, Try.ntmps42
  go_wp2
  go_ret
  exact ⟨by first | rfl | simp, hB.out⟩
theorem ofid_q (id : Int) (w : World) : Calls Try.prog 34 #[.int .i64 id] w fun e w' => ∃ S, e = .returned (.func (.func 42) #[] #[.pointer (some ⟨S, 0, none⟩)]) ∧ w'.cell? ⟨S, 0, none⟩ = some (.int .i64 id) ∧ Below w.heap.size w w' := by
  have hb := heap_alloc_new w (.cells #[.int .i64 id] 3)
  have hB := Lib.hid ((Below.refl w.heap.size w).alloc (Nat.le_refl _) (.cells #[.int .i64 id] 3))
  have c0 := Lib.hid (cell_blk (i := 0) hb rfl)
  clear hb
  go_enter Try.func34, Try.ntmps34
  go_wp2
  refine bodyPost_ret (v := .func (.func 42) #[] #[.pointer (some ⟨w.heap.size, 0, none⟩)]) (by simp [results, Try.results34, go_sem]) rfl ?_
  exact ⟨_, rfl, c0.out, hB.out⟩
end Go.Proofs.Ytdeniikaddlifaa
