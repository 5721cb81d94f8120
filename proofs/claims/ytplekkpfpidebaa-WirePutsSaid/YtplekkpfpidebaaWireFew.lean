/- Few: has a configuration few parts? -/
import Derived.Test.YtplekkpfpidebaaWirePP
set_option linter.unusedVariables false
set_option linter.unusedSimpArgs false
set_option maxRecDepth 100000
namespace Go.Proofs.Ytplekkpfpidebaa
open Go.RowKit
structure CmLen (m : Cm) : Prop where
  ns : m.ns.length ≤ 140737488355328
  qs : m.qs.length ≤ 140737488355328
  ds : ∀ n ∈ m.ns, n.ds.length ≤ 140737488355328
theorem sum_bound (l : List Nd) (h : ∀ n ∈ l, n.ds.length ≤ 140737488355328) : (l.map (·.ds.length)).sum ≤ l.length * 140737488355328 := by
  induction l with
  | nil => simp
  | cons x l ih =>
    rw [List.map_cons, List.sum_cons, List.length_cons]
    have h1 := h x (by simp)
    have h2 := ih (fun n hn => h n (by simp [hn]))
    omega
theorem sum_next2 {l : List Nd} {k : Nat} {x : Nd} (h : l[k]? = some x) : ((l.take (k + 1)).map (·.ds.length)).sum = ((l.take k).map (·.ds.length)).sum + x.ds.length := by rw [take_next h]; simp
def fewB (m : Cm) : Bool := decide (m.ns.length ≤ 300) && (decide (m.qs.length ≤ 300) && decide ((m.ns.map (·.ds.length)).sum ≤ 600))
theorem fewB_iff {m : Cm} (h : fewB m = true) : CmFew m := by
  unfold fewB at h
  simp only [Bool.and_eq_true, decide_eq_true_eq] at h
  exact ⟨h.1, h.2.1, h.2.2⟩
set_option maxHeartbeats 4000000 in
theorem few_any (m : Cm) (W : World) (hI : CmIn W W.heap.size m) (hl : CmLen m) :
    Calls Try.prog 10 #[cmV m] W fun e W' => e = .returned (.bool (fewB m)) ∧ Below W.heap.size W W' := by
  obtain ⟨z, hz⟩ : ∃ z, z = fewB m := ⟨_, rfl⟩
  rw [← hz]
  unfold fewB at hz
  obtain ⟨nn, hnn⟩ : ∃ nn, nn = m.ns.length := ⟨_, rfl⟩
  obtain ⟨nq, hnq⟩ : ∃ nq, nq = m.qs.length := ⟨_, rfl⟩
  have hnn3 : nn ≤ 140737488355328 := by rw [hnn]; exact hl.ns
  have hnq3 : nq ≤ 140737488355328 := by rw [hnq]; exact hl.qs
  obtain ⟨nA, hnA⟩ : ∃ x, x = m.nA := ⟨_, rfl⟩
  have HNs : Hid (Els ndC 1 W W.heap.size nA m.ns) := Lib.hid (by rw [hnA]; exact hI.ns)
  have HLn := Lib.hid hl.ds
  unfold cmV cmA
  rw [← hnA, ← hnn, ← hnq]
  rw [← hnn, ← hnq] at hz
  have HZ := Lib.hid hz
  clear hz
  have Hnn := Lib.hid hnn
  have Hnq := Lib.hid hnq
  clear hI hl hnn hnq hnA
  go_enter Try.func10, Try.ntmps10
  by_cases h1 : 300 < nn
  · have t1 : decide ((300 : Int) < nn) = true := decide_eq_true (by omega)
    obtain rfl : z = false := by rw [HZ.out]; simp; omega
    go_wp2_with fail
    go_ret
    exact ⟨rfl, (Below.refl _ _).alloc (Nat.le_refl _) _⟩
  by_cases h2 : 300 < nq
  · have t1 : decide ((300 : Int) < nn) = false := decide_eq_false (by omega)
    have t2 : decide ((300 : Int) < nq) = true := decide_eq_true (by omega)
    obtain rfl : z = false := by rw [HZ.out]; simp; omega
    go_wp2_with fail
    go_ret
    exact ⟨rfl, (Below.refl _ _).alloc (Nat.le_refl _) _⟩
  have t1 : decide ((300 : Int) < nn) = false := decide_eq_false (by omega)
  have t2 : decide ((300 : Int) < nq) = false := decide_eq_false (by omega)
  go_wp2_with fail
  obtain ⟨w1, hw1⟩ : ∃ w1, w1 = W.alloc (.cells #[.slice nA nn m.nc, .slice m.qA nq m.qc, .int .i64 m.w, .int .i64 m.t, .int .i64 m.r, .int .i64 m.a] 33) := ⟨_, rfl⟩
  rw [← hw1]
  have HB1 : Hid (Below W.heap.size W w1) := Lib.hid (by rw [hw1]; exact (Below.refl _ _).alloc (Nat.le_refl _) _)
  have HC : w1.heap[W.heap.size]? = some (.cells #[.slice nA nn m.nc, .slice m.qA nq m.qc, .int .i64 m.w, .int .i64 m.t, .int .i64 m.r, .int .i64 m.a] 33 (0, 0)) := by rw [hw1]; exact heap_alloc_new W _
  have c0 := cell_blk (i := 0) HC rfl
  clear hw1 HC
  go_loop [3, 4] (fun s i => ∃ k p : Nat, i = .int .i64 k ∧ s = .int .i64 p ∧ k ≤ nn ∧ Hid (p = ((m.ns.take k).map (·.ds.length)).sum)) (fun _ i => nn - (intOf i).toNat)
  case atStart => exact ⟨0, 0, rfl, rfl, Nat.zero_le _, Lib.hid (by simp)⟩
  case round =>
    obtain ⟨k, p, rfl, rfl, hk, hp⟩ := hrel
    have hpb : p ≤ 42221246506598400 := by
      rw [hp.out]
      have h8 := sum_bound (m.ns.take k) (fun n hn => HLn.out n (List.mem_of_mem_take hn))
      have h9 : (m.ns.take k).length ≤ 300 := by have := Hnn.out; simp; omega
      omega
    by_cases hlt : k < nn
    · obtain ⟨y, hy⟩ := get_lt (l := m.ns) (k := k) (by rw [← Hnn.out]; exact hlt)
      obtain ⟨b, off, rfl, hb, hc⟩ := HNs.out.at_ hy
      have f0 := (HB1.out.cell (p := ⟨b, off + k * 1, none⟩) hb).trans (hc k y hy 0 _ rfl)
      rw [Nat.mul_one] at f0
      have hyl := HLn.out y (List.mem_of_getElem? hy)
      obtain ⟨d, hd⟩ : ∃ d, d = y.ds.length := ⟨_, rfl⟩
      rw [← hd] at f0 hyl
      have HN : Hid (p + d = ((m.ns.take (k + 1)).map (·.ds.length)).sum) := Lib.hid (by rw [sum_next2 hy, ← hp.out, hd])
      clear hy hc hb hp hd
      go_wp2_with fail
      exact ⟨⟨k + 1, p + d, by go_num, by go_num, by omega, HN⟩, by simp [intOf]; omega⟩
    · obtain rfl : k = nn := by omega
      have hpe : p = (m.ns.map (·.ds.length)).sum := by rw [hp.out, List.take_of_length_le (by rw [← Hnn.out]; exact Nat.le_refl _)]
      obtain rfl : z = decide ((p : Int) ≤ 600) := by
        rw [HZ.out, ← hpe, decide_eq_true (show k ≤ 300 by omega), decide_eq_true (show nq ≤ 300 by omega)]
        simp
        omega
      clear hpe hp
      go_wp2_with fail
      go_ret
      exact ⟨rfl, HB1.out⟩
end Go.Proofs.Ytplekkpfpidebaa
