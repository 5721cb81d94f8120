/- PutConfig of the program. -/
import Derived.Test.YtplekkpfpidebaaWireBare
import Derived.Test.YtplekkpfpidebaaWireAPut
import Derived.Test.YtplekkpfpidebaaWirePP
set_option linter.unusedVariables false
set_option linter.unusedSimpArgs false
set_option maxRecDepth 100000
namespace Go.Proofs.Ytplekkpfpidebaa
open Go.RowKit
set_option maxHeartbeats 4000000 in
theorem putconf_any (m : Cm) (W : World) (hI : CmIn W W.heap.size m) (hO : CmOk m) (hf : CmFew m) :
    Calls Try.prog 13 #[cmV m] W fun e W' => e = .returned (.tuple #[.string (bs (WM.putC m.cf).1), .int .i64 (WM.putC m.cf).2]) ∧ Below W.heap.size W W' := by
  have HI := Lib.hid hI
  have HP := Lib.hid (fun T base v w p B h hp hcm hB hI2 => parts_put T base v w h p hp m hcm B hB hI2 hO hf)
  obtain ⟨R, hR⟩ : ∃ R, R = WM.cfOk m.cf := ⟨_, rfl⟩
  obtain ⟨Z1, hZ1⟩ : ∃ Z, Z = (WM.putC m.cf).1 := ⟨_, rfl⟩
  obtain ⟨Z2, hZ2⟩ : ∃ Z, Z = (WM.putC m.cf).2 := ⟨_, rfl⟩
  rw [← hZ1, ← hZ2]
  have HZ := Lib.hid (And.intro hZ1 hZ2)
  have HR := Lib.hid hR
  clear hI hO hf hZ1 hZ2 hR
  unfold cmV cmA
  go_enter Try.func13, Try.ntmps13
  go_wp2_with fail
  obtain ⟨w1, hw1⟩ : ∃ w1, w1 = (W.alloc (.cells #[.slice m.nA m.ns.length m.nc, .slice m.qA m.qs.length m.qc, .int .i64 m.w, .int .i64 m.t, .int .i64 m.r, .int .i64 m.a] 33)).alloc (.cells #[.slice none 0 0] 67) := ⟨_, rfl⟩
  rw [← hw1]
  have hz1 : w1.heap.size = W.heap.size + 1 + 1 := by rw [hw1]; simp
  have HB1 : Hid (Below W.heap.size W w1) := Lib.hid (by rw [hw1]; exact ((Below.refl _ _).alloc (Nat.le_refl _) _).alloc (by simp) _)
  have HC : Hid (w1.heap[W.heap.size]? = some (.cells (cmA m) 33 (0, 0))) := Lib.hid (by rw [hw1]; exact (Below.heap_alloc _ _ _ (by simp)).trans (heap_alloc_new W _))
  have HT : Hid (w1.heap[W.heap.size + 1]? = some (.cells #[.slice none 0 0] 67 (0, 0))) := Lib.hid (by
    have h9 := heap_alloc_new (W.alloc (.cells #[.slice m.nA m.ns.length m.nc, .slice m.qA m.qs.length m.qc, .int .i64 m.w, .int .i64 m.t, .int .i64 m.r, .int .i64 m.a] 33)) (.cells #[.slice none 0 0] 67)
    rw [World.size_alloc] at h9
    rw [hw1]; exact h9)
  have HS : Hid (PutSt w1 (W.heap.size + 1) (W.heap.size + 1 + 1) [] (.slice none 0 0)) := Lib.hid ⟨HT.out, ⟨rfl, .inl ⟨rfl, rfl⟩⟩, by omega, by omega⟩
  have HI1 : Hid (CmIn w1 W.heap.size m) := Lib.hid ⟨els_to HI.out.ns (Nat.le_refl _) (fun b off e hb => HB1.out.block b hb), fun n hn => els_to (HI.out.ds n hn) (Nat.le_refl _) (fun b off e hb => HB1.out.block b hb), els_to HI.out.qs (Nat.le_refl _) (fun b off e hb => HB1.out.block b hb)⟩
  clear hw1
  refine (HP.out (W.heap.size + 1) (W.heap.size + 1 + 1) (.slice none 0 0) w1 W.heap.size W.heap.size HS.out (by omega) HC.out (by omega) HI1.out).mono ?_
  rintro e w2 ⟨rfl, hP, hF⟩
  have HBE : Hid (Below W.heap.size W w2) := Lib.hid (HB1.out.trans (hF.out.below (by omega) (fun i hi => by
    rcases hi with rfl | hi
    · omega
    · simp [Value.ownBlock] at hi)))
  rw [← HR.out] at hP ⊢
  have HP2 := Lib.hid hP.out
  clear hP hF HP
  cases R with
  | false =>
    have hz := HZ.out
    unfold WM.putC at hz
    rw [← HR.out] at hz
    obtain ⟨rfl, rfl⟩ := hz
    clear HZ
    go_wp2_with fail
    go_ret2
    exact ⟨rfl, HBE.out⟩
  | true =>
    obtain ⟨v', hS, _⟩ := HP2.out rfl
    obtain ⟨a', c', rfl⟩ := own_formE hS.own
    have hcv := conv_own hS.own
    have c0 : w2.cell? ⟨W.heap.size + 1, 0, none⟩ = some (.slice a' (WM.cfE m.cf).length c') := cell_blk (i := 0) hS.cell rfl
    have hz := HZ.out
    unfold WM.putC at hz
    rw [← HR.out] at hz
    simp only [if_true] at hz
    obtain ⟨E, hE⟩ : ∃ E, E = WM.cfE m.cf := ⟨_, rfl⟩
    rw [← hE] at c0 hcv hz
    obtain ⟨rfl, rfl⟩ := hz
    clear hS HZ HP2 hE
    go_wp2_with fail
    go_ret2
    exact ⟨rfl, HBE.out⟩
end Go.Proofs.Ytplekkpfpidebaa
