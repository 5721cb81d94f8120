/- awake of layer 17. -/
import Derived.Test.YtplekkpfpidebaaWireAPut
import Derived.Test.YtplekkpfpidebaaWireEnt
set_option linter.unusedVariables false
set_option linter.unusedSimpArgs false
set_option maxRecDepth 100000
namespace Go.Proofs.Ytplekkpfpidebaa
open Go.RowKit
attribute [local go_sem] bs_size bs_list
theorem putA_ex : WM.putA ⟨6, 2, 0, 0, 0, 0, 0, 0, 0, 0⟩ = ([6, 2], 0) := by decide
theorem entL_ex : WM.entL 0 [9, 5] = [⟨WM.Ac.zero, 10, 0⟩, ⟨⟨5, 0, 0, 0, 0, 0, 0, 0, 0, 0⟩, 0, 1⟩] := by decide
theorem lit_list (l : List UInt8) : (ByteArray.mk l.toArray).toList = l := ByteArray.toList_mk l
set_option maxHeartbeats 4000000 in
theorem awake17_any (w : World) : Calls Try.prog 9 #[] w fun e w' => e = .returned (.bool true) ∧ Below w.heap.size w w' := by
  have hP := Lib.hid (fun W => aput_any ⟨6, 2, 0, 0, 0, 0, 0, 0, 0, 0⟩ ⟨by decide, by decide, by decide, by decide, by decide, by decide, by decide, by decide, by decide⟩ W)
  have hE := Lib.hid (fun W => entries_any [9, 5] (by decide) W)
  rw [putA_ex] at hP
  rw [entL_ex] at hE
  unfold acV acA at hP
  simp only at hP
  go_enter Try.func9, Try.ntmps9
  go_wp2_with fail
  refine (hP.out w).mono ?_
  rintro e w1 ⟨rfl, hb1⟩
  have HB1 := Lib.hid hb1
  clear hb1
  go_wp2_with fail
  refine (hE.out w1).mono ?_
  rintro e w2 ⟨A, c, rfl, HR, hb2⟩
  have HB2 := Lib.hid (HB1.out.trans (hb2.mono HB1.out.size))
  obtain ⟨b, off, rfl, hb, hc⟩ := HR.out.1.at_ (i := 0) rfl
  have x0 := hc 0 _ rfl 0 _ rfl
  have x1 := hc 0 _ rfl 1 _ rfl
  have x2 := hc 0 _ rfl 2 _ rfl
  have x3 := hc 0 _ rfl 3 _ rfl
  have x4 := hc 0 _ rfl 4 _ rfl
  have x5 := hc 0 _ rfl 5 _ rfl
  have x6 := hc 0 _ rfl 6 _ rfl
  have x7 := hc 0 _ rfl 7 _ rfl
  have x8 := hc 0 _ rfl 8 _ rfl
  have x9 := hc 0 _ rfl 9 _ rfl
  have x10 := hc 0 _ rfl 10 _ rfl
  have x11 := hc 0 _ rfl 11 _ rfl
  have y0 := hc 1 _ rfl 0 _ rfl
  have y1 := hc 1 _ rfl 1 _ rfl
  have y2 := hc 1 _ rfl 2 _ rfl
  have y3 := hc 1 _ rfl 3 _ rfl
  have y4 := hc 1 _ rfl 4 _ rfl
  have y5 := hc 1 _ rfl 5 _ rfl
  have y6 := hc 1 _ rfl 6 _ rfl
  have y7 := hc 1 _ rfl 7 _ rfl
  have y8 := hc 1 _ rfl 8 _ rfl
  have y9 := hc 1 _ rfl 9 _ rfl
  have y10 := hc 1 _ rfl 10 _ rfl
  have y11 := hc 1 _ rfl 11 _ rfl
  have hlit : (ByteArray.mk #[6, 2]).toList = [6, 2] := lit_list [6, 2]
  have hlen : ([⟨WM.Ac.zero, 10, 0⟩, ⟨⟨5, 0, 0, 0, 0, 0, 0, 0, 0, 0⟩, 0, 1⟩] : List WM.We).length = 2 := rfl
  unfold WM.Ac.zero at x0 x1 x2 x3 x4 x5 x6 x7 x8 x9
  simp only [Nat.zero_mul, Nat.one_mul, Nat.add_zero] at x0 x1 x2 x3 x4 x5 x6 x7 x8 x9 x10 x11 y0 y1 y2 y3 y4 y5 y6 y7 y8 y9 y10 y11
  clear hc hb2 HR hP hE HB1
  go_wp2_with fail
  go_ret
  exact ⟨rfl, HB2.out⟩
end Go.Proofs.Ytplekkpfpidebaa
