/- A heap's cut: one place is filled with the last entry. -/
import Derived.Test.YtdoaihmeldkahaaTimerSink
set_option linter.unusedVariables false
namespace Go.Proofs.Ytdoaihmeldkahaa
open Go.RowKit

abbrev pB (p : Nat) (v : Value) : Nat → Prop := fun i => i = p ∨ v.ownBlock = some i
/-- The slice is cut short. -/
theorem HpAt.less {w : World} {p g cap m : Nat} {u : Value} {H : List En} (h : HpAt w p u (.slice (some ⟨g, 0, none⟩) H.length cap) H) (hm : m ≤ H.length) :
    HpAt (w.setCell ⟨p, 0, none⟩ (.slice (some ⟨g, 0, none⟩) m cap)) p u (.slice (some ⟨g, 0, none⟩) m cap) (H.take m) := by
  have hg := h.ne g rfl
  have hl : (H.take m).length = m := by rw [List.length_take]; omega
  refine ⟨?_, ?_, by rw [hl]; have := h.few; omega⟩
  · have := blk_put (i := 0) (.slice (some ⟨g, 0, none⟩) m cap) h.obj
    simpa using this
  · rw [hl]
    refine ⟨by rw [flat_len enC_len, hl], ?_⟩
    rcases h.row.2 with ⟨h1, _⟩ | ⟨g', cap', cur, e, h2, h3, h4, h5, h6, h7⟩
    · cases h1
    · injection e with e1 e2 e3
      injection e1 with e1
      injection e1 with e1
      subst e1; subst e3
      refine .inr ⟨g, cap, cur, rfl, h2, ?_, by omega, h5, h6, ?_⟩
      · rw [Below.heap_setCell _ _ _ g hg]; exact h3
      · have e5 : (H.take m).flatMap enC = (H.flatMap enC).take (m * 2) := by
          refine List.ext_getElem? fun j => ?_
          rw [List.getElem?_take]
          by_cases hj : j < m * 2
          · rw [if_pos hj]
            obtain ⟨x, hx⟩ := get_lt (l := H) (k := j / 2) (by omega)
            have hx2 : (H.take m)[j / 2]? = some x := by rw [List.getElem?_take, if_pos (by omega)]; exact hx
            have a1 := flat_get enC_len hx (show j % 2 < 2 by omega)
            have a2 := flat_get enC_len hx2 (show j % 2 < 2 by omega)
            rw [show j / 2 * 2 + j % 2 = j by omega] at a1 a2
            rw [a1, a2]
          · rw [if_neg hj]
            refine List.getElem?_eq_none ?_
            rw [flat_len enC_len, hl]; omega
        rw [e5, ← h7, List.take_take, Nat.min_eq_left (by omega)]
theorem HpAt.room {w : World} {p g cap n : Nat} {u : Value} {H : List En} (h : HpAt w p u (.slice (some ⟨g, 0, none⟩) n cap) H) : n ≤ cap ∧ cap ≤ maxLen := by
  rcases h.row.2 with ⟨h1, _⟩ | ⟨g', cap', cur, e, h2, h3, h4, h5, h6, h7⟩
  · cases h1
  · injection e with e1 e2 e3
    subst e3
    exact ⟨by omega, h5⟩
namespace TM
theorem cut_perm {H : List En} {i m : Nat} {x l : En} (hx : H[i]? = some x) (hl : H[m]? = some l) (hm : m + 1 = H.length) : (x :: (H.set i l).take m).Perm H := by
  have hH : H = H.take m ++ [l] := by
    rw [← take_next hl, hm, List.take_length]
  have hi := (List.getElem?_eq_some_iff.1 hx).1
  rw [List.take_set]
  have h0 : (l :: H.take m).Perm H := by
    have h1 : (l :: H.take m).Perm (H.take m ++ [l]) := (List.perm_append_singleton l (H.take m)).symm
    rw [← hH] at h1
    exact h1
  by_cases e : i = m
  · subst e
    rw [hx] at hl; injection hl with hl; subst hl
    rw [List.set_eq_of_length_le (by rw [List.length_take]; omega)]
    exact h0
  · have hx2 : (H.take m)[i]? = some x := by rw [List.getElem?_take, if_pos (by omega)]; exact hx
    exact (set_perm l hx2).trans h0
theorem cut_at {H : List En} {i m : Nat} {l : En} {j : Nat} (hm : m + 1 = H.length) (hj : j < m) (hji : j ≠ i) : at_ ((H.set i l).take m) j = at_ H j := by
  simp only [at_, List.getD_eq_getElem?_getD]
  rw [List.getElem?_take, if_pos hj, List.getElem?_set_ne (Ne.symm hji)]
end TM
set_option maxRecDepth 100000 in
set_option maxHeartbeats 4000000 in
theorem cut_heap (p : Nat) (u v : Value) (H : List En) (i : Nat) (x : En) (w : World) (h : HpAt w p u v H) (hx : H[i]? = some x) (hh : TM.Heap (TM.at_ H) H.length) :
    Calls Try.prog 25 #[.pointer (some ⟨p, 0, none⟩), .int .i64 (i : Nat)] w fun e w' => e = .returned (.tuple #[]) ∧ ∃ v' H', HpAt w' p u v' H' ∧ (x :: H').Perm H ∧ TM.Heap (TM.at_ H') H'.length ∧ v'.ownBlock = v.ownBlock ∧ Foot (pB p v) w w' := by
  have hi := (List.getElem?_eq_some_iff.1 hx).1
  obtain ⟨g, cap, rfl, hg, hgp⟩ := h.form (by omega)
  obtain ⟨m, hm⟩ : ∃ m, m + 1 = H.length := ⟨H.length - 1, by omega⟩
  obtain ⟨l, hl⟩ := get_lt (l := H) (k := m) (by omega)
  obtain ⟨c0, c1⟩ := h.head
  obtain ⟨x0, x1, x2, x3⟩ := h.cells hx
  obtain ⟨y0, y1, y2, y3⟩ := h.cells hl
  have hW := h.put l hi
  have hF : Foot (pB p (.slice (some ⟨g, 0, none⟩) H.length cap)) w ((w.setCell ⟨g, i * 2, none⟩ (.int .i64 l.i)).setCell ⟨g, i * 2 + 1, none⟩ (.int .i64 l.k)) :=
    (((Foot.refl (pB p (.slice (some ⟨g, 0, none⟩) H.length cap)) w)).setCell (p := ⟨g, i * 2, none⟩) (.inl (.inr rfl)) _).setCell (p := ⟨g, i * 2 + 1, none⟩) (.inl (.inr rfl)) _
  have hlen : (H.set i l).length = H.length := List.length_set
  rw [← hlen] at hW
  have hfew := h.few
  have H0 := Lib.hid (And.intro hx (And.intro hl hh))
  obtain ⟨n, hn⟩ : ∃ n, n = H.length := ⟨_, rfl⟩
  have HW := Lib.hid (And.intro hW.drew (And.intro hF.drew (And.intro hlen hn)))
  rw [← hn] at c0 hi hm hfew ⊢
  have em : (n : Int) - 1 = (m : Int) := by omega
  clear hW hF h hx hl hh hlen hn
  obtain ⟨xk, xi⟩ := x
  obtain ⟨lk, li⟩ := l
  simp only at x0 x1 y0 y1 HW
  go_enter Try.func25, Try.ntmps25
  go_wp2_with fail
  try rw [em]
  go_region
  clear x0 x1 x2 x3 y0 y1 y2 y3 c0 c1
  generalize ((w.setCell ⟨g, i * 2, none⟩ (.int .i64 li)).setCell ⟨g, i * 2 + 1, none⟩ (.int .i64 lk)).drew = W at HW ⊢
  obtain ⟨c0, c1⟩ := HW.out.1.head
  rw [HW.out.2.2.1, ← HW.out.2.2.2] at c0
  have hcap := HW.out.1.room
  rw [HW.out.2.2.1, ← HW.out.2.2.2] at hcap
  obtain ⟨hcap1, hcap2⟩ := hcap
  have HL := Lib.hid (show HpAt (W.setCell ⟨p, 0, none⟩ (.slice (some ⟨g, 0, none⟩) m cap)) p u (.slice (some ⟨g, 0, none⟩) m cap) ((H.set i ⟨lk, li⟩).take m) ∧ Foot (pB p (.slice (some ⟨g, 0, none⟩) n cap)) w (W.setCell ⟨p, 0, none⟩ (.slice (some ⟨g, 0, none⟩) m cap)) from by
    obtain ⟨a1, a2, a3, a4⟩ := HW.out
    rw [← a4] at a2
    exact ⟨a1.less (by omega), a2.setCell (p := ⟨p, 0, none⟩) (.inl (.inl rfl)) _⟩)
  have HM := Lib.hid (show ((H.set i ⟨lk, li⟩).take m).length = m by rw [List.length_take, HW.out.2.2.1, ← HW.out.2.2.2]; omega)
  have Hn := Lib.hid HW.out.2.2.2
  clear HW em
  by_cases him : i < m
  · have t0 : decide (i < m) = true := decide_eq_true him
    have HR := Lib.hid (rise_any p u (.slice (some ⟨g, 0, none⟩) m cap) _ i _ HL.out.1 (by rw [HM.out]; exact him) (by
      rw [HM.out]
      refine TM.heapX_of (TM.heap_less (m := m) H0.out.2.2 (by have := Hn.out; omega)) fun j h1 h2 => ?_
      exact TM.cut_at (by have := Hn.out; omega) h1 h2))
    go_wp2_with fail
    (with_reducible refine HR.out.mono ?_)
    rintro e w5 ⟨rfl, H5, hA5, hP5, hD5, hF5⟩
    have HS := Lib.hid (sink_any p u (.slice (some ⟨g, 0, none⟩) m cap) H5 i w5 hA5 (by rw [hP5.length_eq, HM.out]; exact him) hD5)
    have HP5 := Lib.hid (And.intro hP5 hF5)
    clear hA5 hP5 hD5 hF5
    go_wp2_with fail
    (with_reducible refine HS.out.mono ?_)
    rintro e w6 ⟨rfl, H6, hA6, hP6, hD6, hF6⟩
    go_wp2_with fail
    go_end0
    refine ⟨rfl, _, H6, hA6, ((hP6.trans HP5.out.1).cons _).trans (TM.cut_perm H0.out.1 H0.out.2.1 (by have := Hn.out; omega)), hD6, rfl, ?_⟩
    exact (HL.out.2.trans HP5.out.2 (fun i hi => .inl (.inr hi))).trans hF6 (fun i hi => .inl (.inr hi))
  · have t0 : decide (i < m) = false := decide_eq_false him
    go_wp2_with fail
    go_end0
    refine ⟨rfl, _, _, HL.out.1, TM.cut_perm H0.out.1 H0.out.2.1 (by have := Hn.out; omega), ?_, rfl, HL.out.2⟩
    rw [HM.out]
    refine TM.heap_ext (TM.heap_less (m := m) H0.out.2.2 (by have := Hn.out; omega)) fun j h1 => ?_
    exact TM.cut_at (by have := Hn.out; omega) h1 (by omega)
end Go.Proofs.Ytdoaihmeldkahaa
