/- A heap's own functions: swap. -/
import Derived.Test.YtdoaihmeldkahaaTimerMem
set_option linter.unusedVariables false
namespace Go.Proofs.Ytdoaihmeldkahaa
open Go.RowKit

abbrev vB (v : Value) : Nat → Prop := fun i => v.ownBlock = some i
set_option maxRecDepth 100000 in
set_option maxHeartbeats 4000000 in
theorem swap_any (p : Nat) (u v : Value) (H : List En) (a b : Nat) (w : World) (h : HpAt w p u v H) (ha : a < H.length) (hb : b < H.length) :
    Calls Try.prog 26 #[.pointer (some ⟨p, 0, none⟩), .int .i64 (a : Nat), .int .i64 (b : Nat)] w fun e w' => e = .returned (.tuple #[]) ∧ HpAt w' p u v (TM.swapL H a b) ∧ Foot (vB v) w w' := by
  obtain ⟨g, cap, rfl, hg, hgp⟩ := h.form (by omega)
  have hx := TM.get_at ha
  have hy := TM.get_at hb
  obtain ⟨x, ex⟩ : ∃ x, x = TM.at_ H a := ⟨_, rfl⟩
  obtain ⟨y, ey⟩ : ∃ y, y = TM.at_ H b := ⟨_, rfl⟩
  rw [← ex] at hx
  rw [← ey] at hy
  obtain ⟨c0, c1⟩ := h.head
  obtain ⟨x0, x1, x2, x3⟩ := h.cells hx
  obtain ⟨y0, y1, y2, y3⟩ := h.cells hy
  have hW : HpAt (((((w.setCell ⟨g, a * 2, none⟩ (.int .i64 y.i)).setCell ⟨g, a * 2 + 1, none⟩ (.int .i64 y.k)).setCell ⟨g, b * 2, none⟩ (.int .i64 x.i)).setCell ⟨g, b * 2 + 1, none⟩ (.int .i64 x.k))) p u (.slice (some ⟨g, 0, none⟩) H.length cap) (TM.swapL H a b) := by
    have h1 := h.put y ha
    have e1 : (H.set a y).length = H.length := List.length_set
    rw [← e1] at h1
    have h2 := h1.put x (i := b) (by rw [e1]; exact hb)
    rw [e1] at h2
    unfold TM.swapL
    rw [← ex, ← ey]
    exact h2
  have hF : Foot (vB (.slice (some ⟨g, 0, none⟩) H.length cap)) w (((((w.setCell ⟨g, a * 2, none⟩ (.int .i64 y.i)).setCell ⟨g, a * 2 + 1, none⟩ (.int .i64 y.k)).setCell ⟨g, b * 2, none⟩ (.int .i64 x.i)).setCell ⟨g, b * 2 + 1, none⟩ (.int .i64 x.k))) :=
    ((((Foot.refl (vB (.slice (some ⟨g, 0, none⟩) H.length cap)) w).setCell (p := ⟨g, a * 2, none⟩) (.inl rfl) _).setCell (p := ⟨g, a * 2 + 1, none⟩) (.inl rfl) _).setCell (p := ⟨g, b * 2, none⟩) (.inl rfl) _).setCell (p := ⟨g, b * 2 + 1, none⟩) (.inl rfl) _
  have HW := Lib.hid (And.intro hW hF)
  obtain ⟨z, q0, q1, q2, q3⟩ : ∃ z : En, ((w.setCell ⟨g, a * 2, none⟩ (.int .i64 y.i)).setCell ⟨g, a * 2 + 1, none⟩ (.int .i64 y.k)).cell? ⟨g, b * 2, none⟩ = some (.int .i64 z.i) ∧ ((w.setCell ⟨g, a * 2, none⟩ (.int .i64 y.i)).setCell ⟨g, a * 2 + 1, none⟩ (.int .i64 y.k)).cell? ⟨g, b * 2 + 1, none⟩ = some (.int .i64 z.k) ∧ ((w.setCell ⟨g, a * 2, none⟩ (.int .i64 y.i)).setCell ⟨g, a * 2 + 1, none⟩ (.int .i64 y.k)).frozen? ⟨g, b * 2, none⟩ = false ∧ ((w.setCell ⟨g, a * 2, none⟩ (.int .i64 y.i)).setCell ⟨g, a * 2 + 1, none⟩ (.int .i64 y.k)).frozen? ⟨g, b * 2 + 1, none⟩ = false := by
    have h1 := h.put y ha
    have e1 : (H.set a y).length = H.length := List.length_set
    rw [← e1] at h1
    obtain ⟨z, hz⟩ := get_lt (l := H.set a y) (k := b) (by rw [e1]; exact hb)
    exact ⟨z, h1.cells hz⟩
  have hfew := h.few
  obtain ⟨n, hn⟩ : ∃ n, n = H.length := ⟨_, rfl⟩
  rw [← hn] at ha hb hfew c0 ⊢
  rw [← hn] at HW
  clear hW hF h hx hy ex ey hn
  obtain ⟨xk, xi⟩ := x
  obtain ⟨yk, yi⟩ := y
  obtain ⟨zk, zi⟩ := z
  simp only at x0 x1 y0 y1 HW q0 q1 q2 q3
  go_enter Try.func26, Try.ntmps26
  go_wp2_with fail
  go_region
  clear x0 x1 x2 x3 y0 y1 y2 y3 q0 q1 q2 q3 c0 c1
  have N1 := Lib.hid (And.intro HW.out.1.drew HW.out.2.drew)
  clear HW
  generalize (((((w.setCell ⟨g, a * 2, none⟩ (.int .i64 yi)).setCell ⟨g, a * 2 + 1, none⟩ (.int .i64 yk)).setCell ⟨g, b * 2, none⟩ (.int .i64 xi)).setCell ⟨g, b * 2 + 1, none⟩ (.int .i64 xk))).drew = W at N1 ⊢
  go_wp2
  go_end0
  exact ⟨rfl, N1.out⟩
end Go.Proofs.Ytdoaihmeldkahaa
