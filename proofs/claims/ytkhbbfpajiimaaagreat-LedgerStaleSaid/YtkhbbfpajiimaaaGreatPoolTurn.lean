/- A pool's Drain and Undrain. -/
import Derived.Test.YtkhbbfpajiimaaaGreatPoolObj
namespace Go.Proofs.YtkhbbfpajiimaaaGreat
open Go.RowKit

theorem isDr_at {dr : List Bool} {x : Int} {b : Bool} (h0 : ¬ (x < 0 ∨ (dr.length : Int) ≤ x)) (h : isDr dr x = b) : ∃ k : Nat, x = k ∧ dr[k]? = some b := by
  obtain ⟨k, rfl⟩ : ∃ k : Nat, x = k := ⟨x.toNat, by omega⟩
  refine ⟨k, rfl, ?_⟩
  rw [isDr_nat] at h
  have hk : k < dr.length := by omega
  rw [List.getElem?_eq_getElem hk] at h ⊢
  simpa using h
set_option maxHeartbeats 1000000 in
theorem drain_any {T : Nat → Prop} (p g dm : Nat) (fs ts : List Fr) (dr : List Bool) (x : Int) (w : World) (h : PoolAt w T p g dm fs ts dr) (hx : (Lit.int .i64 x).wf = true) :
    Calls Tryz.prog 82 #[.pointer (some ⟨p, 0, none⟩), .int .i64 x] w fun e w' => e = .returned (.int .i64 (turn dr x true).1) ∧ PoolAt w' T p g dm fs ts (turn dr x true).2 ∧ Foot (· = dm) w w' := by
  have hH := Lib.hid (poolhas_any p g dm fs ts dr x w h)
  have hD := Lib.hid (drained_any p g dm fs ts dr x w h hx)
  have HP := Lib.hid h
  unfold turn
  by_cases h0 : x < 0 ∨ (dr.length : Int) ≤ x
  · rw [if_pos h0]
    have t0 : (decide (0 ≤ x) && decide (x < (dr.length : Int))) = false := by simp; omega
    rw [t0] at hH
    clear h hx h0 t0
    go_enter Tryz.func82, Tryz.ntmps82
    go_wp2_with (go_at_call 119; refine hH.out.mono ?_; rintro e w1 ⟨rfl, rfl⟩)
    go_ret
    exact ⟨rfl, HP.out, Foot.refl _ _⟩
  rw [if_neg h0]
  have t0 : (decide (0 ≤ x) && decide (x < (dr.length : Int))) = true := by simp; omega
  rw [t0] at hH
  cases hb : isDr dr x
  · obtain ⟨k, rfl, hk⟩ := isDr_at h0 hb
    rw [if_neg (by simp)]
    rw [hb] at hD
    obtain ⟨w2, hrun, hD2, hm⟩ := h.drs.store hk h.ok.nodes
    have HR := Lib.hid (h.turned (by simp) hD2 hm)
    obtain ⟨a, h1, _⟩ := h.blk
    have c2 : w.cell? ⟨p, 2, none⟩ = some (.map (some dm)) := cell_blk (i := 2) h1 rfl
    clear h hx h0 t0 h1 hk hb hD2 hm
    go_enter Tryz.func82, Tryz.ntmps82
    go_wp2_with (first
      | (go_at_call 119; refine hH.out.mono ?_; rintro e w1 ⟨rfl, rfl⟩)
      | (go_at_call 97; refine hD.out.mono ?_; rintro e w1 ⟨rfl, rfl⟩))
    go_ret
    exact ⟨rfl, HR.out⟩
  · rw [if_pos rfl, if_pos rfl]
    rw [hb] at hD
    clear h hx h0 t0 hb
    go_enter Tryz.func82, Tryz.ntmps82
    go_wp2_with (first
      | (go_at_call 119; refine hH.out.mono ?_; rintro e w1 ⟨rfl, rfl⟩)
      | (go_at_call 97; refine hD.out.mono ?_; rintro e w1 ⟨rfl, rfl⟩))
    go_ret
    exact ⟨rfl, HP.out, Foot.refl _ _⟩
set_option maxHeartbeats 1000000 in
theorem undrain_any {T : Nat → Prop} (p g dm : Nat) (fs ts : List Fr) (dr : List Bool) (x : Int) (w : World) (h : PoolAt w T p g dm fs ts dr) (hx : (Lit.int .i64 x).wf = true) :
    Calls Tryz.prog 86 #[.pointer (some ⟨p, 0, none⟩), .int .i64 x] w fun e w' => e = .returned (.int .i64 (turn dr x false).1) ∧ PoolAt w' T p g dm fs ts (turn dr x false).2 ∧ Foot (· = dm) w w' := by
  have hH := Lib.hid (poolhas_any p g dm fs ts dr x w h)
  have hD := Lib.hid (drained_any p g dm fs ts dr x w h hx)
  have HP := Lib.hid h
  unfold turn
  by_cases h0 : x < 0 ∨ (dr.length : Int) ≤ x
  · rw [if_pos h0]
    have t0 : (decide (0 ≤ x) && decide (x < (dr.length : Int))) = false := by simp; omega
    rw [t0] at hH
    clear h hx h0 t0
    go_enter Tryz.func86, Tryz.ntmps86
    go_wp2_with (go_at_call 119; refine hH.out.mono ?_; rintro e w1 ⟨rfl, rfl⟩)
    go_ret
    exact ⟨rfl, HP.out, Foot.refl _ _⟩
  rw [if_neg h0]
  have t0 : (decide (0 ≤ x) && decide (x < (dr.length : Int))) = true := by simp; omega
  rw [t0] at hH
  cases hb : isDr dr x
  · rw [if_pos rfl, if_neg (by simp)]
    rw [hb] at hD
    clear h hx h0 t0 hb
    go_enter Tryz.func86, Tryz.ntmps86
    go_wp2_with (first
      | (go_at_call 119; refine hH.out.mono ?_; rintro e w1 ⟨rfl, rfl⟩)
      | (go_at_call 97; refine hD.out.mono ?_; rintro e w1 ⟨rfl, rfl⟩))
    go_ret
    exact ⟨rfl, HP.out, Foot.refl _ _⟩
  · obtain ⟨k, rfl, hk⟩ := isDr_at h0 hb
    rw [if_neg (by simp)]
    rw [hb] at hD
    have hrun0 := h.drs.drop hk h.ok.nodes
    obtain ⟨w2, hrun, hD2, hm⟩ : ∃ w', (∀ ty, (Builtin.delete_ #[148, 3] ty #[.map (some dm), .int .i64 (k : Nat)]).run Tryz.prog w = .ok (.tuple #[]) w') ∧ Drs w' dm (dr.set k false) ∧ w.mapTurned w' dm := by
      obtain ⟨w2, hrun, hr⟩ := hrun0 0
      refine ⟨w2, fun ty => ?_, hr⟩
      obtain ⟨w3, hrun3, _⟩ := hrun0 ty
      exact hrun
    have HR := Lib.hid (h.turned (by simp) hD2 hm)
    obtain ⟨a, h1, _⟩ := h.blk
    have c2 : w.cell? ⟨p, 2, none⟩ = some (.map (some dm)) := cell_blk (i := 2) h1 rfl
    clear h hx h0 t0 h1 hk hb hD2 hm hrun0
    go_enter Tryz.func86, Tryz.ntmps86
    go_wp2_with (first
      | (go_at_call 119; refine hH.out.mono ?_; rintro e w1 ⟨rfl, rfl⟩)
      | (go_at_call 97; refine hD.out.mono ?_; rintro e w1 ⟨rfl, rfl⟩))
    go_ret
    exact ⟨rfl, HR.out⟩
end Go.Proofs.YtkhbbfpajiimaaaGreat
