/- A timer's Drop and Set. -/
import Derived.Test.YtdoaihmeldkahaaTimerObj
set_option linter.unusedVariables false
namespace Go.Proofs.Ytdoaihmeldkahaa
open Go.RowKit

namespace TM
theorem drop_rem (L : List En) (i : Int) : (tDrop L i).2 = remL i L := by
  unfold tDrop; split
  · rename_i h; exact (remL_none h).symm
  · rfl
theorem look_rem {L : List En} (h : TS L) (i : Int) : lookL (remL i L) = fun y => if y = i then none else lookL L y := by
  funext y
  unfold lookL
  rw [find_rem h.ids]
  split <;> rfl
theorem look_ins {L : List En} {x : En} (h : TS L) (hf : findL x.i L = none) : lookL (insL x L) = fun y => if y = x.i then some x.k else lookL L y := by
  funext y
  unfold lookL
  rw [find_ins h.ids hf]
  split <;> rfl
end TM
set_option maxRecDepth 100000 in
set_option maxHeartbeats 4000000 in
theorem drop_t (p : Nat) (F : Nat → Prop) (L : List En) (i : Int) (w : World) (h : TObj w p F L) (hi : (Lit.int .i64 i).wf = true) :
    Calls Try.prog 11 #[.pointer (some ⟨p, 0, none⟩), .int .i64 i] w fun e w' => e = .returned (.int .i64 (TM.tDrop L i).1) ∧ TObj w' p F (TM.tDrop L i).2 ∧ Foot F w w' := by
  have hO := Lib.hid h
  obtain ⟨m, v, H, h, rfl⟩ := h
  have hl := h.mp.look hi
  have c1 := h.tick
  unfold TM.tDrop
  rcases look_at (L := L) i with ⟨e1, e2⟩ | ⟨x, e1, e2, e3⟩
  · rw [e1, if_pos rfl]
    rw [e2] at hl
    simp only [Option.getD_none, Option.isSome_none] at hl
    clear e1 e2 h
    go_enter Try.func11, Try.ntmps11
    go_wp2
    go_ret
    exact ⟨rfl, hO.out, Foot.refl _ _⟩
  · rw [e1, if_neg (by simp)]
    rw [e2] at hl
    simp only [Option.getD_some, Option.isSome_some] at hl
    have hrl := TM.rem_len e1
    obtain ⟨n, hn⟩ : ∃ n, n = (TM.remL i L).length := ⟨_, rfl⟩
    have hHn : H.length = n + 1 := by rw [h.len]; omega
    have hmp := h.mp
    rw [hHn] at hmp
    obtain ⟨w2, hrun, hm2, ht2⟩ := hmp.drop hi e2
    have hf2 := turned_foot ht2
    have hmne := h.mne
    have hp2 := h.hp.foot hf2 (fun j hj => by subst hj; exact ⟨hmne.1, hmne.2⟩)
    have hxL := TM.findL_some e1
    have hT := Lib.hid (take_heap p _ v H x w2 hp2 (h.perm.mem_iff.2 hxL.1) h.heap)
    have HH := Lib.hid (And.intro h (And.intro e1 (And.intro hm2 (And.intro hf2 (And.intro hmne hn)))))
    obtain ⟨xk, xi⟩ := x
    simp only at e3
    subst e3
    unfold enV at hT
    clear h e1 e2 hmp hm2 ht2 hf2 hmne hp2 hxL hrl hn hHn
    go_enter Try.func11, Try.ntmps11
    go_wp2_with (go_at_call 22; refine hT.out.mono ?_; rintro e w3 ⟨rfl, v3, H3, hA3, hP3, hh3, ho3, hF3⟩)
    go_ret
    obtain ⟨h, e1, hm2, hf2, hmne, hn⟩ := HH.out
    have eB : tB p m v3 = tB p m v := by funext j; simp only [tB]; rw [ho3]
    have hP4 : H3.Perm (TM.remL xi L) := (List.perm_cons _).1 ((hP3.trans h.perm).trans (TM.remL_perm e1).symm)
    have hm3 : TMap w3 m n (fun y => if y = xi then none else TM.lookL L y) := hm2.of_block (hF3.block m hm2.lt (fun hj => by rcases hj with e | e; exact hmne.1 e; exact hmne.2 e))
    refine ⟨rfl, ⟨m, v3, H3, ⟨hA3, ?_, hP4, hh3, h.ok.rem xi⟩, eB.symm⟩, ?_⟩
    · rw [hP4.length_eq, ← hn, TM.look_rem h.ok]; exact hm3
    · exact (hf2.mono (F' := tB p m v) (fun j hj => .inr (.inl hj))).trans hF3 (fun j hj => by rcases hj with e | e; exact .inl (.inl e); exact .inl (.inr (.inr e)))
set_option maxRecDepth 100000 in
set_option maxHeartbeats 4000000 in
theorem set_t (p : Nat) (F : Nat → Prop) (L : List En) (i k : Int) (w : World) (h : TObj w p F L) (hi : (Lit.int .i64 i).wf = true) :
    Calls Try.prog 9 #[.pointer (some ⟨p, 0, none⟩), .int .i64 i, .int .i64 k] w fun e w' => e = .returned (.int .i64 (TM.tSet L i k).1) ∧ ∃ F', TObj w' p F' (TM.tSet L i k).2 ∧ Foot F w w' ∧ ∀ j, F' j → F j ∨ w.heap.size ≤ j := by
  have hO := Lib.hid h
  unfold TM.tSet
  by_cases h0 : k < 0
  · rw [if_pos (.inl h0)]
    have t0 : decide (k < 0) = true := decide_eq_true h0
    clear h
    go_enter Try.func9, Try.ntmps9
    go_wp2
    go_ret
    exact ⟨rfl, F, hO.out, Foot.refl _ _, fun j hj => .inl hj⟩
  have t0 : decide (k < 0) = false := decide_eq_false h0
  by_cases h1 : 1073741824 < k
  · rw [if_pos (.inr h1)]
    have t1 : decide (1073741824 < k) = true := decide_eq_true h1
    clear h
    go_enter Try.func9, Try.ntmps9
    go_wp2
    go_ret
    exact ⟨rfl, F, hO.out, Foot.refl _ _, fun j hj => .inl hj⟩
  have t1 : decide (1073741824 < k) = false := decide_eq_false h1
  rw [if_neg (by omega)]
  have hkw : (Lit.int .i64 k).wf = true := Go.WalkArith.wf_i64 ⟨by omega, by omega⟩
  have HLen := Lib.hid (len_t p F L w h)
  have HDr := Lib.hid (fun W hW => drop_t p F L i W hW hi)
  obtain ⟨m, v, H, h, rfl⟩ := h
  have hl := h.mp.look hi
  have c1 := h.tick
  have hlen := h.ok.len
  have HI := Lib.hid hi
  obtain ⟨n, hn⟩ : ∃ n, n = L.length := ⟨_, rfl⟩
  rw [← hn] at HLen hlen ⊢
  have rest : ∀ w3 : World, TObj w3 p (tB p m v) (TM.tDrop L i).2 → Foot (tB p m v) w w3 → (TM.remL i L).length < 4096 → ∃ (m3 : Nat) (w4 : World), w3.cell? ⟨p, 1, none⟩ = some (.map (some m3)) ∧ (Instr.mapUpdate 54 (.map (some m3)) (.int .i64 i) (.int .i64 k)).run Try.prog w3 = .ok () w4 ∧
      Hid (Calls Try.prog 20 #[.pointer (some ⟨p, 0, none⟩), .agg #[.int .i64 i, .int .i64 k]] w4 fun e w' => e = .returned (.tuple #[]) ∧ ∃ F', TObj w' p F' (TM.insL ⟨k, i⟩ (TM.remL i L)) ∧ Foot (tB p m v) w w' ∧ ∀ j, F' j → tB p m v j ∨ w.heap.size ≤ j) := fun w3 h3 hf3 hl3 => by
    rw [TM.drop_rem] at h3
    obtain ⟨m3, v3, H3, h3, e3⟩ := h3
    have hno : TM.findL i (TM.remL i L) = none := by rw [TM.find_rem h.ok.ids]; simp
    have hno2 : TM.lookL (TM.remL i L) i = none := by unfold TM.lookL; rw [hno]; rfl
    obtain ⟨w4, hrun, hm4, ht4⟩ := h3.mp.store HI.out hkw hno2 (by rw [h3.len]; omega)
    have hf4 := turned_foot ht4
    have hmne := h3.mne
    have hp4 := h3.hp.foot hf4 (fun j hj => by subst hj; exact ⟨hmne.1, hmne.2⟩)
    refine ⟨m3, w4, h3.tick, hrun, Lib.hid ((put_heap p _ v3 H3 ⟨k, i⟩ w4 hp4 h3.heap (by rw [h3.len]; omega)).mono ?_)⟩
    rintro e w5 ⟨rfl, v5, H5, hA5, hP5, hh5, ho5, hF5⟩
    have hm5 : TMap w5 m3 (H3.length + 1) (fun y => if y = i then some k else TM.lookL (TM.remL i L) y) := hm4.of_block (hF5.block m3 hm4.lt (fun hj => by rcases hj with e | e; exact hmne.1 e; exact hmne.2 e))
    have hF45 : Foot (tB p m v) w w5 := by
      rw [e3]
      rw [e3] at hf3
      refine (hf3.trans hf4 (fun j hj => .inl (.inr (.inl hj)))).trans hF5 (fun j hj => ?_)
      rcases hj with e | e
      · exact .inl (.inl e)
      · exact .inl (.inr (.inr e))
    have hP6 : H5.Perm (TM.insL ⟨k, i⟩ (TM.remL i L)) := (hP5.trans (h3.perm.cons _)).trans (TM.insL_perm _ _).symm
    refine ⟨rfl, tB p m3 v5, ⟨m3, v5, H5, ⟨hA5, ?_, hP6, hh5, ?_⟩, rfl⟩, hF45, fun j hj => ?_⟩
    · rw [hP5.length_eq, List.length_cons, TM.look_ins h3.ok hno]; exact hm5
    · exact h3.ok.ins hno hl3 ⟨by show 0 ≤ k; omega, by show k ≤ 1073741824; omega, HI.out⟩
    · rw [e3]
      rcases hj with e | e | e
      · exact .inl (.inl e)
      · exact .inl (.inr (.inl e))
      · rcases ho5 j e with e | e
        · exact .inl (.inr (.inr e))
        · have := hf3.size; have := hf4.size; exact .inr (by omega)
  have Rest := Lib.hid rest
  have RL : TM.findL i L = none → TM.remL i L = L := TM.remL_none
  have HN := Lib.hid hn
  rcases look_at (L := L) i with ⟨e1, e2⟩ | ⟨x, e1, e2, e3⟩
  · rw [e2] at hl
    simp only [Option.getD_none, Option.isSome_none] at hl
    by_cases h2 : 4096 ≤ n
    · rw [if_pos ⟨e1, h2⟩]
      have t2 : decide (4096 ≤ n) = true := decide_eq_true h2
      clear e1 e2 h rest RL hn
      go_enter Try.func9, Try.ntmps9
      go_wp2_with (go_at_call 17; refine HLen.out.mono ?_; rintro e w1 ⟨rfl, rfl⟩)
      go_ret
      exact ⟨rfl, _, hO.out, Foot.refl _ _, fun j hj => .inl hj⟩
    · rw [if_neg (fun hh => h2 hh.2)]
      have t2 : decide (4096 ≤ n) = false := decide_eq_false h2
      have hl3 : Hid ((TM.remL i L).length < 4096) := Lib.hid (by rw [RL e1, ← hn]; omega)
      clear e1 e2 h rest RL hn
      go_enter Try.func9, Try.ntmps9
      go_wp2_with (first
        | (go_at_call 17; refine HLen.out.mono ?_; rintro e w1 ⟨rfl, rfl⟩)
        | (go_at_call 11; refine (HDr.out _ hO.out).mono ?_; rintro e w3 ⟨rfl, h3, hf3⟩; obtain ⟨m3, w4, c3, hrun3, HP⟩ := Rest.out w3 h3 hf3 hl3.out; clear h3 hf3)
        | (go_at_call 20; refine HP.out.mono ?_; rintro e w5 ⟨rfl, F5, h5, hf5, hy5⟩))
      go_ret
      exact ⟨rfl, F5, h5, hf5, hy5⟩
  · rw [e2] at hl
    simp only [Option.getD_some, Option.isSome_some] at hl
    rw [if_neg (fun hh => by rw [e1] at hh; cases hh.1)]
    have hl3 : Hid ((TM.remL i L).length < 4096) := Lib.hid (by have := TM.rem_len e1; omega)
    clear e1 e2 e3 h rest RL hn
    go_enter Try.func9, Try.ntmps9
    go_wp2_with (first
        | (go_at_call 17; refine HLen.out.mono ?_; rintro e w1 ⟨rfl, rfl⟩)
        | (go_at_call 11; refine (HDr.out _ hO.out).mono ?_; rintro e w3 ⟨rfl, h3, hf3⟩; obtain ⟨m3, w4, c3, hrun3, HP⟩ := Rest.out w3 h3 hf3 hl3.out; clear h3 hf3)
        | (go_at_call 20; refine HP.out.mono ?_; rintro e w5 ⟨rfl, F5, h5, hf5, hy5⟩))
    go_ret
    exact ⟨rfl, F5, h5, hf5, hy5⟩
end Go.Proofs.Ytdoaihmeldkahaa
