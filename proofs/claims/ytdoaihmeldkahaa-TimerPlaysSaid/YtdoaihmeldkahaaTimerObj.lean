/- A timer as an object in memory: New, Len, At, Next, Drop. -/
import Derived.Test.YtdoaihmeldkahaaTimerPut
import Derived.Test.YtdoaihmeldkahaaTimerTake
set_option linter.unusedVariables false
namespace Go.Proofs.Ytdoaihmeldkahaa
open Go.RowKit

structure TAt (w : World) (p m : Nat) (v : Value) (H L : List En) : Prop where
  hp : HpAt w p (.map (some m)) v H
  mp : TMap w m H.length (TM.lookL L)
  perm : H.Perm L
  heap : TM.Heap (TM.at_ H) H.length
  ok : TM.TS L
abbrev tB (p m : Nat) (v : Value) : Nat → Prop := fun i => i = p ∨ i = m ∨ v.ownBlock = some i
/-- A timer at block p; F are its blocks; L its entries, rising. -/
def TObj (w : World) (p : Nat) (F : Nat → Prop) (L : List En) : Prop := ∃ m v H, TAt w p m v H L ∧ F = tB p m v
theorem turned_foot {w w' : World} {m : Nat} (h : w.mapTurned w' m) : Foot (· = m) w w' := (Foot.refl (· = m) w).grown h.grown fun k hk => by injection hk with hk; exact .inl hk.symm
section
variable {w w' : World} {p m : Nat} {v : Value} {H L : List En} {F : Nat → Prop}
theorem TAt.len (h : TAt w p m v H L) : H.length = L.length := h.perm.length_eq
theorem TAt.mne (h : TAt w p m v H L) : m ≠ p ∧ v.ownBlock ≠ some m := by
  obtain ⟨es, cl, hm⟩ := h.mp.kind
  refine ⟨fun e => ?_, fun e => ?_⟩
  · have := h.hp.obj
    rw [← e, hm] at this; cases this
  · rcases h.hp.row.2 with ⟨h1, _⟩ | ⟨g, cap, cur, rfl, _, hg, _⟩
    · rw [h1] at e; cases e
    · injection e with e
      simp only at e
      rw [e, hm] at hg; cases hg
theorem TAt.off (h : TAt w p m v H L) (hk : ∀ i, i < w.heap.size → tB p m v i → w'.heap[i]? = w.heap[i]?) : TAt w' p m v H L :=
  ⟨h.hp.off fun i hi e => hk i hi (by rcases e with e | e; exact .inl e; exact .inr (.inr e)), h.mp.of_block (hk m h.mp.lt (.inr (.inl rfl))), h.perm, h.heap, h.ok⟩
theorem TObj.off (h : TObj w p F L) (hk : ∀ i, i < w.heap.size → F i → w'.heap[i]? = w.heap[i]?) : TObj w' p F L := by
  obtain ⟨m, v, H, h1, rfl⟩ := h
  exact ⟨m, v, H, h1.off hk, rfl⟩
theorem TObj.keep (h : TObj w p F L) (hk : Below w.heap.size w w') : TObj w' p F L := h.off fun i hi _ => hk.block i hi
theorem TObj.foot {G : Nat → Prop} (h : TObj w p F L) (hk : Foot G w w') (hG : ∀ i, F i → ¬ G i) : TObj w' p F L := h.off fun i hi hf => hk.block i hi (hG i hf)
theorem TObj.lt (h : TObj w p F L) : p < w.heap.size ∧ F p ∧ ∀ i, F i → i < w.heap.size := by
  obtain ⟨m, v, H, h1, rfl⟩ := h
  refine ⟨h1.hp.lt.1, .inl rfl, fun i hi => ?_⟩
  rcases hi with rfl | rfl | hi
  · exact h1.hp.lt.1
  · exact h1.mp.lt
  · exact h1.hp.lt.2 i hi
theorem TObj.ok (h : TObj w p F L) : TM.TS L := by
  obtain ⟨m, v, H, h1, rfl⟩ := h
  exact h1.ok
theorem TAt.tick (h : TAt w p m v H L) : w.cell? ⟨p, 1, none⟩ = some (.map (some m)) := cell_blk (i := 1) h.hp.obj rfl
end
theorem new_t (w : World) : Calls Try.prog 8 #[] w fun e w' => ∃ p F, e = .returned (.pointer (some ⟨p, 0, none⟩)) ∧ TObj w' p F [] ∧ Below w.heap.size w w' ∧ ∀ i, F i → w.heap.size ≤ i := by
  have hmm := @run_makeMap Try.prog
  go_enter Try.func8, Try.ntmps8
  go_wp2
  go_ret
  refine ⟨w.heap.size + 1, tB (w.heap.size + 1) w.heap.size (.slice none 0 0), by simp, ⟨w.heap.size, .slice none 0 0, [], ⟨⟨?_, World.ownsRow_nil _ _ _ _, by simp⟩, ?_, List.Perm.refl _, fun j h1 h2 => by simp at h2, TM.TS.nil⟩, rfl⟩, ?_, ?_⟩
  · have := heap_alloc_new (w.alloc (.map #[] 0)) (.cells #[.slice none 0 0, .map (some w.heap.size)] 59)
    simpa using this
  · refine (TMap.new w).of_block ?_
    exact Below.heap_alloc _ _ _ (by simp)
  · exact ((Below.refl w.heap.size w).alloc (Nat.le_refl _) _).alloc (by simp) _
  · rintro i (rfl | rfl | hi)
    · omega
    · exact Nat.le_refl _
    · cases hi
theorem len_t (p : Nat) (F : Nat → Prop) (L : List En) (w : World) (h : TObj w p F L) : Calls Try.prog 17 #[.pointer (some ⟨p, 0, none⟩)] w fun e w' => e = .returned (.int .i64 (L.length : Nat)) ∧ w = w' := by
  obtain ⟨m, v, H, h, rfl⟩ := h
  have hl := h.mp.len
  rw [h.len] at hl
  have c1 := h.tick
  clear h
  go_enter Try.func17, Try.ntmps17
  go_wp2
  go_ret
  exact ⟨rfl, rfl⟩
theorem look_at {L : List En} (i : Int) : (TM.findL i L = none ∧ TM.lookL L i = none) ∨ ∃ x, TM.findL i L = some x ∧ TM.lookL L i = some x.k ∧ x.i = i := by
  unfold TM.lookL
  cases h : TM.findL i L with
  | none => exact .inl ⟨rfl, rfl⟩
  | some x => exact .inr ⟨x, rfl, rfl, (TM.findL_some h).2⟩
theorem at_t (p : Nat) (F : Nat → Prop) (L : List En) (i : Int) (w : World) (h : TObj w p F L) (hi : (Lit.int .i64 i).wf = true) :
    Calls Try.prog 18 #[.pointer (some ⟨p, 0, none⟩), .int .i64 i] w fun e w' => e = .returned (.tuple #[.int .i64 (TM.atL L i).1, .int .i64 (TM.atL L i).2]) ∧ w = w' := by
  obtain ⟨m, v, H, h, rfl⟩ := h
  have hl := h.mp.look hi
  have c1 := h.tick
  clear h
  unfold TM.atL
  rcases look_at (L := L) i with ⟨e1, e2⟩ | ⟨x, e1, e2, e3⟩
  · rw [e1]
    rw [e2] at hl
    simp only [Option.getD_none, Option.isSome_none] at hl
    clear e1 e2
    go_enter Try.func18, Try.ntmps18
    go_wp2
    go_ret2
    exact ⟨rfl, rfl⟩
  · rw [e1]
    rw [e2] at hl
    simp only [Option.getD_some, Option.isSome_some] at hl
    obtain ⟨xk, xi⟩ := x
    clear e1 e2 e3
    go_enter Try.func18, Try.ntmps18
    go_wp2
    go_ret2
    exact ⟨rfl, rfl⟩
/-- The first of all. -/
theorem first_t (p : Nat) (F : Nat → Prop) (L : List En) (w : World) (h : TObj w p F L) :
    Calls Try.prog 23 #[.pointer (some ⟨p, 0, none⟩)] w fun e w' => e = .returned (.tuple #[enV (L.headD TM.d0), .bool (!L.isEmpty)]) ∧ Below w.heap.size w w' := by
  obtain ⟨m, v, H, h, rfl⟩ := h
  cases hL : L with
  | nil =>
    have hH : H = [] := by have := h.perm; rw [hL] at this; exact this.eq_nil
    have hp := h.hp
    rw [hH] at hp
    exact first_none p _ v w hp
  | cons x l =>
    have h0 := TM.heap_first h.heap (hL ▸ h.perm) (hL ▸ h.ok.asc)
    exact first_some p _ v H x w h.hp h0
theorem next_t (p : Nat) (F : Nat → Prop) (L : List En) (w : World) (h : TObj w p F L) :
    Calls Try.prog 16 #[.pointer (some ⟨p, 0, none⟩)] w fun e w' => e = .returned (.tuple #[.int .i64 (TM.nextL L).1, .bool (TM.nextL L).2]) ∧ Below w.heap.size w w' := by
  have hF := Lib.hid (first_t p F L w h)
  have hpl := h.lt.1
  have e0 : TM.nextL L = ((L.headD TM.d0).k, !L.isEmpty) := by cases L <;> rfl
  rw [e0]
  obtain ⟨x, hx⟩ : ∃ x, x = L.headD TM.d0 := ⟨_, rfl⟩
  obtain ⟨b, hb⟩ : ∃ b, b = !L.isEmpty := ⟨_, rfl⟩
  rw [← hx, ← hb] at hF ⊢
  obtain ⟨xk, xi⟩ := x
  unfold enV at hF
  clear e0 hx hb h
  go_enter Try.func16, Try.ntmps16
  go_wp2_with (go_at_call 23; refine hF.out.mono ?_; rintro e w1 ⟨rfl, hb1⟩)
  go_ret2
  exact ⟨rfl, hb1.alloc hb1.size _⟩
end Go.Proofs.Ytdoaihmeldkahaa
