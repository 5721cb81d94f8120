/- One hold of a row: a slice of one; cut out of a slice of holds. -/
import Derived.Test.YtfbecfikeiecmaaGreatLedOthM
import Derived.Test.YtfbecfikeiecmaaGreatLedSame2
set_option maxRecDepth 100000
set_option linter.unusedVariables false
namespace Go.Proofs.YtfbecfikeiecmaaGreat
open Go.RowKit
theorem run_slice_one {oi : Oper} {ρ : Operand → Value} {W : World} {p q r : Operand} {A A' : Option Addr} {n c k c' : Nat} (ho : oi.op = .slice 55 p (some q) (some r) none) (hp : ρ p = .slice A n c) (hq : ρ q = .int .i64 (k : Nat)) (hr : ρ r = .int .i64 ((k : Int) + 1)) (hk : k + 1 ≤ c) (hA : A' = A.map (·.add (k * 5))) (hc : c' = c - k) :
    (execOp ρ oi).run Tryz.prog W = .ok (.value (.slice A' 1 c')) W := by
  subst hA hc
  have ht : Tryz.prog.underlying 55 = some (.slice (Tryz.prog.elem 55)) := by kernel_rfl
  have he : Tryz.prog.elem 55 = 44 := by kernel_rfl
  have e2 : ((k : Int) + 1).toNat - k = 1 := by omega
  have e3 : ¬ c = k := by omega
  unfold execOp
  simp only [ho, hp, hq, hr, Option.map_none, Option.map_some, Sem.run_bind, run_sliceAt_slice W _ _ _ _ _ ht, run_slice_lh W _ A n c ht .i64 .i64 (k : Nat) ((k : Int) + 1) (by omega) (by omega) (by omega), he, Tryz.sizeOf44, Result.andThen_ok, Sem.run_pure, sliced, Int.toNat_natCast, e2, if_neg e3]
theorem hl_one {w : World} {G : Nat → Prop} {A : Option Addr} {hs : List Hd} {k : Nat} {g : Hd} (h : HL w G A hs) (hx : hs[k]? = some g) : HL w G (A.map (·.add (k * 5))) [g] := by
  obtain ⟨L, e1, l2, l3, l4, l5⟩ := h
  obtain ⟨x, hL⟩ : ∃ x, L[k]? = some x := by
    rw [← e1, List.getElem?_map] at hx
    cases e : L[k]? with
    | none => rw [e] at hx; simp at hx
    | some x => exact ⟨x, rfl⟩
  have eg : x.h = g := by rw [← e1, List.getElem?_map, hL] at hx; simpa using hx
  obtain ⟨b, off, rfl, hb, hc⟩ := l2.at_ hL
  refine ⟨[x], by simp [eg], ?_, fun y hy => ?_, fun b2 o2 e => ?_, fun y hy => ?_⟩
  · rw [Option.map_some, Addr.add_lit]
    refine .inr ⟨b, off + k * 5, rfl, hb, fun i y hi => ?_⟩
    match i, hi with
    | 0, hi => simp at hi; subst hi; rw [Nat.zero_mul, Nat.add_zero]; exact hc k x hL
    | i + 1, hi => simp at hi
  · simp at hy; subst hy; exact l3 y (List.mem_of_getElem? hL)
  · rw [Option.map_some, Addr.add_lit] at e
    injection e with e; injection e with e2 _
    exact e2 ▸ l4 b off rfl
  · simp at hy; subst hy; exact l5 y (List.mem_of_getElem? hL)
set_option maxHeartbeats 1000000 in
/-- One hold held against another. -/
theorem same_one {w : World} {G G' : Nat → Prop} {A A' : Option Addr} {hs hs' : List Hd} {k k' : Nat} {g g' : Hd} (c c' : Nat) (h : HL w G A hs) (h' : HL w G' A' hs') (hx : hs[k]? = some g) (hx' : hs'[k']? = some g') (hg : g.sl.length ≤ 16) (hg' : g'.sl.length ≤ 16) {R : Bool} (hR : R = true ↔ g = g') :
    Calls Tryz.prog 22 #[.slice (A.map (·.add (k * 5))) 1 c, .slice (A'.map (·.add (k' * 5))) 1 c'] w fun e w' => e = .returned (.bool R) ∧ Below w.heap.size w w' := by
  have H := same_holds2 _ _ c c' G G' [g] [g'] w (hl_one h hx) (hl_one h' hx') (by simp) (fun x hx => by simp at hx; rw [hx]; exact hg) (fun x hx => by simp at hx; rw [hx]; exact hg')
  refine H.mono ?_
  rintro e w' ⟨R', rfl, h1, h2⟩
  have : R' = R := by
    have e1 : ([g] = [g']) ↔ g = g' := by simp
    cases R <;> cases R' <;> simp_all
  exact ⟨by rw [this], h2⟩
theorem Uns.apart {w w' : World} {A : Option Addr} {l : List Un} {G : Nat → Prop} (h : Uns w w.heap.size A l) (hk : Foot G w w') (ho : Off A G) : Uns w' w'.heap.size A l := Els.foot2 h hk ho
end Go.Proofs.YtfbecfikeiecmaaGreat
