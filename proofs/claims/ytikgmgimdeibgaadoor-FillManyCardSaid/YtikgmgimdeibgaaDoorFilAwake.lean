/- The document's example for layer 13, which each law asks first; what few asks; a hold that comes in. -/
import Derived.Test.YtikgmgimdeibgaaDoorFilAft
import Derived.Test.YtikgmgimdeibgaaDoorProT
set_option linter.unusedVariables false
set_option maxRecDepth 100000
namespace Go.Proofs.YtikgmgimdeibgaaDoor
open Go.ChangeShapes Go.WideShapes Go.ChangeAt Go.RowKit
open PR
section
variable {H : Type} {enc : TypeId × Value → H} {w : World} {held : Bool} {r : Reach} {b0 : Nat} {v : Value} {d : DataW H} {p : List MemPlace}
theorem ho_of (hv : Value.okWide Tryd.prog w r b0 32 v) (h : DataW.Trod enc Tryd.prog w 0 (fun _ => true) held 32 v d p) : ∃ x : Ho, v = hoV x ∧ Fes w w.heap.size x.A x.sl ∧ HoOk x := by
  obtain ⟨cs, rfl, hl, hh⟩ := arg_struct (sh := hoSh) Tryd.underlying32 (by kernel_rfl) hv h
  have hl5 : cs.length = 5 := by rw [hl]; kernel_rfl
  obtain ⟨x, rfl, h1, h2⟩ := ho_lift hl5 hh
  exact ⟨x, rfl, h1, h2⟩
end
/-- What few asks. -/
def few13 (lv : List Fe) (g c : Int) (l : List Ho) (H : Ho) : Bool := fewH lv g c l && decide (H.sl.length ≤ 20)
set_option maxHeartbeats 4000000 in
theorem few13_any (A1 : Option Addr) (p1 : Nat) (lv : List Fe) (g c : Int) (A2 : Option Addr) (p2 : Nat) (l : List Ho) (H : Ho) (w : World) (h : Fes w w.heap.size A1 lv) (hp1 : lv.length ≤ p1) (hd : Hos w w.heap.size A2 l) (hs : ∀ x ∈ l, x.sl.length ≤ maxLen) :
    Calls Tryd.prog 9 #[.slice A1 lv.length p1, .agg #[.int .i64 g, .int .i64 c], .slice A2 l.length p2, hoV H] w fun e w' => e = .returned (.bool (few13 lv g c l H)) ∧ Below w.heap.size w w' := by
  obtain ⟨n, hn⟩ : ∃ n, n = lv.length := ⟨_, rfl⟩
  obtain ⟨m, hm⟩ : ∃ m, m = l.length := ⟨_, rfl⟩
  obtain ⟨k, hk⟩ : ∃ k, k = H.sl.length := ⟨_, rfl⟩
  obtain ⟨fw, hfw⟩ : ∃ b, b = fewH lv g c l := ⟨_, rfl⟩
  have hF := Lib.hid (fun W (hW : Below w.heap.size w W) => show Calls Tryd.prog 15 #[.slice A1 n p1, .agg #[.int .i64 g, .int .i64 c], .slice A2 m p2] W (fun e w' => e = .returned (.bool fw) ∧ Below W.heap.size W w') from by
    rw [hn, hm, hfw]
    exact few12_any A1 p1 lv g c A2 p2 l W (h.keep hW hW.size) hp1 (hd.keep hW hW.size) hs)
  unfold few13
  rw [← hfw, ← hk]
  unfold hoV hoA
  rw [← hn, ← hm, ← hk]
  clear hn hm hk hfw h hp1 hd hs
  have hB := Lib.hid (((Below.refl w.heap.size w).alloc (Nat.le_refl _) (.cells #[.int .i64 g, .int .i64 c] 24)).alloc (by simp) (.cells #[.int .i64 H.id, .int .i64 H.q, .int .i64 H.u, .bool H.r, .slice H.A k H.c] 32))
  obtain ⟨V, hV⟩ : ∃ V, V = (w.alloc (.cells #[.int .i64 g, .int .i64 c] 24)).alloc (.cells #[.int .i64 H.id, .int .i64 H.q, .int .i64 H.u, .bool H.r, .slice H.A k H.c] 32) := ⟨_, rfl⟩
  have bh : Hid (V.heap[w.heap.size + 1]? = some (.cells #[.int .i64 H.id, .int .i64 H.q, .int .i64 H.u, .bool H.r, .slice H.A k H.c] 32 (0, 0))) := Lib.hid (by
    have h9 := heap_alloc_new (w.alloc (.cells #[.int .i64 g, .int .i64 c] 24)) (.cells #[.int .i64 H.id, .int .i64 H.q, .int .i64 H.u, .bool H.r, .slice H.A k H.c] 32)
    rw [World.size_alloc] at h9
    rw [hV]; exact h9)
  rw [← hV] at hB
  have HV := Lib.hid hV
  clear hV
  cases fw
  · go_enter Tryd.func9, Tryd.ntmps9
    go_wp2_with fail
    rw [← HV.out]
    refine (hF.out V hB.out).mono ?_
    rintro e w1 ⟨rfl, hb⟩
    have HX := Lib.hid (below_step hB.out hb)
    clear hb
    go_wp2
    go_ret
    exact ⟨by first | rfl | simp, HX.out⟩
  · by_cases hk20 : k ≤ 20
    · have t1 : decide (k ≤ 20) = true := decide_eq_true hk20
      have t2 : decide ((k : Int) ≤ 20) = true := decide_eq_true (by omega)
      go_enter Tryd.func9, Tryd.ntmps9
      go_wp2_with fail
      rw [← HV.out]
      refine (hF.out V hB.out).mono ?_
      rintro e w1 ⟨rfl, hb⟩
      have HX := Lib.hid (below_step hB.out hb)
      have h4 : w1.cell? ⟨w.heap.size + 1, 4, none⟩ = some (.slice H.A k H.c) := cell_blk (i := 4) ((hb.block _ (blk_lt bh.out)).trans bh.out) rfl
      clear hb
      go_wp2
      go_ret
      exact ⟨by first | rfl | simp [t1] | (simp; omega), HX.out⟩
    · have t1 : decide (k ≤ 20) = false := decide_eq_false hk20
      have t2 : decide ((k : Int) ≤ 20) = false := decide_eq_false (by omega)
      go_enter Tryd.func9, Tryd.ntmps9
      go_wp2_with fail
      rw [← HV.out]
      refine (hF.out V hB.out).mono ?_
      rintro e w1 ⟨rfl, hb⟩
      have HX := Lib.hid (below_step hB.out hb)
      have h4 : w1.cell? ⟨w.heap.size + 1, 4, none⟩ = some (.slice H.A k H.c) := cell_blk (i := 4) ((hb.block _ (blk_lt bh.out)).trans bh.out) rfl
      clear hb
      go_wp2
      go_ret
      exact ⟨by first | rfl | simp [t1] | (simp; omega), HX.out⟩
def fxX : Wa := ⟨1, 3, ⟨1, 0, 3, 3⟩⟩
def fxV : List Fe := [⟨0, 0, 3, 0⟩]
def fxE (a : Nat) : Ho := ⟨0, 0, 7, false, some ⟨a, 0, none⟩, 1, [⟨0, 0, 12, 0⟩]⟩
def fxH (u : Int) (m b : Nat) : Ho := ⟨0, 0, u, false, some ⟨b, 0, none⟩, 1, [⟨0, 0, m, 0⟩]⟩
theorem fxV_view : View fxV := ⟨fun f hf => by
  simp [fxV] at hf
  subst hf
  exact ⟨⟨by decide, by decide, by decide, by decide⟩, by decide, by decide⟩, by simp [spotsL, fxV]⟩
theorem fx_cand {a m b : Nat} {u x : Int} (h : Cand 2 ([fxE a] ++ [fxH u m b]) x) : x = 2 ∨ x = 7 ∨ x = u := by
  rcases h with h | ⟨⟨y, hy, e⟩, _⟩
  · exact .inl h
  · simp at hy
    rcases hy with rfl | rfl
    · exact .inr (.inl e.symm)
    · exact .inr (.inr e.symm)
theorem fx1 (a b : Nat) : Aft 2 fxV 9 0 [fxE a] fxX (fxH 9 1 b) 7 0 :=
  .inr ⟨by kernel_rfl, .inr ⟨⟨by decide, by decide, by decide⟩, .inr ⟨by kernel_rfl, rfl, .inr ⟨.inr ⟨⟨fxE a, by simp, rfl⟩, by decide, by decide⟩, by kernel_rfl, fun x hx hp => by
    rcases fx_cand hx with rfl | rfl | rfl
    · rw [show at_ (turnL lessC fxV (fxH 9 1 b).sl).2 (9 - hg (fxH 9 1 b) fxX.q) (0 - hc (fxH 9 1 b) fxX.q) ([fxE a] ++ [fxH 9 1 b]) fxX 2 = false by kernel_rfl] at hp; cases hp
    · decide
    · decide⟩⟩⟩⟩
theorem fx2 (a b : Nat) : Aft 2 fxV 9 0 [fxE a] fxX (fxH 9 3 b) 9 0 :=
  .inr ⟨by kernel_rfl, .inr ⟨⟨by decide, by decide, by decide⟩, .inr ⟨by kernel_rfl, rfl, .inr ⟨.inr ⟨⟨fxH 9 3 b, by simp, rfl⟩, by decide, by decide⟩, by kernel_rfl, fun x hx hp => by
    rcases fx_cand hx with rfl | rfl | rfl
    · rw [show at_ (turnL lessC fxV (fxH 9 3 b).sl).2 (9 - hg (fxH 9 3 b) fxX.q) (0 - hc (fxH 9 3 b) fxX.q) ([fxE a] ++ [fxH 9 3 b]) fxX 2 = false by kernel_rfl] at hp; cases hp
    · rw [show at_ (turnL lessC fxV (fxH 9 3 b).sl).2 (9 - hg (fxH 9 3 b) fxX.q) (0 - hc (fxH 9 3 b) fxX.q) ([fxE a] ++ [fxH 9 3 b]) fxX 7 = false by kernel_rfl] at hp; cases hp
    · decide⟩⟩⟩⟩
theorem fx3 (a b : Nat) : Aft 2 fxV 9 0 [fxE a] fxX (fxH 7 3 b) 7 0 :=
  .inr ⟨by kernel_rfl, .inr ⟨⟨by decide, by decide, by decide⟩, .inr ⟨by kernel_rfl, rfl, .inr ⟨.inr ⟨⟨fxE a, by simp, rfl⟩, by decide, by decide⟩, by kernel_rfl, fun x hx hp => by
    rcases fx_cand hx with rfl | rfl | rfl
    · rw [show at_ (turnL lessC fxV (fxH 7 3 b).sl).2 (9 - hg (fxH 7 3 b) fxX.q) (0 - hc (fxH 7 3 b) fxX.q) ([fxE a] ++ [fxH 7 3 b]) fxX 2 = false by kernel_rfl] at hp; cases hp
    · decide
    · decide⟩⟩⟩⟩
theorem fx_safe (u : Int) (mk : Nat) (T : Int) (B : Bool) (hmk : mk < 18446744073709551616) (hu : (Lit.int .i64 u).wf = true) (hT : ∀ a b, Aft 2 fxV 9 0 [fxE a] fxX (fxH u mk b) T 0) (hB : safeB 2 7 T 0 = B) (w : World) (hTab : Tab w) (v h s x : Nat) (bv : w.heap[v]? = some (.cells #[.int .i64 0, .int .i64 0, .int .u64 3, .int .i64 0] 58 (0, 0)))
    (bh : w.heap[h]? = some (.cells #[.int .i64 0, .int .i64 0, .int .i64 7, .bool false, .slice (some ⟨s, 0, none⟩) 1 1] 32 (0, 0))) (bs : w.heap[s]? = some (.cells #[.int .i64 0, .int .i64 0, .int .u64 12, .int .i64 0] 57 (0, 0))) (bx : w.heap[x]? = some (.cells #[.int .i64 0, .int .i64 0, .int .u64 (mk : Nat), .int .i64 0] 57 (0, 0))) :
    Calls Tryd.prog 10 #[.int .i64 2, .slice (some ⟨v, 0, none⟩) 1 1, .agg #[.int .i64 9, .int .i64 0], .slice (some ⟨h, 0, none⟩) 1 1, .agg #[.int .i64 1, .int .i64 3, .int .i64 1, .int .i64 0, .int .i64 3, .int .i64 3], .int .i64 7, .agg #[.int .i64 0, .int .i64 0, .int .i64 u, .bool false, .slice (some ⟨x, 0, none⟩) 1 1]] w fun e w' => e = .returned (.tuple #[.bool B, .int .i64 0]) ∧ Below w.heap.size w w' := by
  have hv : Fes w w.heap.size (some ⟨v, 0, none⟩) fxV := fe_blk (cs := fxV.flatMap feC) bv (fun _ _ h => h) (blk_lt bv)
  have hs : Fes w w.heap.size (some ⟨s, 0, none⟩) [⟨0, 0, 12, 0⟩] := fe_blk (cs := [(⟨0, 0, 12, 0⟩ : Fe)].flatMap feC) bs (fun _ _ h => h) (blk_lt bs)
  have hx : Fes w w.heap.size (some ⟨x, 0, none⟩) [⟨0, 0, mk, 0⟩] := fe_blk (cs := [(⟨0, 0, mk, 0⟩ : Fe)].flatMap feC) bx (fun _ _ h => h) (blk_lt bx)
  have hd : HosIn w w.heap.size (some ⟨h, 0, none⟩) [fxE s] := by
    refine ⟨.inr ⟨h, 0, rfl, blk_lt bh, fun i x hx => ?_⟩, fun x hx => ?_⟩
    · match i, hx with
      | 0, hx =>
        simp at hx; subst hx
        intro r u hr
        rw [Nat.zero_mul, Nat.add_zero, Nat.zero_add]
        exact cell_blk bh (by simpa [hoC, fxE] using hr)
    · simp at hx; subst hx; exact hs
  have hok : HoOk (fxE s) := by
    refine ⟨by kernel_rfl, by kernel_rfl, Nat.le_refl 1, (by unfold maxLen; show 1 ≤ _; omega), fun f hf => ?_⟩
    simp [fxE] at hf; subst hf
    exact ⟨by decide, by decide, by decide, by decide⟩
  have hokH : HoOk (fxH u mk x) := by
    refine ⟨by kernel_rfl, hu, Nat.le_refl 1, (by unfold maxLen; show 1 ≤ _; omega), fun f hf => ?_⟩
    simp [fxH] at hf; subst hf
    exact ⟨by kernel_rfl, by kernel_rfl, hmk, by kernel_rfl⟩
  have h9 := psafe_any 2 (some ⟨v, 0, none⟩) 1 fxV 9 0 (some ⟨h, 0, none⟩) 1 [fxE s] fxX 7 (fxH u mk x) w hv fxV_view (by decide) hd (fun x hx => by simp at hx; subst hx; exact hok) (show 1 ≤ 30 by omega) (fun x hx => by simp at hx; subst hx; show 1 ≤ 1000; omega) ⟨by kernel_rfl, by kernel_rfl, ⟨by kernel_rfl, by kernel_rfl, by kernel_rfl, by kernel_rfl⟩⟩ hx hokH (show 1 ≤ 1000 by omega) (by decide) (by decide) hTab
  refine h9.mono ?_
  rintro e w' ⟨T', E', rfl, he, hb⟩
  obtain ⟨rfl, rfl⟩ := he.same (hT s x)
  exact ⟨by rw [hB], hb⟩
set_option maxHeartbeats 4000000 in
theorem awake13 (w : World) (hT : Tab w) : Calls Tryd.prog 8 #[] w fun e w' => e = .returned (.bool true) ∧ Below w.heap.size w w' := by
  have HT := Lib.hid hT
  clear hT
  obtain ⟨B0, hB0⟩ : ∃ B, B = w.heap.size := ⟨_, rfl⟩
  rw [← hB0]
  have HB0 := Lib.hid hB0
  clear hB0
  have HBel := Lib.hid (Below.refl w.heap.size w)
  have hlow : w.heap.size ≤ w.heap.size := Nat.le_refl _
  go_enter Tryd.func8, Tryd.ntmps8
  go_wp2_with fail
  obtain ⟨V1, hV1⟩ : ∃ W, W = (((((w.alloc (.cells #[.int .i64 1, .int .i64 3, .int .i64 1, .int .i64 0, .int .i64 3, .int .i64 3] 29)).alloc (.cells #[.int .i64 0, .int .i64 0, .int .u64 12, .int .i64 0] 57)).alloc (.cells #[.int .i64 0, .int .i64 0, .int .i64 7, .bool false, .slice (some ⟨w.heap.size + 1, 0, none⟩) 1 1] 32)).alloc (.cells #[.int .i64 0, .int .i64 0, .int .u64 3, .int .i64 0] 58)).alloc (.cells #[.int .i64 9, .int .i64 0] 24)).alloc (.cells #[.int .i64 0, .int .i64 0, .int .u64 1, .int .i64 0] 57) := ⟨_, rfl⟩
  rw [← hV1]
  have hzV1 : V1.heap.size = w.heap.size + 1 + 1 + 1 + 1 + 1 + 1 := by rw [hV1]; simp
  replace HBel : Hid (Below w.heap.size w V1) := Lib.hid (by rw [hV1]; exact ((((((HBel.out.alloc (hlow) _).alloc (by simp <;> omega) _).alloc (by simp <;> omega) _).alloc (by simp <;> omega) _).alloc (by simp <;> omega) _).alloc (by simp <;> omega) _))
  have B_b : Hid (V1.heap[w.heap.size]? = some (.cells #[.int .i64 1, .int .i64 3, .int .i64 1, .int .i64 0, .int .i64 3, .int .i64 3] 29 (0, 0))) := Lib.hid (by
    have h9 := heap_alloc_new (w) (.cells #[.int .i64 1, .int .i64 3, .int .i64 1, .int .i64 0, .int .i64 3, .int .i64 3] 29)
    rw [hV1]; exact ((Below.heap_alloc _ _ _ (by simp <;> omega)).trans ((Below.heap_alloc _ _ _ (by simp <;> omega)).trans ((Below.heap_alloc _ _ _ (by simp <;> omega)).trans ((Below.heap_alloc _ _ _ (by simp <;> omega)).trans ((Below.heap_alloc _ _ _ (by simp <;> omega)).trans h9))))))
  have B_s : Hid (V1.heap[w.heap.size + 1]? = some (.cells #[.int .i64 0, .int .i64 0, .int .u64 12, .int .i64 0] 57 (0, 0))) := Lib.hid (by
    have h9 := heap_alloc_new (w.alloc (.cells #[.int .i64 1, .int .i64 3, .int .i64 1, .int .i64 0, .int .i64 3, .int .i64 3] 29)) (.cells #[.int .i64 0, .int .i64 0, .int .u64 12, .int .i64 0] 57)
    rw [World.size_alloc] at h9
    rw [hV1]; exact ((Below.heap_alloc _ _ _ (by simp <;> omega)).trans ((Below.heap_alloc _ _ _ (by simp <;> omega)).trans ((Below.heap_alloc _ _ _ (by simp <;> omega)).trans ((Below.heap_alloc _ _ _ (by simp <;> omega)).trans h9)))))
  have B_h : Hid (V1.heap[w.heap.size + 1 + 1]? = some (.cells #[.int .i64 0, .int .i64 0, .int .i64 7, .bool false, .slice (some ⟨w.heap.size + 1, 0, none⟩) 1 1] 32 (0, 0))) := Lib.hid (by
    have h9 := heap_alloc_new ((w.alloc (.cells #[.int .i64 1, .int .i64 3, .int .i64 1, .int .i64 0, .int .i64 3, .int .i64 3] 29)).alloc (.cells #[.int .i64 0, .int .i64 0, .int .u64 12, .int .i64 0] 57)) (.cells #[.int .i64 0, .int .i64 0, .int .i64 7, .bool false, .slice (some ⟨w.heap.size + 1, 0, none⟩) 1 1] 32)
    rw [World.size_alloc, World.size_alloc] at h9
    rw [hV1]; exact ((Below.heap_alloc _ _ _ (by simp <;> omega)).trans ((Below.heap_alloc _ _ _ (by simp <;> omega)).trans ((Below.heap_alloc _ _ _ (by simp <;> omega)).trans h9))))
  have B_v : Hid (V1.heap[w.heap.size + 1 + 1 + 1]? = some (.cells #[.int .i64 0, .int .i64 0, .int .u64 3, .int .i64 0] 58 (0, 0))) := Lib.hid (by
    have h9 := heap_alloc_new (((w.alloc (.cells #[.int .i64 1, .int .i64 3, .int .i64 1, .int .i64 0, .int .i64 3, .int .i64 3] 29)).alloc (.cells #[.int .i64 0, .int .i64 0, .int .u64 12, .int .i64 0] 57)).alloc (.cells #[.int .i64 0, .int .i64 0, .int .i64 7, .bool false, .slice (some ⟨w.heap.size + 1, 0, none⟩) 1 1] 32)) (.cells #[.int .i64 0, .int .i64 0, .int .u64 3, .int .i64 0] 58)
    rw [World.size_alloc, World.size_alloc, World.size_alloc] at h9
    rw [hV1]; exact ((Below.heap_alloc _ _ _ (by simp <;> omega)).trans ((Below.heap_alloc _ _ _ (by simp <;> omega)).trans h9)))
  have B_f : Hid (V1.heap[w.heap.size + 1 + 1 + 1 + 1]? = some (.cells #[.int .i64 9, .int .i64 0] 24 (0, 0))) := Lib.hid (by
    have h9 := heap_alloc_new ((((w.alloc (.cells #[.int .i64 1, .int .i64 3, .int .i64 1, .int .i64 0, .int .i64 3, .int .i64 3] 29)).alloc (.cells #[.int .i64 0, .int .i64 0, .int .u64 12, .int .i64 0] 57)).alloc (.cells #[.int .i64 0, .int .i64 0, .int .i64 7, .bool false, .slice (some ⟨w.heap.size + 1, 0, none⟩) 1 1] 32)).alloc (.cells #[.int .i64 0, .int .i64 0, .int .u64 3, .int .i64 0] 58)) (.cells #[.int .i64 9, .int .i64 0] 24)
    rw [World.size_alloc, World.size_alloc, World.size_alloc, World.size_alloc] at h9
    rw [hV1]; exact ((Below.heap_alloc _ _ _ (by simp <;> omega)).trans h9))
  have B_x : Hid (V1.heap[w.heap.size + 1 + 1 + 1 + 1 + 1]? = some (.cells #[.int .i64 0, .int .i64 0, .int .u64 1, .int .i64 0] 57 (0, 0))) := Lib.hid (by
    have h9 := heap_alloc_new (((((w.alloc (.cells #[.int .i64 1, .int .i64 3, .int .i64 1, .int .i64 0, .int .i64 3, .int .i64 3] 29)).alloc (.cells #[.int .i64 0, .int .i64 0, .int .u64 12, .int .i64 0] 57)).alloc (.cells #[.int .i64 0, .int .i64 0, .int .i64 7, .bool false, .slice (some ⟨w.heap.size + 1, 0, none⟩) 1 1] 32)).alloc (.cells #[.int .i64 0, .int .i64 0, .int .u64 3, .int .i64 0] 58)).alloc (.cells #[.int .i64 9, .int .i64 0] 24)) (.cells #[.int .i64 0, .int .i64 0, .int .u64 1, .int .i64 0] 57)
    rw [World.size_alloc, World.size_alloc, World.size_alloc, World.size_alloc, World.size_alloc] at h9
    rw [hV1]; exact h9)
  obtain ⟨N_b, hN_b⟩ : ∃ N, N = w.heap.size := ⟨_, rfl⟩
  obtain ⟨N_s, hN_s⟩ : ∃ N, N = w.heap.size + 1 := ⟨_, rfl⟩
  obtain ⟨N_h, hN_h⟩ : ∃ N, N = w.heap.size + 1 + 1 := ⟨_, rfl⟩
  obtain ⟨N_v, hN_v⟩ : ∃ N, N = w.heap.size + 1 + 1 + 1 := ⟨_, rfl⟩
  obtain ⟨N_f, hN_f⟩ : ∃ N, N = w.heap.size + 1 + 1 + 1 + 1 := ⟨_, rfl⟩
  obtain ⟨N_x, hN_x⟩ : ∃ N, N = w.heap.size + 1 + 1 + 1 + 1 + 1 := ⟨_, rfl⟩
  (try rw [← hN_x])
  rw [← hN_x] at B_x
  (try rw [← hN_f])
  rw [← hN_f] at B_f
  (try rw [← hN_v])
  rw [← hN_v] at B_v
  (try rw [← hN_h])
  rw [← hN_h] at B_h
  (try rw [← hN_s])
  rw [← hN_s] at B_s
  (try rw [← hN_b])
  rw [← hN_b] at B_b
  have l_b : N_b < V1.heap.size := by omega
  have l_s : N_s < V1.heap.size := by omega
  have l_h : N_h < V1.heap.size := by omega
  have l_v : N_v < V1.heap.size := by omega
  have l_f : N_f < V1.heap.size := by omega
  have l_x : N_x < V1.heap.size := by omega
  have g_b : w.heap.size ≤ N_b := by omega
  have g_s : w.heap.size ≤ N_s := by omega
  have g_h : w.heap.size ≤ N_h := by omega
  have g_v : w.heap.size ≤ N_v := by omega
  have g_f : w.heap.size ≤ N_f := by omega
  have g_x : w.heap.size ≤ N_x := by omega
  have d_b_s : N_b < N_s := by omega
  have d_s_h : N_s < N_h := by omega
  have d_h_v : N_h < N_v := by omega
  have d_v_f : N_v < N_f := by omega
  have d_f_x : N_f < N_x := by omega
  replace hlow : w.heap.size ≤ V1.heap.size := by omega
  rw [← hN_s] at B_h
  clear hV1 hzV1 hN_b hN_s hN_h hN_v hN_f hN_x
  refine (fx_safe 9 1 7 true (by decide) (by decide) fx1 (by decide) V1 (HT.out.below HBel.out HT.out.size) N_v N_h N_s N_x B_v.out B_h.out B_s.out B_x.out).mono ?_
  rintro e U2 ⟨rfl, hb9⟩
  have hs9 := hb9.size
  replace HBel := Lib.hid (HBel.out.trans (hb9.mono hlow))
  replace B_b : Hid (U2.heap[N_b]? = some (.cells #[.int .i64 1, .int .i64 3, .int .i64 1, .int .i64 0, .int .i64 3, .int .i64 3] 29 (0, 0))) := Lib.hid ((hb9.block _ l_b).trans B_b.out)
  replace B_s : Hid (U2.heap[N_s]? = some (.cells #[.int .i64 0, .int .i64 0, .int .u64 12, .int .i64 0] 57 (0, 0))) := Lib.hid ((hb9.block _ l_s).trans B_s.out)
  replace B_h : Hid (U2.heap[N_h]? = some (.cells #[.int .i64 0, .int .i64 0, .int .i64 7, .bool false, .slice (some ⟨N_s, 0, none⟩) 1 1] 32 (0, 0))) := Lib.hid ((hb9.block _ l_h).trans B_h.out)
  replace B_v : Hid (U2.heap[N_v]? = some (.cells #[.int .i64 0, .int .i64 0, .int .u64 3, .int .i64 0] 58 (0, 0))) := Lib.hid ((hb9.block _ l_v).trans B_v.out)
  replace B_f : Hid (U2.heap[N_f]? = some (.cells #[.int .i64 9, .int .i64 0] 24 (0, 0))) := Lib.hid ((hb9.block _ l_f).trans B_f.out)
  replace B_x : Hid (U2.heap[N_x]? = some (.cells #[.int .i64 0, .int .i64 0, .int .u64 1, .int .i64 0] 57 (0, 0))) := Lib.hid ((hb9.block _ l_x).trans B_x.out)
  replace l_b : N_b < U2.heap.size := by omega
  replace l_s : N_s < U2.heap.size := by omega
  replace l_h : N_h < U2.heap.size := by omega
  replace l_v : N_v < U2.heap.size := by omega
  replace l_f : N_f < U2.heap.size := by omega
  replace l_x : N_x < U2.heap.size := by omega
  replace hlow : w.heap.size ≤ U2.heap.size := by omega
  clear hb9 hs9
  have f0 : U2.cell? ⟨N_f, 0, none⟩ = some (.int .i64 9) := cell_blk (i := 0) B_f.out rfl
  have f1 : U2.cell? ⟨N_f, 1, none⟩ = some (.int .i64 0) := cell_blk (i := 1) B_f.out rfl
  have b0 : U2.cell? ⟨N_b, 0, none⟩ = some (.int .i64 1) := cell_blk (i := 0) B_b.out rfl
  have b1 : U2.cell? ⟨N_b, 1, none⟩ = some (.int .i64 3) := cell_blk (i := 1) B_b.out rfl
  have b2 : U2.cell? ⟨N_b, 2, none⟩ = some (.int .i64 1) := cell_blk (i := 2) B_b.out rfl
  have b3 : U2.cell? ⟨N_b, 3, none⟩ = some (.int .i64 0) := cell_blk (i := 3) B_b.out rfl
  have b4 : U2.cell? ⟨N_b, 4, none⟩ = some (.int .i64 3) := cell_blk (i := 4) B_b.out rfl
  have b5 : U2.cell? ⟨N_b, 5, none⟩ = some (.int .i64 3) := cell_blk (i := 5) B_b.out rfl
  go_wp2_with fail
  clear f0 f1 b0 b1 b2 b3 b4 b5
  obtain ⟨V3, hV3⟩ : ∃ W, W = U2.alloc (.cells #[.int .i64 0, .int .i64 0, .int .u64 3, .int .i64 0] 57) := ⟨_, rfl⟩
  rw [← hV3]
  have hzV3 : V3.heap.size = U2.heap.size + 1 := by rw [hV3]; simp
  replace HBel : Hid (Below w.heap.size w V3) := Lib.hid (by rw [hV3]; exact (HBel.out.alloc (hlow) _))
  replace B_b : Hid (V3.heap[N_b]? = some (.cells #[.int .i64 1, .int .i64 3, .int .i64 1, .int .i64 0, .int .i64 3, .int .i64 3] 29 (0, 0))) := Lib.hid (by rw [hV3]; exact ((Below.heap_alloc _ _ _ (by first | omega | (simp <;> omega))).trans B_b.out))
  replace B_s : Hid (V3.heap[N_s]? = some (.cells #[.int .i64 0, .int .i64 0, .int .u64 12, .int .i64 0] 57 (0, 0))) := Lib.hid (by rw [hV3]; exact ((Below.heap_alloc _ _ _ (by first | omega | (simp <;> omega))).trans B_s.out))
  replace B_h : Hid (V3.heap[N_h]? = some (.cells #[.int .i64 0, .int .i64 0, .int .i64 7, .bool false, .slice (some ⟨N_s, 0, none⟩) 1 1] 32 (0, 0))) := Lib.hid (by rw [hV3]; exact ((Below.heap_alloc _ _ _ (by first | omega | (simp <;> omega))).trans B_h.out))
  replace B_v : Hid (V3.heap[N_v]? = some (.cells #[.int .i64 0, .int .i64 0, .int .u64 3, .int .i64 0] 58 (0, 0))) := Lib.hid (by rw [hV3]; exact ((Below.heap_alloc _ _ _ (by first | omega | (simp <;> omega))).trans B_v.out))
  replace B_f : Hid (V3.heap[N_f]? = some (.cells #[.int .i64 9, .int .i64 0] 24 (0, 0))) := Lib.hid (by rw [hV3]; exact ((Below.heap_alloc _ _ _ (by first | omega | (simp <;> omega))).trans B_f.out))
  replace B_x : Hid (V3.heap[N_x]? = some (.cells #[.int .i64 0, .int .i64 0, .int .u64 1, .int .i64 0] 57 (0, 0))) := Lib.hid (by rw [hV3]; exact ((Below.heap_alloc _ _ _ (by first | omega | (simp <;> omega))).trans B_x.out))
  have B_y : Hid (V3.heap[U2.heap.size]? = some (.cells #[.int .i64 0, .int .i64 0, .int .u64 3, .int .i64 0] 57 (0, 0))) := Lib.hid (by
    have h9 := heap_alloc_new (U2) (.cells #[.int .i64 0, .int .i64 0, .int .u64 3, .int .i64 0] 57)
    rw [hV3]; exact h9)
  obtain ⟨N_y, hN_y⟩ : ∃ N, N = U2.heap.size := ⟨_, rfl⟩
  (try rw [← hN_y])
  rw [← hN_y] at B_y
  have d_b_y : N_b < N_y := by omega
  have d_s_y : N_s < N_y := by omega
  have d_h_y : N_h < N_y := by omega
  have d_v_y : N_v < N_y := by omega
  have d_f_y : N_f < N_y := by omega
  have d_x_y : N_x < N_y := by omega
  replace l_b : N_b < V3.heap.size := by omega
  replace l_s : N_s < V3.heap.size := by omega
  replace l_h : N_h < V3.heap.size := by omega
  replace l_v : N_v < V3.heap.size := by omega
  replace l_f : N_f < V3.heap.size := by omega
  replace l_x : N_x < V3.heap.size := by omega
  have l_y : N_y < V3.heap.size := by omega
  have g_y : w.heap.size ≤ N_y := by omega
  replace hlow : w.heap.size ≤ V3.heap.size := by omega
  clear hV3 hzV3 hN_y
  refine (fx_safe 9 3 9 false (by decide) (by decide) fx2 (by decide) V3 (HT.out.below HBel.out HT.out.size) N_v N_h N_s N_y B_v.out B_h.out B_s.out B_y.out).mono ?_
  rintro e U4 ⟨rfl, hb9⟩
  have hs9 := hb9.size
  replace HBel := Lib.hid (HBel.out.trans (hb9.mono hlow))
  replace B_b : Hid (U4.heap[N_b]? = some (.cells #[.int .i64 1, .int .i64 3, .int .i64 1, .int .i64 0, .int .i64 3, .int .i64 3] 29 (0, 0))) := Lib.hid ((hb9.block _ l_b).trans B_b.out)
  replace B_s : Hid (U4.heap[N_s]? = some (.cells #[.int .i64 0, .int .i64 0, .int .u64 12, .int .i64 0] 57 (0, 0))) := Lib.hid ((hb9.block _ l_s).trans B_s.out)
  replace B_h : Hid (U4.heap[N_h]? = some (.cells #[.int .i64 0, .int .i64 0, .int .i64 7, .bool false, .slice (some ⟨N_s, 0, none⟩) 1 1] 32 (0, 0))) := Lib.hid ((hb9.block _ l_h).trans B_h.out)
  replace B_v : Hid (U4.heap[N_v]? = some (.cells #[.int .i64 0, .int .i64 0, .int .u64 3, .int .i64 0] 58 (0, 0))) := Lib.hid ((hb9.block _ l_v).trans B_v.out)
  replace B_f : Hid (U4.heap[N_f]? = some (.cells #[.int .i64 9, .int .i64 0] 24 (0, 0))) := Lib.hid ((hb9.block _ l_f).trans B_f.out)
  replace B_x : Hid (U4.heap[N_x]? = some (.cells #[.int .i64 0, .int .i64 0, .int .u64 1, .int .i64 0] 57 (0, 0))) := Lib.hid ((hb9.block _ l_x).trans B_x.out)
  replace B_y : Hid (U4.heap[N_y]? = some (.cells #[.int .i64 0, .int .i64 0, .int .u64 3, .int .i64 0] 57 (0, 0))) := Lib.hid ((hb9.block _ l_y).trans B_y.out)
  replace l_b : N_b < U4.heap.size := by omega
  replace l_s : N_s < U4.heap.size := by omega
  replace l_h : N_h < U4.heap.size := by omega
  replace l_v : N_v < U4.heap.size := by omega
  replace l_f : N_f < U4.heap.size := by omega
  replace l_x : N_x < U4.heap.size := by omega
  replace l_y : N_y < U4.heap.size := by omega
  replace hlow : w.heap.size ≤ U4.heap.size := by omega
  clear hb9 hs9
  have f0 : U4.cell? ⟨N_f, 0, none⟩ = some (.int .i64 9) := cell_blk (i := 0) B_f.out rfl
  have f1 : U4.cell? ⟨N_f, 1, none⟩ = some (.int .i64 0) := cell_blk (i := 1) B_f.out rfl
  have b0 : U4.cell? ⟨N_b, 0, none⟩ = some (.int .i64 1) := cell_blk (i := 0) B_b.out rfl
  have b1 : U4.cell? ⟨N_b, 1, none⟩ = some (.int .i64 3) := cell_blk (i := 1) B_b.out rfl
  have b2 : U4.cell? ⟨N_b, 2, none⟩ = some (.int .i64 1) := cell_blk (i := 2) B_b.out rfl
  have b3 : U4.cell? ⟨N_b, 3, none⟩ = some (.int .i64 0) := cell_blk (i := 3) B_b.out rfl
  have b4 : U4.cell? ⟨N_b, 4, none⟩ = some (.int .i64 3) := cell_blk (i := 4) B_b.out rfl
  have b5 : U4.cell? ⟨N_b, 5, none⟩ = some (.int .i64 3) := cell_blk (i := 5) B_b.out rfl
  go_wp2_with fail
  clear f0 f1 b0 b1 b2 b3 b4 b5
  obtain ⟨V5, hV5⟩ : ∃ W, W = U4.alloc (.cells #[.int .i64 0, .int .i64 0, .int .u64 3, .int .i64 0] 57) := ⟨_, rfl⟩
  rw [← hV5]
  have hzV5 : V5.heap.size = U4.heap.size + 1 := by rw [hV5]; simp
  replace HBel : Hid (Below w.heap.size w V5) := Lib.hid (by rw [hV5]; exact (HBel.out.alloc (hlow) _))
  replace B_b : Hid (V5.heap[N_b]? = some (.cells #[.int .i64 1, .int .i64 3, .int .i64 1, .int .i64 0, .int .i64 3, .int .i64 3] 29 (0, 0))) := Lib.hid (by rw [hV5]; exact ((Below.heap_alloc _ _ _ (by first | omega | (simp <;> omega))).trans B_b.out))
  replace B_s : Hid (V5.heap[N_s]? = some (.cells #[.int .i64 0, .int .i64 0, .int .u64 12, .int .i64 0] 57 (0, 0))) := Lib.hid (by rw [hV5]; exact ((Below.heap_alloc _ _ _ (by first | omega | (simp <;> omega))).trans B_s.out))
  replace B_h : Hid (V5.heap[N_h]? = some (.cells #[.int .i64 0, .int .i64 0, .int .i64 7, .bool false, .slice (some ⟨N_s, 0, none⟩) 1 1] 32 (0, 0))) := Lib.hid (by rw [hV5]; exact ((Below.heap_alloc _ _ _ (by first | omega | (simp <;> omega))).trans B_h.out))
  replace B_v : Hid (V5.heap[N_v]? = some (.cells #[.int .i64 0, .int .i64 0, .int .u64 3, .int .i64 0] 58 (0, 0))) := Lib.hid (by rw [hV5]; exact ((Below.heap_alloc _ _ _ (by first | omega | (simp <;> omega))).trans B_v.out))
  replace B_f : Hid (V5.heap[N_f]? = some (.cells #[.int .i64 9, .int .i64 0] 24 (0, 0))) := Lib.hid (by rw [hV5]; exact ((Below.heap_alloc _ _ _ (by first | omega | (simp <;> omega))).trans B_f.out))
  replace B_x : Hid (V5.heap[N_x]? = some (.cells #[.int .i64 0, .int .i64 0, .int .u64 1, .int .i64 0] 57 (0, 0))) := Lib.hid (by rw [hV5]; exact ((Below.heap_alloc _ _ _ (by first | omega | (simp <;> omega))).trans B_x.out))
  replace B_y : Hid (V5.heap[N_y]? = some (.cells #[.int .i64 0, .int .i64 0, .int .u64 3, .int .i64 0] 57 (0, 0))) := Lib.hid (by rw [hV5]; exact ((Below.heap_alloc _ _ _ (by first | omega | (simp <;> omega))).trans B_y.out))
  have B_z : Hid (V5.heap[U4.heap.size]? = some (.cells #[.int .i64 0, .int .i64 0, .int .u64 3, .int .i64 0] 57 (0, 0))) := Lib.hid (by
    have h9 := heap_alloc_new (U4) (.cells #[.int .i64 0, .int .i64 0, .int .u64 3, .int .i64 0] 57)
    rw [hV5]; exact h9)
  obtain ⟨N_z, hN_z⟩ : ∃ N, N = U4.heap.size := ⟨_, rfl⟩
  (try rw [← hN_z])
  rw [← hN_z] at B_z
  have d_b_z : N_b < N_z := by omega
  have d_s_z : N_s < N_z := by omega
  have d_h_z : N_h < N_z := by omega
  have d_v_z : N_v < N_z := by omega
  have d_f_z : N_f < N_z := by omega
  have d_x_z : N_x < N_z := by omega
  have d_y_z : N_y < N_z := by omega
  replace l_b : N_b < V5.heap.size := by omega
  replace l_s : N_s < V5.heap.size := by omega
  replace l_h : N_h < V5.heap.size := by omega
  replace l_v : N_v < V5.heap.size := by omega
  replace l_f : N_f < V5.heap.size := by omega
  replace l_x : N_x < V5.heap.size := by omega
  replace l_y : N_y < V5.heap.size := by omega
  have l_z : N_z < V5.heap.size := by omega
  have g_z : w.heap.size ≤ N_z := by omega
  replace hlow : w.heap.size ≤ V5.heap.size := by omega
  clear hV5 hzV5 hN_z
  refine (fx_safe 7 3 7 true (by decide) (by decide) fx3 (by decide) V5 (HT.out.below HBel.out HT.out.size) N_v N_h N_s N_z B_v.out B_h.out B_s.out B_z.out).mono ?_
  rintro e U6 ⟨rfl, hb9⟩
  have hs9 := hb9.size
  replace HBel := Lib.hid (HBel.out.trans (hb9.mono hlow))
  replace B_b : Hid (U6.heap[N_b]? = some (.cells #[.int .i64 1, .int .i64 3, .int .i64 1, .int .i64 0, .int .i64 3, .int .i64 3] 29 (0, 0))) := Lib.hid ((hb9.block _ l_b).trans B_b.out)
  replace B_s : Hid (U6.heap[N_s]? = some (.cells #[.int .i64 0, .int .i64 0, .int .u64 12, .int .i64 0] 57 (0, 0))) := Lib.hid ((hb9.block _ l_s).trans B_s.out)
  replace B_h : Hid (U6.heap[N_h]? = some (.cells #[.int .i64 0, .int .i64 0, .int .i64 7, .bool false, .slice (some ⟨N_s, 0, none⟩) 1 1] 32 (0, 0))) := Lib.hid ((hb9.block _ l_h).trans B_h.out)
  replace B_v : Hid (U6.heap[N_v]? = some (.cells #[.int .i64 0, .int .i64 0, .int .u64 3, .int .i64 0] 58 (0, 0))) := Lib.hid ((hb9.block _ l_v).trans B_v.out)
  replace B_f : Hid (U6.heap[N_f]? = some (.cells #[.int .i64 9, .int .i64 0] 24 (0, 0))) := Lib.hid ((hb9.block _ l_f).trans B_f.out)
  replace B_x : Hid (U6.heap[N_x]? = some (.cells #[.int .i64 0, .int .i64 0, .int .u64 1, .int .i64 0] 57 (0, 0))) := Lib.hid ((hb9.block _ l_x).trans B_x.out)
  replace B_y : Hid (U6.heap[N_y]? = some (.cells #[.int .i64 0, .int .i64 0, .int .u64 3, .int .i64 0] 57 (0, 0))) := Lib.hid ((hb9.block _ l_y).trans B_y.out)
  replace B_z : Hid (U6.heap[N_z]? = some (.cells #[.int .i64 0, .int .i64 0, .int .u64 3, .int .i64 0] 57 (0, 0))) := Lib.hid ((hb9.block _ l_z).trans B_z.out)
  replace l_b : N_b < U6.heap.size := by omega
  replace l_s : N_s < U6.heap.size := by omega
  replace l_h : N_h < U6.heap.size := by omega
  replace l_v : N_v < U6.heap.size := by omega
  replace l_f : N_f < U6.heap.size := by omega
  replace l_x : N_x < U6.heap.size := by omega
  replace l_y : N_y < U6.heap.size := by omega
  replace l_z : N_z < U6.heap.size := by omega
  replace hlow : w.heap.size ≤ U6.heap.size := by omega
  clear hb9 hs9
  go_wp2
  go_ret
  exact ⟨rfl, by rw [HB0.out]; exact HBel.out⟩
end Go.Proofs.YtikgmgimdeibgaaDoor
