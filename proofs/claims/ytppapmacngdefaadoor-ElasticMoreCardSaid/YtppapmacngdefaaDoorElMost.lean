/- mostOf of package elastic: the most for which nothing is told, whatever is asked. -/
import Derived.Test.YtppapmacngdefaaDoorElDown
set_option linter.unusedVariables false
namespace Go.Proofs.YtppapmacngdefaaDoor
open Go.RowKit Go.Shelf
open PR
attribute [local go_sem] Oper.semAt_some
theorem below_grownE {w w' : World} (h : Below w.heap.size w w') : w.grownBy w' none := ⟨h.os, h.tape, h.output, h.size, fun k hk _ => h.block k hk⟩
theorem keeps_below {w w' : World} (h : Below w.heap.size w w') : KeepsOthers w w' := KeepsOthers.of_grownBy (below_grownE h) (fun j o e => by cases e)
/-- Slots stay where a world grows by what is no cells. -/
theorem fes_grown {w w' : World} {row : Option Nat} {A : Option Addr} {l : List Fe} (h : Fes w w.heap.size A l) (hg : w.grownBy w' row) (hr : ∀ r, row = some r → ∃ o : Obj, w.heap[r]? = some o ∧ o.isCells = false) : Fes w' w'.heap.size A l := by
  rcases h with h | ⟨b, off, rfl, hb, hc⟩
  · exact .inl h
  · by_cases h0 : l = []
    · exact .inl h0
    have hne : some b ≠ row := by
      intro e
      obtain ⟨o, ho, hoc⟩ := hr b e.symm
      obtain ⟨x, hx⟩ : ∃ x, l[0]? = some x := ⟨_, List.getElem?_eq_getElem (List.length_pos_iff.2 h0)⟩
      have h1 := (hc 0 x hx).1
      obtain ⟨cs, t, z, hcs⟩ : ∃ cs t z, w.heap[b]? = some (.cells cs t z) := by
        unfold World.cell? at h1
        simp only at h1
        rw [ho] at h1
        cases o <;> simp [Obj.isCells] at h1 hoc
      rw [ho] at hcs
      cases hcs
      cases hoc
    exact .inr ⟨b, off, rfl, Nat.lt_of_lt_of_le hb hg.size, fun i x hx => by
      obtain ⟨a0, a1, a2, a3⟩ := hc i x hx
      have hbk := hg.block b hb hne
      exact ⟨(World.cell?_of_block (a := ⟨b, off + i * 4, none⟩) hbk).trans a0, (World.cell?_of_block (a := ⟨b, off + i * 4 + 1, none⟩) hbk).trans a1, (World.cell?_of_block (a := ⟨b, off + i * 4 + 2, none⟩) hbk).trans a2, (World.cell?_of_block (a := ⟨b, off + i * 4 + 3, none⟩) hbk).trans a3⟩⟩
/-- Slots aren't a variable's box. -/
theorem fes_set {w : World} {A : Option Addr} {l : List Fe} {X : Nat} {t : TypeId} {v : Value} (h : Fes w w.heap.size A l) (hb : Boxed w X t v) (v' : Value) : Fes (w.setCell ⟨X, 0, none⟩ v') (w.setCell ⟨X, 0, none⟩ v').heap.size A l := by
  rcases h with h | ⟨b, off, rfl, hbl, hc⟩
  · exact .inl h
  · refine .inr ⟨b, off, rfl, by simpa using hbl, fun i x hx => ?_⟩
    obtain ⟨a0, a1, a2, a3⟩ := hc i x hx
    have hne : b ≠ X := by
      rintro rfl
      have hb' : w.heap[b]? = some (.cells #[v] t (0, 0)) := hb
      unfold World.cell? at a3
      simp [hb'] at a3
    have hbk : (w.setCell ⟨X, 0, none⟩ v').heap[b]? = w.heap[b]? := Below.heap_setCell _ _ _ _ hne
    exact ⟨(World.cell?_of_block (a := ⟨b, off + i * 4, none⟩) hbk).trans a0, (World.cell?_of_block (a := ⟨b, off + i * 4 + 1, none⟩) hbk).trans a1, (World.cell?_of_block (a := ⟨b, off + i * 4 + 2, none⟩) hbk).trans a2, (World.cell?_of_block (a := ⟨b, off + i * 4 + 3, none⟩) hbk).trans a3⟩
theorem boxed_off {w : World} {X Y : Nat} {t : TypeId} {v u : Value} (h : Boxed w X t v) (hne : X ≠ Y) : Boxed (w.setCell ⟨Y, 0, none⟩ u) X t v := (Below.heap_setCell _ _ _ _ hne).trans h
/-- What mostOf tells. -/
def MostOfR (R : Nat → Int → Prop) (G : Nat → List Fe) (lo hi : Nat) (w' : World) (e : Ending) : Prop :=
  ∃ A k c r n, e = .returned (.tuple #[.slice A k c, .int .i64 r]) ∧ Top R lo hi n r ∧ (r = 0 → k = (G n).length ∧ k ≤ c ∧ c ≤ maxLen ∧ Fes w' w'.heap.size A (G n)) ∧ (r ≠ 0 → A = none ∧ k = 0 ∧ c = 0)
theorem MostOfR.keep {R : Nat → Int → Prop} {G : Nat → List Fe} {lo hi : Nat} {w w' : World} {e : Ending} (h : MostOfR R G lo hi w e) (hk : Below w.heap.size w w') : MostOfR R G lo hi w' e := by
  obtain ⟨A, k, c, r, n, h1, h2, h3, h4⟩ := h
  exact ⟨A, k, c, r, n, h1, h2, fun e => by obtain ⟨a, b, d, f⟩ := h3 e; exact ⟨a, b, d, f.keep hk hk.size⟩, h4⟩
theorem results_se {fn : Func} {p q : Tmp} (h : fn.results = #[.cell p 35, .cell q 36]) (tmps : Array Value) (w : World) (g g' : Nat) (u v : Value)
    (hp : tmps.getD p undef = .pointer (some ⟨g, 0, none⟩)) (hg : w.cell? ⟨g, 0, none⟩ = some u) (hq : tmps.getD q undef = .pointer (some ⟨g', 0, none⟩)) (hg' : w.cell? ⟨g', 0, none⟩ = some v) : (results fn tmps).run Tryd.prog w = .ok (.tuple #[u, v]) w := by
  have hp' : tmps[p]?.getD undef = .pointer (some ⟨g, 0, none⟩) := by simpa using hp
  have hq' : tmps[q]?.getD undef = .pointer (some ⟨g', 0, none⟩) := by simpa using hq
  have ha : (isAgg 35).run Tryd.prog w = .ok false w := by
    unfold isAgg
    rw [Sem.run_bind, run_underlying Tryd.underlying35 w]
    simp
  simp [results, h, hp', hq', asAddr, loadVar, ha, hg, hg', go_sem]
set_option maxRecDepth 100000 in
set_option maxHeartbeats 4000000 in
theorem mostof_any (f : Nat) (cs : Array Value) (R : Nat → Int → Prop) (G : Nat → List Fe) (lo hi : Nat) (hlo : 1 ≤ lo) (hlh : lo ≤ hi) (hhi : hi ≤ 1000) (w : World) (hEn : ∀ args W, (callFunc f args).run Tryd.prog W = .ok (.enter f args) W)
    (hF : ∀ n W, lo ≤ n → n ≤ hi → Below w.heap.size w W → Calls Tryd.prog f (#[.int .i64 (n : Nat)] ++ cs) W fun e w' => TryR R G n w' e ∧ Below W.heap.size W w') :
    Calls Tryd.prog 15 #[.int .i64 (hi : Nat), .int .i64 (lo : Nat), .func (.func f) #[] cs] w fun e w' => MostOfR R G lo hi w' e ∧ Below w.heap.size w w' := by
  have h1 : (1 : Nat) ≤ 8 := by omega
  have h1' : (1 : Nat) ≤ 8 - 1 := by omega
  have hfn : ∀ f, Fence.wide.fn f := fun _ => trivial
  have HF := Lib.hid hF
  clear hF
  refine (callsIn_wide (n := 8)).1 ?_
  refine callsIn_of_wp_marks Tryd.func15 rfl trivial ?_ rfl
  simp only [Tryd.ntmps15, List.size_toArray, List.length_cons, List.length_nil, Nat.reduceAdd, Nat.reduceSub, Array.replicate_succ, Array.replicate_zero, List.push_toArray, List.append_toArray, List.nil_append, List.cons_append]
  gi_wp2_with fail
  obtain ⟨w2, hw2⟩ : ∃ w2, w2 = ((((w.alloc (.cells #[.func (.func f) #[] cs] 60)).alloc (.cells #[.slice none 0 0] 35)).alloc (.cells #[.int .i64 0] 36)).alloc (.cells #[.int .i64 0] 36)) := ⟨_, rfl⟩
  rw [← hw2]
  obtain ⟨M, hM⟩ : ∃ M, M = w.heap.size := ⟨_, rfl⟩
  have e0 : ∀ (W : World) (o : Obj), (W.alloc o).heap.size = W.heap.size + 1 := fun W o => by simp
  have z2 : w2.heap.size = M + 4 := by rw [hw2, hM, e0, e0, e0, e0]
  have hB2 : Below M w w2 := by rw [hw2, hM]; exact ((((Below.refl w.heap.size w).alloc (Nat.le_refl _) _).alloc (by simp) _).alloc (by simp; omega) _).alloc (by simp; omega) _
  have bF : Boxed w2 M 60 (.func (.func f) #[] cs) := by
    rw [hw2, hM]
    exact (((Boxed.new w _ _).alloc _).alloc _).alloc _
  have bS : Boxed w2 (M + 1) 35 (.slice none 0 0) := by
    have := Boxed.new (w.alloc (.cells #[.func (.func f) #[] cs] 60)) 35 (.slice none 0 0)
    rw [e0, ← hM] at this
    rw [hw2]
    exact (this.alloc _).alloc _
  have bE : Boxed w2 (M + 2) 36 (.int .i64 0) := by
    have := Boxed.new ((w.alloc (.cells #[.func (.func f) #[] cs] 60)).alloc (.cells #[.slice none 0 0] 35)) 36 (.int .i64 0)
    rw [e0, e0, ← hM] at this
    rw [hw2]
    exact this.alloc _
  have bR : Boxed w2 (M + 3) 36 (.int .i64 0) := by
    have := Boxed.new (((w.alloc (.cells #[.func (.func f) #[] cs] 60)).alloc (.cells #[.slice none 0 0] 35)).alloc (.cells #[.int .i64 0] 36)) 36 (.int .i64 0)
    rw [e0, e0, e0, ← hM] at this
    rw [hw2]
    exact this
  rw [← hM]
  refine (callsIn_wide.2 (downw_any _ _ w2)).mono ?_
  rintro e w3 ⟨rfl, z3, d0, d1, hb3⟩
  rw [z2] at z3 d0 d1 hb3 ⊢
  have bF3 : Boxed w3 M _ _ := (hb3.block M (by omega)).trans bF
  have bS3 : Boxed w3 (M + 1) _ _ := (hb3.block (M + 1) (by omega)).trans bS
  have bE3 : Boxed w3 (M + 2) _ _ := (hb3.block (M + 2) (by omega)).trans bE
  have bR3 : Boxed w3 (M + 3) _ _ := (hb3.block (M + 3) (by omega)).trans bR
  have hB3 : Below M w w3 := hB2.trans (hb3.mono (by omega))
  have HM := Lib.hid hM
  have hMw : M ≤ w.heap.size := by omega
  clear hw2 e0 bF bS bE bR hb3 hB2 z2 hM
  gi_wp2
  have z3' : w3.heap.size = M + 6 := by omega
  clear z3
  refine wpIn_rangeFunc_ownF rfl h1 (gf := 39) (lb := #[.pointer (some ⟨M + 4, 0, none⟩), .pointer (some ⟨M + 4 + 1, 0, none⟩)]) rfl trivial (enters_of Tryd.func39 (by kernel_rfl) rfl)
    (encs := fun k : Yd lo hi => #[Value.int .i64 (k.1 : Nat)]) (S := fun ys => ydL ys = downs lo hi) (Sp := fun pre => ydL pre <+: downs lo hi) (N := hi + 1 - lo) (Kp := Stays1 (M + 4 + 1)) (w0 := w3)
    (fun l J Jx W hW hJ hJx hY h0 => ?iter) (fun h k => Eq.trans k h) (fun W l o o' hl ho h3 h4 => (belowK_b (n₀ := M + 6) (w := w3) (by omega) W l o o' hl ho h3 h4).block (M + 4 + 1) (by omega)) (Below.refl _ w3) (fun _ => rfl)
    (fun (pre : List (Yd lo hi)) W => (∃ r, M + 6 ≤ W.heap.size ∧ (pre = [] → r = 0) ∧ (∀ y ∈ pre, ∃ r, r ≠ 0 ∧ R y.1 r) ∧ (∀ p y, pre = p ++ [y] → R y.1 r ∧ r ≠ 0) ∧ Boxed W M 60 (.func (.func f) #[] cs) ∧ Boxed W (M + 1) 35 (.slice none 0 0) ∧ Boxed W (M + 2) 36 (.int .i64 0) ∧ Boxed W (M + 3) 36 (.int .i64 r)) ∧ Below M w W)
    (fun cd pre W => (cd = .ret ∧ ∃ p y A k c, pre = p ++ [y] ∧ (∀ z ∈ p, ∃ r, r ≠ 0 ∧ R z.1 r) ∧ R y.1 0 ∧ (k = (G y.1).length ∧ k ≤ c ∧ c ≤ maxLen ∧ Fes W W.heap.size A (G y.1)) ∧ Boxed W (M + 1) 35 (.slice A k c) ∧ Boxed W (M + 2) 36 (.int .i64 0)) ∧ Below M w W)
    (OwnFrom.and (Own.from (fun s A B row hs hg hr => by
      obtain ⟨r, a0, a1, a2, a3, a4, a5, a6, a7⟩ := hs
      exact ⟨r, Nat.le_trans a0 hg.size, a1, a2, a3, boxed_own _ _ _ _ _ _ _ a4 hg hr, boxed_own _ _ _ _ _ _ _ a5 hg hr, boxed_own _ _ _ _ _ _ _ a6 hg hr, boxed_own _ _ _ _ _ _ _ a7 hg hr⟩) _) (ownFrom_below (w₀ := w) (by omega) (by omega)))
    (fun cd => OwnFrom.and (Own.from (fun s A B row hs hg hr => by
      obtain ⟨hc, p, y, X, k, c, a1, a2, a3, ⟨b1, b2, b3, b4⟩, a5, a6⟩ := hs
      exact ⟨hc, p, y, X, k, c, a1, a2, a3, ⟨b1, b2, b3, fes_grown b4 hg hr⟩, boxed_own _ _ _ _ _ _ _ a5 hg hr, boxed_own _ _ _ _ _ _ _ a6 hg hr⟩) _) (ownFrom_below (w₀ := w) (by omega) (by omega)))
    ⟨⟨0, by omega, fun _ => rfl, by simp, fun p y e => by simp at e, bF3, bS3, bE3, bR3⟩, hB3⟩
    (fun (y : Yd lo hi) => { tmps := #[.int .i64 (hi : Nat), .int .i64 (lo : Nat), .func (.func f) #[] cs, undef, undef, .pointer (some ⟨M, 0, none⟩), .pointer (some ⟨M + 1, 0, none⟩), .pointer (some ⟨M + 2, 0, none⟩), .pointer (some ⟨M + 3, 0, none⟩), .int .i64 (y.1 : Nat), undef, .int .i64 (hi : Nat), .int .i64 (lo : Nat),
      .func (.func 39) #[] #[.pointer (some ⟨M + 4, 0, none⟩), .pointer (some ⟨M + 4 + 1, 0, none⟩)], .int .i64 (y.1 : Nat), undef, undef, undef, undef, undef, undef, undef, undef, undef, undef], defers := [] }) ?assign ?body ?done ?stop
  case iter =>
    exact downs_in (8 - 1) h1' l (M + 4) lo hi hlo hlh hhi J Jx hY W ((hW.cell (p := ⟨M + 4, 0, none⟩) (by show M + 4 < _; omega)).trans d0) ((hW.cell (p := ⟨M + 4 + 1, 0, none⟩) (by show M + 4 + 1 < _; omega)).trans d1) h0
  case assign =>
    intro l y W K hK
    gi_wp2
    exact hK
  case body =>
    rintro l pre y W ⟨⟨r0, a0, a1, a2, a3, a4, a5, a6, a7⟩, hB⟩ _
    have hc0 := a4.cell
    have HA := Lib.hid (And.intro a2 (And.intro a4 (And.intro a5 (And.intro a6 (And.intro a7 hB)))))
    have HZ := Lib.hid a0
    clear a0 a1 a2 a3 a4 a5 a6 a7 hB bF3 bS3 bE3 bR3 d0 d1 hB3
    obtain ⟨k0, hk0⟩ : ∃ k0 : Nat, k0 = y.1 := ⟨_, rfl⟩
    rw [← hk0]
    have hcall := HF.out k0 W (by rw [hk0]; exact y.2.1) (by rw [hk0]; exact y.2.2) (by rw [← HM.out]; exact HA.out.2.2.2.2.2)
    have HCall := Lib.hid hcall
    have HK0 := Lib.hid hk0
    clear hcall hk0
    gi_wp2_with fail
    refine (CallsIn.inRound l (callsIn_wide.2 HCall.out)).mono ?_
    rintro e W1 ⟨⟨A, k, c, r, rfl, hR, hS⟩, hb1⟩
    have hz1 := hb1.size
    have b5 : Boxed W1 (M + 1) _ _ := (hb1.block (M + 1) HA.out.2.2.1.lt).trans HA.out.2.2.1
    have b6 : Boxed W1 (M + 2) _ _ := (hb1.block (M + 2) HA.out.2.2.2.1.lt).trans HA.out.2.2.2.1
    have b7 : Boxed W1 (M + 3) _ _ := (hb1.block (M + 3) HA.out.2.2.2.2.1.lt).trans HA.out.2.2.2.2.1
    have b4 : Boxed W1 M _ _ := (hb1.block M HA.out.2.1.lt).trans HA.out.2.1
    have l5 := HA.out.2.2.1.lt
    have c7 := b7.cell
    have f7 := b7.frozen
    have c5 := b5.cell
    have f5 := b5.frozen
    have c6 := b6.cell
    have f6 := b6.frozen
    have HB := Lib.hid (And.intro b4 (And.intro b5 (And.intro b6 (And.intro b7 (And.intro hb1 (And.intro hR hS))))))
    clear b4 b5 b6 b7 hb1 hR hS hz1 HCall
    by_cases hr : r = 0
    · subst hr
      have t1 : ((0 : Int) == 0) = true := rfl
      gi_wp2
      obtain ⟨b4, b5, b6, b7, hb1, hR, hS⟩ := HB.out
      have hB1 : Below M w W1 := HA.out.2.2.2.2.2.trans (hb1.mono (by have := HZ.out; omega))
      have hk1 := keeps_below hb1
      rw [HK0.out] at hR hS
      obtain ⟨s1, s2, s3, s4⟩ := hS trivial
      refine ⟨((hk1.trans (KeepsOthers.setCell _ _ _)).trans (KeepsOthers.setCell _ _ _)).trans (KeepsOthers.setCell _ _ _), ⟨rfl, pre, y, A, k, c, rfl, HA.out.1, hR, ⟨s1, s2, s3, ?_⟩, ?_, ?_⟩, ?_⟩
      · exact fes_set (t := 36) (v := .int .i64 0) (fes_set (t := 35) (v := .slice none 0 0) (fes_set s4 b7 _) (boxed_off b5 (by omega)) _) (boxed_off (boxed_off b6 (by omega)) (by omega)) _
      · exact boxed_off ((boxed_off b5 (by omega)).set _) (by omega)
      · exact (boxed_off (boxed_off b6 (by omega)) (by omega)).set _
      · exact ((hB1.setCell (p := ⟨M + 3, 0, none⟩) (by show M ≤ M + 3; omega) _).setCell (p := ⟨M + 1, 0, none⟩) (by show M ≤ M + 1; omega) _).setCell (p := ⟨M + 2, 0, none⟩) (by show M ≤ M + 2; omega) _
    · have t1 : (r == 0) = false := by simp [hr]
      have HR := Lib.hid hr
      clear hr
      gi_wp2
      obtain ⟨b4, b5, b6, b7, hb1, hR, hS⟩ := HB.out
      have hB1 : Below M w W1 := HA.out.2.2.2.2.2.trans (hb1.mono (by have := HZ.out; omega))
      have hk1 := keeps_below hb1
      rw [HK0.out] at hR
      have hz := HZ.out
      refine ⟨hk1.trans (KeepsOthers.setCell _ _ _), ?_, ⟨r, ?_, fun e => by simp at e, fun z hz => ?_, fun p z e => ?_, boxed_off b4 (by omega), boxed_off b5 (by omega), boxed_off b6 (by omega), b7.set _⟩, hB1.setCell (p := ⟨M + 3, 0, none⟩) (by show M ≤ M + 3; omega) _⟩
      · exact (Below.heap_setCell _ _ _ _ (show M + 4 + 1 ≠ M + 3 by omega)).trans (hb1.block (M + 4 + 1) (by omega))
      · have := hb1.size; simp; omega
      · rcases List.mem_append.1 hz with hz | hz
        · exact HA.out.1 z hz
        · rw [List.mem_singleton.1 hz]; exact ⟨r, HR.out, hR⟩
      · obtain ⟨_, e2⟩ := List.append_inj' e rfl
        injection e2 with e2 _
        rw [← e2]; exact ⟨hR, HR.out⟩
  case done =>
    rintro D ys W hD hys ⟨⟨r, a0, a1, a2, a3, a4, a5, a6, a7⟩, hB⟩ hK
    have hc5 := a5.cell
    have hf5 := a5.frozen
    have hc6 := a6.cell
    have hf6 := a6.frozen
    have hc7 := a7.cell
    have hne : ys ≠ [] := by
      rintro rfl
      have h9 := downs_len lo hi
      rw [← hys] at h9
      simp [ydL] at h9
      omega
    have hlast : R lo r ∧ r ≠ 0 := by
      obtain ⟨p, y, rfl⟩ : ∃ p y, ys = p ++ [y] := ⟨_, _, (List.dropLast_concat_getLast hne).symm⟩
      have h9 := a3 p y rfl
      have hy : y.1 = lo := by
        have h8 := downs_len lo hi
        rw [← hys, ydL_len, List.length_append] at h8
        have h7 := downs_at (Nat.le_refl lo) hlh
        rw [← hys, ydL_snoc] at h7
        have h6 : (ydL p).length = hi - lo := by rw [ydL_len]; simp at h8; omega
        rw [← h6] at h7
        simpa using h7
      rw [hy] at h9; exact h9
    have hall : ∀ m, lo ≤ m → m ≤ hi → ∃ r, r ≠ 0 ∧ R m r := fun m m1 m2 => by
      have h9 : m ∈ ydL ys := by rw [hys]; exact downs_mem.2 ⟨m1, m2⟩
      obtain ⟨y, hy, rfl⟩ := List.mem_map.1 h9
      exact a2 y hy
    have H := Lib.hid (And.intro hlast (And.intro hall (And.intro a5 (And.intro a6 (And.intro a7 (And.intro hB a0))))))
    clear a0 a1 a2 a3 a4 a5 a6 a7 hB hne hlast hall hys bF3 bS3 bE3 bR3 d0 d1 hB3
    have hmx : Tryd.prog.follows .mixedOrders = true := by kernel_rfl
    gi_wp2
    gi_region
    gi_wp2
    obtain ⟨⟨hR, hr0⟩, hall, a5, a6, a7, hB, a0⟩ := H.out
    obtain ⟨Wf, hWf⟩ : ∃ Wf, Wf = ((W.setCell ⟨M + 1, 0, none⟩ (.slice none 0 0)).setCell ⟨M + 1 + 1, 0, none⟩ (.int .i64 r)).drew := ⟨_, rfl⟩
    rw [← hWf]
    have hK2 : Wf.heap[D]? = some (.deferred (some [])) := by rw [hWf]; exact (((KeepsOthers.setCell _ _ _).trans (KeepsOthers.setCell _ _ _)).trans (KeepsOthers.drew _)).same D _ hK rfl
    have b5 : Boxed Wf (M + 1) 35 (.slice none 0 0) := by rw [hWf]; exact boxed_off (a5.set _) (by omega)
    have b6 : Boxed Wf (M + 2) 36 (.int .i64 r) := by rw [hWf]; exact (boxed_off a6 (by omega)).set _
    have hBf : Below M w Wf := by rw [hWf]; exact ((hB.setCell (p := ⟨M + 1, 0, none⟩) (by show M ≤ M + 1; omega) _).setCell (p := ⟨M + 1 + 1, 0, none⟩) (by show M ≤ M + 1 + 1; omega) _).drew
    refine ⟨by simp, .inl ⟨_, _, rfl, run_takeDeferred hK2, ?_⟩⟩
    have hg := grownBy_putObj' Wf D (.deferred none)
    have hrow : ∀ r, some D = some r → ∃ o : Obj, Wf.heap[r]? = some o ∧ o.isCells = false := fun r e => by cases e; exact ⟨_, hK2, rfl⟩
    have c5 := cell_kept b5.cell hg hrow
    have c6 := cell_kept b6.cell hg hrow
    refine ⟨.tuple #[.slice none 0 0, .int .i64 r], results_se Tryd.results15 _ _ (M + 1) (M + 2) _ _ rfl c5 rfl c6, ⟨none, 0, 0, r, 0, rfl, .inr ⟨hr0, hR, hall⟩, fun e => absurd e hr0, fun _ => ⟨rfl, rfl, rfl⟩⟩, ?_⟩
    have e := HM.out
    rw [← e]
    exact hBf.trans (belowK_b (n₀ := M) (w := w) (by omega) _ D _ _ (by omega) hK2 rfl rfl)
  case stop =>
    rintro D cd pre W hD hpre ⟨⟨rfl, p, y, A, k, c, rfl, a1, a2, ⟨s1, s2, s3, s4⟩, b5, b6⟩, hB⟩ hK
    have H := Lib.hid (And.intro hpre (And.intro a1 (And.intro a2 (And.intro s1 (And.intro s2 (And.intro s3 (And.intro s4 (And.intro b5 (And.intro b6 hB)))))))))
    clear hpre a1 a2 s1 s2 s3 s4 b5 b6 hB bF3 bS3 bE3 bR3 d0 d1 hB3
    gi_wp2
    refine ⟨by simp, .inl ⟨_, _, rfl, run_takeDeferred hK, ?_⟩⟩
    obtain ⟨hpre, a1, a2, s1, s2, s3, s4, b5, b6, hB⟩ := H.out
    have hg := grownBy_putObj' W D (.deferred none)
    have hrow : ∀ r, some D = some r → ∃ o : Obj, W.heap[r]? = some o ∧ o.isCells = false := fun r e => by cases e; exact ⟨_, hK, rfl⟩
    have c5 := cell_kept b5.cell hg hrow
    have c6 := cell_kept b6.cell hg hrow
    have hpre2 : ydL p ++ [y.1] <+: downs lo hi := by rw [← ydL_snoc]; exact hpre
    refine ⟨.tuple #[.slice A k c, .int .i64 0], results_se Tryd.results15 _ _ (M + 1) (M + 2) _ _ rfl c5 rfl c6, ⟨A, k, c, 0, y.1, rfl, .inl ⟨rfl, y.2.1, y.2.2, a2, fun m m1 m2 => ?_⟩, fun _ => ⟨s1, s2, s3, fes_grown s4 hg hrow⟩, fun e => absurd rfl e⟩, ?_⟩
    · have h9 := downs_ahead hpre2 m m1 m2
      obtain ⟨z, hz, rfl⟩ := List.mem_map.1 h9
      exact a1 z hz
    · have e := HM.out
      rw [← e]
      exact hB.trans (belowK_b (n₀ := M) (w := w) (by omega) _ D _ _ (by omega) hK rfl rfl)
end Go.Proofs.YtppapmacngdefaaDoor
