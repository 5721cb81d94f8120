/- Accounts: Add, Sub, Left. -/
import Derived.StillTactics
import Derived.StillTailTactics
import Derived.Deep.DrawnRows
import Derived.Test.YtkhbbfpajiimaaaGreatHeldTo
import Derived.Test.YtkhbbfpajiimaaaGreatQuotaBase
set_option linter.unusedVariables false
namespace Go.Proofs.YtkhbbfpajiimaaaGreat
open Go.RowKit

theorem qa_set : ∀ {l : List Qa} {k : Nat} {x : Qa} (u : Un), l[k]? = some x → (l.set k ⟨x.m, u⟩).flatMap qaC = ((l.flatMap qaC).set (k * 4 + 2) (.int .i64 u.g)).set (k * 4 + 3) (.int .i64 u.c)
  | [], _, _, _, h => by simp at h
  | y :: l, 0, x, u, h => by simp at h; subst h; simp [qaC]
  | y :: l, k + 1, x, u, h => by
    have ih := qa_set u (l := l) (k := k) (x := x) (by simpa using h)
    rw [List.set_cons_succ, List.flatMap_cons, ih, List.flatMap_cons, show (k + 1) * 4 + 2 = k * 4 + 2 + 4 by omega, show (k + 1) * 4 + 3 = k * 4 + 3 + 4 by omega]
    simp [qaC]
/-- One queue's use is written anew. -/
theorem QAt.wrote {w w1 w' : World} {p g c k : Nat} {l : List Qa} {x : Qa} (u : Un) (h : QAt w p g c l) (hx : l[k]? = some x) (hw : Below w.heap.size w w1) (hu : QaOk ⟨x.m, u⟩)
    (hft : Foot (· = g) w w') (e : w'.heap = ((w1.setCell ⟨g, k * 4 + 2, none⟩ (.int .i64 u.g)).setCell ⟨g, k * 4 + 3, none⟩ (.int .i64 u.c)).heap) : QAt w' p g c (l.set k ⟨x.m, u⟩) := by
  obtain ⟨l1, l2⟩ := h.lt
  have hn := h.ne
  obtain ⟨cur, h1, h2⟩ := h.row
  have hkl := (List.getElem?_eq_some_iff.1 hx).1
  refine ⟨by rw [List.length_set]; exact h.few, fun y hy => ?_, by rw [List.length_set]; exact (hft.block p l1 hn).trans h.obj, _, by rw [e]; exact blk_put _ (blk_put _ ((hw.block g l2).trans h1)), fun j v hj => ?_⟩
  · rcases List.mem_or_eq_of_mem_set hy with h3 | h3
    · exact h.ok y h3
    · rw [h3]; exact hu
  · have hset : (l.set k ⟨x.m, u⟩).flatMap qaC = ((l.flatMap qaC).set (k * 4 + 2) (.int .i64 u.g)).set (k * 4 + 3) (.int .i64 u.c) := qa_set u hx
    rw [hset] at hj
    have hlen := qaC_len l
    have hsz : k * 4 + 3 < cur.size := by
      have e3 := qa_flat hx (show 3 < 4 by omega)
      exact (Array.getElem?_eq_some_iff.1 (h2 _ _ (e3.trans rfl))).1
    by_cases e3 : k * 4 + 3 = j
    · subst e3
      rw [List.getElem?_set_self (by rw [List.length_set]; omega)] at hj
      rw [Array.getElem?_setIfInBounds_self_of_lt (by simp; omega)]
      exact hj
    · rw [List.getElem?_set_ne e3] at hj
      rw [Array.getElem?_setIfInBounds_ne e3]
      by_cases e2 : k * 4 + 2 = j
      · subst e2
        rw [List.getElem?_set_self (by omega)] at hj
        rw [Array.getElem?_setIfInBounds_self_of_lt (by omega)]
        exact hj
      · rw [List.getElem?_set_ne e2] at hj
        rw [Array.getElem?_setIfInBounds_ne e2]
        exact h2 j v hj
theorem hasQ_iff {l : List Qa} {q : Int} : hasQ l q = true ↔ 0 ≤ q ∧ q < (l.length : Int) := by
  unfold hasQ; simp [Bool.and_eq_true]
/-- A queue that is there. -/
theorem hasQ_at {l : List Qa} {q : Int} (h : hasQ l q = true) : ∃ (k : Nat) (x : Qa), q = k ∧ k < l.length ∧ l[k]? = some x := by
  obtain ⟨h0, h1⟩ := hasQ_iff.1 h
  obtain ⟨x, hx⟩ := get_lt (l := l) (k := q.toNat) (by omega)
  exact ⟨q.toNat, x, by omega, by omega, hx⟩
set_option maxRecDepth 100000 in
set_option maxHeartbeats 4000000 in
theorem add_q (p g c : Nat) (l : List Qa) (q : Int) (u : Un) (w : World) (h : QAt w p g c l) :
    Calls Tryz.prog 109 #[.pointer (some ⟨p, 0, none⟩), .int .i64 q, unV u] w fun e w' => e = .returned (.int .i64 (qAdd l q u).1) ∧ QAt w' p g c (qAdd l q u).2 ∧ Foot (· = g) w w' := by
  have hB1 := (Below.refl w.heap.size w).alloc (Nat.le_refl _) (.cells #[.int .i64 u.g, .int .i64 u.c] 58)
  have hC := Lib.hid (check_any p g c l q u _ (h.keep hB1))
  have HP := Lib.hid h
  have HB := Lib.hid hB1
  obtain ⟨R, hR⟩ : ∃ R, R = qAdd l q u := ⟨_, rfl⟩
  rw [← hR]
  unfold checkQ at hC
  unfold qAdd at hR
  cases hq : hasQ l q
  · rw [hq, if_pos rfl] at hC hR
    subst hR
    obtain ⟨a, b⟩ := u
    simp only [unV] at *
    clear h hB1 hq
    go_enter Tryz.func109, Tryz.ntmps109
    go_wp2_with (go_at_call 139; refine hC.out.mono ?_; rintro e w1 ⟨rfl, hb1⟩)
    go_ret
    have hB := below_step HB.out hb1
    exact ⟨rfl, HP.out.keep hB, Foot.of_below hB⟩
  rw [hq, if_neg (by simp)] at hC hR
  cases hm : mayU u
  · rw [hm, if_pos rfl] at hC hR
    subst hR
    obtain ⟨a, b⟩ := u
    simp only [unV] at *
    clear h hB1 hq hm
    go_enter Tryz.func109, Tryz.ntmps109
    go_wp2_with (go_at_call 139; refine hC.out.mono ?_; rintro e w1 ⟨rfl, hb1⟩)
    go_ret
    have hB := below_step HB.out hb1
    exact ⟨rfl, HP.out.keep hB, Foot.of_below hB⟩
  rw [hm, if_neg (by simp)] at hC hR
  obtain ⟨k, x, rfl, hkl, hx⟩ := hasQ_at hq
  simp only [Int.toNat_natCast, hx] at hR
  obtain ⟨l1, l2⟩ := h.lt
  have hne := h.ne
  have hok := h.ok x (List.mem_of_getElem? hx)
  obtain ⟨hm1, hm2, hm3, hm4⟩ := mayU_iff.1 hm
  obtain ⟨hx1, hx2, hx3, hx4⟩ := mayU_iff.1 hok.m
  obtain ⟨hg1, hg2⟩ := hok.g
  obtain ⟨hc1, hc2⟩ := hok.c
  have hfew := h.few
  have HX := Lib.hid (And.intro hx hok)
  obtain ⟨n, hn⟩ : ∃ n, n = l.length := ⟨_, rfl⟩
  rw [← hn] at hkl hfew
  have Hn := Lib.hid hn
  have bS := Lib.hid (heap_alloc_new w (.cells #[.int .i64 u.g, .int .i64 u.c] 58))
  have HL := Lib.hid (fun W => left_any x W hok)
  obtain ⟨lt, hlt⟩ : ∃ lt, lt = leU u (subU x.m x.u) := ⟨_, rfl⟩
  have hM := fun W => most_any u (subU x.m x.u) W
  rw [← hlt] at hM hR
  have HM := Lib.hid hM
  have HR := Lib.hid hR
  have Hlt := Lib.hid hlt
  clear hM hlt
  clear h hB1 hq hm hx hok hn hR
  obtain ⟨⟨mg, mc⟩, ⟨ug, uc⟩⟩ := x
  obtain ⟨a, b⟩ := u
  simp only [unV, qaV, subU, addU] at *
  go_enter Tryz.func109, Tryz.ntmps109
  go_wp2_with (go_at_call 139; refine hC.out.mono ?_; rintro e w1 ⟨rfl, hb1⟩)
  have hBw := below_step HB.out hb1
  have hP1 := HP.out.keep hBw
  have c0 := hP1.head
  rw [← Hn.out] at c0
  obtain ⟨d0, d1, d2, d3, f2, f3⟩ := hP1.cells HX.out.1
  simp only at d0 d1 d2 d3
  obtain ⟨e0, e1, y2, y3, y4⟩ := pair_at ((hb1.block w.heap.size (by simp)).trans bS.out)
  have hsz : w.heap.size ≤ w1.heap.size := hBw.size
  have HBw := Lib.hid (And.intro hBw hP1)
  clear hb1 hBw hP1
  go_wp2
  cases lt
  · have hR := HR.out
    rw [if_pos rfl] at hR
    subst hR
    refine held_begin (fun w' : World => w'.cell? ⟨p, 0, none⟩ = some (.slice (some ⟨g, 0, none⟩) n c) ∧ w'.cell? ⟨g, k * 4, none⟩ = some (.int .i64 mg) ∧ w'.cell? ⟨g, k * 4 + 1, none⟩ = some (.int .i64 mc) ∧ w'.cell? ⟨g, k * 4 + 2, none⟩ = some (.int .i64 ug) ∧ w'.cell? ⟨g, k * 4 + 3, none⟩ = some (.int .i64 uc) ∧ w'.cell? ⟨w.heap.size, 0, none⟩ = some (.int .i64 a) ∧ w'.cell? ⟨w.heap.size, 1, none⟩ = some (.int .i64 b)) (by kernel_rfl) ?_
    have hBh0 : Below w1.heap.size w1 w1.drew := (Below.refl _ _).drew
    have hSh0 : (fun w' : World => w'.cell? ⟨p, 0, none⟩ = some (.slice (some ⟨g, 0, none⟩) n c) ∧ w'.cell? ⟨g, k * 4, none⟩ = some (.int .i64 mg) ∧ w'.cell? ⟨g, k * 4 + 1, none⟩ = some (.int .i64 mc) ∧ w'.cell? ⟨g, k * 4 + 2, none⟩ = some (.int .i64 ug) ∧ w'.cell? ⟨g, k * 4 + 3, none⟩ = some (.int .i64 uc) ∧ w'.cell? ⟨w.heap.size, 0, none⟩ = some (.int .i64 a) ∧ w'.cell? ⟨w.heap.size, 1, none⟩ = some (.int .i64 b)) w1.drew := ⟨c0, d0, d1, d2, d3, e0, e1⟩
    refine held_take (v := ?_) 0 15 rfl rfl (by kernel_rfl) (by kernel_rfl) (by kernel_rfl) (fun _ _ _ h => h) ⟨by rfl, ?_⟩ hSh0 ?_
    rotate_left
    · intro w' hw'; obtain ⟨x0, x1, x2, x3, x4, x5, x6⟩ := hw'; go_simp; (try with_reducible rfl)
    simp only [Act.put, List.setIfInBounds_toArray, List.set_cons_zero, List.set_cons_succ]
    refine held_take (v := ?_) 1 16 rfl rfl (by kernel_rfl) (by kernel_rfl) (by kernel_rfl) (fun _ _ _ h => h) ⟨by rfl, ?_⟩ hSh0 ?_
    rotate_left
    · intro w' hw'; obtain ⟨x0, x1, x2, x3, x4, x5, x6⟩ := hw'; go_simp; (try with_reducible rfl)
    simp only [Act.put, List.setIfInBounds_toArray, List.set_cons_zero, List.set_cons_succ]
    refine held_take (v := ?_) 2 17 rfl rfl (by kernel_rfl) (by kernel_rfl) (by kernel_rfl) (fun _ _ _ h => h) ⟨by rfl, ?_⟩ hSh0 ?_
    rotate_left
    · intro w' hw'; obtain ⟨x0, x1, x2, x3, x4, x5, x6⟩ := hw'; go_simp; (try with_reducible rfl)
    simp only [Act.put, List.setIfInBounds_toArray, List.set_cons_zero, List.set_cons_succ]
    refine held_take (v := ?_) 3 18 rfl rfl (by kernel_rfl) (by kernel_rfl) (by kernel_rfl) (fun _ _ _ h => h) ⟨by rfl, ?_⟩ hSh0 ?_
    rotate_left
    · intro w' hw'; obtain ⟨x0, x1, x2, x3, x4, x5, x6⟩ := hw'; go_simp; (try with_reducible rfl)
    simp only [Act.put, List.setIfInBounds_toArray, List.set_cons_zero, List.set_cons_succ]
    refine held_take (v := ?_) 4 19 rfl rfl (by kernel_rfl) (by kernel_rfl) (by kernel_rfl) (fun _ _ _ h => h) ⟨by rfl, ?_⟩ hSh0 ?_
    rotate_left
    · intro w' hw'; obtain ⟨x0, x1, x2, x3, x4, x5, x6⟩ := hw'; go_simp; (try with_reducible rfl)
    simp only [Act.put, List.setIfInBounds_toArray, List.set_cons_zero, List.set_cons_succ]
    refine held_take (v := ?_) 5 20 rfl rfl (by kernel_rfl) (by kernel_rfl) (by kernel_rfl) (fun _ _ _ h => h) ⟨by rfl, ?_⟩ hSh0 ?_
    rotate_left
    · intro w' hw'; obtain ⟨x0, x1, x2, x3, x4, x5, x6⟩ := hw'; go_simp; (try with_reducible rfl)
    simp only [Act.put, List.setIfInBounds_toArray, List.set_cons_zero, List.set_cons_succ]
    refine held_take (v := ?_) 6 21 rfl rfl (by kernel_rfl) (by kernel_rfl) (by kernel_rfl) (fun _ _ _ h => h) ⟨by rfl, ?_⟩ hSh0 ?_
    rotate_left
    · intro w' hw'; obtain ⟨x0, x1, x2, x3, x4, x5, x6⟩ := hw'; go_simp; (try with_reducible rfl)
    simp only [Act.put, List.setIfInBounds_toArray, List.set_cons_zero, List.set_cons_succ]
    refine held_take (v := ?_) 7 22 rfl rfl (by kernel_rfl) (by kernel_rfl) (by kernel_rfl) (fun _ _ _ h => h) ⟨by rfl, ?_⟩ hSh0 ?_
    rotate_left
    · intro w' hw'; obtain ⟨x0, x1, x2, x3, x4, x5, x6⟩ := hw'; go_simp; (try with_reducible rfl)
    simp only [Act.put, List.setIfInBounds_toArray, List.set_cons_zero, List.set_cons_succ]
    refine held_one 8 rfl (by kernel_rfl) (by rfl) (fun K hK => ?_)
    go_simp
    go_at_call 107
    refine (HL.out _).mono ?_
    rintro e wh1 ⟨rfl, hbh1⟩
    have hBh1 : Below w1.heap.size w1 wh1 := below_step hBh0 hbh1
    have hSh1 : (fun w' : World => w'.cell? ⟨p, 0, none⟩ = some (.slice (some ⟨g, 0, none⟩) n c) ∧ w'.cell? ⟨g, k * 4, none⟩ = some (.int .i64 mg) ∧ w'.cell? ⟨g, k * 4 + 1, none⟩ = some (.int .i64 mc) ∧ w'.cell? ⟨g, k * 4 + 2, none⟩ = some (.int .i64 ug) ∧ w'.cell? ⟨g, k * 4 + 3, none⟩ = some (.int .i64 uc) ∧ w'.cell? ⟨w.heap.size, 0, none⟩ = some (.int .i64 a) ∧ w'.cell? ⟨w.heap.size, 1, none⟩ = some (.int .i64 b)) wh1 := ⟨(hBh1.cell (p := ⟨p, 0, none⟩) (show p < w1.heap.size by omega)).trans c0, (hBh1.cell (p := ⟨g, k * 4, none⟩) (show g < w1.heap.size by omega)).trans d0, (hBh1.cell (p := ⟨g, k * 4 + 1, none⟩) (show g < w1.heap.size by omega)).trans d1, (hBh1.cell (p := ⟨g, k * 4 + 2, none⟩) (show g < w1.heap.size by omega)).trans d2, (hBh1.cell (p := ⟨g, k * 4 + 3, none⟩) (show g < w1.heap.size by omega)).trans d3, (hBh1.cell (p := ⟨w.heap.size, 0, none⟩) (show w.heap.size < w1.heap.size by omega)).trans e0, (hBh1.cell (p := ⟨w.heap.size, 1, none⟩) (show w.heap.size < w1.heap.size by omega)).trans e1⟩
    refine hK.out _ _ hSh1 ?_
    clear hK K
    refine held_one 9 rfl (by kernel_rfl) (by rfl) (fun K hK => ?_)
    go_simp
    go_at_call 114
    refine (HM.out _).mono ?_
    rintro e wh2 ⟨rfl, hbh2⟩
    have hBh2 : Below w1.heap.size w1 wh2 := below_step hBh1 hbh2
    have hSh2 : (fun w' : World => w'.cell? ⟨p, 0, none⟩ = some (.slice (some ⟨g, 0, none⟩) n c) ∧ w'.cell? ⟨g, k * 4, none⟩ = some (.int .i64 mg) ∧ w'.cell? ⟨g, k * 4 + 1, none⟩ = some (.int .i64 mc) ∧ w'.cell? ⟨g, k * 4 + 2, none⟩ = some (.int .i64 ug) ∧ w'.cell? ⟨g, k * 4 + 3, none⟩ = some (.int .i64 uc) ∧ w'.cell? ⟨w.heap.size, 0, none⟩ = some (.int .i64 a) ∧ w'.cell? ⟨w.heap.size, 1, none⟩ = some (.int .i64 b)) wh2 := ⟨(hBh2.cell (p := ⟨p, 0, none⟩) (show p < w1.heap.size by omega)).trans c0, (hBh2.cell (p := ⟨g, k * 4, none⟩) (show g < w1.heap.size by omega)).trans d0, (hBh2.cell (p := ⟨g, k * 4 + 1, none⟩) (show g < w1.heap.size by omega)).trans d1, (hBh2.cell (p := ⟨g, k * 4 + 2, none⟩) (show g < w1.heap.size by omega)).trans d2, (hBh2.cell (p := ⟨g, k * 4 + 3, none⟩) (show g < w1.heap.size by omega)).trans d3, (hBh2.cell (p := ⟨w.heap.size, 0, none⟩) (show w.heap.size < w1.heap.size by omega)).trans e0, (hBh2.cell (p := ⟨w.heap.size, 1, none⟩) (show w.heap.size < w1.heap.size by omega)).trans e1⟩
    refine hK.out _ _ hSh2 ?_
    clear hK K
    refine held_take (v := ?_) 10 25 rfl rfl (by kernel_rfl) (by kernel_rfl) (by kernel_rfl) (fun _ _ _ h => h) ⟨by rfl, ?_⟩ hSh2 ?_
    rotate_left
    · intro w' hw'; obtain ⟨x0, x1, x2, x3, x4, x5, x6⟩ := hw'; go_simp; (try with_reducible rfl)
    simp only [Act.put, List.setIfInBounds_toArray, List.set_cons_zero, List.set_cons_succ]
    refine wpAnyH_done (by kernel_rfl) ?_ _
    go_wp2
    go_ret
    have hB9 := HBw.out.1.trans (hBh2.mono hsz)
    exact ⟨rfl, HP.out.keep hB9, Foot.of_below hB9⟩
  · have hR := HR.out
    rw [if_neg (by simp)] at hR
    obtain ⟨le1, le2⟩ := leU_iff.1 Hlt.out.symm
    simp only at le1 le2
    subst hR
    refine held_begin (fun w' : World => w'.cell? ⟨p, 0, none⟩ = some (.slice (some ⟨g, 0, none⟩) n c) ∧ w'.cell? ⟨g, k * 4, none⟩ = some (.int .i64 mg) ∧ w'.cell? ⟨g, k * 4 + 1, none⟩ = some (.int .i64 mc) ∧ w'.cell? ⟨g, k * 4 + 2, none⟩ = some (.int .i64 ug) ∧ w'.cell? ⟨g, k * 4 + 3, none⟩ = some (.int .i64 uc) ∧ w'.cell? ⟨w.heap.size, 0, none⟩ = some (.int .i64 a) ∧ w'.cell? ⟨w.heap.size, 1, none⟩ = some (.int .i64 b)) (by kernel_rfl) ?_
    have hBh0 : Below w1.heap.size w1 w1.drew := (Below.refl _ _).drew
    have hSh0 : (fun w' : World => w'.cell? ⟨p, 0, none⟩ = some (.slice (some ⟨g, 0, none⟩) n c) ∧ w'.cell? ⟨g, k * 4, none⟩ = some (.int .i64 mg) ∧ w'.cell? ⟨g, k * 4 + 1, none⟩ = some (.int .i64 mc) ∧ w'.cell? ⟨g, k * 4 + 2, none⟩ = some (.int .i64 ug) ∧ w'.cell? ⟨g, k * 4 + 3, none⟩ = some (.int .i64 uc) ∧ w'.cell? ⟨w.heap.size, 0, none⟩ = some (.int .i64 a) ∧ w'.cell? ⟨w.heap.size, 1, none⟩ = some (.int .i64 b)) w1.drew := ⟨c0, d0, d1, d2, d3, e0, e1⟩
    refine held_take (v := ?_) 0 15 rfl rfl (by kernel_rfl) (by kernel_rfl) (by kernel_rfl) (fun _ _ _ h => h) ⟨by rfl, ?_⟩ hSh0 ?_
    rotate_left
    · intro w' hw'; obtain ⟨x0, x1, x2, x3, x4, x5, x6⟩ := hw'; go_simp; (try with_reducible rfl)
    simp only [Act.put, List.setIfInBounds_toArray, List.set_cons_zero, List.set_cons_succ]
    refine held_take (v := ?_) 1 16 rfl rfl (by kernel_rfl) (by kernel_rfl) (by kernel_rfl) (fun _ _ _ h => h) ⟨by rfl, ?_⟩ hSh0 ?_
    rotate_left
    · intro w' hw'; obtain ⟨x0, x1, x2, x3, x4, x5, x6⟩ := hw'; go_simp; (try with_reducible rfl)
    simp only [Act.put, List.setIfInBounds_toArray, List.set_cons_zero, List.set_cons_succ]
    refine held_take (v := ?_) 2 17 rfl rfl (by kernel_rfl) (by kernel_rfl) (by kernel_rfl) (fun _ _ _ h => h) ⟨by rfl, ?_⟩ hSh0 ?_
    rotate_left
    · intro w' hw'; obtain ⟨x0, x1, x2, x3, x4, x5, x6⟩ := hw'; go_simp; (try with_reducible rfl)
    simp only [Act.put, List.setIfInBounds_toArray, List.set_cons_zero, List.set_cons_succ]
    refine held_take (v := ?_) 3 18 rfl rfl (by kernel_rfl) (by kernel_rfl) (by kernel_rfl) (fun _ _ _ h => h) ⟨by rfl, ?_⟩ hSh0 ?_
    rotate_left
    · intro w' hw'; obtain ⟨x0, x1, x2, x3, x4, x5, x6⟩ := hw'; go_simp; (try with_reducible rfl)
    simp only [Act.put, List.setIfInBounds_toArray, List.set_cons_zero, List.set_cons_succ]
    refine held_take (v := ?_) 4 19 rfl rfl (by kernel_rfl) (by kernel_rfl) (by kernel_rfl) (fun _ _ _ h => h) ⟨by rfl, ?_⟩ hSh0 ?_
    rotate_left
    · intro w' hw'; obtain ⟨x0, x1, x2, x3, x4, x5, x6⟩ := hw'; go_simp; (try with_reducible rfl)
    simp only [Act.put, List.setIfInBounds_toArray, List.set_cons_zero, List.set_cons_succ]
    refine held_take (v := ?_) 5 20 rfl rfl (by kernel_rfl) (by kernel_rfl) (by kernel_rfl) (fun _ _ _ h => h) ⟨by rfl, ?_⟩ hSh0 ?_
    rotate_left
    · intro w' hw'; obtain ⟨x0, x1, x2, x3, x4, x5, x6⟩ := hw'; go_simp; (try with_reducible rfl)
    simp only [Act.put, List.setIfInBounds_toArray, List.set_cons_zero, List.set_cons_succ]
    refine held_take (v := ?_) 6 21 rfl rfl (by kernel_rfl) (by kernel_rfl) (by kernel_rfl) (fun _ _ _ h => h) ⟨by rfl, ?_⟩ hSh0 ?_
    rotate_left
    · intro w' hw'; obtain ⟨x0, x1, x2, x3, x4, x5, x6⟩ := hw'; go_simp; (try with_reducible rfl)
    simp only [Act.put, List.setIfInBounds_toArray, List.set_cons_zero, List.set_cons_succ]
    refine held_take (v := ?_) 7 22 rfl rfl (by kernel_rfl) (by kernel_rfl) (by kernel_rfl) (fun _ _ _ h => h) ⟨by rfl, ?_⟩ hSh0 ?_
    rotate_left
    · intro w' hw'; obtain ⟨x0, x1, x2, x3, x4, x5, x6⟩ := hw'; go_simp; (try with_reducible rfl)
    simp only [Act.put, List.setIfInBounds_toArray, List.set_cons_zero, List.set_cons_succ]
    refine held_one 8 rfl (by kernel_rfl) (by rfl) (fun K hK => ?_)
    go_simp
    go_at_call 107
    refine (HL.out _).mono ?_
    rintro e wh1 ⟨rfl, hbh1⟩
    have hBh1 : Below w1.heap.size w1 wh1 := below_step hBh0 hbh1
    have hSh1 : (fun w' : World => w'.cell? ⟨p, 0, none⟩ = some (.slice (some ⟨g, 0, none⟩) n c) ∧ w'.cell? ⟨g, k * 4, none⟩ = some (.int .i64 mg) ∧ w'.cell? ⟨g, k * 4 + 1, none⟩ = some (.int .i64 mc) ∧ w'.cell? ⟨g, k * 4 + 2, none⟩ = some (.int .i64 ug) ∧ w'.cell? ⟨g, k * 4 + 3, none⟩ = some (.int .i64 uc) ∧ w'.cell? ⟨w.heap.size, 0, none⟩ = some (.int .i64 a) ∧ w'.cell? ⟨w.heap.size, 1, none⟩ = some (.int .i64 b)) wh1 := ⟨(hBh1.cell (p := ⟨p, 0, none⟩) (show p < w1.heap.size by omega)).trans c0, (hBh1.cell (p := ⟨g, k * 4, none⟩) (show g < w1.heap.size by omega)).trans d0, (hBh1.cell (p := ⟨g, k * 4 + 1, none⟩) (show g < w1.heap.size by omega)).trans d1, (hBh1.cell (p := ⟨g, k * 4 + 2, none⟩) (show g < w1.heap.size by omega)).trans d2, (hBh1.cell (p := ⟨g, k * 4 + 3, none⟩) (show g < w1.heap.size by omega)).trans d3, (hBh1.cell (p := ⟨w.heap.size, 0, none⟩) (show w.heap.size < w1.heap.size by omega)).trans e0, (hBh1.cell (p := ⟨w.heap.size, 1, none⟩) (show w.heap.size < w1.heap.size by omega)).trans e1⟩
    refine hK.out _ _ hSh1 ?_
    clear hK K
    refine held_one 9 rfl (by kernel_rfl) (by rfl) (fun K hK => ?_)
    go_simp
    go_at_call 114
    refine (HM.out _).mono ?_
    rintro e wh2 ⟨rfl, hbh2⟩
    have hBh2 : Below w1.heap.size w1 wh2 := below_step hBh1 hbh2
    have hSh2 : (fun w' : World => w'.cell? ⟨p, 0, none⟩ = some (.slice (some ⟨g, 0, none⟩) n c) ∧ w'.cell? ⟨g, k * 4, none⟩ = some (.int .i64 mg) ∧ w'.cell? ⟨g, k * 4 + 1, none⟩ = some (.int .i64 mc) ∧ w'.cell? ⟨g, k * 4 + 2, none⟩ = some (.int .i64 ug) ∧ w'.cell? ⟨g, k * 4 + 3, none⟩ = some (.int .i64 uc) ∧ w'.cell? ⟨w.heap.size, 0, none⟩ = some (.int .i64 a) ∧ w'.cell? ⟨w.heap.size, 1, none⟩ = some (.int .i64 b)) wh2 := ⟨(hBh2.cell (p := ⟨p, 0, none⟩) (show p < w1.heap.size by omega)).trans c0, (hBh2.cell (p := ⟨g, k * 4, none⟩) (show g < w1.heap.size by omega)).trans d0, (hBh2.cell (p := ⟨g, k * 4 + 1, none⟩) (show g < w1.heap.size by omega)).trans d1, (hBh2.cell (p := ⟨g, k * 4 + 2, none⟩) (show g < w1.heap.size by omega)).trans d2, (hBh2.cell (p := ⟨g, k * 4 + 3, none⟩) (show g < w1.heap.size by omega)).trans d3, (hBh2.cell (p := ⟨w.heap.size, 0, none⟩) (show w.heap.size < w1.heap.size by omega)).trans e0, (hBh2.cell (p := ⟨w.heap.size, 1, none⟩) (show w.heap.size < w1.heap.size by omega)).trans e1⟩
    refine hK.out _ _ hSh2 ?_
    clear hK K
    refine held_take (v := ?_) 10 25 rfl rfl (by kernel_rfl) (by kernel_rfl) (by kernel_rfl) (fun _ _ _ h => h) ⟨by rfl, ?_⟩ hSh2 ?_
    rotate_left
    · intro w' hw'; obtain ⟨x0, x1, x2, x3, x4, x5, x6⟩ := hw'; go_simp; (try with_reducible rfl)
    simp only [Act.put, List.setIfInBounds_toArray, List.set_cons_zero, List.set_cons_succ]
    refine wpAnyH_done (by kernel_rfl) ?_ _
    have hB9 := HBw.out.1.trans (hBh2.mono hsz)
    have HS := Lib.hid hSh2
    have s9 := hBh2.size
    clear c0 d0 d1 d2 d3 e0 e1 f2 f3 y2 y3 hBh0 hBh1 hBh2 hSh0 hSh1 hSh2 hbh1 hbh2
    have HP9 := Lib.hid (And.intro (HP.out.keep hB9) hB9)
    clear hB9
    obtain ⟨c0, d0, d1, d2, d3, e0, e1⟩ := HS.out
    obtain ⟨_, _, _, _, f2, f3⟩ := HP9.out.1.cells HX.out.1
    have hbox : g ≠ w.heap.size := by omega
    go_wp2
    go_still_tail 15, (by kernel_rfl)
    change wpList _ _ _ _ _ wh2.drew
    go_wp2
    obtain ⟨W2, hW2⟩ : ∃ W2, W2 = (wh2.setCell ⟨g, k * 4 + 2, none⟩ (.int .i64 (ug + a))).drew := ⟨_, rfl⟩
    have q0 : W2.cell? ⟨p, 0, none⟩ = some (.slice (some ⟨g, 0, none⟩) n c) := by rw [hW2]; go_simp
    have q3 : W2.cell? ⟨g, k * 4 + 3, none⟩ = some (.int .i64 uc) := by rw [hW2]; go_simp
    have r3 : W2.frozen? ⟨g, k * 4 + 3, none⟩ = false := by rw [hW2]; go_simp
    have s3 : W2.cell? ⟨w.heap.size, 1, none⟩ = some (.int .i64 b) := by rw [hW2]; go_simp
    rw [← hW2]
    have HW2 := Lib.hid hW2
    clear hW2 c0 d0 d1 d2 d3 e0 e1 f2 f3
    go_still_tail 15, (by kernel_rfl)
    change wpList _ _ _ _ _ W2.drew
    go_wp2
    go_ret
    have hft : Foot (· = g) w (W2.setCell ⟨g, k * 4 + 3, none⟩ (.int .i64 (uc + b))).drew := by
      rw [HW2.out]
      refine (Foot.setCell (p := ⟨g, _, none⟩) (Foot.setCell (p := ⟨g, _, none⟩) (Foot.of_below HP9.out.2) (.inl ?_) _).drew (.inl ?_) _).drew <;> rfl
    exact ⟨rfl, HP.out.wrote ⟨ug + a, uc + b⟩ HX.out.1 HP9.out.2 ⟨HX.out.2.m, ⟨by simp only; omega, by simp only; omega⟩, ⟨by simp only; omega, by simp only; omega⟩⟩ hft (by rw [HW2.out]; rfl), hft⟩
set_option maxRecDepth 100000 in
set_option maxHeartbeats 4000000 in
theorem sub_q (p g c : Nat) (l : List Qa) (q : Int) (u : Un) (w : World) (h : QAt w p g c l) :
    Calls Tryz.prog 117 #[.pointer (some ⟨p, 0, none⟩), .int .i64 q, unV u] w fun e w' => e = .returned (.int .i64 (qSub l q u).1) ∧ QAt w' p g c (qSub l q u).2 ∧ Foot (· = g) w w' := by
  have hB1 := (Below.refl w.heap.size w).alloc (Nat.le_refl _) (.cells #[.int .i64 u.g, .int .i64 u.c] 58)
  have hC := Lib.hid (check_any p g c l q u _ (h.keep hB1))
  have HP := Lib.hid h
  have HB := Lib.hid hB1
  obtain ⟨R, hR⟩ : ∃ R, R = qSub l q u := ⟨_, rfl⟩
  rw [← hR]
  unfold checkQ at hC
  unfold qSub at hR
  cases hq : hasQ l q
  · rw [hq, if_pos rfl] at hC hR
    subst hR
    obtain ⟨a, b⟩ := u
    simp only [unV] at *
    clear h hB1 hq
    go_enter Tryz.func117, Tryz.ntmps117
    go_wp2_with (go_at_call 139; refine hC.out.mono ?_; rintro e w1 ⟨rfl, hb1⟩)
    go_ret
    have hB := below_step HB.out hb1
    exact ⟨rfl, HP.out.keep hB, Foot.of_below hB⟩
  rw [hq, if_neg (by simp)] at hC hR
  cases hm : mayU u
  · rw [hm, if_pos rfl] at hC hR
    subst hR
    obtain ⟨a, b⟩ := u
    simp only [unV] at *
    clear h hB1 hq hm
    go_enter Tryz.func117, Tryz.ntmps117
    go_wp2_with (go_at_call 139; refine hC.out.mono ?_; rintro e w1 ⟨rfl, hb1⟩)
    go_ret
    have hB := below_step HB.out hb1
    exact ⟨rfl, HP.out.keep hB, Foot.of_below hB⟩
  rw [hm, if_neg (by simp)] at hC hR
  obtain ⟨k, x, rfl, hkl, hx⟩ := hasQ_at hq
  simp only [Int.toNat_natCast, hx] at hR
  obtain ⟨l1, l2⟩ := h.lt
  have hne := h.ne
  have hok := h.ok x (List.mem_of_getElem? hx)
  obtain ⟨hm1, hm2, hm3, hm4⟩ := mayU_iff.1 hm
  obtain ⟨hx1, hx2, hx3, hx4⟩ := mayU_iff.1 hok.m
  obtain ⟨hg1, hg2⟩ := hok.g
  obtain ⟨hc1, hc2⟩ := hok.c
  have hfew := h.few
  have HX := Lib.hid (And.intro hx hok)
  obtain ⟨n, hn⟩ : ∃ n, n = l.length := ⟨_, rfl⟩
  rw [← hn] at hkl hfew
  have Hn := Lib.hid hn
  have bS := Lib.hid (heap_alloc_new w (.cells #[.int .i64 u.g, .int .i64 u.c] 58))
  obtain ⟨lt, hlt⟩ : ∃ lt, lt = leU u x.u := ⟨_, rfl⟩
  have hM := fun W => most_any u x.u W
  rw [← hlt] at hM hR
  have HM := Lib.hid hM
  have HR := Lib.hid hR
  have Hlt := Lib.hid hlt
  have HL := Lib.hid (fun (e : leU u x.u = true) W => less_any x.u u W ⟨hm1, (leU_iff.1 e).1, by omega, hm3, (leU_iff.1 e).2, by omega⟩)
  clear hM hlt
  clear h hB1 hq hm hx hok hn hR
  obtain ⟨⟨mg, mc⟩, ⟨ug, uc⟩⟩ := x
  obtain ⟨a, b⟩ := u
  simp only [unV, subU] at *
  go_enter Tryz.func117, Tryz.ntmps117
  go_wp2_with (go_at_call 139; refine hC.out.mono ?_; rintro e w1 ⟨rfl, hb1⟩)
  have hBw := below_step HB.out hb1
  have hP1 := HP.out.keep hBw
  have c0 := hP1.head
  rw [← Hn.out] at c0
  obtain ⟨d0, d1, d2, d3, f2, f3⟩ := hP1.cells HX.out.1
  simp only at d0 d1 d2 d3
  obtain ⟨e0, e1, y2, y3, y4⟩ := pair_at ((hb1.block w.heap.size (by simp)).trans bS.out)
  have hsz : w.heap.size ≤ w1.heap.size := hBw.size
  have HBw := Lib.hid (And.intro hBw hP1)
  clear hb1 hBw hP1
  go_wp2
  cases lt
  · have hR := HR.out
    rw [if_pos rfl] at hR
    subst hR
    refine held_begin (fun w' : World => w'.cell? ⟨p, 0, none⟩ = some (.slice (some ⟨g, 0, none⟩) n c) ∧ w'.cell? ⟨g, k * 4, none⟩ = some (.int .i64 mg) ∧ w'.cell? ⟨g, k * 4 + 1, none⟩ = some (.int .i64 mc) ∧ w'.cell? ⟨g, k * 4 + 2, none⟩ = some (.int .i64 ug) ∧ w'.cell? ⟨g, k * 4 + 3, none⟩ = some (.int .i64 uc) ∧ w'.cell? ⟨w.heap.size, 0, none⟩ = some (.int .i64 a) ∧ w'.cell? ⟨w.heap.size, 1, none⟩ = some (.int .i64 b)) (by kernel_rfl) ?_
    have hBh0 : Below w1.heap.size w1 w1.drew := (Below.refl _ _).drew
    have hSh0 : (fun w' : World => w'.cell? ⟨p, 0, none⟩ = some (.slice (some ⟨g, 0, none⟩) n c) ∧ w'.cell? ⟨g, k * 4, none⟩ = some (.int .i64 mg) ∧ w'.cell? ⟨g, k * 4 + 1, none⟩ = some (.int .i64 mc) ∧ w'.cell? ⟨g, k * 4 + 2, none⟩ = some (.int .i64 ug) ∧ w'.cell? ⟨g, k * 4 + 3, none⟩ = some (.int .i64 uc) ∧ w'.cell? ⟨w.heap.size, 0, none⟩ = some (.int .i64 a) ∧ w'.cell? ⟨w.heap.size, 1, none⟩ = some (.int .i64 b)) w1.drew := ⟨c0, d0, d1, d2, d3, e0, e1⟩
    refine held_take (v := ?_) 0 15 rfl rfl (by kernel_rfl) (by kernel_rfl) (by kernel_rfl) (fun _ _ _ h => h) ⟨by rfl, ?_⟩ hSh0 ?_
    rotate_left
    · intro w' hw'; obtain ⟨x0, x1, x2, x3, x4, x5, x6⟩ := hw'; go_simp; (try with_reducible rfl)
    simp only [Act.put, List.setIfInBounds_toArray, List.set_cons_zero, List.set_cons_succ]
    refine held_take (v := ?_) 1 16 rfl rfl (by kernel_rfl) (by kernel_rfl) (by kernel_rfl) (fun _ _ _ h => h) ⟨by rfl, ?_⟩ hSh0 ?_
    rotate_left
    · intro w' hw'; obtain ⟨x0, x1, x2, x3, x4, x5, x6⟩ := hw'; go_simp; (try with_reducible rfl)
    simp only [Act.put, List.setIfInBounds_toArray, List.set_cons_zero, List.set_cons_succ]
    refine held_take (v := ?_) 2 17 rfl rfl (by kernel_rfl) (by kernel_rfl) (by kernel_rfl) (fun _ _ _ h => h) ⟨by rfl, ?_⟩ hSh0 ?_
    rotate_left
    · intro w' hw'; obtain ⟨x0, x1, x2, x3, x4, x5, x6⟩ := hw'; go_simp; (try with_reducible rfl)
    simp only [Act.put, List.setIfInBounds_toArray, List.set_cons_zero, List.set_cons_succ]
    refine held_take (v := ?_) 3 18 rfl rfl (by kernel_rfl) (by kernel_rfl) (by kernel_rfl) (fun _ _ _ h => h) ⟨by rfl, ?_⟩ hSh0 ?_
    rotate_left
    · intro w' hw'; obtain ⟨x0, x1, x2, x3, x4, x5, x6⟩ := hw'; go_simp; (try with_reducible rfl)
    simp only [Act.put, List.setIfInBounds_toArray, List.set_cons_zero, List.set_cons_succ]
    refine held_take (v := ?_) 4 19 rfl rfl (by kernel_rfl) (by kernel_rfl) (by kernel_rfl) (fun _ _ _ h => h) ⟨by rfl, ?_⟩ hSh0 ?_
    rotate_left
    · intro w' hw'; obtain ⟨x0, x1, x2, x3, x4, x5, x6⟩ := hw'; go_simp; (try with_reducible rfl)
    simp only [Act.put, List.setIfInBounds_toArray, List.set_cons_zero, List.set_cons_succ]
    refine held_take (v := ?_) 5 20 rfl rfl (by kernel_rfl) (by kernel_rfl) (by kernel_rfl) (fun _ _ _ h => h) ⟨by rfl, ?_⟩ hSh0 ?_
    rotate_left
    · intro w' hw'; obtain ⟨x0, x1, x2, x3, x4, x5, x6⟩ := hw'; go_simp; (try with_reducible rfl)
    simp only [Act.put, List.setIfInBounds_toArray, List.set_cons_zero, List.set_cons_succ]
    refine held_take (v := ?_) 6 21 rfl rfl (by kernel_rfl) (by kernel_rfl) (by kernel_rfl) (fun _ _ _ h => h) ⟨by rfl, ?_⟩ hSh0 ?_
    rotate_left
    · intro w' hw'; obtain ⟨x0, x1, x2, x3, x4, x5, x6⟩ := hw'; go_simp; (try with_reducible rfl)
    simp only [Act.put, List.setIfInBounds_toArray, List.set_cons_zero, List.set_cons_succ]
    refine held_take (v := ?_) 7 22 rfl rfl (by kernel_rfl) (by kernel_rfl) (by kernel_rfl) (fun _ _ _ h => h) ⟨by rfl, ?_⟩ hSh0 ?_
    rotate_left
    · intro w' hw'; obtain ⟨x0, x1, x2, x3, x4, x5, x6⟩ := hw'; go_simp; (try with_reducible rfl)
    simp only [Act.put, List.setIfInBounds_toArray, List.set_cons_zero, List.set_cons_succ]
    refine held_take (v := ?_) 8 23 rfl rfl (by kernel_rfl) (by kernel_rfl) (by kernel_rfl) (fun _ _ _ h => h) ⟨by rfl, ?_⟩ hSh0 ?_
    rotate_left
    · intro w' hw'; obtain ⟨x0, x1, x2, x3, x4, x5, x6⟩ := hw'; go_simp; (try with_reducible rfl)
    simp only [Act.put, List.setIfInBounds_toArray, List.set_cons_zero, List.set_cons_succ]
    refine held_one 9 rfl (by kernel_rfl) (by rfl) (fun K hK => ?_)
    go_simp
    go_at_call 114
    refine (HM.out _).mono ?_
    rintro e wh1 ⟨rfl, hbh1⟩
    have hBh1 : Below w1.heap.size w1 wh1 := below_step hBh0 hbh1
    have hSh1 : (fun w' : World => w'.cell? ⟨p, 0, none⟩ = some (.slice (some ⟨g, 0, none⟩) n c) ∧ w'.cell? ⟨g, k * 4, none⟩ = some (.int .i64 mg) ∧ w'.cell? ⟨g, k * 4 + 1, none⟩ = some (.int .i64 mc) ∧ w'.cell? ⟨g, k * 4 + 2, none⟩ = some (.int .i64 ug) ∧ w'.cell? ⟨g, k * 4 + 3, none⟩ = some (.int .i64 uc) ∧ w'.cell? ⟨w.heap.size, 0, none⟩ = some (.int .i64 a) ∧ w'.cell? ⟨w.heap.size, 1, none⟩ = some (.int .i64 b)) wh1 := ⟨(hBh1.cell (p := ⟨p, 0, none⟩) (show p < w1.heap.size by omega)).trans c0, (hBh1.cell (p := ⟨g, k * 4, none⟩) (show g < w1.heap.size by omega)).trans d0, (hBh1.cell (p := ⟨g, k * 4 + 1, none⟩) (show g < w1.heap.size by omega)).trans d1, (hBh1.cell (p := ⟨g, k * 4 + 2, none⟩) (show g < w1.heap.size by omega)).trans d2, (hBh1.cell (p := ⟨g, k * 4 + 3, none⟩) (show g < w1.heap.size by omega)).trans d3, (hBh1.cell (p := ⟨w.heap.size, 0, none⟩) (show w.heap.size < w1.heap.size by omega)).trans e0, (hBh1.cell (p := ⟨w.heap.size, 1, none⟩) (show w.heap.size < w1.heap.size by omega)).trans e1⟩
    refine hK.out _ _ hSh1 ?_
    clear hK K
    refine held_take (v := ?_) 10 25 rfl rfl (by kernel_rfl) (by kernel_rfl) (by kernel_rfl) (fun _ _ _ h => h) ⟨by rfl, ?_⟩ hSh1 ?_
    rotate_left
    · intro w' hw'; obtain ⟨x0, x1, x2, x3, x4, x5, x6⟩ := hw'; go_simp; (try with_reducible rfl)
    simp only [Act.put, List.setIfInBounds_toArray, List.set_cons_zero, List.set_cons_succ]
    refine wpAnyH_done (by kernel_rfl) ?_ _
    go_wp2
    go_ret
    have hB9 := HBw.out.1.trans (hBh1.mono hsz)
    exact ⟨rfl, HP.out.keep hB9, Foot.of_below hB9⟩
  · have hR := HR.out
    rw [if_neg (by simp)] at hR
    obtain ⟨le1, le2⟩ := leU_iff.1 Hlt.out.symm
    have HL2 := Lib.hid (HL.out Hlt.out.symm)
    simp only at le1 le2
    subst hR
    refine held_begin (fun w' : World => w'.cell? ⟨p, 0, none⟩ = some (.slice (some ⟨g, 0, none⟩) n c) ∧ w'.cell? ⟨g, k * 4, none⟩ = some (.int .i64 mg) ∧ w'.cell? ⟨g, k * 4 + 1, none⟩ = some (.int .i64 mc) ∧ w'.cell? ⟨g, k * 4 + 2, none⟩ = some (.int .i64 ug) ∧ w'.cell? ⟨g, k * 4 + 3, none⟩ = some (.int .i64 uc) ∧ w'.cell? ⟨w.heap.size, 0, none⟩ = some (.int .i64 a) ∧ w'.cell? ⟨w.heap.size, 1, none⟩ = some (.int .i64 b)) (by kernel_rfl) ?_
    have hBh0 : Below w1.heap.size w1 w1.drew := (Below.refl _ _).drew
    have hSh0 : (fun w' : World => w'.cell? ⟨p, 0, none⟩ = some (.slice (some ⟨g, 0, none⟩) n c) ∧ w'.cell? ⟨g, k * 4, none⟩ = some (.int .i64 mg) ∧ w'.cell? ⟨g, k * 4 + 1, none⟩ = some (.int .i64 mc) ∧ w'.cell? ⟨g, k * 4 + 2, none⟩ = some (.int .i64 ug) ∧ w'.cell? ⟨g, k * 4 + 3, none⟩ = some (.int .i64 uc) ∧ w'.cell? ⟨w.heap.size, 0, none⟩ = some (.int .i64 a) ∧ w'.cell? ⟨w.heap.size, 1, none⟩ = some (.int .i64 b)) w1.drew := ⟨c0, d0, d1, d2, d3, e0, e1⟩
    refine held_take (v := ?_) 0 15 rfl rfl (by kernel_rfl) (by kernel_rfl) (by kernel_rfl) (fun _ _ _ h => h) ⟨by rfl, ?_⟩ hSh0 ?_
    rotate_left
    · intro w' hw'; obtain ⟨x0, x1, x2, x3, x4, x5, x6⟩ := hw'; go_simp; (try with_reducible rfl)
    simp only [Act.put, List.setIfInBounds_toArray, List.set_cons_zero, List.set_cons_succ]
    refine held_take (v := ?_) 1 16 rfl rfl (by kernel_rfl) (by kernel_rfl) (by kernel_rfl) (fun _ _ _ h => h) ⟨by rfl, ?_⟩ hSh0 ?_
    rotate_left
    · intro w' hw'; obtain ⟨x0, x1, x2, x3, x4, x5, x6⟩ := hw'; go_simp; (try with_reducible rfl)
    simp only [Act.put, List.setIfInBounds_toArray, List.set_cons_zero, List.set_cons_succ]
    refine held_take (v := ?_) 2 17 rfl rfl (by kernel_rfl) (by kernel_rfl) (by kernel_rfl) (fun _ _ _ h => h) ⟨by rfl, ?_⟩ hSh0 ?_
    rotate_left
    · intro w' hw'; obtain ⟨x0, x1, x2, x3, x4, x5, x6⟩ := hw'; go_simp; (try with_reducible rfl)
    simp only [Act.put, List.setIfInBounds_toArray, List.set_cons_zero, List.set_cons_succ]
    refine held_take (v := ?_) 3 18 rfl rfl (by kernel_rfl) (by kernel_rfl) (by kernel_rfl) (fun _ _ _ h => h) ⟨by rfl, ?_⟩ hSh0 ?_
    rotate_left
    · intro w' hw'; obtain ⟨x0, x1, x2, x3, x4, x5, x6⟩ := hw'; go_simp; (try with_reducible rfl)
    simp only [Act.put, List.setIfInBounds_toArray, List.set_cons_zero, List.set_cons_succ]
    refine held_take (v := ?_) 4 19 rfl rfl (by kernel_rfl) (by kernel_rfl) (by kernel_rfl) (fun _ _ _ h => h) ⟨by rfl, ?_⟩ hSh0 ?_
    rotate_left
    · intro w' hw'; obtain ⟨x0, x1, x2, x3, x4, x5, x6⟩ := hw'; go_simp; (try with_reducible rfl)
    simp only [Act.put, List.setIfInBounds_toArray, List.set_cons_zero, List.set_cons_succ]
    refine held_take (v := ?_) 5 20 rfl rfl (by kernel_rfl) (by kernel_rfl) (by kernel_rfl) (fun _ _ _ h => h) ⟨by rfl, ?_⟩ hSh0 ?_
    rotate_left
    · intro w' hw'; obtain ⟨x0, x1, x2, x3, x4, x5, x6⟩ := hw'; go_simp; (try with_reducible rfl)
    simp only [Act.put, List.setIfInBounds_toArray, List.set_cons_zero, List.set_cons_succ]
    refine held_take (v := ?_) 6 21 rfl rfl (by kernel_rfl) (by kernel_rfl) (by kernel_rfl) (fun _ _ _ h => h) ⟨by rfl, ?_⟩ hSh0 ?_
    rotate_left
    · intro w' hw'; obtain ⟨x0, x1, x2, x3, x4, x5, x6⟩ := hw'; go_simp; (try with_reducible rfl)
    simp only [Act.put, List.setIfInBounds_toArray, List.set_cons_zero, List.set_cons_succ]
    refine held_take (v := ?_) 7 22 rfl rfl (by kernel_rfl) (by kernel_rfl) (by kernel_rfl) (fun _ _ _ h => h) ⟨by rfl, ?_⟩ hSh0 ?_
    rotate_left
    · intro w' hw'; obtain ⟨x0, x1, x2, x3, x4, x5, x6⟩ := hw'; go_simp; (try with_reducible rfl)
    simp only [Act.put, List.setIfInBounds_toArray, List.set_cons_zero, List.set_cons_succ]
    refine held_take (v := ?_) 8 23 rfl rfl (by kernel_rfl) (by kernel_rfl) (by kernel_rfl) (fun _ _ _ h => h) ⟨by rfl, ?_⟩ hSh0 ?_
    rotate_left
    · intro w' hw'; obtain ⟨x0, x1, x2, x3, x4, x5, x6⟩ := hw'; go_simp; (try with_reducible rfl)
    simp only [Act.put, List.setIfInBounds_toArray, List.set_cons_zero, List.set_cons_succ]
    refine held_one 9 rfl (by kernel_rfl) (by rfl) (fun K hK => ?_)
    go_simp
    go_at_call 114
    refine (HM.out _).mono ?_
    rintro e wh1 ⟨rfl, hbh1⟩
    have hBh1 : Below w1.heap.size w1 wh1 := below_step hBh0 hbh1
    have hSh1 : (fun w' : World => w'.cell? ⟨p, 0, none⟩ = some (.slice (some ⟨g, 0, none⟩) n c) ∧ w'.cell? ⟨g, k * 4, none⟩ = some (.int .i64 mg) ∧ w'.cell? ⟨g, k * 4 + 1, none⟩ = some (.int .i64 mc) ∧ w'.cell? ⟨g, k * 4 + 2, none⟩ = some (.int .i64 ug) ∧ w'.cell? ⟨g, k * 4 + 3, none⟩ = some (.int .i64 uc) ∧ w'.cell? ⟨w.heap.size, 0, none⟩ = some (.int .i64 a) ∧ w'.cell? ⟨w.heap.size, 1, none⟩ = some (.int .i64 b)) wh1 := ⟨(hBh1.cell (p := ⟨p, 0, none⟩) (show p < w1.heap.size by omega)).trans c0, (hBh1.cell (p := ⟨g, k * 4, none⟩) (show g < w1.heap.size by omega)).trans d0, (hBh1.cell (p := ⟨g, k * 4 + 1, none⟩) (show g < w1.heap.size by omega)).trans d1, (hBh1.cell (p := ⟨g, k * 4 + 2, none⟩) (show g < w1.heap.size by omega)).trans d2, (hBh1.cell (p := ⟨g, k * 4 + 3, none⟩) (show g < w1.heap.size by omega)).trans d3, (hBh1.cell (p := ⟨w.heap.size, 0, none⟩) (show w.heap.size < w1.heap.size by omega)).trans e0, (hBh1.cell (p := ⟨w.heap.size, 1, none⟩) (show w.heap.size < w1.heap.size by omega)).trans e1⟩
    refine hK.out _ _ hSh1 ?_
    clear hK K
    refine held_take (v := ?_) 10 25 rfl rfl (by kernel_rfl) (by kernel_rfl) (by kernel_rfl) (fun _ _ _ h => h) ⟨by rfl, ?_⟩ hSh1 ?_
    rotate_left
    · intro w' hw'; obtain ⟨x0, x1, x2, x3, x4, x5, x6⟩ := hw'; go_simp; (try with_reducible rfl)
    simp only [Act.put, List.setIfInBounds_toArray, List.set_cons_zero, List.set_cons_succ]
    refine wpAnyH_done (by kernel_rfl) ?_ _
    have hB9 := HBw.out.1.trans (hBh1.mono hsz)
    have HS := Lib.hid hSh1
    have s9 := hBh1.size
    clear c0 d0 d1 d2 d3 e0 e1 f2 f3 y2 y3 HL hBh0 hBh1 hSh0 hSh1 hbh1
    have HP9 := Lib.hid (And.intro (HP.out.keep hB9) hB9)
    clear hB9
    obtain ⟨c0, d0, d1, d2, d3, e0, e1⟩ := HS.out
    obtain ⟨X, hX⟩ : ∃ X, X = ug - a := ⟨_, rfl⟩
    obtain ⟨Y, hY⟩ : ∃ Y, Y = uc - b := ⟨_, rfl⟩
    rw [← hX, ← hY] at HL2
    have HXY := Lib.hid (And.intro hX hY)
    clear hX hY
    go_wp2
    refine wp_until (fun w' : World => w'.cell? ⟨p, 0, none⟩ = some (.slice (some ⟨g, 0, none⟩) n c) ∧ w'.cell? ⟨g, k * 4, none⟩ = some (.int .i64 mg) ∧ w'.cell? ⟨g, k * 4 + 1, none⟩ = some (.int .i64 mc) ∧ w'.cell? ⟨g, k * 4 + 2, none⟩ = some (.int .i64 ug) ∧ w'.cell? ⟨g, k * 4 + 3, none⟩ = some (.int .i64 uc) ∧ w'.cell? ⟨w.heap.size, 0, none⟩ = some (.int .i64 a) ∧ w'.cell? ⟨w.heap.size, 1, none⟩ = some (.int .i64 b)) 17 (by kernel_rfl) ?_
    have hBz0 : Below wh1.heap.size wh1 wh1.drew := (Below.refl _ _).drew
    have hSz0 : (fun w' : World => w'.cell? ⟨p, 0, none⟩ = some (.slice (some ⟨g, 0, none⟩) n c) ∧ w'.cell? ⟨g, k * 4, none⟩ = some (.int .i64 mg) ∧ w'.cell? ⟨g, k * 4 + 1, none⟩ = some (.int .i64 mc) ∧ w'.cell? ⟨g, k * 4 + 2, none⟩ = some (.int .i64 ug) ∧ w'.cell? ⟨g, k * 4 + 3, none⟩ = some (.int .i64 uc) ∧ w'.cell? ⟨w.heap.size, 0, none⟩ = some (.int .i64 a) ∧ w'.cell? ⟨w.heap.size, 1, none⟩ = some (.int .i64 b)) wh1.drew := ⟨c0, d0, d1, d2, d3, e0, e1⟩
    refine until_take (v := ?_) 0 26 rfl rfl (by kernel_rfl) (by kernel_rfl) (by kernel_rfl) (by kernel_rfl) (fun _ _ _ h => h) ⟨by rfl, ?_⟩ hSz0 ?_
    rotate_left
    · intro w' hw'; obtain ⟨x0, x1, x2, x3, x4, x5, x6⟩ := hw'; go_simp; (try with_reducible rfl)
    simp only [Act.put, List.setIfInBounds_toArray, List.set_cons_zero, List.set_cons_succ]
    refine until_take (v := ?_) 1 27 rfl rfl (by kernel_rfl) (by kernel_rfl) (by kernel_rfl) (by kernel_rfl) (fun _ _ _ h => h) ⟨by rfl, ?_⟩ hSz0 ?_
    rotate_left
    · intro w' hw'; obtain ⟨x0, x1, x2, x3, x4, x5, x6⟩ := hw'; go_simp; (try with_reducible rfl)
    simp only [Act.put, List.setIfInBounds_toArray, List.set_cons_zero, List.set_cons_succ]
    refine until_take (v := ?_) 2 28 rfl rfl (by kernel_rfl) (by kernel_rfl) (by kernel_rfl) (by kernel_rfl) (fun _ _ _ h => h) ⟨by rfl, ?_⟩ hSz0 ?_
    rotate_left
    · intro w' hw'; obtain ⟨x0, x1, x2, x3, x4, x5, x6⟩ := hw'; go_simp; (try with_reducible rfl)
    simp only [Act.put, List.setIfInBounds_toArray, List.set_cons_zero, List.set_cons_succ]
    refine until_take (v := ?_) 3 29 rfl rfl (by kernel_rfl) (by kernel_rfl) (by kernel_rfl) (by kernel_rfl) (fun _ _ _ h => h) ⟨by rfl, ?_⟩ hSz0 ?_
    rotate_left
    · intro w' hw'; obtain ⟨x0, x1, x2, x3, x4, x5, x6⟩ := hw'; go_simp; (try with_reducible rfl)
    simp only [Act.put, List.setIfInBounds_toArray, List.set_cons_zero, List.set_cons_succ]
    refine until_take (v := ?_) 4 30 rfl rfl (by kernel_rfl) (by kernel_rfl) (by kernel_rfl) (by kernel_rfl) (fun _ _ _ h => h) ⟨by rfl, ?_⟩ hSz0 ?_
    rotate_left
    · intro w' hw'; obtain ⟨x0, x1, x2, x3, x4, x5, x6⟩ := hw'; go_simp; (try with_reducible rfl)
    simp only [Act.put, List.setIfInBounds_toArray, List.set_cons_zero, List.set_cons_succ]
    refine until_take (v := ?_) 5 31 rfl rfl (by kernel_rfl) (by kernel_rfl) (by kernel_rfl) (by kernel_rfl) (fun _ _ _ h => h) ⟨by rfl, ?_⟩ hSz0 ?_
    rotate_left
    · intro w' hw'; obtain ⟨x0, x1, x2, x3, x4, x5, x6⟩ := hw'; go_simp; (try with_reducible rfl)
    simp only [Act.put, List.setIfInBounds_toArray, List.set_cons_zero, List.set_cons_succ]
    refine until_take (v := ?_) 6 32 rfl rfl (by kernel_rfl) (by kernel_rfl) (by kernel_rfl) (by kernel_rfl) (fun _ _ _ h => h) ⟨by rfl, ?_⟩ hSz0 ?_
    rotate_left
    · intro w' hw'; obtain ⟨x0, x1, x2, x3, x4, x5, x6⟩ := hw'; go_simp; (try with_reducible rfl)
    simp only [Act.put, List.setIfInBounds_toArray, List.set_cons_zero, List.set_cons_succ]
    refine until_take (v := ?_) 7 33 rfl rfl (by kernel_rfl) (by kernel_rfl) (by kernel_rfl) (by kernel_rfl) (fun _ _ _ h => h) ⟨by rfl, ?_⟩ hSz0 ?_
    rotate_left
    · intro w' hw'; obtain ⟨x0, x1, x2, x3, x4, x5, x6⟩ := hw'; go_simp; (try with_reducible rfl)
    simp only [Act.put, List.setIfInBounds_toArray, List.set_cons_zero, List.set_cons_succ]
    refine until_take (v := ?_) 8 34 rfl rfl (by kernel_rfl) (by kernel_rfl) (by kernel_rfl) (by kernel_rfl) (fun _ _ _ h => h) ⟨by rfl, ?_⟩ hSz0 ?_
    rotate_left
    · intro w' hw'; obtain ⟨x0, x1, x2, x3, x4, x5, x6⟩ := hw'; go_simp; (try with_reducible rfl)
    simp only [Act.put, List.setIfInBounds_toArray, List.set_cons_zero, List.set_cons_succ]
    refine until_take (v := ?_) 9 35 rfl rfl (by kernel_rfl) (by kernel_rfl) (by kernel_rfl) (by kernel_rfl) (fun _ _ _ h => h) ⟨by rfl, ?_⟩ hSz0 ?_
    rotate_left
    · intro w' hw'; obtain ⟨x0, x1, x2, x3, x4, x5, x6⟩ := hw'; go_simp; (try with_reducible rfl)
    simp only [Act.put, List.setIfInBounds_toArray, List.set_cons_zero, List.set_cons_succ]
    refine until_take (v := ?_) 10 36 rfl rfl (by kernel_rfl) (by kernel_rfl) (by kernel_rfl) (by kernel_rfl) (fun _ _ _ h => h) ⟨by rfl, ?_⟩ hSz0 ?_
    rotate_left
    · intro w' hw'; obtain ⟨x0, x1, x2, x3, x4, x5, x6⟩ := hw'; go_simp; (try with_reducible rfl)
    simp only [Act.put, List.setIfInBounds_toArray, List.set_cons_zero, List.set_cons_succ]
    refine until_take (v := ?_) 11 37 rfl rfl (by kernel_rfl) (by kernel_rfl) (by kernel_rfl) (by kernel_rfl) (fun _ _ _ h => h) ⟨by rfl, ?_⟩ hSz0 ?_
    rotate_left
    · intro w' hw'; obtain ⟨x0, x1, x2, x3, x4, x5, x6⟩ := hw'; go_simp; (try with_reducible rfl)
    simp only [Act.put, List.setIfInBounds_toArray, List.set_cons_zero, List.set_cons_succ]
    refine until_take (v := ?_) 12 38 rfl rfl (by kernel_rfl) (by kernel_rfl) (by kernel_rfl) (by kernel_rfl) (fun _ _ _ h => h) ⟨by rfl, ?_⟩ hSz0 ?_
    rotate_left
    · intro w' hw'; obtain ⟨x0, x1, x2, x3, x4, x5, x6⟩ := hw'; go_simp; (try with_reducible rfl)
    simp only [Act.put, List.setIfInBounds_toArray, List.set_cons_zero, List.set_cons_succ]
    refine until_take (v := ?_) 13 39 rfl rfl (by kernel_rfl) (by kernel_rfl) (by kernel_rfl) (by kernel_rfl) (fun _ _ _ h => h) ⟨by rfl, ?_⟩ hSz0 ?_
    rotate_left
    · intro w' hw'; obtain ⟨x0, x1, x2, x3, x4, x5, x6⟩ := hw'; go_simp; (try with_reducible rfl)
    simp only [Act.put, List.setIfInBounds_toArray, List.set_cons_zero, List.set_cons_succ]
    refine until_one 14 rfl (by kernel_rfl) rfl (fun K hK => ?_)
    go_simp
    go_at_call 146
    refine (HL2.out _).mono ?_
    rintro e wz1 ⟨rfl, hbz1⟩
    have hBz1 : Below wh1.heap.size wh1 wz1 := below_step hBz0 hbz1
    have hSz1 : (fun w' : World => w'.cell? ⟨p, 0, none⟩ = some (.slice (some ⟨g, 0, none⟩) n c) ∧ w'.cell? ⟨g, k * 4, none⟩ = some (.int .i64 mg) ∧ w'.cell? ⟨g, k * 4 + 1, none⟩ = some (.int .i64 mc) ∧ w'.cell? ⟨g, k * 4 + 2, none⟩ = some (.int .i64 ug) ∧ w'.cell? ⟨g, k * 4 + 3, none⟩ = some (.int .i64 uc) ∧ w'.cell? ⟨w.heap.size, 0, none⟩ = some (.int .i64 a) ∧ w'.cell? ⟨w.heap.size, 1, none⟩ = some (.int .i64 b)) wz1 := ⟨(hBz1.cell (p := ⟨p, 0, none⟩) (show p < wh1.heap.size by omega)).trans c0, (hBz1.cell (p := ⟨g, k * 4, none⟩) (show g < wh1.heap.size by omega)).trans d0, (hBz1.cell (p := ⟨g, k * 4 + 1, none⟩) (show g < wh1.heap.size by omega)).trans d1, (hBz1.cell (p := ⟨g, k * 4 + 2, none⟩) (show g < wh1.heap.size by omega)).trans d2, (hBz1.cell (p := ⟨g, k * 4 + 3, none⟩) (show g < wh1.heap.size by omega)).trans d3, (hBz1.cell (p := ⟨w.heap.size, 0, none⟩) (show w.heap.size < wh1.heap.size by omega)).trans e0, (hBz1.cell (p := ⟨w.heap.size, 1, none⟩) (show w.heap.size < wh1.heap.size by omega)).trans e1⟩
    obtain ⟨_, _, _, _, f2, f3⟩ := (HP9.out.1.keep hBz1).cells HX.out.1
    have HBz := Lib.hid (HP9.out.2.trans (hBz1.mono HP9.out.2.size))
    refine hK.out _ _ (fun _ => hSz1) ?_
    clear hK K
    refine until_one 15 rfl (by kernel_rfl) rfl (fun K hK => ?_)
    go_simp
    refine hK.out _ _ (fun _ => hSz1) ?_
    clear hK K
    try simp only [Act.put, List.setIfInBounds_toArray, List.set_cons_zero, List.set_cons_succ]
    refine until_one 16 rfl (by kernel_rfl) rfl (fun K hK => ?_)
    go_simp
    refine hK.out _ _ (fun _ => hSz1) ?_
    clear hK K
    try simp only [Act.put, List.setIfInBounds_toArray, List.set_cons_zero, List.set_cons_succ]
    refine until_one 17 rfl (by kernel_rfl) rfl (fun K hK => ?_)
    obtain ⟨c0, d0, d1, d2, d3, e0, e1⟩ := hSz1
    go_simp
    refine hK.out _ _ (fun h => absurd h (by decide)) ?_
    clear hK K
    refine until_done (by kernel_rfl) ?_
    go_wp2
    go_ret
    have hft : Foot (· = g) w ((wz1.setCell ⟨g, k * 4 + 2, none⟩ (.int .i64 X)).setCell ⟨g, k * 4 + 3, none⟩ (.int .i64 Y)) := by
      refine Foot.setCell (p := ⟨g, _, none⟩) (Foot.setCell (p := ⟨g, _, none⟩) (Foot.of_below HBz.out) (.inl ?_) _) (.inl ?_) _ <;> rfl
    obtain ⟨rfl, rfl⟩ := HXY.out
    exact ⟨rfl, HP.out.wrote ⟨ug - a, uc - b⟩ HX.out.1 HBz.out ⟨HX.out.2.m, ⟨by simp only; omega, by simp only; omega⟩, ⟨by simp only; omega, by simp only; omega⟩⟩ hft rfl, hft⟩
end Go.Proofs.YtkhbbfpajiimaaaGreat
