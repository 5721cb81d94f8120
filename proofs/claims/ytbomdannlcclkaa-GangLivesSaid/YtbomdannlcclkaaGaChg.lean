/- Gangs: what happens to a record. -/
import Derived.Deep.QuietTactic
import Derived.RegionTactic
import Derived.BigRegion
import Derived.Test.YtbomdannlcclkaaGaBase
set_option linter.unusedVariables false
namespace Go.Proofs.Ytbomdannlcclkaa
open Go.RowKit
theorem run_load_shp {oi : Oper} {ρ : Operand → Value} {W : World} {y : Operand} {g o : Nat} {a b c d : Int} (ho : oi.op = .load 38 y) (hy : ρ y = .pointer (some ⟨g, o, none⟩)) (h : CellsAt W g o [.int .i64 a, .int .i64 b, .int .i64 c, .int .i64 d]) :
    (execOp ρ oi).run Try.prog W = .ok (.value (.agg #[.int .i64 a, .int .i64 b, .int .i64 c, .int .i64 d])) W := by
  have hl : (loadCells ⟨g, o, none⟩ 4).run Try.prog W = .ok #[.int .i64 a, .int .i64 b, .int .i64 c, .int .i64 d] W := run_loadCells_list (P := Try.prog) W ⟨g, o, none⟩ [.int .i64 a, .int .i64 b, .int .i64 c, .int .i64 d] fun j v hv => by rw [Addr.add_lit]; exact h j v hv
  have ha : (isAgg 38).run Try.prog W = .ok true W := by
    unfold isAgg
    rw [Sem.run_bind, run_underlying Try.underlying38 W]
    simp
  unfold execOp
  simp only [ho, hy, Instr.loadAt, Instr.sureAddr, Sem.run_bind, Sem.run_pure, Result.andThen_ok, loadVar, ha, if_true, Try.sizeOf38, hl]
/-- A record's shape. -/
theorem shp_at {w : World} {b : Nat} {x : Rc} (h : w.heap[b]? = some (rcO x)) : CellsAt w b 4 [.int .i64 x.g, .int .i64 x.c, .int .i64 x.mn, .int .i64 x.mx] := fun r v hr => by
  refine cell_blk h ?_
  have hl := (List.getElem?_eq_some_iff.1 hr).1
  simp at hl
  obtain rfl | rfl | rfl | rfl : r = 0 ∨ r = 1 ∨ r = 2 ∨ r = 3 := by omega
  all_goals (simp at hr; subst hr; rfl)
theorem rc_put {w : World} {b i : Nat} {x y : Rc} (v : Value) (h : w.heap[b]? = some (rcO x)) (e : (rcA x).setIfInBounds i v = rcA y) : (w.setCell ⟨b, i, none⟩ v).heap[b]? = some (rcO y) := by
  have := blk_put (i := i) v h
  rw [e] at this
  exact this
set_option maxHeartbeats 2000000 in
theorem lead_any (b : Nat) (x : Rc) (v : Int) (w : World) (h : w.heap[b]? = some (rcO x)) :
    Calls Try.prog 42 #[.pointer (some ⟨b, 0, none⟩), .int .i64 v] w fun e w' => e = .returned (.int .i64 (GL.nextE x.st v)) ∧ w'.heap[b]? = some (rcO (if GL.nextE x.st v = 0 then GL.ledR x v else x)) ∧ Foot (· = b) w w' := by
  have c0 : w.cell? ⟨b, 8, none⟩ = some (.int .i64 x.st) := cell_blk h rfl
  have HN := Lib.hid (next_any x.st v w)
  have HH := Lib.hid h
  have lb := blk_lt h
  obtain ⟨s, hs⟩ : ∃ s, s = GL.nextS x.st v := ⟨_, rfl⟩
  obtain ⟨d, hd⟩ : ∃ d, d = GL.nextE x.st v := ⟨_, rfl⟩
  rw [← hs, ← hd] at HN
  rw [← hd]
  have HL : Hid (GL.ledR x v = { x with st := s, li := 0, wo := 0, me := if s = 3 then x.me else 0 }) := Lib.hid (by rw [hs]; rfl)
  clear hs hd h
  by_cases h0 : d = 0
  · subst h0
    rw [if_pos rfl, HL.out]
    by_cases h3 : s = 3
    · subst h3
      go_enter Try.func42, Try.ntmps42
      go_wp2_with fail
      refine HN.out.mono ?_
      rintro e w1 ⟨rfl, hb⟩
      have h1 := (hb.block b lb).trans HH.out
      have H1 := Lib.hid (And.intro h1 (Foot.of_below (F := (· = b)) hb))
      have f1 := frozen_blk (i := 8) h1
      have f2 := frozen_blk (i := 14) h1
      have f3 := frozen_blk (i := 15) h1
      have f4 := frozen_blk (i := 11) h1
      have d1 : w1.cell? ⟨b, 8, none⟩ = some (.int .i64 x.st) := cell_blk h1 rfl
      have d2 : w1.cell? ⟨b, 14, none⟩ = some (.int .i64 x.li) := cell_blk h1 rfl
      have d3 : w1.cell? ⟨b, 15, none⟩ = some (.int .i64 x.wo) := cell_blk h1 rfl
      have d4 : w1.cell? ⟨b, 11, none⟩ = some (.int .i64 x.me) := cell_blk h1 rfl
      clear hb h1 c0 HN
      go_wp2
      go_ret
      refine ⟨by simp, ?_, ((H1.out.2.setCell (.inl rfl) _).setCell (.inl rfl) _).setCell (.inl rfl) _⟩
      exact rc_put _ (rc_put (y := { x with st := 3, li := 0 }) _ (rc_put (y := { x with st := 3 }) _ H1.out.1 rfl) rfl) rfl
    · have t3 : (s == 3) = false := by simpa using h3
      rw [if_neg h3]
      have t4 : (s != 3) = true := by simpa using h3
      go_enter Try.func42, Try.ntmps42
      go_wp2_with fail
      refine HN.out.mono ?_
      rintro e w1 ⟨rfl, hb⟩
      have h1 := (hb.block b lb).trans HH.out
      have H1 := Lib.hid (And.intro h1 (Foot.of_below (F := (· = b)) hb))
      have f1 := frozen_blk (i := 8) h1
      have f2 := frozen_blk (i := 14) h1
      have f3 := frozen_blk (i := 15) h1
      have f4 := frozen_blk (i := 11) h1
      have d1 : w1.cell? ⟨b, 8, none⟩ = some (.int .i64 x.st) := cell_blk h1 rfl
      have d2 : w1.cell? ⟨b, 14, none⟩ = some (.int .i64 x.li) := cell_blk h1 rfl
      have d3 : w1.cell? ⟨b, 15, none⟩ = some (.int .i64 x.wo) := cell_blk h1 rfl
      have d4 : w1.cell? ⟨b, 11, none⟩ = some (.int .i64 x.me) := cell_blk h1 rfl
      clear hb h1 c0 HN
      go_wp2
      go_ret
      refine ⟨by simp, ?_, (((H1.out.2.setCell (.inl rfl) _).setCell (.inl rfl) _).setCell (.inl rfl) _).setCell (.inl rfl) _⟩
      exact rc_put _ (rc_put (y := { x with st := s, li := 0, wo := 0 }) _ (rc_put (y := { x with st := s, li := 0 }) _ (rc_put (y := { x with st := s }) _ H1.out.1 rfl) rfl) rfl) rfl
  · rw [if_neg h0]
    have t0 : (d != 0) = true := by simpa using h0
    go_enter Try.func42, Try.ntmps42
    go_wp2_with fail
    refine HN.out.mono ?_
    rintro e w1 ⟨rfl, hb⟩
    have H1 := Lib.hid (And.intro ((hb.block b lb).trans HH.out) (Foot.of_below (F := (· = b)) hb))
    clear hb c0 HN
    go_wp2
    go_ret
    exact ⟨by simp, H1.out⟩
set_option maxHeartbeats 2000000 in
theorem index_any (g n c : Nat) (l : List Int) (v : Int) (w : World) (hn : n = l.length) (hfew : n ≤ 1000) (hc : ∀ k x, l[k]? = some x → w.cell? ⟨g, k, none⟩ = some (.int .i64 x)) :
    Calls Try.prog 53 #[.slice (some ⟨g, 0, none⟩) n c, .int .i64 v] w fun e w' => ∃ r : Int, e = .returned (.int .i64 r) ∧ w = w' ∧ (0 ≤ r ↔ v ∈ l) ∧ -1 ≤ r ∧ r ≤ 1000 := by
  have H := Lib.hid (And.intro hn hc)
  clear hn hc
  go_enter Try.func53, Try.ntmps53
  go_wp2
  go_loopw [8] (fun j wr => ∃ k : Nat, j = .int .i64 k ∧ k ≤ n ∧ w = wr ∧ Hid (∀ j x, j < k → l[j]? = some x → x ≠ v)) (fun j _ => match j with | .int _ i => n - i.toNat | _ => 0)
  case atStart => exact ⟨0, rfl, by omega, rfl, Lib.hid (fun j x h => by omega)⟩
  case round =>
    obtain ⟨k, rfl, hk, rfl, hall⟩ := hrel
    by_cases hlt : k < n
    · obtain ⟨x, hx⟩ : ∃ x, l[k]? = some x := ⟨_, List.getElem?_eq_getElem (by rw [← H.out.1]; exact hlt)⟩
      have z0 := H.out.2 k x hx
      have t1 : decide (k < n) = true := decide_eq_true hlt
      have Hx := Lib.hid hx
      clear hx
      by_cases e : v = x
      · have t2 : (v == x) = true := by simpa using e
        have He := Lib.hid e
        clear e
        go_wp2
        go_ret
        exact ⟨k, rfl, rfl, ⟨fun _ => by rw [He.out]; exact List.mem_of_getElem? Hx.out, fun _ => by omega⟩, by omega, by omega⟩
      · have t2 : (v == x) = false := by simpa using e
        have Hall : Hid (∀ j x, j < k + 1 → l[j]? = some x → x ≠ v) := Lib.hid (fun j y hj hy => by
          by_cases e2 : j = k
          · subst e2; rw [Hx.out] at hy; cases hy; exact fun h => e h.symm
          · exact hall.out j y (by omega) hy)
        clear hall e
        go_wp2
        go_roundw
        case rel => exact ⟨k + 1, by go_num, by omega, by first | rfl | trivial, Hall⟩
        case measure => simp; omega
    · have t1 : decide (k < n) = false := decide_eq_false hlt
      have Hn : Hid (v ∉ l) := Lib.hid (fun hv => by
        obtain ⟨j, hj⟩ := List.getElem?_of_mem hv
        have := (List.getElem?_eq_some_iff.1 hj).1
        exact hall.out j v (by have := H.out.1; omega) hj rfl)
      clear hlt hall
      go_wp2
      go_ret
      exact ⟨-1, rfl, rfl, ⟨fun h => by omega, fun h => absurd h Hn.out⟩, by omega, by omega⟩
set_option maxHeartbeats 2000000 in
theorem contains_any (g n c : Nat) (l : List Int) (v : Int) (w : World) (hn : n = l.length) (hfew : n ≤ 1000) (hc : ∀ k x, l[k]? = some x → w.cell? ⟨g, k, none⟩ = some (.int .i64 x)) :
    Calls Try.prog 45 #[.slice (some ⟨g, 0, none⟩) n c, .int .i64 v] w fun e w' => e = .returned (.bool (decide (v ∈ l))) ∧ w = w' := by
  have H := Lib.hid (index_any g n c l v w hn hfew hc)
  clear hn hc
  obtain ⟨q, hq⟩ : ∃ q, q = decide (v ∈ l) := ⟨_, rfl⟩
  rw [← hq]
  have HQ := Lib.hid hq
  clear hq
  go_enter Try.func45, Try.ntmps45
  go_wp2_with fail
  refine H.out.mono ?_
  rintro e w1 ⟨r, rfl, rfl, h1, h2, h3⟩
  have hd : decide (0 ≤ r) = q := by rw [HQ.out]; exact decide_eq_decide.2 h1
  clear h1 h2 h3
  go_wp2
  go_ret
  exact ⟨by simp, rfl⟩

set_option maxRecDepth 100000 in
set_option maxHeartbeats 4000000 in
theorem rescl_any (b S : Nat) (x : Rc) (m l k : Int) (w : World) (h : w.heap[b]? = some (rcO x)) (hb : S + 2 < b) (c1 : w.cell? ⟨S, 0, none⟩ = some (.int .i64 m)) (c2 : w.cell? ⟨S + 1, 0, none⟩ = some (.int .i64 l)) (c3 : w.cell? ⟨S + 2, 0, none⟩ = some (.int .i64 k)) :
    Calls Try.prog 41 #[.pointer (some ⟨b, 0, none⟩), .pointer (some ⟨S, 0, none⟩), .pointer (some ⟨S + 1, 0, none⟩), .pointer (some ⟨S + 2, 0, none⟩)] w fun e w' => e = .returned (.int .i64 (GL.resE x m)) ∧ (GL.resE x m = 0 → w'.heap[b]? = some (rcO (GL.resR x m l k))) ∧ Foot (· = b) w w' := by
  have HL := Lib.hid (lead_any b x 1 w h)
  obtain ⟨d, hd⟩ : ∃ d, d = GL.nextE x.st 1 := ⟨_, rfl⟩
  have lb := blk_lt h
  unfold GL.resE
  rw [← hd] at HL ⊢
  clear h hd
  by_cases h0 : d = 0
  · subst h0
    rw [if_neg (by simp)]
    rw [if_pos rfl] at HL
    obtain ⟨y, hy⟩ : ∃ y, y = GL.ledR x 1 := ⟨_, rfl⟩
    rw [← hy] at HL
    have hf : GL.fitB x m = (decide (y.mn ≤ m) && decide (m ≤ y.mx)) := by rw [hy]; rfl
    have HR : Hid (GL.resR x m l k = { y with me := m, li := l, wo := k }) := Lib.hid (by rw [hy]; rfl)
    rw [hf, HR.out]
    obtain ⟨q, hq⟩ : ∃ q, q = (decide (y.mn ≤ m) && decide (m ≤ y.mx)) := ⟨_, rfl⟩
    rw [← hq]
    have HFt : Hid (∀ W, Calls Try.prog 43 #[.agg #[.int .i64 y.g, .int .i64 y.c, .int .i64 y.mn, .int .i64 y.mx], .int .i64 m] W fun e w' => e = .returned (.bool q) ∧ Below W.heap.size W w') := Lib.hid (fun W => by rw [hq]; exact fits_any y.g y.c y.mn y.mx m W)
    clear hy hf hq
    go_enter Try.func41, Try.ntmps41
    go_wp2_with fail
    refine HL.out.mono ?_
    rintro e w1 ⟨rfl, h1, hF⟩
    have k1 := (hF.cell (p := ⟨S, 0, none⟩) (lt_of_cell c1) (by show S ≠ b; omega)).trans c1
    have k2 := (hF.cell (p := ⟨S + 1, 0, none⟩) (lt_of_cell c2) (by show S + 1 ≠ b; omega)).trans c2
    have k3 := (hF.cell (p := ⟨S + 2, 0, none⟩) (lt_of_cell c3) (by show S + 2 ≠ b; omega)).trans c3
    have hs1 := shp_at h1
    have lb1 := blk_lt h1
    have lS1 := lt_of_cell k1
    have H1 := Lib.hid (And.intro h1 hF)
    have K2 := Lib.hid (And.intro k2 k3)
    have K1 := Lib.hid k1
    clear h1 hF c1 c2 c3 HL k2 k3
    go_wp2_with fail
    refine held_begin (fun w' : World => CellsAt w' b 4 [.int .i64 y.g, .int .i64 y.c, .int .i64 y.mn, .int .i64 y.mx] ∧ w'.cell? ⟨S, 0, none⟩ = some (.int .i64 m)) (by kernel_rfl) ?_
    have hBh0 : Below w1.heap.size w1 w1.drew := (Below.refl _ _).drew
    have hSh0 : (fun w' : World => CellsAt w' b 4 [.int .i64 y.g, .int .i64 y.c, .int .i64 y.mn, .int .i64 y.mx] ∧ w'.cell? ⟨S, 0, none⟩ = some (.int .i64 m)) w1.drew := ⟨hs1, k1⟩
    refine held_take (v := ?_) 0 12 rfl rfl (by kernel_rfl) (by kernel_rfl) (by kernel_rfl) (fun _ _ _ h => h) ⟨by rfl, ?_⟩ hSh0 ?_
    rotate_left
    · intro w' hw'; obtain ⟨x0, x1⟩ := hw'; go_simp; (try with_reducible rfl)
    simp only [Act.put, List.setIfInBounds_toArray, List.set_cons_zero, List.set_cons_succ]
    refine held_take (v := ?_) 1 13 rfl rfl (by kernel_rfl) (by kernel_rfl) (by kernel_rfl) (fun _ _ _ h => h) ⟨by rfl, ?_⟩ hSh0 ?_
    rotate_left
    · intro w' hw'; obtain ⟨x0, x1⟩ := hw'; go_simp; (try with_reducible rfl)
    simp only [Act.put, List.setIfInBounds_toArray, List.set_cons_zero, List.set_cons_succ]
    refine held_take (v := ?_) 2 14 rfl rfl (by kernel_rfl) (by kernel_rfl) (by kernel_rfl) (fun _ _ _ h => h) ⟨by rfl, ?_⟩ hSh0 ?_
    rotate_left
    · intro w' hw'; obtain ⟨x0, x1⟩ := hw'; go_simp; (try with_reducible rfl)
    simp only [Act.put, List.setIfInBounds_toArray, List.set_cons_zero, List.set_cons_succ]
    refine held_take (v := ?_) 3 15 rfl rfl (by kernel_rfl) (by kernel_rfl) (by kernel_rfl) (fun _ _ _ h => h) ⟨by rfl, ?_⟩ hSh0 ?_
    rotate_left
    · intro w' hw'; obtain ⟨x0, x1⟩ := hw'; go_simp; (try with_reducible rfl)
    simp only [Act.put, List.setIfInBounds_toArray, List.set_cons_zero, List.set_cons_succ]
    refine held_take (v := ?_) 4 16 rfl rfl (by kernel_rfl) (by kernel_rfl) (by kernel_rfl) (fun _ _ _ h => h) ⟨by rfl, ?_⟩ hSh0 ?_
    rotate_left
    · intro w' hw'; obtain ⟨x0, x1⟩ := hw'; refine Eq.trans (run_load_shp (by rfl) (by rfl) x0) ?_; (with_reducible rfl)
    simp only [Act.put, List.setIfInBounds_toArray, List.set_cons_zero, List.set_cons_succ]
    refine held_take (v := ?_) 5 17 rfl rfl (by kernel_rfl) (by kernel_rfl) (by kernel_rfl) (fun _ _ _ h => h) ⟨by rfl, ?_⟩ hSh0 ?_
    rotate_left
    · intro w' hw'; obtain ⟨x0, x1⟩ := hw'; go_simp; (try with_reducible rfl)
    simp only [Act.put, List.setIfInBounds_toArray, List.set_cons_zero, List.set_cons_succ]
    refine held_one 6 rfl (by kernel_rfl) (by rfl) (fun K hK => ?_)
    go_simp
    go_at_call 43
    refine (HFt.out w1.drew).mono ?_
    rintro e wh1 ⟨rfl, hbh1⟩
    have hBh1 : Below w1.heap.size w1 wh1 := below_step hBh0 hbh1
    have hSh1 : (fun w' : World => CellsAt w' b 4 [.int .i64 y.g, .int .i64 y.c, .int .i64 y.mn, .int .i64 y.mx] ∧ w'.cell? ⟨S, 0, none⟩ = some (.int .i64 m)) wh1 := ⟨hs1.keep lb1 hBh1, (hBh1.cell (p := ⟨S, 0, none⟩) (lS1)).trans k1⟩
    refine hK.out _ _ hSh1 ?_
    clear hK K
    refine held_take (v := ?_) 7 19 rfl rfl (by kernel_rfl) (by kernel_rfl) (by kernel_rfl) (fun _ _ _ h => h) ⟨by rfl, ?_⟩ hSh1 ?_
    rotate_left
    · intro w' hw'; obtain ⟨x0, x1⟩ := hw'; go_simp; (try with_reducible rfl)
    simp only [Act.put, List.setIfInBounds_toArray, List.set_cons_zero, List.set_cons_succ]
    refine wpAnyH_done (by kernel_rfl) ?_ _
    clear hs1 k1
    have hS : w1.heap.size ≤ wh1.heap.size := hBh1.size
    have h2 := (hBh1.block b lb1).trans H1.out.1
    have k1 := (hBh1.cell (p := ⟨S, 0, none⟩) lS1).trans K1.out
    have k2 := (hBh1.cell (p := ⟨S + 1, 0, none⟩) (lt_of_cell K2.out.1)).trans K2.out.1
    have k3 := (hBh1.cell (p := ⟨S + 2, 0, none⟩) (lt_of_cell K2.out.2)).trans K2.out.2
    have H2 := Lib.hid (And.intro h2 (H1.out.2.trans (Foot.of_below (F := fun _ => False) hBh1) (fun i hi => hi.elim)))
    have f1 := frozen_blk (i := 11) h2
    have f2 := frozen_blk (i := 14) h2
    have f3 := frozen_blk (i := 15) h2
    have d1 : wh1.cell? ⟨b, 11, none⟩ = some (.int .i64 y.me) := cell_blk h2 rfl
    have d2 : wh1.cell? ⟨b, 14, none⟩ = some (.int .i64 y.li) := cell_blk h2 rfl
    have d3 : wh1.cell? ⟨b, 15, none⟩ = some (.int .i64 y.wo) := cell_blk h2 rfl
    have hSb : S ≠ b := by omega
    have hSb1 : S + 1 ≠ b := by omega
    have hSb2 : S + 2 ≠ b := by omega
    clear hBh1 h2 hS
    cases q
    · go_wp2
      go_ret
      first | exact ⟨by simp, fun h => absurd h (by decide), H2.out.2⟩ | exact ⟨by simp, H2.out.2⟩
    · go_wp2
      generalize wh1 = wz at *
      go_region
      all_goals go_wp2
      all_goals go_ret
      have hE := rc_put (i := 15) (y := { y with me := m, li := l, wo := k }) (.int .i64 k) (rc_put (i := 14) (y := { y with me := m, li := l }) (.int .i64 l) (rc_put (i := 11) (y := { y with me := m }) (.int .i64 m) H2.out.1 rfl) rfl) rfl
      have hG := (((H2.out.2.setCell (p := ⟨b, 11, none⟩) (.inl rfl) (.int .i64 m)).setCell (p := ⟨b, 14, none⟩) (.inl rfl) (.int .i64 l)).setCell (p := ⟨b, 15, none⟩) (.inl rfl) (.int .i64 k)).drew
      first | exact ⟨by simp, fun _ => hE, hG⟩ | exact ⟨by simp, hE, hG⟩
  · rw [if_pos h0]
    rw [if_neg h0] at HL
    have t0 : (d != 0) = true := by simpa using h0
    have h0' := Lib.hid h0
    go_enter Try.func41, Try.ntmps41
    go_wp2_with fail
    refine HL.out.mono ?_
    rintro e w1 ⟨rfl, h1, hF⟩
    have H1 := Lib.hid hF
    clear h1 hF c1 c2 c3 HL
    go_wp2
    go_ret
    first | exact ⟨by simp, fun h => absurd h h0'.out, H1.out⟩ | exact ⟨by simp, H1.out⟩

set_option maxRecDepth 100000 in
set_option maxHeartbeats 4000000 in
theorem stacl_any (b S Z : Nat) (x : Rc) (n : Int) (w : World) (h : w.heap[b]? = some (rcO x)) (hb : S < b) (hZb : Z < b) (hSZ : S ≠ Z) (c1 : w.cell? ⟨S, 0, none⟩ = some (.int .i64 n)) (c2 : w.heap[Z]? = some (.cells #[.int .i64 0] 3 (0, 0))) :
    Calls Try.prog 46 #[.pointer (some ⟨b, 0, none⟩), .pointer (some ⟨S, 0, none⟩), .pointer (some ⟨Z, 0, none⟩)] w fun e w' => e = .returned (.int .i64 (GL.staE x n)) ∧ (GL.staE x n = 0 → w'.heap[b]? = some (rcO (GL.staR x n))) ∧ w'.heap[Z]? = some (.cells #[.int .i64 (if GL.staE x n = 0 then GL.endT x n else 0)] 3 (0, 0)) ∧ Foot (fun i => i = b ∨ i = Z) w w' := by
  have HL := Lib.hid (lead_any b x 2 w h)
  obtain ⟨d, hd⟩ : ∃ d, d = GL.nextE x.st 2 := ⟨_, rfl⟩
  have lb := blk_lt h
  unfold GL.staE
  rw [← hd] at HL ⊢
  have C2 := Lib.hid c2
  have lZ := blk_lt c2
  clear h hd
  by_cases h0 : d = 0
  · subst h0
    rw [if_neg (by simp)]
    rw [if_pos rfl] at HL
    obtain ⟨y, hy⟩ : ∃ y, y = GL.ledR x 2 := ⟨_, rfl⟩
    rw [← hy] at HL
    obtain ⟨t, ht⟩ : ∃ t, t = GL.endT x n := ⟨_, rfl⟩
    have HR : Hid (GL.staR x n = { y with bg := n, en := t }) := Lib.hid (by rw [hy, ht]; rfl)
    have hwr : IntKind.i64.wrap (n + y.r) = t := by rw [hy, ht]; rfl
    rw [HR.out, ← ht]
    clear hy ht
    by_cases hq : 0 ≤ n ∧ n ≤ 1073741824
    · rw [if_pos hq]
      have t1 : decide (n < 0) = false := by simp; omega
      have t2 : decide (1073741824 < n) = false := by simp; omega
      have HQ := Lib.hid hq
      clear hq
      go_enter Try.func46, Try.ntmps46
      go_wp2_with fail
      refine HL.out.mono ?_
      rintro e w1 ⟨rfl, h1, hF⟩
      have k1 := (hF.cell (p := ⟨S, 0, none⟩) (lt_of_cell c1) (by show S ≠ b; omega)).trans c1
      have k2 := (hF.block Z lZ (by omega)).trans C2.out
      have H1 := Lib.hid (And.intro h1 (And.intro k2 (hF.mono (F' := fun i => i = b ∨ i = Z) fun i hi => .inl hi)))
      have f0 := frozen_blk (i := 0) k2
      have z0 : w1.cell? ⟨Z, 0, none⟩ = some (.int .i64 0) := cell_blk k2 rfl
      have f1 := frozen_blk (i := 12) h1
      have f2 := frozen_blk (i := 13) h1
      have d0 : w1.cell? ⟨b, 3, none⟩ = some (.int .i64 y.r) := cell_blk h1 rfl
      have d1 : w1.cell? ⟨b, 12, none⟩ = some (.int .i64 y.bg) := cell_blk h1 rfl
      have d2 : w1.cell? ⟨b, 13, none⟩ = some (.int .i64 y.en) := cell_blk h1 rfl
      have hSb : S ≠ b := by omega
      have hZb1 : Z ≠ b := by omega
      clear h1 hF c1 c2 HL k2
      go_wp2
      go_region
      all_goals go_wp2
      all_goals go_region
      all_goals go_wp2
      all_goals go_ret
      have e1 : (w1.setCell ⟨Z, 0, none⟩ (.int .i64 t)).heap[b]? = some (rcO y) := (Below.heap_setCell w1 ⟨Z, 0, none⟩ _ b (by show b ≠ Z; omega)).trans H1.out.1
      have hE := rc_put (i := 13) (y := { y with bg := n, en := t }) (.int .i64 t) (rc_put (i := 12) (y := { y with bg := n }) (.int .i64 n) e1 rfl) rfl
      have hZ : (((w1.setCell ⟨Z, 0, none⟩ (.int .i64 t)).setCell ⟨b, 12, none⟩ (.int .i64 n)).setCell ⟨b, 13, none⟩ (.int .i64 t)).heap[Z]? = some (.cells #[.int .i64 t] 3 (0, 0)) :=
        (Below.heap_setCell _ ⟨b, 13, none⟩ _ Z (by show Z ≠ b; omega)).trans ((Below.heap_setCell _ ⟨b, 12, none⟩ _ Z (by show Z ≠ b; omega)).trans (blk_put (i := 0) _ H1.out.2.1))
      have hG := ((((H1.out.2.2.setCell (p := ⟨Z, 0, none⟩) (.inl (.inr rfl)) (.int .i64 t)).setCell (p := ⟨b, 12, none⟩) (.inl (.inl rfl)) (.int .i64 n)).setCell (p := ⟨b, 13, none⟩) (.inl (.inl rfl)) (.int .i64 t)).drew).drew
      first | exact ⟨by simp, fun _ => hE, hZ, hG⟩ | exact ⟨by simp, hE, hZ, hG⟩
    · rw [if_neg hq]
      go_enter Try.func46, Try.ntmps46
      go_wp2_with fail
      refine HL.out.mono ?_
      rintro e w1 ⟨rfl, h1, hF⟩
      have k1 := (hF.cell (p := ⟨S, 0, none⟩) (lt_of_cell c1) (by show S ≠ b; omega)).trans c1
      have k2 := (hF.block Z lZ (by omega)).trans C2.out
      have H1 := Lib.hid (And.intro k2 (hF.mono (F' := fun i => i = b ∨ i = Z) fun i hi => .inl hi))
      clear h1 hF c1 c2 HL k2
      by_cases h3 : n < 0
      · have t1 : decide (n < 0) = true := by simpa using h3
        clear hq h3
        go_wp2
        go_ret
        first | exact ⟨by simp, fun h => absurd h (by decide), H1.out⟩ | exact ⟨by simp, H1.out⟩
      · have t1 : decide (n < 0) = false := by simpa using h3
        have t2 : decide (1073741824 < n) = true := by simp; omega
        clear hq h3
        go_wp2
        go_ret
        first | exact ⟨by simp, fun h => absurd h (by decide), H1.out⟩ | exact ⟨by simp, H1.out⟩
  · rw [if_pos h0, if_neg h0]
    rw [if_neg h0] at HL
    have t0 : (d != 0) = true := by simpa using h0
    have h0' := Lib.hid h0
    go_enter Try.func46, Try.ntmps46
    go_wp2_with fail
    refine HL.out.mono ?_
    rintro e w1 ⟨rfl, h1, hF⟩
    have k2 := (hF.block Z lZ (by omega)).trans C2.out
    have H1 := Lib.hid (And.intro k2 (hF.mono (F' := fun i => i = b ∨ i = Z) fun i hi => .inl hi))
    clear h1 hF c1 c2 HL k2
    go_wp2
    go_ret
    first | exact ⟨by simp, fun h => absurd h h0'.out, H1.out⟩ | exact ⟨by simp, H1.out⟩

theorem turE_if (x : Rc) (v : Int) : GL.turE x v = if decide (v ∈ [(3 : Int), 4, 5, 6]) = true then GL.nextE x.st v else 1 := by
  unfold GL.turE
  simp
set_option maxRecDepth 100000 in
set_option maxHeartbeats 4000000 in
theorem turcl_any (b S : Nat) (x : Rc) (v : Int) (w : World) (h : w.heap[b]? = some (rcO x)) (hb : S < b) (c1 : w.cell? ⟨S, 0, none⟩ = some (.int .i64 v)) :
    Calls Try.prog 44 #[.pointer (some ⟨b, 0, none⟩), .pointer (some ⟨S, 0, none⟩)] w fun e w' => e = .returned (.int .i64 (GL.turE x v)) ∧ (GL.turE x v = 0 → w'.heap[b]? = some (rcO (GL.turR x v))) ∧ Foot (· = b) w w' := by
  obtain ⟨M, hM⟩ : ∃ M, M = w.heap.size := ⟨_, rfl⟩
  obtain ⟨w1, hw1⟩ : ∃ w1, w1 = w.alloc (.cells #[.int .i64 3, .int .i64 4, .int .i64 5, .int .i64 6] 3) := ⟨_, rfl⟩
  have hB1 : Below w.heap.size w w1 := by rw [hw1]; exact (Below.refl _ w).alloc (Nat.le_refl _) _
  have hn1 : w1.heap[M]? = some (.cells #[.int .i64 3, .int .i64 4, .int .i64 5, .int .i64 6] 3 (0, 0)) := by rw [hw1, hM]; exact heap_alloc_new w _
  have lb := blk_lt h
  have h1 := (hB1.block b lb).trans h
  have k1 := (hB1.cell (p := ⟨S, 0, none⟩) (lt_of_cell c1)).trans c1
  rw [turE_if]
  obtain ⟨q, hq⟩ : ∃ q, q = decide (v ∈ [(3 : Int), 4, 5, 6]) := ⟨_, rfl⟩
  have HC : Hid (Calls Try.prog 45 #[.slice (some ⟨M, 0, none⟩) 4 4, .int .i64 v] w1 fun e w' => e = .returned (.bool q) ∧ w1 = w') := Lib.hid (by
    rw [hq]
    refine contains_any M 4 4 [3, 4, 5, 6] v w1 rfl (by omega) fun k x hx => cell_blk hn1 ?_
    have hl := (List.getElem?_eq_some_iff.1 hx).1
    simp at hl
    obtain rfl | rfl | rfl | rfl : k = 0 ∨ k = 1 ∨ k = 2 ∨ k = 3 := by omega
    all_goals (simp at hx; subst hx; rfl))
  rw [← hq]
  have HL := Lib.hid (lead_any b x v w1 h1)
  have HF := Lib.hid (Foot.of_below (F := (· = b)) hB1)
  obtain ⟨d, hd⟩ : ∃ d, d = GL.nextE x.st v := ⟨_, rfl⟩
  rw [← hd] at HL ⊢
  obtain ⟨y, hy⟩ : ∃ y, y = GL.turR x v := ⟨_, rfl⟩
  rw [show GL.ledR x v = y by rw [hy]; rfl] at HL
  rw [← hy]
  rw [hM] at HC
  rw [hw1] at HC HL HF k1
  clear hM hw1 hB1 hn1 h1 hq hd hy h
  cases q
  · go_enter Try.func44, Try.ntmps44
    go_wp2_with fail
    refine HC.out.mono ?_
    rintro e w2 ⟨rfl, rfl⟩
    go_wp2
    go_ret
    first | exact ⟨by simp, fun h => absurd h (by decide), HF.out⟩ | exact ⟨by simp, HF.out⟩
  · go_enter Try.func44, Try.ntmps44
    go_wp2_with fail
    refine HC.out.mono ?_
    rintro e w2 ⟨rfl, rfl⟩
    go_wp2_with fail
    refine HL.out.mono ?_
    rintro e w3 ⟨rfl, h3, hF3⟩
    have H3 := Lib.hid (And.intro h3 (HF.out.trans hF3 fun i hi => .inl hi))
    clear h3 hF3 HL HC k1 c1
    go_wp2
    go_ret
    refine ⟨by simp, fun h0 => ?_, H3.out.2⟩
    have := H3.out.1
    rwa [if_pos (by simpa using h0)] at this

set_option maxRecDepth 100000 in
set_option maxHeartbeats 4000000 in
theorem sizcl_any (b S : Nat) (x : Rc) (v : Int) (w : World) (h : w.heap[b]? = some (rcO x)) (hb : S < b) (k1 : w.cell? ⟨S, 0, none⟩ = some (.int .i64 v)) :
    Calls Try.prog 47 #[.pointer (some ⟨b, 0, none⟩), .pointer (some ⟨S, 0, none⟩)] w fun e w' => e = .returned (.int .i64 (GL.sizE x v)) ∧ (GL.sizE x v = 0 → w'.heap[b]? = some (rcO (GL.sizR x v))) ∧ Foot (· = b) w w' := by
  have d8 : w.cell? ⟨b, 8, none⟩ = some (.int .i64 x.st) := cell_blk h rfl
  have d1 : w.cell? ⟨b, 11, none⟩ = some (.int .i64 x.me) := cell_blk h rfl
  have hs1 := shp_at h
  have lb := blk_lt h
  have lS1 := lt_of_cell k1
  have HH := Lib.hid h
  have K1 := Lib.hid k1
  obtain ⟨u, hu⟩ : ∃ u, u = GL.sizM x v := ⟨_, rfl⟩
  obtain ⟨q, hq⟩ : ∃ q, q = GL.fitB x u := ⟨_, rfl⟩
  have HFt : Hid (∀ W, Calls Try.prog 43 #[.agg #[.int .i64 x.g, .int .i64 x.c, .int .i64 x.mn, .int .i64 x.mx], .int .i64 u] W fun e w' => e = .returned (.bool q) ∧ Below W.heap.size W w') := Lib.hid (fun W => by rw [hq]; exact fits_any x.g x.c x.mn x.mx u W)
  have hwu : IntKind.i64.wrap (x.me + v) = u := by rw [hu]; rfl
  have HR : Hid (GL.sizR x v = { x with me := u }) := Lib.hid (by rw [hu]; rfl)
  have hE : GL.sizE x v = if x.st ≠ 3 then 8 else if (v ≠ 1 ∧ v ≠ -1) ∨ q = false then 1 else 0 := by rw [hq, hu]; rfl
  rw [hE, HR.out]
  clear h hu hq hE
  by_cases h3 : x.st = 3
  · rw [if_neg (by simpa using h3)]
    have t3 : (x.st != 3) = false := by simpa using h3
    clear h3
    by_cases hv1 : v = 1
    · have t1 : (v != 1) = false := by simpa using hv1
      have e1 : (if (v ≠ 1 ∧ v ≠ -1) ∨ q = false then (1 : Int) else 0) = if q = false then 1 else 0 := by simp [hv1]
      rw [e1]
      clear hv1 e1
      go_enter Try.func47, Try.ntmps47
      go_wp2_with fail
      refine held_begin (fun w' : World => CellsAt w' b 4 [.int .i64 x.g, .int .i64 x.c, .int .i64 x.mn, .int .i64 x.mx] ∧ w'.cell? ⟨S, 0, none⟩ = some (.int .i64 v) ∧ w'.cell? ⟨b, 11, none⟩ = some (.int .i64 x.me)) (by kernel_rfl) ?_
      have hBh0 : Below w.heap.size w w.drew := (Below.refl _ _).drew
      have hSh0 : (fun w' : World => CellsAt w' b 4 [.int .i64 x.g, .int .i64 x.c, .int .i64 x.mn, .int .i64 x.mx] ∧ w'.cell? ⟨S, 0, none⟩ = some (.int .i64 v) ∧ w'.cell? ⟨b, 11, none⟩ = some (.int .i64 x.me)) w.drew := ⟨hs1, k1, d1⟩
      refine held_take (v := ?_) 0 9 rfl rfl (by kernel_rfl) (by kernel_rfl) (by kernel_rfl) (fun _ _ _ h => h) ⟨by rfl, ?_⟩ hSh0 ?_
      rotate_left
      · intro w' hw'; obtain ⟨x0, x1, x2⟩ := hw'; go_simp; (try with_reducible rfl)
      simp only [Act.put, List.setIfInBounds_toArray, List.set_cons_zero, List.set_cons_succ]
      refine held_take (v := ?_) 1 10 rfl rfl (by kernel_rfl) (by kernel_rfl) (by kernel_rfl) (fun _ _ _ h => h) ⟨by rfl, ?_⟩ hSh0 ?_
      rotate_left
      · intro w' hw'; obtain ⟨x0, x1, x2⟩ := hw'; go_simp; (try with_reducible rfl)
      simp only [Act.put, List.setIfInBounds_toArray, List.set_cons_zero, List.set_cons_succ]
      refine held_take (v := ?_) 2 11 rfl rfl (by kernel_rfl) (by kernel_rfl) (by kernel_rfl) (fun _ _ _ h => h) ⟨by rfl, ?_⟩ hSh0 ?_
      rotate_left
      · intro w' hw'; obtain ⟨x0, x1, x2⟩ := hw'; go_simp; (try with_reducible rfl)
      simp only [Act.put, List.setIfInBounds_toArray, List.set_cons_zero, List.set_cons_succ]
      refine held_skip 3 12 rfl rfl (by kernel_rfl) (by kernel_rfl) (by kernel_rfl) (fun _ _ _ h => h) (by rfl) hSh0 ?_
      simp only [Act.put, List.setIfInBounds_toArray, List.set_cons_zero, List.set_cons_succ]
      refine held_skip 4 13 rfl rfl (by kernel_rfl) (by kernel_rfl) (by kernel_rfl) (fun _ _ _ h => h) (by rfl) hSh0 ?_
      simp only [Act.put, List.setIfInBounds_toArray, List.set_cons_zero, List.set_cons_succ]
      refine held_take (v := ?_) 5 14 rfl rfl (by kernel_rfl) (by kernel_rfl) (by kernel_rfl) (fun _ _ _ h => h) ⟨by rfl, ?_⟩ hSh0 ?_
      rotate_left
      · intro w' hw'; obtain ⟨x0, x1, x2⟩ := hw'; go_simp; (try with_reducible rfl)
      simp only [Act.put, List.setIfInBounds_toArray, List.set_cons_zero, List.set_cons_succ]
      refine held_take (v := ?_) 6 15 rfl rfl (by kernel_rfl) (by kernel_rfl) (by kernel_rfl) (fun _ _ _ h => h) ⟨by rfl, ?_⟩ hSh0 ?_
      rotate_left
      · intro w' hw'; obtain ⟨x0, x1, x2⟩ := hw'; go_simp; (try with_reducible rfl)
      simp only [Act.put, List.setIfInBounds_toArray, List.set_cons_zero, List.set_cons_succ]
      refine held_take (v := ?_) 7 16 rfl rfl (by kernel_rfl) (by kernel_rfl) (by kernel_rfl) (fun _ _ _ h => h) ⟨by rfl, ?_⟩ hSh0 ?_
      rotate_left
      · intro w' hw'; obtain ⟨x0, x1, x2⟩ := hw'; go_simp; (try with_reducible rfl)
      simp only [Act.put, List.setIfInBounds_toArray, List.set_cons_zero, List.set_cons_succ]
      refine held_take (v := ?_) 8 17 rfl rfl (by kernel_rfl) (by kernel_rfl) (by kernel_rfl) (fun _ _ _ h => h) ⟨by rfl, ?_⟩ hSh0 ?_
      rotate_left
      · intro w' hw'; obtain ⟨x0, x1, x2⟩ := hw'; go_simp; (try with_reducible rfl)
      simp only [Act.put, List.setIfInBounds_toArray, List.set_cons_zero, List.set_cons_succ]
      refine held_take (v := ?_) 9 18 rfl rfl (by kernel_rfl) (by kernel_rfl) (by kernel_rfl) (fun _ _ _ h => h) ⟨by rfl, ?_⟩ hSh0 ?_
      rotate_left
      · intro w' hw'; obtain ⟨x0, x1, x2⟩ := hw'; go_simp; (try with_reducible rfl)
      simp only [Act.put, List.setIfInBounds_toArray, List.set_cons_zero, List.set_cons_succ]
      refine held_take (v := ?_) 10 19 rfl rfl (by kernel_rfl) (by kernel_rfl) (by kernel_rfl) (fun _ _ _ h => h) ⟨by rfl, ?_⟩ hSh0 ?_
      rotate_left
      · intro w' hw'; obtain ⟨x0, x1, x2⟩ := hw'; go_simp; (try with_reducible rfl)
      simp only [Act.put, List.setIfInBounds_toArray, List.set_cons_zero, List.set_cons_succ]
      refine held_take (v := ?_) 11 20 rfl rfl (by kernel_rfl) (by kernel_rfl) (by kernel_rfl) (fun _ _ _ h => h) ⟨by rfl, ?_⟩ hSh0 ?_
      rotate_left
      · intro w' hw'; obtain ⟨x0, x1, x2⟩ := hw'; refine Eq.trans (run_load_shp (by rfl) (by rfl) x0) ?_; (with_reducible rfl)
      simp only [Act.put, List.setIfInBounds_toArray, List.set_cons_zero, List.set_cons_succ]
      refine held_take (v := ?_) 12 21 rfl rfl (by kernel_rfl) (by kernel_rfl) (by kernel_rfl) (fun _ _ _ h => h) ⟨by rfl, ?_⟩ hSh0 ?_
      rotate_left
      · intro w' hw'; obtain ⟨x0, x1, x2⟩ := hw'; go_simp; (try with_reducible rfl)
      simp only [Act.put, List.setIfInBounds_toArray, List.set_cons_zero, List.set_cons_succ]
      refine held_take (v := ?_) 13 22 rfl rfl (by kernel_rfl) (by kernel_rfl) (by kernel_rfl) (fun _ _ _ h => h) ⟨by rfl, ?_⟩ hSh0 ?_
      rotate_left
      · intro w' hw'; obtain ⟨x0, x1, x2⟩ := hw'; go_simp; (try with_reducible rfl)
      simp only [Act.put, List.setIfInBounds_toArray, List.set_cons_zero, List.set_cons_succ]
      refine held_take (v := ?_) 14 23 rfl rfl (by kernel_rfl) (by kernel_rfl) (by kernel_rfl) (fun _ _ _ h => h) ⟨by rfl, ?_⟩ hSh0 ?_
      rotate_left
      · intro w' hw'; obtain ⟨x0, x1, x2⟩ := hw'; go_simp; (try with_reducible rfl)
      simp only [Act.put, List.setIfInBounds_toArray, List.set_cons_zero, List.set_cons_succ]
      refine held_take (v := ?_) 15 24 rfl rfl (by kernel_rfl) (by kernel_rfl) (by kernel_rfl) (fun _ _ _ h => h) ⟨by rfl, ?_⟩ hSh0 ?_
      rotate_left
      · intro w' hw'; obtain ⟨x0, x1, x2⟩ := hw'; go_simp; (try with_reducible rfl)
      simp only [Act.put, List.setIfInBounds_toArray, List.set_cons_zero, List.set_cons_succ]
      refine held_take (v := ?_) 16 25 rfl rfl (by kernel_rfl) (by kernel_rfl) (by kernel_rfl) (fun _ _ _ h => h) ⟨by rfl, ?_⟩ hSh0 ?_
      rotate_left
      · intro w' hw'; obtain ⟨x0, x1, x2⟩ := hw'; go_simp; (try with_reducible rfl)
      simp only [Act.put, List.setIfInBounds_toArray, List.set_cons_zero, List.set_cons_succ]
      refine held_take (v := ?_) 17 26 rfl rfl (by kernel_rfl) (by kernel_rfl) (by kernel_rfl) (fun _ _ _ h => h) ⟨by rfl, ?_⟩ hSh0 ?_
      rotate_left
      · intro w' hw'; obtain ⟨x0, x1, x2⟩ := hw'; go_simp; (try with_reducible rfl)
      simp only [Act.put, List.setIfInBounds_toArray, List.set_cons_zero, List.set_cons_succ]
      refine held_one 18 rfl (by kernel_rfl) (by rfl) (fun K hK => ?_)
      go_simp
      go_at_call 43
      refine (HFt.out w.drew).mono ?_
      rintro e wh1 ⟨rfl, hbh1⟩
      have hBh1 : Below w.heap.size w wh1 := below_step hBh0 hbh1
      have hSh1 : (fun w' : World => CellsAt w' b 4 [.int .i64 x.g, .int .i64 x.c, .int .i64 x.mn, .int .i64 x.mx] ∧ w'.cell? ⟨S, 0, none⟩ = some (.int .i64 v) ∧ w'.cell? ⟨b, 11, none⟩ = some (.int .i64 x.me)) wh1 := ⟨hs1.keep lb hBh1, (hBh1.cell (p := ⟨S, 0, none⟩) (lS1)).trans k1, (hBh1.cell (p := ⟨b, 11, none⟩) (lb)).trans d1⟩
      refine hK.out _ _ hSh1 ?_
      clear hK K
      refine held_take (v := ?_) 19 28 rfl rfl (by kernel_rfl) (by kernel_rfl) (by kernel_rfl) (fun _ _ _ h => h) ⟨by rfl, ?_⟩ hSh1 ?_
      rotate_left
      · intro w' hw'; obtain ⟨x0, x1, x2⟩ := hw'; go_simp; (try with_reducible rfl)
      simp only [Act.put, List.setIfInBounds_toArray, List.set_cons_zero, List.set_cons_succ]
      refine held_take (v := ?_) 20 29 rfl rfl (by kernel_rfl) (by kernel_rfl) (by kernel_rfl) (fun _ _ _ h => h) ⟨by rfl, ?_⟩ hSh1 ?_
      rotate_left
      · intro w' hw'; obtain ⟨x0, x1, x2⟩ := hw'; go_simp; (try with_reducible rfl)
      simp only [Act.put, List.setIfInBounds_toArray, List.set_cons_zero, List.set_cons_succ]
      refine wpAnyH_done (by kernel_rfl) ?_ _
      clear hs1
      have H2 := Lib.hid (And.intro ((hBh1.block b lb).trans HH.out) (Foot.of_below (F := (· = b)) hBh1))
      have k2 := (hBh1.cell (p := ⟨S, 0, none⟩) lS1).trans K1.out
      have h2 := H2.out.1
      have f1 := frozen_blk (i := 11) h2
      have d2 : wh1.cell? ⟨b, 11, none⟩ = some (.int .i64 x.me) := cell_blk h2 rfl
      clear hBh1 h2 k1 d1
      cases q
      · go_wp2
        go_ret
        first | exact ⟨by simp, fun h => absurd h (by decide), H2.out.2⟩ | exact ⟨by simp, H2.out.2⟩
      · go_wp2
        generalize wh1 = wz at *
        go_region
        all_goals go_wp2
        all_goals go_ret
        have hE := rc_put (i := 11) (y := { x with me := u }) (.int .i64 u) H2.out.1 rfl
        have hG := (H2.out.2.setCell (p := ⟨b, 11, none⟩) (.inl rfl) (.int .i64 u)).drew
        first | exact ⟨by simp, fun _ => hE, hG⟩ | exact ⟨by simp, hE, hG⟩

    · by_cases hv2 : v = -1
      · have t1 : (v != 1) = true := by simpa using hv1
        have t2 : (v != -1) = false := by simpa using hv2
        have e1 : (if (v ≠ 1 ∧ v ≠ -1) ∨ q = false then (1 : Int) else 0) = if q = false then 1 else 0 := by simp [hv2]
        rw [e1]
        clear hv1 hv2 e1
        go_enter Try.func47, Try.ntmps47
        go_wp2_with fail
        refine held_begin (fun w' : World => CellsAt w' b 4 [.int .i64 x.g, .int .i64 x.c, .int .i64 x.mn, .int .i64 x.mx] ∧ w'.cell? ⟨S, 0, none⟩ = some (.int .i64 v) ∧ w'.cell? ⟨b, 11, none⟩ = some (.int .i64 x.me)) (by kernel_rfl) ?_
        have hBh0 : Below w.heap.size w w.drew := (Below.refl _ _).drew
        have hSh0 : (fun w' : World => CellsAt w' b 4 [.int .i64 x.g, .int .i64 x.c, .int .i64 x.mn, .int .i64 x.mx] ∧ w'.cell? ⟨S, 0, none⟩ = some (.int .i64 v) ∧ w'.cell? ⟨b, 11, none⟩ = some (.int .i64 x.me)) w.drew := ⟨hs1, k1, d1⟩
        refine held_take (v := ?_) 0 9 rfl rfl (by kernel_rfl) (by kernel_rfl) (by kernel_rfl) (fun _ _ _ h => h) ⟨by rfl, ?_⟩ hSh0 ?_
        rotate_left
        · intro w' hw'; obtain ⟨x0, x1, x2⟩ := hw'; go_simp; (try with_reducible rfl)
        simp only [Act.put, List.setIfInBounds_toArray, List.set_cons_zero, List.set_cons_succ]
        refine held_take (v := ?_) 1 10 rfl rfl (by kernel_rfl) (by kernel_rfl) (by kernel_rfl) (fun _ _ _ h => h) ⟨by rfl, ?_⟩ hSh0 ?_
        rotate_left
        · intro w' hw'; obtain ⟨x0, x1, x2⟩ := hw'; go_simp; (try with_reducible rfl)
        simp only [Act.put, List.setIfInBounds_toArray, List.set_cons_zero, List.set_cons_succ]
        refine held_take (v := ?_) 2 11 rfl rfl (by kernel_rfl) (by kernel_rfl) (by kernel_rfl) (fun _ _ _ h => h) ⟨by rfl, ?_⟩ hSh0 ?_
        rotate_left
        · intro w' hw'; obtain ⟨x0, x1, x2⟩ := hw'; go_simp; (try with_reducible rfl)
        simp only [Act.put, List.setIfInBounds_toArray, List.set_cons_zero, List.set_cons_succ]
        refine held_take (v := ?_) 3 12 rfl rfl (by kernel_rfl) (by kernel_rfl) (by kernel_rfl) (fun _ _ _ h => h) ⟨by rfl, ?_⟩ hSh0 ?_
        rotate_left
        · intro w' hw'; obtain ⟨x0, x1, x2⟩ := hw'; go_simp; (try with_reducible rfl)
        simp only [Act.put, List.setIfInBounds_toArray, List.set_cons_zero, List.set_cons_succ]
        refine held_take (v := ?_) 4 13 rfl rfl (by kernel_rfl) (by kernel_rfl) (by kernel_rfl) (fun _ _ _ h => h) ⟨by rfl, ?_⟩ hSh0 ?_
        rotate_left
        · intro w' hw'; obtain ⟨x0, x1, x2⟩ := hw'; go_simp; (try with_reducible rfl)
        simp only [Act.put, List.setIfInBounds_toArray, List.set_cons_zero, List.set_cons_succ]
        refine held_take (v := ?_) 5 14 rfl rfl (by kernel_rfl) (by kernel_rfl) (by kernel_rfl) (fun _ _ _ h => h) ⟨by rfl, ?_⟩ hSh0 ?_
        rotate_left
        · intro w' hw'; obtain ⟨x0, x1, x2⟩ := hw'; go_simp; (try with_reducible rfl)
        simp only [Act.put, List.setIfInBounds_toArray, List.set_cons_zero, List.set_cons_succ]
        refine held_take (v := ?_) 6 15 rfl rfl (by kernel_rfl) (by kernel_rfl) (by kernel_rfl) (fun _ _ _ h => h) ⟨by rfl, ?_⟩ hSh0 ?_
        rotate_left
        · intro w' hw'; obtain ⟨x0, x1, x2⟩ := hw'; go_simp; (try with_reducible rfl)
        simp only [Act.put, List.setIfInBounds_toArray, List.set_cons_zero, List.set_cons_succ]
        refine held_take (v := ?_) 7 16 rfl rfl (by kernel_rfl) (by kernel_rfl) (by kernel_rfl) (fun _ _ _ h => h) ⟨by rfl, ?_⟩ hSh0 ?_
        rotate_left
        · intro w' hw'; obtain ⟨x0, x1, x2⟩ := hw'; go_simp; (try with_reducible rfl)
        simp only [Act.put, List.setIfInBounds_toArray, List.set_cons_zero, List.set_cons_succ]
        refine held_take (v := ?_) 8 17 rfl rfl (by kernel_rfl) (by kernel_rfl) (by kernel_rfl) (fun _ _ _ h => h) ⟨by rfl, ?_⟩ hSh0 ?_
        rotate_left
        · intro w' hw'; obtain ⟨x0, x1, x2⟩ := hw'; go_simp; (try with_reducible rfl)
        simp only [Act.put, List.setIfInBounds_toArray, List.set_cons_zero, List.set_cons_succ]
        refine held_take (v := ?_) 9 18 rfl rfl (by kernel_rfl) (by kernel_rfl) (by kernel_rfl) (fun _ _ _ h => h) ⟨by rfl, ?_⟩ hSh0 ?_
        rotate_left
        · intro w' hw'; obtain ⟨x0, x1, x2⟩ := hw'; go_simp; (try with_reducible rfl)
        simp only [Act.put, List.setIfInBounds_toArray, List.set_cons_zero, List.set_cons_succ]
        refine held_take (v := ?_) 10 19 rfl rfl (by kernel_rfl) (by kernel_rfl) (by kernel_rfl) (fun _ _ _ h => h) ⟨by rfl, ?_⟩ hSh0 ?_
        rotate_left
        · intro w' hw'; obtain ⟨x0, x1, x2⟩ := hw'; go_simp; (try with_reducible rfl)
        simp only [Act.put, List.setIfInBounds_toArray, List.set_cons_zero, List.set_cons_succ]
        refine held_take (v := ?_) 11 20 rfl rfl (by kernel_rfl) (by kernel_rfl) (by kernel_rfl) (fun _ _ _ h => h) ⟨by rfl, ?_⟩ hSh0 ?_
        rotate_left
        · intro w' hw'; obtain ⟨x0, x1, x2⟩ := hw'; refine Eq.trans (run_load_shp (by rfl) (by rfl) x0) ?_; (with_reducible rfl)
        simp only [Act.put, List.setIfInBounds_toArray, List.set_cons_zero, List.set_cons_succ]
        refine held_take (v := ?_) 12 21 rfl rfl (by kernel_rfl) (by kernel_rfl) (by kernel_rfl) (fun _ _ _ h => h) ⟨by rfl, ?_⟩ hSh0 ?_
        rotate_left
        · intro w' hw'; obtain ⟨x0, x1, x2⟩ := hw'; go_simp; (try with_reducible rfl)
        simp only [Act.put, List.setIfInBounds_toArray, List.set_cons_zero, List.set_cons_succ]
        refine held_take (v := ?_) 13 22 rfl rfl (by kernel_rfl) (by kernel_rfl) (by kernel_rfl) (fun _ _ _ h => h) ⟨by rfl, ?_⟩ hSh0 ?_
        rotate_left
        · intro w' hw'; obtain ⟨x0, x1, x2⟩ := hw'; go_simp; (try with_reducible rfl)
        simp only [Act.put, List.setIfInBounds_toArray, List.set_cons_zero, List.set_cons_succ]
        refine held_take (v := ?_) 14 23 rfl rfl (by kernel_rfl) (by kernel_rfl) (by kernel_rfl) (fun _ _ _ h => h) ⟨by rfl, ?_⟩ hSh0 ?_
        rotate_left
        · intro w' hw'; obtain ⟨x0, x1, x2⟩ := hw'; go_simp; (try with_reducible rfl)
        simp only [Act.put, List.setIfInBounds_toArray, List.set_cons_zero, List.set_cons_succ]
        refine held_take (v := ?_) 15 24 rfl rfl (by kernel_rfl) (by kernel_rfl) (by kernel_rfl) (fun _ _ _ h => h) ⟨by rfl, ?_⟩ hSh0 ?_
        rotate_left
        · intro w' hw'; obtain ⟨x0, x1, x2⟩ := hw'; go_simp; (try with_reducible rfl)
        simp only [Act.put, List.setIfInBounds_toArray, List.set_cons_zero, List.set_cons_succ]
        refine held_take (v := ?_) 16 25 rfl rfl (by kernel_rfl) (by kernel_rfl) (by kernel_rfl) (fun _ _ _ h => h) ⟨by rfl, ?_⟩ hSh0 ?_
        rotate_left
        · intro w' hw'; obtain ⟨x0, x1, x2⟩ := hw'; go_simp; (try with_reducible rfl)
        simp only [Act.put, List.setIfInBounds_toArray, List.set_cons_zero, List.set_cons_succ]
        refine held_take (v := ?_) 17 26 rfl rfl (by kernel_rfl) (by kernel_rfl) (by kernel_rfl) (fun _ _ _ h => h) ⟨by rfl, ?_⟩ hSh0 ?_
        rotate_left
        · intro w' hw'; obtain ⟨x0, x1, x2⟩ := hw'; go_simp; (try with_reducible rfl)
        simp only [Act.put, List.setIfInBounds_toArray, List.set_cons_zero, List.set_cons_succ]
        refine held_one 18 rfl (by kernel_rfl) (by rfl) (fun K hK => ?_)
        go_simp
        go_at_call 43
        refine (HFt.out w.drew).mono ?_
        rintro e wh1 ⟨rfl, hbh1⟩
        have hBh1 : Below w.heap.size w wh1 := below_step hBh0 hbh1
        have hSh1 : (fun w' : World => CellsAt w' b 4 [.int .i64 x.g, .int .i64 x.c, .int .i64 x.mn, .int .i64 x.mx] ∧ w'.cell? ⟨S, 0, none⟩ = some (.int .i64 v) ∧ w'.cell? ⟨b, 11, none⟩ = some (.int .i64 x.me)) wh1 := ⟨hs1.keep lb hBh1, (hBh1.cell (p := ⟨S, 0, none⟩) (lS1)).trans k1, (hBh1.cell (p := ⟨b, 11, none⟩) (lb)).trans d1⟩
        refine hK.out _ _ hSh1 ?_
        clear hK K
        refine held_take (v := ?_) 19 28 rfl rfl (by kernel_rfl) (by kernel_rfl) (by kernel_rfl) (fun _ _ _ h => h) ⟨by rfl, ?_⟩ hSh1 ?_
        rotate_left
        · intro w' hw'; obtain ⟨x0, x1, x2⟩ := hw'; go_simp; (try with_reducible rfl)
        simp only [Act.put, List.setIfInBounds_toArray, List.set_cons_zero, List.set_cons_succ]
        refine held_take (v := ?_) 20 29 rfl rfl (by kernel_rfl) (by kernel_rfl) (by kernel_rfl) (fun _ _ _ h => h) ⟨by rfl, ?_⟩ hSh1 ?_
        rotate_left
        · intro w' hw'; obtain ⟨x0, x1, x2⟩ := hw'; go_simp; (try with_reducible rfl)
        simp only [Act.put, List.setIfInBounds_toArray, List.set_cons_zero, List.set_cons_succ]
        refine wpAnyH_done (by kernel_rfl) ?_ _
        clear hs1
        have H2 := Lib.hid (And.intro ((hBh1.block b lb).trans HH.out) (Foot.of_below (F := (· = b)) hBh1))
        have k2 := (hBh1.cell (p := ⟨S, 0, none⟩) lS1).trans K1.out
        have h2 := H2.out.1
        have f1 := frozen_blk (i := 11) h2
        have d2 : wh1.cell? ⟨b, 11, none⟩ = some (.int .i64 x.me) := cell_blk h2 rfl
        clear hBh1 h2 k1 d1
        cases q
        · go_wp2
          go_ret
          first | exact ⟨by simp, fun h => absurd h (by decide), H2.out.2⟩ | exact ⟨by simp, H2.out.2⟩
        · go_wp2
          generalize wh1 = wz at *
          go_region
          all_goals go_wp2
          all_goals go_ret
          have hE := rc_put (i := 11) (y := { x with me := u }) (.int .i64 u) H2.out.1 rfl
          have hG := (H2.out.2.setCell (p := ⟨b, 11, none⟩) (.inl rfl) (.int .i64 u)).drew
          first | exact ⟨by simp, fun _ => hE, hG⟩ | exact ⟨by simp, hE, hG⟩

      · have t1 : (v != 1) = true := by simpa using hv1
        have t2 : (v != -1) = true := by simpa using hv2
        rw [if_pos (Or.inl ⟨hv1, hv2⟩)]
        clear hv1 hv2
        go_enter Try.func47, Try.ntmps47
        go_wp2_with fail
        refine held_begin (fun w' : World => CellsAt w' b 4 [.int .i64 x.g, .int .i64 x.c, .int .i64 x.mn, .int .i64 x.mx] ∧ w'.cell? ⟨S, 0, none⟩ = some (.int .i64 v) ∧ w'.cell? ⟨b, 11, none⟩ = some (.int .i64 x.me)) (by kernel_rfl) ?_
        have hBh0 : Below w.heap.size w w.drew := (Below.refl _ _).drew
        have hSh0 : (fun w' : World => CellsAt w' b 4 [.int .i64 x.g, .int .i64 x.c, .int .i64 x.mn, .int .i64 x.mx] ∧ w'.cell? ⟨S, 0, none⟩ = some (.int .i64 v) ∧ w'.cell? ⟨b, 11, none⟩ = some (.int .i64 x.me)) w.drew := ⟨hs1, k1, d1⟩
        refine held_take (v := ?_) 0 9 rfl rfl (by kernel_rfl) (by kernel_rfl) (by kernel_rfl) (fun _ _ _ h => h) ⟨by rfl, ?_⟩ hSh0 ?_
        rotate_left
        · intro w' hw'; obtain ⟨x0, x1, x2⟩ := hw'; go_simp; (try with_reducible rfl)
        simp only [Act.put, List.setIfInBounds_toArray, List.set_cons_zero, List.set_cons_succ]
        refine held_take (v := ?_) 1 10 rfl rfl (by kernel_rfl) (by kernel_rfl) (by kernel_rfl) (fun _ _ _ h => h) ⟨by rfl, ?_⟩ hSh0 ?_
        rotate_left
        · intro w' hw'; obtain ⟨x0, x1, x2⟩ := hw'; go_simp; (try with_reducible rfl)
        simp only [Act.put, List.setIfInBounds_toArray, List.set_cons_zero, List.set_cons_succ]
        refine held_take (v := ?_) 2 11 rfl rfl (by kernel_rfl) (by kernel_rfl) (by kernel_rfl) (fun _ _ _ h => h) ⟨by rfl, ?_⟩ hSh0 ?_
        rotate_left
        · intro w' hw'; obtain ⟨x0, x1, x2⟩ := hw'; go_simp; (try with_reducible rfl)
        simp only [Act.put, List.setIfInBounds_toArray, List.set_cons_zero, List.set_cons_succ]
        refine held_take (v := ?_) 3 12 rfl rfl (by kernel_rfl) (by kernel_rfl) (by kernel_rfl) (fun _ _ _ h => h) ⟨by rfl, ?_⟩ hSh0 ?_
        rotate_left
        · intro w' hw'; obtain ⟨x0, x1, x2⟩ := hw'; go_simp; (try with_reducible rfl)
        simp only [Act.put, List.setIfInBounds_toArray, List.set_cons_zero, List.set_cons_succ]
        refine held_take (v := ?_) 4 13 rfl rfl (by kernel_rfl) (by kernel_rfl) (by kernel_rfl) (fun _ _ _ h => h) ⟨by rfl, ?_⟩ hSh0 ?_
        rotate_left
        · intro w' hw'; obtain ⟨x0, x1, x2⟩ := hw'; go_simp; (try with_reducible rfl)
        simp only [Act.put, List.setIfInBounds_toArray, List.set_cons_zero, List.set_cons_succ]
        refine held_take (v := ?_) 5 14 rfl rfl (by kernel_rfl) (by kernel_rfl) (by kernel_rfl) (fun _ _ _ h => h) ⟨by rfl, ?_⟩ hSh0 ?_
        rotate_left
        · intro w' hw'; obtain ⟨x0, x1, x2⟩ := hw'; go_simp; (try with_reducible rfl)
        simp only [Act.put, List.setIfInBounds_toArray, List.set_cons_zero, List.set_cons_succ]
        refine held_take (v := ?_) 6 15 rfl rfl (by kernel_rfl) (by kernel_rfl) (by kernel_rfl) (fun _ _ _ h => h) ⟨by rfl, ?_⟩ hSh0 ?_
        rotate_left
        · intro w' hw'; obtain ⟨x0, x1, x2⟩ := hw'; go_simp; (try with_reducible rfl)
        simp only [Act.put, List.setIfInBounds_toArray, List.set_cons_zero, List.set_cons_succ]
        refine held_skip 7 16 rfl rfl (by kernel_rfl) (by kernel_rfl) (by kernel_rfl) (fun _ _ _ h => h) (by rfl) hSh0 ?_
        simp only [Act.put, List.setIfInBounds_toArray, List.set_cons_zero, List.set_cons_succ]
        refine held_skip 8 17 rfl rfl (by kernel_rfl) (by kernel_rfl) (by kernel_rfl) (fun _ _ _ h => h) (by rfl) hSh0 ?_
        simp only [Act.put, List.setIfInBounds_toArray, List.set_cons_zero, List.set_cons_succ]
        refine held_skip 9 18 rfl rfl (by kernel_rfl) (by kernel_rfl) (by kernel_rfl) (fun _ _ _ h => h) (by rfl) hSh0 ?_
        simp only [Act.put, List.setIfInBounds_toArray, List.set_cons_zero, List.set_cons_succ]
        refine held_skip 10 19 rfl rfl (by kernel_rfl) (by kernel_rfl) (by kernel_rfl) (fun _ _ _ h => h) (by rfl) hSh0 ?_
        simp only [Act.put, List.setIfInBounds_toArray, List.set_cons_zero, List.set_cons_succ]
        refine held_skip 11 20 rfl rfl (by kernel_rfl) (by kernel_rfl) (by kernel_rfl) (fun _ _ _ h => h) (by rfl) hSh0 ?_
        simp only [Act.put, List.setIfInBounds_toArray, List.set_cons_zero, List.set_cons_succ]
        refine held_skip 12 21 rfl rfl (by kernel_rfl) (by kernel_rfl) (by kernel_rfl) (fun _ _ _ h => h) (by rfl) hSh0 ?_
        simp only [Act.put, List.setIfInBounds_toArray, List.set_cons_zero, List.set_cons_succ]
        refine held_skip 13 22 rfl rfl (by kernel_rfl) (by kernel_rfl) (by kernel_rfl) (fun _ _ _ h => h) (by rfl) hSh0 ?_
        simp only [Act.put, List.setIfInBounds_toArray, List.set_cons_zero, List.set_cons_succ]
        refine held_skip 14 23 rfl rfl (by kernel_rfl) (by kernel_rfl) (by kernel_rfl) (fun _ _ _ h => h) (by rfl) hSh0 ?_
        simp only [Act.put, List.setIfInBounds_toArray, List.set_cons_zero, List.set_cons_succ]
        refine held_skip 15 24 rfl rfl (by kernel_rfl) (by kernel_rfl) (by kernel_rfl) (fun _ _ _ h => h) (by rfl) hSh0 ?_
        simp only [Act.put, List.setIfInBounds_toArray, List.set_cons_zero, List.set_cons_succ]
        refine held_skip 16 25 rfl rfl (by kernel_rfl) (by kernel_rfl) (by kernel_rfl) (fun _ _ _ h => h) (by rfl) hSh0 ?_
        simp only [Act.put, List.setIfInBounds_toArray, List.set_cons_zero, List.set_cons_succ]
        refine held_skip 17 26 rfl rfl (by kernel_rfl) (by kernel_rfl) (by kernel_rfl) (fun _ _ _ h => h) (by rfl) hSh0 ?_
        simp only [Act.put, List.setIfInBounds_toArray, List.set_cons_zero, List.set_cons_succ]
        refine held_skip 18 27 rfl rfl (by kernel_rfl) (by kernel_rfl) (by kernel_rfl) (fun _ _ _ h => h) (by rfl) hSh0 ?_
        simp only [Act.put, List.setIfInBounds_toArray, List.set_cons_zero, List.set_cons_succ]
        refine held_skip 19 28 rfl rfl (by kernel_rfl) (by kernel_rfl) (by kernel_rfl) (fun _ _ _ h => h) (by rfl) hSh0 ?_
        simp only [Act.put, List.setIfInBounds_toArray, List.set_cons_zero, List.set_cons_succ]
        refine held_take (v := ?_) 20 29 rfl rfl (by kernel_rfl) (by kernel_rfl) (by kernel_rfl) (fun _ _ _ h => h) ⟨by rfl, ?_⟩ hSh0 ?_
        rotate_left
        · intro w' hw'; obtain ⟨x0, x1, x2⟩ := hw'; go_simp; (try with_reducible rfl)
        simp only [Act.put, List.setIfInBounds_toArray, List.set_cons_zero, List.set_cons_succ]
        refine wpAnyH_done (by kernel_rfl) ?_ _
        have H2 := Lib.hid (Foot.of_below (F := (· = b)) hBh0)
        clear hs1 hBh0
        go_wp2
        go_ret
        first | exact ⟨by simp, fun h => absurd h (by decide), H2.out⟩ | exact ⟨by simp, H2.out⟩
  · rw [if_pos h3]
    have t3 : (x.st != 3) = true := by simpa using h3
    clear h3
    go_enter Try.func47, Try.ntmps47
    go_wp2
    go_ret
    first | exact ⟨by simp, fun h => absurd h (by decide), Foot.refl _ _⟩ | exact ⟨by simp, Foot.refl _ _⟩

end Go.Proofs.Ytbomdannlcclkaa
