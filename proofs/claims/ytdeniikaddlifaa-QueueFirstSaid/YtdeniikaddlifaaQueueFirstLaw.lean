/- In each queue waits stand in the order in which they were added; one that is removed, and added anew, is the last: the law QueueFirst answers true, at every input. -/
import Derived.Test.YtdeniikaddlifaaFrame
import Derived.Test.YtdeniikaddlifaaHeldOn
import Derived.Deep.CutRange
import Derived.Deep.CutBlock
import Derived.Test.YtdeniikaddlifaaHeldTwo
import Derived.Test.YtdeniikaddlifaaOrdSame
import Derived.Test.YtdeniikaddlifaaQuFirstM
import Derived.Test.YtdeniikaddlifaaQuAwake
set_option linter.unusedVariables false
namespace Go.Proofs.Ytdeniikaddlifaa.queueFirst
open Go Go.ChangeShapes Go.WideShapes Go.ChangeAt Go.RowKit
theorem doL_wf {R : List Int} {L : List Wt} {a : Qk} (h : ∀ x ∈ L, (Lit.int .i64 x.id).wf = true) (ha : (Lit.int .i64 a.x.id).wf = true) : ∀ x ∈ QL.doL R L a, (Lit.int .i64 x.id).wf = true := by
  intro x hx
  unfold QL.doL QL.addL QL.dropI at hx
  split at hx
  · split at hx
    · rcases List.mem_append.1 hx with e | e
      · exact h x e
      · simp at e; subst e; exact ha
    · exact h x hx
  · split at hx
    · exact h x (List.mem_filter.1 hx).1
    · exact h x hx
theorem came_do {R : List Int} {L : List Wt} {cm : Int → Int} {i : Int} (h : QL.Came cm L i) (a : Qk) (hn : ¬ (a.k = 0 ∧ QL.doE R L a = 0)) : QL.Came cm (QL.doL R L a) (i + 1) := by
  unfold QL.doL
  split
  · rename_i h0
    unfold QL.addL
    rw [if_neg (fun e => hn ⟨h0, by unfold QL.doE; rw [if_pos h0]; exact e⟩)]
    exact h.later (by omega)
  · split
    · exact (h.drop _).later (by omega)
    · exact h.later (by omega)
theorem came_add {R : List Int} {L : List Wt} {cm : Int → Int} {i : Int} (h : QL.Came cm L i) {a : Qk} (h0 : a.k = 0) (he : QL.doE R L a = 0) : QL.Came (fun y => if y = a.x.id then i + 1 else cm y) (QL.doL R L a) (i + 1) := by
  unfold QL.doE at he
  rw [if_pos h0] at he
  have hno : QL.hasI L a.x.id = false := by
    unfold QL.addE at he
    split at he
    · omega
    · split at he
      · omega
      · rename_i h2; simpa using h2
  unfold QL.doL QL.addL
  rw [if_pos h0, if_pos he]
  exact h.add a.x hno
theorem wt_eq (x : Wt) (W : World) : (binOp .eql 39 (.agg (wtA x)) (.agg (wtA x))).run Try.prog W = .ok (.bool true) W := by
  unfold wtA
  go_simp
set_option maxRecDepth 100000 in
set_option maxHeartbeats 16000000 in
theorem walk (A : Option Addr) (c : Nat) (R : List Int) (Al : Option Addr) (cl : Nat) (l : List Qk) (idq : Int) (w : World) (hv : Nums w w.heap.size A R) (hq : ∀ a ∈ R, (Lit.int .i64 a).wf = true) (lc : R.length ≤ c) (mc : c ≤ maxLen)
    (hvl : Qks w w.heap.size Al l) (hql : ∀ a ∈ l, QkW a) (lcl : l.length ≤ cl) (mcl : cl ≤ maxLen) (wk : (Lit.int .i64 idq).wf = true) :
    Calls Try.prog 6 #[.slice A R.length c, .slice Al l.length cl, .int .i64 idq] w fun e w' => e = .returned (.bool true) ∧ Below w.heap.size w w' := by
  have AW := Lib.hid (fun W => awake_q W)
  unfold maxLen at mc mcl
  obtain ⟨n, hn⟩ : ∃ n, n = R.length := ⟨_, rfl⟩
  obtain ⟨u, hu⟩ : ∃ u, u = l.length := ⟨_, rfl⟩
  have HRi := Lib.hid (fun W (hW : Below w.heap.size w W) => right_r A c R W (hv.keep hW hW.size) (by omega))
  have HNe := Lib.hid (fun W (hW : Below w.heap.size w W) (h : R.length ≤ 1000000) => new_i A c R w W hW (hv.keep hW hW.size) h)
  have H := Lib.hid (And.intro hv (And.intro hn (And.intro hvl (And.intro hu hql))))
  rw [← hn] at HRi HNe lc ⊢
  rw [← hu] at lcl ⊢
  clear hv hn hq hvl hu hql
  go_enter Try.func6, Try.ntmps6
  go_wp2_with fail
  refine (AW.out _).mono ?_
  rintro e w1 ⟨rfl, hb1⟩
  have HB1 := Lib.hid hb1
  have hRi := HRi.out w1 hb1
  clear hb1 AW HRi
  go_wp2_with fail
  refine hRi.mono ?_
  rintro e w2 ⟨rfl, hb2⟩
  have HB2 := Lib.hid (below_step HB1.out hb2)
  clear hb2 hRi HB1
  obtain ⟨rg, hrg⟩ : ∃ rg, rg = QL.right R := ⟨_, rfl⟩
  rw [← hrg]
  have HRG := Lib.hid hrg
  clear hrg
  cases rg
  · go_wp2
    go_ret
    exact ⟨by first | rfl | (simp; done), HB2.out⟩
  by_cases h100 : 100 < u
  · have t0 : decide ((100 : Int) < (u : Int)) = true := decide_eq_true (by omega)
    go_wp2
    go_ret
    exact ⟨by first | rfl | (simp; done), HB2.out⟩
  have t0 : decide ((100 : Int) < (u : Int)) = false := decide_eq_false (by omega)
  have hRt := QL.right_iff.1 HRG.out.symm
  have hn8 : n ≤ 8 := by rw [H.out.2.1]; exact hRt.hi
  have hNe := HNe.out w2 HB2.out (by omega)
  clear hRt HNe
  go_wp2_with fail
  refine hNe.mono ?_
  rintro e w3 (⟨hbad, _⟩ | ⟨_, p, rfl, hQ⟩)
  · rw [← HRG.out] at hbad; cases hbad
  have HQ := Lib.hid hQ
  clear hQ hNe
  have hu100 : u ≤ 100 := by omega
  clear h100
  have HQ0 : Hid (QuMap w (w3.alloc (.map #[] 0)) p w3.heap.size 0 (fun _ => none) R []) := Lib.hid (QuMap.made HQ.out)
  have HT0 : Hid (TellsI (fun _ => none) (fun _ => 0)) := Lib.hid (fun x => rfl)
  have HC0 : Hid (QL.Came (fun _ => 0) [] ((0 : Nat) : Int)) := Lib.hid ⟨List.Pairwise.nil, fun x hx => by simp at hx⟩
  obtain ⟨m, hm⟩ : ∃ m, m = w3.heap.size := ⟨_, rfl⟩
  have Hm := Lib.hid hm
  have hmk := @run_makeMap Try.prog
  clear hm HQ
  go_wp2
  rw [← Hm.out] at HQ0 ⊢
  clear hmk
  go_loopw [10] (fun vi wr => ∃ (i nm : Nat) (f : Int → Option Value) (cm : Int → Int) (L : List Wt), vi = .int .i64 (i : Nat) ∧ i ≤ u ∧ nm ≤ i ∧ Hid (QL.Came cm L (i : Nat)) ∧ Hid (TellsI f cm) ∧ Hid (∀ x ∈ L, (Lit.int .i64 x.id).wf = true) ∧ Hid (QuMap w wr p m nm f R L)) (fun vi _ => u - (intOf vi).toNat)
  case atStart => exact ⟨0, 0, _, _, [], rfl, by omega, by omega, HC0, HT0, Lib.hid (by simp), HQ0⟩
  case round =>
    clear HQ0 HT0 HC0
    obtain ⟨i, nm, f, cm, L, rfl, hiu, hnm, hCm, hT, hWL, HQ⟩ := hrel
    by_cases hlt : i < u
    · have t2 : decide (i < u) = true := decide_eq_true hlt
      obtain ⟨a, ha⟩ := get_lt (l := l) (k := i) (by rw [← H.out.2.2.2.1]; exact hlt)
      have haW := H.out.2.2.2.2 a (List.mem_of_getElem? ha)
      obtain ⟨b, off, rfl, hb, hcc⟩ := H.out.2.2.1.at_ ha
      obtain ⟨ka, xa⟩ := a
      have HAc := Lib.hid (fun W (hW : Below w.heap.size w W) => (hcc i _ ha).keep hb hW)
      have hca := HAc.out wr HQ.out.b
      have HWf := Lib.hid haW.x.id
      have a0 : wr.cell? ⟨b, off + i * 11, none⟩ = some (.int .i64 ka) := hca 0 _ rfl
      have a1 : wr.cell? ⟨b, off + i * 11 + 1, none⟩ = some (.int .i64 xa.id) := hca 1 _ rfl
      have a2 : wr.cell? ⟨b, off + i * 11 + 2, none⟩ = some (.int .i64 xa.q) := hca 2 _ rfl
      have a3 : wr.cell? ⟨b, off + i * 11 + 3, none⟩ = some (.int .i64 xa.p) := hca 3 _ rfl
      have a4 : wr.cell? ⟨b, off + i * 11 + 4, none⟩ = some (.int .i64 xa.r) := hca 4 _ rfl
      have a5 : wr.cell? ⟨b, off + i * 11 + 5, none⟩ = some (.int .i64 xa.g) := hca 5 _ rfl
      have a6 : wr.cell? ⟨b, off + i * 11 + 6, none⟩ = some (.int .i64 xa.c) := hca 6 _ rfl
      have a7 : wr.cell? ⟨b, off + i * 11 + 7, none⟩ = some (.int .i64 xa.mn) := hca 7 _ rfl
      have a8 : wr.cell? ⟨b, off + i * 11 + 8, none⟩ = some (.int .i64 xa.mx) := hca 8 _ rfl
      have a9 : wr.cell? ⟨b, off + i * 11 + 9, none⟩ = some (.int .i64 xa.s) := hca 9 _ rfl
      have a10 : wr.cell? ⟨b, off + i * 11 + 10, none⟩ = some (.int .i64 xa.n) := hca 10 _ rfl
      have hA := do_m p m nm f R L ⟨ka, xa⟩ w wr HQ.out
      obtain ⟨y, hy⟩ : ∃ y, y = QL.doW L ⟨ka, xa⟩ := ⟨_, rfl⟩
      obtain ⟨e1, he1⟩ : ∃ e1, e1 = QL.doE R L ⟨ka, xa⟩ := ⟨_, rfl⟩
      obtain ⟨L', hL'⟩ : ∃ L', L' = QL.doL R L ⟨ka, xa⟩ := ⟨_, rfl⟩
      rw [← hy, ← he1, ← hL'] at hA
      have HY := Lib.hid (And.intro he1 hL')
      have HWL : Hid (∀ x ∈ L', (Lit.int .i64 x.id).wf = true) := Lib.hid (by rw [hL']; exact doL_wf hWL.out haW.x.id)
      simp only [wtV, wtA, qkV, qkA] at hA
      clear ha haW hWL hcc hca hb HQ hy he1 hL'
      go_wp2_with fail
      refine hA.mono ?_
      rintro e w4 ⟨rfl, hQ4⟩
      have HQ5 := Lib.hid (hQ4.keep ((Below.refl w4.heap.size w4).alloc (Nat.le_refl _) (.cells #[.int .i64 y.id, .int .i64 y.q, .int .i64 y.p, .int .i64 y.r, .int .i64 y.g, .int .i64 y.c, .int .i64 y.mn, .int .i64 y.mx, .int .i64 y.s, .int .i64 y.n] 39)))
      have hca := HAc.out _ HQ5.out.b
      have d0 : (w4.alloc (.cells #[.int .i64 y.id, .int .i64 y.q, .int .i64 y.p, .int .i64 y.r, .int .i64 y.g, .int .i64 y.c, .int .i64 y.mn, .int .i64 y.mx, .int .i64 y.s, .int .i64 y.n] 39)).cell? ⟨b, off + i * 11, none⟩ = some (.int .i64 ka) := hca 0 _ rfl
      have d1 : (w4.alloc (.cells #[.int .i64 y.id, .int .i64 y.q, .int .i64 y.p, .int .i64 y.r, .int .i64 y.g, .int .i64 y.c, .int .i64 y.mn, .int .i64 y.mx, .int .i64 y.s, .int .i64 y.n] 39)).cell? ⟨b, off + i * 11 + 1, none⟩ = some (.int .i64 xa.id) := hca 1 _ rfl
      clear hQ4 hA a0 a1 a2 a3 a4 a5 a6 a7 a8 a9 a10 hca
      by_cases h0 : ka = 0 ∧ e1 = 0
      · obtain ⟨h0, h1⟩ := h0
        subst h0 h1
        have HC : Hid (QL.Came (fun y => if y = xa.id then (i : Int) + 1 else cm y) L' ((i + 1 : Nat) : Int)) := Lib.hid (by rw [HY.out.2]; exact came_add hCm.out rfl HY.out.1.symm)
        obtain ⟨wm, n2, hput, hn2, hQm, _⟩ := HQ5.out.put (by omega) ((i : Int) + 1) HWf.out
        have HT : Hid (TellsI (fun y => if y = xa.id then some (.int .i64 ((i : Int) + 1)) else f y) (fun y => if y = xa.id then (i : Int) + 1 else cm y)) := Lib.hid (fun y => by
          by_cases e : y = xa.id
          · simp [e]
          · simp only [if_neg e]; exact hT.out y)
        have HQm := Lib.hid hQm
        have hsum : IntKind.i64.wrap ((i : Int) + 1) = (i : Int) + 1 := IntWalk.i64_in _ (by omega)
        clear hQm hT hCm HQ5
        go_wp2
        go_roundw
        case rel => exact ⟨i + 1, n2, _, _, L', by go_num, by omega, by omega, HC, HT, HWL, HQm⟩
        case measure => simp [intOf]; omega
      · have HC : Hid (QL.Came cm L' ((i + 1 : Nat) : Int)) := Lib.hid (by rw [HY.out.2]; exact came_do hCm.out ⟨ka, xa⟩ (by rw [← HY.out.1]; exact h0))
        clear hCm
        by_cases h1 : e1 = 0
        · subst h1
          have t3 : decide (ka = 0) = false := decide_eq_false fun e => h0 ⟨e, rfl⟩
          have h3 : ¬ ka = 0 := fun e => h0 ⟨e, rfl⟩
          clear h0
          go_wp2
          go_roundw
          case rel => exact ⟨i + 1, nm, f, cm, L', by go_num, by omega, by omega, HC, hT, HWL, HQ5⟩
          case measure => simp [intOf]; omega
        · have t3 : decide (e1 = 0) = false := decide_eq_false h1
          clear h0
          go_wp2
          go_roundw
          case rel => exact ⟨i + 1, nm, f, cm, L', by go_num, by omega, by omega, HC, hT, HWL, HQ5⟩
          case measure => simp [intOf]; omega
    · have t2 : decide (i < u) = false := decide_eq_false hlt
      obtain ⟨F, hF1, hF2, _⟩ := HQ.out.ex
      have HFl := Lib.hid hF1.lt
      have HF0 := Lib.hid (And.intro hF1 hF2)
      have hAl := all_f p R L w _ HQ.out.inq
      have hmm := HQ.out.inq.inv.all
      have hML : (QL.allL R.length L).length = L.length := QL.all_len R.length L HQ.out.inq.inv.q
      clear hF1 hF2
      obtain ⟨M, hM⟩ : ∃ M, M = QL.allL R.length L := ⟨_, rfl⟩
      rw [← hM] at hAl hmm hML
      obtain ⟨v, hvv⟩ : ∃ v, v = M.length := ⟨_, rfl⟩
      rw [← hvv] at hAl hmm hML
      have HM := Lib.hid (And.intro hM (And.intro hvv hML))
      clear hM hvv hML hlt
      go_wp2_with fail
      refine hAl.mono ?_
      rintro e w8 ⟨A8, c8, rfl, hw8, hfr8, hb8⟩
      have HW8 := Lib.hid hw8
      have HQ8 := Lib.hid (HQ.out.keep hb8)
      have HF8 := Lib.hid (And.intro (HF0.out.1.keep hb8) (And.intro HF0.out.2 (show ∀ b off, A8 = some ⟨b, off, none⟩ → ¬ F b from fun b off e hf => by have := HFl.out b hf; have := hfr8 b off e; omega)))
      clear hw8 hb8 hAl HQ hfr8 HFl HF0
      go_wp2
      go_loopw [14] (fun vk wr => ∃ j : Nat, vk = .int .i64 ((j + 1 : Nat) : Int) ∧ j ≤ v ∧ Hid (Below w8.heap.size w8 wr)) (fun vk _ => v + 1 - (intOf vk).toNat)
      case atStart => exact ⟨0, rfl, by omega, Lib.hid (Below.refl _ _)⟩
      case round =>
        obtain ⟨j, rfl, hjv, hB⟩ := hrel
        by_cases hlt2 : j + 1 < v
        · have t3 : decide (((j + 1 : Nat) : Int) < (v : Int)) = true := decide_eq_true (by omega)
          have t3' : decide ((j : Int) + 1 < (v : Int)) = true := decide_eq_true (by omega)
          obtain ⟨xa, hxa⟩ := get_lt (l := M) (k := j) (by rw [← HM.out.2.1]; omega)
          obtain ⟨xb, hxb⟩ := get_lt (l := M) (k := j + 1) (by rw [← HM.out.2.1]; exact hlt2)
          obtain ⟨b, off, rfl, hb, hcc⟩ := HW8.out.at_ hxa
          have c1 : WtAt wr b (off + j * 10) xa := (hcc j xa hxa).keep hb hB.out
          have c2 : WtAt wr b (off + (j + 1) * 10) xb := (hcc (j + 1) xb hxb).keep hb hB.out
          have lb : b < wr.heap.size := Nat.lt_of_lt_of_le hb hB.out.size
          have hord := hCm.out.two (n := R.length) (j := j) (a := xa) (b := xb) (by rw [← HM.out.1]; exact hxa) (by rw [← HM.out.1]; exact hxb)
          have hwa := hWL.out xa (by have := List.mem_of_getElem? hxa; rw [HM.out.1] at this; exact QL.mem_all this)
          have hwb := hWL.out xb (by have := List.mem_of_getElem? hxb; rw [HM.out.1] at this; exact QL.mem_all this)
          have HO := Lib.hid (And.intro hord (And.intro hwa hwb))
          have HB17 := hB
          have hsub : IntKind.i64.wrap (((j + 1 : Nat) : Int) - 1) = (j : Int) := by rw [IntWalk.i64_in _ (by omega)]; omega
          have hsub' : IntKind.i64.wrap ((j : Int) + 1 - 1) = (j : Int) := by rw [IntWalk.i64_in _ (by omega)]; omega
          have hjw : IntKind.i64.wrap (j : Int) = (j : Int) := IntWalk.i64_in _ (by omega)
          have p0 : (0 : Int) ≤ (j : Int) := by omega
          have p1 : (j : Int) < (v : Int) := by omega
          have p2 : (0 : Int) ≤ (j : Int) + 1 := by omega
          have p3 : (j : Int) + 1 < (v : Int) := by omega
          clear hxa hxb hcc hb hord hwa hwb hB
          go_upto_region 19 with fail
          go_cut [15, 16] from 81 to 120 (fun s15 s16 wx => ∃ X Y : Nat, s15 = .pointer (some ⟨X, 0, none⟩) ∧ s16 = .pointer (some ⟨Y, 0, none⟩) ∧ Hid (wx.heap[X]? = some (.cells (jbA xa) 37 (0, 0)) ∧ wx.heap[Y]? = some (.cells (jbA xb) 37 (0, 0)) ∧ Below w8.heap.size w8 wx))
          case first =>
            refine held_begin (fun w' : World => WtAt w' b (off + j * 10) xa ∧ WtAt w' b (off + (j + 1) * 10) xb) (by kernel_rfl) ?_
            have hB0 : Below wr.heap.size wr wr.drew := (Below.refl _ _).drew
            have hS0 : (fun w' : World => WtAt w' b (off + j * 10) xa ∧ WtAt w' b (off + (j + 1) * 10) xb) wr.drew := ⟨c1, c2⟩
            generalize wr.drew = wd at hB0 hS0 ⊢
            have sd := hB0.size
            refine held_take (v := ?_) 0 87 rfl rfl (by kernel_rfl) (by kernel_rfl) (by kernel_rfl) (fun _ _ _ h => h) ⟨by rfl, ?_⟩ hS0 ?_
            rotate_left
            · intro w' hw'; obtain ⟨x0, x1⟩ := hw'; go_simp; (try with_reducible rfl)
            simp only [Act.put, List.setIfInBounds_toArray, List.set_cons_zero, List.set_cons_succ]
            refine held_take (v := ?_) 1 88 rfl rfl (by kernel_rfl) (by kernel_rfl) (by kernel_rfl) (fun _ _ _ h => h) ⟨by rfl, ?_⟩ hS0 ?_
            rotate_left
            · intro w' hw'; obtain ⟨x0, x1⟩ := hw'; go_simp; (try with_reducible rfl)
            simp only [Act.put, List.setIfInBounds_toArray, List.set_cons_zero, List.set_cons_succ]
            refine held_take (v := ?_) 2 89 rfl rfl (by kernel_rfl) (by kernel_rfl) (by kernel_rfl) (fun _ _ _ h => h) ⟨by rfl, ?_⟩ hS0 ?_
            rotate_left
            · intro w' hw'; obtain ⟨x0, x1⟩ := hw'; go_simp; (try with_reducible rfl)
            simp only [Act.put, List.setIfInBounds_toArray, List.set_cons_zero, List.set_cons_succ]
            refine held_take (v := ?_) 3 90 rfl rfl (by kernel_rfl) (by kernel_rfl) (by kernel_rfl) (fun _ _ _ h => h) ⟨by rfl, ?_⟩ hS0 ?_
            rotate_left
            · intro w' hw'; obtain ⟨x0, x1⟩ := hw'; go_simp; (try with_reducible rfl)
            simp only [Act.put, List.setIfInBounds_toArray, List.set_cons_zero, List.set_cons_succ]
            refine held_take (v := ?_) 4 91 rfl rfl (by kernel_rfl) (by kernel_rfl) (by kernel_rfl) (fun _ _ _ h => h) ⟨by rfl, ?_⟩ hS0 ?_
            rotate_left
            · intro w' hw'; obtain ⟨x0, x1⟩ := hw'; go_simp; (try with_reducible rfl)
            simp only [Act.put, List.setIfInBounds_toArray, List.set_cons_zero, List.set_cons_succ]
            refine held_take (v := ?_) 5 92 rfl rfl (by kernel_rfl) (by kernel_rfl) (by kernel_rfl) (fun _ _ _ h => h) ⟨by rfl, ?_⟩ hS0 ?_
            rotate_left
            · intro w' hw'; obtain ⟨x0, x1⟩ := hw'; refine Eq.trans (run_load_jb (by rfl) (by rfl) x0) ?_; (with_reducible rfl)
            simp only [Act.put, List.setIfInBounds_toArray, List.set_cons_zero, List.set_cons_succ]
            refine held_take (v := ?_) 6 93 rfl rfl (by kernel_rfl) (by kernel_rfl) (by kernel_rfl) (fun _ _ _ h => h) ⟨by rfl, ?_⟩ hS0 ?_
            rotate_left
            · intro w' hw'; obtain ⟨x0, x1⟩ := hw'; go_simp; (try with_reducible rfl)
            simp only [Act.put, List.setIfInBounds_toArray, List.set_cons_zero, List.set_cons_succ]
            refine held_take (v := ?_) 7 94 rfl rfl (by kernel_rfl) (by kernel_rfl) (by kernel_rfl) (fun _ _ _ h => h) ⟨by rfl, ?_⟩ hS0 ?_
            rotate_left
            · intro w' hw'; obtain ⟨x0, x1⟩ := hw'; go_simp; (try with_reducible rfl)
            simp only [Act.put, List.setIfInBounds_toArray, List.set_cons_zero, List.set_cons_succ]
            refine held_take (v := ?_) 8 95 rfl rfl (by kernel_rfl) (by kernel_rfl) (by kernel_rfl) (fun _ _ _ h => h) ⟨by rfl, ?_⟩ hS0 ?_
            rotate_left
            · intro w' hw'; obtain ⟨x0, x1⟩ := hw'; go_simp; (try with_reducible rfl)
            simp only [Act.put, List.setIfInBounds_toArray, List.set_cons_zero, List.set_cons_succ]
            refine held_take (v := ?_) 9 96 rfl rfl (by kernel_rfl) (by kernel_rfl) (by kernel_rfl) (fun _ _ _ h => h) ⟨by rfl, ?_⟩ hS0 ?_
            rotate_left
            · intro w' hw'; obtain ⟨x0, x1⟩ := hw'; go_simp; (try with_reducible rfl)
            simp only [Act.put, List.setIfInBounds_toArray, List.set_cons_zero, List.set_cons_succ]
            refine held_take (v := ?_) 10 97 rfl rfl (by kernel_rfl) (by kernel_rfl) (by kernel_rfl) (fun _ _ _ h => h) ⟨by rfl, ?_⟩ hS0 ?_
            rotate_left
            · intro w' hw'; obtain ⟨x0, x1⟩ := hw'; refine Eq.trans (run_load_jb (by rfl) (by rfl) x1) ?_; (with_reducible rfl)
            simp only [Act.put, List.setIfInBounds_toArray, List.set_cons_zero, List.set_cons_succ]
            refine held_two 11 12 rfl rfl (by kernel_rfl) (by rfl) (by rfl) (fun K hK => ?_) (fun K hK => ?_)
            · go_simp
              obtain ⟨wA, hwA⟩ : ∃ z, z = wd.alloc (.cells #[.int .i64 0, .int .i64 0, .int .i64 0, .int .i64 0, .int .i64 0, .int .i64 0, .int .i64 0, .int .i64 0] 37) := ⟨_, rfl⟩
              have ewA : wA.heap[wd.heap.size]? = some (.cells #[.int .i64 0, .int .i64 0, .int .i64 0, .int .i64 0, .int .i64 0, .int .i64 0, .int .i64 0, .int .i64 0] 37 (0, 0)) := by rw [hwA]; exact heap_alloc_new _ _
              have bwA : Below wd.heap.size wd wA := by rw [hwA]; exact (Below.refl _ _).alloc (Nat.le_refl _) _
              have swA : wA.heap.size = wd.heap.size + 1 := by rw [hwA]; simp
              have hBA : Below wr.heap.size wr wA := by rw [hwA]; exact hB0.alloc hB0.size _
              have hSA : (fun w' : World => WtAt w' b (off + j * 10) xa ∧ WtAt w' b (off + (j + 1) * 10) xb) wA := ⟨CellsAt.keep hS0.1 (by omega) bwA, CellsAt.keep hS0.2 (by omega) bwA⟩
              rw [← hwA]
              refine hK.out _ _ hSA ?_
              clear hK K hwA
              try simp only [Act.put, List.setIfInBounds_toArray, List.set_cons_zero, List.set_cons_succ]
              refine held_one 12 rfl (by kernel_rfl) (by rfl) (fun K hK => ?_)
              go_simp
              obtain ⟨wB, hwB⟩ : ∃ z, z = wA.alloc (.cells #[.int .i64 0, .int .i64 0, .int .i64 0, .int .i64 0, .int .i64 0, .int .i64 0, .int .i64 0, .int .i64 0] 37) := ⟨_, rfl⟩
              have ewB : wB.heap[wA.heap.size]? = some (.cells #[.int .i64 0, .int .i64 0, .int .i64 0, .int .i64 0, .int .i64 0, .int .i64 0, .int .i64 0, .int .i64 0] 37 (0, 0)) := by rw [hwB]; exact heap_alloc_new _ _
              have bwB : Below wA.heap.size wA wB := by rw [hwB]; exact (Below.refl _ _).alloc (Nat.le_refl _) _
              have swB : wB.heap.size = wA.heap.size + 1 := by rw [hwB]; simp
              have hBB : Below wr.heap.size wr wB := by rw [hwB]; exact hBA.alloc hBA.size _
              have hSB : (fun w' : World => WtAt w' b (off + j * 10) xa ∧ WtAt w' b (off + (j + 1) * 10) xb) wB := ⟨CellsAt.keep hSA.1 (by omega) bwB, CellsAt.keep hSA.2 (by omega) bwB⟩
              rw [← hwB]
              refine hK.out _ _ hSB ?_
              clear hK K hwB
              try simp only [Act.put, List.setIfInBounds_toArray, List.set_cons_zero, List.set_cons_succ]
              have eX : wB.heap[wd.heap.size]? = some (.cells #[.int .i64 0, .int .i64 0, .int .i64 0, .int .i64 0, .int .i64 0, .int .i64 0, .int .i64 0, .int .i64 0] 37 (0, 0)) := (bwB.block _ (by omega)).trans ewA
              have eY : wB.heap[(wd.heap.size + 1)]? = some (.cells #[.int .i64 0, .int .i64 0, .int .i64 0, .int .i64 0, .int .i64 0, .int .i64 0, .int .i64 0, .int .i64 0] 37 (0, 0)) := (by rw [← swA]; exact ewB)
              have hXY : wd.heap.size ≠ (wd.heap.size + 1) := by omega
              refine held_one 13 rfl (by kernel_rfl) (by rfl) (fun K hK => ?_)
              simp only [Go.wp_at_zero, Go.wp_at_succ]
              refine wp_store_row 37 _ _ rfl wd.heap.size (jbA xa) rfl rfl 37 _ eX (by kernel_rfl) rfl (jbA_one xa) ?_
              have hSc : (fun w' : World => WtAt w' b (off + j * 10) xa ∧ WtAt w' b (off + (j + 1) * 10) xb) (wB.setRow wd.heap.size (jbA xa)) := ⟨CellsAt.of hSB.1 (setRow_other _ _ b _ (by omega)), CellsAt.of hSB.2 (setRow_other _ _ b _ (by omega))⟩
              refine hK.out _ _ hSc ?_
              clear hK K
              try simp only [Act.put, List.setIfInBounds_toArray, List.set_cons_zero, List.set_cons_succ]
              have fX := setRow_heap wB wd.heap.size _ (jbA xa) _ _ eX
              have fY := (setRow_other wB wd.heap.size (wd.heap.size + 1) (jbA xa) (Ne.symm hXY)).trans eY
              refine held_one 14 rfl (by kernel_rfl) (by rfl) (fun K hK => ?_)
              simp only [Go.wp_at_zero, Go.wp_at_succ]
              refine wp_store_row 37 _ _ rfl (wd.heap.size + 1) (jbA xb) rfl rfl 37 _ fY (by kernel_rfl) rfl (jbA_one xb) ?_
              have hSd : (fun w' : World => WtAt w' b (off + j * 10) xa ∧ WtAt w' b (off + (j + 1) * 10) xb) ((wB.setRow wd.heap.size (jbA xa)).setRow (wd.heap.size + 1) (jbA xb)) := ⟨CellsAt.of hSc.1 (setRow_other _ _ b _ (by omega)), CellsAt.of hSc.2 (setRow_other _ _ b _ (by omega))⟩
              refine hK.out _ _ hSd ?_
              clear hK K
              try simp only [Act.put, List.setIfInBounds_toArray, List.set_cons_zero, List.set_cons_succ]
              have gY := setRow_heap (wB.setRow wd.heap.size (jbA xa)) (wd.heap.size + 1) _ (jbA xb) _ _ fY
              have gX := (setRow_other (wB.setRow wd.heap.size (jbA xa)) (wd.heap.size + 1) wd.heap.size (jbA xb) hXY).trans fX
              have hBd : Below wr.heap.size wr ((wB.setRow wd.heap.size (jbA xa)).setRow (wd.heap.size + 1) (jbA xb)) := below_row (below_row hBB (by omega) _) (by omega) _
              refine wpAnyH_done (by kernel_rfl) ?_ _
              go_wp2
              go_meet
              case rel => exact ⟨_, _, rfl, rfl, Lib.hid ⟨gX, gY, below_step HB17.out hBd⟩⟩

            · go_simp
              obtain ⟨wA, hwA⟩ : ∃ z, z = wd.alloc (.cells #[.int .i64 0, .int .i64 0, .int .i64 0, .int .i64 0, .int .i64 0, .int .i64 0, .int .i64 0, .int .i64 0] 37) := ⟨_, rfl⟩
              have ewA : wA.heap[wd.heap.size]? = some (.cells #[.int .i64 0, .int .i64 0, .int .i64 0, .int .i64 0, .int .i64 0, .int .i64 0, .int .i64 0, .int .i64 0] 37 (0, 0)) := by rw [hwA]; exact heap_alloc_new _ _
              have bwA : Below wd.heap.size wd wA := by rw [hwA]; exact (Below.refl _ _).alloc (Nat.le_refl _) _
              have swA : wA.heap.size = wd.heap.size + 1 := by rw [hwA]; simp
              have hBA : Below wr.heap.size wr wA := by rw [hwA]; exact hB0.alloc hB0.size _
              have hSA : (fun w' : World => WtAt w' b (off + j * 10) xa ∧ WtAt w' b (off + (j + 1) * 10) xb) wA := ⟨CellsAt.keep hS0.1 (by omega) bwA, CellsAt.keep hS0.2 (by omega) bwA⟩
              rw [← hwA]
              refine hK.out _ _ hSA ?_
              clear hK K hwA
              try simp only [Act.put, List.setIfInBounds_toArray, List.set_cons_zero, List.set_cons_succ]
              refine held_one 11 rfl (by kernel_rfl) (by rfl) (fun K hK => ?_)
              go_simp
              obtain ⟨wB, hwB⟩ : ∃ z, z = wA.alloc (.cells #[.int .i64 0, .int .i64 0, .int .i64 0, .int .i64 0, .int .i64 0, .int .i64 0, .int .i64 0, .int .i64 0] 37) := ⟨_, rfl⟩
              have ewB : wB.heap[wA.heap.size]? = some (.cells #[.int .i64 0, .int .i64 0, .int .i64 0, .int .i64 0, .int .i64 0, .int .i64 0, .int .i64 0, .int .i64 0] 37 (0, 0)) := by rw [hwB]; exact heap_alloc_new _ _
              have bwB : Below wA.heap.size wA wB := by rw [hwB]; exact (Below.refl _ _).alloc (Nat.le_refl _) _
              have swB : wB.heap.size = wA.heap.size + 1 := by rw [hwB]; simp
              have hBB : Below wr.heap.size wr wB := by rw [hwB]; exact hBA.alloc hBA.size _
              have hSB : (fun w' : World => WtAt w' b (off + j * 10) xa ∧ WtAt w' b (off + (j + 1) * 10) xb) wB := ⟨CellsAt.keep hSA.1 (by omega) bwB, CellsAt.keep hSA.2 (by omega) bwB⟩
              rw [← hwB]
              refine hK.out _ _ hSB ?_
              clear hK K hwB
              try simp only [Act.put, List.setIfInBounds_toArray, List.set_cons_zero, List.set_cons_succ]
              have eX : wB.heap[(wd.heap.size + 1)]? = some (.cells #[.int .i64 0, .int .i64 0, .int .i64 0, .int .i64 0, .int .i64 0, .int .i64 0, .int .i64 0, .int .i64 0] 37 (0, 0)) := (by rw [← swA]; exact ewB)
              have eY : wB.heap[wd.heap.size]? = some (.cells #[.int .i64 0, .int .i64 0, .int .i64 0, .int .i64 0, .int .i64 0, .int .i64 0, .int .i64 0, .int .i64 0] 37 (0, 0)) := (bwB.block _ (by omega)).trans ewA
              have hXY : (wd.heap.size + 1) ≠ wd.heap.size := by omega
              refine held_one 13 rfl (by kernel_rfl) (by rfl) (fun K hK => ?_)
              simp only [Go.wp_at_zero, Go.wp_at_succ]
              refine wp_store_row 37 _ _ rfl (wd.heap.size + 1) (jbA xa) rfl rfl 37 _ eX (by kernel_rfl) rfl (jbA_one xa) ?_
              have hSc : (fun w' : World => WtAt w' b (off + j * 10) xa ∧ WtAt w' b (off + (j + 1) * 10) xb) (wB.setRow (wd.heap.size + 1) (jbA xa)) := ⟨CellsAt.of hSB.1 (setRow_other _ _ b _ (by omega)), CellsAt.of hSB.2 (setRow_other _ _ b _ (by omega))⟩
              refine hK.out _ _ hSc ?_
              clear hK K
              try simp only [Act.put, List.setIfInBounds_toArray, List.set_cons_zero, List.set_cons_succ]
              have fX := setRow_heap wB (wd.heap.size + 1) _ (jbA xa) _ _ eX
              have fY := (setRow_other wB (wd.heap.size + 1) wd.heap.size (jbA xa) (Ne.symm hXY)).trans eY
              refine held_one 14 rfl (by kernel_rfl) (by rfl) (fun K hK => ?_)
              simp only [Go.wp_at_zero, Go.wp_at_succ]
              refine wp_store_row 37 _ _ rfl wd.heap.size (jbA xb) rfl rfl 37 _ fY (by kernel_rfl) rfl (jbA_one xb) ?_
              have hSd : (fun w' : World => WtAt w' b (off + j * 10) xa ∧ WtAt w' b (off + (j + 1) * 10) xb) ((wB.setRow (wd.heap.size + 1) (jbA xa)).setRow wd.heap.size (jbA xb)) := ⟨CellsAt.of hSc.1 (setRow_other _ _ b _ (by omega)), CellsAt.of hSc.2 (setRow_other _ _ b _ (by omega))⟩
              refine hK.out _ _ hSd ?_
              clear hK K
              try simp only [Act.put, List.setIfInBounds_toArray, List.set_cons_zero, List.set_cons_succ]
              have gY := setRow_heap (wB.setRow (wd.heap.size + 1) (jbA xa)) wd.heap.size _ (jbA xb) _ _ fY
              have gX := (setRow_other (wB.setRow (wd.heap.size + 1) (jbA xa)) wd.heap.size (wd.heap.size + 1) (jbA xb) hXY).trans fX
              have hBd : Below wr.heap.size wr ((wB.setRow (wd.heap.size + 1) (jbA xa)).setRow wd.heap.size (jbA xb)) := below_row (below_row hBB (by omega) _) (by omega) _
              refine wpAnyH_done (by kernel_rfl) ?_ _
              go_wp2
              go_meet
              case rel => exact ⟨_, _, rfl, rfl, Lib.hid ⟨gX, gY, below_step HB17.out hBd⟩⟩

          case rest =>
            obtain ⟨X, Y, rfl, rfl, hG⟩ := hcut
            obtain ⟨g1, g2, g3⟩ := hG.out
            have k0 : wc.cell? ⟨X, 0, none⟩ = some (.int .i64 xa.id) := cell_blk (i := 0) g1 rfl
            have k1 : wc.cell? ⟨X, 1, none⟩ = some (.int .i64 xa.q) := cell_blk (i := 1) g1 rfl
            have k2 : wc.cell? ⟨Y, 0, none⟩ = some (.int .i64 xb.id) := cell_blk (i := 0) g2 rfl
            have k3 : wc.cell? ⟨Y, 1, none⟩ = some (.int .i64 xb.q) := cell_blk (i := 1) g2 rfl
            have HQ20 := HQ8.out.keep g3
            have hl1 := HQ20.look hT.out HO.out.2.1
            have hl2 := HQ20.look hT.out HO.out.2.2
            have HBn := Lib.hid g3
            have q1 : decide (xb.q < xa.q) = false := decide_eq_false (by rcases HO.out.1 with e | e <;> omega)
            have q2 : xa.q = xb.q → decide (cm xb.id ≤ cm xa.id) = false := fun e => decide_eq_false (by rcases HO.out.1 with e2 | e2 <;> omega)
            obtain ⟨ca, hca⟩ : ∃ ca, ca = cm xa.id := ⟨_, rfl⟩
            obtain ⟨cb, hcb⟩ : ∃ cb, cb = cm xb.id := ⟨_, rfl⟩
            rw [← hca, ← hcb] at q2
            rw [← hca] at hl1
            rw [← hcb] at hl2
            clear hca hcb g1 g2 g3 hG HQ20 c1 c2
            by_cases he : xa.q = xb.q
            · have q3 := q2 he
              rw [he] at q1 k1
              have q4 : decide (xb.q = xb.q) = true := decide_eq_true rfl
              clear q2
              go_wp2
              go_roundw
              case rel => exact ⟨j + 1, by go_num, by omega, HBn⟩
              case measure => simp [intOf]; omega
            · have q3 : decide (xa.q = xb.q) = false := decide_eq_false he
              clear q2
              go_wp2
              go_roundw
              case rel => exact ⟨j + 1, by go_num, by omega, HBn⟩
              case measure => simp [intOf]; omega
        · have t3 : decide (((j + 1 : Nat) : Int) < (v : Int)) = false := decide_eq_false (by omega)
          have t3' : decide ((j : Int) + 1 < (v : Int)) = false := decide_eq_false (by omega)
          have HQ22 := Lib.hid (HQ8.out.inq.keep hB.out)
          have HW22 := Lib.hid (HW8.out.keep hB.out hB.out.size)
          have HFr := Lib.hid (HF8.out.1.keep hB.out)
          have hRv := remove_q p F R L idq wr HFr.out
          have HI := Lib.hid HQ22.out.inv
          obtain ⟨y, hy⟩ : ∃ y, y = QL.getW L idq := ⟨_, rfl⟩
          rw [← hy] at hRv
          have HYw := Lib.hid hy
          simp only [wtV, wtA] at hRv
          clear hy hB HQ8 HW8 hlt2
          cases hh : QL.hasI L idq
          · have hno := QL.get_no hh
            rw [hno.2, QL.dropI_no hh] at hRv
            have HAl := Lib.hid (fun W hW => all_i p R L w W hW)
            rw [← HM.out.1, ← HM.out.2.1] at HAl
            clear hh hno
            go_wp2_with fail
            refine hRv.mono ?_
            rintro e w9 ⟨rfl, F', hO9, hft9, hyg9⟩
            have hQ9 := QuIn.foot HQ22.out.b HF8.out.2.1 hO9 hft9 hyg9
            have hW9 : Wts w9 w9.heap.size A8 M := (HW22.out.off (w' := w9) fun b off e hb => hft9.block b hb (HF8.out.2.2 b off e)).imp hft9.size fun _ _ _ _ hd => hd
            have hB10 := (Below.refl w9.heap.size w9).alloc (Nat.le_refl _) (.cells #[.int .i64 y.id, .int .i64 y.q, .int .i64 y.p, .int .i64 y.r, .int .i64 y.g, .int .i64 y.c, .int .i64 y.mn, .int .i64 y.mx, .int .i64 y.s, .int .i64 y.n] 39)
            have HQ10 := Lib.hid (hQ9.keep hB10)
            have HW10 := Lib.hid (hW9.keep hB10 hB10.size)
            have hAl := HAl.out _ HQ10.out
            clear hRv hO9 hft9 hyg9 hQ9 hW9 hB10 HAl
            go_wp2_with fail
            refine hAl.mono ?_
            rintro e w11 ⟨A11, c11, rfl, _, _, hw11, hb11⟩
            have hSame := refsame_eq A11 A8 c11 c8 M w11 hw11 (HW10.out.keep hb11 hb11.size) (by rw [← HM.out.2.1]; omega)
            rw [← HM.out.2.1] at hSame
            have HQ11 := Lib.hid (HQ10.out.keep hb11)
            clear hw11 hb11 hAl
            go_wp2_with fail
            refine hSame.mono ?_
            rintro e w12 ⟨rfl, hb12⟩
            have HQ12 := Lib.hid (HQ11.out.keep hb12)
            clear hb12 hSame
            go_wp2
            go_ret
            exact ⟨by first | rfl | (simp; done), HQ12.out.b⟩
          · have hE : QL.getE L idq = 0 := by unfold QL.getE; rw [hh]; rfl
            have hre := QL.readd HI.out hh
            have hgm := QL.getW_mem hh
            rw [← HYw.out] at hre hgm
            have hqy := HI.out.q y hgm.1
            have hdl := QL.drop_len HI.out hgm.1
            rw [hgm.2] at hdl
            obtain ⟨L1, hL1⟩ : ∃ L1, L1 = QL.dropI L idq := ⟨_, rfl⟩
            rw [← hL1] at hre hRv hdl
            rw [hE] at hRv
            have HL2 : Hid ((L1 ++ [y]).length = L.length) := Lib.hid (by rw [List.length_append]; exact hdl)
            have HQy := Lib.hid (And.intro hqy hre)
            clear hh hE hgm hqy hdl hre hL1
            go_wp2_with fail
            refine hRv.mono ?_
            rintro e w9 ⟨rfl, F', hO9, hft9, hyg9⟩
            have hQ9 := QuIn.foot HQ22.out.b HF8.out.2.1 hO9 hft9 hyg9
            have hB10 := (Below.refl w9.heap.size w9).alloc (Nat.le_refl _) (.cells #[.int .i64 y.id, .int .i64 y.q, .int .i64 y.p, .int .i64 y.r, .int .i64 y.g, .int .i64 y.c, .int .i64 y.mn, .int .i64 y.mx, .int .i64 y.s, .int .i64 y.n] 39)
            have HX9 := Lib.hid (heap_alloc_new w9 (.cells #[.int .i64 y.id, .int .i64 y.q, .int .i64 y.p, .int .i64 y.r, .int .i64 y.g, .int .i64 y.c, .int .i64 y.mn, .int .i64 y.mx, .int .i64 y.s, .int .i64 y.n] 39))
            have hnF : ¬ F' w9.heap.size := fun e => Nat.lt_irrefl _ (hO9.lt _ e)
            obtain ⟨F9, hF9a, hF9b⟩ := hQ9.ex
            have hy9 : ∀ i, F' i → w.heap.size ≤ i := fun i hi => by rcases hyg9 i hi with e | e; exact HF8.out.2.1 i e; exact Nat.le_trans HQ22.out.b.size e
            have hAd := add_q p F' R L1 y _ (hO9.keep hB10)
            rw [HQy.out.2.1, HQy.out.2.2] at hAd
            have HB10 := Lib.hid (below_step hQ9.b hB10)
            have HK := Lib.hid (And.intro hnF hy9)
            simp only [wtV, wtA] at hAd
            clear hRv hO9 hft9 hyg9 hQ9 hB10 hnF hF9a hF9b hy9
            go_wp2_with (refine wpList_load_row rfl 39 _ rfl w9.heap.size rfl 39 #[.int .i64 y.id, .int .i64 y.q, .int .i64 y.p, .int .i64 y.r, .int .i64 y.g, .int .i64 y.c, .int .i64 y.mn, .int .i64 y.mx, .int .i64 y.s, .int .i64 y.n] (0, 0) _ HX9.out Try.underlying39 rfl (by kernel_rfl) ?_)
            refine hAd.mono ?_
            rintro e w10 ⟨rfl, F2, hO10, hft10, hyg10⟩
            have hQ10 := QuIn.foot HB10.out HK.out.2 hO10 hft10 hyg10
            have hX10 := (hft10.block w9.heap.size (by simp) HK.out.1).trans HX9.out
            have hB11 := (Below.refl w10.heap.size w10).alloc (Nat.le_refl _) (wtO QL.zw)
            have hQ11 := hQ10.keep hB11
            have hAl := all_f p R (L1 ++ [y]) w _ hQ11
            have hl910 : w9.heap.size < w10.heap.size := blk_lt hX10
            have hX11 := (hB11.block _ hl910).trans hX10
            have hZ11 := wt_new w10 QL.zw
            have hML2 : (QL.allL R.length (L1 ++ [y])).length = v := by rw [QL.all_len R.length _ hQ11.inv.q, HL2.out, ← HM.out.2.2]
            obtain ⟨M2, hM2⟩ : ∃ M2, M2 = QL.allL R.length (L1 ++ [y]) := ⟨_, rfl⟩
            rw [← hM2] at hAl hML2
            rw [hML2] at hAl
            have HLq : Hid (QL.lastq M2 y.q = y) := Lib.hid (by rw [hM2]; exact QL.lastq_all HQy.out.1)
            have HM2 := Lib.hid hML2
            have HXZ := Lib.hid (And.intro hX11 (And.intro hZ11 hQ11))
            have lz : w10.heap.size < (w10.alloc (wtO QL.zw)).heap.size := by simp
            have Hlz := Lib.hid lz
            have Hl91 := Lib.hid (show w9.heap.size < (w10.alloc (wtO QL.zw)).heap.size by simp; omega)
            simp only [wtO, wtA, QL.zw] at hAl
            clear hAd hO10 hft10 hyg10 hQ10 hX10 hB11 hQ11 hX11 hZ11 hM2 hML2 lz
            go_wp2_with fail
            refine hAl.mono ?_
            rintro e w11 ⟨A11, c11, rfl, hw11, hfr11, hb11⟩
            have HZ0 : Hid (w11.heap[w10.heap.size]? = some (.cells (wtA QL.zw) 39 (0, 0))) := Lib.hid ((hb11.block _ Hlz.out).trans HXZ.out.2.1)
            have HX0 : Hid (w11.heap[w9.heap.size]? = some (.cells (wtA y) 39 (0, 0))) := Lib.hid ((hb11.block _ Hl91.out).trans HXZ.out.1)
            have HQ11 := Lib.hid (HXZ.out.2.2.keep hb11)
            have HW11 := Lib.hid (And.intro hw11 (show ∀ b off, A11 = some ⟨b, off, none⟩ → b ≠ w10.heap.size from fun b off e => by have := hfr11 b off e; have := Hlz.out; simp only [World.size_alloc] at *; omega))
            have Hz0 : Hid (QL.zw = QL.lastq (M2.take 0) y.q) := Lib.hid (by simp [QL.lastq])
            have Hl11 : Hid (w10.heap.size < w11.heap.size ∧ w9.heap.size < w11.heap.size) := Lib.hid ⟨blk_lt HZ0.out, blk_lt HX0.out⟩
            have h910 := hl910
            have HZw := Lib.hid (show w.heap.size ≤ w10.heap.size by have := HB10.out.size; simp only [World.size_alloc] at this; omega)
            clear hw11 hfr11 hb11 hAl hl910
            go_wp2
            go_loopw [21] (fun vi wr => ∃ (i : Nat) (z : Wt), vi = .int .i64 (i : Nat) ∧ i ≤ v ∧ Hid (wr.heap[w10.heap.size]? = some (.cells (wtA z) 39 (0, 0))) ∧ Hid (z = QL.lastq (M2.take i) y.q) ∧ Hid (Foot (· = w10.heap.size) w11 wr)) (fun vi _ => v - (intOf vi).toNat)
            case atStart => exact ⟨0, QL.zw, rfl, by omega, HZ0, Hz0, Lib.hid (Foot.refl _ _)⟩
            case round =>
              clear HZ0 Hz0
              obtain ⟨i, z, rfl, hiv, hZ, hz, hF⟩ := hrel
              have hXr : wr.heap[w9.heap.size]? = some (.cells (wtA y) 39 (0, 0)) := (hF.out.block _ Hl11.out.2 (show ¬ w9.heap.size = w10.heap.size by omega)).trans HX0.out
              by_cases hlt3 : i < v
              · have t5 : decide (i < v) = true := decide_eq_true hlt3
                obtain ⟨x, hx⟩ := get_lt (l := M2) (k := i) (by rw [HM2.out]; exact hlt3)
                obtain ⟨b, off, rfl, hb, hcc⟩ := HW11.out.1.at_ hx
                have hcx := (hcc i x hx).of (hF.out.block b hb (HW11.out.2 b off rfl))
                have m0 : wr.cell? ⟨b, off + i * 10, none⟩ = some (.int .i64 x.id) := hcx 0 _ rfl
                have m1 : wr.cell? ⟨b, off + i * 10 + 1, none⟩ = some (.int .i64 x.q) := hcx 1 _ rfl
                have m2 : wr.cell? ⟨b, off + i * 10 + 2, none⟩ = some (.int .i64 x.p) := hcx 2 _ rfl
                have m3 : wr.cell? ⟨b, off + i * 10 + 3, none⟩ = some (.int .i64 x.r) := hcx 3 _ rfl
                have m4 : wr.cell? ⟨b, off + i * 10 + 4, none⟩ = some (.int .i64 x.g) := hcx 4 _ rfl
                have m5 : wr.cell? ⟨b, off + i * 10 + 5, none⟩ = some (.int .i64 x.c) := hcx 5 _ rfl
                have m6 : wr.cell? ⟨b, off + i * 10 + 6, none⟩ = some (.int .i64 x.mn) := hcx 6 _ rfl
                have m7 : wr.cell? ⟨b, off + i * 10 + 7, none⟩ = some (.int .i64 x.mx) := hcx 7 _ rfl
                have m8 : wr.cell? ⟨b, off + i * 10 + 8, none⟩ = some (.int .i64 x.s) := hcx 8 _ rfl
                have m9 : wr.cell? ⟨b, off + i * 10 + 9, none⟩ = some (.int .i64 x.n) := hcx 9 _ rfl
                have yq : wr.cell? ⟨w9.heap.size, 1, none⟩ = some (.int .i64 y.q) := cell_blk (i := 1) hXr rfl
                have HN := Lib.hid (QL.lastq_next (q := y.q) hx)
                clear hx hcc hcx hb hXr
                go_wp2_with fail
                by_cases e : x.q = y.q
                · have HZn : Hid (x = QL.lastq (M2.take (i + 1)) y.q) := Lib.hid (by rw [HN.out, if_pos e])
                  rw [e] at m1
                  have t6 : decide (y.q = y.q) = true := decide_eq_true rfl
                  go_quiet (fail)
                  rename_i nq
                  have HSt := Lib.hid (setRow_wt (w := wr.drewN nq) (x := x) hZ.out)
                  have HFn := Lib.hid (foot_row (hF.out.drewN nq) (.inl rfl) (wtA x))
                  have hxe : wtA x = #[.int .i64 x.id, .int .i64 y.q, .int .i64 x.p, .int .i64 x.r, .int .i64 x.g, .int .i64 x.c, .int .i64 x.mn, .int .i64 x.mx, .int .i64 x.s, .int .i64 x.n] := by unfold wtA; rw [e]
                  go_wp2_with (refine wpList_store_wt rfl _ _ rfl w10.heap.size x rfl (by rw [hxe]; rfl) z hZ.out ?_)
                  go_roundw
                  case rel => exact ⟨i + 1, x, by go_num, by omega, by rw [← hxe]; exact HSt, HZn, by rw [← hxe]; exact HFn⟩
                  case measure => simp [intOf]; omega
                · have HZn : Hid (z = QL.lastq (M2.take (i + 1)) y.q) := Lib.hid (by rw [HN.out, if_neg e]; exact hz.out)
                  have t6 : decide (x.q = y.q) = false := decide_eq_false e
                  go_quiet (fail)
                  rename_i nq
                  have HFn := Lib.hid (hF.out.drewN nq)
                  have hZn : Hid ((wr.drewN nq).heap[w10.heap.size]? = some (.cells (wtA z) 39 (0, 0))) := Lib.hid hZ.out
                  go_wp2
                  go_roundw
                  case rel => exact ⟨i + 1, z, by go_num, by omega, hZn, HZn, HFn⟩
                  case measure => simp [intOf]; omega
              · obtain rfl : v = i := by omega
                have t5 : decide (v < v) = false := decide_eq_false hlt3
                obtain rfl : z = y := by rw [hz.out, ← HM2.out, List.take_length]; exact HLq.out
                have hEq := fun W => wt_eq z W
                simp only [wtA] at hEq
                have HXr := Lib.hid hXr
                have HBe := Lib.hid (HQ11.out.b.trans (hF.out.below HQ11.out.b.size fun i hi => by rw [hi]; exact HZw.out))
                clear hXr hz hF hlt3
                go_wp2_with (first
                  | (refine wpList_load_row rfl 39 _ rfl w10.heap.size rfl 39 #[.int .i64 z.id, .int .i64 z.q, .int .i64 z.p, .int .i64 z.r, .int .i64 z.g, .int .i64 z.c, .int .i64 z.mn, .int .i64 z.mx, .int .i64 z.s, .int .i64 z.n] (0, 0) _ hZ.out Try.underlying39 rfl (by kernel_rfl) ?_)
                  | (refine wpList_load_row rfl 39 _ rfl w9.heap.size rfl 39 #[.int .i64 z.id, .int .i64 z.q, .int .i64 z.p, .int .i64 z.r, .int .i64 z.g, .int .i64 z.c, .int .i64 z.mn, .int .i64 z.mx, .int .i64 z.s, .int .i64 z.n] (0, 0) _ HXr.out Try.underlying39 rfl (by kernel_rfl) ?_))
                go_ret
                exact ⟨by first | rfl | (simp; done), HBe.out⟩

set_option maxRecDepth 100000 in
set_option maxHeartbeats 1000000 in
theorem lifted (os : Os) (started : os.Started) (H : Type) (enc : TypeId × Value → H) :
    ReturnsInHanded {} Try.checked os 6 .any (Rows.queueFirstSpec.pre6 enc Try.prog Try.f6 Rows.queueFirstRow.domain false) (Rows.queueFirstSpec.post enc Try.prog Try.f6 false true false false) := by
  refine returnsInHanded_of_change (C := Try.checked) own started (by kernel_rfl) Try.func6
    (ChangeSpec.witness6 (enc := enc) (C := Try.checked) false ⟨#[], #[.slice none 0 0, .slice none 0 0, .int .i64 0], []⟩ 8 (by kernel_rfl) (by kernel_rfl) (by kernel_rfl) (by kernel_rfl)) ?_
  intro W base args ds gs before hval0 hW _ _
  have hval : ∀ (j : Nat) t v, Try.f6.params[j]? = some t → args[j]? = some v → Value.okWide Try.prog W .any base t v := hval0
  have hW' := hW
  obtain ⟨p, q, hA0, hV, rfl, hfz, hnd⟩ := hW
  have hA : DataW.TrodAll enc Try.prog W 0 (fun _ => true) true Try.f6.params.toList args.toList ds p := hA0
  rw [Try.params6] at hA hval
  obtain ⟨v0, vs0, d0, ds0, p0, q0, hargs, rfl, rfl, h0, r0⟩ := trodAll_cons hA
  obtain ⟨v1, vs1, d1, ds1, p1, q1, rfl, rfl, rfl, h1, r1⟩ := trodAll_cons r0
  obtain ⟨v2, vs2, d2, ds2, p2, q2, rfl, rfl, rfl, h2, r2⟩ := trodAll_cons r1
  obtain ⟨rfl, rfl, rfl⟩ := trodAll_nil r2
  obtain rfl : args = #[v0, v1, v2] := by cases args; simp_all
  obtain ⟨rfl, rfl⟩ := trodVars_none hV
  have k0 := h0
  have lt0 : ∀ x ∈ p0, x.block < W.heap.size := by obtain ⟨m, hm⟩ := k0; exact DataW.trod_lt m _ _ _ hm
  obtain ⟨a0, c0, l0, rfl, lc0, mc0, v0, q0⟩ := nums_of (hval 0 22 v0 rfl rfl) h0
  have k1 := h1
  have lt1 : ∀ x ∈ p1, x.block < W.heap.size := by obtain ⟨m, hm⟩ := k1; exact DataW.trod_lt m _ _ _ hm
  obtain ⟨a1, c1, l1, rfl, lc1, mc1, v1, q1⟩ := qks_of (hval 1 23 v1 rfl rfl) h1
  have k2 := h2
  have lt2 : ∀ x ∈ p2, x.block < W.heap.size := by obtain ⟨m, hm⟩ := k2; exact DataW.trod_lt m _ _ _ hm
  obtain ⟨a2, rfl, _, _, w2⟩ := open_int Try.underlying3 (hval 2 3 v2 rfl rfl) h2
  clear hA0 hval0
  refine (walk a0 c0 l0 a1 c1 l1 a2 W v0 q0 lc0 mc0 v1 q1 lc1 mc1 w2).mono fun e W' ⟨he, bel⟩ => ?_
  subst he
  exact ⟨_, rfl, _, _, _, [], _, [], hW', trodAll_mk1 (shut_bool Try.underlying4 _), (trodAll_cons_mk (Below.trod laidOut (by kernel_rfl) (of_decide_eq_true (by kernel_rfl)) k0 bel lt0) (trodAll_cons_mk (Below.trod laidOut (by kernel_rfl) (of_decide_eq_true (by kernel_rfl)) k1 bel lt1) (trodAll_cons_mk (Below.trod laidOut (by kernel_rfl) (of_decide_eq_true (by kernel_rfl)) k2 bel lt2) trodAll_mk0))), rfl, bel.frame _, fun h => by cases h⟩

/-- THE STATEMENT. -/
theorem holds : Rows.QueueFirstSaid :=
  OpenClaim.holds_of_wide 6 Try.f6 rfl rfl rfl rfl rfl rfl rfl ⟨rfl, rfl, rfl, rfl, rfl⟩ rfl rfl rfl rfl rfl (by kernel_rfl) Try.func6 (by kernel_rfl)
    (of_decide_eq_true (by kernel_rfl)) (by unfold Func.isWrapper; first | (rw [if_pos (by decide +kernel)]; kernel_rfl) | (rw [if_neg (by decide +kernel)]; exact ⟨rfl, rfl⟩))
    (fun os started H enc _ => lifted os started H enc)
end Go.Proofs.Ytdeniikaddlifaa.queueFirst
