/- No queue has more than its room, no Id is there twice; what is added is there till it is removed: the law QueueBounds answers true, at every input. -/
import Derived.Test.YtdeniikaddlifaaFrame
import Derived.Test.YtdeniikaddlifaaHeldOn
import Derived.Deep.CutRange
import Derived.Deep.CutBlock
import Derived.Test.YtdeniikaddlifaaQuMapM
import Derived.Test.YtdeniikaddlifaaQuAwake
set_option linter.unusedVariables false
namespace Go.Proofs.Ytdeniikaddlifaa.queueBounds
open Go Go.ChangeShapes Go.WideShapes Go.ChangeAt Go.RowKit
theorem doL_len (R : List Int) (L : List Wt) (a : Qk) : (QL.doL R L a).length ≤ L.length + 1 := by
  unfold QL.doL QL.addL QL.dropI
  split
  · split
    · simp
    · omega
  · split
    · have := List.length_filter_le (fun x : Wt => !decide (x.id = a.x.id)) L; omega
    · omega
/-- What the map tells behind a call. -/
theorem tells_add {R : List Int} {L : List Wt} {f : Int → Option Value} {x : Wt} (h : TellsI f (QL.cI L)) (he : QL.addE R L x = 0) : QL.cI L x.id = 0 ∧ TellsI (fun y => if y = x.id then some (.int .i64 1) else f y) (QL.cI (QL.addL R L x)) := by
  have hno : QL.hasI L x.id = false := by
    unfold QL.addE at he
    split at he
    · omega
    · split at he
      · omega
      · rename_i h2; simpa using h2
  refine ⟨by unfold QL.cI; rw [hno]; rfl, fun y => ?_⟩
  unfold QL.addL
  rw [if_pos he]
  unfold QL.cI
  rw [QL.hasI_add]
  by_cases e : y = x.id
  · subst e; simp
  · show ((if y = x.id then some (.int .i64 1) else f y : Option Value)).getD (.int .i64 0) = _
    rw [if_neg e, show decide (x.id = y) = false from decide_eq_false fun e2 => e e2.symm, Bool.or_false]
    exact h y
theorem tells_drop {L : List Wt} {f : Int → Option Value} {id : Int} (h : TellsI f (QL.cI L)) (he : QL.getE L id = 0) : QL.cI L id = 1 ∧ TellsI (fun y => if y = id then some (.int .i64 0) else f y) (QL.cI (QL.dropI L id)) := by
  have hh : QL.hasI L id = true := by
    unfold QL.getE at he
    cases e : QL.hasI L id with
    | true => rfl
    | false => rw [e] at he; simp at he
  refine ⟨by unfold QL.cI; rw [hh]; rfl, fun y => ?_⟩
  unfold QL.cI
  rw [QL.hasI_drop]
  by_cases e : y = id
  · subst e; simp
  · show ((if y = id then some (.int .i64 0) else f y : Option Value)).getD (.int .i64 0) = _
    rw [if_neg e, show decide (y = id) = false from decide_eq_false e, Bool.not_false, Bool.and_true]
    exact h y
theorem getW_id {R : List Int} {L : List Wt} (hI : QL.Inv R L) {id : Int} (he : QL.getE L id = 0) : (QL.getW L id).id = id := by
  have hh : QL.hasI L id = true := by
    unfold QL.getE at he
    cases e : QL.hasI L id with
    | true => rfl
    | false => rw [e] at he; simp at he
  obtain ⟨x, e, _, hi⟩ := QL.getI_some hh
  unfold QL.getW; rw [e]; exact hi
theorem cI_small (L : List Wt) (x : Int) : 0 ≤ QL.cI L x ∧ QL.cI L x ≤ 1 := by unfold QL.cI; split <;> omega
theorem doL_inv {R : List Int} {L : List Wt} (h : QL.Inv R L) (a : Qk) : QL.Inv R (QL.doL R L a) := by
  unfold QL.doL
  split
  · exact h.add _
  · split
    · exact h.drop _
    · exact h
theorem doL_wf {R : List Int} {L : List Wt} {a : Qk} (h : ∀ x ∈ L, (Lit.int .i64 x.id).wf = true) (ha : (Lit.int .i64 a.x.id).wf = true) : ∀ x ∈ QL.doL R L a, (Lit.int .i64 x.id).wf = true := by
  intro x hx
  unfold QL.doL QL.addL QL.dropI at hx
  split at hx
  · split at hx
    · rcases List.mem_append.1 hx with e | e
      · exact h x e
      · simp at e; subst e; exact ha
    · exact h x hx
  · split at hx
    · exact h x (List.mem_filter.1 hx).1
    · exact h x hx
theorem tells_some {L : List Wt} {f : Int → Option Value} (h : TellsI f (QL.cI L)) {x : Wt} (hx : x ∈ L) : (f x.id).isSome = true := by
  have h1 := h x.id
  have h2 : QL.hasI L x.id = true := QL.hasI_true.2 ⟨x, hx, rfl⟩
  unfold QL.cI at h1
  rw [h2] at h1
  cases e : f x.id with
  | some _ => rfl
  | none => rw [e] at h1; simp at h1
theorem addE_pos (R : List Int) (L : List Wt) (x : Wt) (h : ¬ QL.addE R L x = 0) : QL.addL R L x = L := by unfold QL.addL; rw [if_neg h]
theorem getE_pos {L : List Wt} {id : Int} (h : ¬ QL.getE L id = 0) : QL.dropI L id = L := by
  apply QL.dropI_no
  unfold QL.getE at h
  cases e : QL.hasI L id with
  | false => rfl
  | true => rw [e] at h; exact absurd rfl h
set_option maxRecDepth 100000 in
set_option maxHeartbeats 16000000 in
theorem walk (A : Option Addr) (c : Nat) (R : List Int) (Al : Option Addr) (cl : Nat) (l : List Qk) (w : World) (hv : Nums w w.heap.size A R) (hq : ∀ a ∈ R, (Lit.int .i64 a).wf = true) (lc : R.length ≤ c) (mc : c ≤ maxLen)
    (hvl : Qks w w.heap.size Al l) (hql : ∀ a ∈ l, QkW a) (lcl : l.length ≤ cl) (mcl : cl ≤ maxLen) :
    Calls Try.prog 5 #[.slice A R.length c, .slice Al l.length cl] w fun e w' => e = .returned (.bool true) ∧ Below w.heap.size w w' := by
  have AW := Lib.hid (fun W => awake_q W)
  unfold maxLen at mc mcl
  obtain ⟨n, hn⟩ : ∃ n, n = R.length := ⟨_, rfl⟩
  obtain ⟨u, hu⟩ : ∃ u, u = l.length := ⟨_, rfl⟩
  have HRi := Lib.hid (fun W (hW : Below w.heap.size w W) => right_r A c R W (hv.keep hW hW.size) (by omega))
  have HNe := Lib.hid (fun W (hW : Below w.heap.size w W) (h : R.length ≤ 1000000) => new_i A c R w W hW (hv.keep hW hW.size) h)
  have H := Lib.hid (And.intro hv (And.intro hn (And.intro hvl (And.intro hu hql))))
  rw [← hn] at HRi HNe lc ⊢
  rw [← hu] at lcl ⊢
  clear hv hn hq hvl hu hql
  go_enter Try.func5, Try.ntmps5
  go_wp2_with fail
  refine (AW.out _).mono ?_
  rintro e w1 ⟨rfl, hb1⟩
  have HB1 := Lib.hid hb1
  have hRi := HRi.out w1 hb1
  clear hb1 AW HRi
  go_wp2_with fail
  refine hRi.mono ?_
  rintro e w2 ⟨rfl, hb2⟩
  have HB2 := Lib.hid (below_step HB1.out hb2)
  clear hb2 hRi HB1
  obtain ⟨rg, hrg⟩ : ∃ rg, rg = QL.right R := ⟨_, rfl⟩
  rw [← hrg]
  have HRG := Lib.hid hrg
  clear hrg
  cases rg
  · go_wp2
    go_ret
    exact ⟨by first | rfl | (simp; done), HB2.out⟩
  by_cases h100 : 100 < u
  · have t0 : decide ((100 : Int) < (u : Int)) = true := decide_eq_true (by omega)
    go_wp2
    go_ret
    exact ⟨by first | rfl | (simp; done), HB2.out⟩
  have t0 : decide ((100 : Int) < (u : Int)) = false := decide_eq_false (by omega)
  have hRt := QL.right_iff.1 HRG.out.symm
  have hn8 : n ≤ 8 := by rw [H.out.2.1]; exact hRt.hi
  have hNe := HNe.out w2 HB2.out (by omega)
  clear hRt HNe
  go_wp2_with fail
  refine hNe.mono ?_
  rintro e w3 (⟨hbad, _⟩ | ⟨_, p, rfl, hQ⟩)
  · rw [← HRG.out] at hbad; cases hbad
  have HQ := Lib.hid hQ
  clear hQ hNe
  have hu100 : u ≤ 100 := by omega
  clear h100
  have HMk := Lib.hid (@run_makeMap Try.prog)
  have HQ0 : Hid (QuMap w (w3.alloc (.map #[] 0)) p w3.heap.size 0 (fun _ => none) R []) := Lib.hid (QuMap.made HQ.out)
  have HT0 : Hid (TellsI (fun _ => none) (QL.cI [])) := Lib.hid (fun x => rfl)
  obtain ⟨m, hm⟩ : ∃ m, m = w3.heap.size := ⟨_, rfl⟩
  have Hm := Lib.hid hm
  have hmk := @run_makeMap Try.prog
  clear hm HQ
  go_wp2
  rw [← Hm.out] at HQ0 ⊢
  clear hmk
  go_loopw [8] (fun vi wr => ∃ (i nm : Nat) (f : Int → Option Value) (L : List Wt), vi = .int .i64 (i : Nat) ∧ i ≤ u ∧ nm ≤ i ∧ Hid (L.length ≤ i) ∧ Hid (TellsI f (QL.cI L)) ∧ Hid (∀ x ∈ L, (Lit.int .i64 x.id).wf = true) ∧ Hid (QuMap w wr p m nm f R L)) (fun vi _ => u - (intOf vi).toNat)
  case atStart => exact ⟨0, 0, _, [], rfl, by omega, by omega, Lib.hid (by simp), HT0, Lib.hid (by simp), HQ0⟩
  case round =>
    clear HQ0 HT0
    obtain ⟨i, nm, f, L, rfl, hiu, hnm, hLn, hT, hWL, HQ⟩ := hrel
    by_cases hlt : i < u
    · have t2 : decide (i < u) = true := decide_eq_true hlt
      obtain ⟨a, ha⟩ := get_lt (l := l) (k := i) (by rw [← H.out.2.2.2.1]; exact hlt)
      have haW := H.out.2.2.2.2 a (List.mem_of_getElem? ha)
      obtain ⟨b, off, rfl, hb, hcc⟩ := H.out.2.2.1.at_ ha
      obtain ⟨ka, xa⟩ := a
      have HAc := Lib.hid (fun W (hW : Below w.heap.size w W) => (hcc i _ ha).keep hb hW)
      have hca := HAc.out wr HQ.out.b
      have HWf := Lib.hid haW.x.id
      have a0 : wr.cell? ⟨b, off + i * 11, none⟩ = some (.int .i64 ka) := hca 0 _ rfl
      have a1 : wr.cell? ⟨b, off + i * 11 + 1, none⟩ = some (.int .i64 xa.id) := hca 1 _ rfl
      have a2 : wr.cell? ⟨b, off + i * 11 + 2, none⟩ = some (.int .i64 xa.q) := hca 2 _ rfl
      have a3 : wr.cell? ⟨b, off + i * 11 + 3, none⟩ = some (.int .i64 xa.p) := hca 3 _ rfl
      have a4 : wr.cell? ⟨b, off + i * 11 + 4, none⟩ = some (.int .i64 xa.r) := hca 4 _ rfl
      have a5 : wr.cell? ⟨b, off + i * 11 + 5, none⟩ = some (.int .i64 xa.g) := hca 5 _ rfl
      have a6 : wr.cell? ⟨b, off + i * 11 + 6, none⟩ = some (.int .i64 xa.c) := hca 6 _ rfl
      have a7 : wr.cell? ⟨b, off + i * 11 + 7, none⟩ = some (.int .i64 xa.mn) := hca 7 _ rfl
      have a8 : wr.cell? ⟨b, off + i * 11 + 8, none⟩ = some (.int .i64 xa.mx) := hca 8 _ rfl
      have a9 : wr.cell? ⟨b, off + i * 11 + 9, none⟩ = some (.int .i64 xa.s) := hca 9 _ rfl
      have a10 : wr.cell? ⟨b, off + i * 11 + 10, none⟩ = some (.int .i64 xa.n) := hca 10 _ rfl
      have hA := do_m p m nm f R L ⟨ka, xa⟩ w wr HQ.out
      obtain ⟨y, hy⟩ : ∃ y, y = QL.doW L ⟨ka, xa⟩ := ⟨_, rfl⟩
      obtain ⟨e1, he1⟩ : ∃ e1, e1 = QL.doE R L ⟨ka, xa⟩ := ⟨_, rfl⟩
      obtain ⟨L', hL'⟩ : ∃ L', L' = QL.doL R L ⟨ka, xa⟩ := ⟨_, rfl⟩
      rw [← hy, ← he1, ← hL'] at hA
      have HY := Lib.hid (And.intro hy (And.intro he1 hL'))
      have HI0 := Lib.hid HQ.out.inq.inv
      have HLn : Hid (L'.length ≤ i + 1) := Lib.hid (by rw [hL']; have := doL_len R L ⟨ka, xa⟩; have := hLn.out; omega)
      have HWL : Hid (∀ x ∈ L', (Lit.int .i64 x.id).wf = true) := Lib.hid (by rw [hL']; exact doL_wf hWL.out haW.x.id)
      simp only [wtV, wtA, qkV, qkA] at hA
      clear ha haW hWL hcc hca hb HQ hy he1 hL' hLn
      go_wp2_with fail
      refine hA.mono ?_
      rintro e w4 ⟨rfl, hQ4⟩
      have HQ5 := Lib.hid (hQ4.keep ((Below.refl w4.heap.size w4).alloc (Nat.le_refl _) (.cells #[.int .i64 y.id, .int .i64 y.q, .int .i64 y.p, .int .i64 y.r, .int .i64 y.g, .int .i64 y.c, .int .i64 y.mn, .int .i64 y.mx, .int .i64 y.s, .int .i64 y.n] 39)))
      have hca := HAc.out _ HQ5.out.b
      have d0 : (w4.alloc (.cells #[.int .i64 y.id, .int .i64 y.q, .int .i64 y.p, .int .i64 y.r, .int .i64 y.g, .int .i64 y.c, .int .i64 y.mn, .int .i64 y.mx, .int .i64 y.s, .int .i64 y.n] 39)).cell? ⟨b, off + i * 11, none⟩ = some (.int .i64 ka) := hca 0 _ rfl
      have d1 : (w4.alloc (.cells #[.int .i64 y.id, .int .i64 y.q, .int .i64 y.p, .int .i64 y.r, .int .i64 y.g, .int .i64 y.c, .int .i64 y.mn, .int .i64 y.mx, .int .i64 y.s, .int .i64 y.n] 39)).cell? ⟨b, off + i * 11 + 1, none⟩ = some (.int .i64 xa.id) := hca 1 _ rfl
      have d2 : (w4.alloc (.cells #[.int .i64 y.id, .int .i64 y.q, .int .i64 y.p, .int .i64 y.r, .int .i64 y.g, .int .i64 y.c, .int .i64 y.mn, .int .i64 y.mx, .int .i64 y.s, .int .i64 y.n] 39)).cell? ⟨b, off + i * 11 + 2, none⟩ = some (.int .i64 xa.q) := hca 2 _ rfl
      have d3 : (w4.alloc (.cells #[.int .i64 y.id, .int .i64 y.q, .int .i64 y.p, .int .i64 y.r, .int .i64 y.g, .int .i64 y.c, .int .i64 y.mn, .int .i64 y.mx, .int .i64 y.s, .int .i64 y.n] 39)).cell? ⟨b, off + i * 11 + 3, none⟩ = some (.int .i64 xa.p) := hca 3 _ rfl
      have d4 : (w4.alloc (.cells #[.int .i64 y.id, .int .i64 y.q, .int .i64 y.p, .int .i64 y.r, .int .i64 y.g, .int .i64 y.c, .int .i64 y.mn, .int .i64 y.mx, .int .i64 y.s, .int .i64 y.n] 39)).cell? ⟨b, off + i * 11 + 4, none⟩ = some (.int .i64 xa.r) := hca 4 _ rfl
      have d5 : (w4.alloc (.cells #[.int .i64 y.id, .int .i64 y.q, .int .i64 y.p, .int .i64 y.r, .int .i64 y.g, .int .i64 y.c, .int .i64 y.mn, .int .i64 y.mx, .int .i64 y.s, .int .i64 y.n] 39)).cell? ⟨b, off + i * 11 + 5, none⟩ = some (.int .i64 xa.g) := hca 5 _ rfl
      have d6 : (w4.alloc (.cells #[.int .i64 y.id, .int .i64 y.q, .int .i64 y.p, .int .i64 y.r, .int .i64 y.g, .int .i64 y.c, .int .i64 y.mn, .int .i64 y.mx, .int .i64 y.s, .int .i64 y.n] 39)).cell? ⟨b, off + i * 11 + 6, none⟩ = some (.int .i64 xa.c) := hca 6 _ rfl
      have d7 : (w4.alloc (.cells #[.int .i64 y.id, .int .i64 y.q, .int .i64 y.p, .int .i64 y.r, .int .i64 y.g, .int .i64 y.c, .int .i64 y.mn, .int .i64 y.mx, .int .i64 y.s, .int .i64 y.n] 39)).cell? ⟨b, off + i * 11 + 7, none⟩ = some (.int .i64 xa.mn) := hca 7 _ rfl
      have d8 : (w4.alloc (.cells #[.int .i64 y.id, .int .i64 y.q, .int .i64 y.p, .int .i64 y.r, .int .i64 y.g, .int .i64 y.c, .int .i64 y.mn, .int .i64 y.mx, .int .i64 y.s, .int .i64 y.n] 39)).cell? ⟨b, off + i * 11 + 8, none⟩ = some (.int .i64 xa.mx) := hca 8 _ rfl
      have d9 : (w4.alloc (.cells #[.int .i64 y.id, .int .i64 y.q, .int .i64 y.p, .int .i64 y.r, .int .i64 y.g, .int .i64 y.c, .int .i64 y.mn, .int .i64 y.mx, .int .i64 y.s, .int .i64 y.n] 39)).cell? ⟨b, off + i * 11 + 9, none⟩ = some (.int .i64 xa.s) := hca 9 _ rfl
      have d10 : (w4.alloc (.cells #[.int .i64 y.id, .int .i64 y.q, .int .i64 y.p, .int .i64 y.r, .int .i64 y.g, .int .i64 y.c, .int .i64 y.mn, .int .i64 y.mx, .int .i64 y.s, .int .i64 y.n] 39)).cell? ⟨b, off + i * 11 + 10, none⟩ = some (.int .i64 xa.n) := hca 10 _ rfl
      have hm4 : m < w4.heap.size := hQ4.map.lt
      have hy0 : (w4.alloc (.cells #[.int .i64 y.id, .int .i64 y.q, .int .i64 y.p, .int .i64 y.r, .int .i64 y.g, .int .i64 y.c, .int .i64 y.mn, .int .i64 y.mx, .int .i64 y.s, .int .i64 y.n] 39)).cell? ⟨w4.heap.size, 0, none⟩ = some (.int .i64 y.id) := cell_blk (i := 0) (heap_alloc_new w4 (.cells #[.int .i64 y.id, .int .i64 y.q, .int .i64 y.p, .int .i64 y.r, .int .i64 y.g, .int .i64 y.c, .int .i64 y.mn, .int .i64 y.mx, .int .i64 y.s, .int .i64 y.n] 39)) rfl
      clear hQ4 hA a0 a1 a2 a3 a4 a5 a6 a7 a8 a9 a10 hca d2 d3 d4 d5 d6 d7 d8 d9 d10
      go_upto_block 2 with fail
      go_cut [] from 41 to 187 (fun wx => ∃ (n2 : Nat) (f2 : Int → Option Value), n2 ≤ i + 1 ∧ Hid (TellsI f2 (QL.cI L')) ∧ Hid (QuMap w wx p m n2 f2 R L') ∧ Hid (wx.cell? ⟨w4.heap.size, 0, none⟩ = some (.int .i64 y.id)))
      case first =>
        by_cases h0 : ka = 0
        · subst h0
          by_cases hE0 : e1 = 0
          · subst hE0
            have hE : QL.addE R L xa = 0 := by have := HY.out.2.1; unfold QL.doE at this; simpa using this.symm
            have hLL : L' = QL.addL R L xa := by rw [HY.out.2.2]; unfold QL.doL; simp
            have hlem := tells_add hT.out hE
            obtain ⟨wm, n2, hput, hn2, hQm, hfm⟩ := HQ5.out.put (by omega) 1 HWf.out
            have hlk := HQ5.out.look hT.out HWf.out
            rw [hlem.1] at hlk
            have HT : Hid (TellsI (fun y => if y = xa.id then some (.int .i64 1) else f y) (QL.cI L')) := Lib.hid (by rw [hLL]; exact hlem.2)
            obtain ⟨f2, hf2⟩ : ∃ f2 : Int → Option Value, f2 = fun y => if y = xa.id then some (.int .i64 1) else f y := ⟨_, rfl⟩
            rw [← hf2] at HT hQm
            have HQm := Lib.hid hQm
            have HYs : Hid (wm.cell? ⟨w4.heap.size, 0, none⟩ = some (.int .i64 y.id)) := Lib.hid ((hfm.cell (p := ⟨w4.heap.size, 0, none⟩) (by simp) (show ¬ w4.heap.size = m by omega)).trans hy0)
            have hn2i : n2 ≤ i + 1 := by omega
            clear hlem hf2 hQm hfm hn2 hT hLL HQ5 hE
            go_wp2
            go_meet
            case rel => exact ⟨n2, f2, hn2i, HT, HQm, HYs⟩
          · have t9 : decide (e1 = 0) = false := decide_eq_false hE0
            have hLL : L' = L := by
              rw [HY.out.2.2]; unfold QL.doL; simp only [if_true]
              exact addE_pos R L xa (by have := HY.out.2.1; unfold QL.doE at this; simp only [if_true] at this; rw [← this]; exact hE0)
            have HTs : Hid (TellsI f (QL.cI L')) := Lib.hid (by rw [hLL]; exact hT.out)
            have HYs := Lib.hid hy0
            go_wp2
            go_meet
            case rel => exact ⟨nm, f, by omega, HTs, HQ5, HYs⟩
        · have t0k : decide (ka = 0) = false := decide_eq_false h0
          by_cases hE0 : e1 = 0
          · subst hE0
            have hE : QL.getE L xa.id = 0 := by have := HY.out.2.1; unfold QL.doE at this; simp only [if_neg h0] at this; exact this.symm
            by_cases h1 : ka = 1
            · subst h1
              have hLL : L' = QL.dropI L xa.id := by rw [HY.out.2.2]; unfold QL.doL; simp
              have hlem := tells_drop hT.out hE
              obtain ⟨wm, n2, hput, hn2, hQm, hfm⟩ := HQ5.out.put (by omega) 0 HWf.out
              have hlk := HQ5.out.look hT.out HWf.out
              rw [hlem.1] at hlk
              have HT : Hid (TellsI (fun y => if y = xa.id then some (.int .i64 0) else f y) (QL.cI L')) := Lib.hid (by rw [hLL]; exact hlem.2)
              obtain ⟨f2, hf2⟩ : ∃ f2 : Int → Option Value, f2 = fun y => if y = xa.id then some (.int .i64 0) else f y := ⟨_, rfl⟩
              rw [← hf2] at HT hQm
              have HQm := Lib.hid hQm
              have HYs : Hid (wm.cell? ⟨w4.heap.size, 0, none⟩ = some (.int .i64 y.id)) := Lib.hid ((hfm.cell (p := ⟨w4.heap.size, 0, none⟩) (by simp) (show ¬ w4.heap.size = m by omega)).trans hy0)
              have hn2i : n2 ≤ i + 1 := by omega
              clear hlem hf2 hQm hfm hn2 hT hLL HQ5 hE
              go_wp2
              go_meet
              case rel => exact ⟨n2, f2, hn2i, HT, HQm, HYs⟩
            · have t1k : decide (ka = 1) = false := decide_eq_false h1
              have hLL : L' = L := by rw [HY.out.2.2]; unfold QL.doL; simp only [if_neg h0, if_neg h1]
              have HTs : Hid (TellsI f (QL.cI L')) := Lib.hid (by rw [hLL]; exact hT.out)
              have HYs := Lib.hid hy0
              go_wp2
              go_meet
              case rel => exact ⟨nm, f, by omega, HTs, HQ5, HYs⟩
          · have t9 : decide (e1 = 0) = false := decide_eq_false hE0
            have hLL : L' = L := by
              rw [HY.out.2.2]; unfold QL.doL; simp only [if_neg h0]
              by_cases h1 : ka = 1
              · rw [if_pos h1]; exact getE_pos (by have := HY.out.2.1; unfold QL.doE at this; simp only [if_neg h0] at this; rw [← this]; exact hE0)
              · rw [if_neg h1]
            by_cases h1 : ka = 1
            · subst h1
              have HTs : Hid (TellsI f (QL.cI L')) := Lib.hid (by rw [hLL]; exact hT.out)
              have HYs := Lib.hid hy0
              go_wp2
              go_meet
              case rel => exact ⟨nm, f, by omega, HTs, HQ5, HYs⟩
            · have t1k : decide (ka = 1) = false := decide_eq_false h1
              have HTs : Hid (TellsI f (QL.cI L')) := Lib.hid (by rw [hLL]; exact hT.out)
              have HYs := Lib.hid hy0
              go_wp2
              go_meet
              case rel => exact ⟨nm, f, by omega, HTs, HQ5, HYs⟩
      case rest =>
        obtain ⟨n2, f2, hn2i, HT, HQm, HGy⟩ := hcut
        obtain ⟨wm, hwm⟩ : ∃ wm, wm = wc := ⟨_, rfl⟩
        subst hwm
        have gy := HGy.out
        have hca := HAc.out wm HQm.out.b
        have g0 : wm.cell? ⟨b, off + i * 11, none⟩ = some (.int .i64 ka) := hca 0 _ rfl
        have hci := cI_small L' xa.id
        have hlk2 := HQm.out.look HT.out HWf.out
        obtain ⟨ci, hci0⟩ : ∃ ci, ci = QL.cI L' xa.id := ⟨_, rfl⟩
        rw [← hci0] at hci hlk2
        have t7 : decide (ci < 0) = false := decide_eq_false (by omega)
        have t8 : decide (1 < ci) = false := decide_eq_false (by omega)
        clear hci0 hci hT HQ5 hca hy0 d0 d1
        go_upto_region 18 with fail
        go_cut [121] from 41 to 187 (fun s wx => s = .bool false ∧ wx = wm)
        case first =>
          by_cases hE0 : e1 = 0
          · subst hE0
            by_cases h0 : ka = 0
            · subst h0
              go_wp2
              go_meet
              case rel => exact ⟨rfl, rfl⟩
            · have t0k : decide (ka = 0) = false := decide_eq_false h0
              have hyid : y.id = xa.id := by rw [HY.out.1]; unfold QL.doW; simp only [if_neg h0]; exact getW_id HI0.out (by have := HY.out.2.1; unfold QL.doE at this; simp only [if_neg h0] at this; exact this.symm)
              rw [hyid] at gy
              clear hyid
              go_wp2
              go_meet
              case rel => exact ⟨rfl, rfl⟩
          · have t9 : decide (e1 = 0) = false := decide_eq_false hE0
            go_wp2
            go_meet
            case rel => exact ⟨rfl, rfl⟩
        case rest =>
          obtain ⟨rfl, rfl⟩ := hcut
          clear gy g0 hlk2 t7 t8
          have hAl := all_i p R L' w _ HQm.out.inq
          have hmm := HQm.out.inq.inv.all
          have hML : (QL.allL R.length L').length = L'.length := QL.all_len R.length L' HQm.out.inq.inv.q
          obtain ⟨M, hM⟩ : ∃ M, M = QL.allL R.length L' := ⟨_, rfl⟩
          rw [← hM] at hAl hmm hML
          obtain ⟨v, hvv⟩ : ∃ v, v = M.length := ⟨_, rfl⟩
          rw [← hvv] at hAl hmm hML
          have HM := Lib.hid (And.intro hM (And.intro hvv hML))
          clear hM hvv hML
          go_wp2_with fail
          refine hAl.mono ?_
          rintro e w8 ⟨A8, c8, rfl, h8c, h8m, hw8, hb8⟩
          have HW8 := Lib.hid hw8
          have HQ8 := Lib.hid (HQm.out.keep hb8)
          have hN0 : Hid ((0 : Nat) = (QL.allL 0 L').length) := Lib.hid rfl
          unfold maxLen at h8m
          clear hw8 hb8 hAl HQm
          go_wp2
          go_loopw [13, 14] (fun vs vk wr => ∃ (k s : Nat), vs = .int .i64 (s : Nat) ∧ vk = .int .i64 (k : Nat) ∧ k ≤ n ∧ s ≤ k * 16 ∧ Hid (s = (QL.allL k L').length) ∧ Hid (Below w8.heap.size w8 wr)) (fun _ vk _ => n - (intOf vk).toNat)
          case atStart => exact ⟨0, 0, rfl, rfl, by omega, by omega, hN0, Lib.hid (Below.refl _ _)⟩
          case round =>
            clear hN0
            obtain ⟨k, s, rfl, rfl, hkn, hs16, hS, hB⟩ := hrel
            have HQ25 := Lib.hid (HQ8.out.keep hB.out)
            by_cases hlt2 : k < n
            · have t3 : decide (k < n) = true := decide_eq_true hlt2
              have hkR : k < R.length := by rw [← H.out.2.1]; exact hlt2
              have hInv := HQ25.out.inq.inv
              obtain ⟨r1, r2, r3⟩ := hInv.r.of R k hkR
              have hlen := hInv.len k hkR
              have hl16 := hInv.room k
              obtain ⟨b, off, rfl, lb0, hcc⟩ := H.out.1.at_ r3
              have c0 : wr.cell? ⟨b, off + k, none⟩ = some (.int .i64 (QL.roomOf R k)) := by
                have := (hcc k _ r3).keep lb0 HQ25.out.b 0 _ rfl
                rwa [Nat.mul_one] at this
              have lb : b < wr.heap.size := Nat.lt_of_lt_of_le lb0 HQ25.out.b.size
              have hq : QL.hasQ R (k : Int) = true := QL.hasQ_iff.2 ⟨by omega, by omega⟩
              obtain ⟨ro, hro⟩ : ∃ ro, ro = QL.roomOf R k := ⟨_, rfl⟩
              obtain ⟨z, hz⟩ : ∃ z, z = (QL.rowL L' k).length := ⟨_, rfl⟩
              obtain ⟨rm, hrm⟩ : ∃ rm, rm = ro - (z : Int) := ⟨_, rfl⟩
              have HLe : Hid (∀ W, QuMap w W p m n2 f2 R L' → Calls Try.prog 19 #[.pointer (some ⟨p, 0, none⟩), .int .i64 (k : Int)] W fun e w' => e = .returned (.int .i64 (z : Int)) ∧ W = w') := Lib.hid (fun W hW => by
                have := len_i p R L' k w W hW.inq
                unfold QL.lenQ at this
                rwa [hq, if_pos rfl, Int.toNat_natCast, ← hz] at this)
              have HRo : Hid (∀ W, QuMap w W p m n2 f2 R L' → Calls Try.prog 16 #[.pointer (some ⟨p, 0, none⟩), .int .i64 (k : Int)] W fun e w' => e = .returned (.int .i64 rm) ∧ Below W.heap.size W w') := Lib.hid (fun W hW => by
                have := room_i p R L' k w W hW.inq
                unfold QL.roomQ at this
                rwa [hq, if_pos rfl, Int.toNat_natCast, ← hz, ← hro, ← hrm] at this)
              have HNx : Hid (s + z = (QL.allL (k + 1) L').length) := Lib.hid (by rw [QL.allL_next, List.length_append, ← hS.out, ← hz])
              rw [← hro] at c0 r1 r2 hlen
              rw [← hz] at hlen hl16
              have t4 : decide (ro < (z : Int)) = false := decide_eq_false (by omega)
              have hsum : IntKind.i64.wrap ((z : Int) + rm) = ro := by rw [IntWalk.i64_in _ (by omega)]; omega
              have HBold := hB
              clear hInv r3 hcc lb0 hq hro hz hrm hB hS
              go_wp2_with fail
              refine held_begin (fun w' : World => w'.cell? ⟨b, off + k, none⟩ = some (.int .i64 ro)) (by kernel_rfl) ?_
              have hBh0 : Below wr.heap.size wr wr.drew := (Below.refl _ _).drew
              have hSh0 : (fun w' : World => w'.cell? ⟨b, off + k, none⟩ = some (.int .i64 ro)) wr.drew := c0
              refine held_take (v := ?_) 0 130 rfl rfl (by kernel_rfl) (by kernel_rfl) (by kernel_rfl) (fun _ _ _ h => h) ⟨by rfl, ?_⟩ hSh0 ?_
              rotate_left
              · intro w' hw'; obtain x0 := hw'; go_simp; (try with_reducible rfl)
              simp only [Act.put, List.setIfInBounds_toArray, List.set_cons_zero, List.set_cons_succ]
              refine held_take (v := ?_) 1 131 rfl rfl (by kernel_rfl) (by kernel_rfl) (by kernel_rfl) (fun _ _ _ h => h) ⟨by rfl, ?_⟩ hSh0 ?_
              rotate_left
              · intro w' hw'; obtain x0 := hw'; go_simp; (try with_reducible rfl)
              simp only [Act.put, List.setIfInBounds_toArray, List.set_cons_zero, List.set_cons_succ]
              refine held_take (v := ?_) 3 133 rfl rfl (by kernel_rfl) (by kernel_rfl) (by kernel_rfl) (fun _ _ _ h => h) ⟨by rfl, ?_⟩ hSh0 ?_
              rotate_left
              · intro w' hw'; obtain x0 := hw'; go_simp; (try with_reducible rfl)
              simp only [Act.put, List.setIfInBounds_toArray, List.set_cons_zero, List.set_cons_succ]
              refine held_take (v := ?_) 4 134 rfl rfl (by kernel_rfl) (by kernel_rfl) (by kernel_rfl) (fun _ _ _ h => h) ⟨by rfl, ?_⟩ hSh0 ?_
              rotate_left
              · intro w' hw'; obtain x0 := hw'; go_simp; (try with_reducible rfl)
              simp only [Act.put, List.setIfInBounds_toArray, List.set_cons_zero, List.set_cons_succ]
              refine held_take (v := ?_) 5 135 rfl rfl (by kernel_rfl) (by kernel_rfl) (by kernel_rfl) (fun _ _ _ h => h) ⟨by rfl, ?_⟩ hSh0 ?_
              rotate_left
              · intro w' hw'; obtain x0 := hw'; go_simp; (try with_reducible rfl)
              simp only [Act.put, List.setIfInBounds_toArray, List.set_cons_zero, List.set_cons_succ]
              refine held_take (v := ?_) 6 136 rfl rfl (by kernel_rfl) (by kernel_rfl) (by kernel_rfl) (fun _ _ _ h => h) ⟨by rfl, ?_⟩ hSh0 ?_
              rotate_left
              · intro w' hw'; obtain x0 := hw'; go_simp; (try with_reducible rfl)
              simp only [Act.put, List.setIfInBounds_toArray, List.set_cons_zero, List.set_cons_succ]
              refine held_one 2 rfl (by kernel_rfl) (by rfl) (fun K hK => ?_)
              go_simp
              go_at_call 19
              refine (HLe.out wr.drew (HQ25.out.keep hBh0)).mono ?_
              rintro e w' ⟨rfl, rfl⟩
              refine hK.out _ _ hSh0 ?_
              clear hK K
              refine held_take (v := ?_) 7 137 rfl rfl (by kernel_rfl) (by kernel_rfl) (by kernel_rfl) (fun _ _ _ h => h) ⟨by rfl, ?_⟩ hSh0 ?_
              rotate_left
              · intro w' hw'; obtain x0 := hw'; go_simp; (try with_reducible rfl)
              simp only [Act.put, List.setIfInBounds_toArray, List.set_cons_zero, List.set_cons_succ]
              refine held_take (v := ?_) 8 138 rfl rfl (by kernel_rfl) (by kernel_rfl) (by kernel_rfl) (fun _ _ _ h => h) ⟨by rfl, ?_⟩ hSh0 ?_
              rotate_left
              · intro w' hw'; obtain x0 := hw'; go_simp; (try with_reducible rfl)
              simp only [Act.put, List.setIfInBounds_toArray, List.set_cons_zero, List.set_cons_succ]
              refine held_take (v := ?_) 9 139 rfl rfl (by kernel_rfl) (by kernel_rfl) (by kernel_rfl) (fun _ _ _ h => h) ⟨by rfl, ?_⟩ hSh0 ?_
              rotate_left
              · intro w' hw'; obtain x0 := hw'; go_simp; (try with_reducible rfl)
              simp only [Act.put, List.setIfInBounds_toArray, List.set_cons_zero, List.set_cons_succ]
              refine held_take (v := ?_) 10 140 rfl rfl (by kernel_rfl) (by kernel_rfl) (by kernel_rfl) (fun _ _ _ h => h) ⟨by rfl, ?_⟩ hSh0 ?_
              rotate_left
              · intro w' hw'; obtain x0 := hw'; go_simp; (try with_reducible rfl)
              simp only [Act.put, List.setIfInBounds_toArray, List.set_cons_zero, List.set_cons_succ]
              refine held_take (v := ?_) 12 142 rfl rfl (by kernel_rfl) (by kernel_rfl) (by kernel_rfl) (fun _ _ _ h => h) ⟨by rfl, ?_⟩ hSh0 ?_
              rotate_left
              · intro w' hw'; obtain x0 := hw'; go_simp; (try with_reducible rfl)
              simp only [Act.put, List.setIfInBounds_toArray, List.set_cons_zero, List.set_cons_succ]
              refine held_take (v := ?_) 13 143 rfl rfl (by kernel_rfl) (by kernel_rfl) (by kernel_rfl) (fun _ _ _ h => h) ⟨by rfl, ?_⟩ hSh0 ?_
              rotate_left
              · intro w' hw'; obtain x0 := hw'; go_simp; (try with_reducible rfl)
              simp only [Act.put, List.setIfInBounds_toArray, List.set_cons_zero, List.set_cons_succ]
              refine held_take (v := ?_) 16 146 rfl rfl (by kernel_rfl) (by kernel_rfl) (by kernel_rfl) (fun _ _ _ h => h) ⟨by rfl, ?_⟩ hSh0 ?_
              rotate_left
              · intro w' hw'; obtain x0 := hw'; go_simp; (try with_reducible rfl)
              simp only [Act.put, List.setIfInBounds_toArray, List.set_cons_zero, List.set_cons_succ]
              refine held_take (v := ?_) 17 147 rfl rfl (by kernel_rfl) (by kernel_rfl) (by kernel_rfl) (fun _ _ _ h => h) ⟨by rfl, ?_⟩ hSh0 ?_
              rotate_left
              · intro w' hw'; obtain x0 := hw'; go_simp; (try with_reducible rfl)
              simp only [Act.put, List.setIfInBounds_toArray, List.set_cons_zero, List.set_cons_succ]
              refine held_take (v := ?_) 18 148 rfl rfl (by kernel_rfl) (by kernel_rfl) (by kernel_rfl) (fun _ _ _ h => h) ⟨by rfl, ?_⟩ hSh0 ?_
              rotate_left
              · intro w' hw'; obtain x0 := hw'; go_simp; (try with_reducible rfl)
              simp only [Act.put, List.setIfInBounds_toArray, List.set_cons_zero, List.set_cons_succ]
              refine held_take (v := ?_) 19 149 rfl rfl (by kernel_rfl) (by kernel_rfl) (by kernel_rfl) (fun _ _ _ h => h) ⟨by rfl, ?_⟩ hSh0 ?_
              rotate_left
              · intro w' hw'; obtain x0 := hw'; go_simp; (try with_reducible rfl)
              simp only [Act.put, List.setIfInBounds_toArray, List.set_cons_zero, List.set_cons_succ]
              refine held_one 11 rfl (by kernel_rfl) (by rfl) (fun K hK => ?_)
              go_simp
              go_at_call 19
              refine (HLe.out wr.drew (HQ25.out.keep hBh0)).mono ?_
              rintro e w' ⟨rfl, rfl⟩
              refine hK.out _ _ hSh0 ?_
              clear hK K
              refine held_one 14 rfl (by kernel_rfl) (by rfl) (fun K hK => ?_)
              go_simp
              go_at_call 16
              refine (HRo.out wr.drew (HQ25.out.keep hBh0)).mono ?_
              rintro e wh1 ⟨rfl, hbh1⟩
              have hBh1 : Below wr.heap.size wr wh1 := below_step hBh0 hbh1
              have hSh1 : (fun w' : World => w'.cell? ⟨b, off + k, none⟩ = some (.int .i64 ro)) wh1 := (hBh1.cell (p := ⟨b, off + k, none⟩) (lb)).trans c0
              refine hK.out _ _ hSh1 ?_
              clear hK K
              refine held_take (v := ?_) 15 145 rfl rfl (by kernel_rfl) (by kernel_rfl) (by kernel_rfl) (fun _ _ _ h => h) ⟨by rfl, ?_⟩ hSh1 ?_
              rotate_left
              · intro w' hw'; obtain x0 := hw'; go_simp; (try with_reducible rfl)
              simp only [Act.put, List.setIfInBounds_toArray, List.set_cons_zero, List.set_cons_succ]
              refine held_take (v := ?_) 20 150 rfl rfl (by kernel_rfl) (by kernel_rfl) (by kernel_rfl) (fun _ _ _ h => h) ⟨by rfl, ?_⟩ hSh1 ?_
              rotate_left
              · intro w' hw'; obtain x0 := hw'; go_simp; (try with_reducible rfl)
              simp only [Act.put, List.setIfInBounds_toArray, List.set_cons_zero, List.set_cons_succ]
              refine held_take (v := ?_) 21 151 rfl rfl (by kernel_rfl) (by kernel_rfl) (by kernel_rfl) (fun _ _ _ h => h) ⟨by rfl, ?_⟩ hSh1 ?_
              rotate_left
              · intro w' hw'; obtain x0 := hw'; go_simp; (try with_reducible rfl)
              simp only [Act.put, List.setIfInBounds_toArray, List.set_cons_zero, List.set_cons_succ]
              refine wpAnyH_done (by kernel_rfl) ?_ _
              have HB26 := Lib.hid (HQ25.out.keep hBh1)
              have hLe := HLe.out wh1 HB26.out
              have HBn : Hid (Below w8.heap.size w8 wh1) := Lib.hid (below_step HBold.out hBh1)
              clear HLe HRo HQ25 HB26 HBold hsum
              go_wp2_with (go_at_call 19; (with_reducible refine hLe.mono ?_); rintro e w' ⟨rfl, rfl⟩)
              go_roundw
              case rel => exact ⟨k + 1, s + z, by go_num, by go_num, by omega, by omega, HNx, HBn⟩
              case measure => simp [intOf]; omega
            · obtain rfl : n = k := by omega
              have t3 : decide (n < n) = false := decide_eq_false hlt2
              obtain rfl : s = v := by rw [hS.out, HM.out.2.1, HM.out.1, ← H.out.2.1]
              have HW9 := Lib.hid (HW8.out.keep hB.out hB.out.size)
              have HB3 : Hid (Below w8.heap.size w8 wr) := Lib.hid hB.out
              clear hS hB hlt2 HW9 HQ25
              go_wp2
              go_loopw [15] (fun vk wr => ∃ (k : Nat), vk = .int .i64 (k : Nat) ∧ k ≤ s ∧ Hid (Below w8.heap.size w8 wr)) (fun vk _ => s - (intOf vk).toNat)
              case atStart => exact ⟨0, rfl, by omega, HB3⟩
              case round =>
                clear HB3
                obtain ⟨k, rfl, hks, hB⟩ := hrel
                have HQ33 := Lib.hid (HQ8.out.keep hB.out)
                by_cases hlt3 : k < s
                · have t5 : decide (k < s) = true := decide_eq_true hlt3
                  obtain ⟨x, hx⟩ := get_lt (l := M) (k := k) (by rw [← HM.out.2.1]; exact hlt3)
                  obtain ⟨b, off, rfl, hb, hcc⟩ := HW8.out.at_ hx
                  have x0 : wr.cell? ⟨b, off + k * 10, none⟩ = some (.int .i64 x.id) := (hcc k x hx).keep hb hB.out 0 _ rfl
                  have hxL : x ∈ L' := by have := List.mem_of_getElem? hx; rw [HM.out.1] at this; exact QL.mem_all this
                  have hlk := HQ33.out.look HT.out (HWL.out x hxL)
                  have hc1 : QL.cI L' x.id = 1 := by unfold QL.cI; rw [QL.hasI_true.2 ⟨x, hxL, rfl⟩]; rfl
                  rw [hc1] at hlk
                  clear hx hcc hb hxL hc1
                  go_wp2
                  go_roundw
                  case rel => exact ⟨k + 1, by go_num, by omega, hB⟩
                  case measure => simp [intOf]; omega
                · obtain rfl : s = k := by omega
                  have t5 : decide (s < s) = false := decide_eq_false hlt3
                  clear hlt3 HW8
                  go_wp2_with (at_range; refine wpList_range_of (tk := 3) (te := 3) _ rfl _ rfl hKeyQ hTyQ rfl HQ33.out.map ?_; intro w0 hrg0 hg0 hs0)
                  go_frame
                  obtain ⟨Rg, hRg⟩ : ∃ Rg, Rg = wr.heap.size := ⟨_, rfl⟩
                  rw [← hRg] at hrg0 ⊢
                  have hw8 := hB.out.size
                  have hRw : w8.heap.size ≤ Rg := by rw [hRg]; exact hw8
                  have HB0 := Lib.hid (hB.out.grown hg0 hw8 (fun j hj => by cases hj))
                  have HRG0 := Lib.hid hrg0
                  have HS0 : Hid ((0 : Nat) = (([] : List Int).filter fun x => QL.hasI L' x).length) := Lib.hid rfl
                  clear hRg hs0 hg0 hrg0 hB HQ33
                  go_loopw [16] (fun vt wr => ∃ (seen : List Int) (cnt t : Nat), vt = .int .i64 (t : Nat) ∧ seen.length + cnt ≤ n2 ∧ t ≤ seen.length ∧ Hid (RangeOf Try.prog 3 wr m Rg n2 f2 seen cnt) ∧ Hid (t = (seen.filter fun x => QL.hasI L' x).length) ∧ Hid (Below w8.heap.size w8 wr)) (fun _ wr => wr.rangeLeft m Rg)
                  case atStart => exact ⟨[], n2, 0, rfl, by simp, by simp, HRG0, HS0, HB0⟩
                  case round =>
                    clear HRG0 HS0 HB0
                    obtain ⟨seen, cnt, t, rfl, hcn, hts, hRg, hSm, hB⟩ := hrel
                    go_wp2_with (at_next; refine wpList_next_of (tk := 3) _ rfl _ rfl hKeyQ Rg seen cnt rfl hRg.out ?_ ?_)
                    · intro hall
                      have HQe := Lib.hid (HQ8.out.keep hB.out)
                      obtain rfl : t = s := by
                        rw [hSm.out, QL.seen_sum HQe.out.inq.inv hRg.out.1 fun x hx => hall x.id (HWL.out x hx) (tells_some HT.out hx), HM.out.2.2]
                      clear hall hRg hSm hB HQ8
                      go_wp2
                      go_roundw
                      case rel => exact ⟨i + 1, n2, f2, L', by go_num, by omega, by omega, HLn, HT, HWL, HQe⟩
                      case measure => simp [intOf]; omega
                    · intro x vx w1 cnt1 hxw hxs hfx hrg1 hlt9 hgr hsz1 hen
                      have hvx : vx = .int .i64 (QL.cI L' x) := by have := HT.out x; rw [hfx] at this; exact this
                      subst hvx
                      have HB1 := Lib.hid (hB.out.grown hgr hB.out.size fun j hj => by cases hj; exact hRw)
                      have hlen1 : (seen ++ [x]).length = seen.length + 1 := by simp
                      have HR1 := Lib.hid (And.intro hrg1 hlt9)
                      have HSN : Hid (t + (if QL.hasI L' x then 1 else 0) = ((seen ++ [x]).filter fun x => QL.hasI L' x).length) := Lib.hid (by
                        rw [List.filter_append, List.length_append, ← hSm.out]
                        cases e : QL.hasI L' x <;> simp [e])
                      unfold QL.cI at hen
                      obtain ⟨bx, hbx⟩ : ∃ bx, bx = QL.hasI L' x := ⟨_, rfl⟩
                      rw [← hbx] at hen HSN
                      clear hbx hrg1 hgr hsz1 hxw hxs hfx hSm hlt9
                      cases bx
                      · simp only [Bool.false_eq_true, if_false] at hen
                        go_wp2
                        go_roundw
                        case rel => exact ⟨seen ++ [x], cnt1, t, by go_num, by have := HR1.out.2; omega, by omega, Lib.hid HR1.out.1, Lib.hid HSN.out, HB1⟩
                        case measure => rw [HR1.out.1.left_eq, hRg.out.left_eq]; exact HR1.out.2
                      · simp only [if_true] at hen
                        go_wp2
                        go_roundw
                        case rel => exact ⟨seen ++ [x], cnt1, t + 1, by go_num, by have := HR1.out.2; omega, by omega, Lib.hid HR1.out.1, Lib.hid HSN.out, HB1⟩
                        case measure => rw [HR1.out.1.left_eq, hRg.out.left_eq]; exact HR1.out.2

    · have t2 : decide (i < u) = false := decide_eq_false hlt
      have HB := Lib.hid HQ.out.b
      clear HQ
      go_wp2
      go_ret
      exact ⟨by first | rfl | (simp; done), HB.out⟩

set_option maxRecDepth 100000 in
set_option maxHeartbeats 1000000 in
theorem lifted (os : Os) (started : os.Started) (H : Type) (enc : TypeId × Value → H) :
    ReturnsInHanded {} Try.checked os 5 .any (Rows.queueBoundsSpec.pre6 enc Try.prog Try.f5 Rows.queueBoundsRow.domain false) (Rows.queueBoundsSpec.post enc Try.prog Try.f5 false true false false) := by
  refine returnsInHanded_of_change (C := Try.checked) own started (by kernel_rfl) Try.func5
    (ChangeSpec.witness6 (enc := enc) (C := Try.checked) false ⟨#[], #[.slice none 0 0, .slice none 0 0], []⟩ 8 (by kernel_rfl) (by kernel_rfl) (by kernel_rfl) (by kernel_rfl)) ?_
  intro W base args ds gs before hval0 hW _ _
  have hval : ∀ (j : Nat) t v, Try.f5.params[j]? = some t → args[j]? = some v → Value.okWide Try.prog W .any base t v := hval0
  have hW' := hW
  obtain ⟨p, q, hA0, hV, rfl, hfz, hnd⟩ := hW
  have hA : DataW.TrodAll enc Try.prog W 0 (fun _ => true) true Try.f5.params.toList args.toList ds p := hA0
  rw [Try.params5] at hA hval
  obtain ⟨v0, vs0, d0, ds0, p0, q0, hargs, rfl, rfl, h0, r0⟩ := trodAll_cons hA
  obtain ⟨v1, vs1, d1, ds1, p1, q1, rfl, rfl, rfl, h1, r1⟩ := trodAll_cons r0
  obtain ⟨rfl, rfl, rfl⟩ := trodAll_nil r1
  obtain rfl : args = #[v0, v1] := by cases args; simp_all
  obtain ⟨rfl, rfl⟩ := trodVars_none hV
  have k0 := h0
  have lt0 : ∀ x ∈ p0, x.block < W.heap.size := by obtain ⟨m, hm⟩ := k0; exact DataW.trod_lt m _ _ _ hm
  obtain ⟨a0, c0, l0, rfl, lc0, mc0, v0, q0⟩ := nums_of (hval 0 22 v0 rfl rfl) h0
  have k1 := h1
  have lt1 : ∀ x ∈ p1, x.block < W.heap.size := by obtain ⟨m, hm⟩ := k1; exact DataW.trod_lt m _ _ _ hm
  obtain ⟨a1, c1, l1, rfl, lc1, mc1, v1, q1⟩ := qks_of (hval 1 23 v1 rfl rfl) h1
  clear hA0 hval0
  refine (walk a0 c0 l0 a1 c1 l1 W v0 q0 lc0 mc0 v1 q1 lc1 mc1).mono fun e W' ⟨he, bel⟩ => ?_
  subst he
  exact ⟨_, rfl, _, _, _, [], _, [], hW', trodAll_mk1 (shut_bool Try.underlying4 _), (trodAll_cons_mk (Below.trod laidOut (by kernel_rfl) (of_decide_eq_true (by kernel_rfl)) k0 bel lt0) (trodAll_cons_mk (Below.trod laidOut (by kernel_rfl) (of_decide_eq_true (by kernel_rfl)) k1 bel lt1) trodAll_mk0)), rfl, bel.frame _, fun h => by cases h⟩

/-- THE STATEMENT. -/
theorem holds : Rows.QueueBoundsSaid :=
  OpenClaim.holds_of_wide 5 Try.f5 rfl rfl rfl rfl rfl rfl rfl ⟨rfl, rfl, rfl, rfl, rfl⟩ rfl rfl rfl rfl rfl (by kernel_rfl) Try.func5 (by kernel_rfl)
    (of_decide_eq_true (by kernel_rfl)) (by unfold Func.isWrapper; first | (rw [if_pos (by decide +kernel)]; kernel_rfl) | (rw [if_neg (by decide +kernel)]; exact ⟨rfl, rfl⟩))
    (fun os started H enc _ => lifted os started H enc)
end Go.Proofs.Ytdeniikaddlifaa.queueBounds
