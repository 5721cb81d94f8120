/- Queues: Get, Remove. -/
import Derived.Laws.Tables
import Derived.Test.YtdeniikaddlifaaQuFind
import Derived.Test.YtdeniikaddlifaaQuDel
set_option linter.unusedVariables false
namespace Go.Proofs.Ytdeniikaddlifaa
open Go.RowKit
/-- A wait and a number are told: the wait lies in a block. -/
theorem results_wt {fn : Func} {p q : Tmp} (h : fn.results = #[.cell p 39, .tmp q]) (tmps : Array Value) (w : World) (g : Nat) (x : Wt) (v : Value)
    (hp : tmps.getD p undef = .pointer (some ⟨g, 0, none⟩)) (hg : w.heap[g]? = some (.cells (wtA x) 39 (0, 0))) (hq : tmps.getD q undef = v) :
    (results fn tmps).run Try.prog w = .ok (.tuple #[wtV x, v]) w := by
  have hp' : tmps[p]?.getD undef = .pointer (some ⟨g, 0, none⟩) := by simpa using hp
  have hq' : tmps[q]?.getD undef = v := by simpa using hq
  simp [results, h, hp', hq', asAddr, run_loadVar_row w g 39 39 (wtA x) (0, 0) _ hg Try.underlying39 rfl (by kernel_rfl), wtV]
theorem below_row {w w' : World} {g : Nat} (h : Below w.heap.size w w') (hg : w.heap.size ≤ g) (cs : Array Value) : Below w.heap.size w (w'.setRow g cs) :=
  ⟨h.os, h.tape, h.output, by simp; exact h.size, fun i hi => (setRow_other w' g i cs (by omega)).trans (h.block i hi)⟩
theorem foot_row {F : Nat → Prop} {w w' : World} {g : Nat} (h : Foot F w w') (hg : F g ∨ w.heap.size ≤ g) (cs : Array Value) : Foot F w (w'.setRow g cs) :=
  ⟨h.os, h.tape, h.output, by simp; exact h.size, fun i hi hn => (setRow_other w' g i cs (by rintro rfl; rcases hg with e | e; exact hn e; omega)).trans (h.block i hi hn)⟩
theorem setRow_wt {w : World} {g : Nat} {x : Wt} {old : Array Value} (h : w.heap[g]? = some (.cells old 39 (0, 0))) : (w.setRow g (wtA x)).heap[g]? = some (.cells (wtA x) 39 (0, 0)) := setRow_heap w g old _ _ _ h
theorem wtA_one (x : Wt) : (wtA x).all (·.oneCell') = true := by simp [wtA, Value.oneCell']
/-- A wait is stored into a block of one. -/
theorem wpList_store_wt {ops : Array Oper} {rest : List Oper} {o : Oper} {a : Act} {w : World} {Q : Exit → Act → World → Prop} (hgd : o.guard = none) (x y : Operand) (ho : o.op = .store 39 x y)
    (g : Nat) (z : Wt) (hx : a.eval x = .pointer (some ⟨g, 0, none⟩)) (hy : a.eval y = .agg (wtA z)) (old : Wt) (hg : w.heap[g]? = some (.cells (wtA old) 39 (0, 0)))
    (h : wpList Try.prog ops Q rest (a.put o.dst undef) (w.setRow g (wtA z))) : wpList Try.prog ops Q (o :: rest) a w :=
  wpList_store_row hgd 39 x y ho g (wtA z) hx hy 39 (wtA old) hg (by kernel_rfl) rfl (wtA_one z) h
theorem FoundQ.no {R : List Int} {L : List Wt} {id : Int} (hno : QL.hasI L id = false) : QL.getW L id = QL.zw ∧ QL.getE L id = 3 ∧ QL.dropI L id = L := ⟨(QL.get_no hno).1, (QL.get_no hno).2, QL.dropI_no hno⟩
set_option maxRecDepth 100000 in
set_option maxHeartbeats 4000000 in
theorem get_q (p : Nat) (F : Nat → Prop) (R : List Int) (L : List Wt) (id : Int) (w : World) (h : QuObj w p F R L) :
    Calls Try.prog 26 #[.pointer (some ⟨p, 0, none⟩), .int .i64 id] w fun e w' => e = .returned (.tuple #[wtV (QL.getW L id), .int .i64 (QL.getE L id)]) ∧ Below w.heap.size w w' := by
  obtain ⟨g, c, V, hQ, _⟩ := h.ex
  have hB1 := (Below.refl w.heap.size w).alloc (Nat.le_refl _) (wtO QL.zw)
  have hb := wt_new w QL.zw
  have HB1 := Lib.hid hB1
  have HQ1 := Lib.hid (hQ.keep hB1)
  have HZ1 := Lib.hid hb
  have l1 : w.heap.size < (w.alloc (wtO QL.zw)).heap.size := blk_lt hb
  clear h hQ hB1 hb
  simp only [wtV, wtA, wtO, QL.zw] at *
  go_enter Try.func26, Try.ntmps26
  go_wp2_with fail
  refine (ofid_q id _).mono ?_
  rintro e w2 ⟨S, rfl, hS, hb2⟩
  have HQ2 := Lib.hid (HQ1.out.keep hb2)
  have HB2 := Lib.hid (below_step HB1.out hb2)
  have HZ2 := Lib.hid ((hb2.block _ l1).trans HZ1.out)
  have hFi := find_q p g c V R L S id w2 HQ2.out hS
  have l2 := Nat.lt_of_lt_of_le l1 hb2.size
  clear hS hb2 l1 HB1 HZ1 HQ1
  go_wp2_with fail
  refine hFi.mono ?_
  rintro e w3 ⟨hfo, hb3⟩
  have HB3 := Lib.hid (below_step HB2.out hb3)
  have HQ3 := Lib.hid (HQ2.out.keep hb3)
  have HZ3 := Lib.hid ((hb3.block _ l2).trans HZ2.out)
  clear hb3 HQ2 HB2 HZ2 hFi l2
  rcases hfo with ⟨hno, rfl⟩ | ⟨k, i, y, hk, hy, hid, rfl⟩
  · have HE := Lib.hid (QL.get_no hno)
    clear hno
    go_wp2_with (refine wpList_store_wt rfl _ _ rfl w.heap.size QL.zw rfl rfl QL.zw HZ3.out ?_)
    refine bodyPost_ret (results_wt Try.results26 _ _ w.heap.size QL.zw (.int .i64 3) rfl (setRow_wt HZ3.out) rfl) rfl ?_
    refine ⟨?_, below_row HB3.out (Nat.le_refl _) _⟩
    rw [HE.out.1, HE.out.2]; rfl
  · obtain ⟨b, m, hV, _, hm, hb, hc⟩ := HQ3.out.wait hk hy
    have hf := HQ3.out.inv.find hy
    have HE := Lib.hid (show QL.getW L id = y ∧ QL.getE L id = 0 by rw [← hid]; exact HQ3.out.inv.getW hf.1)
    have c0 := HQ3.out.head
    have c2 := (HQ3.out.at_ hk).2.1
    rw [hV] at c2
    have a0 : w3.cell? ⟨b, i * 10, none⟩ = some (.int .i64 y.id) := hc 0 _ rfl
    have a1 : w3.cell? ⟨b, i * 10 + 1, none⟩ = some (.int .i64 y.q) := hc 1 _ rfl
    have a2 : w3.cell? ⟨b, i * 10 + 2, none⟩ = some (.int .i64 y.p) := hc 2 _ rfl
    have a3 : w3.cell? ⟨b, i * 10 + 3, none⟩ = some (.int .i64 y.r) := hc 3 _ rfl
    have a4 : w3.cell? ⟨b, i * 10 + 4, none⟩ = some (.int .i64 y.g) := hc 4 _ rfl
    have a5 : w3.cell? ⟨b, i * 10 + 5, none⟩ = some (.int .i64 y.c) := hc 5 _ rfl
    have a6 : w3.cell? ⟨b, i * 10 + 6, none⟩ = some (.int .i64 y.mn) := hc 6 _ rfl
    have a7 : w3.cell? ⟨b, i * 10 + 7, none⟩ = some (.int .i64 y.mx) := hc 7 _ rfl
    have a8 : w3.cell? ⟨b, i * 10 + 8, none⟩ = some (.int .i64 y.s) := hc 8 _ rfl
    have a9 : w3.cell? ⟨b, i * 10 + 9, none⟩ = some (.int .i64 y.n) := hc 9 _ rfl
    have hn8 := HQ3.out.inv.r.hi
    have hu16 := HQ3.out.inv.room k
    have hiu := (List.getElem?_eq_some_iff.1 hy).1
    obtain ⟨n, hn⟩ : ∃ n, n = R.length := ⟨_, rfl⟩
    obtain ⟨u, hu⟩ : ∃ u, u = (QL.rowL L k).length := ⟨_, rfl⟩
    rw [← hn] at c0 hk hn8
    rw [← hu] at c2 hiu hu16
    clear hy hid hf hV hc hn hu hb
    go_wp2_with (refine wpList_store_wt rfl _ _ rfl w.heap.size y rfl rfl QL.zw HZ3.out ?_)
    refine bodyPost_ret (results_wt Try.results26 _ _ w.heap.size y (.int .i64 0) rfl (setRow_wt HZ3.out) rfl) rfl ?_
    refine ⟨?_, below_row HB3.out (Nat.le_refl _) _⟩
    rw [HE.out.1, HE.out.2]; rfl
theorem QuAt.took {w w5 w' : World} {p g c k i b u m Z : Nat} {V : Nat → Value} {R : List Int} {L : List Wt} {y : Wt} {cs : Array Value} (h : QuAt w p g c V R L) (hk : k < R.length) (hy : (QL.rowL L k)[i]? = some y) (hu : u = (QL.rowL L k).length)
    (hV : V k = .slice (some ⟨b, 0, none⟩) u m) (hown5 : w5.ownsRow 0 39 10 (.slice (some ⟨b, 0, none⟩) (u - 1) m) (u - 1) (((QL.rowL L k).take i ++ (QL.rowL L k).drop (i + 1)).flatMap wtC)) (hf : Foot (· = b) (w.alloc (wtO y)) w5)
    (hZ : Z < w.heap.size) (hZn : ¬ QuB R p g V Z) (e : w' = (w5.setCell ⟨g, k * 2 + 1, none⟩ (.slice (some ⟨b, 0, none⟩) (u - 1) m)).setRow Z cs) :
    QuAt w' p g c (fun j => if j = k then .slice (some ⟨b, 0, none⟩) (u - 1) m else V j) R (QL.dropI L y.id) ∧ (∀ i, QuB R p g (fun j => if j = k then .slice (some ⟨b, 0, none⟩) (u - 1) m else V j) i → QuB R p g V i ∨ w.heap.size ≤ i) ∧ Foot (fun i => QuB R p g V i ∨ i = Z) w w' := by
  subst e
  obtain ⟨f1, f2, f3, f4⟩ := h.inv.find hy
  have hbk : b ≠ p ∧ b ≠ g ∧ b < w.heap.size := by
    have h1 := h.ap k b hk (by rw [hV]; rfl)
    exact ⟨h1.1, h1.2, h.lt b (.inr (.inr ⟨k, hk, by rw [hV]; rfl⟩))⟩
  have hlp := h.lt p (.inl rfl)
  have hlg := h.lt g (.inr (.inl rfl))
  have hZp : Z ≠ p := fun e => hZn (.inl e)
  have hZg : Z ≠ g := fun e => hZn (.inr (.inl e))
  have hZb : Z ≠ b := fun e => hZn (.inr (.inr ⟨k, hk, by rw [hV, e]; rfl⟩))
  have hold : ∀ j, j < w.heap.size → j ≠ b → w5.heap[j]? = w.heap[j]? := fun j hj hn => (hf.block j (by simp; omega) hn).trans (Below.heap_alloc w _ j hj)
  have hall : ∀ j, j ≠ g → j ≠ Z → ((w5.setCell ⟨g, k * 2 + 1, none⟩ (.slice (some ⟨b, 0, none⟩) (u - 1) m)).setRow Z cs).heap[j]? = w5.heap[j]? := fun j h1 h2 => (setRow_other _ Z j cs h2).trans (Below.heap_setCell w5 _ _ j h1)
  have hiu := (List.getElem?_eq_some_iff.1 hy).1
  have hrow : QL.rowL (QL.dropI L y.id) k = (QL.rowL L k).take i ++ (QL.rowL L k).drop (i + 1) := by rw [QL.row_drop, f3]
  have hrl : (QL.rowL (QL.dropI L y.id) k).length = u - 1 := by rw [hrow, List.length_append, List.length_take, List.length_drop, hu]; omega
  obtain ⟨h1, h2⟩ := h.wrote (w' := (w5.setCell ⟨g, k * 2 + 1, none⟩ (.slice (some ⟨b, 0, none⟩) (u - 1) m)).setRow Z cs) (v := .slice (some ⟨b, 0, none⟩) (u - 1) m) hk (h.inv.drop y.id)
    ((hall p h.pg (Ne.symm hZp)).trans (hold p hlp (Ne.symm hbk.1)))
    (fun cur hc => (setRow_other _ Z g cs (Ne.symm hZg)).trans (blk_put _ ((hold g hlg (Ne.symm hbk.2.1)).trans hc)))
    (by
      rw [hrl, hrow]
      refine own_stays hown5 fun j hj => ?_
      have : j = b := by simpa [Value.ownBlock] using hj.symm
      subst this
      exact hall j hbk.2.1 (Ne.symm hZb))
    (fun j hj => f4 j hj)
    (fun j q hj hne hq => by
      have hq2 := h.ap j q hj hq
      have hlq := h.lt q (.inr (.inr ⟨j, hj, hq⟩))
      refine (hall q hq2.2 ?_).trans (hold q hlq ?_)
      · rintro rfl; exact hZn (.inr (.inr ⟨j, hj, hq⟩))
      · rintro rfl; exact h.ap2 j k q hj hk hne hq (by rw [hV]; rfl))
    (fun q hq => .inl (by rw [hV]; exact hq))
  refine ⟨h1, h2, ?_⟩
  have hf2 : Foot (fun i => QuB R p g V i ∨ i = Z) w w5 := (((Foot.refl _ w).alloc (wtO y)).trans hf fun i hi => .inl (.inl (.inr (.inr ⟨k, hk, by rw [hV, hi]; rfl⟩))))
  exact foot_row (hf2.setCell (.inl (.inl (.inr (.inl rfl)))) _) (.inl (.inr rfl)) _
set_option maxRecDepth 100000 in
set_option maxHeartbeats 4000000 in
theorem remove_q (p : Nat) (F : Nat → Prop) (R : List Int) (L : List Wt) (id : Int) (w : World) (h : QuObj w p F R L) :
    Calls Try.prog 24 #[.pointer (some ⟨p, 0, none⟩), .int .i64 id] w fun e w' => e = .returned (.tuple #[wtV (QL.getW L id), .int .i64 (QL.getE L id)]) ∧ ∃ F', QuObj w' p F' R (QL.dropI L id) ∧ Foot F w w' ∧ ∀ i, F' i → F i ∨ w.heap.size ≤ i := by
  obtain ⟨g, c, V, hQ, hF⟩ := h.ex
  have hB1 := (Below.refl w.heap.size w).alloc (Nat.le_refl _) (wtO QL.zw)
  have hb := wt_new w QL.zw
  have HB1 := Lib.hid hB1
  have HQ0 := Lib.hid (And.intro hQ hF)
  have HQ1 := Lib.hid (hQ.keep hB1)
  have HZ1 := Lib.hid hb
  have l1 : w.heap.size < (w.alloc (wtO QL.zw)).heap.size := blk_lt hb
  clear h hQ hB1 hb hF
  simp only [wtV, wtA, wtO, QL.zw] at *
  go_enter Try.func24, Try.ntmps24
  go_wp2_with fail
  refine (ofid_q id _).mono ?_
  rintro e w2 ⟨S, rfl, hS, hb2⟩
  have HQ2 := Lib.hid (HQ1.out.keep hb2)
  have HB2 := Lib.hid (below_step HB1.out hb2)
  have HZ2 := Lib.hid ((hb2.block _ l1).trans HZ1.out)
  have hFi := find_q p g c V R L S id w2 HQ2.out hS
  have l2 := Nat.lt_of_lt_of_le l1 hb2.size
  clear hS hb2 l1 HB1 HZ1 HQ1
  go_wp2_with fail
  refine hFi.mono ?_
  rintro e w3 ⟨hfo, hb3⟩
  have HB3 := Lib.hid (below_step HB2.out hb3)
  have HQ3 := Lib.hid (HQ2.out.keep hb3)
  have HZ3 := Lib.hid ((hb3.block _ l2).trans HZ2.out)
  have l3 := Nat.lt_of_lt_of_le l2 hb3.size
  clear hb3 HQ2 HB2 HZ2 hFi l2
  rcases hfo with ⟨hno, rfl⟩ | ⟨k, i, y, hk, hy, hid, rfl⟩
  · have HE := Lib.hid (FoundQ.no hno (R := []))
    clear hno
    go_wp2_with (refine wpList_store_wt rfl _ _ rfl w.heap.size QL.zw rfl rfl QL.zw HZ3.out ?_)
    refine bodyPost_ret (results_wt Try.results24 _ _ w.heap.size QL.zw (.int .i64 3) rfl (setRow_wt HZ3.out) rfl) rfl ?_
    have hBz := below_row HB3.out (Nat.le_refl _) (wtA QL.zw)
    refine ⟨?_, F, ?_, Foot.of_below hBz, fun i hi => .inl hi⟩
    · rw [HE.out.1, HE.out.2.1]; rfl
    · rw [HE.out.2.2]
      exact ⟨g, c, V, HQ0.out.1.keep hBz, HQ0.out.2⟩
  · obtain ⟨b, m, hV, hum, hm, hb, hc⟩ := HQ3.out.wait hk hy
    have hf := HQ3.out.inv.find hy
    have HE := Lib.hid (show QL.getW L id = y ∧ QL.getE L id = 0 by rw [← hid]; exact HQ3.out.inv.getW hf.1)
    have c0 := HQ3.out.head
    have c2 := (HQ3.out.at_ hk).2.1
    rw [hV] at c2
    have a0 : w3.cell? ⟨b, i * 10, none⟩ = some (.int .i64 y.id) := hc 0 _ rfl
    have a1 : w3.cell? ⟨b, i * 10 + 1, none⟩ = some (.int .i64 y.q) := hc 1 _ rfl
    have a2 : w3.cell? ⟨b, i * 10 + 2, none⟩ = some (.int .i64 y.p) := hc 2 _ rfl
    have a3 : w3.cell? ⟨b, i * 10 + 3, none⟩ = some (.int .i64 y.r) := hc 3 _ rfl
    have a4 : w3.cell? ⟨b, i * 10 + 4, none⟩ = some (.int .i64 y.g) := hc 4 _ rfl
    have a5 : w3.cell? ⟨b, i * 10 + 5, none⟩ = some (.int .i64 y.c) := hc 5 _ rfl
    have a6 : w3.cell? ⟨b, i * 10 + 6, none⟩ = some (.int .i64 y.mn) := hc 6 _ rfl
    have a7 : w3.cell? ⟨b, i * 10 + 7, none⟩ = some (.int .i64 y.mx) := hc 7 _ rfl
    have a8 : w3.cell? ⟨b, i * 10 + 8, none⟩ = some (.int .i64 y.s) := hc 8 _ rfl
    have a9 : w3.cell? ⟨b, i * 10 + 9, none⟩ = some (.int .i64 y.n) := hc 9 _ rfl
    have hBa := (Below.refl w3.heap.size w3).alloc (Nat.le_refl _) (wtO y)
    have hn8 := HQ3.out.inv.r.hi
    have hu16 := HQ3.out.inv.room k
    have hiu := (List.getElem?_eq_some_iff.1 hy).1
    have hlb : b < w3.heap.size := hb
    have hbz : b ≠ w.heap.size := by
      have := HQ0.out.1.lt b (.inr (.inr ⟨k, hk, by rw [hV]; rfl⟩)); omega
    have hbg : b ≠ g := (HQ3.out.ap k b hk (by rw [hV]; rfl)).2
    have hlg := HQ3.out.lt g (.inr (.inl rfl))
    have hgz : g ≠ w.heap.size := by have := HQ0.out.1.lt g (.inr (.inl rfl)); omega
    have hDel := Lib.hid (delete_any 0 b (QL.rowL L k).length m i (QL.rowL L k) (w3.alloc (wtO y)) (by have := (HQ3.out.own k hk).alloc (wtO y); rw [hV] at this; exact this) rfl hiu)
    have HBOX := Lib.hid (wt_new w3 y)
    have HZa := Lib.hid ((hBa.block _ l3).trans HZ3.out)
    have c2a := (hBa.cell (p := ⟨g, k * 2 + 1, none⟩) hlg).trans c2
    have f2a : (w3.alloc (wtO y)).frozen? ⟨g, k * 2 + 1, none⟩ = false := by
      obtain ⟨cur, e1, _⟩ := (HQ3.out.keep hBa).row
      exact frozen_blk e1
    obtain ⟨n, hn⟩ : ∃ n, n = R.length := ⟨_, rfl⟩
    obtain ⟨u, hu⟩ : ∃ u, u = (QL.rowL L k).length := ⟨_, rfl⟩
    have HK := Lib.hid (And.intro hk (And.intro hy (And.intro hu (And.intro hid hV))))
    rw [← hn] at c0 hk hn8
    rw [← hu] at c2 c2a hiu hu16 hum hDel
    have HC2 := Lib.hid (And.intro c2a f2a)
    have hm63 : m ≤ 9223372036854775807 := by unfold maxLen at hm; omega
    clear hy hid hf hV hc hn hu hb hBa c2a f2a
    simp only [wtO, wtA] at hDel HBOX HZa HC2
    go_wp2_with fail
    try rw [show ((i : Int) + 1 + 9223372036854775808) % 18446744073709551616 - 9223372036854775808 = (i : Int) + 1 by omega]
    refine hDel.out.mono ?_
    rintro e w5 ⟨rfl, hown5, hft⟩
    have d2 := (hft.cell (p := ⟨g, k * 2 + 1, none⟩) (by simp; omega) (Ne.symm hbg)).trans HC2.out.1
    have d3 : w5.frozen? ⟨g, k * 2 + 1, none⟩ = false := by
      have := HC2.out.2
      rw [← this]
      simp only [World.frozen?]
      rw [hft.block g (by simp; omega) (Ne.symm hbg)]
    have HBOX5 := Lib.hid ((hft.block w3.heap.size (by simp) (by omega)).trans HBOX.out)
    have HZ5 := Lib.hid ((hft.block w.heap.size (by simp; omega) (by omega)).trans HZa.out)
    have H5 := Lib.hid (And.intro hown5 hft)
    have hw3g : w3.heap.size ≠ g := by omega
    have hwz3 : w.heap.size ≠ g := by omega
    clear hown5 hft hDel a0 a1 a2 a3 a4 a5 a6 a7 a8 a9 c2 c0
    go_wp2_with (first
      | (refine wpList_load_row rfl 39 _ rfl w3.heap.size rfl 39 (wtA y) (0, 0) _ ((Below.heap_setCell w5 ⟨g, k * 2 + 1, none⟩ _ w3.heap.size hw3g).trans HBOX5.out) Try.underlying39 rfl (by kernel_rfl) ?_)
      | (refine wpList_store_wt rfl _ _ rfl w.heap.size y rfl rfl QL.zw ((Below.heap_setCell w5 ⟨g, k * 2 + 1, none⟩ _ w.heap.size hwz3).trans HZ5.out) ?_))
    have hZs := setRow_wt (x := y) ((Below.heap_setCell w5 ⟨g, k * 2 + 1, none⟩ (.slice (some ⟨b, 0, none⟩) (u - 1) m) w.heap.size hwz3).trans HZ5.out)
    refine bodyPost_ret (results_wt Try.results24 _ _ w.heap.size y (.int .i64 0) rfl hZs rfl) rfl ?_
    have hZn : ¬ QuB R p g V w.heap.size := fun e => by have := HQ0.out.1.lt _ e; omega
    obtain ⟨z1, z2, z3⟩ := HQ3.out.took (cs := wtA y) HK.out.1 HK.out.2.1 HK.out.2.2.1 (by rw [HK.out.2.2.1]; exact HK.out.2.2.2.2) H5.out.1 H5.out.2 l3 hZn rfl
    have hFi := HQ0.out.2
    have hsz := HB3.out.size
    refine ⟨?_, _, ⟨g, c, _, by rw [← HK.out.2.2.2.1]; exact z1, fun i => Iff.rfl⟩, (Foot.of_below (F := F) HB3.out).trans z3 fun i hi => ?_, fun i hi => ?_⟩
    · rw [HE.out.1, HE.out.2]; rfl
    · rcases hi with e | e
      · exact .inl ((hFi i).2 e)
      · exact .inr (by omega)
    · rcases z2 i hi with e | e
      · exact .inl ((hFi i).2 e)
      · exact .inr (by omega)
end Go.Proofs.Ytdeniikaddlifaa
