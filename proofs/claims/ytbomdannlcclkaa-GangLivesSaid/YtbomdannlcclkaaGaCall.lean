/- Gangs: the calls that change a record. -/
import Derived.Laws.CopyRow
import Derived.Test.YtbomdannlcclkaaGaFind
import Derived.Test.YtbomdannlcclkaaGaChg
set_option linter.unusedVariables false
namespace Go.Proofs.Ytbomdannlcclkaa
open Go.RowKit
theorem flat_set {α : Type} {n : Nat} (C : α → List Value) (hC : ∀ x, (C x).length = n) : ∀ (L : List α) (i : Nat) (x : α), i < L.length → (L.set i x).flatMap C = (L.flatMap C).take (i * n) ++ C x ++ (L.flatMap C).drop (i * n + n)
  | [], i, x, h => by simp at h
  | y :: L, 0, x, _ => by
    rw [List.set_cons_zero, List.flatMap_cons, List.flatMap_cons, Nat.zero_mul, List.take_zero, List.nil_append, Nat.zero_add, List.drop_append, hC, Nat.sub_self, List.drop_zero, List.drop_of_length_le (l := C y) (by rw [hC]; omega), List.nil_append]
  | y :: L, i + 1, x, h => by
    have ih := flat_set C hC L i x (by simpa using h)
    rw [List.set_cons_succ, List.flatMap_cons, ih, List.flatMap_cons, List.take_append, List.drop_append, hC, show (i + 1) * n - n = i * n by rw [Nat.succ_mul]; omega, show (i + 1) * n + n - n = i * n + n by rw [Nat.succ_mul]; omega,
      List.take_of_length_le (l := C y) (by rw [hC, Nat.succ_mul]; omega), List.drop_of_length_le (l := C y) (by rw [hC, Nat.succ_mul]; omega)]
    simp
/-- A record of a row is written. -/
theorem own_put {w : World} {V : Value} {L : List Rc} {g i : Nat} (y : Rc) (h : w.ownsRow 0 42 16 V L.length (L.flatMap rcC)) (hg : V.ownBlock = some g) (hi : i < L.length) :
    ∃ cs : Array Value, (storeVar 42 ⟨g, i * 16, none⟩ (.agg (rcA y))).run Try.prog w = .ok () (w.setRow g cs) ∧ (w.setRow g cs).ownsRow 0 42 16 V L.length ((L.set i y).flatMap rcC) := by
  rcases h.2 with ⟨e, _⟩ | ⟨g', cap, cur, e, h5, h6, h7, h8, h9, h10⟩
  · rw [e] at hg; cases hg
  · have : g' = g := by rw [e] at hg; simpa [Value.ownBlock] using hg
    subst this
    have hst := run_storeCells_at Try.prog g' (i * 16) 42 (rcC y) 0 cur w h6 (by rw [rcC_len, h9]; omega) (rcC_one y)
    rw [rcC_len, Nat.add_zero] at hst
    refine ⟨(cur.toList.take (i * 16) ++ rcC y ++ cur.toList.drop (i * 16 + 16)).toArray, ?_, ?_, .inr ⟨g', cap, _, e, h5, setRow_heap w g' cur _ _ _ h6, h7, h8, ?_, ?_⟩⟩
    · have hsz : (rcA y).size = 16 := rfl
      have hl : (rcA y).toList = rcC y := rfl
      simp only [storeVar, Sem.run_bind, Try.sizeOf42, Result.andThen_ok, Value.cells, hsz, hl, ne_eq, not_true_eq_false, if_false, hst]
    · rw [flat_len rcC_len, List.length_set]
    · have : cur.toList.length = cap * 16 := by simpa using h9
      simp [rcC_len]
      omega
    · have hcl : cur.toList.length = cap * 16 := by simpa using h9
      rw [flat_set rcC rcC_len L i y hi, ← h10]
      have e1 : i * 16 + 16 ≤ L.length * 16 := by omega
      rw [List.take_take, Nat.min_eq_left (by omega)]
      simp only
      rw [List.append_assoc, List.append_assoc, List.take_append, List.take_append, List.length_take, rcC_len]
      have h4 : min (i * 16) cur.toList.length = i * 16 := Nat.min_eq_left (by omega)
      rw [h4, List.take_take, Nat.min_eq_right (by omega), List.take_of_length_le (l := rcC y) (by rw [rcC_len]; omega), List.drop_take, show L.length * 16 - i * 16 - 16 = L.length * 16 - (i * 16 + 16) by omega]
theorem wpList_put_rc {ops : Array Oper} {rest : List Oper} {o : Oper} {a : Act} {w : World} {Q : Exit → Act → World → Prop} (hgd : o.guard = none) (x v : Operand) (ho : o.op = .store 42 x v)
    (g i : Nat) (V : Value) (L : List Rc) (y : Rc) (hx : a.eval x = .pointer (some ⟨g, i * 16, none⟩)) (hv : a.eval v = .agg (rcA y)) (h : w.ownsRow 0 42 16 V L.length (L.flatMap rcC)) (hg : V.ownBlock = some g) (hi : i < L.length)
    (hK : ∀ cs, (w.setRow g cs).ownsRow 0 42 16 V L.length ((L.set i y).flatMap rcC) → wpList Try.prog ops Q rest (a.put o.dst undef) (w.setRow g cs)) : wpList Try.prog ops Q (o :: rest) a w := by
  obtain ⟨cs, hr, ho2⟩ := own_put y h hg hi
  refine wpList_plain hgd fun K hKK => ?_
  unfold Oper.wp execOp
  simp only [ho, hx, hv, Instr.storeAt, Instr.sureAddr, Sem.run_bind, Sem.run_pure, Result.andThen_ok, hr]
  exact hKK _ _ (hK cs ho2)
/-- A book of which one record was written. -/
theorem GaAt.put {T : TypeId} {w w' : World} {p g i : Nat} {V : Value} {L : List Rc} {y : Rc} {cs : Array Value} (h : GaAt T w p V L) (hg : V.ownBlock = some g) (e : w' = w.setRow g cs) (ho : w'.ownsRow 0 42 16 V L.length ((L.set i y).flatMap rcC)) : GaAt T w' p V (L.set i y) := by
  refine ⟨?_, by rw [List.length_set]; exact ho, h.ap, by rw [List.length_set]; exact h.len⟩
  rw [e]
  exact (setRow_other w g p cs (Ne.symm (h.ap g hg))).trans h.obj
theorem GaAt.rec_ {T : TypeId} {w : World} {p g k : Nat} {V : Value} {L : List Rc} {x : Rc} (h : GaAt T w p V L) (hg : V.ownBlock = some g) (hx : L[k]? = some x) : RcAt w g (k * 16) x := by
  obtain ⟨A, g', c, hV, hc1, hc2, hR, hA, hEl, hA2⟩ := own_slc h.own
  obtain ⟨e1, _, h3⟩ := hR k x hx
  have hne : L ≠ [] := fun e => by rw [e] at hx; simp at hx
  have := (hA2 hne).2
  rw [hg] at this
  cases this
  exact h3

set_option maxRecDepth 100000 in
set_option maxHeartbeats 4000000 in
theorem ch_res (T : TypeId) (p S : Nat) (V : Value) (L : List Rc) (id m l k : Int) (w : World) (h : GaAt T w p V L) (hS : S + 2 < w.heap.size) (c1 : w.cell? ⟨S, 0, none⟩ = some (.int .i64 m)) (c2 : w.cell? ⟨S + 1, 0, none⟩ = some (.int .i64 l)) (c3 : w.cell? ⟨S + 2, 0, none⟩ = some (.int .i64 k)) :
    Calls Try.prog 40 #[.pointer (some ⟨p, 0, none⟩), .int .i64 id, .func (.func 41) #[] #[.pointer (some ⟨S, 0, none⟩), .pointer (some ⟨S + 1, 0, none⟩), .pointer (some ⟨S + 2, 0, none⟩)]] w fun e w' => e = .returned (.int .i64 (GL.chE L id (GL.resE · m))) ∧ GaAt T w' p V (GL.chL L id (GL.resE · m) (GL.resR · m l k)) ∧ Foot (fun i => V.ownBlock = some i) w w' := by
  have HF := Lib.hid (find_any T p V L id w h)
  have HH := Lib.hid h
  have lg : ∀ i, V.ownBlock = some i → i < w.heap.size := fun i hi => h.lt i (.inr hi)
  clear h
  go_enter Try.func40, Try.ntmps40
  go_wp2_with fail
  refine HF.out.mono ?_
  rintro e w1 ⟨hfo, hb⟩
  have HB := Lib.hid hb
  rcases hfo with ⟨hno, rfl⟩ | ⟨g, x, hg, hx, hxi, hh, rfl⟩
  · have HN := Lib.hid hno
    clear hb hno HF c1 c2 c3
    go_wp2
    go_ret
    refine ⟨?_, ?_, Foot.of_below HB.out⟩
    · rw [(GL.ch_no HN.out _ (GL.resR · m l k)).1]; rfl
    · rw [(GL.ch_no HN.out _ _).2]; exact HH.out.keep HB.out
  · have hl1 := HH.out.keep hb
    have hr := hl1.rec_ hg hx
    obtain ⟨k0, hk0⟩ : ∃ k0, k0 = GL.pos L id := ⟨_, rfl⟩
    rw [← hk0] at hx hr ⊢
    have hkl : k0 < L.length := (List.getElem?_eq_some_iff.1 hx).1
    have hgl := lg g hg
    have hgl1 : g < w1.heap.size := Nat.lt_of_lt_of_le hgl hb.size
    have HX := Lib.hid (And.intro hk0 (And.intro (show L[GL.pos L id]? = some x by rw [← hk0]; exact hx) (And.intro hg hkl)))
    have H1 := Lib.hid hl1
    have HR1 := Lib.hid hr
    have hz := rc_new w1 GL.zr
    have HZr := Lib.hid hz
    have lb : w1.heap.size < (w1.alloc (rcO GL.zr)).heap.size := blk_lt hz
    have hB2 : Below w1.heap.size w1 ((w1.alloc (rcO GL.zr)).setRow w1.heap.size (rcA x)) := below_row ((Below.refl _ w1).alloc (Nat.le_refl _) _) (Nat.le_refl _) _
    have hbx := setRow_rc (x := x) (old := GL.zr) hz
    have hsz2 : w1.heap.size < ((w1.alloc (rcO GL.zr)).setRow w1.heap.size (rcA x)).heap.size := blk_lt hbx
    have hb2 := below_step HB.out hB2
    have k1 := (hb2.cell (p := ⟨S, 0, none⟩) (by show S < _; omega)).trans c1
    have k2 := (hb2.cell (p := ⟨S + 1, 0, none⟩) (by show S + 1 < _; omega)).trans c2
    have k3 := (hb2.cell (p := ⟨S + 2, 0, none⟩) (by show S + 2 < _; omega)).trans c3
    have HCl := Lib.hid (rescl_any w1.heap.size S x m l k _ hbx (by have := HB.out.size; omega) k1 k2 k3)
    have H2 := Lib.hid (And.intro hB2 (below_step HB.out hB2))
    clear hx hr hl1 hz hxi hh hk0 hB2 hbx hb HF c1 c2 c3
    simp only [rcO, rcA, GL.zr] at HZr
    go_wp2_with (first
      | (refine wpList_load_rc rfl _ rfl g (k0 * 16) x rfl HR1.out ?_)
      | (refine wpList_store_rc rfl _ _ rfl w1.heap.size x rfl rfl GL.zr HZr.out ?_)
      | fail)
    refine HCl.out.mono ?_
    rintro e w3 ⟨rfl, hR, hF⟩
    have hF1 : Foot (fun i => V.ownBlock = some i) w w3 := (Foot.of_below H2.out.2).trans hF (fun i hi => .inr (by have := HB.out.size; omega))
    have hk3 : ∀ i, i = p ∨ V.ownBlock = some i → w3.heap[i]? = w1.heap[i]? := fun i hi => by
      have hlt := H1.out.lt i hi
      refine (hF.block i (Nat.lt_of_lt_of_le hlt H2.out.1.size) ?_).trans (H2.out.1.block i hlt)
      omega
    have h3 := H1.out.of hk3
    have H3 := Lib.hid (And.intro h3 hF1)
    clear hF hF1 hk3 HCl HZr HR1 lb hsz2
    obtain ⟨d, hd⟩ : ∃ d, d = GL.resE x m := ⟨_, rfl⟩
    rw [← hd] at hR ⊢
    have HD := Lib.hid hd
    clear hd
    by_cases h0 : d = 0
    · subst h0
      have hbx := hR rfl
      obtain ⟨y, hy⟩ : ∃ y, y = GL.resR x m l k := ⟨_, rfl⟩
      rw [← hy] at hbx
      have HY := Lib.hid hy
      have HX3 := Lib.hid (rcAt_of hbx)
      have ho3 := h3.own
      clear hy hR hbx h3
      go_wp2_with (first
        | (refine wpList_load_rc rfl _ rfl w1.heap.size 0 y rfl HX3.out ?_)
        | (refine wpList_put_rc rfl _ _ rfl g k0 V L y rfl rfl ho3 HX.out.2.2.1 HX.out.2.2.2 ?_; intro cs hcs; have HCS := Lib.hid hcs; clear hcs ho3))
      go_ret
      have hch := GL.ch_yes HX.out.2.1 (GL.resE · m) (GL.resR · m l k)
      have e1 : GL.resE x m = 0 := HD.out.symm
      rw [e1, if_pos rfl, ← HX.out.1] at hch
      rw [hch.1, hch.2]
      have hpp := H3.out.1.put HX.out.2.2.1 rfl HCS.out
      refine ⟨by simp, by rw [← HY.out]; exact hpp, foot_row H3.out.2 (.inl (HX.out.2.2.1)) _⟩
    · have t0 : (d != 0) = true := by simpa using h0
      have h0' := Lib.hid h0
      clear h0 hR h3
      go_wp2
      go_ret
      have hch := GL.ch_yes HX.out.2.1 (GL.resE · m) (GL.resR · m l k)
      have e1 : GL.resE x m = d := HD.out.symm
      rw [e1, if_neg h0'.out] at hch
      rw [hch.1, hch.2]
      exact ⟨by simp, H3.out.1, H3.out.2⟩

set_option maxRecDepth 100000 in
set_option maxHeartbeats 4000000 in
theorem ch_sta (T : TypeId) (p S : Nat) (V : Value) (L : List Rc) (id n : Int) (Z : Nat) (w : World) (h : GaAt T w p V L) (hS : S < w.heap.size) (hSZ : S ≠ Z) (hZp : Z ≠ p) (hZV : ∀ i, V.ownBlock = some i → i ≠ Z) (c1 : w.cell? ⟨S, 0, none⟩ = some (.int .i64 n)) (hZ0 : w.heap[Z]? = some (.cells #[.int .i64 0] 3 (0, 0))) :
    Calls Try.prog 40 #[.pointer (some ⟨p, 0, none⟩), .int .i64 id, .func (.func 46) #[] #[.pointer (some ⟨S, 0, none⟩), .pointer (some ⟨Z, 0, none⟩)]] w fun e w' => e = .returned (.int .i64 (GL.chE L id (GL.staE · n))) ∧ GaAt T w' p V (GL.chL L id (GL.staE · n) (GL.staR · n)) ∧ Foot (fun i => V.ownBlock = some i ∨ i = Z) w w' ∧ w'.heap[Z]? = some (.cells #[.int .i64 (GL.staN L id n)] 3 (0, 0)) := by
  have HF := Lib.hid (find_any T p V L id w h)
  have HH := Lib.hid h
  have lg : ∀ i, V.ownBlock = some i → i < w.heap.size := fun i hi => h.lt i (.inr hi)
  have HZ := Lib.hid hZ0
  have HZl := Lib.hid (blk_lt hZ0)
  clear h
  go_enter Try.func40, Try.ntmps40
  go_wp2_with fail
  refine HF.out.mono ?_
  rintro e w1 ⟨hfo, hb⟩
  have HB := Lib.hid hb
  rcases hfo with ⟨hno, rfl⟩ | ⟨g, x, hg, hx, hxi, hh, rfl⟩
  · have HN := Lib.hid hno
    clear hb hno HF c1 hZ0
    go_wp2
    go_ret
    refine ⟨?_, ?_, Foot.of_below HB.out, by rw [show GL.staN L id n = 0 by unfold GL.staN; rw [(GL.pos_no HN.out).1]]; exact (HB.out.block Z HZl.out).trans HZ.out⟩
    · rw [(GL.ch_no HN.out _ (GL.staR · n)).1]; rfl
    · rw [(GL.ch_no HN.out _ _).2]; exact HH.out.keep HB.out
  · have hl1 := HH.out.keep hb
    have hr := hl1.rec_ hg hx
    obtain ⟨k0, hk0⟩ : ∃ k0, k0 = GL.pos L id := ⟨_, rfl⟩
    rw [← hk0] at hx hr ⊢
    have hkl : k0 < L.length := (List.getElem?_eq_some_iff.1 hx).1
    have hgl := lg g hg
    have hgl1 : g < w1.heap.size := Nat.lt_of_lt_of_le hgl hb.size
    have HX := Lib.hid (And.intro hk0 (And.intro (show L[GL.pos L id]? = some x by rw [← hk0]; exact hx) (And.intro hg hkl)))
    have H1 := Lib.hid hl1
    have HR1 := Lib.hid hr
    have hz := rc_new w1 GL.zr
    have HZr := Lib.hid hz
    have lb : w1.heap.size < (w1.alloc (rcO GL.zr)).heap.size := blk_lt hz
    have hB2 : Below w1.heap.size w1 ((w1.alloc (rcO GL.zr)).setRow w1.heap.size (rcA x)) := below_row ((Below.refl _ w1).alloc (Nat.le_refl _) _) (Nat.le_refl _) _
    have hbx := setRow_rc (x := x) (old := GL.zr) hz
    have hsz2 : w1.heap.size < ((w1.alloc (rcO GL.zr)).setRow w1.heap.size (rcA x)).heap.size := blk_lt hbx
    have hb2 := below_step HB.out hB2
    have k1 := (hb2.cell (p := ⟨S, 0, none⟩) (by show S < _; omega)).trans c1
    have k2 := (hb2.block Z HZl.out).trans hZ0
    have hZn : ∀ i, i = p ∨ V.ownBlock = some i → i ≠ Z := fun i hi => by
      rcases hi with e | e
      · omega
      · exact hZV i e
    have hZg := Lib.hid (show Z ≠ g from fun e => hZV g hg e.symm)
    have HCl := Lib.hid (stacl_any w1.heap.size S Z x n _ hbx (by have := HB.out.size; omega) (by have := HB.out.size; have := HZl.out; omega) hSZ k1 k2)
    have H2 := Lib.hid (And.intro hB2 (below_step HB.out hB2))
    clear hx hr hl1 hz hxi hh hk0 hB2 hbx hb HF c1 hZ0
    simp only [rcO, rcA, GL.zr] at HZr
    go_wp2_with (first
      | (refine wpList_load_rc rfl _ rfl g (k0 * 16) x rfl HR1.out ?_)
      | (refine wpList_store_rc rfl _ _ rfl w1.heap.size x rfl rfl GL.zr HZr.out ?_)
      | fail)
    refine HCl.out.mono ?_
    rintro e w3 ⟨rfl, hR, hZ3, hF⟩
    have hF1 : Foot (fun i => V.ownBlock = some i ∨ i = Z) w w3 := (Foot.of_below H2.out.2).trans hF (fun i hi => by rcases hi with e | e; exact .inr (by have := HB.out.size; omega); exact .inl (.inr e))
    have hk3 : ∀ i, i = p ∨ V.ownBlock = some i → w3.heap[i]? = w1.heap[i]? := fun i hi => by
      have hlt := H1.out.lt i hi
      refine (hF.block i (Nat.lt_of_lt_of_le hlt H2.out.1.size) ?_).trans (H2.out.1.block i hlt)
      rintro (e | e); omega; exact hZn i hi e
    have h3 := H1.out.of hk3
    have H3 := Lib.hid (And.intro h3 hF1)
    have HZ3 := Lib.hid hZ3
    clear hF hF1 hk3 HCl HZr HR1 lb hsz2
    obtain ⟨d, hd⟩ : ∃ d, d = GL.staE x n := ⟨_, rfl⟩
    rw [← hd] at hR ⊢
    have HD := Lib.hid hd
    clear hd
    by_cases h0 : d = 0
    · subst h0
      have hbx := hR rfl
      obtain ⟨y, hy⟩ : ∃ y, y = GL.staR x n := ⟨_, rfl⟩
      rw [← hy] at hbx
      have HY := Lib.hid hy
      have HX3 := Lib.hid (rcAt_of hbx)
      have ho3 := h3.own
      clear hy hR hbx h3
      go_wp2_with (first
        | (refine wpList_load_rc rfl _ rfl w1.heap.size 0 y rfl HX3.out ?_)
        | (refine wpList_put_rc rfl _ _ rfl g k0 V L y rfl rfl ho3 HX.out.2.2.1 HX.out.2.2.2 ?_; intro cs hcs; have HCS := Lib.hid hcs; clear hcs ho3))
      go_ret
      have hch := GL.ch_yes HX.out.2.1 (GL.staE · n) (GL.staR · n)
      have e1 : GL.staE x n = 0 := HD.out.symm
      rw [e1, if_pos rfl, ← HX.out.1] at hch
      rw [hch.1, hch.2]
      have hpp := H3.out.1.put HX.out.2.2.1 rfl HCS.out
      refine ⟨by simp, by rw [← HY.out]; exact hpp, foot_row H3.out.2 (.inl (.inl HX.out.2.2.1)) _, by rw [show GL.staN L id n = if GL.staE x n = 0 then GL.endT x n else 0 by unfold GL.staN; rw [HX.out.2.1]]; exact (setRow_other _ g Z _ hZg.out).trans HZ3.out⟩
    · have t0 : (d != 0) = true := by simpa using h0
      have h0' := Lib.hid h0
      clear h0 hR h3
      go_wp2
      go_ret
      have hch := GL.ch_yes HX.out.2.1 (GL.staE · n) (GL.staR · n)
      have e1 : GL.staE x n = d := HD.out.symm
      rw [e1, if_neg h0'.out] at hch
      rw [hch.1, hch.2]
      exact ⟨by simp, H3.out.1, H3.out.2, by rw [show GL.staN L id n = if GL.staE x n = 0 then GL.endT x n else 0 by unfold GL.staN; rw [HX.out.2.1]]; exact HZ3.out⟩

set_option maxRecDepth 100000 in
set_option maxHeartbeats 4000000 in
theorem ch_tur (T : TypeId) (p S : Nat) (V : Value) (L : List Rc) (id v : Int) (w : World) (h : GaAt T w p V L) (hS : S < w.heap.size) (c1 : w.cell? ⟨S, 0, none⟩ = some (.int .i64 v)) :
    Calls Try.prog 40 #[.pointer (some ⟨p, 0, none⟩), .int .i64 id, .func (.func 44) #[] #[.pointer (some ⟨S, 0, none⟩)]] w fun e w' => e = .returned (.int .i64 (GL.chE L id (GL.turE · v))) ∧ GaAt T w' p V (GL.chL L id (GL.turE · v) (GL.turR · v)) ∧ Foot (fun i => V.ownBlock = some i) w w' := by
  have HF := Lib.hid (find_any T p V L id w h)
  have HH := Lib.hid h
  have lg : ∀ i, V.ownBlock = some i → i < w.heap.size := fun i hi => h.lt i (.inr hi)
  clear h
  go_enter Try.func40, Try.ntmps40
  go_wp2_with fail
  refine HF.out.mono ?_
  rintro e w1 ⟨hfo, hb⟩
  have HB := Lib.hid hb
  rcases hfo with ⟨hno, rfl⟩ | ⟨g, x, hg, hx, hxi, hh, rfl⟩
  · have HN := Lib.hid hno
    clear hb hno HF c1
    go_wp2
    go_ret
    refine ⟨?_, ?_, Foot.of_below HB.out⟩
    · rw [(GL.ch_no HN.out _ (GL.turR · v)).1]; rfl
    · rw [(GL.ch_no HN.out _ _).2]; exact HH.out.keep HB.out
  · have hl1 := HH.out.keep hb
    have hr := hl1.rec_ hg hx
    obtain ⟨k0, hk0⟩ : ∃ k0, k0 = GL.pos L id := ⟨_, rfl⟩
    rw [← hk0] at hx hr ⊢
    have hkl : k0 < L.length := (List.getElem?_eq_some_iff.1 hx).1
    have hgl := lg g hg
    have hgl1 : g < w1.heap.size := Nat.lt_of_lt_of_le hgl hb.size
    have HX := Lib.hid (And.intro hk0 (And.intro (show L[GL.pos L id]? = some x by rw [← hk0]; exact hx) (And.intro hg hkl)))
    have H1 := Lib.hid hl1
    have HR1 := Lib.hid hr
    have hz := rc_new w1 GL.zr
    have HZr := Lib.hid hz
    have lb : w1.heap.size < (w1.alloc (rcO GL.zr)).heap.size := blk_lt hz
    have hB2 : Below w1.heap.size w1 ((w1.alloc (rcO GL.zr)).setRow w1.heap.size (rcA x)) := below_row ((Below.refl _ w1).alloc (Nat.le_refl _) _) (Nat.le_refl _) _
    have hbx := setRow_rc (x := x) (old := GL.zr) hz
    have hsz2 : w1.heap.size < ((w1.alloc (rcO GL.zr)).setRow w1.heap.size (rcA x)).heap.size := blk_lt hbx
    have hb2 := below_step HB.out hB2
    have k1 := (hb2.cell (p := ⟨S, 0, none⟩) (by show S < _; omega)).trans c1
    have HCl := Lib.hid (turcl_any w1.heap.size S x v _ hbx (by have := HB.out.size; omega) k1)
    have H2 := Lib.hid (And.intro hB2 (below_step HB.out hB2))
    clear hx hr hl1 hz hxi hh hk0 hB2 hbx hb HF c1
    simp only [rcO, rcA, GL.zr] at HZr
    go_wp2_with (first
      | (refine wpList_load_rc rfl _ rfl g (k0 * 16) x rfl HR1.out ?_)
      | (refine wpList_store_rc rfl _ _ rfl w1.heap.size x rfl rfl GL.zr HZr.out ?_)
      | fail)
    refine HCl.out.mono ?_
    rintro e w3 ⟨rfl, hR, hF⟩
    have hF1 : Foot (fun i => V.ownBlock = some i) w w3 := (Foot.of_below H2.out.2).trans hF (fun i hi => .inr (by have := HB.out.size; omega))
    have hk3 : ∀ i, i = p ∨ V.ownBlock = some i → w3.heap[i]? = w1.heap[i]? := fun i hi => by
      have hlt := H1.out.lt i hi
      refine (hF.block i (Nat.lt_of_lt_of_le hlt H2.out.1.size) ?_).trans (H2.out.1.block i hlt)
      omega
    have h3 := H1.out.of hk3
    have H3 := Lib.hid (And.intro h3 hF1)
    clear hF hF1 hk3 HCl HZr HR1 lb hsz2
    obtain ⟨d, hd⟩ : ∃ d, d = GL.turE x v := ⟨_, rfl⟩
    rw [← hd] at hR ⊢
    have HD := Lib.hid hd
    clear hd
    by_cases h0 : d = 0
    · subst h0
      have hbx := hR rfl
      obtain ⟨y, hy⟩ : ∃ y, y = GL.turR x v := ⟨_, rfl⟩
      rw [← hy] at hbx
      have HY := Lib.hid hy
      have HX3 := Lib.hid (rcAt_of hbx)
      have ho3 := h3.own
      clear hy hR hbx h3
      go_wp2_with (first
        | (refine wpList_load_rc rfl _ rfl w1.heap.size 0 y rfl HX3.out ?_)
        | (refine wpList_put_rc rfl _ _ rfl g k0 V L y rfl rfl ho3 HX.out.2.2.1 HX.out.2.2.2 ?_; intro cs hcs; have HCS := Lib.hid hcs; clear hcs ho3))
      go_ret
      have hch := GL.ch_yes HX.out.2.1 (GL.turE · v) (GL.turR · v)
      have e1 : GL.turE x v = 0 := HD.out.symm
      rw [e1, if_pos rfl, ← HX.out.1] at hch
      rw [hch.1, hch.2]
      have hpp := H3.out.1.put HX.out.2.2.1 rfl HCS.out
      refine ⟨by simp, by rw [← HY.out]; exact hpp, foot_row H3.out.2 (.inl (HX.out.2.2.1)) _⟩
    · have t0 : (d != 0) = true := by simpa using h0
      have h0' := Lib.hid h0
      clear h0 hR h3
      go_wp2
      go_ret
      have hch := GL.ch_yes HX.out.2.1 (GL.turE · v) (GL.turR · v)
      have e1 : GL.turE x v = d := HD.out.symm
      rw [e1, if_neg h0'.out] at hch
      rw [hch.1, hch.2]
      exact ⟨by simp, H3.out.1, H3.out.2⟩

set_option maxRecDepth 100000 in
set_option maxHeartbeats 4000000 in
theorem ch_siz (T : TypeId) (p S : Nat) (V : Value) (L : List Rc) (id v : Int) (w : World) (h : GaAt T w p V L) (hS : S < w.heap.size) (c1 : w.cell? ⟨S, 0, none⟩ = some (.int .i64 v)) :
    Calls Try.prog 40 #[.pointer (some ⟨p, 0, none⟩), .int .i64 id, .func (.func 47) #[] #[.pointer (some ⟨S, 0, none⟩)]] w fun e w' => e = .returned (.int .i64 (GL.chE L id (GL.sizE · v))) ∧ GaAt T w' p V (GL.chL L id (GL.sizE · v) (GL.sizR · v)) ∧ Foot (fun i => V.ownBlock = some i) w w' := by
  have HF := Lib.hid (find_any T p V L id w h)
  have HH := Lib.hid h
  have lg : ∀ i, V.ownBlock = some i → i < w.heap.size := fun i hi => h.lt i (.inr hi)
  clear h
  go_enter Try.func40, Try.ntmps40
  go_wp2_with fail
  refine HF.out.mono ?_
  rintro e w1 ⟨hfo, hb⟩
  have HB := Lib.hid hb
  rcases hfo with ⟨hno, rfl⟩ | ⟨g, x, hg, hx, hxi, hh, rfl⟩
  · have HN := Lib.hid hno
    clear hb hno HF c1
    go_wp2
    go_ret
    refine ⟨?_, ?_, Foot.of_below HB.out⟩
    · rw [(GL.ch_no HN.out _ (GL.sizR · v)).1]; rfl
    · rw [(GL.ch_no HN.out _ _).2]; exact HH.out.keep HB.out
  · have hl1 := HH.out.keep hb
    have hr := hl1.rec_ hg hx
    obtain ⟨k0, hk0⟩ : ∃ k0, k0 = GL.pos L id := ⟨_, rfl⟩
    rw [← hk0] at hx hr ⊢
    have hkl : k0 < L.length := (List.getElem?_eq_some_iff.1 hx).1
    have hgl := lg g hg
    have hgl1 : g < w1.heap.size := Nat.lt_of_lt_of_le hgl hb.size
    have HX := Lib.hid (And.intro hk0 (And.intro (show L[GL.pos L id]? = some x by rw [← hk0]; exact hx) (And.intro hg hkl)))
    have H1 := Lib.hid hl1
    have HR1 := Lib.hid hr
    have hz := rc_new w1 GL.zr
    have HZr := Lib.hid hz
    have lb : w1.heap.size < (w1.alloc (rcO GL.zr)).heap.size := blk_lt hz
    have hB2 : Below w1.heap.size w1 ((w1.alloc (rcO GL.zr)).setRow w1.heap.size (rcA x)) := below_row ((Below.refl _ w1).alloc (Nat.le_refl _) _) (Nat.le_refl _) _
    have hbx := setRow_rc (x := x) (old := GL.zr) hz
    have hsz2 : w1.heap.size < ((w1.alloc (rcO GL.zr)).setRow w1.heap.size (rcA x)).heap.size := blk_lt hbx
    have hb2 := below_step HB.out hB2
    have k1 := (hb2.cell (p := ⟨S, 0, none⟩) (by show S < _; omega)).trans c1
    have HCl := Lib.hid (sizcl_any w1.heap.size S x v _ hbx (by have := HB.out.size; omega) k1)
    have H2 := Lib.hid (And.intro hB2 (below_step HB.out hB2))
    clear hx hr hl1 hz hxi hh hk0 hB2 hbx hb HF c1
    simp only [rcO, rcA, GL.zr] at HZr
    go_wp2_with (first
      | (refine wpList_load_rc rfl _ rfl g (k0 * 16) x rfl HR1.out ?_)
      | (refine wpList_store_rc rfl _ _ rfl w1.heap.size x rfl rfl GL.zr HZr.out ?_)
      | fail)
    refine HCl.out.mono ?_
    rintro e w3 ⟨rfl, hR, hF⟩
    have hF1 : Foot (fun i => V.ownBlock = some i) w w3 := (Foot.of_below H2.out.2).trans hF (fun i hi => .inr (by have := HB.out.size; omega))
    have hk3 : ∀ i, i = p ∨ V.ownBlock = some i → w3.heap[i]? = w1.heap[i]? := fun i hi => by
      have hlt := H1.out.lt i hi
      refine (hF.block i (Nat.lt_of_lt_of_le hlt H2.out.1.size) ?_).trans (H2.out.1.block i hlt)
      omega
    have h3 := H1.out.of hk3
    have H3 := Lib.hid (And.intro h3 hF1)
    clear hF hF1 hk3 HCl HZr HR1 lb hsz2
    obtain ⟨d, hd⟩ : ∃ d, d = GL.sizE x v := ⟨_, rfl⟩
    rw [← hd] at hR ⊢
    have HD := Lib.hid hd
    clear hd
    by_cases h0 : d = 0
    · subst h0
      have hbx := hR rfl
      obtain ⟨y, hy⟩ : ∃ y, y = GL.sizR x v := ⟨_, rfl⟩
      rw [← hy] at hbx
      have HY := Lib.hid hy
      have HX3 := Lib.hid (rcAt_of hbx)
      have ho3 := h3.own
      clear hy hR hbx h3
      go_wp2_with (first
        | (refine wpList_load_rc rfl _ rfl w1.heap.size 0 y rfl HX3.out ?_)
        | (refine wpList_put_rc rfl _ _ rfl g k0 V L y rfl rfl ho3 HX.out.2.2.1 HX.out.2.2.2 ?_; intro cs hcs; have HCS := Lib.hid hcs; clear hcs ho3))
      go_ret
      have hch := GL.ch_yes HX.out.2.1 (GL.sizE · v) (GL.sizR · v)
      have e1 : GL.sizE x v = 0 := HD.out.symm
      rw [e1, if_pos rfl, ← HX.out.1] at hch
      rw [hch.1, hch.2]
      have hpp := H3.out.1.put HX.out.2.2.1 rfl HCS.out
      refine ⟨by simp, by rw [← HY.out]; exact hpp, foot_row H3.out.2 (.inl (HX.out.2.2.1)) _⟩
    · have t0 : (d != 0) = true := by simpa using h0
      have h0' := Lib.hid h0
      clear h0 hR h3
      go_wp2
      go_ret
      have hch := GL.ch_yes HX.out.2.1 (GL.sizE · v) (GL.sizR · v)
      have e1 : GL.sizE x v = d := HD.out.symm
      rw [e1, if_neg h0'.out] at hch
      rw [hch.1, hch.2]
      exact ⟨by simp, H3.out.1, H3.out.2⟩

end Go.Proofs.Ytbomdannlcclkaa
