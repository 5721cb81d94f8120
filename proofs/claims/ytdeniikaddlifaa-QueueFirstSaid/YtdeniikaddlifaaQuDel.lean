/- One wait taken out of a slice of its own: the others move up. -/
import Derived.ArgAppend
import Derived.Laws.IdiomCopy
import Derived.Lib.SliceRun
import Derived.RegionTactic
import Derived.BigRegion
import Derived.Test.YtdeniikaddlifaaHeldOn
import Derived.Test.YtdeniikaddlifaaOrdSort
import Derived.Test.YtdeniikaddlifaaOrdRefS
import Derived.Test.YtdeniikaddlifaaQuObj
set_option linter.unusedVariables false
namespace Go.Proofs.Ytdeniikaddlifaa
open Go.RowKit
/-- Cells of a block, written one behind the other. -/
theorem blk_puts {b : Nat} {t : TypeId} : ∀ (vs : List Value) (o : Nat) (w : World) (cur : Array Value), w.heap[b]? = some (.cells cur t (0, 0)) → o + vs.length ≤ cur.size →
    ∃ cur', (w.setCells b o vs).heap[b]? = some (.cells cur' t (0, 0)) ∧ cur'.size = cur.size ∧ (∀ j, j < o ∨ o + vs.length ≤ j → cur'[j]? = cur[j]?) ∧ ∀ j, j < vs.length → cur'[o + j]? = vs[j]?
  | [], o, w, cur, h, _ => ⟨cur, h, rfl, fun _ _ => rfl, fun j hj => by simp at hj⟩
  | v :: r, o, w, cur, h, hs => by
    simp only [List.length_cons] at hs
    obtain ⟨cur', h1, h2, h3, h4⟩ := blk_puts r (o + 1) (w.setCell ⟨b, o, none⟩ v) _ (blk_put (i := o) v h) (by simp; omega)
    refine ⟨cur', h1, by simpa using h2, fun j hj => ?_, fun j hj => ?_⟩
    · simp only [List.length_cons] at hj
      rw [h3 j (by omega), Array.getElem?_setIfInBounds_ne (by omega)]
    · cases j with
      | zero => rw [h3 (o + 0) (by omega), Nat.add_zero, Array.getElem?_setIfInBounds_self_of_lt (by omega)]; rfl
      | succ j =>
        simp only [List.length_cons] at hj
        rw [show o + (j + 1) = o + 1 + j by omega, h4 j (by omega)]; rfl
theorem heap_puts {b k : Nat} (hk : k ≠ b) : ∀ (vs : List Value) (o : Nat) (w : World), (w.setCells b o vs).heap[k]? = w.heap[k]?
  | [], _, _ => rfl
  | v :: r, o, w => (heap_puts hk r (o + 1) _).trans (Below.heap_setCell w ⟨b, o, none⟩ v k hk)
theorem foot_puts {b : Nat} {F : Nat → Prop} {a : World} (hb : F b) : ∀ (vs : List Value) (o : Nat) (w : World), Foot F a w → Foot F a (w.setCells b o vs)
  | [], _, _, h => h
  | v :: r, o, w, h => foot_puts hb r (o + 1) _ (h.setCell (p := ⟨b, o, none⟩) (.inl hb) v)
def zwL : List Value := [.int .i64 0, .int .i64 0, .int .i64 0, .int .i64 0, .int .i64 0, .int .i64 0, .int .i64 0, .int .i64 0, .int .i64 0, .int .i64 0]
/-- An own row behind a wait that was taken out. -/
theorem own_dropped {w w1 w2 : World} {B b u m i : Nat} {t : TypeId} {l : List Wt} (h : w.ownsRow B t 10 (.slice (some ⟨b, 0, none⟩) (u + 1) m) (u + 1) (l.flatMap wtC)) (hl : l.length = u + 1) (hi : i < u + 1)
    (e1 : w1 = w.setCells b (i * 10) ((l.drop (i + 1)).flatMap wtC)) (e2 : w2 = w1.setCells b (u * 10) zwL) :
    w2.ownsRow B t 10 (.slice (some ⟨b, 0, none⟩) u m) u ((l.take i ++ l.drop (i + 1)).flatMap wtC) := by
  have hA : ((l.take i).flatMap wtC).length = i * 10 := by rw [flat_len wtC_len, List.length_take]; congr 1; omega
  have hN : ((l.drop (i + 1)).flatMap wtC).length = (u - i) * 10 := by rw [flat_len wtC_len, List.length_drop]; congr 1; omega
  have hx : l.flatMap wtC = (l.take i).flatMap wtC ++ (l.drop i).flatMap wtC := by rw [← List.flatMap_append, List.take_append_drop]
  rcases h.2 with ⟨e, _⟩ | ⟨g, cap, cur, e, hB, hg, hc1, hc2, hc3, hc4⟩
  · cases e
  injection e with e0 _ e3
  injection e0 with e0
  injection e0 with e0
  subst e0 e3
  obtain ⟨cur1, g1, s1, o1, n1⟩ := blk_puts ((l.drop (i + 1)).flatMap wtC) (i * 10) w cur hg (by rw [hN]; omega)
  rw [← e1] at g1
  obtain ⟨cur2, g2, s2, o2, n2⟩ := blk_puts zwL (u * 10) w1 cur1 g1 (by rw [show zwL.length = 10 from rfl]; omega)
  rw [← e2] at g2
  refine ⟨by rw [List.flatMap_append, List.length_append, hA, hN]; omega, .inr ⟨b, m, cur2, rfl, hB, g2, by omega, hc2, by omega, ?_⟩⟩
  apply List.ext_getElem?
  intro j
  by_cases hj : j < u * 10
  · rw [List.getElem?_take_of_lt hj, Array.getElem?_toList, o2 j (.inl hj), List.flatMap_append]
    by_cases hji : j < i * 10
    · rw [o1 j (.inl hji), List.getElem?_append_left (by omega)]
      have := congrArg (fun x : List Value => x[j]?) hc4
      rw [List.getElem?_take_of_lt (by omega), Array.getElem?_toList, hx, List.getElem?_append_left (by omega)] at this
      exact this
    · obtain ⟨r, rfl⟩ : ∃ r, j = i * 10 + r := ⟨j - i * 10, by omega⟩
      rw [n1 r (by omega), List.getElem?_append_right (by omega), hA, Nat.add_sub_cancel_left]
  · rw [List.getElem?_eq_none (by rw [List.length_take]; omega), List.getElem?_eq_none (by rw [List.flatMap_append, List.length_append, hA, hN]; omega)]
section
variable {P : Program} (w : World)
/-- append where there is room, at the operation. -/
theorem wp_append_room {o : Oper} {a : Act} {K : Act → World → Prop} {Q : Exit → Act → World → Prop} (s x : Operand) (t : TypeId)
    (ho : o.op = .call { callee := .builtin .append, args := #[s, x], argTypes := #[t, t] })
    (e : TypeId) (i : TypeInfo) (size : Nat) (ht : P.underlying t = some (.slice e)) (hi : P.info? e = some i) (hsize : i.size = size)
    (b off n cap : Nat) (hs : a.eval s = .slice (some ⟨b, off, none⟩) n cap)
    (ad : Addr) (m c : Nat) (news : List Value) (hx : a.eval x = .slice (some ad) m c) (hl : news.length = m * size) (hnews : ∀ j u, news[j]? = some u → w.cell? (ad.add j) = some u) (h1 : ∀ u ∈ news, u.oneCell' = true)
    (hroom : n + m ≤ cap) (hspare : ∀ j, j < news.length → (w.cell? ⟨b, off + n * size + j, none⟩).isSome = true ∧ w.frozen? ⟨b, off + n * size + j, none⟩ = false)
    (h : K (a.put o.dst (.slice (some ⟨b, off, none⟩) (n + m) cap)) (w.setCells b (off + n * size) news)) : o.wp P a w K Q := by
  subst hsize
  have hr := run_append_room_cells (P := P) w t o.type e i ht hi b off n cap ad m c news hl hnews h1 hroom (fun j hj => (hspare j hj).1) (fun j hj => (hspare j hj).2)
  unfold Oper.wp execOp
  simp only [ho, resolve, invoke, builtin, Sem.run_bind, Sem.run_pure, Result.andThen_ok, List.map_toArray, List.map_cons, List.map_nil, hs, hx, hr]
  exact h
end
/-- clear of one wait. -/
theorem run_clear_wt (w : World) (ty : TypeId) (b o c : Nat) (hc : ∀ j, j < 10 → (w.cell? ⟨b, o + j, none⟩).isSome = true) (hf : ∀ j, j < 10 → w.frozen? ⟨b, o + j, none⟩ = false) :
    (Builtin.clear_ #[31] ty #[.slice (some ⟨b, o, none⟩) 1 c]).run Try.prog w = .ok (.tuple #[]) (w.setCells b o zwL) := by
  have ht : Try.prog.underlying 31 = some (.slice 39) := Try.underlying31
  have hv : ∀ w, (zeroValue 39).run Try.prog w = .ok (.agg #[.int .i64 0, .int .i64 0, .int .i64 0, .int .i64 0, .int .i64 0, .int .i64 0, .int .i64 0, .int .i64 0, .int .i64 0, .int .i64 0]) w := Try.zeroValue39
  have hst := run_storeCells_cells (P := Try.prog) b o zwL 0 w (by simpa [zwL] using hc) (by simpa [zwL] using hf) (by simp [zwL, Value.oneCell'])
  simp only [Nat.add_zero] at hst
  have hzc : (Builtin.zeroCells (Value.agg #[.int .i64 0, .int .i64 0, .int .i64 0, .int .i64 0, .int .i64 0, .int .i64 0, .int .i64 0, .int .i64 0, .int .i64 0, .int .i64 0]).cells 1).toList = zwL := by kernel_rfl
  simp [Builtin.clear_, run_underlying ht, hv, hzc, hst]
set_option maxRecDepth 100000 in
set_option maxHeartbeats 4000000 in
theorem delete_any (B b n m i : Nat) (l : List Wt) (w : World) (h : w.ownsRow B 39 10 (.slice (some ⟨b, 0, none⟩) n m) n (l.flatMap wtC)) (hl : l.length = n) (hi : i < n) :
    Calls Try.prog 35 #[.slice (some ⟨b, 0, none⟩) n m, .int .i64 i, .int .i64 ((i : Int) + 1)] w fun e w' => e = .returned (.slice (some ⟨b, 0, none⟩) (n - 1) m) ∧ w'.ownsRow B 39 10 (.slice (some ⟨b, 0, none⟩) (n - 1) m) (n - 1) ((l.take i ++ l.drop (i + 1)).flatMap wtC) ∧ Foot (· = b) w w' := by
  obtain ⟨u, rfl⟩ : ∃ u, n = u + 1 := ⟨n - 1, by omega⟩
  rw [Nat.add_sub_cancel]
  obtain ⟨i0, hi0, hz0, hz1, hz2⟩ := info_parts info_wt
  have HD := Lib.hid (fun w1 w2 => own_dropped (w1 := w1) (w2 := w2) h hl hi)
  obtain ⟨hcap, hmax, hblk⟩ : u + 1 ≤ m ∧ m ≤ maxLen ∧ ∃ cur, w.heap[b]? = some (.cells cur 39 (0, 0)) ∧ cur.size = m * 10 := by
    rcases h.2 with ⟨e, _⟩ | ⟨g, cap, cur, e, _, hg, h1, h2, h3, _⟩
    · cases e
    · injection e with e0 _ e3
      injection e0 with e0
      injection e0 with e0
      subst e0 e3
      exact ⟨h1, h2, cur, hg, h3⟩
  have hW : Wts w w.heap.size (some ⟨b, 0, none⟩) l := (els_own wtC_len h hl).1
  have hN : ((l.drop (i + 1)).flatMap wtC).length = (u - i) * 10 := by rw [flat_len wtC_len, List.length_drop]; congr 1; omega
  obtain ⟨news, hnews⟩ : ∃ news, news = (l.drop (i + 1)).flatMap wtC := ⟨_, rfl⟩
  rw [← hnews] at hN
  obtain ⟨A, hA, hsrc⟩ : ∃ A : Addr, atA (some ⟨b, 0, none⟩) (i + 1) m = some A ∧ Hid (∀ t v, news[t]? = some v → w.drew.cell? (A.add t) = some v) := by
    unfold atA
    by_cases e : m = i + 1
    · refine ⟨⟨b, 0, none⟩, by simp [e], fun t v hv => ?_⟩
      have h0 : news.length = 0 := by rw [hN]; omega
      rw [List.length_eq_zero_iff.1 h0] at hv
      simp at hv
    · refine ⟨⟨b, (i + 1) * 10, none⟩, by rw [if_neg e, Option.map_some, Addr.add_lit, Nat.zero_add], fun t v hv => ?_⟩
      rw [hnews] at hv
      refine els_cells (k := 10) wtC_len (by decide) (w := w.drew) (fun j x hx => ?_) t v hv
      rcases hW with e | ⟨b', off, e, _, hc⟩
      · rw [e] at hx; simp at hx
      · injection e with e; injection e with e1 e2; subst e1 e2
        have := hc (i + 1 + j) x (by rwa [List.getElem?_drop] at hx)
        rwa [show 0 + (i + 1 + j) * 10 = (i + 1) * 10 + j * 10 by omega] at this
  have s2 : Hid (∀ v ∈ news, v.oneCell' = true) := Lib.hid (by rw [hnews]; exact els_one wtC_one _)
  have s3 : Hid (∀ t, t < news.length → (w.drew.cell? ⟨b, 0 + i * 10 + t, none⟩).isSome = true ∧ w.drew.frozen? ⟨b, 0 + i * 10 + t, none⟩ = false) := Lib.hid (fun t ht => by
    obtain ⟨cur, hg, hsz⟩ := hblk
    rw [hN] at ht
    refine ⟨?_, frozen_blk (w := w) hg⟩
    have : (w.cell? ⟨b, 0 + i * 10 + t, none⟩) = cur[0 + i * 10 + t]? := by
      rw [Array.getElem?_eq_getElem (show 0 + i * 10 + t < cur.size by omega)]
      exact cell_blk hg (Array.getElem?_eq_getElem (by omega))
    show (w.cell? _).isSome = true
    rw [this, Array.getElem?_eq_getElem (by omega)]; rfl)
  obtain ⟨W1, hW1⟩ : ∃ W1, W1 = w.drew.setCells b (0 + i * 10) news := ⟨_, rfl⟩
  have hcl : ∀ ty, (Builtin.clear_ #[31] ty #[.slice (some ⟨b, u * 10, none⟩) 1 (m - u)]).run Try.prog W1 = .ok (.tuple #[]) (W1.setCells b (u * 10) zwL) := fun ty => by
    obtain ⟨cur, hg, hsz⟩ := hblk
    obtain ⟨cur', g1, g2, _, _⟩ := blk_puts news (0 + i * 10) w.drew cur hg (by rw [hN]; omega)
    rw [← hW1] at g1
    refine run_clear_wt W1 ty b (u * 10) (m - u) (fun j hj => ?_) (fun j hj => frozen_blk g1)
    rw [cell_blk g1 (Array.getElem?_eq_getElem (show u * 10 + j < cur'.size by omega))]; rfl
  have HW1 := Lib.hid hW1
  have HE : Hid (W1.setCells b (u * 10) zwL |>.ownsRow B 39 10 (.slice (some ⟨b, 0, none⟩) u m) u ((l.take i ++ l.drop (i + 1)).flatMap wtC)) := Lib.hid (by
    refine own_dropped (w := w.drew) (own_stays h fun _ _ => rfl) hl hi ?_ rfl
    rw [hW1, hnews, Nat.zero_add])
  have HF : Hid (Foot (· = b) w (W1.setCells b (u * 10) zwL)) := Lib.hid (foot_puts (b := b) (F := (· = b)) rfl zwL (u * 10) W1 (by rw [hW1]; exact foot_puts (b := b) (F := (· = b)) rfl news _ _ (Foot.refl _ _).drew))
  have s1 : Hid (news.length = (u - i) * 10) := Lib.hid hN
  have hmm : m ≤ 9223372036854775807 := by unfold maxLen at hmax; omega
  have hiu : i ≤ u := by omega
  have hat0 : atA (some ⟨b, 0, none⟩) 0 m = some ⟨b, 0, none⟩ := by unfold atA; rw [if_neg (by omega), Option.map_some, Addr.add_lit]
  have him : i ≤ m := by omega
  have him1 : i + 1 ≤ m := by omega
  have hne : ¬ ((i : Int) = (i : Int) + 1) := by omega
  clear h HD hblk hW hN hnews hW1 hl hi
  go_enter Try.func35, Try.ntmps35
  go_wp2_with fail
  refine held_begin (fun _ : World => True) (by kernel_rfl) ?_
  have hS : (fun _ : World => True) w.drew := trivial
  refine held_take (v := ?_) 0 20 rfl rfl (by kernel_rfl) (by kernel_rfl) (by kernel_rfl) (fun _ _ _ h => h) ⟨by rfl, ?_⟩ hS ?_
  rotate_left
  · intro w' hw'; go_simp; (try with_reducible rfl)
  simp only [Act.put, List.setIfInBounds_toArray, List.set_cons_zero, List.set_cons_succ]
  refine held_take (v := ?_) 1 21 rfl rfl (by kernel_rfl) (by kernel_rfl) (by kernel_rfl) (fun _ _ _ h => h) ⟨by rfl, ?_⟩ hS ?_
  rotate_left
  · intro w' hw'; go_simp; (try with_reducible rfl)
  simp only [Act.put, List.setIfInBounds_toArray, List.set_cons_zero, List.set_cons_succ]
  refine held_take (v := ?_) 2 22 rfl rfl (by kernel_rfl) (by kernel_rfl) (by kernel_rfl) (fun _ _ _ h => h) ⟨by rfl, ?_⟩ hS ?_
  rotate_left
  · intro w' hw'; refine Eq.trans (run_slice_to (by rfl) (by rfl) (by rfl) him) ?_; (with_reducible rfl)
  simp only [Act.put, List.setIfInBounds_toArray, List.set_cons_zero, List.set_cons_succ]
  refine held_take (v := ?_) 3 23 rfl rfl (by kernel_rfl) (by kernel_rfl) (by kernel_rfl) (fun _ _ _ h => h) ⟨by rfl, ?_⟩ hS ?_
  rotate_left
  · intro w' hw'; go_simp; (try with_reducible rfl)
  simp only [Act.put, List.setIfInBounds_toArray, List.set_cons_zero, List.set_cons_succ]
  refine held_take (v := ?_) 4 24 rfl rfl (by kernel_rfl) (by kernel_rfl) (by kernel_rfl) (fun _ _ _ h => h) ⟨by rfl, ?_⟩ hS ?_
  rotate_left
  · intro w' hw'; go_simp; (try with_reducible rfl)
  simp only [Act.put, List.setIfInBounds_toArray, List.set_cons_zero, List.set_cons_succ]
  refine held_take (v := ?_) 5 25 rfl rfl (by kernel_rfl) (by kernel_rfl) (by kernel_rfl) (fun _ _ _ h => h) ⟨by rfl, ?_⟩ hS ?_
  rotate_left
  · intro w' hw'; refine Eq.trans (run_slice_from (k := i + 1) (by rfl) (by rfl) (by rfl) (by omega)) ?_; (with_reducible rfl)
  simp only [Act.put, List.setIfInBounds_toArray, List.set_cons_zero, List.set_cons_succ]
  refine held_one 6 rfl (by kernel_rfl) (by rfl) (fun K hK => ?_)
  simp only [Go.wp_at_zero, Go.wp_at_succ]
  refine wp_append_room _ _ _ 31 rfl 39 i0 10 Try.underlying31 hi0 hz1 b 0 i m (by simp [Act.eval, hat0]) A (u - i) (m - (i + 1)) news (by rw [← hA]; simp [Act.eval]) s1.out hsrc.out s2.out (by omega) s3.out ?_
  rw [← HW1.out]
  refine hK.out _ _ trivial ?_
  clear hK K
  rw [show i + (u - i) = u by omega]
  simp only [Act.put, List.setIfInBounds_toArray, List.set_cons_zero, List.set_cons_succ]
  refine held_take (S := fun _ : World => True) (v := ?_) 7 0 rfl rfl (by kernel_rfl) (by kernel_rfl) (by kernel_rfl) (fun _ _ _ h => h) ⟨by rfl, ?_⟩ trivial ?_
  rotate_left
  · intro w' hw'; go_simp; (try with_reducible rfl)
  simp only [Act.put, List.setIfInBounds_toArray, List.set_cons_zero]
  refine wpAnyH_done (by kernel_rfl) ?_ _
  go_wp2
  go_ret
  exact ⟨rfl, by have := HE.out; rwa [List.flatMap_append] at this, HF.out⟩
end Go.Proofs.Ytdeniikaddlifaa
