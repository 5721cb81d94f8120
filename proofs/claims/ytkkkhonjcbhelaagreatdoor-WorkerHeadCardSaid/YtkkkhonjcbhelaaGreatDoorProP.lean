import Derived.Test.YtkkkhonjcbhelaaGreatDoorPackO
import Derived.Test.YtkkkhonjcbhelaaGreatDoorProBase
set_option linter.unusedVariables false
namespace Go.Proofs.YtkkkhonjcbhelaaGreatDoor
section
open Go.RowKit
open PK
section
variable {P : Program} {ops : Array Oper} {Q : Exit → Act → World → Prop} {md : Region.Mode} {S : World → Prop} {c : Nat}
theorem until_free_first {i : Nat} {oi : Oper} {v : Value} (hi : ops[i]? = some oi) (hsel : ∀ (j : Nat) (o : Oper) cs b, ops[j]? = some o → o.op ≠ .select cs b)
  (hQ : ∀ ch a w, Q (.panic ch) (a.put oi.dst v) w → Q (.panic ch) a w) (hic : i ≠ c) :
  ∀ (f : Nat) (listed : Array Bool) (a : Act) (w : World),
   (∀ j oj, ops[j]? = some oj → j ≠ i → listed.getD j true = false → (∀ e ∈ oj.after, Region.binds md e = true → e.on ≠ i) → oi.apart ops oj = true) →
   i ∈ Region.ready md ops listed → YieldsIf P ops (fun _ => True) oi v a → ((listed.setIfInBounds i true).getD c true = false → S w) →
   wpUntil P md ops Q S c f (listed.setIfInBounds i true) (a.put oi.dst v) w → wpUntil P md ops Q S c (f + 1) listed a w
 | 0, listed, a, w => fun _ hr hy hS H => by
  refine ⟨fun h => (by rw [h] at hr; cases hr), fun j hj => ?_⟩;by_cases hji : j = i
  ·subst hji; exact hy.wpOp hi trivial ⟨hS, H⟩
  ·have := ready_mono hj hji;rw [H.1] at this
   cases this
 | f + 1, listed, a, w => fun hfree hr hy hS H => by
  refine ⟨fun h => (by rw [h] at hr; cases hr), fun j hj => ?_⟩;by_cases hji : j = i
  ·subst hji; exact hy.wpOp hi trivial ⟨hS, H⟩
  ·have hun := (mem_ready.1 hr).1;obtain ⟨hjun, oj, hoj, hall⟩ := mem_ready.1 hj;have hnot : ∀ e ∈ oj.after, Region.binds md e = true → e.on ≠ i := fun e he hb heq => by
    have h1 := hall e he hb;rw [heq, getD_both hun] at h1
    cases h1
   have h1 := H.2 j (ready_mono hj hji);have h2 := wpOp_putIf hoj (hfree j oj hoj hji hjun hnot) (fun cs b => hsel i oi cs b hi) (fun cs b => hsel j oj cs b hoj) hQ hy h1;have hc3 : (listed.setIfInBounds j true).getD c true = false → ((listed.setIfInBounds i true).setIfInBounds j true).getD c true = false := fun h => by
    by_cases hjc : j = c
    ·subst hjc;have e : (listed.setIfInBounds j true).getD j true = true := by
      by_cases hl : j < listed.size
      ·simp [Array.getD, hl]
      ·simp [Array.getD, hl]
     rw [e] at h
     cases h
    ·rw [getD_set_ne true hjc] at h;rw [getD_set_ne true hjc, getD_set_ne true hic]; exact h
   refine wpOp_mono (fun a' w' h3 => ⟨fun hh => h3.2.1 (hc3 hh), until_free_first hi hsel hQ hic f (listed.setIfInBounds j true) a' w' ?_ (ready_mono hr (Ne.symm hji)) h3.1 ?_ ?_⟩) h2
   ·intro k ok hk hki hku hno;refine hfree k ok hk hki ?_ hno;by_cases hjk : j = k
    ·subst hjk; exact hjun
    ·rw [getD_set_ne true hjk] at hku; exact hku
   ·intro hh;rw [Array.setIfInBounds_comm _ _ hji] at hh;exact h3.2.1 hh
   ·rw [Array.setIfInBounds_comm _ _ hji];exact h3.2.2
theorem until_free (i t : Nat) {oi : Oper} {v : Value} {f : Nat} {listed : Array Bool} {a : Act} {w : World} (hi : ops[i]? = some oi) (ht : oi.dst = some t)
  (hs : Region.noSelect ops = true) (hf : Region.free md ops listed i = true) (hr : (Region.ready md ops listed).contains i = true) (hic : (i != c) = true)
  (hQ : ∀ ch a w, Q (.panic ch) (a.put (some t) v) w → Q (.panic ch) a w) (hy : Region.wanted oi (yielded ops a.tmps) = true ∧ ∀ w, (execOp a.eval oi).run P w = .ok (.value v) w) (hS : (listed.setIfInBounds i true).getD c true = false → S w)
  (h : wpUntil P md ops Q S c f (listed.setIfInBounds i true) (a.put (some t) v) w) : wpUntil P md ops Q S c (f + 1) listed a w := by
 rw [← ht] at hQ h;exact until_free_first hi (Region.noSelect_spec hs) hQ (by simpa using hic) f listed a w (Region.free_spec hi hf) (by simpa using hr) (.inl ⟨hy.1, fun w _ => hy.2 w⟩) hS h
end
def HBlk (E : Nat → Ho) (w : World) (g : Nat) (L : List Nat) : Prop :=
 ∃ cur : Array Value, w.heap[g]? = some (.cells cur 53 (0, 0)) ∧ L.length * 5 ≤ cur.size ∧ cur.toList.take (L.length * 5) = L.flatMap fun i => hoC (E i)
section
variable {E : Nat → Ho} {w w' : World} {g : Nat} {L : List Nat}
theorem HBlk.lt (h : HBlk E w g L) : g < w.heap.size := by obtain ⟨cur, h1, _⟩ := h; exact blk_lt h1
theorem HBlk.of (h : HBlk E w g L) (e : w'.heap[g]? = w.heap[g]?) : HBlk E w' g L := by obtain ⟨cur, h1, h2⟩ := h; exact ⟨cur, e.trans h1, h2⟩
theorem HBlk.keep (h : HBlk E w g L) {B : Nat} (hg : g < B) (hk : Below B w w') : HBlk E w' g L := h.of (hk.block g hg)
theorem HBlk.at_ (h : HBlk E w g L) {i x : Nat} (hi : L[i]? = some x) : HoAt w g (i * 5) (E x) := by
 obtain ⟨cur, h1, h2, h3⟩ := h;have hl := lt_of_get hi;intro r v hr;have hr10 : r < 5 := by have := (List.getElem?_eq_some_iff.1 hr).1; rwa [hoC_len] at this
 refine cell_blk h1 ?_;have e : (cur.toList.take (L.length * 5))[i * 5 + r]? = (L.flatMap fun i => hoC (E i))[i * 5 + r]? := by rw [h3]
 rw [List.getElem?_take, if_pos (by omega), flat_get (C := fun i => hoC (E i)) (k := 5) (fun i => hoC_len (E i)) hi hr10, hr] at e;simpa using e
theorem flat_put (C : Nat → List Value) (hC : ∀ x, (C x).length = 5) : ∀ (L : List Nat) (i x : Nat), i < L.length → (L.set i x).flatMap C = (L.flatMap C).take (i * 5) ++ C x ++ (L.flatMap C).drop (i * 5 + 5)
 | [], i, x, h => by simp at h
 | y :: L, 0, x, _ => by
  rw [List.set_cons_zero, List.flatMap_cons, List.flatMap_cons, Nat.zero_mul, List.take_zero, List.nil_append, Nat.zero_add, List.drop_append, hC, Nat.sub_self, List.drop_zero, List.drop_of_length_le (l := C y) (by rw [hC]; omega), List.nil_append]
 | y :: L, i + 1, x, h => by
  have ih := flat_put C hC L i x (by simpa using h);rw [List.set_cons_succ, List.flatMap_cons, ih, List.flatMap_cons, List.take_append, List.drop_append, hC, show (i + 1) * 5 - 5 = i * 5 by omega, show (i + 1) * 5 + 5 - 5 = i * 5 + 5 by omega,
   List.take_of_length_le (l := C y) (by rw [hC]; omega), List.drop_of_length_le (l := C y) (by rw [hC]; omega)]
  simp
theorem wp_store_ho {oi : Oper} {a : Act} {K : Act → World → Prop} {Q : Exit → Act → World → Prop} {p v : Operand} {i x : Nat} (ho : oi.op = .store 53 p v) (hp : a.eval p = .pointer (some ⟨g, i * 5, none⟩)) (hv : a.eval v = .agg (hoA (E x)))
  (h : HBlk E w g L) (hi : i < L.length) (hK : ∀ w', HBlk E w' g (L.set i x) → Foot (· = g) w w' → K (a.put oi.dst undef) w') : oi.wp Tryz.prog a w K Q := by
 obtain ⟨cur, h1, h2, h3⟩ := h;have hst := run_storeCells_at Tryz.prog g (i * 5) 53 (hoC (E x)) 0 cur w h1 (by rw [hoC_len]; omega) (by simp [hoC, Value.oneCell']);rw [hoC_len, Nat.add_zero] at hst;obtain ⟨cs, hcs⟩ := nx ((cur.toList.take (i * 5) ++ hoC (E x) ++ cur.toList.drop (i * 5 + 5)).toArray);rw [← hcs] at hst;have hb := setRow_heap w g cur cs _ _ h1;have hrun : (execOp a.eval oi).run Tryz.prog w = .ok .skip (w.setRow g cs) := by
  unfold execOp;have hsz : (hoA (E x)).size = 5 := rfl;have hl : (hoA (E x)).toList = hoC (E x) := rfl;simp only [ho, hp, hv, Instr.storeAt, Instr.sureAddr, Sem.run_bind, Sem.run_pure, Result.andThen_ok, storeVar, Tryz.sizeOf53, Value.cells, hsz, hl, ne_eq, not_true_eq_false, if_false, hst]
 unfold Oper.wp;rw [hrun, Oper.upon_skip];refine hK _ ⟨cs, hb, ?_, ?_⟩ ⟨rfl, rfl, rfl, by simp, fun k _ hk => setRow_other w g k cs hk⟩
 ·rw [hcs, List.length_set];simp [hoC_len];omega
 ·rw [List.length_set, flat_put (fun i => hoC (E i)) (fun i => hoC_len (E i)) L i x hi, ← h3, hcs];have e1 : i * 5 + 5 ≤ L.length * 5 := by omega
  rw [List.take_take, Nat.min_eq_left (by omega)];simp only;rw [List.append_assoc, List.append_assoc, List.take_append, List.take_append, List.length_take, hoC_len];have h4 : min (i * 5) cur.toList.length = i * 5 := Nat.min_eq_left (by simp; omega);rw [h4, List.take_take, Nat.min_eq_right (by omega), List.take_of_length_le (l := hoC (E x)) (by rw [hoC_len]; omega), List.drop_take, show L.length * 5 - i * 5 - 5 = L.length * 5 - (i * 5 + 5) by omega]
end
def CmpH (E : Nat → Ho) (g n : Nat) (v0 : Value) (cv : Nat → Nat → Int) (w0 : World) : Prop :=
 ∀ W, Foot (· = g) w0 W → ∀ x y, x < n → y < n → Calls Tryz.prog 109 #[.agg (hoA (E x)), .agg (hoA (E y))] W fun e w' => e = .returned (.int .i64 (cv x y)) ∧ Below W.heap.size W w'
theorem CmpH.at_ {E : Nat → Ho} {g n : Nat} {v0 : Value} {cv : Nat → Nat → Int} {w0 w W : World} (h : CmpH E g n v0 cv w0) (h0 : Foot (· = g) w0 w) (hW : Foot (· = g) w W) {x y : Nat} (hx : x < n) (hy : y < n) :
  Calls Tryz.prog 109 #[.agg (hoA (E x)), .agg (hoA (E y))] W fun e w' => e = .returned (.int .i64 (cv x y)) ∧ Below W.heap.size W w' := h _ (h0.trans hW fun _ h => .inl h) x y hx hy
end
set_option linter.unusedVariables false
section
open Go.RowKit
open PK
set_option maxRecDepth 100000 in
set_option maxHeartbeats 2000000 in
theorem hswaprange_any (E : Nat → Ho) (cp : Nat) (g N a b n : Nat) (P X M Y S : List Nat) (fv : Value) (w : World) (hX : X.length = n) (hY : Y.length = n) (ha : P.length = a) (hb : P.length + X.length + M.length = b) (hN : P.length + X.length + M.length + Y.length + S.length = N) (hNl : N ≤ 1000000) (hB : HBlk E w g (P ++ X ++ M ++ Y ++ S)) :
  Calls Tryz.prog 121 #[.slice (some ⟨g, 0, none⟩) N cp, .int .i64 (a : Nat), .int .i64 (b : Nat), .int .i64 (n : Nat), fv] w fun e w' => e = .returned (.tuple #[]) ∧ Foot (· = g) w w' ∧ HBlk E w' g (P ++ Y ++ M ++ X ++ S) := by
 have H := Hq (Ai hX (Ai hY (Ai ha (Ai hb hN))));have hab : a + n ≤ N := by omega
 have hbn : b + n ≤ N := by omega
 have hB0 : HBlk E w g (swapSt P X M Y S 0) := by rw [swapSt_zero]; exact hB
 have HB := Hq hB0;have HF := Hq (Foot.refl (· = g) w);clear hX hY ha hb hN hB hB0;go_enter Tryz.func121, Tryz.ntmps121;go_wp2;go_loopw [10] (fun i wr => ∃ k : Nat, i = .int .i64 k ∧ k ≤ n ∧ Hid (Foot (· = g) w wr) ∧ Hid (HBlk E wr g (swapSt P X M Y S k))) (fun i _ => n - (intOf i).toNat)
 case atStart => exact ⟨0, rfl, by omega, HF, HB⟩
 case round =>
  clear HB HF;obtain ⟨k, rfl, hk, hF, hBk⟩ := hrel;by_cases hlt : k < n
  ·obtain ⟨x, hx⟩ := get_of_lt (L := X) (k := k) (by rw [H.out.1]; exact hlt);obtain ⟨y, hy⟩ := get_of_lt (L := Y) (k := k) (by rw [H.out.2.1]; exact hlt);obtain ⟨ia, hia⟩ := nx (a + k);obtain ⟨ib, hib⟩ := nx (b + k);obtain ⟨s1, s2, s3⟩ := swapSt_step (P := P) (M := M) (S := S) (a := ia) (b := ib) hx hy (by have := H.out; omega) (by have := H.out; omega);have c1 := hBk.out.at_ s1;have c2 := hBk.out.at_ s2;have l1 := lt_of_get s1;have l2 := lt_of_get s2;have wa : IntKind.i64.wrap ((a : Int) + (k : Int)) = (ia : Int) := by rw [IntWalk.i64_in _ (by omega)]; omega
   have wb : IntKind.i64.wrap ((b : Int) + (k : Int)) = (ib : Int) := by rw [IntWalk.i64_in _ (by omega)]; omega
   have la : ia < N := (by omega);have lb : ib < N := (by omega);have HBW := hBk.out;have HFW := hF.out;have N1 : Hid (∀ w', HBlk E w' g (((swapSt P X M Y S k).set ia y).set ib x) → HBlk E w' g (swapSt P X M Y S (k + 1))) := Hq (fun w' h => by rw [← s3]; exact h);have ea : ((a : Int) + (k : Int)).toNat = ia := (by omega);have eb : ((b : Int) + (k : Int)).toNat = ib := (by omega);have p1 : (0 : Int) ≤ (a : Int) + (k : Int) := (by omega);have p2 : (a : Int) + (k : Int) < (N : Int) := (by omega);have p3 : (0 : Int) ≤ (b : Int) + (k : Int) := (by omega);have p4 : (b : Int) + (k : Int) < (N : Int) := (by omega);have t1 : decide (k < n) = true := by simpa using hlt
   clear s1 s2 s3 hx hy hia hib hBk hF;go_wp2_with fail;refine wp_until (fun w' : World => HoAt w' g (ia * 5) (E x) ∧ HoAt w' g (ib * 5) (E y)) 21 (by kernel_rfl) ?_;have hS0 := Ai c1 c2;refine until_free (v := ?_) 0 16 rfl rfl (by kernel_rfl) (by kernel_rfl) (by kernel_rfl) (by kernel_rfl) (fun _ _ _ h => h) ⟨by rfl, ?_⟩ (fun _ => hS0) ?_;rotate_left
   ·intro w'; go_simp; (try with_reducible rfl)
   simp only [Act.put, pzA, pzB, pzC];refine until_free (v := ?_) 1 17 rfl rfl (by kernel_rfl) (by kernel_rfl) (by kernel_rfl) (by kernel_rfl) (fun _ _ _ h => h) ⟨by rfl, ?_⟩ (fun _ => hS0) ?_;rotate_left
   ·intro w'; go_simp; (try with_reducible rfl)
   simp only [Act.put, pzA, pzB, pzC];refine until_free (v := ?_) 2 18 rfl rfl (by kernel_rfl) (by kernel_rfl) (by kernel_rfl) (by kernel_rfl) (fun _ _ _ h => h) ⟨by rfl, ?_⟩ (fun _ => hS0) ?_;rotate_left
   ·intro w'; go_simp; (try with_reducible rfl)
   simp only [Act.put, pzA, pzB, pzC];refine until_free (v := ?_) 3 19 rfl rfl (by kernel_rfl) (by kernel_rfl) (by kernel_rfl) (by kernel_rfl) (fun _ _ _ h => h) ⟨by rfl, ?_⟩ (fun _ => hS0) ?_;rotate_left
   ·intro w'; go_simp; (try with_reducible rfl)
   simp only [Act.put, pzA, pzB, pzC];refine until_free (v := ?_) 4 20 rfl rfl (by kernel_rfl) (by kernel_rfl) (by kernel_rfl) (by kernel_rfl) (fun _ _ _ h => h) ⟨by rfl, ?_⟩ (fun _ => hS0) ?_;rotate_left
   ·intro w'; go_simp; (try with_reducible rfl)
   simp only [Act.put, pzA, pzB, pzC];refine until_free (v := ?_) 5 21 rfl rfl (by kernel_rfl) (by kernel_rfl) (by kernel_rfl) (by kernel_rfl) (fun _ _ _ h => h) ⟨by rfl, ?_⟩ (fun _ => hS0) ?_;rotate_left
   ·intro w'; go_simp; (try with_reducible rfl)
   simp only [Act.put, pzA, pzB, pzC];refine until_free (v := ?_) 6 22 rfl rfl (by kernel_rfl) (by kernel_rfl) (by kernel_rfl) (by kernel_rfl) (fun _ _ _ h => h) ⟨by rfl, ?_⟩ (fun _ => hS0) ?_;rotate_left
   ·intro w'; go_simp; (try with_reducible rfl)
   simp only [Act.put, pzA, pzB, pzC];refine until_free (v := ?_) 7 23 rfl rfl (by kernel_rfl) (by kernel_rfl) (by kernel_rfl) (by kernel_rfl) (fun _ _ _ h => h) ⟨by rfl, ?_⟩ (fun _ => hS0) ?_;rotate_left
   ·intro w'; go_simp; (try with_reducible rfl)
   simp only [Act.put, pzA, pzB, pzC];refine until_free (v := ?_) 8 24 rfl rfl (by kernel_rfl) (by kernel_rfl) (by kernel_rfl) (by kernel_rfl) (fun _ _ _ h => h) ⟨by rfl, ?_⟩ (fun _ => hS0) ?_;rotate_left
   ·intro w'; go_simp; (try with_reducible rfl)
   simp only [Act.put, pzA, pzB, pzC];refine until_free (v := ?_) 9 25 rfl rfl (by kernel_rfl) (by kernel_rfl) (by kernel_rfl) (by kernel_rfl) (fun _ _ _ h => h) ⟨by rfl, ?_⟩ (fun _ => hS0) ?_;rotate_left
   ·intro w'; go_simp; (try with_reducible rfl)
   simp only [Act.put, pzA, pzB, pzC];refine until_free (v := ?_) 10 26 rfl rfl (by kernel_rfl) (by kernel_rfl) (by kernel_rfl) (by kernel_rfl) (fun _ _ _ h => h) ⟨by rfl, ?_⟩ (fun _ => hS0) ?_;rotate_left
   ·intro w'; go_simp; (try with_reducible rfl)
   simp only [Act.put, pzA, pzB, pzC];refine until_free (v := ?_) 11 27 rfl rfl (by kernel_rfl) (by kernel_rfl) (by kernel_rfl) (by kernel_rfl) (fun _ _ _ h => h) ⟨by rfl, ?_⟩ (fun _ => hS0) ?_;rotate_left
   ·intro w'; go_simp; (try with_reducible rfl)
   simp only [Act.put, pzA, pzB, pzC];refine until_free (v := ?_) 12 28 rfl rfl (by kernel_rfl) (by kernel_rfl) (by kernel_rfl) (by kernel_rfl) (fun _ _ _ h => h) ⟨by rfl, ?_⟩ (fun _ => hS0) ?_;rotate_left
   ·intro w'; go_simp; (try with_reducible rfl)
   simp only [Act.put, pzA, pzB, pzC];refine tkU ?_ 13 29 ?_ hS0 ?_;rotate_left
   ·rintro w' ⟨x0, x1⟩;refine Eq.trans (run_load_ho (by rfl) (by rfl) x1) ?_;(with_reducible rfl)
   simp only [Act.put, pzA, pzB, pzC];refine until_free (v := ?_) 14 30 rfl rfl (by kernel_rfl) (by kernel_rfl) (by kernel_rfl) (by kernel_rfl) (fun _ _ _ h => h) ⟨by rfl, ?_⟩ (fun _ => hS0) ?_;rotate_left
   ·intro w'; go_simp; (try with_reducible rfl)
   simp only [Act.put, pzA, pzB, pzC];refine until_free (v := ?_) 15 31 rfl rfl (by kernel_rfl) (by kernel_rfl) (by kernel_rfl) (by kernel_rfl) (fun _ _ _ h => h) ⟨by rfl, ?_⟩ (fun _ => hS0) ?_;rotate_left
   ·intro w'; go_simp; (try with_reducible rfl)
   simp only [Act.put, pzA, pzB, pzC];refine until_free (v := ?_) 16 32 rfl rfl (by kernel_rfl) (by kernel_rfl) (by kernel_rfl) (by kernel_rfl) (fun _ _ _ h => h) ⟨by rfl, ?_⟩ (fun _ => hS0) ?_;rotate_left
   ·intro w'; go_simp; (try with_reducible rfl)
   simp only [Act.put, pzA, pzB, pzC];refine until_free (v := ?_) 17 33 rfl rfl (by kernel_rfl) (by kernel_rfl) (by kernel_rfl) (by kernel_rfl) (fun _ _ _ h => h) ⟨by rfl, ?_⟩ (fun _ => hS0) ?_;rotate_left
   ·intro w'; go_simp; (try with_reducible rfl)
   simp only [Act.put, pzA, pzB, pzC];refine until_free (v := ?_) 18 34 rfl rfl (by kernel_rfl) (by kernel_rfl) (by kernel_rfl) (by kernel_rfl) (fun _ _ _ h => h) ⟨by rfl, ?_⟩ (fun _ => hS0) ?_;rotate_left
   ·intro w'; go_simp; (try with_reducible rfl)
   simp only [Act.put, pzA, pzB, pzC];refine tkU ?_ 19 35 ?_ hS0 ?_;rotate_left
   ·rintro w' ⟨x0, x1⟩;refine Eq.trans (run_load_ho (by rfl) (by rfl) x0) ?_;(with_reducible rfl)
   simp only [Act.put, pzA, pzB, pzC];refine until_free (v := ?_) 20 36 rfl rfl (by kernel_rfl) (by kernel_rfl) (by kernel_rfl) (by kernel_rfl) (fun _ _ _ h => h) ⟨by rfl, ?_⟩ (fun _ => hS0) ?_;rotate_left
   ·intro w'; go_simp; (try with_reducible rfl)
   simp only [Act.put, pzA, pzB, pzC];refine until_one 21 rfl (by kernel_rfl) rfl (fun K hK => ?_);refine wp_store_ho (x := y) rfl (by rfl) (by rfl) HBW l1 (fun ws1 hBs1 hFs1 => ?_);refine hK.out _ _ (fun h => absurd h (by decide)) ?_;clear hK K;try simp only [Act.put]
   refine until_one 22 rfl (by kernel_rfl) rfl (fun K hK => ?_);go_simp;refine hK.out _ _ (fun h => absurd h (by decide)) ?_;clear hK K;try simp only [Act.put, pzA, pzB, pzC]
   refine until_one 23 rfl (by kernel_rfl) rfl (fun K hK => ?_);refine wp_store_ho (x := x) rfl (by rfl) (by rfl) hBs1 (by rw [List.length_set]; exact l2) (fun W hBs2 hFs2 => ?_);refine hK.out _ _ (fun h => absurd h (by decide)) ?_;clear hK K;try simp only [Act.put]
   refine until_done (by kernel_rfl) ?_;have N1' : Hid (HBlk E W g (swapSt P X M Y S (k + 1))) := Hq (N1.out _ hBs2);have N2' : Hid (Foot (· = g) w W) := Hq ((HFW.drew.trans hFs1 fun _ h => .inl h).trans hFs2 fun _ h => .inl h);clear N1 hBs2 hBs1 hFs1 hFs2 HBW HFW c1 c2 hS0 l1 l2;go_wp2
   go_roundw
   case rel => exact ⟨k + 1, by go_num, by omega, N2', N1'⟩
   case measure => simp [intOf]; omega
  ·obtain rfl : k = n := by omega
   clear hlt;go_wp2
   go_end0
   refine ⟨rfl, hF.out, ?_⟩;have := hBk.out;rw [← H.out.2.1, swapSt_all (by rw [H.out.1, H.out.2.1])] at this;exact this
set_option maxRecDepth 100000 in
set_option maxHeartbeats 2000000 in
theorem hrotate_any (E : Nat → Ho) (cp : Nat) (g N a m b : Nat) (P X Y S : List Nat) (fv : Value) (w : World) (hX : 0 < X.length) (hY : 0 < Y.length) (ha : P.length = a) (hm : P.length + X.length = m) (hb : P.length + X.length + Y.length = b) (hN : P.length + X.length + Y.length + S.length = N) (hNl : N ≤ 1000000) (hB : HBlk E w g (P ++ X ++ Y ++ S)) :
  Calls Tryz.prog 120 #[.slice (some ⟨g, 0, none⟩) N cp, .int .i64 (a : Nat), .int .i64 (m : Nat), .int .i64 (b : Nat), fv] w fun e w' => e = .returned (.tuple #[]) ∧ Foot (· = g) w w' ∧ HBlk E w' g (P ++ Y ++ X ++ S) := by
 obtain ⟨T, hT⟩ := nx (P ++ Y ++ X ++ S);rw [← hT];have HST : Hid (∃ P' X' Y' S' : List Nat, HBlk E w g (P' ++ X' ++ Y' ++ S') ∧ P'.length + X'.length = m ∧ X'.length = m - a ∧ Y'.length = b - m ∧ m + Y'.length + S'.length = N ∧ P' ++ Y' ++ X' ++ S' = T) := Hq ⟨P, X, Y, S, hB, hm, by omega, by omega, by omega, hT.symm⟩;have hma : a < m := by omega
 have hmb : m < b := by omega
 have hbN : b ≤ N := by omega
 have e1 : (m : Int) - (a : Int) = ((m - a : Nat) : Int) := by omega
 have e2 : (b : Int) - (m : Int) = ((b - m : Nat) : Int) := by omega
 obtain ⟨i0, hi0⟩ := nx (m - a);obtain ⟨j0, hj0⟩ := nx (b - m);rw [← hi0] at e1 HST;rw [← hj0] at e2 HST;have q1 : 0 < i0 := by omega
 have q2 : 0 < j0 := by omega
 have q3 : i0 ≤ m := by omega
 have q4 : m + j0 ≤ N := by omega
 have HF := Hq (Foot.refl (· = g) w);have HS := Hq (fun (a b n : Nat) P X M Y S W => hswaprange_any E cp g N a b n P X M Y S fv W);clear hT hX hY ha hm hb hN hB hi0 hj0 hma hmb hbN;go_enter Tryz.func120, Tryz.ntmps120;go_wp2;go_loopw [10, 11] (fun vi vj wr => ∃ i j : Nat, vi = .int .i64 i ∧ vj = .int .i64 j ∧ 0 < i ∧ 0 < j ∧ i ≤ m ∧ m + j ≤ N ∧ Hid (Foot (· = g) w wr) ∧ Hid (∃ P' X' Y' S' : List Nat, HBlk E wr g (P' ++ X' ++ Y' ++ S') ∧ P'.length + X'.length = m ∧ X'.length = i ∧ Y'.length = j ∧ m + Y'.length + S'.length = N ∧ P' ++ Y' ++ X' ++ S' = T)) (fun vi vj _ => (intOf vi).toNat + (intOf vj).toNat)
 case atStart => exact ⟨i0, j0, by go_num, by go_num, q1, q2, q3, q4, HF, HST⟩
 case round =>
  clear HF HST;obtain ⟨i, j, rfl, rfl, hi, hj, him, hjm, hF, hS⟩ := hrel;have r1 : (m : Int) - (i : Int) = ((m - i : Nat) : Int) := by omega
  rcases Nat.lt_trichotomy i j with hij | hij | hij
  ·have r2 : (m : Int) + (j : Int) - (i : Int) = ((m + j - i : Nat) : Int) := (by omega);have r3 : (j : Int) - (i : Int) = ((j - i : Nat) : Int) := (by omega);obtain ⟨mi, hmi⟩ := nx (m - i);obtain ⟨mj, hmj⟩ := nx (m + j - i);obtain ⟨ji, hji⟩ := nx (j - i);rw [← hmi] at r1;rw [← hmj] at r2;rw [← hji] at r3;have hC : Hid (Calls Tryz.prog 121 #[.slice (some ⟨g, 0, none⟩) N cp, .int .i64 (mi : Nat), .int .i64 (mj : Nat), .int .i64 (i : Nat), fv] wr fun e w' => e = .returned (.tuple #[]) ∧ Foot (· = g) wr w' ∧ Hid (∃ P' X' Y' S' : List Nat, HBlk E w' g (P' ++ X' ++ Y' ++ S') ∧ P'.length + X'.length = m ∧ X'.length = i ∧ Y'.length = ji ∧ m + Y'.length + S'.length = N ∧ P' ++ Y' ++ X' ++ S' = T)) := Hq (by
    obtain ⟨P', X', Y', S', h1, h2, h3, h4, h5, h6⟩ := hS.out;have hy : Y'.take ji ++ Y'.drop ji = Y' := List.take_append_drop _ _;have l1 : (Y'.take ji).length = ji := by rw [List.length_take]; omega
    have l2 : (Y'.drop ji).length = i := by rw [List.length_drop]; omega
    refine (HS.out mi mj i P' X' (Y'.take ji) (Y'.drop ji) S' wr h3 l2 (by omega) (by omega) (by omega) hNl (by rw [List.append_assoc (P' ++ X'), hy]; exact h1)).mono ?_;rintro e w' ⟨he, hf, hb⟩;refine ⟨he, hf, Hq ⟨P', Y'.drop ji, Y'.take ji, X' ++ S', by simpa using hb, by omega, l2, l1, by rw [List.length_append]; omega, ?_⟩⟩;rw [← h6, List.append_assoc P' (Y'.take ji), hy]; simp)
   clear hS hmi hmj;have t1 : decide ((j : Int) < (i : Int)) = false := decide_eq_false (by omega);have t2 : ((i : Int) == (j : Int)) = false := beq_eq_false_iff_ne.2 (by omega);go_wp2_with (go_at_call 121; refine hC.out.mono ?_; rintro e w1 ⟨rfl, hf1, hs1⟩)
   go_roundw
   case rel => exact ⟨i, ji, rfl, by go_num, by omega, by omega, by omega, by omega, Hq (hF.out.trans hf1 fun _ h => .inl h), hs1⟩
   case measure => simp [intOf]; omega
  ·subst hij;have hC : Hid (Calls Tryz.prog 121 #[.slice (some ⟨g, 0, none⟩) N cp, .int .i64 ((m - i : Nat) : Int), .int .i64 (m : Nat), .int .i64 (i : Nat), fv] wr fun e w' => e = .returned (.tuple #[]) ∧ Foot (· = g) wr w' ∧ HBlk E w' g T) := Hq (by
    obtain ⟨P', X', Y', S', h1, h2, h3, h4, h5, h6⟩ := hS.out;refine (HS.out (m - i) m i P' X' [] Y' S' wr h3 h4 (by omega) (by simp; omega) (by simp; omega) hNl (by simpa using h1)).mono ?_;rintro e w' ⟨he, hf, hb⟩;exact ⟨he, hf, by rw [← h6]; simpa using hb⟩)
   obtain ⟨mi, hmi⟩ := nx (m - i);rw [← hmi] at hC r1;clear hS hmi;go_wp2_with (go_at_call 121; refine hC.out.mono ?_; rintro e w1 ⟨rfl, hf1, hs1⟩)
   go_end0
   exact ⟨rfl, hF.out.trans hf1 fun _ h => .inl h, hs1⟩
  ·have r3 : (i : Int) - (j : Int) = ((i - j : Nat) : Int) := (by omega);obtain ⟨mi, hmi⟩ := nx (m - i);obtain ⟨ji, hji⟩ := nx (i - j);rw [← hmi] at r1;rw [← hji] at r3;have hC : Hid (Calls Tryz.prog 121 #[.slice (some ⟨g, 0, none⟩) N cp, .int .i64 (mi : Nat), .int .i64 (m : Nat), .int .i64 (j : Nat), fv] wr fun e w' => e = .returned (.tuple #[]) ∧ Foot (· = g) wr w' ∧ Hid (∃ P' X' Y' S' : List Nat, HBlk E w' g (P' ++ X' ++ Y' ++ S') ∧ P'.length + X'.length = m ∧ X'.length = ji ∧ Y'.length = j ∧ m + Y'.length + S'.length = N ∧ P' ++ Y' ++ X' ++ S' = T)) := Hq (by
    obtain ⟨P', X', Y', S', h1, h2, h3, h4, h5, h6⟩ := hS.out;have hx : X'.take j ++ X'.drop j = X' := List.take_append_drop _ _;have l1 : (X'.take j).length = j := by rw [List.length_take]; omega
    have l2 : (X'.drop j).length = ji := by rw [List.length_drop]; omega
    refine (HS.out mi m j P' (X'.take j) (X'.drop j) Y' S' wr l1 h4 (by omega) (by omega) (by omega) hNl (by rw [List.append_assoc P', hx]; exact h1)).mono ?_;rintro e w' ⟨he, hf, hb⟩;refine ⟨he, hf, Hq ⟨P' ++ Y', X'.drop j, X'.take j, S', hb, by rw [List.length_append]; omega, l2, l1, by omega, ?_⟩⟩;rw [← h6]
    conv => rhs; rw [← hx]
    simp)
   clear hS hmi;have t1 : decide ((j : Int) < (i : Int)) = true := decide_eq_true (by omega);have t2 : ((i : Int) == (j : Int)) = false := beq_eq_false_iff_ne.2 (by omega);go_wp2_with (go_at_call 121; refine hC.out.mono ?_; rintro e w1 ⟨rfl, hf1, hs1⟩)
   go_roundw
   case rel => exact ⟨ji, j, by go_num, rfl, by omega, by omega, by omega, by omega, Hq (hF.out.trans hf1 fun _ h => .inl h), hs1⟩
   case measure => simp [intOf]; omega
end
set_option linter.unusedVariables false
section
open Go.RowKit
namespace HK
open PK
def ltC (cv : Nat → Nat → Int) (x y : Nat) : Bool := decide (cv x y < 0)
theorem get_pre {P X S : List Nat} {k i : Nat} (h : i = P.length + k) (hk : k < X.length) : (P ++ X ++ S)[i]? = X[k]? := by
 subst h;rw [List.append_assoc, List.getElem?_append_right (by omega), Nat.add_sub_cancel_left, List.getElem?_append_left hk]
theorem foot_then {g : Nat} {w W V : World} (h : Foot (· = g) w W) (k : Below W.heap.size W V) : Foot (· = g) w V := h.trans (Foot.of_below (F := fun _ => False) k) fun _ hf => hf.elim
theorem mem_of_get {L : List Nat} {i x : Nat} (h : L[i]? = some x) : x ∈ L := List.mem_of_getElem? h
end HK
open PK HK
set_option maxRecDepth 100000 in
set_option maxHeartbeats 2000000 in
theorem hsym_left (E : Nat → Ho) (cp : Nat) (key : Nat → Nat) (g N n a m b : Nat) (v0 : Value) (cv : Nat → Nat → Int) (w0 : World) (P Y S : List Nat) (x : Nat) (w : World) (hC : CmpH E g n v0 cv w0) (hF0 : Foot (· = g) w0 w) (hx : x < n) (hYn : ∀ y ∈ Y, y < n)
  (hr : Rel key (ltC cv) [x] Y) (hY : Asc key Y) (ha : P.length = a) (hm : P.length + 1 = m) (hb : P.length + 1 + Y.length = b) (hN : P.length + 1 + Y.length + S.length = N) (hNl : N ≤ 1000000) (hB : HBlk E w g (P ++ [x] ++ Y ++ S)) :
  Calls Tryz.prog 119 #[.slice (some ⟨g, 0, none⟩) N cp, .int .i64 (a : Nat), .int .i64 (m : Nat), .int .i64 (b : Nat), .func (.func 109) #[] #[]] w fun e w' =>
   e = .returned (.tuple #[]) ∧ Foot (· = g) w w' ∧ Hid (∃ Z, HBlk E w' g (P ++ Z ++ S) ∧ Z.Perm ([x] ++ Y) ∧ Asc key Z) := by
 have H := Hq (Ai hC (Ai hF0 (Ai hx (Ai hYn (Ai hr (Ai hY (Ai ha (Ai hm (Ai hb hN)))))))));have HB := Hq hB;have HF := Hq (Foot.refl (· = g) w);have hma : m = a + 1 := by omega
 have hmb : m ≤ b := by omega
 have hNb : b ≤ N := by omega
 have t0 : ((m : Int) - (a : Int) == 1) = true := beq_iff_eq.2 (by omega);clear hC hF0 hx hYn hr hY ha hm hb hN hB;have Hma := Hq hma;have hma2 : a < m := by omega
 clear hma;go_enter Tryz.func119, Tryz.ntmps119;go_wp2;go_loopw [10, 11] (fun vi vj wr => ∃ i j : Nat, vi = .int .i64 (i : Nat) ∧ vj = .int .i64 (j : Nat) ∧ m ≤ i ∧ i ≤ j ∧ j ≤ b ∧ Hid (Foot (· = g) w wr) ∧ Hid (HBlk E wr g (P ++ [x] ++ Y ++ S)) ∧ Hid ((i = m ∨ ∀ y, Y[i - m - 1]? = some y → key y ≤ key x) ∧ (j = b ∨ ∀ y, Y[j - m]? = some y → key x ≤ key y))) (fun vi vj _ => (intOf vj).toNat - (intOf vi).toNat)
 case atStart => exact ⟨m, b, rfl, rfl, Nat.le_refl _, hmb, Nat.le_refl _, HF, HB, Hq ⟨.inl rfl, .inl rfl⟩⟩
 case round =>
  clear HB HF;obtain ⟨i, j, rfl, rfl, hmi, hij, hjb, hF, hBk, hI⟩ := hrel;by_cases hlt : i < j
  ·obtain ⟨h, hh⟩ := nx ((i + j) / 2);have em : ((i : Int) + (j : Int)) / 2 = (h : Int) := (by omega);have h1 : i ≤ h := (by omega);have h2 : h < j := (by omega);have h3 : h < b := (by omega);obtain ⟨y, hy⟩ := get_of_lt (L := Y) (k := h - m) (by have := H.out; omega);have hLy : (P ++ [x] ++ Y ++ S)[h]? = some y := by
    rw [get_pre (P := P ++ [x]) (k := h - m) (by have := H.out.2.2.2.2.2.2.2.1; simp; omega) (lt_of_get hy)]; exact hy
   have hLx : (P ++ [x] ++ Y ++ S)[a]? = some x := by
    rw [show a = P.length from H.out.2.2.2.2.2.2.1.symm]; simp
   have c1 := hBk.out.at_ hLy;have c2 := hBk.out.at_ hLx;have hc := fun W (hb : Below wr.heap.size wr W) => H.out.1.at_ H.out.2.1 (foot_then hF.out hb) (H.out.2.2.2.1 y (mem_of_get hy)) H.out.2.2.1
   have lg := hBk.out.lt;have hrel := H.out.2.2.2.2.1 x (by simp) y (mem_of_get hy);have j1 : (h : Int) < (N : Int) := (by omega);have j2 : (a : Int) < (N : Int) := (by omega);have t1 : decide ((i : Int) < (j : Int)) = true := decide_eq_true (by omega);clear hh;clear hLx hLy;go_wp2_with fail;(try simp only [em]);clear em
   cases hd : decide (cv y x < 0) with
   | true =>
    have hk : key y ≤ key x := by unfold ltC at hrel; rw [hd] at hrel; have := of_decide_eq_true hrel.symm; omega
    have HK := Hq (show ∀ y', Y[h + 1 - m - 1]? = some y' → key y' ≤ key x by
     intro y' hy';rw [show h + 1 - m - 1 = h - m by omega, hy] at hy'; cases hy'; exact hk)
    clear hrel hy hk;refine held_begin (fun w' : World => HoAt w' g (h * 5) (E y) ∧ HoAt w' g (a * 5) (E x)) (by kernel_rfl) ?_;have hBq0 : Below wr.heap.size wr wr.drew := (Below.refl _ _).drew;have hSq0 := Ai c1 c2;refine tkA 0 40 hSq0 ?_;refine tkA 1 41 hSq0 ?_;refine tkA 2 42 hSq0 ?_;refine tkA 3 43 hSq0 ?_;refine tkH ?_ 4 44 ?_ hSq0 ?_;rotate_left
    ·rintro w' ⟨x0, x1⟩;refine Eq.trans (run_load_ho (by rfl) (by rfl) x0) ?_;(with_reducible rfl)
    simp only [Act.put, pzA, pzB, pzC];refine tkA 5 45 hSq0 ?_;refine tkA 6 46 hSq0 ?_;refine tkA 7 47 hSq0 ?_;refine tkH ?_ 8 48 ?_ hSq0 ?_;rotate_left
    ·rintro w' ⟨x0, x1⟩;refine Eq.trans (run_load_ho (by rfl) (by rfl) x1) ?_;(with_reducible rfl)
    simp only [Act.put, pzA, pzB, pzC];refine held_one 9 rfl (by kernel_rfl) (by rfl) (fun K hK => ?_);go_simp
    go_at_call 109
    refine (hc wr.drew hBq0).mono ?_;rintro e wq1 ⟨rfl, hbq1⟩;have hBq1 : Below wr.heap.size wr wq1 := below_step hBq0 hbq1;have hSq1 := Ai (c1.keep lg hBq1) (c2.keep lg hBq1);refine hK.out _ _ hSq1 ?_;clear hK K;refine tkA 10 50 hSq1 ?_;refine wpAnyH_done (by kernel_rfl) ?_ _;have hF1 : Hid (Foot (· = g) w wq1) := Hq (foot_then hF.out hBq1);have hB1 : Hid (HBlk E wq1 g (P ++ [x] ++ Y ++ S)) := Hq (hBk.out.keep lg hBq1);clear c1 c2 hc hd hF hBk lg hBq0 hSq0 hbq1 hBq1 hSq1;go_wp2
    go_roundw
    case rel => exact ⟨h + 1, j, by go_num, rfl, by omega, by omega, hjb, hF1, hB1, Hq ⟨.inr HK.out, hI.out.2⟩⟩
    case measure => simp [intOf]; omega
   | false =>
    have hk : key x ≤ key y := by unfold ltC at hrel; rw [hd] at hrel; have := of_decide_eq_false hrel.symm; omega
    have HK := Hq (show ∀ y', Y[h - m]? = some y' → key x ≤ key y' by
     intro y' hy';rw [hy] at hy'; cases hy'; exact hk)
    clear hrel hy hk;refine held_begin (fun w' : World => HoAt w' g (h * 5) (E y) ∧ HoAt w' g (a * 5) (E x)) (by kernel_rfl) ?_;have hBq0 : Below wr.heap.size wr wr.drew := (Below.refl _ _).drew;have hSq0 := Ai c1 c2;refine tkA 0 40 hSq0 ?_;refine tkA 1 41 hSq0 ?_;refine tkA 2 42 hSq0 ?_;refine tkA 3 43 hSq0 ?_;refine tkH ?_ 4 44 ?_ hSq0 ?_;rotate_left
    ·rintro w' ⟨x0, x1⟩;refine Eq.trans (run_load_ho (by rfl) (by rfl) x0) ?_;(with_reducible rfl)
    simp only [Act.put, pzA, pzB, pzC];refine tkA 5 45 hSq0 ?_;refine tkA 6 46 hSq0 ?_;refine tkA 7 47 hSq0 ?_;refine tkH ?_ 8 48 ?_ hSq0 ?_;rotate_left
    ·rintro w' ⟨x0, x1⟩;refine Eq.trans (run_load_ho (by rfl) (by rfl) x1) ?_;(with_reducible rfl)
    simp only [Act.put, pzA, pzB, pzC];refine held_one 9 rfl (by kernel_rfl) (by rfl) (fun K hK => ?_);go_simp
    go_at_call 109
    refine (hc wr.drew hBq0).mono ?_;rintro e wq1 ⟨rfl, hbq1⟩;have hBq1 : Below wr.heap.size wr wq1 := below_step hBq0 hbq1;have hSq1 := Ai (c1.keep lg hBq1) (c2.keep lg hBq1);refine hK.out _ _ hSq1 ?_;clear hK K;refine tkA 10 50 hSq1 ?_;refine wpAnyH_done (by kernel_rfl) ?_ _;have hF1 : Hid (Foot (· = g) w wq1) := Hq (foot_then hF.out hBq1);have hB1 : Hid (HBlk E wq1 g (P ++ [x] ++ Y ++ S)) := Hq (hBk.out.keep lg hBq1);clear c1 c2 hc hd hF hBk lg hBq0 hSq0 hbq1 hBq1 hSq1;go_wp2
    go_roundw
    case rel => exact ⟨i, h, rfl, rfl, hmi, h1, by omega, hF1, hB1, Hq ⟨hI.out.1, .inr HK.out⟩⟩
    case measure => simp [intOf]; omega
  ·obtain rfl : i = j := by omega
   clear hlt hij;have HR : Hid (Asc key (Y.take (i - m) ++ x :: Y.drop (i - m))) := Hq (by
    have hy := H.out;refine asc_put hy.2.2.2.2.2.1 (by omega) ?_ ?_
    ·rcases hI.out.1 with e | e
     ·exact .inl (by omega)
     ·exact .inr e
    ·rcases hI.out.2 with e | e
     ·exact .inl (by omega)
     ·exact .inr e)
   clear hI;have hF0 := hF;have hB0 : Hid (HBlk E wr g (P ++ (Y.take (a - a) ++ x :: Y.drop (a - a)) ++ S)) := Hq (by have := hBk.out; simpa using this);clear hF hBk;go_wp2;go_loopw [13] (fun vk wr => ∃ k : Nat, vk = .int .i64 (k : Nat) ∧ a ≤ k ∧ k + 1 ≤ i ∧ Hid (Foot (· = g) w wr) ∧ Hid (HBlk E wr g (P ++ (Y.take (k - a) ++ x :: Y.drop (k - a)) ++ S))) (fun vk _ => i - (intOf vk).toNat)
   case atStart => exact ⟨a, rfl, Nat.le_refl _, by omega, hF0, hB0⟩
   case round =>
    clear hF0 hB0;obtain ⟨k, rfl, hak, hki, hF, hBk⟩ := hrel;by_cases hlt : k + 1 < i
    ·obtain ⟨y, hy⟩ := get_of_lt (L := Y) (k := k - a) (by have := H.out; have := Hma.out; omega);have hfm : P ++ (Y.take (k - a) ++ x :: Y.drop (k - a)) ++ S = (P ++ Y.take (k - a)) ++ x :: y :: (Y.drop (k - a + 1) ++ S) := by rw [drop_at hy]; simp
     have hlen : (P ++ Y.take (k - a)).length = k := by have := H.out; have := lt_of_get hy; rw [List.length_append, List.length_take]; omega
     have hnx : P ++ (Y.take (k + 1 - a) ++ x :: Y.drop (k + 1 - a)) ++ S = (P ++ Y.take (k - a)) ++ y :: x :: (Y.drop (k - a + 1) ++ S) := by
      rw [show k + 1 - a = k - a + 1 by omega, take_at hy]; simp
     obtain ⟨k1, hk1⟩ := nx (k + 1);have hBk' := hBk.out;rw [hfm] at hBk';obtain ⟨s1, s2, s3⟩ := next_st (x := x) (y := y) (C := Y.drop (k - a + 1) ++ S) hlen;rw [← hk1] at s2 s3;have c1 := hBk'.at_ s1;have c2 := hBk'.at_ s2;have l1 := lt_of_get s1;have l2 := lt_of_get s2;have wk : IntKind.i64.wrap ((k : Int) + 1) = (k1 : Int) := by rw [IntWalk.i64_in _ (by omega)]; omega
     have lk : k < N := (by omega);have lk1 : k1 < N := (by omega);have HBW := hBk';have HFW := hF.out;have N1 : Hid (∀ w', HBlk E w' g ((((P ++ Y.take (k - a)) ++ x :: y :: (Y.drop (k - a + 1) ++ S)).set k y).set k1 x) → HBlk E w' g (P ++ (Y.take (k + 1 - a) ++ x :: Y.drop (k + 1 - a)) ++ S)) := Hq (fun w' h => by rw [s3] at h; rw [hnx]; exact h);have ea : ((k : Int) + 1).toNat = k1 := (by omega);have p1 : (0 : Int) ≤ (k : Int) + 1 := (by omega);have p2 : (k : Int) + 1 < (N : Int) := (by omega);have p3 : (k : Int) < (N : Int) := (by omega);have t1 : decide ((k : Int) < (i : Int) - 1) = true := decide_eq_true (by omega);clear s1 s2 s3 hy hfm hlen hnx hk1 hBk' hBk hF;go_wp2_with fail;refine wp_until (fun w' : World => HoAt w' g (k * 5) (E x) ∧ HoAt w' g (k1 * 5) (E y)) 15 (by kernel_rfl) ?_;have hS0 := Ai c1 c2;refine until_free (v := ?_) 0 61 rfl rfl (by kernel_rfl) (by kernel_rfl) (by kernel_rfl) (by kernel_rfl) (fun _ _ _ h => h) ⟨by rfl, ?_⟩ (fun _ => hS0) ?_;rotate_left
     ·intro w'; go_simp; (try with_reducible rfl)
     simp only [Act.put, pzA, pzB, pzC];refine until_free (v := ?_) 1 62 rfl rfl (by kernel_rfl) (by kernel_rfl) (by kernel_rfl) (by kernel_rfl) (fun _ _ _ h => h) ⟨by rfl, ?_⟩ (fun _ => hS0) ?_;rotate_left
     ·intro w'; go_simp; (try with_reducible rfl)
     simp only [Act.put, pzA, pzB, pzC];refine until_free (v := ?_) 2 63 rfl rfl (by kernel_rfl) (by kernel_rfl) (by kernel_rfl) (by kernel_rfl) (fun _ _ _ h => h) ⟨by rfl, ?_⟩ (fun _ => hS0) ?_;rotate_left
     ·intro w'; go_simp; (try with_reducible rfl)
     simp only [Act.put, pzA, pzB, pzC];refine until_free (v := ?_) 3 64 rfl rfl (by kernel_rfl) (by kernel_rfl) (by kernel_rfl) (by kernel_rfl) (fun _ _ _ h => h) ⟨by rfl, ?_⟩ (fun _ => hS0) ?_;rotate_left
     ·intro w'; go_simp; (try with_reducible rfl)
     simp only [Act.put, pzA, pzB, pzC];refine until_free (v := ?_) 4 65 rfl rfl (by kernel_rfl) (by kernel_rfl) (by kernel_rfl) (by kernel_rfl) (fun _ _ _ h => h) ⟨by rfl, ?_⟩ (fun _ => hS0) ?_;rotate_left
     ·intro w'; go_simp; (try with_reducible rfl)
     simp only [Act.put, pzA, pzB, pzC];refine until_free (v := ?_) 5 66 rfl rfl (by kernel_rfl) (by kernel_rfl) (by kernel_rfl) (by kernel_rfl) (fun _ _ _ h => h) ⟨by rfl, ?_⟩ (fun _ => hS0) ?_;rotate_left
     ·intro w'; go_simp; (try with_reducible rfl)
     simp only [Act.put, pzA, pzB, pzC];refine until_free (v := ?_) 6 67 rfl rfl (by kernel_rfl) (by kernel_rfl) (by kernel_rfl) (by kernel_rfl) (fun _ _ _ h => h) ⟨by rfl, ?_⟩ (fun _ => hS0) ?_;rotate_left
     ·intro w'; go_simp; (try with_reducible rfl)
     simp only [Act.put, pzA, pzB, pzC];refine until_free (v := ?_) 7 68 rfl rfl (by kernel_rfl) (by kernel_rfl) (by kernel_rfl) (by kernel_rfl) (fun _ _ _ h => h) ⟨by rfl, ?_⟩ (fun _ => hS0) ?_;rotate_left
     ·intro w'; go_simp; (try with_reducible rfl)
     simp only [Act.put, pzA, pzB, pzC];refine until_free (v := ?_) 8 69 rfl rfl (by kernel_rfl) (by kernel_rfl) (by kernel_rfl) (by kernel_rfl) (fun _ _ _ h => h) ⟨by rfl, ?_⟩ (fun _ => hS0) ?_;rotate_left
     ·intro w'; go_simp; (try with_reducible rfl)
     simp only [Act.put, pzA, pzB, pzC];refine tkU ?_ 9 70 ?_ hS0 ?_;rotate_left
     ·rintro w' ⟨x0, x1⟩;refine Eq.trans (run_load_ho (by rfl) (by rfl) x1) ?_;(with_reducible rfl)
     simp only [Act.put, pzA, pzB, pzC];refine until_free (v := ?_) 10 71 rfl rfl (by kernel_rfl) (by kernel_rfl) (by kernel_rfl) (by kernel_rfl) (fun _ _ _ h => h) ⟨by rfl, ?_⟩ (fun _ => hS0) ?_;rotate_left
     ·intro w'; go_simp; (try with_reducible rfl)
     simp only [Act.put, pzA, pzB, pzC];refine until_free (v := ?_) 11 72 rfl rfl (by kernel_rfl) (by kernel_rfl) (by kernel_rfl) (by kernel_rfl) (fun _ _ _ h => h) ⟨by rfl, ?_⟩ (fun _ => hS0) ?_;rotate_left
     ·intro w'; go_simp; (try with_reducible rfl)
     simp only [Act.put, pzA, pzB, pzC];refine until_free (v := ?_) 12 73 rfl rfl (by kernel_rfl) (by kernel_rfl) (by kernel_rfl) (by kernel_rfl) (fun _ _ _ h => h) ⟨by rfl, ?_⟩ (fun _ => hS0) ?_;rotate_left
     ·intro w'; go_simp; (try with_reducible rfl)
     simp only [Act.put, pzA, pzB, pzC];refine tkU ?_ 13 74 ?_ hS0 ?_;rotate_left
     ·rintro w' ⟨x0, x1⟩;refine Eq.trans (run_load_ho (by rfl) (by rfl) x0) ?_;(with_reducible rfl)
     simp only [Act.put, pzA, pzB, pzC];refine until_free (v := ?_) 14 75 rfl rfl (by kernel_rfl) (by kernel_rfl) (by kernel_rfl) (by kernel_rfl) (fun _ _ _ h => h) ⟨by rfl, ?_⟩ (fun _ => hS0) ?_;rotate_left
     ·intro w'; go_simp; (try with_reducible rfl)
     simp only [Act.put, pzA, pzB, pzC];refine until_one 15 rfl (by kernel_rfl) rfl (fun K hK => ?_);refine wp_store_ho (x := y) rfl (by rfl) (by rfl) HBW l1 (fun ws1 hBs1 hFs1 => ?_);refine hK.out _ _ (fun h => absurd h (by decide)) ?_;clear hK K;try simp only [Act.put]
     refine until_one 16 rfl (by kernel_rfl) rfl (fun K hK => ?_);go_simp;refine hK.out _ _ (fun h => absurd h (by decide)) ?_;clear hK K;try simp only [Act.put, pzA, pzB, pzC]
     refine until_one 17 rfl (by kernel_rfl) rfl (fun K hK => ?_);refine wp_store_ho (x := x) rfl (by rfl) (by rfl) hBs1 (by rw [List.length_set]; exact l2) (fun W hBs2 hFs2 => ?_);refine hK.out _ _ (fun h => absurd h (by decide)) ?_;clear hK K;try simp only [Act.put]
     refine until_done (by kernel_rfl) ?_;have N1' : Hid (HBlk E W g (P ++ (Y.take (k + 1 - a) ++ x :: Y.drop (k + 1 - a)) ++ S)) := Hq (N1.out _ hBs2);have N2' : Hid (Foot (· = g) w W) := Hq ((HFW.drew.trans hFs1 fun _ h => .inl h).trans hFs2 fun _ h => .inl h);clear N1 hBs2 hBs1 hFs1 hFs2 HBW HFW c1 c2 hS0 l1 l2;go_wp2
     go_roundw
     case rel => exact ⟨k + 1, by go_num, by omega, by omega, N2', N1'⟩
     case measure => simp [intOf]; omega
    ·have t1 : decide ((k : Int) < (i : Int) - 1) = false := decide_eq_false (by omega);have HZ : Hid (∃ Z, HBlk E wr g (P ++ Z ++ S) ∧ Z.Perm ([x] ++ Y) ∧ Asc key Z) := Hq ⟨_, hBk.out, by
      have e : Y.take (k - a) ++ Y.drop (k - a) = Y := List.take_append_drop _ _;have := (List.perm_middle (a := x) (l₁ := Y.take (k - a)) (l₂ := Y.drop (k - a)))
      rw [e] at this;exact this, by
      have e : k - a = i - m := by have := Hma.out; omega
      rw [e]; exact HR.out⟩
     clear hlt hBk HR;go_wp2;(try simp only [Exit.inBlock, Exit.then]);refine bodyPost_ret (results_none rfl _ _ _) rfl ?_;exact ⟨rfl, hF.out, HZ⟩
set_option maxRecDepth 100000 in
set_option maxHeartbeats 2000000 in
theorem hsym_right (E : Nat → Ho) (cp : Nat) (key : Nat → Nat) (g N n a m b : Nat) (v0 : Value) (cv : Nat → Nat → Int) (w0 : World) (P X S : List Nat) (y : Nat) (w : World) (hC : CmpH E g n v0 cv w0) (hF0 : Foot (· = g) w0 w) (hy : y < n) (hXn : ∀ x ∈ X, x < n)
  (hr : Rel key (ltC cv) X [y]) (hX : Asc key X) (hX2 : 2 ≤ X.length) (ha : P.length = a) (hm : P.length + X.length = m) (hb : P.length + X.length + 1 = b) (hN : P.length + X.length + 1 + S.length = N) (hNl : N ≤ 1000000) (hB : HBlk E w g (P ++ X ++ [y] ++ S)) :
  Calls Tryz.prog 119 #[.slice (some ⟨g, 0, none⟩) N cp, .int .i64 (a : Nat), .int .i64 (m : Nat), .int .i64 (b : Nat), .func (.func 109) #[] #[]] w fun e w' =>
   e = .returned (.tuple #[]) ∧ Foot (· = g) w w' ∧ Hid (∃ Z, HBlk E w' g (P ++ Z ++ S) ∧ Z.Perm (X ++ [y]) ∧ Asc key Z) := by
 have H := Hq (Ai hC (Ai hF0 (Ai hy (Ai hXn (Ai hr (Ai hX (Ai ha (Ai hm (Ai hb hN)))))))));have HB := Hq hB;have HF := Hq (Foot.refl (· = g) w);have hma : a + 2 ≤ m := by omega
 have hmb : m < b := by omega
 have hNb : b ≤ N := by omega
 have t0 : ((m : Int) - (a : Int) == 1) = false := beq_eq_false_iff_ne.2 (by omega);have t0' : ((b : Int) - (m : Int) == 1) = true := beq_iff_eq.2 (by omega);clear hC hF0 hy hXn hr hX ha hm hb hN hB hX2;go_enter Tryz.func119, Tryz.ntmps119;go_wp2;go_loopw [14, 15] (fun vi vj wr => ∃ i j : Nat, vi = .int .i64 (i : Nat) ∧ vj = .int .i64 (j : Nat) ∧ a ≤ i ∧ i ≤ j ∧ j ≤ m ∧ Hid (Foot (· = g) w wr) ∧ Hid (HBlk E wr g (P ++ X ++ [y] ++ S)) ∧ Hid ((i = a ∨ ∀ x, X[i - a - 1]? = some x → key x ≤ key y) ∧ (j = m ∨ ∀ x, X[j - a]? = some x → key y ≤ key x))) (fun vi vj _ => (intOf vj).toNat - (intOf vi).toNat)
 case atStart => exact ⟨a, m, rfl, rfl, Nat.le_refl _, by omega, Nat.le_refl _, HF, HB, Hq ⟨.inl rfl, .inl rfl⟩⟩
 case round =>
  clear HB HF;obtain ⟨i, j, rfl, rfl, hai, hij, hjm, hF, hBk, hI⟩ := hrel;by_cases hlt : i < j
  ·obtain ⟨h, hh⟩ := nx ((i + j) / 2);have em : ((i : Int) + (j : Int)) / 2 = (h : Int) := (by omega);have h1 : i ≤ h := (by omega);have h2 : h < j := (by omega);have h3 : h < b := (by omega);obtain ⟨x, hx⟩ := get_of_lt (L := X) (k := h - a) (by have := H.out; omega);have hLx : (P ++ X ++ [y] ++ S)[h]? = some x := by
    rw [List.append_assoc (P ++ X), get_pre (P := P) (k := h - a) (by have := H.out; omega) (lt_of_get hx)]; exact hx
   have hLy : (P ++ X ++ [y] ++ S)[m]? = some y := by
    rw [get_pre (P := P ++ X) (k := 0) (by have := H.out; simp; omega) (by simp)]; rfl
   have c1 := hBk.out.at_ hLx;have c2 := hBk.out.at_ hLy;have hc := fun W (hb : Below wr.heap.size wr W) => H.out.1.at_ H.out.2.1 (foot_then hF.out hb) H.out.2.2.1 (H.out.2.2.2.1 x (mem_of_get hx))
   have lg := hBk.out.lt;have hrel := H.out.2.2.2.2.1 x (mem_of_get hx) y (by simp);have j1 : (h : Int) < (N : Int) := (by omega);have j2 : (m : Int) < (N : Int) := (by omega);have t1 : decide ((i : Int) < (j : Int)) = true := decide_eq_true (by omega);clear hh;clear hLx hLy;go_wp2_with fail;(try simp only [em]);clear em
   cases hd : decide (cv y x < 0) with
   | true =>
    have hk : key y ≤ key x := by unfold ltC at hrel; rw [hd] at hrel; have := of_decide_eq_true hrel.symm; omega
    have HK := Hq (show ∀ x', X[h - a]? = some x' → key y ≤ key x' by
     intro x' hx';rw [hx] at hx'; cases hx'; exact hk)
    clear hrel hx hk;refine held_begin (fun w' : World => HoAt w' g (h * 5) (E x) ∧ HoAt w' g (m * 5) (E y)) (by kernel_rfl) ?_;have hBq0 : Below wr.heap.size wr wr.drew := (Below.refl _ _).drew;have hSq0 := Ai c1 c2;refine tkA 0 92 hSq0 ?_;refine tkA 1 93 hSq0 ?_;refine tkA 2 94 hSq0 ?_;refine tkA 3 95 hSq0 ?_;refine tkH ?_ 4 96 ?_ hSq0 ?_;rotate_left
    ·rintro w' ⟨x0, x1⟩;refine Eq.trans (run_load_ho (by rfl) (by rfl) x1) ?_;(with_reducible rfl)
    simp only [Act.put, pzA, pzB, pzC];refine tkA 5 97 hSq0 ?_;refine tkA 6 98 hSq0 ?_;refine tkA 7 99 hSq0 ?_;refine tkH ?_ 8 100 ?_ hSq0 ?_;rotate_left
    ·rintro w' ⟨x0, x1⟩;refine Eq.trans (run_load_ho (by rfl) (by rfl) x0) ?_;(with_reducible rfl)
    simp only [Act.put, pzA, pzB, pzC];refine held_one 9 rfl (by kernel_rfl) (by rfl) (fun K hK => ?_);go_simp
    go_at_call 109
    refine (hc wr.drew hBq0).mono ?_;rintro e wq1 ⟨rfl, hbq1⟩;have hBq1 : Below wr.heap.size wr wq1 := below_step hBq0 hbq1;have hSq1 := Ai (c1.keep lg hBq1) (c2.keep lg hBq1);refine hK.out _ _ hSq1 ?_;clear hK K;refine tkA 10 102 hSq1 ?_;refine tkA 11 103 hSq1 ?_;refine wpAnyH_done (by kernel_rfl) ?_ _;have hF1 : Hid (Foot (· = g) w wq1) := Hq (foot_then hF.out hBq1);have hB1 : Hid (HBlk E wq1 g (P ++ X ++ [y] ++ S)) := Hq (hBk.out.keep lg hBq1);clear c1 c2 hc hd hF hBk lg hBq0 hSq0 hbq1 hBq1 hSq1;go_wp2
    go_roundw
    case rel => exact ⟨i, h, rfl, rfl, hai, h1, by omega, hF1, hB1, Hq ⟨hI.out.1, .inr HK.out⟩⟩
    case measure => simp [intOf]; omega
   | false =>
    have hk : key x ≤ key y := by unfold ltC at hrel; rw [hd] at hrel; have := of_decide_eq_false hrel.symm; omega
    have HK := Hq (show ∀ x', X[h + 1 - a - 1]? = some x' → key x' ≤ key y by
     intro x' hx';rw [show h + 1 - a - 1 = h - a by omega, hx] at hx'; cases hx'; exact hk)
    clear hrel hx hk;refine held_begin (fun w' : World => HoAt w' g (h * 5) (E x) ∧ HoAt w' g (m * 5) (E y)) (by kernel_rfl) ?_;have hBq0 : Below wr.heap.size wr wr.drew := (Below.refl _ _).drew;have hSq0 := Ai c1 c2;refine tkA 0 92 hSq0 ?_;refine tkA 1 93 hSq0 ?_;refine tkA 2 94 hSq0 ?_;refine tkA 3 95 hSq0 ?_;refine tkH ?_ 4 96 ?_ hSq0 ?_;rotate_left
    ·rintro w' ⟨x0, x1⟩;refine Eq.trans (run_load_ho (by rfl) (by rfl) x1) ?_;(with_reducible rfl)
    simp only [Act.put, pzA, pzB, pzC];refine tkA 5 97 hSq0 ?_;refine tkA 6 98 hSq0 ?_;refine tkA 7 99 hSq0 ?_;refine tkH ?_ 8 100 ?_ hSq0 ?_;rotate_left
    ·rintro w' ⟨x0, x1⟩;refine Eq.trans (run_load_ho (by rfl) (by rfl) x0) ?_;(with_reducible rfl)
    simp only [Act.put, pzA, pzB, pzC];refine held_one 9 rfl (by kernel_rfl) (by rfl) (fun K hK => ?_);go_simp
    go_at_call 109
    refine (hc wr.drew hBq0).mono ?_;rintro e wq1 ⟨rfl, hbq1⟩;have hBq1 : Below wr.heap.size wr wq1 := below_step hBq0 hbq1;have hSq1 := Ai (c1.keep lg hBq1) (c2.keep lg hBq1);refine hK.out _ _ hSq1 ?_;clear hK K;refine tkA 10 102 hSq1 ?_;refine tkA 11 103 hSq1 ?_;refine wpAnyH_done (by kernel_rfl) ?_ _;have hF1 : Hid (Foot (· = g) w wq1) := Hq (foot_then hF.out hBq1);have hB1 : Hid (HBlk E wq1 g (P ++ X ++ [y] ++ S)) := Hq (hBk.out.keep lg hBq1);clear c1 c2 hc hd hF hBk lg hBq0 hSq0 hbq1 hBq1 hSq1;go_wp2
    go_roundw
    case rel => exact ⟨h + 1, j, by go_num, rfl, by omega, by omega, hjm, hF1, hB1, Hq ⟨.inr HK.out, hI.out.2⟩⟩
    case measure => simp [intOf]; omega
  ·obtain rfl : i = j := by omega
   clear hlt hij;have HR : Hid (Asc key (X.take (i - a) ++ y :: X.drop (i - a))) := Hq (by
    have hy := H.out;refine asc_put hy.2.2.2.2.2.1 (by omega) ?_ ?_
    ·rcases hI.out.1 with e | e
     ·exact .inl (by omega)
     ·exact .inr e
    ·rcases hI.out.2 with e | e
     ·exact .inl (by omega)
     ·exact .inr e)
   clear hI;have hF0 := hF;have hB0 : Hid (HBlk E wr g (P ++ (X.take (m - a) ++ y :: X.drop (m - a)) ++ S)) := Hq (by have := hBk.out; rw [show m - a = X.length by have := H.out; omega]; simpa using this);clear hF hBk;go_wp2;go_loopw [17] (fun vk wr => ∃ k : Nat, vk = .int .i64 (k : Nat) ∧ i ≤ k ∧ k ≤ m ∧ Hid (Foot (· = g) w wr) ∧ Hid (HBlk E wr g (P ++ (X.take (k - a) ++ y :: X.drop (k - a)) ++ S))) (fun vk _ => (intOf vk).toNat)
   case atStart => exact ⟨m, rfl, by omega, Nat.le_refl _, hF0, hB0⟩
   case round =>
    clear hF0 hB0;obtain ⟨k, rfl, hik, hkm, hF, hBk⟩ := hrel;by_cases hlt : i < k
    ·obtain ⟨kp, rfl⟩ : ∃ q, k = q + 1 := ⟨k - 1, by omega⟩
     obtain ⟨x, hx⟩ := get_of_lt (L := X) (k := kp - a) (by have := H.out; omega);have hfm : P ++ (X.take (kp + 1 - a) ++ y :: X.drop (kp + 1 - a)) ++ S = (P ++ X.take (kp - a)) ++ x :: y :: (X.drop (kp - a + 1) ++ S) := by
      rw [show kp + 1 - a = kp - a + 1 by omega, take_at hx]; simp
     have hlen : (P ++ X.take (kp - a)).length = kp := by have := H.out; have := lt_of_get hx; rw [List.length_append, List.length_take]; omega
     have hnx : P ++ (X.take (kp - a) ++ y :: X.drop (kp - a)) ++ S = (P ++ X.take (kp - a)) ++ y :: x :: (X.drop (kp - a + 1) ++ S) := by rw [drop_at hx]; simp
     obtain ⟨k1, hk1⟩ := nx (kp + 1);have hBk' := hBk.out;rw [hfm] at hBk';obtain ⟨s1, s2, _⟩ := next_st (x := x) (y := y) (C := X.drop (kp - a + 1) ++ S) hlen;have s3 := next_ts (x := x) (y := y) (C := X.drop (kp - a + 1) ++ S) hlen;rw [← hk1] at s2 s3;have c1 := hBk'.at_ s1;have c2 := hBk'.at_ s2;have l1 := lt_of_get s1;have l2 := lt_of_get s2;have wk : IntKind.i64.wrap (kp : Int) = (kp : Int) := IntWalk.i64_in _ (by omega);have lk : kp < N := (by omega);have lk1 : k1 < N := (by omega);have HBW := hBk';have HFW := hF.out;have N1 : Hid (∀ w', HBlk E w' g ((((P ++ X.take (kp - a)) ++ x :: y :: (X.drop (kp - a + 1) ++ S)).set k1 x).set kp y) → HBlk E w' g (P ++ (X.take (kp - a) ++ y :: X.drop (kp - a)) ++ S)) := Hq (fun w' h => by rw [s3] at h; rw [hnx]; exact h);have ea : ((kp : Int) + 1).toNat = k1 := (by omega);have p1 : (0 : Int) ≤ (kp : Int) + 1 := (by omega);have p2 : (kp : Int) + 1 < (N : Int) := (by omega);have p3 : (kp : Int) < (N : Int) := (by omega);have t1 : decide ((i : Int) < (kp : Int) + 1) = true := decide_eq_true (by omega);clear s1 s2 s3 hx hfm hlen hnx hk1 hBk' hBk hF;go_wp2_with fail;refine wp_until (fun w' : World => HoAt w' g (kp * 5) (E x) ∧ HoAt w' g (k1 * 5) (E y)) 15 (by kernel_rfl) ?_;have hS0 := Ai c1 c2;refine until_free (v := ?_) 0 113 rfl rfl (by kernel_rfl) (by kernel_rfl) (by kernel_rfl) (by kernel_rfl) (fun _ _ _ h => h) ⟨by rfl, ?_⟩ (fun _ => hS0) ?_;rotate_left
     ·intro w'; go_simp; (try with_reducible rfl)
     simp only [Act.put, pzA, pzB, pzC];refine until_free (v := ?_) 1 114 rfl rfl (by kernel_rfl) (by kernel_rfl) (by kernel_rfl) (by kernel_rfl) (fun _ _ _ h => h) ⟨by rfl, ?_⟩ (fun _ => hS0) ?_;rotate_left
     ·intro w'; go_simp; (try with_reducible rfl)
     simp only [Act.put, pzA, pzB, pzC];refine until_free (v := ?_) 2 115 rfl rfl (by kernel_rfl) (by kernel_rfl) (by kernel_rfl) (by kernel_rfl) (fun _ _ _ h => h) ⟨by rfl, ?_⟩ (fun _ => hS0) ?_;rotate_left
     ·intro w'; go_simp; (try with_reducible rfl)
     simp only [Act.put, pzA, pzB, pzC];refine until_free (v := ?_) 3 116 rfl rfl (by kernel_rfl) (by kernel_rfl) (by kernel_rfl) (by kernel_rfl) (fun _ _ _ h => h) ⟨by rfl, ?_⟩ (fun _ => hS0) ?_;rotate_left
     ·intro w'; go_simp; (try with_reducible rfl)
     simp only [Act.put, pzA, pzB, pzC];refine until_free (v := ?_) 4 117 rfl rfl (by kernel_rfl) (by kernel_rfl) (by kernel_rfl) (by kernel_rfl) (fun _ _ _ h => h) ⟨by rfl, ?_⟩ (fun _ => hS0) ?_;rotate_left
     ·intro w'; go_simp; (try with_reducible rfl)
     simp only [Act.put, pzA, pzB, pzC];refine until_free (v := ?_) 5 118 rfl rfl (by kernel_rfl) (by kernel_rfl) (by kernel_rfl) (by kernel_rfl) (fun _ _ _ h => h) ⟨by rfl, ?_⟩ (fun _ => hS0) ?_;rotate_left
     ·intro w'; go_simp; (try with_reducible rfl)
     simp only [Act.put, pzA, pzB, pzC];refine until_free (v := ?_) 6 119 rfl rfl (by kernel_rfl) (by kernel_rfl) (by kernel_rfl) (by kernel_rfl) (fun _ _ _ h => h) ⟨by rfl, ?_⟩ (fun _ => hS0) ?_;rotate_left
     ·intro w'; go_simp; (try with_reducible rfl)
     simp only [Act.put, pzA, pzB, pzC];refine until_free (v := ?_) 7 120 rfl rfl (by kernel_rfl) (by kernel_rfl) (by kernel_rfl) (by kernel_rfl) (fun _ _ _ h => h) ⟨by rfl, ?_⟩ (fun _ => hS0) ?_;rotate_left
     ·intro w'; go_simp; (try with_reducible rfl)
     simp only [Act.put, pzA, pzB, pzC];refine until_free (v := ?_) 8 121 rfl rfl (by kernel_rfl) (by kernel_rfl) (by kernel_rfl) (by kernel_rfl) (fun _ _ _ h => h) ⟨by rfl, ?_⟩ (fun _ => hS0) ?_;rotate_left
     ·intro w'; go_simp; (try with_reducible rfl)
     simp only [Act.put, pzA, pzB, pzC];refine tkU ?_ 9 122 ?_ hS0 ?_;rotate_left
     ·rintro w' ⟨x0, x1⟩;refine Eq.trans (run_load_ho (by rfl) (by rfl) x0) ?_;(with_reducible rfl)
     simp only [Act.put, pzA, pzB, pzC];refine until_free (v := ?_) 10 123 rfl rfl (by kernel_rfl) (by kernel_rfl) (by kernel_rfl) (by kernel_rfl) (fun _ _ _ h => h) ⟨by rfl, ?_⟩ (fun _ => hS0) ?_;rotate_left
     ·intro w'; go_simp; (try with_reducible rfl)
     simp only [Act.put, pzA, pzB, pzC];refine until_free (v := ?_) 11 124 rfl rfl (by kernel_rfl) (by kernel_rfl) (by kernel_rfl) (by kernel_rfl) (fun _ _ _ h => h) ⟨by rfl, ?_⟩ (fun _ => hS0) ?_;rotate_left
     ·intro w'; go_simp; (try with_reducible rfl)
     simp only [Act.put, pzA, pzB, pzC];refine until_free (v := ?_) 12 125 rfl rfl (by kernel_rfl) (by kernel_rfl) (by kernel_rfl) (by kernel_rfl) (fun _ _ _ h => h) ⟨by rfl, ?_⟩ (fun _ => hS0) ?_;rotate_left
     ·intro w'; go_simp; (try with_reducible rfl)
     simp only [Act.put, pzA, pzB, pzC];refine tkU ?_ 13 126 ?_ hS0 ?_;rotate_left
     ·rintro w' ⟨x0, x1⟩;refine Eq.trans (run_load_ho (by rfl) (by rfl) x1) ?_;(with_reducible rfl)
     simp only [Act.put, pzA, pzB, pzC];refine until_free (v := ?_) 14 127 rfl rfl (by kernel_rfl) (by kernel_rfl) (by kernel_rfl) (by kernel_rfl) (fun _ _ _ h => h) ⟨by rfl, ?_⟩ (fun _ => hS0) ?_;rotate_left
     ·intro w'; go_simp; (try with_reducible rfl)
     simp only [Act.put, pzA, pzB, pzC];refine until_one 15 rfl (by kernel_rfl) rfl (fun K hK => ?_);refine wp_store_ho (x := x) rfl (by rfl) (by rfl) HBW l2 (fun ws1 hBs1 hFs1 => ?_);refine hK.out _ _ (fun h => absurd h (by decide)) ?_;clear hK K;try simp only [Act.put]
     refine until_one 16 rfl (by kernel_rfl) rfl (fun K hK => ?_);go_simp;refine hK.out _ _ (fun h => absurd h (by decide)) ?_;clear hK K;try simp only [Act.put, pzA, pzB, pzC]
     refine until_one 17 rfl (by kernel_rfl) rfl (fun K hK => ?_);refine wp_store_ho (x := y) rfl (by rfl) (by rfl) hBs1 (by rw [List.length_set]; exact l1) (fun W hBs2 hFs2 => ?_);refine hK.out _ _ (fun h => absurd h (by decide)) ?_;clear hK K;try simp only [Act.put]
     refine until_done (by kernel_rfl) ?_;have N1' : Hid (HBlk E W g (P ++ (X.take (kp - a) ++ y :: X.drop (kp - a)) ++ S)) := Hq (N1.out _ hBs2);have N2' : Hid (Foot (· = g) w W) := Hq ((HFW.drew.trans hFs1 fun _ h => .inl h).trans hFs2 fun _ h => .inl h);clear N1 hBs2 hBs1 hFs1 hFs2 HBW HFW c1 c2 hS0 l1 l2;go_wp2
     go_roundw
     case rel => exact ⟨kp, by go_num, by omega, by omega, N2', N1'⟩
     case measure => simp [intOf]
    ·have t1 : decide (i < k) = false := decide_eq_false (by omega);have HZ : Hid (∃ Z, HBlk E wr g (P ++ Z ++ S) ∧ Z.Perm (X ++ [y]) ∧ Asc key Z) := Hq ⟨_, hBk.out, by
      have e : X.take (k - a) ++ X.drop (k - a) = X := List.take_append_drop _ _;have := (List.perm_middle (a := y) (l₁ := X.take (k - a)) (l₂ := X.drop (k - a)))
      rw [e] at this;exact this.trans (List.perm_append_comm (l₁ := [y]) (l₂ := X)), by
      have e : k = i := (by omega);rw [e]; exact HR.out⟩
     clear hlt hBk HR;go_wp2;(try simp only [Exit.inBlock, Exit.then]);refine bodyPost_ret (results_none rfl _ _ _) rfl ?_;exact ⟨rfl, hF.out, HZ⟩
end
end Go.Proofs.YtkkkhonjcbhelaaGreatDoor
