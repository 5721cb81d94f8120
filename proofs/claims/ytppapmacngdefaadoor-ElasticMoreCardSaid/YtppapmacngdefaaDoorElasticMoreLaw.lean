/- With more left, and a higher Max, a gang gets no fewer members; without a head no fewer than beside one: the law ElasticMore answers true, at every input. The library's table of lowest units is as the program's text lays it (tied). -/
import Derived.Test.YtppapmacngdefaaDoorElAwake
import Derived.Test.YtppapmacngdefaaDoorElFew
import Derived.Test.YtppapmacngdefaaDoorElSafeM
import Derived.SevenTiedAt
import Derived.Test.YtppapmacngdefaaDoorTie
import Derived.Test.YtppapmacngdefaaDoorCards
set_option linter.unusedVariables false
namespace Go.Proofs.YtppapmacngdefaaDoor.elasticMore
open Go Go.ChangeShapes Go.WideShapes Go.ChangeAt Go.RowKit
open PR
theorem info_lu14 : (Tryd.prog.info? 40).map (fun i => (i.zero, i.size, i.bytes)) = some (some (.agg #[.int .i64 0, .int .i64 0]), 2, 16) := by kernel_rfl
theorem ok_mx {j : Jb} (h : j.S.ok = true) : j.mx ≤ 16 ∧ 1 ≤ j.mx := by
  unfold Shp.ok Jb.S at h
  simp at h
  omega
/-- A cell of an own row is written. -/
theorem own_setE {w : World} {B : Nat} {e : TypeId} {k G n c j : Nat} {xs : List Value} (u : Value) (h : w.ownsRow B e k (.slice (some ⟨G, 0, none⟩) n c) n xs) : (w.setCell ⟨G, j, none⟩ u).ownsRow B e k (.slice (some ⟨G, 0, none⟩) n c) n (xs.set j u) := by
  refine ⟨by rw [List.length_set]; exact h.1, .inr ?_⟩
  rcases h.2 with ⟨e, _⟩ | ⟨g, cap, cur, e, hb, hg, h5, h6, h7, h8⟩
  · cases e
  · injection e with e1 _ e3
    injection e1 with e1
    injection e1 with e1
    subst e1
    subst e3
    refine ⟨G, c, cur.setIfInBounds j u, rfl, hb, blk_put (i := j) u hg, h5, h6, by simp [h7], ?_⟩
    rw [← h8, Array.toList_setIfInBounds, List.take_set]
theorem flat_setE2 {α : Type} {C : α → List Value} {k : Nat} (hC : ∀ x, (C x).length = k) : ∀ {L : List α} {i r : Nat} {x x' : α} {v : Value}, L[i]? = some x → r < k → (C x') = (C x).set r v → (L.set i x').flatMap C = (L.flatMap C).set (i * k + r) v
  | [], i, r, x, x', v, h, _, _ => by simp at h
  | y :: L, 0, r, x, x', v, h, hr, e => by
    simp at h; subst h
    rw [List.set_cons_zero, List.flatMap_cons, List.flatMap_cons, e, Nat.zero_mul, Nat.zero_add, List.set_append_left _ _ (by rw [hC]; exact hr)]
  | y :: L, i + 1, r, x, x', v, h, hr, e => by
    rw [List.set_cons_succ, List.flatMap_cons, List.flatMap_cons, flat_setE2 hC (i := i) (by simpa using h) hr e, List.set_append_right _ _ (by rw [hC, Nat.add_mul]; omega), hC]
    congr 2
    rw [Nat.add_mul]; omega
/-- Own cells of a slice that isn't empty. -/
theorem own_atE {w : World} {B n c k : Nat} {e : TypeId} {A : Option Addr} {xs : List Value} (h : w.ownsRow B e k (.slice A n c) n xs) (hn : 0 < n) : ∃ g, A = some ⟨g, 0, none⟩ ∧ B ≤ g ∧ g < w.heap.size ∧ (∀ j v, xs[j]? = some v → w.cell? ⟨g, j, none⟩ = some v) ∧ ∀ j, w.frozen? ⟨g, j, none⟩ = false := by
  rcases h.2 with ⟨e1, _⟩ | ⟨g, cap, cur, e1, hB, hg, _, _, _, ht⟩
  · injection e1 with _ e2 _
    omega
  · injection e1 with e2 _ _
    refine ⟨g, e2, hB, blk_lt hg, fun j v hj => cell_blk hg ?_, fun j => frozen_blk hg⟩
    rw [← ht, List.getElem?_take] at hj
    split at hj
    · simpa using hj
    · cases hj
theorem own_capE {w : World} {B n c k : Nat} {e : TypeId} {A : Option Addr} {xs : List Value} (h : w.ownsRow B e k (.slice A n c) n xs) : n ≤ c ∧ c ≤ maxLen := by
  rcases h.2 with ⟨e1, _⟩ | ⟨g, cap, cur, e1, hB, hg, h5, h6, _⟩
  · injection e1 with _ e2 e3
    omega
  · injection e1 with _ _ e3
    omega
/-- More is left. -/
def upU (b : Int) (u : Lu) : Lu := ⟨min (u.g + b) 1048576, min (u.c + b) 1048576⟩
/-- Of the first so many more is left. -/
def upL (b : Int) (l : List Lu) (k : Nat) : List Lu := (l.take k).map (upU b) ++ l.drop k
/-- With more left, and a higher Max, no fewer are told. -/
theorem more_grow {L L' : Lk} {j : Jb} {b x : Int} {m m' : Nat} {r : Int} (hv : L'.lv = L.lv) (hf : L'.lf = L.lf.map (upU b)) (hb : 0 ≤ b) (hU : ∀ u ∈ L.lf, u.g ≤ 1048576 ∧ u.c ≤ 1048576) (h1 : j.mx ≤ x) (h2 : x ≤ 16) (h : MostE L j m 0) (k : MostE L' { j with mx := x } m' r) : r = 0 ∧ m ≤ m' := by
  obtain ⟨hok, _, _, _, U, hq, hM⟩ := most_bounds h
  have hok' : Shp.ok { j.S with mx := x } = true := by
    have h9 := hok
    unfold Shp.ok Jb.S at *
    simp at h9 ⊢
    omega
  have hq2 : leftL L' j.q = some (upU b U) := by
    unfold leftL at hq ⊢
    split at hq
    · rename_i h0
      rw [if_pos h0, hf, List.getElem?_map, hq]; rfl
    · cases hq
  have hUm := hU U (left_in hq).1
  rcases k with ⟨k0, _⟩ | ⟨_, ⟨k0, _⟩ | ⟨V, hV, k⟩⟩
  · have : Shp.ok { j.S with mx := x } = false := k0
    rw [hok'] at this; cases this
  · have : leftL L' j.q = none := k0
    rw [hq2] at this; cases this
  · have hV2 : leftL L' j.q = some V := hV
    rw [hq2] at hV2
    injection hV2 with e
    subst e
    rw [hv] at k
    exact MostR.grow hok hok' h1 (by unfold upU; simp only; omega) (by unfold upU; simp only; omega) hM k
theorem upL_zero (b : Int) (l : List Lu) : upL b l 0 = l := by simp [upL]
theorem upL_all (b : Int) (l : List Lu) : upL b l l.length = l.map (upU b) := by simp [upL]
theorem upL_at {b : Int} {l : List Lu} {k : Nat} {x : Lu} (h : l[k]? = some x) : (upL b l k)[k]? = some x := by
  have hk := (List.getElem?_eq_some_iff.1 h).1
  unfold upL
  rw [List.getElem?_append_right (by rw [List.length_map, List.length_take]; omega), List.length_map, List.length_take, List.getElem?_drop, Nat.min_eq_left (by omega), Nat.sub_self, Nat.add_zero, h]
theorem upL_next {b : Int} {l : List Lu} {k : Nat} {x : Lu} (h : l[k]? = some x) : upL b l (k + 1) = (upL b l k).set k (upU b x) := by
  have hk := (List.getElem?_eq_some_iff.1 h).1
  have e : l.drop k = x :: l.drop (k + 1) := by rw [List.drop_eq_getElem_cons hk, (List.getElem?_eq_some_iff.1 h).2]
  unfold upL
  rw [List.set_append_right _ _ (by rw [List.length_map, List.length_take]; omega), List.length_map, List.length_take, Nat.min_eq_left (by omega), Nat.sub_self, e, List.set_cons_zero, take_next h, List.map_append, List.append_assoc]
  rfl
theorem up_flat {b : Int} {l : List Lu} {k : Nat} {x : Lu} (h : l[k]? = some x) : (upL b l (k + 1)).flatMap luC = (((upL b l k).flatMap luC).set (k * 2) (.int .i64 (upU b x).g)).set (k * 2 + 1) (.int .i64 (upU b x).c) := by
  have h1 := flat_setE2 (C := luC) luC_len (i := k) (r := 0) (x' := ⟨(upU b x).g, x.c⟩) (v := .int .i64 (upU b x).g) (upL_at (b := b) h) (by omega) rfl
  have hk : k < (upL b l k).length := (List.getElem?_eq_some_iff.1 (upL_at (b := b) h)).1
  have h2 := flat_setE2 (C := luC) luC_len (L := (upL b l k).set k ⟨(upU b x).g, x.c⟩) (i := k) (r := 1) (x := ⟨(upU b x).g, x.c⟩) (x' := upU b x) (v := .int .i64 (upU b x).c) (by rw [List.getElem?_set_self hk]) (by omega) rfl
  rw [upL_next h, ← List.set_set (a := (⟨(upU b x).g, x.c⟩ : Lu)), h2, h1, Nat.add_zero]
set_option maxRecDepth 100000 in
set_option maxHeartbeats 16000000 in
theorem walk (L : Lk) (j : Jb) (un : Int) (by9 : Int) (w : World) (v0 : LkIn w w.heap.size L) (q0 : LkW L) (w1 : JbW j) (w2 : (Lit.int .i64 un).wf = true) (w3 : (Lit.int .u8 by9).wf = true) (hT : Tab w) :
    Calls Tryd.prog 4 #[lkV L, jbV j, .int .i64 un, .int .u8 by9] w fun e w' => e = .returned (.bool true) ∧ Below w.heap.size w w' := by
  obtain ⟨n1, hn1⟩ : ∃ n, n = L.lv.length := ⟨_, rfl⟩
  obtain ⟨n2, hn2⟩ : ∃ n, n = L.lf.length := ⟨_, rfl⟩
  obtain ⟨n3, hn3⟩ : ∃ n, n = L.le.length := ⟨_, rfl⟩
  obtain ⟨n4, hn4⟩ : ∃ n, n = L.lw.length := ⟨_, rfl⟩
  obtain ⟨n5, hn5⟩ : ∃ n, n = L.lr.length := ⟨_, rfl⟩
  have HT := Lib.hid hT
  have hAw := Lib.hid (fun W (hT : Tab W) => awake14 W hT)
  have hFw := Lib.hid (fun W (hk : Below w.heap.size w W) => show Calls Tryd.prog 6 #[.agg #[.int .i64 L.now, .int .i64 L.hd, .int .i64 L.pr, .int .i64 L.to, .slice L.A1 n1 L.c1, .slice L.A2 n2 L.c2, .slice L.A3 n3 L.c3, .slice L.A4 n4 L.c4, .slice L.A5 n5 L.c5]] W (fun e w' => ∃ b, e = .returned (.bool b) ∧ (b = true → LkF L) ∧ Below W.heap.size W w') from by
    have h9 := few14_any L W (v0.keep hk hk.size) q0
    unfold lkV lkA at h9
    rw [← hn1, ← hn2, ← hn3, ← hn4, ← hn5] at h9
    exact h9)
  have hM := Lib.hid (fun (hF : LkF L) W (hk : Below w.heap.size w W) => show Calls Tryd.prog 7 #[.agg #[.int .i64 L.now, .int .i64 L.hd, .int .i64 L.pr, .int .i64 L.to, .slice L.A1 n1 L.c1, .slice L.A2 n2 L.c2, .slice L.A3 n3 L.c3, .slice L.A4 n4 L.c4, .slice L.A5 n5 L.c5], .agg #[.int .i64 j.id, .int .i64 j.q, .int .i64 j.p, .int .i64 j.r, .int .i64 j.g, .int .i64 j.c, .int .i64 j.mn, .int .i64 j.mx]] W (fun e w' => MostJ L j w' e ∧ Below W.heap.size W w') from by
    have h9 := most_any L j W (v0.keep hk hk.size) q0 w1 (by have := hF.n; omega) (hT.below hk hT.size)
    unfold lkV lkA jbV jbA at h9
    rw [← hn1, ← hn2, ← hn3, ← hn4, ← hn5] at h9
    exact h9)
  have hFi := Lib.hid (fun (hF : LkF L) W (hk : Below w.heap.size w W) => show Calls Tryd.prog 11 #[.agg #[.int .i64 L.now, .int .i64 L.hd, .int .i64 L.pr, .int .i64 L.to, .slice L.A1 n1 L.c1, .slice L.A2 n2 L.c2, .slice L.A3 n3 L.c3, .slice L.A4 n4 L.c4, .slice L.A5 n5 L.c5], .agg #[.int .i64 j.id, .int .i64 j.q, .int .i64 j.p, .int .i64 j.r, .int .i64 j.g, .int .i64 j.c, .int .i64 j.mn, .int .i64 j.mx], .int .i64 un] W (fun e w' => FillJ L j un w' e ∧ Below W.heap.size W w') from by
    have h9 := fill_any L j un W (v0.keep hk hk.size) q0 hF w1 w2 (hT.below hk hT.size)
    unfold lkV lkA jbV jbA at h9
    rw [← hn1, ← hn2, ← hn3, ← hn4, ← hn5] at h9
    exact h9)
  have hF0 := Lib.hid (fun (hF : LkF L) W (hk : Below w.heap.size w W) => show Calls Tryd.prog 11 #[.agg #[.int .i64 L.now, .int .i64 0, .int .i64 L.pr, .int .i64 L.to, .slice L.A1 n1 L.c1, .slice L.A2 n2 L.c2, .slice L.A3 n3 L.c3, .slice L.A4 n4 L.c4, .slice L.A5 n5 L.c5], .agg #[.int .i64 j.id, .int .i64 j.q, .int .i64 j.p, .int .i64 j.r, .int .i64 j.g, .int .i64 j.c, .int .i64 j.mn, .int .i64 j.mx], .int .i64 un] W (fun e w' => FillJ { L with hd := 0 } j un w' e ∧ Below W.heap.size W w') from by
    have v9 := v0.keep hk hk.size
    have h9 := fill_any { L with hd := 0 } j un W ⟨v9.v, v9.f, v9.e, v9.t, v9.r⟩ ⟨q0.now, (by decide : (Lit.int .i64 0).wf = true), q0.pr, q0.to, q0.v, q0.l1, q0.m1, q0.f, q0.l2, q0.m2, q0.e, q0.l3, q0.m3, q0.t, q0.l4, q0.m4, q0.l5, q0.m5⟩ ⟨hF.v, hF.n, hF.e1, hF.e2, hF.f, hF.m, hF.fl⟩ w1 w2 (hT.below hk hT.size)
    unfold lkV lkA jbV jbA at h9
    simp only at h9
    rw [← hn1, ← hn2, ← hn3, ← hn4, ← hn5] at h9
    exact h9)
  have hM2 := Lib.hid (fun (hF : LkF L) (x : Int) (hx : (Lit.int .i64 x).wf = true) (A5 : Option Addr) (c5 B9 : Nat) W (hk : Below w.heap.size w W) (ho : W.ownsRow (B9) 40 2 (.slice A5 n2 c5) n2 ((L.lf.map (upU by9)).flatMap luC)) => show Calls Tryd.prog 7 #[.agg #[.int .i64 L.now, .int .i64 L.hd, .int .i64 L.pr, .int .i64 L.to, .slice L.A1 n1 L.c1, .slice A5 n2 c5, .slice L.A3 n3 L.c3, .slice L.A4 n4 L.c4, .slice L.A5 n5 L.c5], .agg #[.int .i64 j.id, .int .i64 j.q, .int .i64 j.p, .int .i64 j.r, .int .i64 j.g, .int .i64 j.c, .int .i64 j.mn, .int .i64 x]] W (fun e w' => MostJ { L with A2 := A5, c2 := c5, lf := L.lf.map (upU by9) } { j with mx := x } w' e ∧ Below W.heap.size W w') from by
    have v9 := v0.keep hk hk.size
    have hcap := own_capE ho
    have hlen : (L.lf.map (upU by9)).length = n2 := by rw [List.length_map, hn2]
    have hby := bounds_u8 w3
    have h9 := most_any { L with A2 := A5, c2 := c5, lf := L.lf.map (upU by9) } { j with mx := x } W ⟨v9.v, (els_own luC_len ho hlen).1, v9.e, v9.t, v9.r⟩ ⟨q0.now, q0.hd, q0.pr, q0.to, q0.v, q0.l1, q0.m1, fun u hu => by
      obtain ⟨y, hy, rfl⟩ := List.mem_map.1 hu
      have := hF.f y hy
      exact ⟨WalkArith.wf_i64 (by unfold upU; simp only; omega), WalkArith.wf_i64 (by unfold upU; simp only; omega)⟩, by rw [hlen]; exact hcap.1, hcap.2, q0.e, q0.l3, q0.m3, q0.t, q0.l4, q0.m4, q0.l5, q0.m5⟩ ⟨w1.id, w1.q, w1.p, w1.r, w1.g, w1.c, w1.mn, hx⟩ (by show L.lv.length ≤ 500000; have := hF.n; omega) (hT.below hk hT.size)
    unfold lkV lkA jbV jbA at h9
    simp only at h9
    rw [hlen, ← hn1, ← hn3, ← hn4, ← hn5] at h9
    exact h9)
  have HJ9 := Lib.hid (bounds_i64 w1.mx)
  have HBY := Lib.hid (bounds_u8 w3)
  have HV := Lib.hid (And.intro hn2 (And.intro q0.v (And.intro w1.S (And.intro v0.f (And.intro v0 (And.intro q0 w1))))))
  have hby := bounds_u8 w3
  have hn2m : n2 ≤ 281474976710656 ∨ True := .inr trivial
  unfold lkV lkA jbV jbA
  rw [← hn1, ← hn2, ← hn3, ← hn4, ← hn5]
  clear hn1 hn2 hn3 hn4 hn5 v0 q0 w1 hT w2 w3
  obtain ⟨B0, hB0⟩ : ∃ B, B = w.heap.size := ⟨_, rfl⟩
  rw [← hB0]
  have HB0 := Lib.hid hB0
  clear hB0
  have HBel := Lib.hid (Below.refl w.heap.size w)
  have hlow : w.heap.size ≤ w.heap.size := Nat.le_refl _
  go_enter Tryd.func4, Tryd.ntmps4
  go_wp2_with fail
  obtain ⟨V1, hV1⟩ : ∃ W, W = (w.alloc (.cells #[.int .i64 L.now, .int .i64 L.hd, .int .i64 L.pr, .int .i64 L.to, .slice L.A1 n1 L.c1, .slice L.A2 n2 L.c2, .slice L.A3 n3 L.c3, .slice L.A4 n4 L.c4, .slice L.A5 n5 L.c5] 28)).alloc (.cells #[.int .i64 j.id, .int .i64 j.q, .int .i64 j.p, .int .i64 j.r, .int .i64 j.g, .int .i64 j.c, .int .i64 j.mn, .int .i64 j.mx] 32) := ⟨_, rfl⟩
  rw [← hV1]
  have hzV1 : V1.heap.size = w.heap.size + 1 + 1 := by rw [hV1]; simp
  replace HBel : Hid (Below w.heap.size w V1) := Lib.hid (by rw [hV1]; exact ((HBel.out.alloc (hlow) _).alloc (by simp <;> omega) _))
  have B_l : Hid (V1.heap[w.heap.size]? = some (.cells #[.int .i64 L.now, .int .i64 L.hd, .int .i64 L.pr, .int .i64 L.to, .slice L.A1 n1 L.c1, .slice L.A2 n2 L.c2, .slice L.A3 n3 L.c3, .slice L.A4 n4 L.c4, .slice L.A5 n5 L.c5] 28 (0, 0))) := Lib.hid (by
    have h9 := heap_alloc_new (w) (.cells #[.int .i64 L.now, .int .i64 L.hd, .int .i64 L.pr, .int .i64 L.to, .slice L.A1 n1 L.c1, .slice L.A2 n2 L.c2, .slice L.A3 n3 L.c3, .slice L.A4 n4 L.c4, .slice L.A5 n5 L.c5] 28)
    rw [hV1]; exact ((Below.heap_alloc _ _ _ (by simp <;> omega)).trans h9))
  have B_j : Hid (V1.heap[w.heap.size + 1]? = some (.cells #[.int .i64 j.id, .int .i64 j.q, .int .i64 j.p, .int .i64 j.r, .int .i64 j.g, .int .i64 j.c, .int .i64 j.mn, .int .i64 j.mx] 32 (0, 0))) := Lib.hid (by
    have h9 := heap_alloc_new (w.alloc (.cells #[.int .i64 L.now, .int .i64 L.hd, .int .i64 L.pr, .int .i64 L.to, .slice L.A1 n1 L.c1, .slice L.A2 n2 L.c2, .slice L.A3 n3 L.c3, .slice L.A4 n4 L.c4, .slice L.A5 n5 L.c5] 28)) (.cells #[.int .i64 j.id, .int .i64 j.q, .int .i64 j.p, .int .i64 j.r, .int .i64 j.g, .int .i64 j.c, .int .i64 j.mn, .int .i64 j.mx] 32)
    rw [World.size_alloc] at h9
    rw [hV1]; exact h9)
  obtain ⟨N_l, hN_l⟩ : ∃ N, N = w.heap.size := ⟨_, rfl⟩
  obtain ⟨N_j, hN_j⟩ : ∃ N, N = w.heap.size + 1 := ⟨_, rfl⟩
  (try rw [← hN_j])
  rw [← hN_j] at B_j
  (try rw [← hN_l])
  rw [← hN_l] at B_l
  have l_l : N_l < V1.heap.size := by omega
  have l_j : N_j < V1.heap.size := by omega
  have g_l : w.heap.size ≤ N_l := by omega
  have g_j : w.heap.size ≤ N_j := by omega
  have d_l_j : N_l < N_j := by omega
  replace hlow : w.heap.size ≤ V1.heap.size := by omega
  clear hV1 hzV1 hN_l hN_j
  refine (hAw.out V1 (HT.out.below HBel.out HT.out.size)).mono ?_
  rintro e U2 ⟨rfl, hb9⟩
  have hs9 := hb9.size
  replace HBel := Lib.hid (HBel.out.trans (hb9.mono hlow))
  replace B_l : Hid (U2.heap[N_l]? = some (.cells #[.int .i64 L.now, .int .i64 L.hd, .int .i64 L.pr, .int .i64 L.to, .slice L.A1 n1 L.c1, .slice L.A2 n2 L.c2, .slice L.A3 n3 L.c3, .slice L.A4 n4 L.c4, .slice L.A5 n5 L.c5] 28 (0, 0))) := Lib.hid ((hb9.block _ l_l).trans B_l.out)
  replace B_j : Hid (U2.heap[N_j]? = some (.cells #[.int .i64 j.id, .int .i64 j.q, .int .i64 j.p, .int .i64 j.r, .int .i64 j.g, .int .i64 j.c, .int .i64 j.mn, .int .i64 j.mx] 32 (0, 0))) := Lib.hid ((hb9.block _ l_j).trans B_j.out)
  replace l_l : N_l < U2.heap.size := by omega
  replace l_j : N_j < U2.heap.size := by omega
  replace hlow : w.heap.size ≤ U2.heap.size := by omega
  clear hb9 hs9
  have l0 : U2.cell? ⟨N_l, 0, none⟩ = some (.int .i64 L.now) := cell_blk (i := 0) B_l.out rfl
  have l1 : U2.cell? ⟨N_l, 1, none⟩ = some (.int .i64 L.hd) := cell_blk (i := 1) B_l.out rfl
  have l2 : U2.cell? ⟨N_l, 2, none⟩ = some (.int .i64 L.pr) := cell_blk (i := 2) B_l.out rfl
  have l3 : U2.cell? ⟨N_l, 3, none⟩ = some (.int .i64 L.to) := cell_blk (i := 3) B_l.out rfl
  have l4 : U2.cell? ⟨N_l, 4, none⟩ = some (.slice L.A1 n1 L.c1) := cell_blk (i := 4) B_l.out rfl
  have l5 : U2.cell? ⟨N_l, 5, none⟩ = some (.slice L.A2 n2 L.c2) := cell_blk (i := 5) B_l.out rfl
  have l6 : U2.cell? ⟨N_l, 6, none⟩ = some (.slice L.A3 n3 L.c3) := cell_blk (i := 6) B_l.out rfl
  have l7 : U2.cell? ⟨N_l, 7, none⟩ = some (.slice L.A4 n4 L.c4) := cell_blk (i := 7) B_l.out rfl
  have l8 : U2.cell? ⟨N_l, 8, none⟩ = some (.slice L.A5 n5 L.c5) := cell_blk (i := 8) B_l.out rfl
  go_wp2_with fail
  refine (hFw.out U2 HBel.out).mono ?_
  rintro e U3 ⟨b, rfl, hf, hb9⟩
  clear l0 l1 l2 l3 l4 l5 l6 l7 l8
  have hs9 := hb9.size
  replace HBel := Lib.hid (HBel.out.trans (hb9.mono hlow))
  replace B_l : Hid (U3.heap[N_l]? = some (.cells #[.int .i64 L.now, .int .i64 L.hd, .int .i64 L.pr, .int .i64 L.to, .slice L.A1 n1 L.c1, .slice L.A2 n2 L.c2, .slice L.A3 n3 L.c3, .slice L.A4 n4 L.c4, .slice L.A5 n5 L.c5] 28 (0, 0))) := Lib.hid ((hb9.block _ l_l).trans B_l.out)
  replace B_j : Hid (U3.heap[N_j]? = some (.cells #[.int .i64 j.id, .int .i64 j.q, .int .i64 j.p, .int .i64 j.r, .int .i64 j.g, .int .i64 j.c, .int .i64 j.mn, .int .i64 j.mx] 32 (0, 0))) := Lib.hid ((hb9.block _ l_j).trans B_j.out)
  replace l_l : N_l < U3.heap.size := by omega
  replace l_j : N_j < U3.heap.size := by omega
  replace hlow : w.heap.size ≤ U3.heap.size := by omega
  clear hb9 hs9
  cases b
  · clear hf
    have j0 : U3.cell? ⟨N_j, 0, none⟩ = some (.int .i64 j.id) := cell_blk (i := 0) B_j.out rfl
    have j1 : U3.cell? ⟨N_j, 1, none⟩ = some (.int .i64 j.q) := cell_blk (i := 1) B_j.out rfl
    have j2 : U3.cell? ⟨N_j, 2, none⟩ = some (.int .i64 j.p) := cell_blk (i := 2) B_j.out rfl
    have j3 : U3.cell? ⟨N_j, 3, none⟩ = some (.int .i64 j.r) := cell_blk (i := 3) B_j.out rfl
    have j4 : U3.cell? ⟨N_j, 4, none⟩ = some (.int .i64 j.g) := cell_blk (i := 4) B_j.out rfl
    have j5 : U3.cell? ⟨N_j, 5, none⟩ = some (.int .i64 j.c) := cell_blk (i := 5) B_j.out rfl
    have j6 : U3.cell? ⟨N_j, 6, none⟩ = some (.int .i64 j.mn) := cell_blk (i := 6) B_j.out rfl
    have j7 : U3.cell? ⟨N_j, 7, none⟩ = some (.int .i64 j.mx) := cell_blk (i := 7) B_j.out rfl
    go_wp2
    clear j0 j1 j2 j3 j4 j5 j6 j7
    go_ret
    exact ⟨by first | rfl | (simp; done), by rw [HB0.out]; exact HBel.out⟩
  · have hF := hf rfl
    have HF := Lib.hid hF
    clear hf hF
    by_cases h40 : 1000 < j.mx
    · have t1 : decide (1000 < j.mx) = true := decide_eq_true h40
      clear h40
      have j0 : U3.cell? ⟨N_j, 0, none⟩ = some (.int .i64 j.id) := cell_blk (i := 0) B_j.out rfl
      have j1 : U3.cell? ⟨N_j, 1, none⟩ = some (.int .i64 j.q) := cell_blk (i := 1) B_j.out rfl
      have j2 : U3.cell? ⟨N_j, 2, none⟩ = some (.int .i64 j.p) := cell_blk (i := 2) B_j.out rfl
      have j3 : U3.cell? ⟨N_j, 3, none⟩ = some (.int .i64 j.r) := cell_blk (i := 3) B_j.out rfl
      have j4 : U3.cell? ⟨N_j, 4, none⟩ = some (.int .i64 j.g) := cell_blk (i := 4) B_j.out rfl
      have j5 : U3.cell? ⟨N_j, 5, none⟩ = some (.int .i64 j.c) := cell_blk (i := 5) B_j.out rfl
      have j6 : U3.cell? ⟨N_j, 6, none⟩ = some (.int .i64 j.mn) := cell_blk (i := 6) B_j.out rfl
      have j7 : U3.cell? ⟨N_j, 7, none⟩ = some (.int .i64 j.mx) := cell_blk (i := 7) B_j.out rfl
      go_wp2
      clear j0 j1 j2 j3 j4 j5 j6 j7
      go_ret
      exact ⟨by first | rfl | (simp; done), by rw [HB0.out]; exact HBel.out⟩
    · have t1 : decide (1000 < j.mx) = false := decide_eq_false h40
      have H40 := Lib.hid h40
      clear h40
      have l0 : U3.cell? ⟨N_l, 0, none⟩ = some (.int .i64 L.now) := cell_blk (i := 0) B_l.out rfl
      have l1 : U3.cell? ⟨N_l, 1, none⟩ = some (.int .i64 L.hd) := cell_blk (i := 1) B_l.out rfl
      have l2 : U3.cell? ⟨N_l, 2, none⟩ = some (.int .i64 L.pr) := cell_blk (i := 2) B_l.out rfl
      have l3 : U3.cell? ⟨N_l, 3, none⟩ = some (.int .i64 L.to) := cell_blk (i := 3) B_l.out rfl
      have l4 : U3.cell? ⟨N_l, 4, none⟩ = some (.slice L.A1 n1 L.c1) := cell_blk (i := 4) B_l.out rfl
      have l5 : U3.cell? ⟨N_l, 5, none⟩ = some (.slice L.A2 n2 L.c2) := cell_blk (i := 5) B_l.out rfl
      have l6 : U3.cell? ⟨N_l, 6, none⟩ = some (.slice L.A3 n3 L.c3) := cell_blk (i := 6) B_l.out rfl
      have l7 : U3.cell? ⟨N_l, 7, none⟩ = some (.slice L.A4 n4 L.c4) := cell_blk (i := 7) B_l.out rfl
      have l8 : U3.cell? ⟨N_l, 8, none⟩ = some (.slice L.A5 n5 L.c5) := cell_blk (i := 8) B_l.out rfl
      have j0 : U3.cell? ⟨N_j, 0, none⟩ = some (.int .i64 j.id) := cell_blk (i := 0) B_j.out rfl
      have j1 : U3.cell? ⟨N_j, 1, none⟩ = some (.int .i64 j.q) := cell_blk (i := 1) B_j.out rfl
      have j2 : U3.cell? ⟨N_j, 2, none⟩ = some (.int .i64 j.p) := cell_blk (i := 2) B_j.out rfl
      have j3 : U3.cell? ⟨N_j, 3, none⟩ = some (.int .i64 j.r) := cell_blk (i := 3) B_j.out rfl
      have j4 : U3.cell? ⟨N_j, 4, none⟩ = some (.int .i64 j.g) := cell_blk (i := 4) B_j.out rfl
      have j5 : U3.cell? ⟨N_j, 5, none⟩ = some (.int .i64 j.c) := cell_blk (i := 5) B_j.out rfl
      have j6 : U3.cell? ⟨N_j, 6, none⟩ = some (.int .i64 j.mn) := cell_blk (i := 6) B_j.out rfl
      have j7 : U3.cell? ⟨N_j, 7, none⟩ = some (.int .i64 j.mx) := cell_blk (i := 7) B_j.out rfl
      go_wp2_with fail
      refine (hM.out HF.out U3 HBel.out).mono ?_
      rintro e U4 ⟨⟨A1, k1, c1, r1, m, rfl, hE, hS, hN⟩, hb9⟩
      clear l0 l1 l2 l3 l4 l5 l6 l7 l8 j0 j1 j2 j3 j4 j5 j6 j7
      have hs9 := hb9.size
      have HE1 := Lib.hid (And.intro hE (And.intro (fun e => (hS e).1) (fun e => (hN e).2.1)))
      clear hE hS hN
      replace HBel := Lib.hid (HBel.out.trans (hb9.mono hlow))
      replace B_l : Hid (U4.heap[N_l]? = some (.cells #[.int .i64 L.now, .int .i64 L.hd, .int .i64 L.pr, .int .i64 L.to, .slice L.A1 n1 L.c1, .slice L.A2 n2 L.c2, .slice L.A3 n3 L.c3, .slice L.A4 n4 L.c4, .slice L.A5 n5 L.c5] 28 (0, 0))) := Lib.hid ((hb9.block _ l_l).trans B_l.out)
      replace B_j : Hid (U4.heap[N_j]? = some (.cells #[.int .i64 j.id, .int .i64 j.q, .int .i64 j.p, .int .i64 j.r, .int .i64 j.g, .int .i64 j.c, .int .i64 j.mn, .int .i64 j.mx] 32 (0, 0))) := Lib.hid ((hb9.block _ l_j).trans B_j.out)
      replace l_l : N_l < U4.heap.size := by omega
      replace l_j : N_j < U4.heap.size := by omega
      replace hlow : w.heap.size ≤ U4.heap.size := by omega
      clear hb9 hs9
      clear t1
      have l0 : U4.cell? ⟨N_l, 0, none⟩ = some (.int .i64 L.now) := cell_blk (i := 0) B_l.out rfl
      have l1 : U4.cell? ⟨N_l, 1, none⟩ = some (.int .i64 L.hd) := cell_blk (i := 1) B_l.out rfl
      have l2 : U4.cell? ⟨N_l, 2, none⟩ = some (.int .i64 L.pr) := cell_blk (i := 2) B_l.out rfl
      have l3 : U4.cell? ⟨N_l, 3, none⟩ = some (.int .i64 L.to) := cell_blk (i := 3) B_l.out rfl
      have l4 : U4.cell? ⟨N_l, 4, none⟩ = some (.slice L.A1 n1 L.c1) := cell_blk (i := 4) B_l.out rfl
      have l5 : U4.cell? ⟨N_l, 5, none⟩ = some (.slice L.A2 n2 L.c2) := cell_blk (i := 5) B_l.out rfl
      have l6 : U4.cell? ⟨N_l, 6, none⟩ = some (.slice L.A3 n3 L.c3) := cell_blk (i := 6) B_l.out rfl
      have l7 : U4.cell? ⟨N_l, 7, none⟩ = some (.slice L.A4 n4 L.c4) := cell_blk (i := 7) B_l.out rfl
      have l8 : U4.cell? ⟨N_l, 8, none⟩ = some (.slice L.A5 n5 L.c5) := cell_blk (i := 8) B_l.out rfl
      have j0 : U4.cell? ⟨N_j, 0, none⟩ = some (.int .i64 j.id) := cell_blk (i := 0) B_j.out rfl
      have j1 : U4.cell? ⟨N_j, 1, none⟩ = some (.int .i64 j.q) := cell_blk (i := 1) B_j.out rfl
      have j2 : U4.cell? ⟨N_j, 2, none⟩ = some (.int .i64 j.p) := cell_blk (i := 2) B_j.out rfl
      have j3 : U4.cell? ⟨N_j, 3, none⟩ = some (.int .i64 j.r) := cell_blk (i := 3) B_j.out rfl
      have j4 : U4.cell? ⟨N_j, 4, none⟩ = some (.int .i64 j.g) := cell_blk (i := 4) B_j.out rfl
      have j5 : U4.cell? ⟨N_j, 5, none⟩ = some (.int .i64 j.c) := cell_blk (i := 5) B_j.out rfl
      have j6 : U4.cell? ⟨N_j, 6, none⟩ = some (.int .i64 j.mn) := cell_blk (i := 6) B_j.out rfl
      have j7 : U4.cell? ⟨N_j, 7, none⟩ = some (.int .i64 j.mx) := cell_blk (i := 7) B_j.out rfl
      go_wp2_with fail
      refine (hFi.out HF.out U4 HBel.out).mono ?_
      rintro e U5 ⟨⟨A2, k2, c2, r2, n, nf, rfl, hE, hS, hN⟩, hb9⟩
      clear l0 l1 l2 l3 l4 l5 l6 l7 l8 j0 j1 j2 j3 j4 j5 j6 j7
      have hs9 := hb9.size
      have HE2 := Lib.hid (And.intro hE (And.intro (fun e => (hS e).2.2.2.1) hN))
      clear hE hS hN
      replace HBel := Lib.hid (HBel.out.trans (hb9.mono hlow))
      replace B_l : Hid (U5.heap[N_l]? = some (.cells #[.int .i64 L.now, .int .i64 L.hd, .int .i64 L.pr, .int .i64 L.to, .slice L.A1 n1 L.c1, .slice L.A2 n2 L.c2, .slice L.A3 n3 L.c3, .slice L.A4 n4 L.c4, .slice L.A5 n5 L.c5] 28 (0, 0))) := Lib.hid ((hb9.block _ l_l).trans B_l.out)
      replace B_j : Hid (U5.heap[N_j]? = some (.cells #[.int .i64 j.id, .int .i64 j.q, .int .i64 j.p, .int .i64 j.r, .int .i64 j.g, .int .i64 j.c, .int .i64 j.mn, .int .i64 j.mx] 32 (0, 0))) := Lib.hid ((hb9.block _ l_j).trans B_j.out)
      replace l_l : N_l < U5.heap.size := by omega
      replace l_j : N_j < U5.heap.size := by omega
      replace hlow : w.heap.size ≤ U5.heap.size := by omega
      clear hb9 hs9
      have l0 : U5.cell? ⟨N_l, 0, none⟩ = some (.int .i64 L.now) := cell_blk (i := 0) B_l.out rfl
      have l1 : U5.cell? ⟨N_l, 1, none⟩ = some (.int .i64 L.hd) := cell_blk (i := 1) B_l.out rfl
      have l2 : U5.cell? ⟨N_l, 2, none⟩ = some (.int .i64 L.pr) := cell_blk (i := 2) B_l.out rfl
      have l3 : U5.cell? ⟨N_l, 3, none⟩ = some (.int .i64 L.to) := cell_blk (i := 3) B_l.out rfl
      have l4 : U5.cell? ⟨N_l, 4, none⟩ = some (.slice L.A1 n1 L.c1) := cell_blk (i := 4) B_l.out rfl
      have l5 : U5.cell? ⟨N_l, 5, none⟩ = some (.slice L.A2 n2 L.c2) := cell_blk (i := 5) B_l.out rfl
      have l6 : U5.cell? ⟨N_l, 6, none⟩ = some (.slice L.A3 n3 L.c3) := cell_blk (i := 6) B_l.out rfl
      have l7 : U5.cell? ⟨N_l, 7, none⟩ = some (.slice L.A4 n4 L.c4) := cell_blk (i := 7) B_l.out rfl
      have l8 : U5.cell? ⟨N_l, 8, none⟩ = some (.slice L.A5 n5 L.c5) := cell_blk (i := 8) B_l.out rfl
      have j0 : U5.cell? ⟨N_j, 0, none⟩ = some (.int .i64 j.id) := cell_blk (i := 0) B_j.out rfl
      have j1 : U5.cell? ⟨N_j, 1, none⟩ = some (.int .i64 j.q) := cell_blk (i := 1) B_j.out rfl
      have j2 : U5.cell? ⟨N_j, 2, none⟩ = some (.int .i64 j.p) := cell_blk (i := 2) B_j.out rfl
      have j3 : U5.cell? ⟨N_j, 3, none⟩ = some (.int .i64 j.r) := cell_blk (i := 3) B_j.out rfl
      have j4 : U5.cell? ⟨N_j, 4, none⟩ = some (.int .i64 j.g) := cell_blk (i := 4) B_j.out rfl
      have j5 : U5.cell? ⟨N_j, 5, none⟩ = some (.int .i64 j.c) := cell_blk (i := 5) B_j.out rfl
      have j6 : U5.cell? ⟨N_j, 6, none⟩ = some (.int .i64 j.mn) := cell_blk (i := 6) B_j.out rfl
      have j7 : U5.cell? ⟨N_j, 7, none⟩ = some (.int .i64 j.mx) := cell_blk (i := 7) B_j.out rfl
      have ll1 : N_l < U5.heap.size + 1 := by omega
      have lj1 : N_j < U5.heap.size + 1 := by omega
      go_wp2_with fail
      clear l0 l1 l2 l3 l4 l5 l6 l7 l8 j0 j1 j2 j3 j4 j5 j6 j7 ll1 lj1
      obtain ⟨V6, hV6⟩ : ∃ W, W = U5.alloc (.cells #[.int .i64 L.now, .int .i64 0, .int .i64 L.pr, .int .i64 L.to, .slice L.A1 n1 L.c1, .slice L.A2 n2 L.c2, .slice L.A3 n3 L.c3, .slice L.A4 n4 L.c4, .slice L.A5 n5 L.c5] 28) := ⟨_, rfl⟩
      rw [← hV6]
      have hzV6 : V6.heap.size = U5.heap.size + 1 := by rw [hV6]; simp
      replace HBel : Hid (Below w.heap.size w V6) := Lib.hid (by rw [hV6]; exact (HBel.out.alloc (hlow) _))
      replace B_l : Hid (V6.heap[N_l]? = some (.cells #[.int .i64 L.now, .int .i64 L.hd, .int .i64 L.pr, .int .i64 L.to, .slice L.A1 n1 L.c1, .slice L.A2 n2 L.c2, .slice L.A3 n3 L.c3, .slice L.A4 n4 L.c4, .slice L.A5 n5 L.c5] 28 (0, 0))) := Lib.hid (by rw [hV6]; exact ((Below.heap_alloc _ _ _ (by first | omega | (simp <;> omega))).trans B_l.out))
      replace B_j : Hid (V6.heap[N_j]? = some (.cells #[.int .i64 j.id, .int .i64 j.q, .int .i64 j.p, .int .i64 j.r, .int .i64 j.g, .int .i64 j.c, .int .i64 j.mn, .int .i64 j.mx] 32 (0, 0))) := Lib.hid (by rw [hV6]; exact ((Below.heap_alloc _ _ _ (by first | omega | (simp <;> omega))).trans B_j.out))
      have B_f : Hid (V6.heap[U5.heap.size]? = some (.cells #[.int .i64 L.now, .int .i64 0, .int .i64 L.pr, .int .i64 L.to, .slice L.A1 n1 L.c1, .slice L.A2 n2 L.c2, .slice L.A3 n3 L.c3, .slice L.A4 n4 L.c4, .slice L.A5 n5 L.c5] 28 (0, 0))) := Lib.hid (by
        have h9 := heap_alloc_new (U5) (.cells #[.int .i64 L.now, .int .i64 0, .int .i64 L.pr, .int .i64 L.to, .slice L.A1 n1 L.c1, .slice L.A2 n2 L.c2, .slice L.A3 n3 L.c3, .slice L.A4 n4 L.c4, .slice L.A5 n5 L.c5] 28)
        rw [hV6]; exact h9)
      obtain ⟨N_f, hN_f⟩ : ∃ N, N = U5.heap.size := ⟨_, rfl⟩
      (try rw [← hN_f])
      rw [← hN_f] at B_f
      have d_l_f : N_l < N_f := by omega
      have d_j_f : N_j < N_f := by omega
      replace l_l : N_l < V6.heap.size := by omega
      replace l_j : N_j < V6.heap.size := by omega
      have l_f : N_f < V6.heap.size := by omega
      have g_f : w.heap.size ≤ N_f := by omega
      replace hlow : w.heap.size ≤ V6.heap.size := by omega
      clear hV6 hzV6 hN_f
      refine (hF0.out HF.out V6 HBel.out).mono ?_
      rintro e U7 ⟨⟨A3, k3, c3, r3, n0, nz, rfl, hE, hS, hN⟩, hb9⟩
      have hs9 := hb9.size
      have HE3 := Lib.hid (And.intro hE (And.intro (fun e => (hS e).2.2.2.1) hN))
      clear hE hS hN
      replace HBel := Lib.hid (HBel.out.trans (hb9.mono hlow))
      replace B_l : Hid (U7.heap[N_l]? = some (.cells #[.int .i64 L.now, .int .i64 L.hd, .int .i64 L.pr, .int .i64 L.to, .slice L.A1 n1 L.c1, .slice L.A2 n2 L.c2, .slice L.A3 n3 L.c3, .slice L.A4 n4 L.c4, .slice L.A5 n5 L.c5] 28 (0, 0))) := Lib.hid ((hb9.block _ l_l).trans B_l.out)
      replace B_j : Hid (U7.heap[N_j]? = some (.cells #[.int .i64 j.id, .int .i64 j.q, .int .i64 j.p, .int .i64 j.r, .int .i64 j.g, .int .i64 j.c, .int .i64 j.mn, .int .i64 j.mx] 32 (0, 0))) := Lib.hid ((hb9.block _ l_j).trans B_j.out)
      replace B_f : Hid (U7.heap[N_f]? = some (.cells #[.int .i64 L.now, .int .i64 0, .int .i64 L.pr, .int .i64 L.to, .slice L.A1 n1 L.c1, .slice L.A2 n2 L.c2, .slice L.A3 n3 L.c3, .slice L.A4 n4 L.c4, .slice L.A5 n5 L.c5] 28 (0, 0))) := Lib.hid ((hb9.block _ l_f).trans B_f.out)
      replace l_l : N_l < U7.heap.size := by omega
      replace l_j : N_j < U7.heap.size := by omega
      replace l_f : N_f < U7.heap.size := by omega
      replace hlow : w.heap.size ≤ U7.heap.size := by omega
      clear hb9 hs9
      have h0 : headL { L with hd := 0 } = none := by unfold headL; exact if_pos rfl
      obtain ⟨hrr, hnn⟩ := FillE.none_ (L := { L with hd := 0 }) HE3.out.1 (show MostE { L with hd := 0 } j m r1 from HE1.out.1) (.inl h0)
      subst hrr
      have hk13 : k3 = k1 := by
        by_cases hr : r3 = 0
        · rw [HE3.out.2.1 hr, HE1.out.2.1 hr]; exact hnn hr
        · rw [HE3.out.2.2 hr, HE1.out.2.2 hr]
      subst hk13
      have hle := FillE.le HE2.out.1 HE1.out.1
      have hk21 : k2 ≤ k3 := by
        by_cases hr : r2 = 0
        · obtain ⟨e1, e2, _⟩ := hle.2 hr
          rw [HE2.out.2.1 hr, HE1.out.2.1 e1]; exact e2
        · rw [HE2.out.2.2 hr]; exact Nat.zero_le _
      have t2 : decide (k3 < k2) = false := decide_eq_false (by omega)
      have t3 : (k3 != k3) = false := by simp
      have HLe := Lib.hid hle
      clear h0 hnn hle hk21
      by_cases hr : r3 = 0
      · subst hr
        have t4 : ((0 : Int) == 0) = true := rfl
        have t5 : ((0 : Int) != 0) = false := rfl
        by_cases hr2 : r2 = 0
        · subst hr2
          have hn20 : n2 ≤ 20 := by rw [HV.out.1]; exact HF.out.fl
          obtain ⟨i0, hi0, hz0, hz1, hz2⟩ := info_parts info_lu14
          obtain ⟨N_m, hN_m⟩ : ∃ N, N = U7.heap.size := ⟨_, rfl⟩
          obtain ⟨WA, hWA⟩ : ∃ W, W = (U7.alloc (.cells #[.int .i64 L.now, .int .i64 L.hd, .int .i64 L.pr, .int .i64 L.to, .slice L.A1 n1 L.c1, .slice L.A2 n2 L.c2, .slice L.A3 n3 L.c3, .slice L.A4 n4 L.c4, .slice L.A5 n5 L.c5] 28)).alloc (.cells #[] 40) := ⟨_, rfl⟩
          have hzA : WA.heap.size = N_m + 1 + 1 := by rw [hWA, hN_m]; simp
          have ownE : WA.ownsRow (N_m + 1) 40 2 (.slice (some ⟨N_m + 1, 0, none⟩) 0 0) 0 [] := by rw [hWA, hN_m]; have h9 := World.ownsRow_lit (base := U7.heap.size + 1) (e := 40) (size := 2) (U7.alloc (.cells #[.int .i64 L.now, .int .i64 L.hd, .int .i64 L.pr, .int .i64 L.to, .slice L.A1 n1 L.c1, .slice L.A2 n2 L.c2, .slice L.A3 n3 L.c3, .slice L.A4 n4 L.c4, .slice L.A5 n5 L.c5] 28)) #[] 0 (by simp) (by unfold maxLen; omega) rfl; rw [World.size_alloc] at h9; exact h9
          have hBA : Below w.heap.size w WA := by rw [hWA]; exact (HBel.out.alloc hlow _).alloc (by simp; omega) _
          have hUA : Below U7.heap.size U7 WA := by rw [hWA]; exact ((Below.refl _ _).alloc (Nat.le_refl _) _).alloc (by simp) _
          have hmA : WA.heap[N_m]? = some (.cells #[.int .i64 L.now, .int .i64 L.hd, .int .i64 L.pr, .int .i64 L.to, .slice L.A1 n1 L.c1, .slice L.A2 n2 L.c2, .slice L.A3 n3 L.c3, .slice L.A4 n4 L.c4, .slice L.A5 n5 L.c5] 28 (0, 0)) := by rw [hWA, hN_m]; exact (Below.heap_alloc _ _ _ (by simp)).trans (heap_alloc_new _ _)
          have helsA := Els.keep HV.out.2.2.2.1 hBA hBA.size
          have HA := Lib.hid (And.intro ownE (And.intro hBA (And.intro hUA (And.intro hmA (And.intro helsA hzA)))))
          have HNM := Lib.hid hN_m
          have HWA := Lib.hid hWA
          clear ownE hBA hUA hmA helsA hzA hN_m hWA
          have l0 : U7.cell? ⟨N_l, 0, none⟩ = some (.int .i64 L.now) := cell_blk (i := 0) B_l.out rfl
          have l1 : U7.cell? ⟨N_l, 1, none⟩ = some (.int .i64 L.hd) := cell_blk (i := 1) B_l.out rfl
          have l2 : U7.cell? ⟨N_l, 2, none⟩ = some (.int .i64 L.pr) := cell_blk (i := 2) B_l.out rfl
          have l3 : U7.cell? ⟨N_l, 3, none⟩ = some (.int .i64 L.to) := cell_blk (i := 3) B_l.out rfl
          have l4 : U7.cell? ⟨N_l, 4, none⟩ = some (.slice L.A1 n1 L.c1) := cell_blk (i := 4) B_l.out rfl
          have l5 : U7.cell? ⟨N_l, 5, none⟩ = some (.slice L.A2 n2 L.c2) := cell_blk (i := 5) B_l.out rfl
          have l6 : U7.cell? ⟨N_l, 6, none⟩ = some (.slice L.A3 n3 L.c3) := cell_blk (i := 6) B_l.out rfl
          have l7 : U7.cell? ⟨N_l, 7, none⟩ = some (.slice L.A4 n4 L.c4) := cell_blk (i := 7) B_l.out rfl
          have l8 : U7.cell? ⟨N_l, 8, none⟩ = some (.slice L.A5 n5 L.c5) := cell_blk (i := 8) B_l.out rfl
          have ll1 : N_l < U7.heap.size + 1 := by omega
          have ll2 : N_l < U7.heap.size + 1 + 1 := by omega
          go_wp2_with (at_builtin; go_loud (rw [← HNM.out, ← HWA.out]; refine wpList_append_els (C := luC) (k := 2) WA rfl _ _ 23 rfl (N_m + 1) 40 i0 _ 16 Tryd.underlying23 hi0 hz0 hz1 hz2 rfl (by decide) (.slice (some ⟨N_m + 1, 0, none⟩) 0 0) 0 [] rfl HA.out.1 _ L.A2 L.c2 n2 L.lf rfl HA.out.2.2.2.2.1 HV.out.1 luC_len luC_one (by unfold maxLen; omega) (by omega) (by have := HA.out.2.2.2.2.2; omega) ?_; intro A5 c5 w5 own5 g5 k5; rw [Nat.zero_add] at own5 ⊢; rw [List.nil_append] at own5; have bm5 : w5.heap[N_m]? = some (.cells #[.int .i64 L.now, .int .i64 L.hd, .int .i64 L.pr, .int .i64 L.to, .slice L.A1 n1 L.c1, .slice L.A2 n2 L.c2, .slice L.A3 n3 L.c3, .slice L.A4 n4 L.c4, .slice L.A5 n5 L.c5] 28 (0, 0)) := (g5.block N_m (by have := HA.out.2.2.2.2.2; omega) (by simp [Value.ownBlock])).trans HA.out.2.2.2.1; have m5 := cell_blk (i := 5) bm5 rfl; have mz5 : w5.frozen? ⟨N_m, 5, none⟩ = false := frozen_blk bm5))
          clear l0 l1 l2 l3 l4 l5 l6 l7 l8 ll1 ll2
          obtain ⟨WB, hWB⟩ : ∃ W, W = w5.setCell ⟨N_m, 5, none⟩ (.slice A5 n2 c5) := ⟨_, rfl⟩
          rw [← hWB]
          have hlm : N_l < N_m := by have := HNM.out; omega
          have hjm : N_j < N_m := by have := HNM.out; omega
          have hwm : w.heap.size ≤ N_m := by have := HNM.out; omega
          have hob : ∀ i, (Value.slice (some ⟨N_m + 1, 0, none⟩) 0 0).ownBlock = some i → i = N_m + 1 := fun i hi => by simpa [Value.ownBlock] using hi.symm
          have hB5 : Below w.heap.size w w5 := HA.out.2.1.grown g5 HA.out.2.1.size (fun i hi => by have := hob i hi; omega)
          have hU5 : Below U7.heap.size U7 w5 := HA.out.2.2.1.grown g5 HA.out.2.2.1.size (fun i hi => by have := hob i hi; have := HNM.out; omega)
          have hlB : WB.heap[N_l]? = some (.cells #[.int .i64 L.now, .int .i64 L.hd, .int .i64 L.pr, .int .i64 L.to, .slice L.A1 n1 L.c1, .slice L.A2 n2 L.c2, .slice L.A3 n3 L.c3, .slice L.A4 n4 L.c4, .slice L.A5 n5 L.c5] 28 (0, 0)) := by rw [hWB]; exact (Below.heap_setCell _ _ _ _ (by show N_l ≠ N_m; omega)).trans ((hU5.block _ l_l).trans B_l.out)
          have hjB : WB.heap[N_j]? = some (.cells #[.int .i64 j.id, .int .i64 j.q, .int .i64 j.p, .int .i64 j.r, .int .i64 j.g, .int .i64 j.c, .int .i64 j.mn, .int .i64 j.mx] 32 (0, 0)) := by rw [hWB]; exact (Below.heap_setCell _ _ _ _ (by show N_j ≠ N_m; omega)).trans ((hU5.block _ l_j).trans B_j.out)
          have hmB : WB.heap[N_m]? = some (.cells #[.int .i64 L.now, .int .i64 L.hd, .int .i64 L.pr, .int .i64 L.to, .slice L.A1 n1 L.c1, .slice A5 n2 c5, .slice L.A3 n3 L.c3, .slice L.A4 n4 L.c4, .slice L.A5 n5 L.c5] 28 (0, 0)) := by rw [hWB]; exact blk_put (i := 5) _ bm5
          have hoB : WB.ownsRow (N_m + 1) 40 2 (.slice A5 n2 c5) n2 ((upL by9 L.lf 0).flatMap luC) := by rw [hWB, upL_zero]; exact own_stays own5 (fun i hi => Below.heap_setCell _ _ _ _ (by have := (own5.lt i hi).1; show i ≠ N_m; omega))
          have hBB : Below w.heap.size w WB := by rw [hWB]; exact hB5.setCell (p := ⟨N_m, 5, none⟩) hwm _
          have HL0 := Lib.hid (And.intro hBB (And.intro hlB (And.intro hjB (And.intro hmB hoB))))
          have HLM := Lib.hid (And.intro hlm (And.intro hjm hwm))
          clear hWB hlm hjm hob hB5 hU5 hlB hjB hmB hoB hBB own5 g5 k5 bm5 m5 mz5 HBel B_l B_j B_f l_l l_j l_f hlow
          go_wp2
          go_loopw [17] (fun vi wr => ∃ (k : Nat), vi = .int .i64 k ∧ k ≤ n2 ∧ Hid (Below w.heap.size w wr ∧ wr.heap[N_l]? = some (.cells #[.int .i64 L.now, .int .i64 L.hd, .int .i64 L.pr, .int .i64 L.to, .slice L.A1 n1 L.c1, .slice L.A2 n2 L.c2, .slice L.A3 n3 L.c3, .slice L.A4 n4 L.c4, .slice L.A5 n5 L.c5] 28 (0, 0)) ∧ wr.heap[N_j]? = some (.cells #[.int .i64 j.id, .int .i64 j.q, .int .i64 j.p, .int .i64 j.r, .int .i64 j.g, .int .i64 j.c, .int .i64 j.mn, .int .i64 j.mx] 32 (0, 0)) ∧ wr.heap[N_m]? = some (.cells #[.int .i64 L.now, .int .i64 L.hd, .int .i64 L.pr, .int .i64 L.to, .slice L.A1 n1 L.c1, .slice A5 n2 c5, .slice L.A3 n3 L.c3, .slice L.A4 n4 L.c4, .slice L.A5 n5 L.c5] 28 (0, 0)) ∧ wr.ownsRow (N_m + 1) 40 2 (.slice A5 n2 c5) n2 ((upL by9 L.lf k).flatMap luC))) (fun vi _ => n2 - (intOf vi).toNat)
          case atStart => exact ⟨0, rfl, by omega, HL0⟩
          case round =>
            clear HL0
            obtain ⟨k, rfl, hk, hI⟩ := hrel
            by_cases hlt : k < n2
            · have u1 : decide (k < n2) = true := decide_eq_true hlt
              obtain ⟨x, hx⟩ := get_lt (l := L.lf) (k := k) (by rw [← HV.out.1]; exact hlt)
              obtain ⟨g, hA5, hg1, hg2, hgc, hgf⟩ := own_atE hI.out.2.2.2.2 (by omega)
              have hb9 := HF.out.f x (List.mem_of_getElem? hx)
              have hx2 := flat_get luC_len (upL_at (b := by9) hx) (r := 0) (by omega)
              have hx3 := flat_get luC_len (upL_at (b := by9) hx) (r := 1) (by omega)
              have e0 : wr.cell? ⟨g, k * 2, none⟩ = some (.int .i64 x.g) := hgc _ _ hx2
              have e1 : wr.cell? ⟨g, k * 2 + 1, none⟩ = some (.int .i64 x.c) := hgc _ _ hx3
              have ez0 := hgf (k * 2)
              have ez1 := hgf (k * 2 + 1)
              have m5 : wr.cell? ⟨N_m, 5, none⟩ = some (.slice (some ⟨g, 0, none⟩) n2 c5) := by rw [← hA5]; exact cell_blk (i := 5) hI.out.2.2.2.1 rfl
              have hgm : N_m < g := by omega
              have w1 : wrap64 (x.g + by9) = x.g + by9 := IntWalk.wrap64_in _ (by omega)
              have w2 : wrap64 (x.c + by9) = x.c + by9 := IntWalk.wrap64_in _ (by omega)
              have HX := Lib.hid (And.intro hx (And.intro hA5 (And.intro hg1 (And.intro hg2 hb9))))
              clear hgc hgf hx hA5 hx2 hx3 hb9
              have hi1 : (if 1048576 < x.g + by9 then (1048576 : Int) else x.g + by9) = (upU by9 x).g := by unfold upU; simp only; split <;> omega
              have hi2 : (if 1048576 < x.c + by9 then (1048576 : Int) else x.c + by9) = (upU by9 x).c := by unfold upU; simp only; split <;> omega
              have HIF := Lib.hid (And.intro hi1 hi2)
              clear hi1 hi2
              go_wp2
              go_region
              rw [HIF.out.1]
              clear e0 ez0 e1 ez1 m5
              obtain ⟨WC, hWC⟩ : ∃ W, W = (wr.setCell ⟨g, k * 2, none⟩ (.int .i64 (upU by9 x).g)).drew := ⟨_, rfl⟩
              rw [← hWC]
              have hLM := HLM.out
              have oI := hI.out.2.2.2.2
              rw [HX.out.2.1] at oI
              have oC : WC.ownsRow (N_m + 1) 40 2 (.slice (some ⟨g, 0, none⟩) n2 c5) n2 (((upL by9 L.lf k).flatMap luC).set (k * 2) (.int .i64 (upU by9 x).g)) := by rw [hWC]; exact own_setE _ oI
              have bC : Below w.heap.size w WC := by rw [hWC]; exact (hI.out.1.setCell (p := ⟨g, k * 2, none⟩) (by show w.heap.size ≤ g; omega) _).drew
              have kC : ∀ i, i ≤ N_m → WC.heap[i]? = wr.heap[i]? := fun i hi => by rw [hWC]; exact Below.heap_setCell _ _ _ _ (by show i ≠ g; omega)
              obtain ⟨g', hg', _, _, hgc, hgf⟩ := own_atE oC (by omega)
              injection hg' with hg'
              injection hg' with hg'
              subst hg'
              have hx3 := flat_get luC_len (upL_at (b := by9) HX.out.1) (r := 1) (by omega)
              have e1 : WC.cell? ⟨g, k * 2 + 1, none⟩ = some (.int .i64 x.c) := hgc _ _ (by rw [List.getElem?_set_ne (by omega)]; exact hx3)
              have ez1 := hgf (k * 2 + 1)
              have m5 : WC.cell? ⟨N_m, 5, none⟩ = some (.slice (some ⟨g, 0, none⟩) n2 c5) := by rw [← HX.out.2.1]; exact cell_blk (i := 5) ((kC N_m (Nat.le_refl _)).trans hI.out.2.2.2.1) rfl
              have HC := Lib.hid (And.intro oC (And.intro bC (And.intro ((kC N_l (by omega)).trans hI.out.2.1) (And.intro ((kC N_j (by omega)).trans hI.out.2.2.1) ((kC N_m (Nat.le_refl _)).trans hI.out.2.2.2.1)))))
              clear hWC oI oC bC kC hgc hgf hx3 hLM
              go_wp2
              go_region
              rw [HIF.out.2]
              clear e1 ez1 m5
              obtain ⟨WD, hWD⟩ : ∃ W, W = (WC.setCell ⟨g, k * 2 + 1, none⟩ (.int .i64 (upU by9 x).c)).drew := ⟨_, rfl⟩
              rw [← hWD]
              have hLM := HLM.out
              have oD : WD.ownsRow (N_m + 1) 40 2 (.slice A5 n2 c5) n2 ((upL by9 L.lf (k + 1)).flatMap luC) := by rw [hWD, up_flat HX.out.1, HX.out.2.1]; exact own_setE _ HC.out.1
              have bD : Below w.heap.size w WD := by rw [hWD]; exact (HC.out.2.1.setCell (p := ⟨g, k * 2 + 1, none⟩) (by show w.heap.size ≤ g; omega) _).drew
              have kD : ∀ i, i ≤ N_m → WD.heap[i]? = WC.heap[i]? := fun i hi => by rw [hWD]; exact Below.heap_setCell _ _ _ _ (by show i ≠ g; omega)
              have HD := Lib.hid (And.intro bD (And.intro ((kD N_l (by omega)).trans HC.out.2.2.1) (And.intro ((kD N_j (by omega)).trans HC.out.2.2.2.1) (And.intro ((kD N_m (Nat.le_refl _)).trans HC.out.2.2.2.2) oD))))
              clear hWD oD bD kD hLM
              go_wp2
              go_roundw
              case rel => exact ⟨k + 1, by go_num, by omega, HD⟩
              case measure => simp [intOf]; omega
            · obtain rfl : n2 = k := by omega
              have u1 : decide (n2 < n2) = false := decide_eq_false hlt
              have hlast : wr.ownsRow (N_m + 1) 40 2 (.slice A5 n2 c5) n2 ((L.lf.map (upU by9)).flatMap luC) := by
                have h9 := hI.out.2.2.2.2
                rwa [HV.out.1, upL_all, ← HV.out.1] at h9
              have HBel := Lib.hid hI.out.1
              have B_l := Lib.hid hI.out.2.1
              have B_j := Lib.hid hI.out.2.2.1
              have B_m := Lib.hid hI.out.2.2.2.1
              have l_l : N_l < wr.heap.size := blk_lt B_l.out
              have l_j : N_j < wr.heap.size := blk_lt B_j.out
              have l_m : N_m < wr.heap.size := blk_lt B_m.out
              have hlow := HBel.out.size
              have HO := Lib.hid hlast
              clear hI hlast hlt
              have hbm := HBY.out
              have hj9 := HJ9.out
              have h409 := H40.out
              have hz : wrap64 (j.mx + by9 % 3) = j.mx + by9 % 3 := IntWalk.wrap64_in _ (by omega)
              have HZ := Lib.hid hz
              clear hbm hj9 h409 hz
              have j0 : wr.cell? ⟨N_j, 0, none⟩ = some (.int .i64 j.id) := cell_blk (i := 0) B_j.out rfl
              have j1 : wr.cell? ⟨N_j, 1, none⟩ = some (.int .i64 j.q) := cell_blk (i := 1) B_j.out rfl
              have j2 : wr.cell? ⟨N_j, 2, none⟩ = some (.int .i64 j.p) := cell_blk (i := 2) B_j.out rfl
              have j3 : wr.cell? ⟨N_j, 3, none⟩ = some (.int .i64 j.r) := cell_blk (i := 3) B_j.out rfl
              have j4 : wr.cell? ⟨N_j, 4, none⟩ = some (.int .i64 j.g) := cell_blk (i := 4) B_j.out rfl
              have j5 : wr.cell? ⟨N_j, 5, none⟩ = some (.int .i64 j.c) := cell_blk (i := 5) B_j.out rfl
              have j6 : wr.cell? ⟨N_j, 6, none⟩ = some (.int .i64 j.mn) := cell_blk (i := 6) B_j.out rfl
              have j7 : wr.cell? ⟨N_j, 7, none⟩ = some (.int .i64 j.mx) := cell_blk (i := 7) B_j.out rfl
              have l_j_0 : N_j < wr.heap.size + 1 := by omega
              have m0 : wr.cell? ⟨N_m, 0, none⟩ = some (.int .i64 L.now) := cell_blk (i := 0) B_m.out rfl
              have m1 : wr.cell? ⟨N_m, 1, none⟩ = some (.int .i64 L.hd) := cell_blk (i := 1) B_m.out rfl
              have m2 : wr.cell? ⟨N_m, 2, none⟩ = some (.int .i64 L.pr) := cell_blk (i := 2) B_m.out rfl
              have m3 : wr.cell? ⟨N_m, 3, none⟩ = some (.int .i64 L.to) := cell_blk (i := 3) B_m.out rfl
              have m4 : wr.cell? ⟨N_m, 4, none⟩ = some (.slice L.A1 n1 L.c1) := cell_blk (i := 4) B_m.out rfl
              have m5 : wr.cell? ⟨N_m, 5, none⟩ = some (.slice A5 n2 c5) := cell_blk (i := 5) B_m.out rfl
              have m6 : wr.cell? ⟨N_m, 6, none⟩ = some (.slice L.A3 n3 L.c3) := cell_blk (i := 6) B_m.out rfl
              have m7 : wr.cell? ⟨N_m, 7, none⟩ = some (.slice L.A4 n4 L.c4) := cell_blk (i := 7) B_m.out rfl
              have m8 : wr.cell? ⟨N_m, 8, none⟩ = some (.slice L.A5 n5 L.c5) := cell_blk (i := 8) B_m.out rfl
              have l_m_0 : N_m < wr.heap.size + 1 := by omega
              go_wp2_with fail
              clear j0 j1 j2 j3 j4 j5 j6 j7 l_j_0 m0 m1 m2 m3 m4 m5 m6 m7 m8 l_m_0
              · have hz := HZ.out
                have hbm := HBY.out
                have hj9 := HJ9.out
                have h409 := H40.out
                have hxw : (Lit.int .i64 (16 : Int)).wf = true := WalkArith.wf_i64 (by omega)
                have hmx2 := ok_mx (most_bounds HE1.out.1).1
                have hx1 : j.mx ≤ (16 : Int) := by omega
                have hx2 : (16 : Int) ≤ 16 := by omega
                have HXX := Lib.hid (And.intro hx1 hx2)
                clear hmx2 hx1 hx2
                clear hz hbm hj9 h409
                obtain ⟨V51, hV51⟩ : ∃ W, W = wr.alloc (.cells #[.int .i64 j.id, .int .i64 j.q, .int .i64 j.p, .int .i64 j.r, .int .i64 j.g, .int .i64 j.c, .int .i64 j.mn, .int .i64 (16 : Int)] 32) := ⟨_, rfl⟩
                rw [← hV51]
                have hzV51 : V51.heap.size = wr.heap.size + 1 := by rw [hV51]; simp
                replace HBel : Hid (Below w.heap.size w V51) := Lib.hid (by rw [hV51]; exact (HBel.out.alloc (hlow) _))
                replace B_l : Hid (V51.heap[N_l]? = some (.cells #[.int .i64 L.now, .int .i64 L.hd, .int .i64 L.pr, .int .i64 L.to, .slice L.A1 n1 L.c1, .slice L.A2 n2 L.c2, .slice L.A3 n3 L.c3, .slice L.A4 n4 L.c4, .slice L.A5 n5 L.c5] 28 (0, 0))) := Lib.hid (by rw [hV51]; exact ((Below.heap_alloc _ _ _ (by first | omega | (simp <;> omega))).trans B_l.out))
                replace B_j : Hid (V51.heap[N_j]? = some (.cells #[.int .i64 j.id, .int .i64 j.q, .int .i64 j.p, .int .i64 j.r, .int .i64 j.g, .int .i64 j.c, .int .i64 j.mn, .int .i64 j.mx] 32 (0, 0))) := Lib.hid (by rw [hV51]; exact ((Below.heap_alloc _ _ _ (by first | omega | (simp <;> omega))).trans B_j.out))
                replace B_m : Hid (V51.heap[N_m]? = some (.cells #[.int .i64 L.now, .int .i64 L.hd, .int .i64 L.pr, .int .i64 L.to, .slice L.A1 n1 L.c1, .slice A5 n2 c5, .slice L.A3 n3 L.c3, .slice L.A4 n4 L.c4, .slice L.A5 n5 L.c5] 28 (0, 0))) := Lib.hid (by rw [hV51]; exact ((Below.heap_alloc _ _ _ (by first | omega | (simp <;> omega))).trans B_m.out))
                have B_y : Hid (V51.heap[wr.heap.size]? = some (.cells #[.int .i64 j.id, .int .i64 j.q, .int .i64 j.p, .int .i64 j.r, .int .i64 j.g, .int .i64 j.c, .int .i64 j.mn, .int .i64 (16 : Int)] 32 (0, 0))) := Lib.hid (by
                  have h9 := heap_alloc_new (wr) (.cells #[.int .i64 j.id, .int .i64 j.q, .int .i64 j.p, .int .i64 j.r, .int .i64 j.g, .int .i64 j.c, .int .i64 j.mn, .int .i64 (16 : Int)] 32)
                  rw [hV51]; exact h9)
                obtain ⟨N_y, hN_y⟩ : ∃ N, N = wr.heap.size := ⟨_, rfl⟩
                (try rw [← hN_y])
                rw [← hN_y] at B_y
                have d_l_y : N_l < N_y := by omega
                have d_j_y : N_j < N_y := by omega
                have d_m_y : N_m < N_y := by omega
                replace l_l : N_l < V51.heap.size := by omega
                replace l_j : N_j < V51.heap.size := by omega
                replace l_m : N_m < V51.heap.size := by omega
                have l_y : N_y < V51.heap.size := by omega
                have g_y : w.heap.size ≤ N_y := by omega
                replace hlow : w.heap.size ≤ V51.heap.size := by omega
                have HO2 := Lib.hid (show V51.ownsRow (N_m + 1) 40 2 (.slice A5 n2 c5) n2 ((L.lf.map (upU by9)).flatMap luC) from by rw [hV51]; exact own_keep HO.out ((Below.refl _ _).alloc (Nat.le_refl _) _))
                clear hV51 hzV51 hN_y
                refine (hM2.out HF.out (16 : Int) hxw A5 c5 (N_m + 1) V51 HBel.out HO2.out).mono ?_
                rintro e U52 ⟨⟨A4, k4, c4, r4, m4, rfl, hE4, hS4, hN4⟩, hb9⟩
                have hs9 := hb9.size
                replace HBel := Lib.hid (HBel.out.trans (hb9.mono hlow))
                replace B_l : Hid (U52.heap[N_l]? = some (.cells #[.int .i64 L.now, .int .i64 L.hd, .int .i64 L.pr, .int .i64 L.to, .slice L.A1 n1 L.c1, .slice L.A2 n2 L.c2, .slice L.A3 n3 L.c3, .slice L.A4 n4 L.c4, .slice L.A5 n5 L.c5] 28 (0, 0))) := Lib.hid ((hb9.block _ l_l).trans B_l.out)
                replace B_j : Hid (U52.heap[N_j]? = some (.cells #[.int .i64 j.id, .int .i64 j.q, .int .i64 j.p, .int .i64 j.r, .int .i64 j.g, .int .i64 j.c, .int .i64 j.mn, .int .i64 j.mx] 32 (0, 0))) := Lib.hid ((hb9.block _ l_j).trans B_j.out)
                replace B_m : Hid (U52.heap[N_m]? = some (.cells #[.int .i64 L.now, .int .i64 L.hd, .int .i64 L.pr, .int .i64 L.to, .slice L.A1 n1 L.c1, .slice A5 n2 c5, .slice L.A3 n3 L.c3, .slice L.A4 n4 L.c4, .slice L.A5 n5 L.c5] 28 (0, 0))) := Lib.hid ((hb9.block _ l_m).trans B_m.out)
                replace B_y : Hid (U52.heap[N_y]? = some (.cells #[.int .i64 j.id, .int .i64 j.q, .int .i64 j.p, .int .i64 j.r, .int .i64 j.g, .int .i64 j.c, .int .i64 j.mn, .int .i64 (16 : Int)] 32 (0, 0))) := Lib.hid ((hb9.block _ l_y).trans B_y.out)
                replace l_l : N_l < U52.heap.size := by omega
                replace l_j : N_j < U52.heap.size := by omega
                replace l_m : N_m < U52.heap.size := by omega
                replace l_y : N_y < U52.heap.size := by omega
                replace hlow : w.heap.size ≤ U52.heap.size := by omega
                clear hb9 hs9
                obtain ⟨hr4, hm4⟩ := more_grow (L := L) (L' := { L with A2 := A5, c2 := c5, lf := L.lf.map (upU by9) }) (j := j) (b := by9) (x := (16 : Int)) rfl rfl HBY.out.1 (fun u hu => by have := HF.out.f u hu; omega) HXX.out.1 HXX.out.2 HE1.out.1 hE4
                subst hr4
                have hk4 := (hS4 rfl).1
                have hk3 := HE1.out.2.1 (by first | rfl | trivial)
                have u7 : decide (k3 ≤ k4) = true := decide_eq_true (by omega)
                clear hE4 hS4 hN4 hm4 hk4 hk3
                go_wp2
                go_ret
                exact ⟨by first | rfl | (simp; done), by rw [HB0.out]; exact HBel.out⟩
              · have hz := HZ.out
                have hbm := HBY.out
                have hj9 := HJ9.out
                have h409 := H40.out
                have hxw : (Lit.int .i64 (wrap64 (j.mx + by9 % 3))).wf = true := WalkArith.wf_i64 (by omega)
                have hmx2 := ok_mx (most_bounds HE1.out.1).1
                have hx1 : j.mx ≤ (wrap64 (j.mx + by9 % 3)) := by omega
                have hx2 : (wrap64 (j.mx + by9 % 3)) ≤ 16 := by omega
                have HXX := Lib.hid (And.intro hx1 hx2)
                clear hmx2 hx1 hx2
                clear hz hbm hj9 h409
                obtain ⟨V51, hV51⟩ : ∃ W, W = wr.alloc (.cells #[.int .i64 j.id, .int .i64 j.q, .int .i64 j.p, .int .i64 j.r, .int .i64 j.g, .int .i64 j.c, .int .i64 j.mn, .int .i64 (wrap64 (j.mx + by9 % 3))] 32) := ⟨_, rfl⟩
                rw [← hV51]
                have hzV51 : V51.heap.size = wr.heap.size + 1 := by rw [hV51]; simp
                replace HBel : Hid (Below w.heap.size w V51) := Lib.hid (by rw [hV51]; exact (HBel.out.alloc (hlow) _))
                replace B_l : Hid (V51.heap[N_l]? = some (.cells #[.int .i64 L.now, .int .i64 L.hd, .int .i64 L.pr, .int .i64 L.to, .slice L.A1 n1 L.c1, .slice L.A2 n2 L.c2, .slice L.A3 n3 L.c3, .slice L.A4 n4 L.c4, .slice L.A5 n5 L.c5] 28 (0, 0))) := Lib.hid (by rw [hV51]; exact ((Below.heap_alloc _ _ _ (by first | omega | (simp <;> omega))).trans B_l.out))
                replace B_j : Hid (V51.heap[N_j]? = some (.cells #[.int .i64 j.id, .int .i64 j.q, .int .i64 j.p, .int .i64 j.r, .int .i64 j.g, .int .i64 j.c, .int .i64 j.mn, .int .i64 j.mx] 32 (0, 0))) := Lib.hid (by rw [hV51]; exact ((Below.heap_alloc _ _ _ (by first | omega | (simp <;> omega))).trans B_j.out))
                replace B_m : Hid (V51.heap[N_m]? = some (.cells #[.int .i64 L.now, .int .i64 L.hd, .int .i64 L.pr, .int .i64 L.to, .slice L.A1 n1 L.c1, .slice A5 n2 c5, .slice L.A3 n3 L.c3, .slice L.A4 n4 L.c4, .slice L.A5 n5 L.c5] 28 (0, 0))) := Lib.hid (by rw [hV51]; exact ((Below.heap_alloc _ _ _ (by first | omega | (simp <;> omega))).trans B_m.out))
                have B_y : Hid (V51.heap[wr.heap.size]? = some (.cells #[.int .i64 j.id, .int .i64 j.q, .int .i64 j.p, .int .i64 j.r, .int .i64 j.g, .int .i64 j.c, .int .i64 j.mn, .int .i64 (wrap64 (j.mx + by9 % 3))] 32 (0, 0))) := Lib.hid (by
                  have h9 := heap_alloc_new (wr) (.cells #[.int .i64 j.id, .int .i64 j.q, .int .i64 j.p, .int .i64 j.r, .int .i64 j.g, .int .i64 j.c, .int .i64 j.mn, .int .i64 (wrap64 (j.mx + by9 % 3))] 32)
                  rw [hV51]; exact h9)
                obtain ⟨N_y, hN_y⟩ : ∃ N, N = wr.heap.size := ⟨_, rfl⟩
                (try rw [← hN_y])
                rw [← hN_y] at B_y
                have d_l_y : N_l < N_y := by omega
                have d_j_y : N_j < N_y := by omega
                have d_m_y : N_m < N_y := by omega
                replace l_l : N_l < V51.heap.size := by omega
                replace l_j : N_j < V51.heap.size := by omega
                replace l_m : N_m < V51.heap.size := by omega
                have l_y : N_y < V51.heap.size := by omega
                have g_y : w.heap.size ≤ N_y := by omega
                replace hlow : w.heap.size ≤ V51.heap.size := by omega
                have HO2 := Lib.hid (show V51.ownsRow (N_m + 1) 40 2 (.slice A5 n2 c5) n2 ((L.lf.map (upU by9)).flatMap luC) from by rw [hV51]; exact own_keep HO.out ((Below.refl _ _).alloc (Nat.le_refl _) _))
                clear hV51 hzV51 hN_y
                refine (hM2.out HF.out (wrap64 (j.mx + by9 % 3)) hxw A5 c5 (N_m + 1) V51 HBel.out HO2.out).mono ?_
                rintro e U52 ⟨⟨A4, k4, c4, r4, m4, rfl, hE4, hS4, hN4⟩, hb9⟩
                have hs9 := hb9.size
                replace HBel := Lib.hid (HBel.out.trans (hb9.mono hlow))
                replace B_l : Hid (U52.heap[N_l]? = some (.cells #[.int .i64 L.now, .int .i64 L.hd, .int .i64 L.pr, .int .i64 L.to, .slice L.A1 n1 L.c1, .slice L.A2 n2 L.c2, .slice L.A3 n3 L.c3, .slice L.A4 n4 L.c4, .slice L.A5 n5 L.c5] 28 (0, 0))) := Lib.hid ((hb9.block _ l_l).trans B_l.out)
                replace B_j : Hid (U52.heap[N_j]? = some (.cells #[.int .i64 j.id, .int .i64 j.q, .int .i64 j.p, .int .i64 j.r, .int .i64 j.g, .int .i64 j.c, .int .i64 j.mn, .int .i64 j.mx] 32 (0, 0))) := Lib.hid ((hb9.block _ l_j).trans B_j.out)
                replace B_m : Hid (U52.heap[N_m]? = some (.cells #[.int .i64 L.now, .int .i64 L.hd, .int .i64 L.pr, .int .i64 L.to, .slice L.A1 n1 L.c1, .slice A5 n2 c5, .slice L.A3 n3 L.c3, .slice L.A4 n4 L.c4, .slice L.A5 n5 L.c5] 28 (0, 0))) := Lib.hid ((hb9.block _ l_m).trans B_m.out)
                replace B_y : Hid (U52.heap[N_y]? = some (.cells #[.int .i64 j.id, .int .i64 j.q, .int .i64 j.p, .int .i64 j.r, .int .i64 j.g, .int .i64 j.c, .int .i64 j.mn, .int .i64 (wrap64 (j.mx + by9 % 3))] 32 (0, 0))) := Lib.hid ((hb9.block _ l_y).trans B_y.out)
                replace l_l : N_l < U52.heap.size := by omega
                replace l_j : N_j < U52.heap.size := by omega
                replace l_m : N_m < U52.heap.size := by omega
                replace l_y : N_y < U52.heap.size := by omega
                replace hlow : w.heap.size ≤ U52.heap.size := by omega
                clear hb9 hs9
                obtain ⟨hr4, hm4⟩ := more_grow (L := L) (L' := { L with A2 := A5, c2 := c5, lf := L.lf.map (upU by9) }) (j := j) (b := by9) (x := (wrap64 (j.mx + by9 % 3))) rfl rfl HBY.out.1 (fun u hu => by have := HF.out.f u hu; omega) HXX.out.1 HXX.out.2 HE1.out.1 hE4
                subst hr4
                have hk4 := (hS4 rfl).1
                have hk3 := HE1.out.2.1 (by first | rfl | trivial)
                have u7 : decide (k3 ≤ k4) = true := decide_eq_true (by omega)
                clear hE4 hS4 hN4 hm4 hk4 hk3
                go_wp2
                go_ret
                exact ⟨by first | rfl | (simp; done), by rw [HB0.out]; exact HBel.out⟩
        · have t6 : (r2 == 0) = false := by simp [hr2]
          clear hr2
          have hn20 : n2 ≤ 20 := by rw [HV.out.1]; exact HF.out.fl
          obtain ⟨i0, hi0, hz0, hz1, hz2⟩ := info_parts info_lu14
          obtain ⟨N_m, hN_m⟩ : ∃ N, N = U7.heap.size := ⟨_, rfl⟩
          obtain ⟨WA, hWA⟩ : ∃ W, W = (U7.alloc (.cells #[.int .i64 L.now, .int .i64 L.hd, .int .i64 L.pr, .int .i64 L.to, .slice L.A1 n1 L.c1, .slice L.A2 n2 L.c2, .slice L.A3 n3 L.c3, .slice L.A4 n4 L.c4, .slice L.A5 n5 L.c5] 28)).alloc (.cells #[] 40) := ⟨_, rfl⟩
          have hzA : WA.heap.size = N_m + 1 + 1 := by rw [hWA, hN_m]; simp
          have ownE : WA.ownsRow (N_m + 1) 40 2 (.slice (some ⟨N_m + 1, 0, none⟩) 0 0) 0 [] := by rw [hWA, hN_m]; have h9 := World.ownsRow_lit (base := U7.heap.size + 1) (e := 40) (size := 2) (U7.alloc (.cells #[.int .i64 L.now, .int .i64 L.hd, .int .i64 L.pr, .int .i64 L.to, .slice L.A1 n1 L.c1, .slice L.A2 n2 L.c2, .slice L.A3 n3 L.c3, .slice L.A4 n4 L.c4, .slice L.A5 n5 L.c5] 28)) #[] 0 (by simp) (by unfold maxLen; omega) rfl; rw [World.size_alloc] at h9; exact h9
          have hBA : Below w.heap.size w WA := by rw [hWA]; exact (HBel.out.alloc hlow _).alloc (by simp; omega) _
          have hUA : Below U7.heap.size U7 WA := by rw [hWA]; exact ((Below.refl _ _).alloc (Nat.le_refl _) _).alloc (by simp) _
          have hmA : WA.heap[N_m]? = some (.cells #[.int .i64 L.now, .int .i64 L.hd, .int .i64 L.pr, .int .i64 L.to, .slice L.A1 n1 L.c1, .slice L.A2 n2 L.c2, .slice L.A3 n3 L.c3, .slice L.A4 n4 L.c4, .slice L.A5 n5 L.c5] 28 (0, 0)) := by rw [hWA, hN_m]; exact (Below.heap_alloc _ _ _ (by simp)).trans (heap_alloc_new _ _)
          have helsA := Els.keep HV.out.2.2.2.1 hBA hBA.size
          have HA := Lib.hid (And.intro ownE (And.intro hBA (And.intro hUA (And.intro hmA (And.intro helsA hzA)))))
          have HNM := Lib.hid hN_m
          have HWA := Lib.hid hWA
          clear ownE hBA hUA hmA helsA hzA hN_m hWA
          have l0 : U7.cell? ⟨N_l, 0, none⟩ = some (.int .i64 L.now) := cell_blk (i := 0) B_l.out rfl
          have l1 : U7.cell? ⟨N_l, 1, none⟩ = some (.int .i64 L.hd) := cell_blk (i := 1) B_l.out rfl
          have l2 : U7.cell? ⟨N_l, 2, none⟩ = some (.int .i64 L.pr) := cell_blk (i := 2) B_l.out rfl
          have l3 : U7.cell? ⟨N_l, 3, none⟩ = some (.int .i64 L.to) := cell_blk (i := 3) B_l.out rfl
          have l4 : U7.cell? ⟨N_l, 4, none⟩ = some (.slice L.A1 n1 L.c1) := cell_blk (i := 4) B_l.out rfl
          have l5 : U7.cell? ⟨N_l, 5, none⟩ = some (.slice L.A2 n2 L.c2) := cell_blk (i := 5) B_l.out rfl
          have l6 : U7.cell? ⟨N_l, 6, none⟩ = some (.slice L.A3 n3 L.c3) := cell_blk (i := 6) B_l.out rfl
          have l7 : U7.cell? ⟨N_l, 7, none⟩ = some (.slice L.A4 n4 L.c4) := cell_blk (i := 7) B_l.out rfl
          have l8 : U7.cell? ⟨N_l, 8, none⟩ = some (.slice L.A5 n5 L.c5) := cell_blk (i := 8) B_l.out rfl
          have ll1 : N_l < U7.heap.size + 1 := by omega
          have ll2 : N_l < U7.heap.size + 1 + 1 := by omega
          go_wp2_with (at_builtin; go_loud (rw [← HNM.out, ← HWA.out]; refine wpList_append_els (C := luC) (k := 2) WA rfl _ _ 23 rfl (N_m + 1) 40 i0 _ 16 Tryd.underlying23 hi0 hz0 hz1 hz2 rfl (by decide) (.slice (some ⟨N_m + 1, 0, none⟩) 0 0) 0 [] rfl HA.out.1 _ L.A2 L.c2 n2 L.lf rfl HA.out.2.2.2.2.1 HV.out.1 luC_len luC_one (by unfold maxLen; omega) (by omega) (by have := HA.out.2.2.2.2.2; omega) ?_; intro A5 c5 w5 own5 g5 k5; rw [Nat.zero_add] at own5 ⊢; rw [List.nil_append] at own5; have bm5 : w5.heap[N_m]? = some (.cells #[.int .i64 L.now, .int .i64 L.hd, .int .i64 L.pr, .int .i64 L.to, .slice L.A1 n1 L.c1, .slice L.A2 n2 L.c2, .slice L.A3 n3 L.c3, .slice L.A4 n4 L.c4, .slice L.A5 n5 L.c5] 28 (0, 0)) := (g5.block N_m (by have := HA.out.2.2.2.2.2; omega) (by simp [Value.ownBlock])).trans HA.out.2.2.2.1; have m5 := cell_blk (i := 5) bm5 rfl; have mz5 : w5.frozen? ⟨N_m, 5, none⟩ = false := frozen_blk bm5))
          clear l0 l1 l2 l3 l4 l5 l6 l7 l8 ll1 ll2
          obtain ⟨WB, hWB⟩ : ∃ W, W = w5.setCell ⟨N_m, 5, none⟩ (.slice A5 n2 c5) := ⟨_, rfl⟩
          rw [← hWB]
          have hlm : N_l < N_m := by have := HNM.out; omega
          have hjm : N_j < N_m := by have := HNM.out; omega
          have hwm : w.heap.size ≤ N_m := by have := HNM.out; omega
          have hob : ∀ i, (Value.slice (some ⟨N_m + 1, 0, none⟩) 0 0).ownBlock = some i → i = N_m + 1 := fun i hi => by simpa [Value.ownBlock] using hi.symm
          have hB5 : Below w.heap.size w w5 := HA.out.2.1.grown g5 HA.out.2.1.size (fun i hi => by have := hob i hi; omega)
          have hU5 : Below U7.heap.size U7 w5 := HA.out.2.2.1.grown g5 HA.out.2.2.1.size (fun i hi => by have := hob i hi; have := HNM.out; omega)
          have hlB : WB.heap[N_l]? = some (.cells #[.int .i64 L.now, .int .i64 L.hd, .int .i64 L.pr, .int .i64 L.to, .slice L.A1 n1 L.c1, .slice L.A2 n2 L.c2, .slice L.A3 n3 L.c3, .slice L.A4 n4 L.c4, .slice L.A5 n5 L.c5] 28 (0, 0)) := by rw [hWB]; exact (Below.heap_setCell _ _ _ _ (by show N_l ≠ N_m; omega)).trans ((hU5.block _ l_l).trans B_l.out)
          have hjB : WB.heap[N_j]? = some (.cells #[.int .i64 j.id, .int .i64 j.q, .int .i64 j.p, .int .i64 j.r, .int .i64 j.g, .int .i64 j.c, .int .i64 j.mn, .int .i64 j.mx] 32 (0, 0)) := by rw [hWB]; exact (Below.heap_setCell _ _ _ _ (by show N_j ≠ N_m; omega)).trans ((hU5.block _ l_j).trans B_j.out)
          have hmB : WB.heap[N_m]? = some (.cells #[.int .i64 L.now, .int .i64 L.hd, .int .i64 L.pr, .int .i64 L.to, .slice L.A1 n1 L.c1, .slice A5 n2 c5, .slice L.A3 n3 L.c3, .slice L.A4 n4 L.c4, .slice L.A5 n5 L.c5] 28 (0, 0)) := by rw [hWB]; exact blk_put (i := 5) _ bm5
          have hoB : WB.ownsRow (N_m + 1) 40 2 (.slice A5 n2 c5) n2 ((upL by9 L.lf 0).flatMap luC) := by rw [hWB, upL_zero]; exact own_stays own5 (fun i hi => Below.heap_setCell _ _ _ _ (by have := (own5.lt i hi).1; show i ≠ N_m; omega))
          have hBB : Below w.heap.size w WB := by rw [hWB]; exact hB5.setCell (p := ⟨N_m, 5, none⟩) hwm _
          have HL0 := Lib.hid (And.intro hBB (And.intro hlB (And.intro hjB (And.intro hmB hoB))))
          have HLM := Lib.hid (And.intro hlm (And.intro hjm hwm))
          clear hWB hlm hjm hob hB5 hU5 hlB hjB hmB hoB hBB own5 g5 k5 bm5 m5 mz5 HBel B_l B_j B_f l_l l_j l_f hlow
          go_wp2
          go_loopw [17] (fun vi wr => ∃ (k : Nat), vi = .int .i64 k ∧ k ≤ n2 ∧ Hid (Below w.heap.size w wr ∧ wr.heap[N_l]? = some (.cells #[.int .i64 L.now, .int .i64 L.hd, .int .i64 L.pr, .int .i64 L.to, .slice L.A1 n1 L.c1, .slice L.A2 n2 L.c2, .slice L.A3 n3 L.c3, .slice L.A4 n4 L.c4, .slice L.A5 n5 L.c5] 28 (0, 0)) ∧ wr.heap[N_j]? = some (.cells #[.int .i64 j.id, .int .i64 j.q, .int .i64 j.p, .int .i64 j.r, .int .i64 j.g, .int .i64 j.c, .int .i64 j.mn, .int .i64 j.mx] 32 (0, 0)) ∧ wr.heap[N_m]? = some (.cells #[.int .i64 L.now, .int .i64 L.hd, .int .i64 L.pr, .int .i64 L.to, .slice L.A1 n1 L.c1, .slice A5 n2 c5, .slice L.A3 n3 L.c3, .slice L.A4 n4 L.c4, .slice L.A5 n5 L.c5] 28 (0, 0)) ∧ wr.ownsRow (N_m + 1) 40 2 (.slice A5 n2 c5) n2 ((upL by9 L.lf k).flatMap luC))) (fun vi _ => n2 - (intOf vi).toNat)
          case atStart => exact ⟨0, rfl, by omega, HL0⟩
          case round =>
            clear HL0
            obtain ⟨k, rfl, hk, hI⟩ := hrel
            by_cases hlt : k < n2
            · have u1 : decide (k < n2) = true := decide_eq_true hlt
              obtain ⟨x, hx⟩ := get_lt (l := L.lf) (k := k) (by rw [← HV.out.1]; exact hlt)
              obtain ⟨g, hA5, hg1, hg2, hgc, hgf⟩ := own_atE hI.out.2.2.2.2 (by omega)
              have hb9 := HF.out.f x (List.mem_of_getElem? hx)
              have hx2 := flat_get luC_len (upL_at (b := by9) hx) (r := 0) (by omega)
              have hx3 := flat_get luC_len (upL_at (b := by9) hx) (r := 1) (by omega)
              have e0 : wr.cell? ⟨g, k * 2, none⟩ = some (.int .i64 x.g) := hgc _ _ hx2
              have e1 : wr.cell? ⟨g, k * 2 + 1, none⟩ = some (.int .i64 x.c) := hgc _ _ hx3
              have ez0 := hgf (k * 2)
              have ez1 := hgf (k * 2 + 1)
              have m5 : wr.cell? ⟨N_m, 5, none⟩ = some (.slice (some ⟨g, 0, none⟩) n2 c5) := by rw [← hA5]; exact cell_blk (i := 5) hI.out.2.2.2.1 rfl
              have hgm : N_m < g := by omega
              have w1 : wrap64 (x.g + by9) = x.g + by9 := IntWalk.wrap64_in _ (by omega)
              have w2 : wrap64 (x.c + by9) = x.c + by9 := IntWalk.wrap64_in _ (by omega)
              have HX := Lib.hid (And.intro hx (And.intro hA5 (And.intro hg1 (And.intro hg2 hb9))))
              clear hgc hgf hx hA5 hx2 hx3 hb9
              have hi1 : (if 1048576 < x.g + by9 then (1048576 : Int) else x.g + by9) = (upU by9 x).g := by unfold upU; simp only; split <;> omega
              have hi2 : (if 1048576 < x.c + by9 then (1048576 : Int) else x.c + by9) = (upU by9 x).c := by unfold upU; simp only; split <;> omega
              have HIF := Lib.hid (And.intro hi1 hi2)
              clear hi1 hi2
              go_wp2
              go_region
              rw [HIF.out.1]
              clear e0 ez0 e1 ez1 m5
              obtain ⟨WC, hWC⟩ : ∃ W, W = (wr.setCell ⟨g, k * 2, none⟩ (.int .i64 (upU by9 x).g)).drew := ⟨_, rfl⟩
              rw [← hWC]
              have hLM := HLM.out
              have oI := hI.out.2.2.2.2
              rw [HX.out.2.1] at oI
              have oC : WC.ownsRow (N_m + 1) 40 2 (.slice (some ⟨g, 0, none⟩) n2 c5) n2 (((upL by9 L.lf k).flatMap luC).set (k * 2) (.int .i64 (upU by9 x).g)) := by rw [hWC]; exact own_setE _ oI
              have bC : Below w.heap.size w WC := by rw [hWC]; exact (hI.out.1.setCell (p := ⟨g, k * 2, none⟩) (by show w.heap.size ≤ g; omega) _).drew
              have kC : ∀ i, i ≤ N_m → WC.heap[i]? = wr.heap[i]? := fun i hi => by rw [hWC]; exact Below.heap_setCell _ _ _ _ (by show i ≠ g; omega)
              obtain ⟨g', hg', _, _, hgc, hgf⟩ := own_atE oC (by omega)
              injection hg' with hg'
              injection hg' with hg'
              subst hg'
              have hx3 := flat_get luC_len (upL_at (b := by9) HX.out.1) (r := 1) (by omega)
              have e1 : WC.cell? ⟨g, k * 2 + 1, none⟩ = some (.int .i64 x.c) := hgc _ _ (by rw [List.getElem?_set_ne (by omega)]; exact hx3)
              have ez1 := hgf (k * 2 + 1)
              have m5 : WC.cell? ⟨N_m, 5, none⟩ = some (.slice (some ⟨g, 0, none⟩) n2 c5) := by rw [← HX.out.2.1]; exact cell_blk (i := 5) ((kC N_m (Nat.le_refl _)).trans hI.out.2.2.2.1) rfl
              have HC := Lib.hid (And.intro oC (And.intro bC (And.intro ((kC N_l (by omega)).trans hI.out.2.1) (And.intro ((kC N_j (by omega)).trans hI.out.2.2.1) ((kC N_m (Nat.le_refl _)).trans hI.out.2.2.2.1)))))
              clear hWC oI oC bC kC hgc hgf hx3 hLM
              go_wp2
              go_region
              rw [HIF.out.2]
              clear e1 ez1 m5
              obtain ⟨WD, hWD⟩ : ∃ W, W = (WC.setCell ⟨g, k * 2 + 1, none⟩ (.int .i64 (upU by9 x).c)).drew := ⟨_, rfl⟩
              rw [← hWD]
              have hLM := HLM.out
              have oD : WD.ownsRow (N_m + 1) 40 2 (.slice A5 n2 c5) n2 ((upL by9 L.lf (k + 1)).flatMap luC) := by rw [hWD, up_flat HX.out.1, HX.out.2.1]; exact own_setE _ HC.out.1
              have bD : Below w.heap.size w WD := by rw [hWD]; exact (HC.out.2.1.setCell (p := ⟨g, k * 2 + 1, none⟩) (by show w.heap.size ≤ g; omega) _).drew
              have kD : ∀ i, i ≤ N_m → WD.heap[i]? = WC.heap[i]? := fun i hi => by rw [hWD]; exact Below.heap_setCell _ _ _ _ (by show i ≠ g; omega)
              have HD := Lib.hid (And.intro bD (And.intro ((kD N_l (by omega)).trans HC.out.2.2.1) (And.intro ((kD N_j (by omega)).trans HC.out.2.2.2.1) (And.intro ((kD N_m (Nat.le_refl _)).trans HC.out.2.2.2.2) oD))))
              clear hWD oD bD kD hLM
              go_wp2
              go_roundw
              case rel => exact ⟨k + 1, by go_num, by omega, HD⟩
              case measure => simp [intOf]; omega
            · obtain rfl : n2 = k := by omega
              have u1 : decide (n2 < n2) = false := decide_eq_false hlt
              have hlast : wr.ownsRow (N_m + 1) 40 2 (.slice A5 n2 c5) n2 ((L.lf.map (upU by9)).flatMap luC) := by
                have h9 := hI.out.2.2.2.2
                rwa [HV.out.1, upL_all, ← HV.out.1] at h9
              have HBel := Lib.hid hI.out.1
              have B_l := Lib.hid hI.out.2.1
              have B_j := Lib.hid hI.out.2.2.1
              have B_m := Lib.hid hI.out.2.2.2.1
              have l_l : N_l < wr.heap.size := blk_lt B_l.out
              have l_j : N_j < wr.heap.size := blk_lt B_j.out
              have l_m : N_m < wr.heap.size := blk_lt B_m.out
              have hlow := HBel.out.size
              have HO := Lib.hid hlast
              clear hI hlast hlt
              have hbm := HBY.out
              have hj9 := HJ9.out
              have h409 := H40.out
              have hz : wrap64 (j.mx + by9 % 3) = j.mx + by9 % 3 := IntWalk.wrap64_in _ (by omega)
              have HZ := Lib.hid hz
              clear hbm hj9 h409 hz
              have j0 : wr.cell? ⟨N_j, 0, none⟩ = some (.int .i64 j.id) := cell_blk (i := 0) B_j.out rfl
              have j1 : wr.cell? ⟨N_j, 1, none⟩ = some (.int .i64 j.q) := cell_blk (i := 1) B_j.out rfl
              have j2 : wr.cell? ⟨N_j, 2, none⟩ = some (.int .i64 j.p) := cell_blk (i := 2) B_j.out rfl
              have j3 : wr.cell? ⟨N_j, 3, none⟩ = some (.int .i64 j.r) := cell_blk (i := 3) B_j.out rfl
              have j4 : wr.cell? ⟨N_j, 4, none⟩ = some (.int .i64 j.g) := cell_blk (i := 4) B_j.out rfl
              have j5 : wr.cell? ⟨N_j, 5, none⟩ = some (.int .i64 j.c) := cell_blk (i := 5) B_j.out rfl
              have j6 : wr.cell? ⟨N_j, 6, none⟩ = some (.int .i64 j.mn) := cell_blk (i := 6) B_j.out rfl
              have j7 : wr.cell? ⟨N_j, 7, none⟩ = some (.int .i64 j.mx) := cell_blk (i := 7) B_j.out rfl
              have l_j_0 : N_j < wr.heap.size + 1 := by omega
              have m0 : wr.cell? ⟨N_m, 0, none⟩ = some (.int .i64 L.now) := cell_blk (i := 0) B_m.out rfl
              have m1 : wr.cell? ⟨N_m, 1, none⟩ = some (.int .i64 L.hd) := cell_blk (i := 1) B_m.out rfl
              have m2 : wr.cell? ⟨N_m, 2, none⟩ = some (.int .i64 L.pr) := cell_blk (i := 2) B_m.out rfl
              have m3 : wr.cell? ⟨N_m, 3, none⟩ = some (.int .i64 L.to) := cell_blk (i := 3) B_m.out rfl
              have m4 : wr.cell? ⟨N_m, 4, none⟩ = some (.slice L.A1 n1 L.c1) := cell_blk (i := 4) B_m.out rfl
              have m5 : wr.cell? ⟨N_m, 5, none⟩ = some (.slice A5 n2 c5) := cell_blk (i := 5) B_m.out rfl
              have m6 : wr.cell? ⟨N_m, 6, none⟩ = some (.slice L.A3 n3 L.c3) := cell_blk (i := 6) B_m.out rfl
              have m7 : wr.cell? ⟨N_m, 7, none⟩ = some (.slice L.A4 n4 L.c4) := cell_blk (i := 7) B_m.out rfl
              have m8 : wr.cell? ⟨N_m, 8, none⟩ = some (.slice L.A5 n5 L.c5) := cell_blk (i := 8) B_m.out rfl
              have l_m_0 : N_m < wr.heap.size + 1 := by omega
              go_wp2_with fail
              clear j0 j1 j2 j3 j4 j5 j6 j7 l_j_0 m0 m1 m2 m3 m4 m5 m6 m7 m8 l_m_0
              · have hz := HZ.out
                have hbm := HBY.out
                have hj9 := HJ9.out
                have h409 := H40.out
                have hxw : (Lit.int .i64 (16 : Int)).wf = true := WalkArith.wf_i64 (by omega)
                have hmx2 := ok_mx (most_bounds HE1.out.1).1
                have hx1 : j.mx ≤ (16 : Int) := by omega
                have hx2 : (16 : Int) ≤ 16 := by omega
                have HXX := Lib.hid (And.intro hx1 hx2)
                clear hmx2 hx1 hx2
                clear hz hbm hj9 h409
                obtain ⟨V51, hV51⟩ : ∃ W, W = wr.alloc (.cells #[.int .i64 j.id, .int .i64 j.q, .int .i64 j.p, .int .i64 j.r, .int .i64 j.g, .int .i64 j.c, .int .i64 j.mn, .int .i64 (16 : Int)] 32) := ⟨_, rfl⟩
                rw [← hV51]
                have hzV51 : V51.heap.size = wr.heap.size + 1 := by rw [hV51]; simp
                replace HBel : Hid (Below w.heap.size w V51) := Lib.hid (by rw [hV51]; exact (HBel.out.alloc (hlow) _))
                replace B_l : Hid (V51.heap[N_l]? = some (.cells #[.int .i64 L.now, .int .i64 L.hd, .int .i64 L.pr, .int .i64 L.to, .slice L.A1 n1 L.c1, .slice L.A2 n2 L.c2, .slice L.A3 n3 L.c3, .slice L.A4 n4 L.c4, .slice L.A5 n5 L.c5] 28 (0, 0))) := Lib.hid (by rw [hV51]; exact ((Below.heap_alloc _ _ _ (by first | omega | (simp <;> omega))).trans B_l.out))
                replace B_j : Hid (V51.heap[N_j]? = some (.cells #[.int .i64 j.id, .int .i64 j.q, .int .i64 j.p, .int .i64 j.r, .int .i64 j.g, .int .i64 j.c, .int .i64 j.mn, .int .i64 j.mx] 32 (0, 0))) := Lib.hid (by rw [hV51]; exact ((Below.heap_alloc _ _ _ (by first | omega | (simp <;> omega))).trans B_j.out))
                replace B_m : Hid (V51.heap[N_m]? = some (.cells #[.int .i64 L.now, .int .i64 L.hd, .int .i64 L.pr, .int .i64 L.to, .slice L.A1 n1 L.c1, .slice A5 n2 c5, .slice L.A3 n3 L.c3, .slice L.A4 n4 L.c4, .slice L.A5 n5 L.c5] 28 (0, 0))) := Lib.hid (by rw [hV51]; exact ((Below.heap_alloc _ _ _ (by first | omega | (simp <;> omega))).trans B_m.out))
                have B_y : Hid (V51.heap[wr.heap.size]? = some (.cells #[.int .i64 j.id, .int .i64 j.q, .int .i64 j.p, .int .i64 j.r, .int .i64 j.g, .int .i64 j.c, .int .i64 j.mn, .int .i64 (16 : Int)] 32 (0, 0))) := Lib.hid (by
                  have h9 := heap_alloc_new (wr) (.cells #[.int .i64 j.id, .int .i64 j.q, .int .i64 j.p, .int .i64 j.r, .int .i64 j.g, .int .i64 j.c, .int .i64 j.mn, .int .i64 (16 : Int)] 32)
                  rw [hV51]; exact h9)
                obtain ⟨N_y, hN_y⟩ : ∃ N, N = wr.heap.size := ⟨_, rfl⟩
                (try rw [← hN_y])
                rw [← hN_y] at B_y
                have d_l_y : N_l < N_y := by omega
                have d_j_y : N_j < N_y := by omega
                have d_m_y : N_m < N_y := by omega
                replace l_l : N_l < V51.heap.size := by omega
                replace l_j : N_j < V51.heap.size := by omega
                replace l_m : N_m < V51.heap.size := by omega
                have l_y : N_y < V51.heap.size := by omega
                have g_y : w.heap.size ≤ N_y := by omega
                replace hlow : w.heap.size ≤ V51.heap.size := by omega
                have HO2 := Lib.hid (show V51.ownsRow (N_m + 1) 40 2 (.slice A5 n2 c5) n2 ((L.lf.map (upU by9)).flatMap luC) from by rw [hV51]; exact own_keep HO.out ((Below.refl _ _).alloc (Nat.le_refl _) _))
                clear hV51 hzV51 hN_y
                refine (hM2.out HF.out (16 : Int) hxw A5 c5 (N_m + 1) V51 HBel.out HO2.out).mono ?_
                rintro e U52 ⟨⟨A4, k4, c4, r4, m4, rfl, hE4, hS4, hN4⟩, hb9⟩
                have hs9 := hb9.size
                replace HBel := Lib.hid (HBel.out.trans (hb9.mono hlow))
                replace B_l : Hid (U52.heap[N_l]? = some (.cells #[.int .i64 L.now, .int .i64 L.hd, .int .i64 L.pr, .int .i64 L.to, .slice L.A1 n1 L.c1, .slice L.A2 n2 L.c2, .slice L.A3 n3 L.c3, .slice L.A4 n4 L.c4, .slice L.A5 n5 L.c5] 28 (0, 0))) := Lib.hid ((hb9.block _ l_l).trans B_l.out)
                replace B_j : Hid (U52.heap[N_j]? = some (.cells #[.int .i64 j.id, .int .i64 j.q, .int .i64 j.p, .int .i64 j.r, .int .i64 j.g, .int .i64 j.c, .int .i64 j.mn, .int .i64 j.mx] 32 (0, 0))) := Lib.hid ((hb9.block _ l_j).trans B_j.out)
                replace B_m : Hid (U52.heap[N_m]? = some (.cells #[.int .i64 L.now, .int .i64 L.hd, .int .i64 L.pr, .int .i64 L.to, .slice L.A1 n1 L.c1, .slice A5 n2 c5, .slice L.A3 n3 L.c3, .slice L.A4 n4 L.c4, .slice L.A5 n5 L.c5] 28 (0, 0))) := Lib.hid ((hb9.block _ l_m).trans B_m.out)
                replace B_y : Hid (U52.heap[N_y]? = some (.cells #[.int .i64 j.id, .int .i64 j.q, .int .i64 j.p, .int .i64 j.r, .int .i64 j.g, .int .i64 j.c, .int .i64 j.mn, .int .i64 (16 : Int)] 32 (0, 0))) := Lib.hid ((hb9.block _ l_y).trans B_y.out)
                replace l_l : N_l < U52.heap.size := by omega
                replace l_j : N_j < U52.heap.size := by omega
                replace l_m : N_m < U52.heap.size := by omega
                replace l_y : N_y < U52.heap.size := by omega
                replace hlow : w.heap.size ≤ U52.heap.size := by omega
                clear hb9 hs9
                obtain ⟨hr4, hm4⟩ := more_grow (L := L) (L' := { L with A2 := A5, c2 := c5, lf := L.lf.map (upU by9) }) (j := j) (b := by9) (x := (16 : Int)) rfl rfl HBY.out.1 (fun u hu => by have := HF.out.f u hu; omega) HXX.out.1 HXX.out.2 HE1.out.1 hE4
                subst hr4
                have hk4 := (hS4 rfl).1
                have hk3 := HE1.out.2.1 (by first | rfl | trivial)
                have u7 : decide (k3 ≤ k4) = true := decide_eq_true (by omega)
                clear hE4 hS4 hN4 hm4 hk4 hk3
                go_wp2
                go_ret
                exact ⟨by first | rfl | (simp; done), by rw [HB0.out]; exact HBel.out⟩
              · have hz := HZ.out
                have hbm := HBY.out
                have hj9 := HJ9.out
                have h409 := H40.out
                have hxw : (Lit.int .i64 (wrap64 (j.mx + by9 % 3))).wf = true := WalkArith.wf_i64 (by omega)
                have hmx2 := ok_mx (most_bounds HE1.out.1).1
                have hx1 : j.mx ≤ (wrap64 (j.mx + by9 % 3)) := by omega
                have hx2 : (wrap64 (j.mx + by9 % 3)) ≤ 16 := by omega
                have HXX := Lib.hid (And.intro hx1 hx2)
                clear hmx2 hx1 hx2
                clear hz hbm hj9 h409
                obtain ⟨V51, hV51⟩ : ∃ W, W = wr.alloc (.cells #[.int .i64 j.id, .int .i64 j.q, .int .i64 j.p, .int .i64 j.r, .int .i64 j.g, .int .i64 j.c, .int .i64 j.mn, .int .i64 (wrap64 (j.mx + by9 % 3))] 32) := ⟨_, rfl⟩
                rw [← hV51]
                have hzV51 : V51.heap.size = wr.heap.size + 1 := by rw [hV51]; simp
                replace HBel : Hid (Below w.heap.size w V51) := Lib.hid (by rw [hV51]; exact (HBel.out.alloc (hlow) _))
                replace B_l : Hid (V51.heap[N_l]? = some (.cells #[.int .i64 L.now, .int .i64 L.hd, .int .i64 L.pr, .int .i64 L.to, .slice L.A1 n1 L.c1, .slice L.A2 n2 L.c2, .slice L.A3 n3 L.c3, .slice L.A4 n4 L.c4, .slice L.A5 n5 L.c5] 28 (0, 0))) := Lib.hid (by rw [hV51]; exact ((Below.heap_alloc _ _ _ (by first | omega | (simp <;> omega))).trans B_l.out))
                replace B_j : Hid (V51.heap[N_j]? = some (.cells #[.int .i64 j.id, .int .i64 j.q, .int .i64 j.p, .int .i64 j.r, .int .i64 j.g, .int .i64 j.c, .int .i64 j.mn, .int .i64 j.mx] 32 (0, 0))) := Lib.hid (by rw [hV51]; exact ((Below.heap_alloc _ _ _ (by first | omega | (simp <;> omega))).trans B_j.out))
                replace B_m : Hid (V51.heap[N_m]? = some (.cells #[.int .i64 L.now, .int .i64 L.hd, .int .i64 L.pr, .int .i64 L.to, .slice L.A1 n1 L.c1, .slice A5 n2 c5, .slice L.A3 n3 L.c3, .slice L.A4 n4 L.c4, .slice L.A5 n5 L.c5] 28 (0, 0))) := Lib.hid (by rw [hV51]; exact ((Below.heap_alloc _ _ _ (by first | omega | (simp <;> omega))).trans B_m.out))
                have B_y : Hid (V51.heap[wr.heap.size]? = some (.cells #[.int .i64 j.id, .int .i64 j.q, .int .i64 j.p, .int .i64 j.r, .int .i64 j.g, .int .i64 j.c, .int .i64 j.mn, .int .i64 (wrap64 (j.mx + by9 % 3))] 32 (0, 0))) := Lib.hid (by
                  have h9 := heap_alloc_new (wr) (.cells #[.int .i64 j.id, .int .i64 j.q, .int .i64 j.p, .int .i64 j.r, .int .i64 j.g, .int .i64 j.c, .int .i64 j.mn, .int .i64 (wrap64 (j.mx + by9 % 3))] 32)
                  rw [hV51]; exact h9)
                obtain ⟨N_y, hN_y⟩ : ∃ N, N = wr.heap.size := ⟨_, rfl⟩
                (try rw [← hN_y])
                rw [← hN_y] at B_y
                have d_l_y : N_l < N_y := by omega
                have d_j_y : N_j < N_y := by omega
                have d_m_y : N_m < N_y := by omega
                replace l_l : N_l < V51.heap.size := by omega
                replace l_j : N_j < V51.heap.size := by omega
                replace l_m : N_m < V51.heap.size := by omega
                have l_y : N_y < V51.heap.size := by omega
                have g_y : w.heap.size ≤ N_y := by omega
                replace hlow : w.heap.size ≤ V51.heap.size := by omega
                have HO2 := Lib.hid (show V51.ownsRow (N_m + 1) 40 2 (.slice A5 n2 c5) n2 ((L.lf.map (upU by9)).flatMap luC) from by rw [hV51]; exact own_keep HO.out ((Below.refl _ _).alloc (Nat.le_refl _) _))
                clear hV51 hzV51 hN_y
                refine (hM2.out HF.out (wrap64 (j.mx + by9 % 3)) hxw A5 c5 (N_m + 1) V51 HBel.out HO2.out).mono ?_
                rintro e U52 ⟨⟨A4, k4, c4, r4, m4, rfl, hE4, hS4, hN4⟩, hb9⟩
                have hs9 := hb9.size
                replace HBel := Lib.hid (HBel.out.trans (hb9.mono hlow))
                replace B_l : Hid (U52.heap[N_l]? = some (.cells #[.int .i64 L.now, .int .i64 L.hd, .int .i64 L.pr, .int .i64 L.to, .slice L.A1 n1 L.c1, .slice L.A2 n2 L.c2, .slice L.A3 n3 L.c3, .slice L.A4 n4 L.c4, .slice L.A5 n5 L.c5] 28 (0, 0))) := Lib.hid ((hb9.block _ l_l).trans B_l.out)
                replace B_j : Hid (U52.heap[N_j]? = some (.cells #[.int .i64 j.id, .int .i64 j.q, .int .i64 j.p, .int .i64 j.r, .int .i64 j.g, .int .i64 j.c, .int .i64 j.mn, .int .i64 j.mx] 32 (0, 0))) := Lib.hid ((hb9.block _ l_j).trans B_j.out)
                replace B_m : Hid (U52.heap[N_m]? = some (.cells #[.int .i64 L.now, .int .i64 L.hd, .int .i64 L.pr, .int .i64 L.to, .slice L.A1 n1 L.c1, .slice A5 n2 c5, .slice L.A3 n3 L.c3, .slice L.A4 n4 L.c4, .slice L.A5 n5 L.c5] 28 (0, 0))) := Lib.hid ((hb9.block _ l_m).trans B_m.out)
                replace B_y : Hid (U52.heap[N_y]? = some (.cells #[.int .i64 j.id, .int .i64 j.q, .int .i64 j.p, .int .i64 j.r, .int .i64 j.g, .int .i64 j.c, .int .i64 j.mn, .int .i64 (wrap64 (j.mx + by9 % 3))] 32 (0, 0))) := Lib.hid ((hb9.block _ l_y).trans B_y.out)
                replace l_l : N_l < U52.heap.size := by omega
                replace l_j : N_j < U52.heap.size := by omega
                replace l_m : N_m < U52.heap.size := by omega
                replace l_y : N_y < U52.heap.size := by omega
                replace hlow : w.heap.size ≤ U52.heap.size := by omega
                clear hb9 hs9
                obtain ⟨hr4, hm4⟩ := more_grow (L := L) (L' := { L with A2 := A5, c2 := c5, lf := L.lf.map (upU by9) }) (j := j) (b := by9) (x := (wrap64 (j.mx + by9 % 3))) rfl rfl HBY.out.1 (fun u hu => by have := HF.out.f u hu; omega) HXX.out.1 HXX.out.2 HE1.out.1 hE4
                subst hr4
                have hk4 := (hS4 rfl).1
                have hk3 := HE1.out.2.1 (by first | rfl | trivial)
                have u7 : decide (k3 ≤ k4) = true := decide_eq_true (by omega)
                clear hE4 hS4 hN4 hm4 hk4 hk3
                go_wp2
                go_ret
                exact ⟨by first | rfl | (simp; done), by rw [HB0.out]; exact HBel.out⟩
      · have hr2 : r2 ≠ 0 := fun e => hr (HLe.out.2 e).1
        have t4 : (r3 == 0) = false := by simp [hr]
        have t5 : (r2 == 0) = false := by simp [hr2]
        have HR3 := Lib.hid hr
        clear hr2 hr
        have hn20 : n2 ≤ 20 := by rw [HV.out.1]; exact HF.out.fl
        obtain ⟨i0, hi0, hz0, hz1, hz2⟩ := info_parts info_lu14
        obtain ⟨N_m, hN_m⟩ : ∃ N, N = U7.heap.size := ⟨_, rfl⟩
        obtain ⟨WA, hWA⟩ : ∃ W, W = (U7.alloc (.cells #[.int .i64 L.now, .int .i64 L.hd, .int .i64 L.pr, .int .i64 L.to, .slice L.A1 n1 L.c1, .slice L.A2 n2 L.c2, .slice L.A3 n3 L.c3, .slice L.A4 n4 L.c4, .slice L.A5 n5 L.c5] 28)).alloc (.cells #[] 40) := ⟨_, rfl⟩
        have hzA : WA.heap.size = N_m + 1 + 1 := by rw [hWA, hN_m]; simp
        have ownE : WA.ownsRow (N_m + 1) 40 2 (.slice (some ⟨N_m + 1, 0, none⟩) 0 0) 0 [] := by rw [hWA, hN_m]; have h9 := World.ownsRow_lit (base := U7.heap.size + 1) (e := 40) (size := 2) (U7.alloc (.cells #[.int .i64 L.now, .int .i64 L.hd, .int .i64 L.pr, .int .i64 L.to, .slice L.A1 n1 L.c1, .slice L.A2 n2 L.c2, .slice L.A3 n3 L.c3, .slice L.A4 n4 L.c4, .slice L.A5 n5 L.c5] 28)) #[] 0 (by simp) (by unfold maxLen; omega) rfl; rw [World.size_alloc] at h9; exact h9
        have hBA : Below w.heap.size w WA := by rw [hWA]; exact (HBel.out.alloc hlow _).alloc (by simp; omega) _
        have hUA : Below U7.heap.size U7 WA := by rw [hWA]; exact ((Below.refl _ _).alloc (Nat.le_refl _) _).alloc (by simp) _
        have hmA : WA.heap[N_m]? = some (.cells #[.int .i64 L.now, .int .i64 L.hd, .int .i64 L.pr, .int .i64 L.to, .slice L.A1 n1 L.c1, .slice L.A2 n2 L.c2, .slice L.A3 n3 L.c3, .slice L.A4 n4 L.c4, .slice L.A5 n5 L.c5] 28 (0, 0)) := by rw [hWA, hN_m]; exact (Below.heap_alloc _ _ _ (by simp)).trans (heap_alloc_new _ _)
        have helsA := Els.keep HV.out.2.2.2.1 hBA hBA.size
        have HA := Lib.hid (And.intro ownE (And.intro hBA (And.intro hUA (And.intro hmA (And.intro helsA hzA)))))
        have HNM := Lib.hid hN_m
        have HWA := Lib.hid hWA
        clear ownE hBA hUA hmA helsA hzA hN_m hWA
        have l0 : U7.cell? ⟨N_l, 0, none⟩ = some (.int .i64 L.now) := cell_blk (i := 0) B_l.out rfl
        have l1 : U7.cell? ⟨N_l, 1, none⟩ = some (.int .i64 L.hd) := cell_blk (i := 1) B_l.out rfl
        have l2 : U7.cell? ⟨N_l, 2, none⟩ = some (.int .i64 L.pr) := cell_blk (i := 2) B_l.out rfl
        have l3 : U7.cell? ⟨N_l, 3, none⟩ = some (.int .i64 L.to) := cell_blk (i := 3) B_l.out rfl
        have l4 : U7.cell? ⟨N_l, 4, none⟩ = some (.slice L.A1 n1 L.c1) := cell_blk (i := 4) B_l.out rfl
        have l5 : U7.cell? ⟨N_l, 5, none⟩ = some (.slice L.A2 n2 L.c2) := cell_blk (i := 5) B_l.out rfl
        have l6 : U7.cell? ⟨N_l, 6, none⟩ = some (.slice L.A3 n3 L.c3) := cell_blk (i := 6) B_l.out rfl
        have l7 : U7.cell? ⟨N_l, 7, none⟩ = some (.slice L.A4 n4 L.c4) := cell_blk (i := 7) B_l.out rfl
        have l8 : U7.cell? ⟨N_l, 8, none⟩ = some (.slice L.A5 n5 L.c5) := cell_blk (i := 8) B_l.out rfl
        have ll1 : N_l < U7.heap.size + 1 := by omega
        have ll2 : N_l < U7.heap.size + 1 + 1 := by omega
        go_wp2_with (at_builtin; go_loud (rw [← HNM.out, ← HWA.out]; refine wpList_append_els (C := luC) (k := 2) WA rfl _ _ 23 rfl (N_m + 1) 40 i0 _ 16 Tryd.underlying23 hi0 hz0 hz1 hz2 rfl (by decide) (.slice (some ⟨N_m + 1, 0, none⟩) 0 0) 0 [] rfl HA.out.1 _ L.A2 L.c2 n2 L.lf rfl HA.out.2.2.2.2.1 HV.out.1 luC_len luC_one (by unfold maxLen; omega) (by omega) (by have := HA.out.2.2.2.2.2; omega) ?_; intro A5 c5 w5 own5 g5 k5; rw [Nat.zero_add] at own5 ⊢; rw [List.nil_append] at own5; have bm5 : w5.heap[N_m]? = some (.cells #[.int .i64 L.now, .int .i64 L.hd, .int .i64 L.pr, .int .i64 L.to, .slice L.A1 n1 L.c1, .slice L.A2 n2 L.c2, .slice L.A3 n3 L.c3, .slice L.A4 n4 L.c4, .slice L.A5 n5 L.c5] 28 (0, 0)) := (g5.block N_m (by have := HA.out.2.2.2.2.2; omega) (by simp [Value.ownBlock])).trans HA.out.2.2.2.1; have m5 := cell_blk (i := 5) bm5 rfl; have mz5 : w5.frozen? ⟨N_m, 5, none⟩ = false := frozen_blk bm5))
        clear l0 l1 l2 l3 l4 l5 l6 l7 l8 ll1 ll2
        obtain ⟨WB, hWB⟩ : ∃ W, W = w5.setCell ⟨N_m, 5, none⟩ (.slice A5 n2 c5) := ⟨_, rfl⟩
        rw [← hWB]
        have hlm : N_l < N_m := by have := HNM.out; omega
        have hjm : N_j < N_m := by have := HNM.out; omega
        have hwm : w.heap.size ≤ N_m := by have := HNM.out; omega
        have hob : ∀ i, (Value.slice (some ⟨N_m + 1, 0, none⟩) 0 0).ownBlock = some i → i = N_m + 1 := fun i hi => by simpa [Value.ownBlock] using hi.symm
        have hB5 : Below w.heap.size w w5 := HA.out.2.1.grown g5 HA.out.2.1.size (fun i hi => by have := hob i hi; omega)
        have hU5 : Below U7.heap.size U7 w5 := HA.out.2.2.1.grown g5 HA.out.2.2.1.size (fun i hi => by have := hob i hi; have := HNM.out; omega)
        have hlB : WB.heap[N_l]? = some (.cells #[.int .i64 L.now, .int .i64 L.hd, .int .i64 L.pr, .int .i64 L.to, .slice L.A1 n1 L.c1, .slice L.A2 n2 L.c2, .slice L.A3 n3 L.c3, .slice L.A4 n4 L.c4, .slice L.A5 n5 L.c5] 28 (0, 0)) := by rw [hWB]; exact (Below.heap_setCell _ _ _ _ (by show N_l ≠ N_m; omega)).trans ((hU5.block _ l_l).trans B_l.out)
        have hjB : WB.heap[N_j]? = some (.cells #[.int .i64 j.id, .int .i64 j.q, .int .i64 j.p, .int .i64 j.r, .int .i64 j.g, .int .i64 j.c, .int .i64 j.mn, .int .i64 j.mx] 32 (0, 0)) := by rw [hWB]; exact (Below.heap_setCell _ _ _ _ (by show N_j ≠ N_m; omega)).trans ((hU5.block _ l_j).trans B_j.out)
        have hmB : WB.heap[N_m]? = some (.cells #[.int .i64 L.now, .int .i64 L.hd, .int .i64 L.pr, .int .i64 L.to, .slice L.A1 n1 L.c1, .slice A5 n2 c5, .slice L.A3 n3 L.c3, .slice L.A4 n4 L.c4, .slice L.A5 n5 L.c5] 28 (0, 0)) := by rw [hWB]; exact blk_put (i := 5) _ bm5
        have hoB : WB.ownsRow (N_m + 1) 40 2 (.slice A5 n2 c5) n2 ((upL by9 L.lf 0).flatMap luC) := by rw [hWB, upL_zero]; exact own_stays own5 (fun i hi => Below.heap_setCell _ _ _ _ (by have := (own5.lt i hi).1; show i ≠ N_m; omega))
        have hBB : Below w.heap.size w WB := by rw [hWB]; exact hB5.setCell (p := ⟨N_m, 5, none⟩) hwm _
        have HL0 := Lib.hid (And.intro hBB (And.intro hlB (And.intro hjB (And.intro hmB hoB))))
        have HLM := Lib.hid (And.intro hlm (And.intro hjm hwm))
        clear hWB hlm hjm hob hB5 hU5 hlB hjB hmB hoB hBB own5 g5 k5 bm5 m5 mz5 HBel B_l B_j B_f l_l l_j l_f hlow
        go_wp2
        go_loopw [17] (fun vi wr => ∃ (k : Nat), vi = .int .i64 k ∧ k ≤ n2 ∧ Hid (Below w.heap.size w wr ∧ wr.heap[N_l]? = some (.cells #[.int .i64 L.now, .int .i64 L.hd, .int .i64 L.pr, .int .i64 L.to, .slice L.A1 n1 L.c1, .slice L.A2 n2 L.c2, .slice L.A3 n3 L.c3, .slice L.A4 n4 L.c4, .slice L.A5 n5 L.c5] 28 (0, 0)) ∧ wr.heap[N_j]? = some (.cells #[.int .i64 j.id, .int .i64 j.q, .int .i64 j.p, .int .i64 j.r, .int .i64 j.g, .int .i64 j.c, .int .i64 j.mn, .int .i64 j.mx] 32 (0, 0)) ∧ wr.heap[N_m]? = some (.cells #[.int .i64 L.now, .int .i64 L.hd, .int .i64 L.pr, .int .i64 L.to, .slice L.A1 n1 L.c1, .slice A5 n2 c5, .slice L.A3 n3 L.c3, .slice L.A4 n4 L.c4, .slice L.A5 n5 L.c5] 28 (0, 0)) ∧ wr.ownsRow (N_m + 1) 40 2 (.slice A5 n2 c5) n2 ((upL by9 L.lf k).flatMap luC))) (fun vi _ => n2 - (intOf vi).toNat)
        case atStart => exact ⟨0, rfl, by omega, HL0⟩
        case round =>
          clear HL0
          obtain ⟨k, rfl, hk, hI⟩ := hrel
          by_cases hlt : k < n2
          · have u1 : decide (k < n2) = true := decide_eq_true hlt
            obtain ⟨x, hx⟩ := get_lt (l := L.lf) (k := k) (by rw [← HV.out.1]; exact hlt)
            obtain ⟨g, hA5, hg1, hg2, hgc, hgf⟩ := own_atE hI.out.2.2.2.2 (by omega)
            have hb9 := HF.out.f x (List.mem_of_getElem? hx)
            have hx2 := flat_get luC_len (upL_at (b := by9) hx) (r := 0) (by omega)
            have hx3 := flat_get luC_len (upL_at (b := by9) hx) (r := 1) (by omega)
            have e0 : wr.cell? ⟨g, k * 2, none⟩ = some (.int .i64 x.g) := hgc _ _ hx2
            have e1 : wr.cell? ⟨g, k * 2 + 1, none⟩ = some (.int .i64 x.c) := hgc _ _ hx3
            have ez0 := hgf (k * 2)
            have ez1 := hgf (k * 2 + 1)
            have m5 : wr.cell? ⟨N_m, 5, none⟩ = some (.slice (some ⟨g, 0, none⟩) n2 c5) := by rw [← hA5]; exact cell_blk (i := 5) hI.out.2.2.2.1 rfl
            have hgm : N_m < g := by omega
            have w1 : wrap64 (x.g + by9) = x.g + by9 := IntWalk.wrap64_in _ (by omega)
            have w2 : wrap64 (x.c + by9) = x.c + by9 := IntWalk.wrap64_in _ (by omega)
            have HX := Lib.hid (And.intro hx (And.intro hA5 (And.intro hg1 (And.intro hg2 hb9))))
            clear hgc hgf hx hA5 hx2 hx3 hb9
            have hi1 : (if 1048576 < x.g + by9 then (1048576 : Int) else x.g + by9) = (upU by9 x).g := by unfold upU; simp only; split <;> omega
            have hi2 : (if 1048576 < x.c + by9 then (1048576 : Int) else x.c + by9) = (upU by9 x).c := by unfold upU; simp only; split <;> omega
            have HIF := Lib.hid (And.intro hi1 hi2)
            clear hi1 hi2
            go_wp2
            go_region
            rw [HIF.out.1]
            clear e0 ez0 e1 ez1 m5
            obtain ⟨WC, hWC⟩ : ∃ W, W = (wr.setCell ⟨g, k * 2, none⟩ (.int .i64 (upU by9 x).g)).drew := ⟨_, rfl⟩
            rw [← hWC]
            have hLM := HLM.out
            have oI := hI.out.2.2.2.2
            rw [HX.out.2.1] at oI
            have oC : WC.ownsRow (N_m + 1) 40 2 (.slice (some ⟨g, 0, none⟩) n2 c5) n2 (((upL by9 L.lf k).flatMap luC).set (k * 2) (.int .i64 (upU by9 x).g)) := by rw [hWC]; exact own_setE _ oI
            have bC : Below w.heap.size w WC := by rw [hWC]; exact (hI.out.1.setCell (p := ⟨g, k * 2, none⟩) (by show w.heap.size ≤ g; omega) _).drew
            have kC : ∀ i, i ≤ N_m → WC.heap[i]? = wr.heap[i]? := fun i hi => by rw [hWC]; exact Below.heap_setCell _ _ _ _ (by show i ≠ g; omega)
            obtain ⟨g', hg', _, _, hgc, hgf⟩ := own_atE oC (by omega)
            injection hg' with hg'
            injection hg' with hg'
            subst hg'
            have hx3 := flat_get luC_len (upL_at (b := by9) HX.out.1) (r := 1) (by omega)
            have e1 : WC.cell? ⟨g, k * 2 + 1, none⟩ = some (.int .i64 x.c) := hgc _ _ (by rw [List.getElem?_set_ne (by omega)]; exact hx3)
            have ez1 := hgf (k * 2 + 1)
            have m5 : WC.cell? ⟨N_m, 5, none⟩ = some (.slice (some ⟨g, 0, none⟩) n2 c5) := by rw [← HX.out.2.1]; exact cell_blk (i := 5) ((kC N_m (Nat.le_refl _)).trans hI.out.2.2.2.1) rfl
            have HC := Lib.hid (And.intro oC (And.intro bC (And.intro ((kC N_l (by omega)).trans hI.out.2.1) (And.intro ((kC N_j (by omega)).trans hI.out.2.2.1) ((kC N_m (Nat.le_refl _)).trans hI.out.2.2.2.1)))))
            clear hWC oI oC bC kC hgc hgf hx3 hLM
            go_wp2
            go_region
            rw [HIF.out.2]
            clear e1 ez1 m5
            obtain ⟨WD, hWD⟩ : ∃ W, W = (WC.setCell ⟨g, k * 2 + 1, none⟩ (.int .i64 (upU by9 x).c)).drew := ⟨_, rfl⟩
            rw [← hWD]
            have hLM := HLM.out
            have oD : WD.ownsRow (N_m + 1) 40 2 (.slice A5 n2 c5) n2 ((upL by9 L.lf (k + 1)).flatMap luC) := by rw [hWD, up_flat HX.out.1, HX.out.2.1]; exact own_setE _ HC.out.1
            have bD : Below w.heap.size w WD := by rw [hWD]; exact (HC.out.2.1.setCell (p := ⟨g, k * 2 + 1, none⟩) (by show w.heap.size ≤ g; omega) _).drew
            have kD : ∀ i, i ≤ N_m → WD.heap[i]? = WC.heap[i]? := fun i hi => by rw [hWD]; exact Below.heap_setCell _ _ _ _ (by show i ≠ g; omega)
            have HD := Lib.hid (And.intro bD (And.intro ((kD N_l (by omega)).trans HC.out.2.2.1) (And.intro ((kD N_j (by omega)).trans HC.out.2.2.2.1) (And.intro ((kD N_m (Nat.le_refl _)).trans HC.out.2.2.2.2) oD))))
            clear hWD oD bD kD hLM
            go_wp2
            go_roundw
            case rel => exact ⟨k + 1, by go_num, by omega, HD⟩
            case measure => simp [intOf]; omega
          · obtain rfl : n2 = k := by omega
            have u1 : decide (n2 < n2) = false := decide_eq_false hlt
            have hlast : wr.ownsRow (N_m + 1) 40 2 (.slice A5 n2 c5) n2 ((L.lf.map (upU by9)).flatMap luC) := by
              have h9 := hI.out.2.2.2.2
              rwa [HV.out.1, upL_all, ← HV.out.1] at h9
            have HBel := Lib.hid hI.out.1
            have B_l := Lib.hid hI.out.2.1
            have B_j := Lib.hid hI.out.2.2.1
            have B_m := Lib.hid hI.out.2.2.2.1
            have l_l : N_l < wr.heap.size := blk_lt B_l.out
            have l_j : N_j < wr.heap.size := blk_lt B_j.out
            have l_m : N_m < wr.heap.size := blk_lt B_m.out
            have hlow := HBel.out.size
            have HO := Lib.hid hlast
            clear hI hlast hlt
            have hbm := HBY.out
            have hj9 := HJ9.out
            have h409 := H40.out
            have hz : wrap64 (j.mx + by9 % 3) = j.mx + by9 % 3 := IntWalk.wrap64_in _ (by omega)
            have HZ := Lib.hid hz
            clear hbm hj9 h409 hz
            have j0 : wr.cell? ⟨N_j, 0, none⟩ = some (.int .i64 j.id) := cell_blk (i := 0) B_j.out rfl
            have j1 : wr.cell? ⟨N_j, 1, none⟩ = some (.int .i64 j.q) := cell_blk (i := 1) B_j.out rfl
            have j2 : wr.cell? ⟨N_j, 2, none⟩ = some (.int .i64 j.p) := cell_blk (i := 2) B_j.out rfl
            have j3 : wr.cell? ⟨N_j, 3, none⟩ = some (.int .i64 j.r) := cell_blk (i := 3) B_j.out rfl
            have j4 : wr.cell? ⟨N_j, 4, none⟩ = some (.int .i64 j.g) := cell_blk (i := 4) B_j.out rfl
            have j5 : wr.cell? ⟨N_j, 5, none⟩ = some (.int .i64 j.c) := cell_blk (i := 5) B_j.out rfl
            have j6 : wr.cell? ⟨N_j, 6, none⟩ = some (.int .i64 j.mn) := cell_blk (i := 6) B_j.out rfl
            have j7 : wr.cell? ⟨N_j, 7, none⟩ = some (.int .i64 j.mx) := cell_blk (i := 7) B_j.out rfl
            have l_j_0 : N_j < wr.heap.size + 1 := by omega
            have m0 : wr.cell? ⟨N_m, 0, none⟩ = some (.int .i64 L.now) := cell_blk (i := 0) B_m.out rfl
            have m1 : wr.cell? ⟨N_m, 1, none⟩ = some (.int .i64 L.hd) := cell_blk (i := 1) B_m.out rfl
            have m2 : wr.cell? ⟨N_m, 2, none⟩ = some (.int .i64 L.pr) := cell_blk (i := 2) B_m.out rfl
            have m3 : wr.cell? ⟨N_m, 3, none⟩ = some (.int .i64 L.to) := cell_blk (i := 3) B_m.out rfl
            have m4 : wr.cell? ⟨N_m, 4, none⟩ = some (.slice L.A1 n1 L.c1) := cell_blk (i := 4) B_m.out rfl
            have m5 : wr.cell? ⟨N_m, 5, none⟩ = some (.slice A5 n2 c5) := cell_blk (i := 5) B_m.out rfl
            have m6 : wr.cell? ⟨N_m, 6, none⟩ = some (.slice L.A3 n3 L.c3) := cell_blk (i := 6) B_m.out rfl
            have m7 : wr.cell? ⟨N_m, 7, none⟩ = some (.slice L.A4 n4 L.c4) := cell_blk (i := 7) B_m.out rfl
            have m8 : wr.cell? ⟨N_m, 8, none⟩ = some (.slice L.A5 n5 L.c5) := cell_blk (i := 8) B_m.out rfl
            have l_m_0 : N_m < wr.heap.size + 1 := by omega
            go_wp2_with fail
            clear j0 j1 j2 j3 j4 j5 j6 j7 l_j_0 m0 m1 m2 m3 m4 m5 m6 m7 m8 l_m_0
            · have hz := HZ.out
              have hbm := HBY.out
              have hj9 := HJ9.out
              have h409 := H40.out
              have hxw : (Lit.int .i64 (16 : Int)).wf = true := WalkArith.wf_i64 (by omega)
              clear hz hbm hj9 h409
              obtain ⟨V51, hV51⟩ : ∃ W, W = wr.alloc (.cells #[.int .i64 j.id, .int .i64 j.q, .int .i64 j.p, .int .i64 j.r, .int .i64 j.g, .int .i64 j.c, .int .i64 j.mn, .int .i64 (16 : Int)] 32) := ⟨_, rfl⟩
              rw [← hV51]
              have hzV51 : V51.heap.size = wr.heap.size + 1 := by rw [hV51]; simp
              replace HBel : Hid (Below w.heap.size w V51) := Lib.hid (by rw [hV51]; exact (HBel.out.alloc (hlow) _))
              replace B_l : Hid (V51.heap[N_l]? = some (.cells #[.int .i64 L.now, .int .i64 L.hd, .int .i64 L.pr, .int .i64 L.to, .slice L.A1 n1 L.c1, .slice L.A2 n2 L.c2, .slice L.A3 n3 L.c3, .slice L.A4 n4 L.c4, .slice L.A5 n5 L.c5] 28 (0, 0))) := Lib.hid (by rw [hV51]; exact ((Below.heap_alloc _ _ _ (by first | omega | (simp <;> omega))).trans B_l.out))
              replace B_j : Hid (V51.heap[N_j]? = some (.cells #[.int .i64 j.id, .int .i64 j.q, .int .i64 j.p, .int .i64 j.r, .int .i64 j.g, .int .i64 j.c, .int .i64 j.mn, .int .i64 j.mx] 32 (0, 0))) := Lib.hid (by rw [hV51]; exact ((Below.heap_alloc _ _ _ (by first | omega | (simp <;> omega))).trans B_j.out))
              replace B_m : Hid (V51.heap[N_m]? = some (.cells #[.int .i64 L.now, .int .i64 L.hd, .int .i64 L.pr, .int .i64 L.to, .slice L.A1 n1 L.c1, .slice A5 n2 c5, .slice L.A3 n3 L.c3, .slice L.A4 n4 L.c4, .slice L.A5 n5 L.c5] 28 (0, 0))) := Lib.hid (by rw [hV51]; exact ((Below.heap_alloc _ _ _ (by first | omega | (simp <;> omega))).trans B_m.out))
              have B_y : Hid (V51.heap[wr.heap.size]? = some (.cells #[.int .i64 j.id, .int .i64 j.q, .int .i64 j.p, .int .i64 j.r, .int .i64 j.g, .int .i64 j.c, .int .i64 j.mn, .int .i64 (16 : Int)] 32 (0, 0))) := Lib.hid (by
                have h9 := heap_alloc_new (wr) (.cells #[.int .i64 j.id, .int .i64 j.q, .int .i64 j.p, .int .i64 j.r, .int .i64 j.g, .int .i64 j.c, .int .i64 j.mn, .int .i64 (16 : Int)] 32)
                rw [hV51]; exact h9)
              obtain ⟨N_y, hN_y⟩ : ∃ N, N = wr.heap.size := ⟨_, rfl⟩
              (try rw [← hN_y])
              rw [← hN_y] at B_y
              have d_l_y : N_l < N_y := by omega
              have d_j_y : N_j < N_y := by omega
              have d_m_y : N_m < N_y := by omega
              replace l_l : N_l < V51.heap.size := by omega
              replace l_j : N_j < V51.heap.size := by omega
              replace l_m : N_m < V51.heap.size := by omega
              have l_y : N_y < V51.heap.size := by omega
              have g_y : w.heap.size ≤ N_y := by omega
              replace hlow : w.heap.size ≤ V51.heap.size := by omega
              have HO2 := Lib.hid (show V51.ownsRow (N_m + 1) 40 2 (.slice A5 n2 c5) n2 ((L.lf.map (upU by9)).flatMap luC) from by rw [hV51]; exact own_keep HO.out ((Below.refl _ _).alloc (Nat.le_refl _) _))
              clear hV51 hzV51 hN_y
              refine (hM2.out HF.out (16 : Int) hxw A5 c5 (N_m + 1) V51 HBel.out HO2.out).mono ?_
              rintro e U52 ⟨⟨A4, k4, c4, r4, m4, rfl, hE4, hS4, hN4⟩, hb9⟩
              have hs9 := hb9.size
              replace HBel := Lib.hid (HBel.out.trans (hb9.mono hlow))
              replace B_l : Hid (U52.heap[N_l]? = some (.cells #[.int .i64 L.now, .int .i64 L.hd, .int .i64 L.pr, .int .i64 L.to, .slice L.A1 n1 L.c1, .slice L.A2 n2 L.c2, .slice L.A3 n3 L.c3, .slice L.A4 n4 L.c4, .slice L.A5 n5 L.c5] 28 (0, 0))) := Lib.hid ((hb9.block _ l_l).trans B_l.out)
              replace B_j : Hid (U52.heap[N_j]? = some (.cells #[.int .i64 j.id, .int .i64 j.q, .int .i64 j.p, .int .i64 j.r, .int .i64 j.g, .int .i64 j.c, .int .i64 j.mn, .int .i64 j.mx] 32 (0, 0))) := Lib.hid ((hb9.block _ l_j).trans B_j.out)
              replace B_m : Hid (U52.heap[N_m]? = some (.cells #[.int .i64 L.now, .int .i64 L.hd, .int .i64 L.pr, .int .i64 L.to, .slice L.A1 n1 L.c1, .slice A5 n2 c5, .slice L.A3 n3 L.c3, .slice L.A4 n4 L.c4, .slice L.A5 n5 L.c5] 28 (0, 0))) := Lib.hid ((hb9.block _ l_m).trans B_m.out)
              replace B_y : Hid (U52.heap[N_y]? = some (.cells #[.int .i64 j.id, .int .i64 j.q, .int .i64 j.p, .int .i64 j.r, .int .i64 j.g, .int .i64 j.c, .int .i64 j.mn, .int .i64 (16 : Int)] 32 (0, 0))) := Lib.hid ((hb9.block _ l_y).trans B_y.out)
              replace l_l : N_l < U52.heap.size := by omega
              replace l_j : N_j < U52.heap.size := by omega
              replace l_m : N_m < U52.heap.size := by omega
              replace l_y : N_y < U52.heap.size := by omega
              replace hlow : w.heap.size ≤ U52.heap.size := by omega
              clear hb9 hs9
              have u7 : (r3 != 0) = true := by simp [HR3.out]
              clear hE4 hS4 hN4
              go_wp2
              go_ret
              exact ⟨by first | rfl | (simp; done), by rw [HB0.out]; exact HBel.out⟩
            · have hz := HZ.out
              have hbm := HBY.out
              have hj9 := HJ9.out
              have h409 := H40.out
              have hxw : (Lit.int .i64 (wrap64 (j.mx + by9 % 3))).wf = true := WalkArith.wf_i64 (by omega)
              clear hz hbm hj9 h409
              obtain ⟨V51, hV51⟩ : ∃ W, W = wr.alloc (.cells #[.int .i64 j.id, .int .i64 j.q, .int .i64 j.p, .int .i64 j.r, .int .i64 j.g, .int .i64 j.c, .int .i64 j.mn, .int .i64 (wrap64 (j.mx + by9 % 3))] 32) := ⟨_, rfl⟩
              rw [← hV51]
              have hzV51 : V51.heap.size = wr.heap.size + 1 := by rw [hV51]; simp
              replace HBel : Hid (Below w.heap.size w V51) := Lib.hid (by rw [hV51]; exact (HBel.out.alloc (hlow) _))
              replace B_l : Hid (V51.heap[N_l]? = some (.cells #[.int .i64 L.now, .int .i64 L.hd, .int .i64 L.pr, .int .i64 L.to, .slice L.A1 n1 L.c1, .slice L.A2 n2 L.c2, .slice L.A3 n3 L.c3, .slice L.A4 n4 L.c4, .slice L.A5 n5 L.c5] 28 (0, 0))) := Lib.hid (by rw [hV51]; exact ((Below.heap_alloc _ _ _ (by first | omega | (simp <;> omega))).trans B_l.out))
              replace B_j : Hid (V51.heap[N_j]? = some (.cells #[.int .i64 j.id, .int .i64 j.q, .int .i64 j.p, .int .i64 j.r, .int .i64 j.g, .int .i64 j.c, .int .i64 j.mn, .int .i64 j.mx] 32 (0, 0))) := Lib.hid (by rw [hV51]; exact ((Below.heap_alloc _ _ _ (by first | omega | (simp <;> omega))).trans B_j.out))
              replace B_m : Hid (V51.heap[N_m]? = some (.cells #[.int .i64 L.now, .int .i64 L.hd, .int .i64 L.pr, .int .i64 L.to, .slice L.A1 n1 L.c1, .slice A5 n2 c5, .slice L.A3 n3 L.c3, .slice L.A4 n4 L.c4, .slice L.A5 n5 L.c5] 28 (0, 0))) := Lib.hid (by rw [hV51]; exact ((Below.heap_alloc _ _ _ (by first | omega | (simp <;> omega))).trans B_m.out))
              have B_y : Hid (V51.heap[wr.heap.size]? = some (.cells #[.int .i64 j.id, .int .i64 j.q, .int .i64 j.p, .int .i64 j.r, .int .i64 j.g, .int .i64 j.c, .int .i64 j.mn, .int .i64 (wrap64 (j.mx + by9 % 3))] 32 (0, 0))) := Lib.hid (by
                have h9 := heap_alloc_new (wr) (.cells #[.int .i64 j.id, .int .i64 j.q, .int .i64 j.p, .int .i64 j.r, .int .i64 j.g, .int .i64 j.c, .int .i64 j.mn, .int .i64 (wrap64 (j.mx + by9 % 3))] 32)
                rw [hV51]; exact h9)
              obtain ⟨N_y, hN_y⟩ : ∃ N, N = wr.heap.size := ⟨_, rfl⟩
              (try rw [← hN_y])
              rw [← hN_y] at B_y
              have d_l_y : N_l < N_y := by omega
              have d_j_y : N_j < N_y := by omega
              have d_m_y : N_m < N_y := by omega
              replace l_l : N_l < V51.heap.size := by omega
              replace l_j : N_j < V51.heap.size := by omega
              replace l_m : N_m < V51.heap.size := by omega
              have l_y : N_y < V51.heap.size := by omega
              have g_y : w.heap.size ≤ N_y := by omega
              replace hlow : w.heap.size ≤ V51.heap.size := by omega
              have HO2 := Lib.hid (show V51.ownsRow (N_m + 1) 40 2 (.slice A5 n2 c5) n2 ((L.lf.map (upU by9)).flatMap luC) from by rw [hV51]; exact own_keep HO.out ((Below.refl _ _).alloc (Nat.le_refl _) _))
              clear hV51 hzV51 hN_y
              refine (hM2.out HF.out (wrap64 (j.mx + by9 % 3)) hxw A5 c5 (N_m + 1) V51 HBel.out HO2.out).mono ?_
              rintro e U52 ⟨⟨A4, k4, c4, r4, m4, rfl, hE4, hS4, hN4⟩, hb9⟩
              have hs9 := hb9.size
              replace HBel := Lib.hid (HBel.out.trans (hb9.mono hlow))
              replace B_l : Hid (U52.heap[N_l]? = some (.cells #[.int .i64 L.now, .int .i64 L.hd, .int .i64 L.pr, .int .i64 L.to, .slice L.A1 n1 L.c1, .slice L.A2 n2 L.c2, .slice L.A3 n3 L.c3, .slice L.A4 n4 L.c4, .slice L.A5 n5 L.c5] 28 (0, 0))) := Lib.hid ((hb9.block _ l_l).trans B_l.out)
              replace B_j : Hid (U52.heap[N_j]? = some (.cells #[.int .i64 j.id, .int .i64 j.q, .int .i64 j.p, .int .i64 j.r, .int .i64 j.g, .int .i64 j.c, .int .i64 j.mn, .int .i64 j.mx] 32 (0, 0))) := Lib.hid ((hb9.block _ l_j).trans B_j.out)
              replace B_m : Hid (U52.heap[N_m]? = some (.cells #[.int .i64 L.now, .int .i64 L.hd, .int .i64 L.pr, .int .i64 L.to, .slice L.A1 n1 L.c1, .slice A5 n2 c5, .slice L.A3 n3 L.c3, .slice L.A4 n4 L.c4, .slice L.A5 n5 L.c5] 28 (0, 0))) := Lib.hid ((hb9.block _ l_m).trans B_m.out)
              replace B_y : Hid (U52.heap[N_y]? = some (.cells #[.int .i64 j.id, .int .i64 j.q, .int .i64 j.p, .int .i64 j.r, .int .i64 j.g, .int .i64 j.c, .int .i64 j.mn, .int .i64 (wrap64 (j.mx + by9 % 3))] 32 (0, 0))) := Lib.hid ((hb9.block _ l_y).trans B_y.out)
              replace l_l : N_l < U52.heap.size := by omega
              replace l_j : N_j < U52.heap.size := by omega
              replace l_m : N_m < U52.heap.size := by omega
              replace l_y : N_y < U52.heap.size := by omega
              replace hlow : w.heap.size ≤ U52.heap.size := by omega
              clear hb9 hs9
              have u7 : (r3 != 0) = true := by simp [HR3.out]
              clear hE4 hS4 hN4
              go_wp2
              go_ret
              exact ⟨by first | rfl | (simp; done), by rw [HB0.out]; exact HBel.out⟩

set_option maxRecDepth 100000 in
set_option maxHeartbeats 1000000 in
theorem lifted (os : Os) (started : os.Started) (H : Type) (enc : TypeId × Value → H) :
    ReturnsInHanded {} Tryd.checked os 4 .any (fun w args => (Rows.elasticMoreSpec.pre enc Tryd.prog Tryd.f4 [] false w args ∧ laidMetH Tryd.prog laid1 w) ∧ sizedMet enc Tryd.prog Tryd.f4 (OpenSpec.ofChange Rows.elasticMoreSpec) false w args)
      (Rows.elasticMoreSpec.post enc Tryd.prog Tryd.f4 false true false false) := by
  refine returnsInHanded_of_change_and (C := Tryd.checked) (X := fun w _ => laidMetH Tryd.prog laid1 w) (fun _ _ _ hh h => h.of_heap hh) own started (by kernel_rfl) Tryd.func4
    (ChangeSpec.witness_shaped (enc := enc) (C := Tryd.checked) (os := os) (X := fun w _ => laidMetH Tryd.prog laid1 w) false (World.doorLaid Tryd.prog 400 os) #[.agg #[.int .i64 0, .int .i64 0, .int .i64 0, .int .i64 0, .slice none 0 0, .slice none 0 0, .slice none 0 0, .slice none 0 0, .slice none 0 0], .agg #[.int .i64 0, .int .i64 0, .int .i64 0, .int .i64 0, .int .i64 0, .int .i64 0, .int .i64 0, .int .i64 0], .int .i64 0, .int .u8 0] 8 rfl (World.shaped_of_RefB (by kernel_rfl) (by kernel_rfl)) (by kernel_rfl) (by kernel_rfl) (by kernel_rfl) (door_met os _)) ?_
  intro W base args ds gs before hval0 hW _ _ hL _
  have hval : ∀ (j : Nat) t v, Tryd.f4.params[j]? = some t → args[j]? = some v → Value.okWide Tryd.prog W .any base t v := hval0
  have hW' := hW
  obtain ⟨p, q, hA0, hV, rfl, hfz, hnd⟩ := hW
  have hA : DataW.TrodAll enc Tryd.prog W 0 (fun _ => true) true Tryd.f4.params.toList args.toList ds p := hA0
  rw [Tryd.params4] at hA hval
  obtain ⟨v0, vs0, d0, ds0, p0, q0, hargs, rfl, rfl, h0, r0⟩ := trodAll_cons hA
  obtain ⟨v1, vs1, d1, ds1, p1, q1, rfl, rfl, rfl, h1, r1⟩ := trodAll_cons r0
  obtain ⟨v2, vs2, d2, ds2, p2, q2, rfl, rfl, rfl, h2, r2⟩ := trodAll_cons r1
  obtain ⟨v3, vs3, d3, ds3, p3, q3, rfl, rfl, rfl, h3, r3⟩ := trodAll_cons r2
  obtain ⟨rfl, rfl, rfl⟩ := trodAll_nil r3
  obtain rfl : args = #[v0, v1, v2, v3] := by cases args; simp_all
  obtain ⟨rfl, rfl⟩ := trodVars_none hV
  have k0 := h0
  have lt0 : ∀ x ∈ p0, x.block < W.heap.size := by obtain ⟨m, hm⟩ := k0; exact DataW.trod_lt m _ _ _ hm
  obtain ⟨x0, rfl, v0, q0⟩ := lk_of (hval 0 28 v0 rfl rfl) h0
  have k1 := h1
  have lt1 : ∀ x ∈ p1, x.block < W.heap.size := by obtain ⟨m, hm⟩ := k1; exact DataW.trod_lt m _ _ _ hm
  obtain ⟨x1, rfl, w1⟩ := jb_of (hval 1 32 v1 rfl rfl) h1
  have k2 := h2
  have lt2 : ∀ x ∈ p2, x.block < W.heap.size := by obtain ⟨m, hm⟩ := k2; exact DataW.trod_lt m _ _ _ hm
  obtain ⟨a2, rfl, _, _, w2⟩ := open_int Tryd.underlying3 (hval 2 3 v2 rfl rfl) h2
  have k3 := h3
  have lt3 : ∀ x ∈ p3, x.block < W.heap.size := by obtain ⟨m, hm⟩ := k3; exact DataW.trod_lt m _ _ _ hm
  obtain ⟨a3, rfl, _, _, w3⟩ := open_int Tryd.underlying5 (hval 3 5 v3 rfl rfl) h3
  have hT := of_laid hL
  clear hL
  clear hA0 hval0
  refine (walk x0 x1 a2 a3 W v0 q0 w1 w2 w3 hT).mono fun e W' ⟨he, bel⟩ => ?_
  subst he
  exact ⟨_, rfl, _, _, _, [], _, [], hW', trodAll_mk1 (shut_bool Tryd.underlying4 _), (trodAll_cons_mk (Below.trod laidOut (by kernel_rfl) (of_decide_eq_true (by kernel_rfl)) k0 bel lt0) (trodAll_cons_mk (Below.trod laidOut (by kernel_rfl) (of_decide_eq_true (by kernel_rfl)) k1 bel lt1) (trodAll_cons_mk (Below.trod laidOut (by kernel_rfl) (of_decide_eq_true (by kernel_rfl)) k2 bel lt2) (trodAll_cons_mk (Below.trod laidOut (by kernel_rfl) (of_decide_eq_true (by kernel_rfl)) k3 bel lt3) trodAll_mk0)))), rfl, bel.frame _, fun h => by cases h⟩

/-- THE ROW. -/
theorem row_holds : Rows.ElasticMoreSaid :=
  OpenClaim.holds_of_wide 4 Tryd.f4 rfl rfl rfl rfl rfl rfl rfl ⟨rfl, rfl, rfl, rfl, rfl⟩ rfl rfl rfl rfl rfl (by kernel_rfl) Tryd.func4 (by kernel_rfl)
    (of_decide_eq_true (by kernel_rfl)) (by unfold Func.isWrapper; first | (rw [if_pos (by decide +kernel)]; kernel_rfl) | (rw [if_neg (by decide +kernel)]; exact ⟨rfl, rfl⟩))
    (fun os started H enc _ => lifted os started H enc)

/-- THE STATEMENT. -/
theorem card_holds : Rows.ElasticMoreCardSaid :=
  Claim7.holds_tied_plain_at .later [] [.data] true (true, Rows.elasticMoreCard.stood.harness.2) false
    row_holds (fun _ h => by cases h) (by kernel_rfl) (fun _ h => by cases h) elasticMore_row_tie rfl ⟨rfl, rfl⟩ (by kernel_rfl) rfl
    (fun f fn hf hfn => by
      obtain rfl : f = 4 := Option.some.inj ((show Tryd.prog.funcNamed Rows.elasticMoreRow.func = some 4 by kernel_rfl).symm.trans hf) |>.symm
      obtain rfl : fn = Tryd.f4 := (Option.some.inj (Tryd.func4.symm.trans hfn)).symm
      exact ⟨by kernel_rfl, fun j t ht => by
        rw [Tryd.params4] at ht
        have hm : t ∈ [28, 32, 3, 5] := by simpa using Array.mem_of_getElem? ht
        have hall : ([28, 32, 3, 5].all fun u => !Tryd.prog.wantsStandIn u) = true := by kernel_rfl
        exact (show Tryd.prog.wantsStandIn t = false by simpa using List.all_eq_true.1 hall t hm)⟩)
    (by kernel_rfl)
end Go.Proofs.YtppapmacngdefaaDoor.elasticMore
