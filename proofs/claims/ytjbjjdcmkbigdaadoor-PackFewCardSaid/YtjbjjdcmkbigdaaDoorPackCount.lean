/- The document's count of units (layer 2), for the walks of pack's laws; a region that draws, held until one operation. -/
import Derived.Below
import Derived.BigQuiet
import Derived.Deep.DrawnRows
import Derived.Deep.QuietTactic
import Derived.Deep.RegionHeld3
import Derived.Lib.Hide
import Derived.OrdersHeld
import Derived.StillTail
import Derived.StillTailTactics
import Derived.WalkKit
import Derived.Test.YtjbjjdcmkbigdaaDoorMaskRefU
import Derived.Test.YtjbjjdcmkbigdaaDoorTopoMem
namespace Go.Proofs.YtjbjjdcmkbigdaaDoor
open Go.RowKit
section
variable {P : Program} {ops : Array Oper} {Q : Exit → Act → World → Prop} {md : Region.Mode} {S : World → Prop} {c : Nat}

/-- Whatever order is picked from here on; S holds behind every operation until number c has come up. -/
def wpUntil (P : Program) (md : Region.Mode) (ops : Array Oper) (Q : Exit → Act → World → Prop) (S : World → Prop) (c : Nat) : Nat → Array Bool → Act → World → Prop
  | 0, listed, a, w => Region.ready md ops listed = [] ∧ Q .normal a w
  | f + 1, listed, a, w => (Region.ready md ops listed = [] → Q .normal a w) ∧
      ∀ i ∈ Region.ready md ops listed, wpOp P ops Q i (fun a' w' => ((listed.setIfInBounds i true).getD c true = false → S w') ∧ wpUntil P md ops Q S c f (listed.setIfInBounds i true) a' w') a w
theorem wpAny_of_until : ∀ (f : Nat) (listed : Array Bool) (a : Act) (w : World), wpUntil P md ops Q S c f listed a w → wpAny P md ops Q f listed a w
  | 0, _, _, _, h => h
  | f + 1, _, _, _, h => ⟨h.1, fun i hi => wpOp_mono (fun a' w' k => wpAny_of_until f _ a' w' k.2) (h.2 i hi)⟩
theorem wp_until (S : World → Prop) (c : Nat) {id : Nat} {a : Act} {w : World} (hm : P.follows .mixedOrders = true)
    (h : wpUntil P .any ops Q S c ops.size (Array.replicate ops.size false) a w.drew) : (Code.region id ops true).wp P Q a w :=
  wp_region_any hm (wpAny_of_until _ _ _ _ h)

theorem until_first {i : Nat} {oi : Oper} {v : Value} (hi : ops[i]? = some oi) (hsel : ∀ (j : Nat) (o : Oper) cs b, ops[j]? = some o → o.op ≠ .select cs b)
    (hQ : ∀ ch a w, Q (.panic ch) (a.put oi.dst v) w → Q (.panic ch) a w) (hw : Region.waitsFor md ops c i = true) (hic : i ≠ c) :
    ∀ (f : Nat) (listed : Array Bool) (a : Act) (w : World),
      (∀ j oj, ops[j]? = some oj → j ≠ i → listed.getD j true = false → (∀ e ∈ oj.after, Region.binds md e = true → e.on ≠ i) → oi.apart ops oj = true) →
      i ∈ Region.ready md ops listed → listed.getD c true = false → YieldsIf P ops S oi v a → S w →
      wpUntil P md ops Q S c f (listed.setIfInBounds i true) (a.put oi.dst v) w → wpUntil P md ops Q S c (f + 1) listed a w
  | 0, listed, a, w => fun _ hr _ hy hS H => by
    refine ⟨fun h => (by rw [h] at hr; cases hr), fun j hj => ?_⟩
    by_cases hji : j = i
    · subst hji; exact hy.wpOp hi hS ⟨fun _ => hS, H⟩
    · have := ready_mono hj hji
      rw [H.1] at this
      cases this
  | f + 1, listed, a, w => fun hfree hr hc hy hS H => by
    refine ⟨fun h => (by rw [h] at hr; cases hr), fun j hj => ?_⟩
    by_cases hji : j = i
    · subst hji; exact hy.wpOp hi hS ⟨fun _ => hS, H⟩
    · have hun := (mem_ready.1 hr).1
      obtain ⟨hjun, oj, hoj, hall⟩ := mem_ready.1 hj
      have hnot : ∀ e ∈ oj.after, Region.binds md e = true → e.on ≠ i := fun e he hb heq => by
        have h1 := hall e he hb
        rw [heq, getD_both hun] at h1
        cases h1
      have hjc : j ≠ c := by
        rintro rfl
        obtain ⟨o', ho', e, he, hb, hon⟩ := Region.waitsFor_spec hw
        have : o' = oj := Option.some.inj (ho'.symm.trans hoj)
        subst this
        exact hnot e he hb hon
      have h1 := H.2 j (ready_mono hj hji)
      have h2 := wpOp_putIf hoj (hfree j oj hoj hji hjun hnot) (fun cs b => hsel i oi cs b hi) (fun cs b => hsel j oj cs b hoj) hQ hy h1
      have hc2 : (listed.setIfInBounds j true).getD c true = false := by rw [getD_set_ne true hjc]; exact hc
      have hc3 : ((listed.setIfInBounds i true).setIfInBounds j true).getD c true = false := by rw [getD_set_ne true hjc, getD_set_ne true hic]; exact hc
      refine wpOp_mono (fun a' w' h3 => ⟨fun _ => h3.2.1 hc3, until_first hi hsel hQ hw hic f (listed.setIfInBounds j true) a' w' ?_ (ready_mono hr (Ne.symm hji)) hc2 h3.1 (h3.2.1 hc3) ?_⟩) h2
      · intro k ok hk hki hku hno
        refine hfree k ok hk hki ?_ hno
        by_cases hjk : j = k
        · subst hjk; exact hjun
        · rw [getD_set_ne true hjk] at hku; exact hku
      · rw [Array.setIfInBounds_comm _ _ hji]
        exact h3.2.2

/-- Number i first: it yields v in every world that meets S; number c waits for it. -/
theorem until_take (i t : Nat) {oi : Oper} {v : Value} {f : Nat} {listed : Array Bool} {a : Act} {w : World} (hi : ops[i]? = some oi) (ht : oi.dst = some t)
    (hs : Region.noSelect ops = true) (hf : Region.free md ops listed i = true) (hr : (Region.ready md ops listed).contains i = true) (hw : (Region.waitsFor md ops c i && (i != c) && !listed.getD c true) = true)
    (hQ : ∀ ch a w, Q (.panic ch) (a.put (some t) v) w → Q (.panic ch) a w) (hy : Region.wanted oi (yielded ops a.tmps) = true ∧ ∀ w, S w → (execOp a.eval oi).run P w = .ok (.value v) w) (hS : S w)
    (h : wpUntil P md ops Q S c f (listed.setIfInBounds i true) (a.put (some t) v) w) : wpUntil P md ops Q S c (f + 1) listed a w := by
  rw [← ht] at hQ h
  simp only [Bool.and_eq_true, bne_iff_ne, ne_eq, Bool.not_eq_true'] at hw
  exact until_first hi (Region.noSelect_spec hs) hQ hw.1.1 hw.1.2 f listed a w (Region.free_spec hi hf) (by simpa using hr) hw.2 (.inl hy) hS h
/-- Number i alone may come up. -/
theorem until_one (i : Nat) {oi : Oper} {f : Nat} {listed : Array Bool} {a : Act} {w : World} (hi : ops[i]? = some oi) (hr : Region.ready md ops listed = [i]) (hg : oi.guard = none)
    (h : ∀ K : Act → World → Prop, Hid (∀ a' w', ((listed.setIfInBounds i true).getD c true = false → S w') → wpUntil P md ops Q S c f (listed.setIfInBounds i true) a' w' → K a' w') → oi.wp P a w K Q) : wpUntil P md ops Q S c (f + 1) listed a w := by
  refine ⟨fun h0 => (by rw [hr] at h0; cases h0), fun j hj => ?_⟩
  rw [hr] at hj
  obtain rfl : j = i := by simpa using hj
  unfold wpOp
  simp only [hi]
  rw [if_pos (by simp [Region.wanted, hg])]
  exact .inl (h _ (Lib.hid fun _ _ h1 h2 => ⟨h1, h2⟩))
theorem until_done {f : Nat} {listed : Array Bool} {a : Act} {w : World} (hr : Region.ready md ops listed = []) (h : Q .normal a w) : wpUntil P md ops Q S c f listed a w := by
  cases f with
  | zero => exact ⟨hr, h⟩
  | succ f => exact ⟨fun _ => h, by rw [hr]; simp⟩
end

attribute [local go_sem ↓] Go.wp_at_zero Go.wp_at_succ
def gsum (l : List Fr) : Nat := (l.map fun f => MM.cnt f.m).sum
def csum (l : List Fr) : Nat := (l.map fun f => f.c).sum
theorem gsum_next {l : List Fr} {k : Nat} {f : Fr} (h : l[k]? = some f) : gsum (l.take (k + 1)) = gsum (l.take k) + MM.cnt f.m := by
  unfold gsum; rw [take_next h]; simp
theorem csum_next {l : List Fr} {k : Nat} {f : Fr} (h : l[k]? = some f) : csum (l.take (k + 1)) = csum (l.take k) + f.c := by
  unfold csum; rw [take_next h]; simp
theorem sums_le : ∀ (l : List Fr), (∀ f ∈ l, f.m < 18446744073709551616 ∧ f.c ≤ 1024) → gsum l ≤ 64 * l.length ∧ csum l ≤ 1024 * l.length
  | [], _ => ⟨Nat.le_refl _, Nat.le_refl _⟩
  | f :: l, h => by
    obtain ⟨h1, h2⟩ := sums_le l fun x hx => h x (List.mem_cons_of_mem _ hx)
    have := (h f (by simp)).2
    have := MM.cnt_le f.m
    simp only [gsum, csum, List.map_cons, List.sum_cons, List.length_cons] at h1 h2 ⊢
    omega
set_option maxRecDepth 100000 in
set_option maxHeartbeats 2000000 in
theorem refunits_any (m : Nat) (hm : m < 18446744073709551616) (w : World) :
    Calls Tryd.prog 30 #[.int .u64 m] w fun e w' => ∃ A c, e = .returned (.slice A (MM.cnt m) c) ∧ Below w.heap.size w w' :=
  (refunits_own m hm w).mono fun e w' ⟨v, he, ho, hb⟩ => by
    rcases ho.2 with ⟨rfl, h0⟩ | ⟨g, cap, cur, rfl, _⟩
    · exact ⟨none, 0, by rw [he, h0], hb⟩
    · exact ⟨_, _, he, hb⟩
set_option maxRecDepth 100000 in
set_option maxHeartbeats 2000000 in
theorem refcount_some (b off c n B : Nat) (l : List Fr) (w : World) (hn : l.length = n) (hb : b < B) (hB : B ≤ w.heap.size) (hc : ∀ i x, l[i]? = some x → FrAt w b (off + i * 4) x) (hl : n ≤ 1000) (hf : ∀ f ∈ l, f.m < 18446744073709551616 ∧ f.c ≤ 1024) :
    Calls Tryd.prog 18 #[.slice (some ⟨b, off, none⟩) n c] w fun e w' => e = .returned (.agg #[.int .i64 (gsum l : Nat), .int .i64 (csum l : Nat)]) ∧ Below w.heap.size w w' := by
  have hB1 := ((Below.refl w.heap.size w).alloc (Nat.le_refl _) (.cells #[.int .i64 0, .int .i64 0] 43)).alloc (by simp) (.cells #[.int .i64 0, .int .i64 0] 43)
  have r1 : ((w.alloc (.cells #[.int .i64 0, .int .i64 0] 43)).alloc (.cells #[.int .i64 0, .int .i64 0] 43)).heap[w.heap.size]? = some (.cells #[.int .i64 0, .int .i64 0] 43 (0, 0)) := (Below.heap_alloc _ _ _ (by simp)).trans (heap_alloc_new w _)
  have r2 : ((w.alloc (.cells #[.int .i64 0, .int .i64 0] 43)).alloc (.cells #[.int .i64 0, .int .i64 0] 43)).heap[w.heap.size + 1]? = some (.cells #[.int .i64 ((0 : Nat) : Int), .int .i64 ((0 : Nat) : Int)] 43 (0, 0)) := by
    have := heap_alloc_new (w.alloc (.cells #[.int .i64 0, .int .i64 0] 43)) (.cells #[.int .i64 0, .int .i64 0] 43)
    simpa using this
  have H := Lib.hid (And.intro hn (And.intro hc (And.intro r1 (And.intro r2 hf))))
  clear hn hc r1 r2 hf
  go_enter Tryd.func18, Tryd.ntmps18
  go_wp2
  obtain ⟨w1, hw1⟩ : ∃ w1, w1 = (w.alloc (.cells #[.int .i64 0, .int .i64 0] 43)).alloc (.cells #[.int .i64 0, .int .i64 0] 43) := ⟨_, rfl⟩
  rw [← hw1] at H hB1 ⊢
  clear hw1
  go_loopw [4] (fun i wr => ∃ (k G C : Nat), i = .int .i64 k ∧ k ≤ n ∧ Below w.heap.size w wr ∧ Hid (G = gsum (l.take k)) ∧ Hid (C = csum (l.take k)) ∧ Hid (wr.heap[w.heap.size]? = some (.cells #[.int .i64 0, .int .i64 0] 43 (0, 0))) ∧ Hid (wr.heap[w.heap.size + 1]? = some (.cells #[.int .i64 (G : Nat), .int .i64 (C : Nat)] 43 (0, 0)))) (fun i _ => n - (intOf i).toNat)
  case atStart => exact ⟨0, 0, 0, rfl, by omega, hB1, Lib.hid rfl, Lib.hid rfl, Lib.hid H.out.2.2.1, Lib.hid H.out.2.2.2.1⟩
  case round =>
    obtain ⟨k, G, C, rfl, hk, hBl, hG, hC, hR, hTt⟩ := hrel
    have hBs := hBl.size
    by_cases hlt : k < n
    · obtain ⟨f, hx⟩ := get_lt (l := l) (k := k) (by rw [H.out.1]; exact hlt)
      have hFr := (H.out.2.1 k f hx).keep (B := w.heap.size) (by omega) hBl
      have t0 : decide (k < n) = true := by simpa using hlt
      have j0 : (0 : Int) ≤ (k : Int) := by omega
      have j1 : (k : Int) < (n : Int) := by omega
      have hfm := H.out.2.2.2.2 f (List.mem_of_getElem? hx)
      obtain ⟨s1, s2⟩ := sums_le (l.take k) fun y hy => H.out.2.2.2.2 y (List.mem_of_mem_take hy)
      rw [List.length_take, ← hG.out] at s1
      rw [List.length_take, ← hC.out] at s2
      have gT : w.heap.size + 1 < wr.heap.size := blk_lt hTt.out
      have hcnt := MM.cnt_le f.m
      have NG := Lib.hid (gsum_next hx)
      have NC := Lib.hid (csum_next hx)
      have CN := Lib.hid (refunits_any f.m hfm.1)
      obtain ⟨cm, hcm⟩ : ∃ cm, cm = MM.cnt f.m := ⟨_, rfl⟩
      rw [← hcm] at hcnt NG CN
      clear hx hcm
      go_wp2_with fail
      refine wp_until (fun w' : World => w'.cell? ⟨w.heap.size + 1, 0, none⟩ = some (.int .i64 (G : Nat)) ∧ w'.cell? ⟨b, off + k * 4 + 2, none⟩ = some (.int .u64 (f.m : Nat))) 11 (by kernel_rfl) ?_
      have hS : (fun w' : World => w'.cell? ⟨w.heap.size + 1, 0, none⟩ = some (.int .i64 (G : Nat)) ∧ w'.cell? ⟨b, off + k * 4 + 2, none⟩ = some (.int .u64 (f.m : Nat))) wr.drew := ⟨cell_blk (i := 0) (w := wr) hTt.out rfl, hFr.2.2.1⟩
      refine until_take (v := ?_) 0 12 rfl rfl (by kernel_rfl) (by kernel_rfl) (by kernel_rfl) (by kernel_rfl) (fun _ _ _ h => h) ⟨by rfl, ?_⟩ hS ?_
      rotate_left
      · intro w' hw'; obtain ⟨x0, x1⟩ := hw'; go_simp; (try with_reducible rfl)
      simp only [Act.put, List.setIfInBounds_toArray, List.set_cons_zero, List.set_cons_succ]
      refine until_take (v := ?_) 1 13 rfl rfl (by kernel_rfl) (by kernel_rfl) (by kernel_rfl) (by kernel_rfl) (fun _ _ _ h => h) ⟨by rfl, ?_⟩ hS ?_
      rotate_left
      · intro w' hw'; obtain ⟨x0, x1⟩ := hw'; go_simp; (try with_reducible rfl)
      simp only [Act.put, List.setIfInBounds_toArray, List.set_cons_zero, List.set_cons_succ]
      refine until_take (v := ?_) 2 14 rfl rfl (by kernel_rfl) (by kernel_rfl) (by kernel_rfl) (by kernel_rfl) (fun _ _ _ h => h) ⟨by rfl, ?_⟩ hS ?_
      rotate_left
      · intro w' hw'; obtain ⟨x0, x1⟩ := hw'; go_simp; (try with_reducible rfl)
      simp only [Act.put, List.setIfInBounds_toArray, List.set_cons_zero, List.set_cons_succ]
      refine until_take (v := ?_) 3 15 rfl rfl (by kernel_rfl) (by kernel_rfl) (by kernel_rfl) (by kernel_rfl) (fun _ _ _ h => h) ⟨by rfl, ?_⟩ hS ?_
      rotate_left
      · intro w' hw'; obtain ⟨x0, x1⟩ := hw'; go_simp; (try with_reducible rfl)
      simp only [Act.put, List.setIfInBounds_toArray, List.set_cons_zero, List.set_cons_succ]
      refine until_take (v := ?_) 4 16 rfl rfl (by kernel_rfl) (by kernel_rfl) (by kernel_rfl) (by kernel_rfl) (fun _ _ _ h => h) ⟨by rfl, ?_⟩ hS ?_
      rotate_left
      · intro w' hw'; obtain ⟨x0, x1⟩ := hw'; go_simp; (try with_reducible rfl)
      simp only [Act.put, List.setIfInBounds_toArray, List.set_cons_zero, List.set_cons_succ]
      refine until_take (v := ?_) 5 17 rfl rfl (by kernel_rfl) (by kernel_rfl) (by kernel_rfl) (by kernel_rfl) (fun _ _ _ h => h) ⟨by rfl, ?_⟩ hS ?_
      rotate_left
      · intro w' hw'; obtain ⟨x0, x1⟩ := hw'; go_simp; (try with_reducible rfl)
      simp only [Act.put, List.setIfInBounds_toArray, List.set_cons_zero, List.set_cons_succ]
      refine until_take (v := ?_) 6 18 rfl rfl (by kernel_rfl) (by kernel_rfl) (by kernel_rfl) (by kernel_rfl) (fun _ _ _ h => h) ⟨by rfl, ?_⟩ hS ?_
      rotate_left
      · intro w' hw'; obtain ⟨x0, x1⟩ := hw'; go_simp; (try with_reducible rfl)
      simp only [Act.put, List.setIfInBounds_toArray, List.set_cons_zero, List.set_cons_succ]
      refine until_one 7 rfl (by kernel_rfl) rfl (fun K hK => ?_)
      go_simp
      go_at_call 30
      refine (CN.out _).mono ?_
      rintro e w2 ⟨A, c', rfl, hb2⟩
      have hS2 : (fun w' : World => w'.cell? ⟨w.heap.size + 1, 0, none⟩ = some (.int .i64 (G : Nat)) ∧ w'.cell? ⟨b, off + k * 4 + 2, none⟩ = some (.int .u64 (f.m : Nat))) w2 := ⟨(hb2.cell (p := ⟨w.heap.size + 1, 0, none⟩) gT).trans hS.1, (hb2.cell (p := ⟨b, off + k * 4 + 2, none⟩) (show b < wr.heap.size by omega)).trans hS.2⟩
      refine hK.out _ _ (fun _ => hS2) ?_
      clear hK K
      have hS := hS2
      refine until_one 8 rfl (by kernel_rfl) rfl (fun K hK => ?_)
      go_simp
      refine hK.out _ _ (fun _ => hS) ?_
      clear hK K
      refine until_one 9 rfl (by kernel_rfl) rfl (fun K hK => ?_)
      go_simp
      refine hK.out _ _ (fun _ => hS) ?_
      clear hK K
      refine until_one 10 rfl (by kernel_rfl) rfl (fun K hK => ?_)
      go_simp
      refine hK.out _ _ (fun _ => hS) ?_
      clear hK K
      have bT := (hb2.block (w.heap.size + 1) gT).trans hTt.out
      have bR := (hb2.block w.heap.size (show w.heap.size < wr.heap.size by omega)).trans hR.out
      have hB2 := below_step hBl.drew hb2
      have hF2 : FrAt w2 b (off + k * 4) f := FrAt.keep (w := wr.drew) (B := wr.heap.size) hFr (by omega) hb2
      have z0 : w2.frozen? ⟨w.heap.size + 1, 0, none⟩ = false := frozen_blk bT
      have z1 : w2.frozen? ⟨w.heap.size + 1, 1, none⟩ = false := frozen_blk bT
      have x0 := hS.1
      refine until_one 11 rfl (by kernel_rfl) rfl (fun K hK => ?_)
      go_simp
      refine hK.out _ _ (fun h => absurd h (by decide)) ?_
      clear hK K
      refine until_done (by kernel_rfl) ?_
      have hwr : IntKind.i64.wrap ((G : Int) + (cm : Int)) = (((G + cm : Nat)) : Int) := by rw [IntWalk.i64_in _ (by omega)]; simp
      rw [hwr]
      clear hwr
      have bT3 := blk_put (i := 0) (.int .i64 ((G + cm : Nat) : Int)) bT
      have bR3 := (Below.heap_setCell w2 ⟨w.heap.size + 1, 0, none⟩ (.int .i64 ((G + cm : Nat) : Int)) w.heap.size (by simp)).trans bR
      have hB3 := hB2.setCell (p := ⟨w.heap.size + 1, 0, none⟩) (by simp) (.int .i64 ((G + cm : Nat) : Int))
      have f3 : (w2.setCell ⟨w.heap.size + 1, 0, none⟩ (.int .i64 ((G + cm : Nat) : Int))).cell? ⟨b, off + k * 4 + 3, none⟩ = some (.int .i64 (f.c : Nat)) := (World.cell?_setCell_other w2 ⟨w.heap.size + 1, 0, none⟩ ⟨b, off + k * 4 + 3, none⟩ _ (by simp)).trans hF2.2.2.2
      clear hS hS2 x0 z0 z1 bT bR hB2 hF2 hFr hb2 hTt hR
      generalize w2.setCell ⟨w.heap.size + 1, 0, none⟩ (.int .i64 ((G + cm : Nat) : Int)) = W at bT3 bR3 hB3 f3 ⊢
      simp only [List.setIfInBounds_toArray, List.set_cons_zero] at bT3
      obtain ⟨G', hG'⟩ : ∃ G', G' = G + cm := ⟨_, rfl⟩
      rw [← hG'] at bT3 ⊢
      have x1 : W.cell? ⟨w.heap.size + 1, 1, none⟩ = some (.int .i64 (C : Nat)) := cell_blk (i := 1) bT3 rfl
      have y1 : W.drew.cell? ⟨w.heap.size + 1, 1, none⟩ = some (.int .i64 (C : Nat)) := cell_blk (i := 1) (w := W) bT3 rfl
      have z1 : W.drew.frozen? ⟨w.heap.size + 1, 1, none⟩ = false := frozen_blk (w := W) bT3
      have hGG := Lib.hid hG'
      have BT := Lib.hid bT3
      have BR := Lib.hid bR3
      clear hG' bT3 bR3
      go_wp2_with fail
      go_still_tail 8, (by kernel_rfl)
      change wpList _ _ _ _ _ W.drew
      have BT' : Hid (W.drew.heap[w.heap.size + 1]? = some (.cells #[.int .i64 (G' : Nat), .int .i64 (C : Nat)] 43 (0, 0))) := BT
      have BR' : Hid (W.drew.heap[w.heap.size]? = some (.cells #[.int .i64 0, .int .i64 0] 43 (0, 0))) := BR
      have hB4 := hB3.drew
      clear x1 f3 BT BR hB3
      generalize W.drew = W4 at y1 z1 BT' BR' hB4 ⊢
      go_wp2
      go_roundw
      case rel =>
        refine ⟨k + 1, G', C + f.c, by go_num, by omega, hB4.setCell (by simp) _, Lib.hid (by rw [hGG.out, NG.out, hG.out]), Lib.hid (by rw [NC.out, hC.out]), Lib.hid ?_, Lib.hid ?_⟩
        · exact (Below.heap_setCell _ _ _ _ (by simp)).trans BR'.out
        · have := blk_put (i := 1) (.int .i64 ((C : Int) + (f.c : Int))) BT'.out
          simpa using this
      case measure => simp [intOf]; omega
    · obtain rfl : k = n := by omega
      have gT : w.heap.size + 1 < wr.heap.size := blk_lt hTt.out
      have x0 : wr.cell? ⟨w.heap.size + 1, 0, none⟩ = some (.int .i64 (G : Nat)) := cell_blk (i := 0) hTt.out rfl
      have x1 : wr.cell? ⟨w.heap.size + 1, 1, none⟩ = some (.int .i64 (C : Nat)) := cell_blk (i := 1) hTt.out rfl
      have y0 : wr.cell? ⟨w.heap.size, 0, none⟩ = some (.int .i64 0) := cell_blk (i := 0) hR.out rfl
      have y1 : wr.cell? ⟨w.heap.size, 1, none⟩ = some (.int .i64 0) := cell_blk (i := 1) hR.out rfl
      have z0 : wr.frozen? ⟨w.heap.size, 0, none⟩ = false := frozen_blk hR.out
      have z1 : wr.frozen? ⟨w.heap.size, 1, none⟩ = false := frozen_blk hR.out
      clear hlt
      go_wp2
      refine bodyPost_ret (v := .agg #[.int .i64 (G : Nat), .int .i64 (C : Nat)]) (by simp [results, Tryd.results18, go_sem, y0, y1]) rfl ?_
      have e : l.take k = l := by rw [← H.out.1]; exact List.take_length
      refine ⟨?_, (hBl.setCell (Nat.le_refl _) _).setCell (Nat.le_refl _) _⟩
      rw [hG.out, hC.out, e]
end Go.Proofs.YtjbjjdcmkbigdaaDoor
