/- cut of package pack: pieces of what is free at a spot, one behind the other, behind some slots. -/
import Derived.RegionTactic
import Derived.WalkArith
import Derived.BigRegion
import Derived.Deep.RegionHeld3
import Derived.Deep.AppendLies
import Derived.Test.YteflblcbmkcidaaDoorFoot
import Derived.Test.YteflblcbmkcidaaDoorHeldOn
import Derived.Test.YteflblcbmkcidaaDoorPackMem
namespace Go.Proofs.YteflblcbmkcidaaDoor
open Go.RowKit

theorem info_slotP : (Tryd.prog.info? 41).map (fun i => (i.zero, i.size, i.bytes)) = some (some (.agg #[.int .i64 0, .int .i64 0, .int .u64 0, .int .i64 0]), 4, 32) := by kernel_rfl
def slotF (S : Shp) (f : Fe) : Fe := ⟨f.n, f.d, MM.low f.m S.g.toNat, S.c⟩
def restF (S : Shp) (f : Fe) : Fe := ⟨f.n, f.d, MM.sub f.m (MM.low f.m S.g.toNat), f.c - S.c⟩
def pieces (S : Shp) : Fe → Nat → List Fe
  | _, 0 => []
  | f, p + 1 => slotF S f :: pieces S (restF S f) p
def rests (S : Shp) : Fe → Nat → Fe
  | f, 0 => f
  | f, p + 1 => rests S (restF S f) p
theorem pieces_next (S : Shp) : ∀ (k : Nat) (f : Fe), pieces S f (k + 1) = pieces S f k ++ [slotF S (rests S f k)]
  | 0, _ => rfl
  | k + 1, f => by
    rw [pieces, pieces_next S k (restF S f)]
    rfl
theorem rests_next (S : Shp) : ∀ (k : Nat) (f : Fe), rests S f (k + 1) = restF S (rests S f k)
  | 0, _ => rfl
  | k + 1, f => by rw [rests, rests_next S k (restF S f)]; rfl
theorem pieces_len (S : Shp) : ∀ (k : Nat) (f : Fe), (pieces S f k).length = k
  | 0, _ => rfl
  | k + 1, f => by rw [pieces, List.length_cons, pieces_len]
theorem rests_spot (S : Shp) : ∀ (k : Nat) (f : Fe), (rests S f k).n = f.n ∧ (rests S f k).d = f.d
  | 0, _ => ⟨rfl, rfl⟩
  | k + 1, f => rests_spot S k (restF S f)
theorem tms_step (n a : Nat) : tms n a ≤ tms n (a - n) + 1 := by
  unfold tms
  by_cases h : n = 0
  · rw [if_pos h, if_pos h]; omega
  · rw [if_neg h, if_neg h]
    rcases Nat.lt_or_ge a n with h1 | h1
    · rw [Nat.div_eq_of_lt h1]; exact Nat.zero_le _
    · have := Nat.div_eq_sub_div (show 0 < n by omega) h1
      omega
theorem fit_pos' {S : Shp} {f : Fe} (h : 0 < fitF S f) : S.ok = true ∧ ∃ (g c k : Nat), S.g = g ∧ S.c = c ∧ f.c = k ∧ fitF S f = fitN g c (MM.cnt f.m) k ∧ g ≤ MM.cnt f.m ∧ c ≤ k := by
  obtain ⟨g, c, mn, mx⟩ := S
  cases hok : Shp.ok ⟨g, c, mn, mx⟩
  · unfold fitF at h; rw [hok] at h; simp at h
  · obtain ⟨g', c', rfl, rfl, _⟩ := Shp.nat hok
    have h2 : fitF ⟨(g' : Int), (c' : Int), mn, mx⟩ f = fitZ g' c' (MM.cnt f.m) f.c := by unfold fitF; rw [if_pos hok]; rfl
    rw [h2] at h
    by_cases h0 : f.c < 0
    · unfold fitZ at h; rw [if_pos h0] at h; omega
    · have h3 : fitZ g' c' (MM.cnt f.m) f.c = fitN g' c' (MM.cnt f.m) f.c.toNat := by unfold fitZ; rw [if_neg h0]
      rw [h3] at h
      obtain ⟨a, b⟩ := fit_pos h
      exact ⟨rfl, g', c', f.c.toNat, rfl, rfl, by omega, by rw [h2, h3], a, b⟩
theorem restF_fit {S : Shp} {f : Fe} (h : 0 < fitF S f) : fitF S f ≤ fitF S (restF S f) + 1 := by
  obtain ⟨hok, g, c, k, hg, hc, hk, e, h1, h2⟩ := fit_pos' h
  have e2 : fitF S (restF S f) = fitN g c (MM.cnt f.m - g) (k - c) := by
    unfold fitF restF
    rw [if_pos hok]
    simp only [hg, hc, hk]
    rw [show ((g : Int)).toNat = g from rfl, show ((c : Int)).toNat = c from rfl, MM.cnt_rest]
    unfold fitZ
    rw [if_neg (by omega)]
    congr 1
    omega
  rw [e, e2]
  unfold fitN
  have a1 := tms_step g (MM.cnt f.m)
  have a2 := tms_step c k
  omega
theorem slotF_ok {S : Shp} {f : Fe} (hw : S.Wf) (hf : FeOk f) : FeOk (slotF S f) := ⟨hf.n, hf.d, MM.low_lt _ _, hw.c⟩
theorem restF_ok {S : Shp} {f : Fe} (hf : FeOk f) (h : 0 < fitF S f) : FeOk (restF S f) := by
  obtain ⟨hok, g, c, k, hg, hc, hk, e, h1, h2⟩ := fit_pos' h
  have := bounds_i64 hf.c
  refine ⟨hf.n, hf.d, MM.sub_lt _ hf.m, ?_⟩
  unfold restF
  refine WalkArith.wf_i64 ?_
  simp only [hc, hk] at *
  omega
theorem piece_call (S : Shp) (f : Fe) (w : World) (hw : S.Wf) (hf : FeOk f) (hT : Tab w) (h : 0 < fitF S f) :
    Calls Tryd.prog 25 #[shV S, feV f] w fun e w' => e = .returned (.tuple #[feV (slotF S f), feV (restF S f), .int .i64 0]) ∧ Below w.heap.size w w' := by
  have b := bounds_i64 hf.c
  obtain ⟨hok, g, c, k, hg, hc, hk, e, h1, h2⟩ := fit_pos' h
  rw [hk] at b
  obtain ⟨g0, c0, mn, mx⟩ := S
  obtain ⟨fn, fd, fm, fc⟩ := f
  simp only at hg hc hk
  subst hg hc hk
  rw [e] at h
  have := piece_ok g c mn mx fn fd fm k w hw hok hf.m (by have h9 := b.2; omega) hT h
  have e1 : ((k : Int) - (c : Int)) = ((k - c : Nat) : Int) := by omega
  unfold shV feV slotF restF
  simp only [e1]
  exact this
set_option maxRecDepth 100000 in
set_option maxHeartbeats 4000000 in
theorem cut_any (A : Option Addr) (cap base : Nat) (L : List Fe) (f : Fe) (S : Shp) (p : Nat) (w : World) (ho : w.ownsRow base 41 4 (.slice A L.length cap) L.length (L.flatMap feC)) (hbase : base ≤ w.heap.size) (hw : S.Wf) (hf : FeOk f) (hp : p ≤ fitF S f) (hL : L.length ≤ 100000) (hT : Tab w) (hTb : 0 < base) :
    Calls Tryd.prog 16 #[.slice A L.length cap, feV f, shV S, .int .i64 (p : Nat)] w fun e w' => ∃ A' cap', e = .returned (.slice A' (L.length + p) cap') ∧
      w'.ownsRow base 41 4 (.slice A' (L.length + p) cap') (L.length + p) ((L ++ pieces S f p).flatMap feC) ∧ Foot (fun i => (Value.slice A L.length cap).ownBlock = some i) w w' ∧ (∀ i, (Value.slice A' (L.length + p) cap').ownBlock = some i → (Value.slice A L.length cap).ownBlock = some i ∨ w.heap.size ≤ i) := by
  have hp16 : p ≤ 16 := Nat.le_trans hp (fitF_le S f)
  obtain ⟨n, hn⟩ : ∃ n, L.length = n := ⟨_, rfl⟩
  rw [hn] at ho hL ⊢
  obtain ⟨V, hV⟩ : ∃ V, V = Value.slice A n cap := ⟨_, rfl⟩
  obtain ⟨g, c, mn, mx⟩ := S
  obtain ⟨w1, hw1⟩ : ∃ W, W = (w.alloc (.cells #[.int .i64 f.n, .int .i64 f.d, .int .u64 (f.m : Nat), .int .i64 f.c] 40)).alloc (.cells #[.int .i64 g, .int .i64 c, .int .i64 mn, .int .i64 mx] 24) := ⟨_, rfl⟩
  have hw1s : w1.heap.size = w.heap.size + 1 + 1 := by rw [hw1]; simp
  have hB1 : Below w.heap.size w w1 := by rw [hw1]; exact ((Below.refl w.heap.size w).alloc (Nat.le_refl _) _).alloc (by simp) _
  have bF : w1.heap[w.heap.size]? = some (.cells #[.int .i64 f.n, .int .i64 f.d, .int .u64 (f.m : Nat), .int .i64 f.c] 40 (0, 0)) := by rw [hw1]; exact (Below.heap_alloc _ _ _ (by simp)).trans (heap_alloc_new w _)
  have bS : w1.heap[w.heap.size + 1]? = some (.cells #[.int .i64 g, .int .i64 c, .int .i64 mn, .int .i64 mx] 24 (0, 0)) := by
    have h9 := heap_alloc_new (w.alloc (.cells #[.int .i64 f.n, .int .i64 f.d, .int .u64 (f.m : Nat), .int .i64 f.c] 40)) (.cells #[.int .i64 g, .int .i64 c, .int .i64 mn, .int .i64 mx] 24)
    rw [World.size_alloc] at h9
    rw [hw1]; exact h9
  have ho1 : w1.ownsRow base 41 4 (.slice A n cap) n (L.flatMap feC) := own_below ho hB1
  -- the state of a round
  obtain ⟨St, hSt⟩ : ∃ St : Nat → World → Value → Prop, St = fun (k : Nat) (wr : World) (v : Value) => ∃ A' cap', v = .slice A' (n + k) cap' ∧ wr.ownsRow base 41 4 v (n + k) ((L ++ pieces ⟨g, c, mn, mx⟩ f k).flatMap feC) ∧ Foot (fun i => V.ownBlock = some i) w wr ∧ (∀ i, v.ownBlock = some i → V.ownBlock = some i ∨ w.heap.size + 1 < i) ∧
    wr.heap[w.heap.size]? = some (.cells #[.int .i64 (rests ⟨g, c, mn, mx⟩ f k).n, .int .i64 (rests ⟨g, c, mn, mx⟩ f k).d, .int .u64 ((rests ⟨g, c, mn, mx⟩ f k).m : Nat), .int .i64 (rests ⟨g, c, mn, mx⟩ f k).c] 40 (0, 0)) ∧ wr.heap[w.heap.size + 1]? = some (.cells #[.int .i64 g, .int .i64 c, .int .i64 mn, .int .i64 mx] 24 (0, 0)) ∧
    FeOk (rests ⟨g, c, mn, mx⟩ f k) ∧ p ≤ fitF ⟨g, c, mn, mx⟩ (rests ⟨g, c, mn, mx⟩ f k) + k ∧ w.heap.size + 1 < wr.heap.size := ⟨_, rfl⟩
  have HS0 : Hid (St 0 w1 (.slice A n cap)) := Lib.hid (by
    rw [hSt]
    refine ⟨A, cap, rfl, by simpa [pieces] using ho1, (Foot.refl _ w).trans (Foot.of_below (F := fun _ => False) hB1) (fun _ h => h.elim), fun i h => .inl (by rw [hV]; exact h), bF, bS, hf, by simpa [rests] using hp, by omega⟩)
  have hVlt := fun i (h : V.ownBlock = some i) => (show i < w.heap.size ∧ base ≤ i from by rw [hV] at h; exact ⟨(ho.lt i h).2, (ho.lt i h).1⟩)
  have H := Lib.hid (And.intro hSt (And.intro hVlt (And.intro hT (And.intro hTb hw))))
  have HV := Lib.hid hV
  have HW := Lib.hid hw1
  rw [← hV]
  clear hSt hVlt hT hTb hw hV hw1 hw1s hB1 bF bS ho1 ho hf hp
  unfold feV shV
  obtain ⟨i0, hi, hz0, hz1, hz2⟩ := info_parts info_slotP
  go_enter Tryd.func16, Tryd.ntmps16
  go_wp2_with fail
  rw [← HW.out]
  rw [HV.out]
  go_loopw [0, 13] (fun v i wr => ∃ k : Nat, i = .int .i64 k ∧ k ≤ p ∧ Hid (St k wr v)) (fun _ i _ => p - (intOf i).toNat)
  case atStart => exact ⟨0, rfl, by omega, HS0⟩
  case round =>
    clear HS0
    obtain ⟨k, rfl, hk, hS⟩ := hrel
    have hSk := hS.out
    rw [H.out.1] at hSk
    obtain ⟨A', cap', rfl, hown, hft, hfar, bF, bS, hok, hpk, hsw⟩ := hSk
    clear hS
    by_cases hlt : k < p
    · obtain ⟨q, hq⟩ : ∃ q, q = rests ⟨g, c, mn, mx⟩ f k := ⟨_, rfl⟩
      rw [← hq] at bF hok hpk
      have hTr : Tab wr := H.out.2.2.1.below (hft.below hbase fun i hi => (H.out.2.1 i hi).2) H.out.2.2.2.1
      have hpos : 0 < fitF ⟨g, c, mn, mx⟩ q := by omega
      have hC := Lib.hid (piece_call ⟨g, c, mn, mx⟩ q wr H.out.2.2.2.2 hok hTr hpos)
      have hrf := restF_fit hpos
      have hrok := restF_ok hok hpos
      obtain ⟨sl, hsl⟩ : ∃ s, s = slotF ⟨g, c, mn, mx⟩ q := ⟨_, rfl⟩
      obtain ⟨re, hre⟩ : ∃ s, s = restF ⟨g, c, mn, mx⟩ q := ⟨_, rfl⟩
      rw [← hsl, ← hre] at hC
      rw [← hre] at hrf hrok
      have HN := Lib.hid (And.intro (show pieces ⟨g, c, mn, mx⟩ f (k + 1) = pieces ⟨g, c, mn, mx⟩ f k ++ [sl] by rw [hsl, hq]; exact pieces_next _ _ _) (And.intro (show rests ⟨g, c, mn, mx⟩ f (k + 1) = re by rw [hre, hq]; exact rests_next _ _ _) (And.intro hrok (And.intro hrf (And.intro hpk (And.intro hown (And.intro hft (And.intro hfar (And.intro bF bS)))))))))
      unfold shV feV at hC
      have x0 : wr.cell? ⟨w.heap.size, 0, none⟩ = some (.int .i64 q.n) := cell_blk (i := 0) bF rfl
      have x1 : wr.cell? ⟨w.heap.size, 1, none⟩ = some (.int .i64 q.d) := cell_blk (i := 1) bF rfl
      have x2 : wr.cell? ⟨w.heap.size, 2, none⟩ = some (.int .u64 (q.m : Nat)) := cell_blk (i := 2) bF rfl
      have x3 : wr.cell? ⟨w.heap.size, 3, none⟩ = some (.int .i64 q.c) := cell_blk (i := 3) bF rfl
      have s0 : wr.cell? ⟨w.heap.size + 1, 0, none⟩ = some (.int .i64 g) := cell_blk (i := 0) bS rfl
      have s1 : wr.cell? ⟨w.heap.size + 1, 1, none⟩ = some (.int .i64 c) := cell_blk (i := 1) bS rfl
      have s2 : wr.cell? ⟨w.heap.size + 1, 2, none⟩ = some (.int .i64 mn) := cell_blk (i := 2) bS rfl
      have s3 : wr.cell? ⟨w.heap.size + 1, 3, none⟩ = some (.int .i64 mx) := cell_blk (i := 3) bS rfl
      have t1 : decide (k < p) = true := decide_eq_true hlt
      clear hq hok hpk hTr hpos hrf hrok hsl hre hown hft hfar bF bS
      go_wp2_with fail
      refine hC.out.mono ?_
      rintro e w2 ⟨rfl, hb2⟩
      have hs2 := hb2.size
      clear x0 x1 x2 x3 s0 s1 s2 s3 hC
      go_wp2_with fail
      generalize hW9 : (w2.alloc (.cells #[.int .i64 sl.n, .int .i64 sl.d, .int .u64 (sl.m : Nat), .int .i64 sl.c] 41)).alloc (.cells #[.int .i64 re.n, .int .i64 re.d, .int .u64 (re.m : Nat), .int .i64 re.c] 40) = W9
      have bA : W9.heap[w2.heap.size]? = some (.cells #[.int .i64 sl.n, .int .i64 sl.d, .int .u64 (sl.m : Nat), .int .i64 sl.c] 41 (0, 0)) := by rw [← hW9]; exact (Below.heap_alloc _ _ _ (by simp)).trans (heap_alloc_new w2 _)
      have bD : W9.heap[w2.heap.size + 1]? = some (.cells #[.int .i64 re.n, .int .i64 re.d, .int .u64 (re.m : Nat), .int .i64 re.c] 40 (0, 0)) := by
        have h9 := heap_alloc_new (w2.alloc (.cells #[.int .i64 sl.n, .int .i64 sl.d, .int .u64 (sl.m : Nat), .int .i64 sl.c] 41)) (.cells #[.int .i64 re.n, .int .i64 re.d, .int .u64 (re.m : Nat), .int .i64 re.c] 40)
        rw [World.size_alloc] at h9; rw [← hW9]; exact h9
      have hb9 : Below wr.heap.size wr W9 := by rw [← hW9]; exact (hb2.alloc hs2 _).alloc (by simp; omega) _
      have hz9 : W9.heap.size = w2.heap.size + 1 + 1 := by rw [← hW9]; simp
      obtain ⟨N2, hN2⟩ : ∃ N2, N2 = w2.heap.size := ⟨_, rfl⟩
      rw [← hN2] at bA bD hz9 ⊢
      have l2 : wr.heap.size ≤ N2 := by omega
      have hown9 : W9.ownsRow base 41 4 (.slice A' (n + k) cap') (n + k) ((L ++ pieces ⟨g, c, mn, mx⟩ f k).flatMap feC) := own_below HN.out.2.2.2.2.2.1 hb9
      have hbs9 : base ≤ W9.heap.size := by omega
      have ownA : (Value.slice A' (n + k) cap').ownBlock ≠ some N2 := fun e => by have := (HN.out.2.2.2.2.2.1.lt _ e).2; omega
      have ownD : (Value.slice A' (n + k) cap').ownBlock ≠ some (N2 + 1) := fun e => by have := (HN.out.2.2.2.2.2.1.lt _ e).2; omega
      have bF9 := Lib.hid ((hb9.block w.heap.size (by omega)).trans HN.out.2.2.2.2.2.2.2.2.1)
      have bS9 := Lib.hid ((hb9.block (w.heap.size + 1) hsw).trans HN.out.2.2.2.2.2.2.2.2.2)
      have hb9' := Lib.hid hb9
      clear hW9 hN2 hb2 hs2 hb9
      refine held_begin (fun w' : World => w'.cell? ⟨N2, 0, none⟩ = some (.int .i64 sl.n) ∧ w'.cell? ⟨N2, 1, none⟩ = some (.int .i64 sl.d) ∧ w'.cell? ⟨N2, 2, none⟩ = some (.int .u64 (sl.m : Nat)) ∧ w'.cell? ⟨N2, 3, none⟩ = some (.int .i64 sl.c) ∧ w'.cell? ⟨N2 + 1, 0, none⟩ = some (.int .i64 re.n) ∧ w'.cell? ⟨N2 + 1, 1, none⟩ = some (.int .i64 re.d) ∧ w'.cell? ⟨N2 + 1, 2, none⟩ = some (.int .u64 (re.m : Nat)) ∧ w'.cell? ⟨N2 + 1, 3, none⟩ = some (.int .i64 re.c)) (by kernel_rfl) ?_
      have hS0 : (fun w' : World => w'.cell? ⟨N2, 0, none⟩ = some (.int .i64 sl.n) ∧ w'.cell? ⟨N2, 1, none⟩ = some (.int .i64 sl.d) ∧ w'.cell? ⟨N2, 2, none⟩ = some (.int .u64 (sl.m : Nat)) ∧ w'.cell? ⟨N2, 3, none⟩ = some (.int .i64 sl.c) ∧ w'.cell? ⟨N2 + 1, 0, none⟩ = some (.int .i64 re.n) ∧ w'.cell? ⟨N2 + 1, 1, none⟩ = some (.int .i64 re.d) ∧ w'.cell? ⟨N2 + 1, 2, none⟩ = some (.int .u64 (re.m : Nat)) ∧ w'.cell? ⟨N2 + 1, 3, none⟩ = some (.int .i64 re.c)) W9.drew := ⟨cell_blk (i := 0) (w := W9) bA rfl, cell_blk (i := 1) (w := W9) bA rfl, cell_blk (i := 2) (w := W9) bA rfl, cell_blk (i := 3) (w := W9) bA rfl, cell_blk (i := 0) (w := W9) bD rfl, cell_blk (i := 1) (w := W9) bD rfl, cell_blk (i := 2) (w := W9) bD rfl, cell_blk (i := 3) (w := W9) bD rfl⟩
      refine held_take (v := ?_) 0 22 rfl rfl (by kernel_rfl) (by kernel_rfl) (by kernel_rfl) (fun _ _ _ h => h) ⟨by rfl, ?_⟩ hS0 ?_
      rotate_left
      · intro w' hw'; obtain ⟨y0, y1, y2, y3, y4, y5, y6, y7⟩ := hw'; go_simp; (try with_reducible rfl)
      simp only [Act.put, List.setIfInBounds_toArray, List.set_cons_zero, List.set_cons_succ]
      refine held_take (v := ?_) 1 23 rfl rfl (by kernel_rfl) (by kernel_rfl) (by kernel_rfl) (fun _ _ _ h => h) ⟨by rfl, ?_⟩ hS0 ?_
      rotate_left
      · intro w' hw'; obtain ⟨y0, y1, y2, y3, y4, y5, y6, y7⟩ := hw'; go_simp; (try with_reducible rfl)
      simp only [Act.put, List.setIfInBounds_toArray, List.set_cons_zero, List.set_cons_succ]
      refine held_take (v := ?_) 4 26 rfl rfl (by kernel_rfl) (by kernel_rfl) (by kernel_rfl) (fun _ _ _ h => h) ⟨by rfl, ?_⟩ hS0 ?_
      rotate_left
      · intro w' hw'; obtain ⟨y0, y1, y2, y3, y4, y5, y6, y7⟩ := hw'; go_simp; (try with_reducible rfl)
      simp only [Act.put, List.setIfInBounds_toArray, List.set_cons_zero, List.set_cons_succ]
      refine held_one 2 rfl (by kernel_rfl) (by rfl) (fun K hK => ?_)
      go_simp
      obtain ⟨W5, hW5⟩ : ∃ wld, wld = (W9.alloc (.cells #[.int .i64 sl.n, .int .i64 sl.d, .int .u64 (sl.m : Nat), .int .i64 sl.c] 41)).drew := ⟨_, rfl⟩
      have hB5 : Below W9.heap.size W9 W5 := by rw [hW5]; exact ((Below.refl _ _).alloc (Nat.le_refl _) _).drew
      have bN5 : W5.heap[W9.heap.size]? = some (.cells #[.int .i64 sl.n, .int .i64 sl.d, .int .u64 (sl.m : Nat), .int .i64 sl.c] 41 (0, 0)) := by rw [hW5]; exact heap_alloc_new W9 _
      have hz5 : W5.heap.size = W9.heap.size + 1 := by rw [hW5]; exact World.size_alloc _ _
      have hS5 : (fun w' : World => w'.cell? ⟨N2, 0, none⟩ = some (.int .i64 sl.n) ∧ w'.cell? ⟨N2, 1, none⟩ = some (.int .i64 sl.d) ∧ w'.cell? ⟨N2, 2, none⟩ = some (.int .u64 (sl.m : Nat)) ∧ w'.cell? ⟨N2, 3, none⟩ = some (.int .i64 sl.c) ∧ w'.cell? ⟨N2 + 1, 0, none⟩ = some (.int .i64 re.n) ∧ w'.cell? ⟨N2 + 1, 1, none⟩ = some (.int .i64 re.d) ∧ w'.cell? ⟨N2 + 1, 2, none⟩ = some (.int .u64 (re.m : Nat)) ∧ w'.cell? ⟨N2 + 1, 3, none⟩ = some (.int .i64 re.c)) W5 := ⟨(hB5.cell (p := ⟨N2, 0, none⟩) (show N2 < W9.heap.size by omega)).trans (cell_blk (i := 0) bA rfl), (hB5.cell (p := ⟨N2, 1, none⟩) (show N2 < W9.heap.size by omega)).trans (cell_blk (i := 1) bA rfl), (hB5.cell (p := ⟨N2, 2, none⟩) (show N2 < W9.heap.size by omega)).trans (cell_blk (i := 2) bA rfl), (hB5.cell (p := ⟨N2, 3, none⟩) (show N2 < W9.heap.size by omega)).trans (cell_blk (i := 3) bA rfl), (hB5.cell (p := ⟨N2 + 1, 0, none⟩) (show N2 + 1 < W9.heap.size by omega)).trans (cell_blk (i := 0) bD rfl), (hB5.cell (p := ⟨N2 + 1, 1, none⟩) (show N2 + 1 < W9.heap.size by omega)).trans (cell_blk (i := 1) bD rfl), (hB5.cell (p := ⟨N2 + 1, 2, none⟩) (show N2 + 1 < W9.heap.size by omega)).trans (cell_blk (i := 2) bD rfl), (hB5.cell (p := ⟨N2 + 1, 3, none⟩) (show N2 + 1 < W9.heap.size by omega)).trans (cell_blk (i := 3) bD rfl)⟩
      refine hK.out _ _ (show _ from by rw [← hW5]; exact hS5) ?_
      clear hK K
      try simp only [Act.put, List.setIfInBounds_toArray, List.set_cons_zero, List.set_cons_succ]
      rw [← hW5]
      have hown5 := own_below hown9 hB5
      rw [hz9] at bN5
      clear hW5
      refine held_one 3 rfl (by kernel_rfl) (by rfl) (fun K hK => ?_)
      refine wp_append_lies _ _ _ 27 rfl base 41 i0 _ 4 32 Tryd.underlying27 hi hz0 hz1 hz2 rfl (by omega) (.slice A' (n + k) cap') (n + k) ((L ++ pieces ⟨g, c, mn, mx⟩ f k).flatMap feC) rfl hown5 ⟨N2 + 1 + 1, 0, none⟩ 1 1 [.int .i64 sl.n, .int .i64 sl.d, .int .u64 (sl.m : Nat), .int .i64 sl.c] rfl rfl (World.news_of_block bN5) (by simp [Value.oneCell']) (by omega) (by unfold maxLen; omega) (by omega) (by omega) W5.heap.size rfl ?_
      intro gg cap6 w6 hown6 hgr hat hlt6
      have hgf : gg = W5.heap.size ∨ (Value.slice A' (n + k) cap').ownBlock = some gg := by rcases hat with h | h; exact .inr h; exact .inl h
      have far6 : ∀ (j : Nat), j < W5.heap.size → (Value.slice A' (n + k) cap').ownBlock ≠ some j → w6.heap[j]? = W5.heap[j]? := fun j hj hne => hgr.block j hj (fun e => hne e.symm)
      have hS6 : (fun w' : World => w'.cell? ⟨N2, 0, none⟩ = some (.int .i64 sl.n) ∧ w'.cell? ⟨N2, 1, none⟩ = some (.int .i64 sl.d) ∧ w'.cell? ⟨N2, 2, none⟩ = some (.int .u64 (sl.m : Nat)) ∧ w'.cell? ⟨N2, 3, none⟩ = some (.int .i64 sl.c) ∧ w'.cell? ⟨N2 + 1, 0, none⟩ = some (.int .i64 re.n) ∧ w'.cell? ⟨N2 + 1, 1, none⟩ = some (.int .i64 re.d) ∧ w'.cell? ⟨N2 + 1, 2, none⟩ = some (.int .u64 (re.m : Nat)) ∧ w'.cell? ⟨N2 + 1, 3, none⟩ = some (.int .i64 re.c)) w6 := by
        have e1 := (far6 N2 (by omega) ownA).trans ((hB5.block _ (by omega)).trans bA)
        have e2 := (far6 (N2 + 1) (by omega) ownD).trans ((hB5.block _ (by omega)).trans bD)
        exact ⟨cell_blk (i := 0) e1 rfl, cell_blk (i := 1) e1 rfl, cell_blk (i := 2) e1 rfl, cell_blk (i := 3) e1 rfl, cell_blk (i := 0) e2 rfl, cell_blk (i := 1) e2 rfl, cell_blk (i := 2) e2 rfl, cell_blk (i := 3) e2 rfl⟩
      refine hK.out _ _ hS6 ?_
      clear hK K
      try simp only [Act.put, List.setIfInBounds_toArray]
      refine held_take (v := ?_) 5 0 rfl rfl (by kernel_rfl) (by kernel_rfl) (by kernel_rfl) (fun _ _ _ h => h) ⟨by rfl, ?_⟩ hS6 ?_
      rotate_left
      · intro w' hw'; obtain ⟨y0, y1, y2, y3, y4, y5, y6, y7⟩ := hw'; go_simp; (try with_reducible rfl)
      simp only [Act.put]
      have nF : (Value.slice A' (n + k) cap').ownBlock ≠ some w.heap.size := fun e => by
        rcases HN.out.2.2.2.2.2.2.2.1 _ e with h | h
        · have := (H.out.2.1 _ h).1; omega
        · omega
      have nS : (Value.slice A' (n + k) cap').ownBlock ≠ some (w.heap.size + 1) := fun e => by
        rcases HN.out.2.2.2.2.2.2.2.1 _ e with h | h
        · have := (H.out.2.1 _ h).1; omega
        · omega
      have bF6 := (far6 w.heap.size (by omega) nF).trans ((hB5.block _ (by omega)).trans bF9.out)
      have bS6 := (far6 (w.heap.size + 1) (by omega) nS).trans ((hB5.block _ (by omega)).trans bS9.out)
      have u0 := cell_blk (i := 0) bF6 rfl
      have u1 := cell_blk (i := 1) bF6 rfl
      have u2 := cell_blk (i := 2) bF6 rfl
      have u3 := cell_blk (i := 3) bF6 rfl
      have z0 := frozen_blk (i := 0) bF6
      have z1 := frozen_blk (i := 1) bF6
      have z2 := frozen_blk (i := 2) bF6
      have z3 := frozen_blk (i := 3) bF6
      obtain ⟨W7, hW7⟩ : ∃ W, W = (((w6.setCell ⟨w.heap.size, 0, none⟩ (.int .i64 re.n)).setCell ⟨w.heap.size, 1, none⟩ (.int .i64 re.d)).setCell ⟨w.heap.size, 2, none⟩ (.int .u64 (re.m : Nat))).setCell ⟨w.heap.size, 3, none⟩ (.int .i64 re.c) := ⟨_, rfl⟩
      have far7 : ∀ (j : Nat), j ≠ w.heap.size → W7.heap[j]? = w6.heap[j]? := fun j hj => by
        rw [hW7]; exact (Below.heap_setCell _ _ _ _ (by simpa using hj)).trans ((Below.heap_setCell _ _ _ _ (by simpa using hj)).trans ((Below.heap_setCell _ _ _ _ (by simpa using hj)).trans (Below.heap_setCell _ _ _ _ (by simpa using hj))))
      have bF7 : W7.heap[w.heap.size]? = some (.cells #[.int .i64 re.n, .int .i64 re.d, .int .u64 (re.m : Nat), .int .i64 re.c] 40 (0, 0)) := by
        have := blk_put (i := 3) (.int .i64 re.c) (blk_put (i := 2) (.int .u64 (re.m : Nat)) (blk_put (i := 1) (.int .i64 re.d) (blk_put (i := 0) (.int .i64 re.n) bF6)))
        rw [← hW7] at this
        simpa using this
      have hS7 : (fun w' : World => w'.cell? ⟨N2, 0, none⟩ = some (.int .i64 sl.n) ∧ w'.cell? ⟨N2, 1, none⟩ = some (.int .i64 sl.d) ∧ w'.cell? ⟨N2, 2, none⟩ = some (.int .u64 (sl.m : Nat)) ∧ w'.cell? ⟨N2, 3, none⟩ = some (.int .i64 sl.c) ∧ w'.cell? ⟨N2 + 1, 0, none⟩ = some (.int .i64 re.n) ∧ w'.cell? ⟨N2 + 1, 1, none⟩ = some (.int .i64 re.d) ∧ w'.cell? ⟨N2 + 1, 2, none⟩ = some (.int .u64 (re.m : Nat)) ∧ w'.cell? ⟨N2 + 1, 3, none⟩ = some (.int .i64 re.c)) W7 := by
        have e1 := (far7 N2 (by omega)).trans ((far6 N2 (by omega) ownA).trans ((hB5.block _ (by omega)).trans bA))
        have e2 := (far7 (N2 + 1) (by omega)).trans ((far6 (N2 + 1) (by omega) ownD).trans ((hB5.block _ (by omega)).trans bD))
        exact ⟨cell_blk (i := 0) e1 rfl, cell_blk (i := 1) e1 rfl, cell_blk (i := 2) e1 rfl, cell_blk (i := 3) e1 rfl, cell_blk (i := 0) e2 rfl, cell_blk (i := 1) e2 rfl, cell_blk (i := 2) e2 rfl, cell_blk (i := 3) e2 rfl⟩
      have hf6 : Foot (fun i => V.ownBlock = some i) w w6 := by
        have h1 : Foot (fun i => V.ownBlock = some i) w W5 := (HN.out.2.2.2.2.2.2.1.trans (Foot.of_below (F := fun _ => False) hb9'.out) (fun _ h => h.elim)).trans (Foot.of_below (F := fun _ => False) hB5) (fun _ h => h.elim)
        exact h1.grown hgr (fun i e => by rcases HN.out.2.2.2.2.2.2.2.1 i e with h | h; exact .inl h; exact .inr (by omega))
      have hf7 : Foot (fun i => V.ownBlock = some i) w W7 := by
        rw [hW7]; exact (((hf6.setCell (.inr (Nat.le_refl _)) _).setCell (.inr (Nat.le_refl _)) _).setCell (.inr (Nat.le_refl _)) _).setCell (.inr (Nat.le_refl _)) _
      have hg6 : ∀ i, (Value.slice (some ⟨gg, 0, none⟩) (n + k + 1) cap6).ownBlock = some i → V.ownBlock = some i ∨ w.heap.size + 1 < i := fun i e => by
        have e : gg = i := by simpa [Value.ownBlock] using e
        subst e
        rcases hgf with h | h
        · exact .inr (by omega)
        · exact HN.out.2.2.2.2.2.2.2.1 _ h
      have hown7 : W7.ownsRow base 41 4 (.slice (some ⟨gg, 0, none⟩) (n + k + 1) cap6) (n + k + 1) ((L ++ pieces ⟨g, c, mn, mx⟩ f (k + 1)).flatMap feC) := by
        have h1 : w6.ownsRow base 41 4 (.slice (some ⟨gg, 0, none⟩) (n + k + 1) cap6) (n + k + 1) ((L ++ pieces ⟨g, c, mn, mx⟩ f (k + 1)).flatMap feC) := by
          rw [HN.out.1, ← List.append_assoc, List.flatMap_append]
          simpa [feC] using hown6
        refine own_kept h1 fun i e => far7 i fun e2 => ?_
        subst e2
        rcases hg6 _ e with h | h
        · have := (H.out.2.1 _ h).1; omega
        · omega
      have hs67 := hgr.size
      have hs7 : w.heap.size + 1 < W7.heap.size := by rw [hW7]; simp; omega
      have HN3 : Hid (St (k + 1) W7 (.slice (some ⟨gg, 0, none⟩) (n + k + 1) cap6)) := Lib.hid (by
        rw [H.out.1]
        exact ⟨_, _, rfl, hown7, hf7, hg6, by rw [HN.out.2.1]; exact bF7, (far7 (w.heap.size + 1) (by omega)).trans bS6, by rw [HN.out.2.1]; exact HN.out.2.2.1, by rw [HN.out.2.1]; have := HN.out.2.2.2.1; have := HN.out.2.2.2.2.1; omega, hs7⟩)
      refine held_one 6 rfl (by kernel_rfl) (by rfl) (fun K hK => ?_)
      clear hown7 hf7 hf6 far7 bF7 bS6 bF6 hgr hat hgf far6 hown6 hlt6 bA bD
      go_simp
      refine hK.out _ _ (show _ from by rw [← hW7]; exact hS7) ?_
      clear hK K
      rw [← hW7]
      clear hW7 u0 u1 u2 u3 z0 z1 z2 z3
      refine wpAnyH_done (by kernel_rfl) ?_ _
      go_wp2
      go_roundw
      case rel => exact ⟨k + 1, by go_num, by omega, HN3⟩
      case measure => simp [intOf]; omega
    · obtain rfl : k = p := by omega
      have t1 : decide (k < k) = false := decide_eq_false (by omega)
      clear hlt
      go_wp2
      go_ret
      exact ⟨A', cap', rfl, hown, hft, fun i hi => (hfar i hi).imp id (fun h => by omega)⟩
end Go.Proofs.YteflblcbmkcidaaDoor
