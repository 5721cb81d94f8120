/- The head's want. -/
import Derived.RegionTactic
import Derived.BigRegion
import Derived.Deep.QuietTactic
import Derived.BigQuiet
import Derived.Deep.RegionWith
import Derived.Test.YtppapmacngdefaaDoorElAsk
set_option linter.unusedVariables false
set_option maxRecDepth 100000
namespace Go.Proofs.YtppapmacngdefaaDoor
open Go.RowKit
open PR
set_option maxHeartbeats 2000000 in
theorem headcl_any (p : Nat) (hd : Int) (x : Wt) (w : World) (hc : w.cell? ⟨p, 1, none⟩ = some (.int .i64 hd)) : Calls Tryd.prog 47 #[wtV x, .pointer (some ⟨p, 0, none⟩)] w fun e w' => e = .returned (.bool (x.id == hd)) ∧ Below w.heap.size w w' := by
  have hb := wt_new w x
  have hB := Lib.hid ((Below.refl w.heap.size w).alloc (Nat.le_refl _) (wtO x))
  have hp : p < w.heap.size := lt_of_cell hc
  have a0 : (w.alloc (wtO x)).cell? ⟨w.heap.size, 0, none⟩ = some (.int .i64 x.id) := cell_blk (i := 0) hb rfl
  have c1 : (w.alloc (wtO x)).cell? ⟨p, 1, none⟩ = some (.int .i64 hd) := (hB.out.cell (p := ⟨p, 1, none⟩) hp).trans hc
  simp only [wtV]
  clear hb hc
  go_enter Tryd.func47, Tryd.ntmps47
  go_wp2_with fail
  go_ret
  exact ⟨rfl, hB.out⟩
theorem find_at {α : Type} {l : List α} {P : α → Bool} {k : Nat} {x : α} (h : (l.take k).find? P = none) (hx : l[k]? = some x) (hp : P x = true) : l.find? P = some x := by
  conv => lhs; rw [← List.take_append_drop (k + 1) l, take_next hx, List.append_assoc, List.find?_append, h]
  simp [hp]
theorem find_on {α : Type} {l : List α} {P : α → Bool} {k : Nat} {x : α} (h : (l.take k).find? P = none) (hx : l[k]? = some x) (hp : P x = false) : (l.take (k + 1)).find? P = none := by
  rw [take_next hx, List.find?_append, h]
  simp [hp]
/-- Where the first one of an Id lies. -/
def IdxR (l : List Wt) (hd n : Int) : Prop := (n = -1 ∧ l.find? (fun x => x.id == hd) = none) ∨ ∃ (k : Nat) (x : Wt), n = k ∧ l[k]? = some x ∧ l.find? (fun x => x.id == hd) = some x
set_option maxHeartbeats 4000000 in
theorem hindex_any (p : Nat) (hd : Int) (A : Option Addr) (c : Nat) (l : List Wt) (w : World) (h : Wts w w.heap.size A l) (hl : l.length ≤ maxLen) (hc1 : w.cell? ⟨p, 1, none⟩ = some (.int .i64 hd)) :
    Calls Tryd.prog 46 #[.slice A l.length c, .func (.func 47) #[] #[.pointer (some ⟨p, 0, none⟩)]] w fun e w' => ∃ n : Int, e = .returned (.int .i64 n) ∧ IdxR l hd n ∧ Below w.heap.size w w' := by
  have hp : p < w.heap.size := lt_of_cell hc1
  obtain ⟨n, hn⟩ : ∃ n, n = l.length := ⟨_, rfl⟩
  rw [← hn] at hl ⊢
  have hl2 : n ≤ 9223372036854775807 := hl
  have H := Lib.hid (And.intro h hn)
  have HC := Lib.hid (fun x W (hk : Below w.heap.size w W) => headcl_any p hd x W ((hk.cell (p := ⟨p, 1, none⟩) hp).trans hc1))
  clear h hn hc1 hl
  have HB0 := Lib.hid (Below.refl w.heap.size w)
  have HI0 : Hid ((l.take 0).find? (fun x => x.id == hd) = none) := Lib.hid rfl
  go_enter Tryd.func46, Tryd.ntmps46
  go_wp2
  go_loopw [8] (fun i wr => ∃ k : Nat, i = .int .i64 k ∧ k ≤ n ∧ Hid (Below w.heap.size w wr) ∧ Hid ((l.take k).find? (fun x => x.id == hd) = none)) (fun i _ => n - (intOf i).toNat)
  case atStart => exact ⟨0, rfl, by omega, HB0, HI0⟩
  case round =>
    clear HB0 HI0
    obtain ⟨k, rfl, hk, hB, hI⟩ := hrel
    by_cases hlt : k < n
    · obtain ⟨x, hx⟩ := get_lt (l := l) (k := k) (by rw [← H.out.2]; exact hlt)
      obtain ⟨b, off, rfl, hb, hc⟩ := H.out.1.at_ hx
      have hcx := (hc k _ hx).keep hb hB.out
      have a0 : wr.cell? ⟨b, off + k * 10, none⟩ = some (.int .i64 x.id) := hcx 0 _ rfl
      have a1 : wr.cell? ⟨b, off + k * 10 + 1, none⟩ = some (.int .i64 x.q) := hcx 1 _ rfl
      have a2 : wr.cell? ⟨b, off + k * 10 + 2, none⟩ = some (.int .i64 x.p) := hcx 2 _ rfl
      have a3 : wr.cell? ⟨b, off + k * 10 + 3, none⟩ = some (.int .i64 x.r) := hcx 3 _ rfl
      have a4 : wr.cell? ⟨b, off + k * 10 + 4, none⟩ = some (.int .i64 x.g) := hcx 4 _ rfl
      have a5 : wr.cell? ⟨b, off + k * 10 + 5, none⟩ = some (.int .i64 x.c) := hcx 5 _ rfl
      have a6 : wr.cell? ⟨b, off + k * 10 + 6, none⟩ = some (.int .i64 x.mn) := hcx 6 _ rfl
      have a7 : wr.cell? ⟨b, off + k * 10 + 7, none⟩ = some (.int .i64 x.mx) := hcx 7 _ rfl
      have a8 : wr.cell? ⟨b, off + k * 10 + 8, none⟩ = some (.int .i64 x.s) := hcx 8 _ rfl
      have a9 : wr.cell? ⟨b, off + k * 10 + 9, none⟩ = some (.int .i64 x.n) := hcx 9 _ rfl
      have t2 : decide (k < n) = true := decide_eq_true hlt
      have hC := Lib.hid (HC.out x wr hB.out)
      obtain ⟨m, hm⟩ : ∃ m, m = (x.id == hd) := ⟨_, rfl⟩
      rw [← hm] at hC
      simp only [wtV, wtA] at hC
      cases m
      · have HN : Hid ((l.take (k + 1)).find? (fun x => x.id == hd) = none) := Lib.hid (find_on hI.out hx hm.symm)
        have HB1 := hB
        clear hcx hc hb hx hI hB hm HC
        go_wp2_with fail
        refine hC.out.mono ?_
        rintro e w1 ⟨rfl, hb1⟩
        have HB2 := Lib.hid (below_step HB1.out hb1)
        clear HB1 hb1 hC
        go_wp2
        go_roundw
        case rel => exact ⟨k + 1, by go_num, by omega, HB2, HN⟩
        case measure => simp [intOf]; omega
      · have HR : Hid (IdxR l hd k) := Lib.hid (.inr ⟨k, x, rfl, hx, find_at hI.out hx hm.symm⟩)
        have HB1 := hB
        clear hcx hc hb hx hI hB hm HC
        go_wp2_with fail
        refine hC.out.mono ?_
        rintro e w1 ⟨rfl, hb1⟩
        have HB2 := Lib.hid (below_step HB1.out hb1)
        clear HB1 hb1
        go_wp2
        go_ret
        exact ⟨_, rfl, HR.out, HB2.out⟩
    · obtain rfl : k = n := by omega
      have HR : Hid (IdxR l hd (-1)) := Lib.hid (.inl ⟨rfl, by have := hI.out; rw [H.out.2, List.take_length] at this; exact this⟩)
      have HB1 := hB
      clear hI hB hlt
      go_wp2
      go_ret
      exact ⟨_, rfl, HR.out, HB1.out⟩
/-- What is told of a head. -/
def HeadR (o : Option Wa) (e : Ending) : Prop := (o = none ∧ e = .returned (.tuple #[.agg #[.int .i64 0, .int .i64 0, .int .i64 0, .int .i64 0, .int .i64 0, .int .i64 0], .bool false])) ∨ ∃ X, o = some X ∧ e = .returned (.tuple #[.agg #[.int .i64 X.q, .int .i64 X.n, .int .i64 X.S.g, .int .i64 X.S.c, .int .i64 X.S.mn, .int .i64 X.S.mx], .bool true])
set_option maxHeartbeats 8000000 in
theorem head_any (L : Lk) (w : World) (h : LkIn w w.heap.size L) (hW : LkW L) :
    Calls Tryd.prog 37 #[lkV L] w fun e w' => HeadR (headL L) e ∧ Below w.heap.size w w' := by
  obtain ⟨n1, hn1⟩ : ∃ n, n = L.lv.length := ⟨_, rfl⟩
  obtain ⟨n2, hn2⟩ : ∃ n, n = L.lf.length := ⟨_, rfl⟩
  obtain ⟨n3, hn3⟩ : ∃ n, n = L.le.length := ⟨_, rfl⟩
  obtain ⟨n4, hn4⟩ : ∃ n, n = L.lw.length := ⟨_, rfl⟩
  obtain ⟨n5, hn5⟩ : ∃ n, n = L.lr.length := ⟨_, rfl⟩
  have hI := Lib.hid (fun p W (hk : Below w.heap.size w W) (hc : W.cell? ⟨p, 1, none⟩ = some (.int .i64 L.hd)) => show Calls Tryd.prog 46 #[.slice L.A4 n4 L.c4, .func (.func 47) #[] #[.pointer (some ⟨p, 0, none⟩)]] W (fun e w' => ∃ n : Int, e = .returned (.int .i64 n) ∧ IdxR L.lw L.hd n ∧ Below W.heap.size W w') from by
    rw [hn4]
    exact hindex_any p L.hd L.A4 L.c4 L.lw W (Els.keep h.t hk hk.size) (Nat.le_trans hW.l4 hW.m4) hc)
  have HT4 := Lib.hid h.t
  have HN := Lib.hid hn4
  obtain ⟨o, ho⟩ : ∃ o, o = headL L := ⟨_, rfl⟩
  rw [← ho]
  unfold headL at ho
  have HO := Lib.hid ho
  clear ho
  unfold lkV lkA
  rw [← hn1, ← hn2, ← hn3, ← hn4, ← hn5]
  clear hn1 hn2 hn3 hn4 hn5 h hW
  by_cases h0 : L.hd = 0
  · have t0 : ((0 : Int) == 0) = true := rfl
    have E0 := Lib.hid (show o = none from by rw [HO.out, if_pos h0])
    rw [h0]
    clear h0
    obtain ⟨B0, hB0⟩ : ∃ B, B = w.heap.size := ⟨_, rfl⟩
    rw [← hB0]
    have HB0 := Lib.hid hB0
    clear hB0
    have HBel := Lib.hid (Below.refl w.heap.size w)
    have hlow : w.heap.size ≤ w.heap.size := Nat.le_refl _
    go_enter Tryd.func37, Tryd.ntmps37
    go_wp2_with fail
    obtain ⟨V1, hV1⟩ : ∃ W, W = (w.alloc (.cells #[.int .i64 L.now, .int .i64 0, .int .i64 L.pr, .int .i64 L.to, .slice L.A1 n1 L.c1, .slice L.A2 n2 L.c2, .slice L.A3 n3 L.c3, .slice L.A4 n4 L.c4, .slice L.A5 n5 L.c5] 28)).alloc (.cells #[.int .i64 0, .int .i64 0, .int .i64 0, .int .i64 0, .int .i64 0, .int .i64 0] 85) := ⟨_, rfl⟩
    rw [← hV1]
    have hzV1 : V1.heap.size = w.heap.size + 1 + 1 := by rw [hV1]; simp
    replace HBel : Hid (Below w.heap.size w V1) := Lib.hid (by rw [hV1]; exact ((HBel.out.alloc (hlow) _).alloc (by simp <;> omega) _))
    have B_l : Hid (V1.heap[w.heap.size]? = some (.cells #[.int .i64 L.now, .int .i64 0, .int .i64 L.pr, .int .i64 L.to, .slice L.A1 n1 L.c1, .slice L.A2 n2 L.c2, .slice L.A3 n3 L.c3, .slice L.A4 n4 L.c4, .slice L.A5 n5 L.c5] 28 (0, 0))) := Lib.hid (by
      have h9 := heap_alloc_new (w) (.cells #[.int .i64 L.now, .int .i64 0, .int .i64 L.pr, .int .i64 L.to, .slice L.A1 n1 L.c1, .slice L.A2 n2 L.c2, .slice L.A3 n3 L.c3, .slice L.A4 n4 L.c4, .slice L.A5 n5 L.c5] 28)
      rw [hV1]; exact ((Below.heap_alloc _ _ _ (by simp <;> omega)).trans h9))
    have B_r : Hid (V1.heap[w.heap.size + 1]? = some (.cells #[.int .i64 0, .int .i64 0, .int .i64 0, .int .i64 0, .int .i64 0, .int .i64 0] 85 (0, 0))) := Lib.hid (by
      have h9 := heap_alloc_new (w.alloc (.cells #[.int .i64 L.now, .int .i64 0, .int .i64 L.pr, .int .i64 L.to, .slice L.A1 n1 L.c1, .slice L.A2 n2 L.c2, .slice L.A3 n3 L.c3, .slice L.A4 n4 L.c4, .slice L.A5 n5 L.c5] 28)) (.cells #[.int .i64 0, .int .i64 0, .int .i64 0, .int .i64 0, .int .i64 0, .int .i64 0] 85)
      rw [World.size_alloc] at h9
      rw [hV1]; exact h9)
    obtain ⟨N_l, hN_l⟩ : ∃ N, N = w.heap.size := ⟨_, rfl⟩
    obtain ⟨N_r, hN_r⟩ : ∃ N, N = w.heap.size + 1 := ⟨_, rfl⟩
    (try rw [← hN_r])
    rw [← hN_r] at B_r
    (try rw [← hN_l])
    rw [← hN_l] at B_l
    have l_l : N_l < V1.heap.size := by omega
    have l_r : N_r < V1.heap.size := by omega
    have g_l : w.heap.size ≤ N_l := by omega
    have g_r : w.heap.size ≤ N_r := by omega
    have d_l_r : N_l < N_r := by omega
    replace hlow : w.heap.size ≤ V1.heap.size := by omega
    clear hV1 hzV1 hN_l hN_r
    have r0 : V1.cell? ⟨N_r, 0, none⟩ = some (.int .i64 0) := cell_blk (i := 0) B_r.out rfl
    have r1 : V1.cell? ⟨N_r, 1, none⟩ = some (.int .i64 0) := cell_blk (i := 1) B_r.out rfl
    have r2 : V1.cell? ⟨N_r, 2, none⟩ = some (.int .i64 0) := cell_blk (i := 2) B_r.out rfl
    have r3 : V1.cell? ⟨N_r, 3, none⟩ = some (.int .i64 0) := cell_blk (i := 3) B_r.out rfl
    have r4 : V1.cell? ⟨N_r, 4, none⟩ = some (.int .i64 0) := cell_blk (i := 4) B_r.out rfl
    have r5 : V1.cell? ⟨N_r, 5, none⟩ = some (.int .i64 0) := cell_blk (i := 5) B_r.out rfl
    refine bodyPost_ret (v := .tuple #[.agg #[.int .i64 0, .int .i64 0, .int .i64 0, .int .i64 0, .int .i64 0, .int .i64 0], .bool false]) (by simp [results, Tryd.results37, go_sem, r0, r1, r2, r3, r4, r5]) rfl ?_
    exact ⟨.inl ⟨E0.out, rfl⟩, by rw [HB0.out]; exact HBel.out⟩
  · have t0 : (L.hd == 0) = false := by simp [h0]
    have E0 := Lib.hid h0
    clear h0
    obtain ⟨B0, hB0⟩ : ∃ B, B = w.heap.size := ⟨_, rfl⟩
    rw [← hB0]
    have HB0 := Lib.hid hB0
    clear hB0
    have HBel := Lib.hid (Below.refl w.heap.size w)
    have hlow : w.heap.size ≤ w.heap.size := Nat.le_refl _
    go_enter Tryd.func37, Tryd.ntmps37
    go_wp2_with fail
    obtain ⟨V1, hV1⟩ : ∃ W, W = (w.alloc (.cells #[.int .i64 L.now, .int .i64 L.hd, .int .i64 L.pr, .int .i64 L.to, .slice L.A1 n1 L.c1, .slice L.A2 n2 L.c2, .slice L.A3 n3 L.c3, .slice L.A4 n4 L.c4, .slice L.A5 n5 L.c5] 28)).alloc (.cells #[.int .i64 0, .int .i64 0, .int .i64 0, .int .i64 0, .int .i64 0, .int .i64 0] 85) := ⟨_, rfl⟩
    rw [← hV1]
    have hzV1 : V1.heap.size = w.heap.size + 1 + 1 := by rw [hV1]; simp
    replace HBel : Hid (Below w.heap.size w V1) := Lib.hid (by rw [hV1]; exact ((HBel.out.alloc (hlow) _).alloc (by simp <;> omega) _))
    have B_l : Hid (V1.heap[w.heap.size]? = some (.cells #[.int .i64 L.now, .int .i64 L.hd, .int .i64 L.pr, .int .i64 L.to, .slice L.A1 n1 L.c1, .slice L.A2 n2 L.c2, .slice L.A3 n3 L.c3, .slice L.A4 n4 L.c4, .slice L.A5 n5 L.c5] 28 (0, 0))) := Lib.hid (by
      have h9 := heap_alloc_new (w) (.cells #[.int .i64 L.now, .int .i64 L.hd, .int .i64 L.pr, .int .i64 L.to, .slice L.A1 n1 L.c1, .slice L.A2 n2 L.c2, .slice L.A3 n3 L.c3, .slice L.A4 n4 L.c4, .slice L.A5 n5 L.c5] 28)
      rw [hV1]; exact ((Below.heap_alloc _ _ _ (by simp <;> omega)).trans h9))
    have B_r : Hid (V1.heap[w.heap.size + 1]? = some (.cells #[.int .i64 0, .int .i64 0, .int .i64 0, .int .i64 0, .int .i64 0, .int .i64 0] 85 (0, 0))) := Lib.hid (by
      have h9 := heap_alloc_new (w.alloc (.cells #[.int .i64 L.now, .int .i64 L.hd, .int .i64 L.pr, .int .i64 L.to, .slice L.A1 n1 L.c1, .slice L.A2 n2 L.c2, .slice L.A3 n3 L.c3, .slice L.A4 n4 L.c4, .slice L.A5 n5 L.c5] 28)) (.cells #[.int .i64 0, .int .i64 0, .int .i64 0, .int .i64 0, .int .i64 0, .int .i64 0] 85)
      rw [World.size_alloc] at h9
      rw [hV1]; exact h9)
    obtain ⟨N_l, hN_l⟩ : ∃ N, N = w.heap.size := ⟨_, rfl⟩
    obtain ⟨N_r, hN_r⟩ : ∃ N, N = w.heap.size + 1 := ⟨_, rfl⟩
    (try rw [← hN_r])
    rw [← hN_r] at B_r
    (try rw [← hN_l])
    rw [← hN_l] at B_l
    have l_l : N_l < V1.heap.size := by omega
    have l_r : N_r < V1.heap.size := by omega
    have g_l : w.heap.size ≤ N_l := by omega
    have g_r : w.heap.size ≤ N_r := by omega
    have d_l_r : N_l < N_r := by omega
    replace hlow : w.heap.size ≤ V1.heap.size := by omega
    clear hV1 hzV1 hN_l hN_r
    have l0 : V1.cell? ⟨N_l, 0, none⟩ = some (.int .i64 L.now) := cell_blk (i := 0) B_l.out rfl
    have l1 : V1.cell? ⟨N_l, 1, none⟩ = some (.int .i64 L.hd) := cell_blk (i := 1) B_l.out rfl
    have l2 : V1.cell? ⟨N_l, 2, none⟩ = some (.int .i64 L.pr) := cell_blk (i := 2) B_l.out rfl
    have l3 : V1.cell? ⟨N_l, 3, none⟩ = some (.int .i64 L.to) := cell_blk (i := 3) B_l.out rfl
    have l4 : V1.cell? ⟨N_l, 4, none⟩ = some (.slice L.A1 n1 L.c1) := cell_blk (i := 4) B_l.out rfl
    have l5 : V1.cell? ⟨N_l, 5, none⟩ = some (.slice L.A2 n2 L.c2) := cell_blk (i := 5) B_l.out rfl
    have l6 : V1.cell? ⟨N_l, 6, none⟩ = some (.slice L.A3 n3 L.c3) := cell_blk (i := 6) B_l.out rfl
    have l7 : V1.cell? ⟨N_l, 7, none⟩ = some (.slice L.A4 n4 L.c4) := cell_blk (i := 7) B_l.out rfl
    have l8 : V1.cell? ⟨N_l, 8, none⟩ = some (.slice L.A5 n5 L.c5) := cell_blk (i := 8) B_l.out rfl
    go_wp2_with fail
    refine (hI.out N_l V1 HBel.out l1).mono ?_
    rintro e U2 ⟨n, rfl, hi, hb9⟩
    clear l0 l1 l2 l3 l4 l5 l6 l7 l8
    have hs9 := hb9.size
    replace HBel := Lib.hid (HBel.out.trans (hb9.mono hlow))
    replace B_l : Hid (U2.heap[N_l]? = some (.cells #[.int .i64 L.now, .int .i64 L.hd, .int .i64 L.pr, .int .i64 L.to, .slice L.A1 n1 L.c1, .slice L.A2 n2 L.c2, .slice L.A3 n3 L.c3, .slice L.A4 n4 L.c4, .slice L.A5 n5 L.c5] 28 (0, 0))) := Lib.hid ((hb9.block _ l_l).trans B_l.out)
    replace B_r : Hid (U2.heap[N_r]? = some (.cells #[.int .i64 0, .int .i64 0, .int .i64 0, .int .i64 0, .int .i64 0, .int .i64 0] 85 (0, 0))) := Lib.hid ((hb9.block _ l_r).trans B_r.out)
    replace l_l : N_l < U2.heap.size := by omega
    replace l_r : N_r < U2.heap.size := by omega
    replace hlow : w.heap.size ≤ U2.heap.size := by omega
    clear hb9 hs9
    rcases hi with ⟨rfl, hnone⟩ | ⟨k, x, rfl, hx, hfind⟩
    · have E1 := Lib.hid (show o = none from by rw [HO.out, if_neg E0.out, hnone])
      clear hnone
      have l0 : U2.cell? ⟨N_l, 0, none⟩ = some (.int .i64 L.now) := cell_blk (i := 0) B_l.out rfl
      have l1 : U2.cell? ⟨N_l, 1, none⟩ = some (.int .i64 L.hd) := cell_blk (i := 1) B_l.out rfl
      have l2 : U2.cell? ⟨N_l, 2, none⟩ = some (.int .i64 L.pr) := cell_blk (i := 2) B_l.out rfl
      have l3 : U2.cell? ⟨N_l, 3, none⟩ = some (.int .i64 L.to) := cell_blk (i := 3) B_l.out rfl
      have l4 : U2.cell? ⟨N_l, 4, none⟩ = some (.slice L.A1 n1 L.c1) := cell_blk (i := 4) B_l.out rfl
      have l5 : U2.cell? ⟨N_l, 5, none⟩ = some (.slice L.A2 n2 L.c2) := cell_blk (i := 5) B_l.out rfl
      have l6 : U2.cell? ⟨N_l, 6, none⟩ = some (.slice L.A3 n3 L.c3) := cell_blk (i := 6) B_l.out rfl
      have l7 : U2.cell? ⟨N_l, 7, none⟩ = some (.slice L.A4 n4 L.c4) := cell_blk (i := 7) B_l.out rfl
      have l8 : U2.cell? ⟨N_l, 8, none⟩ = some (.slice L.A5 n5 L.c5) := cell_blk (i := 8) B_l.out rfl
      have r0 : U2.cell? ⟨N_r, 0, none⟩ = some (.int .i64 0) := cell_blk (i := 0) B_r.out rfl
      have r1 : U2.cell? ⟨N_r, 1, none⟩ = some (.int .i64 0) := cell_blk (i := 1) B_r.out rfl
      have r2 : U2.cell? ⟨N_r, 2, none⟩ = some (.int .i64 0) := cell_blk (i := 2) B_r.out rfl
      have r3 : U2.cell? ⟨N_r, 3, none⟩ = some (.int .i64 0) := cell_blk (i := 3) B_r.out rfl
      have r4 : U2.cell? ⟨N_r, 4, none⟩ = some (.int .i64 0) := cell_blk (i := 4) B_r.out rfl
      have r5 : U2.cell? ⟨N_r, 5, none⟩ = some (.int .i64 0) := cell_blk (i := 5) B_r.out rfl
      have rz0 : U2.frozen? ⟨N_r, 0, none⟩ = false := frozen_blk B_r.out
      have rz1 : U2.frozen? ⟨N_r, 1, none⟩ = false := frozen_blk B_r.out
      have rz2 : U2.frozen? ⟨N_r, 2, none⟩ = false := frozen_blk B_r.out
      have rz3 : U2.frozen? ⟨N_r, 3, none⟩ = false := frozen_blk B_r.out
      have rz4 : U2.frozen? ⟨N_r, 4, none⟩ = false := frozen_blk B_r.out
      have rz5 : U2.frozen? ⟨N_r, 5, none⟩ = false := frozen_blk B_r.out
      go_wp2_with fail
      clear l0 l1 l2 l3 l4 l5 l6 l7 l8 r0 r1 r2 r3 r4 r5 rz0 rz1 rz2 rz3 rz4 rz5
      obtain ⟨S3, hS3⟩ : ∃ W, W = ((((((U2).setCell ⟨N_r, 0, none⟩ (.int .i64 0)).setCell ⟨N_r, 1, none⟩ (.int .i64 0)).setCell ⟨N_r, 2, none⟩ (.int .i64 0)).setCell ⟨N_r, 3, none⟩ (.int .i64 0)).setCell ⟨N_r, 4, none⟩ (.int .i64 0)).setCell ⟨N_r, 5, none⟩ (.int .i64 0) := ⟨_, rfl⟩
      rw [← hS3]
      have hzS3 : S3.heap.size = U2.heap.size := by rw [hS3]; simp
      replace HBel : Hid (Below w.heap.size w S3) := Lib.hid (by rw [hS3]; exact ((((((HBel.out.setCell (g_r) _).setCell (g_r) _).setCell (g_r) _).setCell (g_r) _).setCell (g_r) _).setCell (g_r) _))
      replace B_l : Hid (S3.heap[N_l]? = some (.cells #[.int .i64 L.now, .int .i64 L.hd, .int .i64 L.pr, .int .i64 L.to, .slice L.A1 n1 L.c1, .slice L.A2 n2 L.c2, .slice L.A3 n3 L.c3, .slice L.A4 n4 L.c4, .slice L.A5 n5 L.c5] 28 (0, 0))) := Lib.hid (by rw [hS3]; exact ((Below.heap_setCell _ _ _ _ (show N_l ≠ N_r by omega)).trans ((Below.heap_setCell _ _ _ _ (show N_l ≠ N_r by omega)).trans ((Below.heap_setCell _ _ _ _ (show N_l ≠ N_r by omega)).trans ((Below.heap_setCell _ _ _ _ (show N_l ≠ N_r by omega)).trans ((Below.heap_setCell _ _ _ _ (show N_l ≠ N_r by omega)).trans ((Below.heap_setCell _ _ _ _ (show N_l ≠ N_r by omega)).trans B_l.out)))))))
      replace B_r : Hid (S3.heap[N_r]? = some (.cells #[.int .i64 0, .int .i64 0, .int .i64 0, .int .i64 0, .int .i64 0, .int .i64 0] 85 (0, 0))) := Lib.hid (by rw [hS3]; exact (blk_put (i := 5) _ (blk_put (i := 4) _ (blk_put (i := 3) _ (blk_put (i := 2) _ (blk_put (i := 1) _ (blk_put (i := 0) _ B_r.out)))))))
      replace l_l : N_l < S3.heap.size := by omega
      replace l_r : N_r < S3.heap.size := by omega
      replace hlow : w.heap.size ≤ S3.heap.size := by omega
      clear hS3 hzS3
      have r0 : S3.cell? ⟨N_r, 0, none⟩ = some (.int .i64 0) := cell_blk (i := 0) B_r.out rfl
      have r1 : S3.cell? ⟨N_r, 1, none⟩ = some (.int .i64 0) := cell_blk (i := 1) B_r.out rfl
      have r2 : S3.cell? ⟨N_r, 2, none⟩ = some (.int .i64 0) := cell_blk (i := 2) B_r.out rfl
      have r3 : S3.cell? ⟨N_r, 3, none⟩ = some (.int .i64 0) := cell_blk (i := 3) B_r.out rfl
      have r4 : S3.cell? ⟨N_r, 4, none⟩ = some (.int .i64 0) := cell_blk (i := 4) B_r.out rfl
      have r5 : S3.cell? ⟨N_r, 5, none⟩ = some (.int .i64 0) := cell_blk (i := 5) B_r.out rfl
      refine bodyPost_ret (v := .tuple #[.agg #[.int .i64 0, .int .i64 0, .int .i64 0, .int .i64 0, .int .i64 0, .int .i64 0], .bool false]) (by simp [results, Tryd.results37, go_sem, r0, r1, r2, r3, r4, r5]) rfl ?_
      exact ⟨.inl ⟨E1.out, rfl⟩, by rw [HB0.out]; exact HBel.out⟩
    · have E1 := Lib.hid (show o = some ⟨x.q, x.mn, ⟨x.g, x.c, x.mn, x.mx⟩⟩ from by rw [HO.out, if_neg E0.out, hfind])
      have hkn : k < n4 := by rw [HN.out]; exact (List.getElem?_eq_some_iff.1 hx).1
      obtain ⟨b, off, hA, hb, hc⟩ := HT4.out.at_ hx
      have hcx := (hc k _ hx).keep hb HBel.out
      rw [hA] at B_l ⊢
      have HX := Lib.hid (show CellsAt U2 b (off + k * 10) (jbC ⟨x.id, x.q, x.p, x.r, x.g, x.c, x.mn, x.mx⟩) from fun r v hr => hcx r v (by rcases r with _ | _ | _ | _ | _ | _ | _ | _ | r <;> first | exact hr | (simp [jbC] at hr)))
      clear hcx hc hb hA hx hfind
      have l0 : U2.cell? ⟨N_l, 0, none⟩ = some (.int .i64 L.now) := cell_blk (i := 0) B_l.out rfl
      have l1 : U2.cell? ⟨N_l, 1, none⟩ = some (.int .i64 L.hd) := cell_blk (i := 1) B_l.out rfl
      have l2 : U2.cell? ⟨N_l, 2, none⟩ = some (.int .i64 L.pr) := cell_blk (i := 2) B_l.out rfl
      have l3 : U2.cell? ⟨N_l, 3, none⟩ = some (.int .i64 L.to) := cell_blk (i := 3) B_l.out rfl
      have l4 : U2.cell? ⟨N_l, 4, none⟩ = some (.slice L.A1 n1 L.c1) := cell_blk (i := 4) B_l.out rfl
      have l5 : U2.cell? ⟨N_l, 5, none⟩ = some (.slice L.A2 n2 L.c2) := cell_blk (i := 5) B_l.out rfl
      have l6 : U2.cell? ⟨N_l, 6, none⟩ = some (.slice L.A3 n3 L.c3) := cell_blk (i := 6) B_l.out rfl
      have l7 : U2.cell? ⟨N_l, 7, none⟩ = some (.slice (some ⟨b, off, none⟩) n4 L.c4) := cell_blk (i := 7) B_l.out rfl
      have l8 : U2.cell? ⟨N_l, 8, none⟩ = some (.slice L.A5 n5 L.c5) := cell_blk (i := 8) B_l.out rfl
      have r0 : U2.cell? ⟨N_r, 0, none⟩ = some (.int .i64 0) := cell_blk (i := 0) B_r.out rfl
      have r1 : U2.cell? ⟨N_r, 1, none⟩ = some (.int .i64 0) := cell_blk (i := 1) B_r.out rfl
      have r2 : U2.cell? ⟨N_r, 2, none⟩ = some (.int .i64 0) := cell_blk (i := 2) B_r.out rfl
      have r3 : U2.cell? ⟨N_r, 3, none⟩ = some (.int .i64 0) := cell_blk (i := 3) B_r.out rfl
      have r4 : U2.cell? ⟨N_r, 4, none⟩ = some (.int .i64 0) := cell_blk (i := 4) B_r.out rfl
      have r5 : U2.cell? ⟨N_r, 5, none⟩ = some (.int .i64 0) := cell_blk (i := 5) B_r.out rfl
      have l_r_0 : N_r < U2.heap.size + 1 := by omega
      have rz0 : U2.frozen? ⟨N_r, 0, none⟩ = false := frozen_blk B_r.out
      have rz1 : U2.frozen? ⟨N_r, 1, none⟩ = false := frozen_blk B_r.out
      have rz2 : U2.frozen? ⟨N_r, 2, none⟩ = false := frozen_blk B_r.out
      have rz3 : U2.frozen? ⟨N_r, 3, none⟩ = false := frozen_blk B_r.out
      have rz4 : U2.frozen? ⟨N_r, 4, none⟩ = false := frozen_blk B_r.out
      have rz5 : U2.frozen? ⟨N_r, 5, none⟩ = false := frozen_blk B_r.out
      go_wp2_with (refine wpList_load_jb rfl _ rfl b (off + k * 10) ⟨x.id, x.q, x.p, x.r, x.g, x.c, x.mn, x.mx⟩ rfl HX.out ?_)
      clear l0 l1 l2 l3 l4 l5 l6 l7 l8 r0 r1 r2 r3 r4 r5 l_r_0 rz0 rz1 rz2 rz3 rz4 rz5
      obtain ⟨S3, hS3⟩ : ∃ W, W = ((((((U2).setCell ⟨N_r, 0, none⟩ (.int .i64 x.q)).setCell ⟨N_r, 1, none⟩ (.int .i64 x.mn)).setCell ⟨N_r, 2, none⟩ (.int .i64 x.g)).setCell ⟨N_r, 3, none⟩ (.int .i64 x.c)).setCell ⟨N_r, 4, none⟩ (.int .i64 x.mn)).setCell ⟨N_r, 5, none⟩ (.int .i64 x.mx) := ⟨_, rfl⟩
      rw [← hS3]
      have hzS3 : S3.heap.size = U2.heap.size := by rw [hS3]; simp
      replace HBel : Hid (Below w.heap.size w S3) := Lib.hid (by rw [hS3]; exact ((((((HBel.out.setCell (g_r) _).setCell (g_r) _).setCell (g_r) _).setCell (g_r) _).setCell (g_r) _).setCell (g_r) _))
      replace B_l : Hid (S3.heap[N_l]? = some (.cells #[.int .i64 L.now, .int .i64 L.hd, .int .i64 L.pr, .int .i64 L.to, .slice L.A1 n1 L.c1, .slice L.A2 n2 L.c2, .slice L.A3 n3 L.c3, .slice (some ⟨b, off, none⟩) n4 L.c4, .slice L.A5 n5 L.c5] 28 (0, 0))) := Lib.hid (by rw [hS3]; exact ((Below.heap_setCell _ _ _ _ (show N_l ≠ N_r by omega)).trans ((Below.heap_setCell _ _ _ _ (show N_l ≠ N_r by omega)).trans ((Below.heap_setCell _ _ _ _ (show N_l ≠ N_r by omega)).trans ((Below.heap_setCell _ _ _ _ (show N_l ≠ N_r by omega)).trans ((Below.heap_setCell _ _ _ _ (show N_l ≠ N_r by omega)).trans ((Below.heap_setCell _ _ _ _ (show N_l ≠ N_r by omega)).trans B_l.out)))))))
      replace B_r : Hid (S3.heap[N_r]? = some (.cells #[.int .i64 x.q, .int .i64 x.mn, .int .i64 x.g, .int .i64 x.c, .int .i64 x.mn, .int .i64 x.mx] 85 (0, 0))) := Lib.hid (by rw [hS3]; exact (blk_put (i := 5) _ (blk_put (i := 4) _ (blk_put (i := 3) _ (blk_put (i := 2) _ (blk_put (i := 1) _ (blk_put (i := 0) _ B_r.out)))))))
      replace l_l : N_l < S3.heap.size := by omega
      replace l_r : N_r < S3.heap.size := by omega
      replace hlow : w.heap.size ≤ S3.heap.size := by omega
      clear hS3 hzS3
      obtain ⟨V4, hV4⟩ : ∃ W, W = S3.alloc (.cells #[.int .i64 x.id, .int .i64 x.q, .int .i64 x.p, .int .i64 x.r, .int .i64 x.g, .int .i64 x.c, .int .i64 x.mn, .int .i64 x.mx] 32) := ⟨_, rfl⟩
      rw [← hV4]
      have hzV4 : V4.heap.size = S3.heap.size + 1 := by rw [hV4]; simp
      replace HBel : Hid (Below w.heap.size w V4) := Lib.hid (by rw [hV4]; exact (HBel.out.alloc (hlow) _))
      replace B_l : Hid (V4.heap[N_l]? = some (.cells #[.int .i64 L.now, .int .i64 L.hd, .int .i64 L.pr, .int .i64 L.to, .slice L.A1 n1 L.c1, .slice L.A2 n2 L.c2, .slice L.A3 n3 L.c3, .slice (some ⟨b, off, none⟩) n4 L.c4, .slice L.A5 n5 L.c5] 28 (0, 0))) := Lib.hid (by rw [hV4]; exact ((Below.heap_alloc _ _ _ (by first | omega | (simp <;> omega))).trans B_l.out))
      replace B_r : Hid (V4.heap[N_r]? = some (.cells #[.int .i64 x.q, .int .i64 x.mn, .int .i64 x.g, .int .i64 x.c, .int .i64 x.mn, .int .i64 x.mx] 85 (0, 0))) := Lib.hid (by rw [hV4]; exact ((Below.heap_alloc _ _ _ (by first | omega | (simp <;> omega))).trans B_r.out))
      have B_y : Hid (V4.heap[S3.heap.size]? = some (.cells #[.int .i64 x.id, .int .i64 x.q, .int .i64 x.p, .int .i64 x.r, .int .i64 x.g, .int .i64 x.c, .int .i64 x.mn, .int .i64 x.mx] 32 (0, 0))) := Lib.hid (by
        have h9 := heap_alloc_new (S3) (.cells #[.int .i64 x.id, .int .i64 x.q, .int .i64 x.p, .int .i64 x.r, .int .i64 x.g, .int .i64 x.c, .int .i64 x.mn, .int .i64 x.mx] 32)
        rw [hV4]; exact h9)
      obtain ⟨N_y, hN_y⟩ : ∃ N, N = S3.heap.size := ⟨_, rfl⟩
      (try rw [← hN_y])
      rw [← hN_y] at B_y
      have d_l_y : N_l < N_y := by omega
      have d_r_y : N_r < N_y := by omega
      replace l_l : N_l < V4.heap.size := by omega
      replace l_r : N_r < V4.heap.size := by omega
      have l_y : N_y < V4.heap.size := by omega
      have g_y : w.heap.size ≤ N_y := by omega
      replace hlow : w.heap.size ≤ V4.heap.size := by omega
      clear hV4 hzV4 hN_y
      have r0 : V4.cell? ⟨N_r, 0, none⟩ = some (.int .i64 x.q) := cell_blk (i := 0) B_r.out rfl
      have r1 : V4.cell? ⟨N_r, 1, none⟩ = some (.int .i64 x.mn) := cell_blk (i := 1) B_r.out rfl
      have r2 : V4.cell? ⟨N_r, 2, none⟩ = some (.int .i64 x.g) := cell_blk (i := 2) B_r.out rfl
      have r3 : V4.cell? ⟨N_r, 3, none⟩ = some (.int .i64 x.c) := cell_blk (i := 3) B_r.out rfl
      have r4 : V4.cell? ⟨N_r, 4, none⟩ = some (.int .i64 x.mn) := cell_blk (i := 4) B_r.out rfl
      have r5 : V4.cell? ⟨N_r, 5, none⟩ = some (.int .i64 x.mx) := cell_blk (i := 5) B_r.out rfl
      refine bodyPost_ret (v := .tuple #[.agg #[.int .i64 x.q, .int .i64 x.mn, .int .i64 x.g, .int .i64 x.c, .int .i64 x.mn, .int .i64 x.mx], .bool true]) (by simp [results, Tryd.results37, go_sem, r0, r1, r2, r3, r4, r5]) rfl ?_
      exact ⟨.inr ⟨⟨x.q, x.mn, ⟨x.g, x.c, x.mn, x.mx⟩⟩, E1.out, rfl⟩, by rw [HB0.out]; exact HBel.out⟩
/-- What few says of what is seen. -/
structure LkF (L : Lk) : Prop where
  v : View L.lv
  n : L.lv.length ≤ 70
  e1 : L.le.length ≤ 20
  e2 : ∀ x ∈ L.le, x.sl.length ≤ 20
  f : ∀ u ∈ L.lf, -1048576 ≤ u.g ∧ u.g ≤ 1048576 ∧ -1048576 ≤ u.c ∧ u.c ≤ 1048576
  m : (turnL moreC L.lv (sl L.le)).1 = 0
  fl : L.lf.length ≤ 20
theorem head_ok {L : Lk} {X : Wa} (hW : LkW L) (h : headL L = some X) : WaOk X := by
  unfold headL at h
  split at h
  · cases h
  · split at h
    · cases h
    · rename_i x hx
      have hm := List.mem_of_find?_eq_some hx
      have hw := hW.t x hm
      injection h with h
      subst h
      exact ⟨hw.q, hw.mn, ⟨hw.g, hw.c, hw.mn, hw.mx⟩⟩
theorem left_in {L : Lk} {q : Int} {U : Lu} (h : leftL L q = some U) : U ∈ L.lf ∧ 0 ≤ q ∧ q < L.lf.length := by
  unfold leftL at h
  split at h
  · have h9 := (List.getElem?_eq_some_iff.1 h).1
    exact ⟨List.mem_of_getElem? h, by omega, by omega⟩
  · cases h
end Go.Proofs.YtppapmacngdefaaDoor
