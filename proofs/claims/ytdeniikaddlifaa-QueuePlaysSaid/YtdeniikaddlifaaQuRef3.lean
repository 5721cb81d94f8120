/- The document's queues: All; a call of either; both side by side. -/
import Derived.Test.YtdeniikaddlifaaQuRef2
set_option linter.unusedVariables false
set_option maxRecDepth 100000
namespace Go.Proofs.Ytdeniikaddlifaa
open Go.RowKit
theorem rowT_next {L : List Wt} {i k : Nat} {x : Wt} (hx : L[i]? = some x) : QL.rowL (L.take (i + 1)) k = if x.q = (k : Int) then QL.rowL (L.take i) k ++ [x] else QL.rowL (L.take i) k := by
  rw [take_next hx]; exact QL.row_add
set_option maxHeartbeats 4000000 in
theorem rall_q (r nr cl : Nat) (A AL : Option Addr) (R : List Int) (L : List Wt) (w : World) (h : RqAt w r A nr R.length AL cl L) (hI : QL.Inv R L) :
    Calls Try.prog 15 #[.pointer (some ⟨r, 0, none⟩)] w fun e w' => ∃ A c, e = .returned (.slice A (QL.allL R.length L).length c) ∧ Wts w' w'.heap.size A (QL.allL R.length L) ∧ Below w.heap.size w w' := by
  obtain ⟨i0, hi, hz0, hz1, hz2⟩ := info_parts info_wt
  obtain ⟨c0, c1, _, lr⟩ := h.head
  have hn8 := hI.r.hi
  have hfew := h.few
  have hall : ∀ k, (QL.allL k L).length ≤ k * 16 := fun k => by
    induction k with
    | zero => simp [QL.allL]
    | succ k ih => rw [QL.allL_next, List.length_append]; have := hI.room k; omega
  have hrl : ∀ i k, (QL.rowL (L.take i) k).length ≤ L.length := fun i k => by
    have h1 : (QL.rowL (L.take i) k).length ≤ (L.take i).length := List.length_filter_le _ _
    rw [List.length_take] at h1; omega
  obtain ⟨n, hn⟩ : ∃ n, n = R.length := ⟨_, rfl⟩
  obtain ⟨m, hm⟩ : ∃ m, m = L.length := ⟨_, rfl⟩
  have H := Lib.hid (And.intro h (And.intro hn (And.intro hm (And.intro hall hrl))))
  rw [← hn] at c0 hn8 ⊢
  rw [← hm] at c1 hfew
  have HB0 := Lib.hid (And.intro (Below.refl w.heap.size w) (show w.ownsRow w.heap.size 39 10 (.slice none 0 0) 0 ((QL.allL 0 L).flatMap wtC) from World.ownsRow_nil _ _ _ _))
  clear h hI hn hm hall hrl
  go_enter Try.func15, Try.ntmps15
  go_wp2
  go_loopw [3, 4] (fun v vi wr => ∃ (k u : Nat) (A : Option Addr) (cp : Nat), vi = .int .i64 (k : Nat) ∧ v = .slice A u cp ∧ k ≤ n ∧ Hid (u = (QL.allL k L).length) ∧ Hid (Below w.heap.size w wr ∧ wr.ownsRow w.heap.size 39 10 (.slice A u cp) u ((QL.allL k L).flatMap wtC))) (fun _ vi _ => n - (intOf vi).toNat)
  case atStart => exact ⟨0, 0, none, 0, rfl, rfl, by omega, Lib.hid rfl, HB0⟩
  case round =>
    clear HB0
    obtain ⟨k, u, A, cp, rfl, rfl, hkn, hu, hB⟩ := hrel
    have d0 := (H.out.1.keep hB.out.1).head.1
    rw [← H.out.2.1] at d0
    by_cases hlt : k < n
    · have t1 : decide (k < n) = true := decide_eq_true hlt
      have HI0 : Hid (u = (QL.allL k L ++ QL.rowL (L.take 0) k).length) := Lib.hid (by rw [hu.out]; simp [QL.rowL])
      have HJ0 : Hid (Below w.heap.size w wr ∧ wr.ownsRow w.heap.size 39 10 (.slice A u cp) u ((QL.allL k L ++ QL.rowL (L.take 0) k).flatMap wtC)) := Lib.hid (by
        rw [show QL.rowL (L.take 0) k = [] by simp [QL.rowL], List.append_nil]; exact hB.out)
      clear hu hB
      go_wp2
      go_loopw [3, 5] (fun v vi wr => ∃ (i u : Nat) (A : Option Addr) (cp : Nat), vi = .int .i64 (i : Nat) ∧ v = .slice A u cp ∧ i ≤ m ∧ Hid (u = (QL.allL k L ++ QL.rowL (L.take i) k).length) ∧ Hid (Below w.heap.size w wr ∧ wr.ownsRow w.heap.size 39 10 (.slice A u cp) u ((QL.allL k L ++ QL.rowL (L.take i) k).flatMap wtC))) (fun _ vi _ => m - (intOf vi).toNat)
      case atStart => exact ⟨0, u, A, cp, rfl, rfl, by omega, HI0, HJ0⟩
      case round =>
        clear HI0 HJ0
        obtain ⟨i, u, A, cp, rfl, rfl, him, hu, hB⟩ := hrel
        have d1 := (H.out.1.keep hB.out.1).head.2.1
        rw [← H.out.2.2.1] at d1
        by_cases hlt2 : i < m
        · have t2 : decide (i < m) = true := decide_eq_true hlt2
          obtain ⟨x, hx⟩ := get_lt (l := L) (k := i) (by rw [← H.out.2.2.1]; exact hlt2)
          obtain ⟨b, off, rfl, hb, hcc⟩ := H.out.1.row.at_ hx
          have hcx := (hcc i x hx).keep hb hB.out.1
          have a0 : wr.cell? ⟨b, off + i * 10, none⟩ = some (.int .i64 x.id) := hcx 0 _ rfl
          have a1 : wr.cell? ⟨b, off + i * 10 + 1, none⟩ = some (.int .i64 x.q) := hcx 1 _ rfl
          have a2 : wr.cell? ⟨b, off + i * 10 + 2, none⟩ = some (.int .i64 x.p) := hcx 2 _ rfl
          have a3 : wr.cell? ⟨b, off + i * 10 + 3, none⟩ = some (.int .i64 x.r) := hcx 3 _ rfl
          have a4 : wr.cell? ⟨b, off + i * 10 + 4, none⟩ = some (.int .i64 x.g) := hcx 4 _ rfl
          have a5 : wr.cell? ⟨b, off + i * 10 + 5, none⟩ = some (.int .i64 x.c) := hcx 5 _ rfl
          have a6 : wr.cell? ⟨b, off + i * 10 + 6, none⟩ = some (.int .i64 x.mn) := hcx 6 _ rfl
          have a7 : wr.cell? ⟨b, off + i * 10 + 7, none⟩ = some (.int .i64 x.mx) := hcx 7 _ rfl
          have a8 : wr.cell? ⟨b, off + i * 10 + 8, none⟩ = some (.int .i64 x.s) := hcx 8 _ rfl
          have a9 : wr.cell? ⟨b, off + i * 10 + 9, none⟩ = some (.int .i64 x.n) := hcx 9 _ rfl
          have HN := Lib.hid (rowT_next (k := k) hx)
          have hub : u ≤ 128 + 1000 := by
            rw [hu.out, List.length_append]; have h1 := H.out.2.2.2.1 k; have h2 := H.out.2.2.2.2 i k; have h3 := H.out.1.few; omega
          have hsz := hB.out.1.size
          clear hx hcc hcx hb
          by_cases e : x.q = (k : Int)
          · have HU : Hid (u + 1 = (QL.allL k L ++ QL.rowL (L.take (i + 1)) k).length) := Lib.hid (by
              rw [HN.out, if_pos e, ← List.append_assoc, List.length_append, ← hu.out]; rfl)
            have HFl : Hid ((QL.allL k L ++ QL.rowL (L.take (i + 1)) k).flatMap wtC = (QL.allL k L ++ QL.rowL (L.take i) k).flatMap wtC ++ [.int .i64 x.id, .int .i64 (k : Int), .int .i64 x.p, .int .i64 x.r, .int .i64 x.g, .int .i64 x.c, .int .i64 x.mn, .int .i64 x.mx, .int .i64 x.s, .int .i64 x.n]) := Lib.hid (by
              rw [HN.out, if_pos e, ← List.append_assoc, List.flatMap_append]; simp [wtC, e])
            have HOW := Lib.hid (fun o => hB.out.2.alloc o)
            have HOl := Lib.hid hB.out.2.lt
            have HBw := Lib.hid (fun o => hB.out.1.alloc hsz o)
            rw [e] at a1
            clear hu hB HN e
            go_wp2_with (at_builtin; refine wpList_append_lies _ rfl _ _ 31 rfl w.heap.size 39 i0 _ 10 80 Try.underlying31 hi hz0 hz1 hz2 rfl (by decide) (.slice A u cp) u _ rfl (HOW.out _) ⟨wr.heap.size, 0, none⟩ 1 1 [.int .i64 x.id, .int .i64 (k : Int), .int .i64 x.p, .int .i64 x.r, .int .i64 x.g, .int .i64 x.c, .int .i64 x.mn, .int .i64 x.mx, .int .i64 x.s, .int .i64 x.n] rfl rfl (World.news_of_block (cs := #[.int .i64 x.id, .int .i64 (k : Int), .int .i64 x.p, .int .i64 x.r, .int .i64 x.g, .int .i64 x.c, .int .i64 x.mn, .int .i64 x.mx, .int .i64 x.s, .int .i64 x.n]) (t := 39) (fr := (0, 0)) (heap_alloc_new wr _)) (by simp [Value.oneCell']) (by omega) (by unfold maxLen; omega) (by omega) (by simp; omega) (wr.heap.size + 1) (by simp) ?_; intro gg cap' w3 hown3 hgrow hat hlt3)
            have HJ : Hid (Below w.heap.size w w3 ∧ w3.ownsRow w.heap.size 39 10 (.slice (some ⟨gg, 0, none⟩) (u + 1) cap') (u + 1) ((QL.allL k L ++ QL.rowL (L.take (i + 1)) k).flatMap wtC)) := Lib.hid ⟨(HBw.out _).grown hgrow (by simp; omega) (fun j hj => (HOl.out j hj).1), by rw [HFl.out]; exact hown3⟩
            clear hown3 hgrow hat hlt3 HOW HOl HBw HFl
            try go_wp2
            go_roundw
            case rel => exact ⟨i + 1, u + 1, _, _, by go_num, rfl, by omega, HU, HJ⟩
            case measure => simp [intOf]; omega
          · have HU : Hid (u = (QL.allL k L ++ QL.rowL (L.take (i + 1)) k).length) := Lib.hid (by rw [HN.out, if_neg e]; exact hu.out)
            have HJ : Hid (Below w.heap.size w wr ∧ wr.ownsRow w.heap.size 39 10 (.slice A u cp) u ((QL.allL k L ++ QL.rowL (L.take (i + 1)) k).flatMap wtC)) := Lib.hid (by rw [HN.out, if_neg e]; exact hB.out)
            have t3 : decide (x.q = (k : Int)) = false := decide_eq_false e
            clear hu hB HN
            go_wp2
            go_roundw
            case rel => exact ⟨i + 1, u, A, cp, by go_num, rfl, by omega, HU, HJ⟩
            case measure => simp [intOf]; omega
        · obtain rfl : m = i := by omega
          have t2 : decide (m < m) = false := decide_eq_false hlt2
          have HE : Hid (QL.allL k L ++ QL.rowL (L.take m) k = QL.allL (k + 1) L) := Lib.hid (by rw [H.out.2.2.1, List.take_length, QL.allL_next])
          have HU : Hid (u = (QL.allL (k + 1) L).length) := Lib.hid (by rw [← HE.out]; exact hu.out)
          have HJ : Hid (Below w.heap.size w wr ∧ wr.ownsRow w.heap.size 39 10 (.slice A u cp) u ((QL.allL (k + 1) L).flatMap wtC)) := Lib.hid (by rw [← HE.out]; exact hB.out)
          clear hu hB HE
          go_wp2
          go_roundw
          case rel => exact ⟨k + 1, u, A, cp, by go_num, rfl, by omega, HU, HJ⟩
          case measure => simp [intOf]; omega
    · obtain rfl : n = k := by omega
      have t1 : decide (n < n) = false := decide_eq_false hlt
      have HU := Lib.hid (And.intro hu.out hB.out)
      clear hu hB
      go_wp2
      go_ret
      obtain ⟨h1, h2⟩ := HU.out
      rw [← h1]
      exact ⟨A, cp, rfl, (els_own wtC_len h2.2 h1.symm).1, h2.1⟩
set_option maxHeartbeats 8000000 in
theorem ask_q (r nr cl : Nat) (A AL : Option Addr) (R : List Int) (L : List Wt) (a : Qk) (w : World) (h : RqAt w r A nr R.length AL cl L) (hv : Nums w w.heap.size A R) (hI : QL.Inv R L) (h999 : L.length ≤ 999) :
    Calls Try.prog 12 #[.pointer (some ⟨r, 0, none⟩), qkV a] w fun e w' => e = .returned (.tuple #[wtV (QL.doW L a), .int .i64 (QL.doE R L a)]) ∧ RqNext w w' r nr R.length A AL L (QL.doL R L a) := by
  obtain ⟨k, x⟩ := a
  have hb1 := heap_alloc_new w (.cells (qkA ⟨k, x⟩) 43)
  have hB1 := (Below.refl w.heap.size w).alloc (Nat.le_refl _) (.cells (qkA ⟨k, x⟩) 43)
  have hb2 := wt_new (w.alloc (.cells (qkA ⟨k, x⟩) 43)) QL.zw
  have hB2 := hB1.alloc hB1.size (wtO QL.zw)
  have hb1' := (Below.heap_alloc (w.alloc (.cells (qkA ⟨k, x⟩) 43)) (wtO QL.zw) _ (blk_lt hb1)).trans hb1
  have b0 : ((w.alloc (.cells (qkA ⟨k, x⟩) 43)).alloc (wtO QL.zw)).cell? ⟨w.heap.size, 0, none⟩ = some (.int .i64 k) := cell_blk (i := 0) hb1' rfl
  have b1 : ((w.alloc (.cells (qkA ⟨k, x⟩) 43)).alloc (wtO QL.zw)).cell? ⟨w.heap.size, 1, none⟩ = some (.int .i64 x.id) := cell_blk (i := 1) hb1' rfl
  have b2 : ((w.alloc (.cells (qkA ⟨k, x⟩) 43)).alloc (wtO QL.zw)).cell? ⟨w.heap.size, 2, none⟩ = some (.int .i64 x.q) := cell_blk (i := 2) hb1' rfl
  have b3 : ((w.alloc (.cells (qkA ⟨k, x⟩) 43)).alloc (wtO QL.zw)).cell? ⟨w.heap.size, 3, none⟩ = some (.int .i64 x.p) := cell_blk (i := 3) hb1' rfl
  have b4 : ((w.alloc (.cells (qkA ⟨k, x⟩) 43)).alloc (wtO QL.zw)).cell? ⟨w.heap.size, 4, none⟩ = some (.int .i64 x.r) := cell_blk (i := 4) hb1' rfl
  have b5 : ((w.alloc (.cells (qkA ⟨k, x⟩) 43)).alloc (wtO QL.zw)).cell? ⟨w.heap.size, 5, none⟩ = some (.int .i64 x.g) := cell_blk (i := 5) hb1' rfl
  have b6 : ((w.alloc (.cells (qkA ⟨k, x⟩) 43)).alloc (wtO QL.zw)).cell? ⟨w.heap.size, 6, none⟩ = some (.int .i64 x.c) := cell_blk (i := 6) hb1' rfl
  have b7 : ((w.alloc (.cells (qkA ⟨k, x⟩) 43)).alloc (wtO QL.zw)).cell? ⟨w.heap.size, 7, none⟩ = some (.int .i64 x.mn) := cell_blk (i := 7) hb1' rfl
  have b8 : ((w.alloc (.cells (qkA ⟨k, x⟩) 43)).alloc (wtO QL.zw)).cell? ⟨w.heap.size, 8, none⟩ = some (.int .i64 x.mx) := cell_blk (i := 8) hb1' rfl
  have b9 : ((w.alloc (.cells (qkA ⟨k, x⟩) 43)).alloc (wtO QL.zw)).cell? ⟨w.heap.size, 9, none⟩ = some (.int .i64 x.s) := cell_blk (i := 9) hb1' rfl
  have b10 : ((w.alloc (.cells (qkA ⟨k, x⟩) 43)).alloc (wtO QL.zw)).cell? ⟨w.heap.size, 10, none⟩ = some (.int .i64 x.n) := cell_blk (i := 10) hb1' rfl
  rw [show (w.alloc (.cells (qkA ⟨k, x⟩) 43)).heap.size = w.heap.size + 1 by simp] at hb2
  have lz : w.heap.size + 1 < ((w.alloc (.cells (qkA ⟨k, x⟩) 43)).alloc (wtO QL.zw)).heap.size := by simp
  have hO := h.keep hB2
  have hvO := hv.keep hB2 hB2.size
  have HZ := Lib.hid (And.intro hb2 lz)
  have HB := Lib.hid (And.intro hB2 h)
  have lr := blk_lt h.obj
  have HA := Lib.hid (radd_q r nr cl A AL R L x _ hO hvO hI h999)
  have HR := Lib.hid (rremove_q r R.length nr cl A AL R L x.id _ hO hI)
  have HG := Lib.hid (rget_q r nr R.length cl A AL R L x.id _ hO hI)
  have HE : Hid ((k = 0 → QL.doW L ⟨k, x⟩ = QL.zw ∧ QL.doE R L ⟨k, x⟩ = QL.addE R L x ∧ QL.doL R L ⟨k, x⟩ = QL.addL R L x) ∧ (k = 1 → QL.doW L ⟨k, x⟩ = QL.getW L x.id ∧ QL.doE R L ⟨k, x⟩ = QL.getE L x.id ∧ QL.doL R L ⟨k, x⟩ = QL.dropI L x.id) ∧ (¬ k = 0 → ¬ k = 1 → QL.doW L ⟨k, x⟩ = QL.getW L x.id ∧ QL.doE R L ⟨k, x⟩ = QL.getE L x.id ∧ QL.doL R L ⟨k, x⟩ = L)) := Lib.hid (by
    unfold QL.doW QL.doE QL.doL
    refine ⟨fun e => by simp [e], fun e => by simp [e], fun e f => by simp [e, f]⟩)
  obtain ⟨y, hy⟩ : ∃ y, y = QL.getW L x.id := ⟨_, rfl⟩
  rw [← hy] at HR HG HE
  clear h hb1 hb2 hB1 hB2 hb1' hO lz hy hv hvO hI
  simp only [wtV, wtA, wtO, qkV, qkA, QL.zw] at *
  by_cases h0 : k = 0
  · subst h0
    have HE0 := Lib.hid (HE.out.1 rfl)
    clear HE HR HG
    go_enter Try.func12, Try.ntmps12
    go_wp2_with fail
    refine HA.out.mono ?_
    rintro e w1 ⟨rfl, AL', cl', hO1, hft, hyg⟩
    have hZ1 := (hft.block (w.heap.size + 1) HZ.out.2 (by omega)).trans HZ.out.1
    have HZ1 := Lib.hid hZ1
    have H1 := Lib.hid (And.intro hO1 (And.intro hft hyg))
    clear hZ1 hO1 hft hyg b0 b1 b2 b3 b4 b5 b6 b7 b8 b9 b10 HA
    go_wp2_with (refine wpList_store_wt rfl _ _ rfl (w.heap.size + 1) QL.zw rfl rfl QL.zw HZ1.out ?_)
    refine bodyPost_ret (results_wt Try.results12 _ _ (w.heap.size + 1) QL.zw (.int .i64 (QL.addE R L x)) rfl (setRow_wt HZ1.out) rfl) rfl ?_
    have hs := HB.out.1.size
    have hlt := HB.out.2.lt
    refine ⟨by rw [HE0.out.1, HE0.out.2.1]; rfl, RqNext.of AL' cl' ?_ (foot_row ((Foot.of_below (F := (· = r)) HB.out.1).trans H1.out.2.1 fun i hi => .inl hi) (.inr (by omega)) _) fun i hi => ?_⟩
    · rw [HE0.out.2.2]
      refine H1.out.1.off (by simp) fun i hi hB => setRow_other _ _ i _ ?_
      rintro rfl
      rcases H1.out.2.2 _ hB with e | e
      · have := hlt _ e; omega
      · have := HZ.out.2; omega
    · rw [HE0.out.2.2] at hi
      rcases H1.out.2.2 i hi with e | e
      · exact .inl e
      · exact .inr (by omega)
  · have t0 : decide (k = 0) = false := decide_eq_false h0
    by_cases h1 : k = 1
    · subst h1
      have HE0 := Lib.hid (HE.out.2.1 rfl)
      clear HE HA HG
      go_enter Try.func12, Try.ntmps12
      go_wp2_with fail
      refine HR.out.mono ?_
      rintro e w1 ⟨rfl, AL', cl', hO1, hft, hyg⟩
      have hZ1 := (hft.block (w.heap.size + 1) HZ.out.2 (by omega)).trans HZ.out.1
      have HZ1 := Lib.hid hZ1
      have H1 := Lib.hid (And.intro hO1 (And.intro hft hyg))
      clear hZ1 hO1 hft hyg b0 b1 b2 b3 b4 b5 b6 b7 b8 b9 b10 HR
      go_wp2_with (refine wpList_store_wt rfl _ _ rfl (w.heap.size + 1) y rfl rfl QL.zw HZ1.out ?_)
      refine bodyPost_ret (results_wt Try.results12 _ _ (w.heap.size + 1) y (.int .i64 (QL.getE L x.id)) rfl (setRow_wt HZ1.out) rfl) rfl ?_
      have hs := HB.out.1.size
      have hlt := HB.out.2.lt
      refine ⟨by rw [HE0.out.1, HE0.out.2.1]; rfl, RqNext.of AL' cl' ?_ (foot_row ((Foot.of_below (F := (· = r)) HB.out.1).trans H1.out.2.1 fun i hi => .inl hi) (.inr (by omega)) _) fun i hi => ?_⟩
      · rw [HE0.out.2.2]
        refine H1.out.1.off (by simp) fun i hi hB => setRow_other _ _ i _ ?_
        rintro rfl
        rcases H1.out.2.2 _ hB with e | e
        · have := hlt _ e; omega
        · have := HZ.out.2; omega
      · rw [HE0.out.2.2] at hi
        rcases H1.out.2.2 i hi with e | e
        · exact .inl e
        · exact .inr (by omega)
    · have t1 : decide (k = 1) = false := decide_eq_false h1
      have HE0 := Lib.hid (HE.out.2.2 h0 h1)
      clear HE HA HR
      go_enter Try.func12, Try.ntmps12
      go_wp2_with fail
      refine HG.out.mono ?_
      rintro e w1 ⟨rfl, hb1⟩
      have HZ1 := Lib.hid ((hb1.block (w.heap.size + 1) HZ.out.2).trans HZ.out.1)
      have H1 := Lib.hid (below_step HB.out.1 hb1)
      clear hb1 b0 b1 b2 b3 b4 b5 b6 b7 b8 b9 b10 HG
      go_wp2_with (refine wpList_store_wt rfl _ _ rfl (w.heap.size + 1) y rfl rfl QL.zw HZ1.out ?_)
      refine bodyPost_ret (results_wt Try.results12 _ _ (w.heap.size + 1) y (.int .i64 (QL.getE L x.id)) rfl (setRow_wt HZ1.out) rfl) rfl ?_
      have hB9 := below_row H1.out (by omega : w.heap.size ≤ w.heap.size + 1) (wtA y)
      exact ⟨by rw [HE0.out.1, HE0.out.2.1]; rfl, RqNext.of AL cl (by rw [HE0.out.2.2]; exact HB.out.2.keep hB9) (Foot.of_below hB9) fun i hi => .inl (by rw [HE0.out.2.2] at hi; exact hi)⟩
/-- Both queues, made since a world: the program's with waits L, the document's with waits M. -/
structure QuBoth (w0 w : World) (p r : Nat) (A : Option Addr) (nr : Nat) (R : List Int) (L M : List Wt) : Prop where
  ex : ∃ F AL cl, QuObj w p F R L ∧ RqAt w r A nr R.length AL cl M ∧ (∀ i, F i → w0.heap.size ≤ i) ∧ (∀ i, F i → ¬ RqB r AL M i) ∧ w0.heap.size ≤ r
  b : Below w0.heap.size w0 w
section
variable {w0 w w' : World} {p r nr : Nat} {A : Option Addr} {R : List Int} {L M : List Wt}
theorem QuBoth.keep (h : QuBoth w0 w p r A nr R L M) (hk : Below w.heap.size w w') : QuBoth w0 w' p r A nr R L M := by
  obtain ⟨F, AL, cl, h1, h2, h3, h4, h5⟩ := h.ex
  exact ⟨⟨F, AL, cl, h1.keep hk, h2.keep hk, h3, h4, h5⟩, below_step h.b hk⟩
theorem QuBoth.inq (h : QuBoth w0 w p r A nr R L M) : QuIn w0 w p R L := by
  obtain ⟨F, AL, cl, h1, h2, h3, h4, h5⟩ := h.ex
  exact ⟨⟨F, h1, h3⟩, h.b⟩
theorem QuBoth.ref (h : QuBoth w0 w p r A nr R L M) : ∃ AL cl, RqAt w r A nr R.length AL cl M := by
  obtain ⟨F, AL, cl, h1, h2, h3, h4, h5⟩ := h.ex
  exact ⟨AL, cl, h2⟩
end
theorem do_b (p r nr : Nat) (A : Option Addr) (R : List Int) (L M : List Wt) (a : Qk) (w0 w : World) (h : QuBoth w0 w p r A nr R L M) :
    Calls Try.prog 11 #[.pointer (some ⟨p, 0, none⟩), qkV a] w fun e w' => e = .returned (.tuple #[wtV (QL.doW L a), .int .i64 (QL.doE R L a)]) ∧ QuBoth w0 w' p r A nr R (QL.doL R L a) M := by
  obtain ⟨F, AL, cl, h1, h2, h3, h4, h5⟩ := h.ex
  refine (do_q p F R L a w h1).mono ?_
  rintro e w' ⟨rfl, F', g1, g2, g3⟩
  refine ⟨rfl, ⟨F', AL, cl, g1, h2.off g2.size fun i hi hB => g2.block i hi fun e => h4 i e hB, fun i hi => ?_, fun i hi hB => ?_, h5⟩, h.b.trans (g2.below h.b.size h3)⟩
  · rcases g3 i hi with e | e
    · exact h3 i e
    · exact Nat.le_trans h.b.size e
  · rcases g3 i hi with e | e
    · exact h4 i e hB
    · have := h2.lt i hB; omega
theorem ask_b (p r nr : Nat) (A : Option Addr) (R : List Int) (L M : List Wt) (a : Qk) (w0 w : World) (h : QuBoth w0 w p r A nr R L M) (hv : Nums w0 w0.heap.size A R) (hI : QL.Inv R M) (h999 : M.length ≤ 999) :
    Calls Try.prog 12 #[.pointer (some ⟨r, 0, none⟩), qkV a] w fun e w' => e = .returned (.tuple #[wtV (QL.doW M a), .int .i64 (QL.doE R M a)]) ∧ QuBoth w0 w' p r A nr R L (QL.doL R M a) ∧ Foot (· = r) w w' := by
  obtain ⟨F, AL, cl, h1, h2, h3, h4, h5⟩ := h.ex
  refine (ask_q r nr cl A AL R M a w h2 (hv.keep h.b h.b.size) hI h999).mono ?_
  rintro e w' ⟨rfl, AL', cl', g1, g2, g3⟩
  have hFr : ∀ i, F i → i ≠ r := fun i hi e => h4 i hi (.inl e)
  refine ⟨rfl, ⟨⟨F, AL', cl', h1.of fun i hi => g2.block i (h1.lt i hi) (hFr i hi), g1, h3, fun i hi hB => ?_, h5⟩, h.b.trans (g2.below h.b.size fun i hi => by rw [hi]; exact h5)⟩, g2⟩
  rcases g3 i hB with e | e
  · exact h4 i hi e
  · have := h1.lt i hi; omega
end Go.Proofs.Ytdeniikaddlifaa
