/- The document's pool: what a slot does. -/
import Derived.Deep.RegionWith
import Derived.Test.YtgdbjepddcmfoaaHeldOn
import Derived.Test.YtgdbjepddcmfoaaPoolRef3
namespace Go.Proofs.Ytgdbjepddcmfoaa
open Go.RowKit

set_option maxRecDepth 100000 in
set_option maxHeartbeats 4000000 in
theorem refgive (q al tk db ca ct cd : Nat) (fs ts : List Fr) (dr : List Bool) (s : PM.Sl) (w : World) (h : RefAt w q al tk db ca ct cd fs ts dr) (hs : SlOk s) :
    Calls Try.prog 40 #[.pointer (some ⟨q, 0, none⟩), .bool true, slV s] w fun e w' => e = .returned (.int .i64 (PM.one fs dr true s ts).1) ∧ RefAt w' q al tk db ca ct cd fs (PM.one fs dr true s ts).2 dr ∧ Foot (· = tk) w w' := by
  obtain ⟨R, hR⟩ : ∃ R, R = PM.one fs dr true s ts := ⟨_, rfl⟩
  rw [← hR]
  have HP := Lib.hid h
  have hB1 := (Below.refl w.heap.size w).alloc (Nat.le_refl _) (.cells #[.int .i64 s.n, .int .i64 s.d, .int .u64 (s.m : Nat), .int .i64 s.c] 60)
  have HB := Lib.hid hB1
  have kc := bounds_i64 hs.c
  by_cases h0 : s.c < 0
  · have e : R = (1, ts) := by rw [hR]; unfold PM.one; rw [if_pos h0]
    subst e
    clear hR h hs hB1
    obtain ⟨x, y, m, c⟩ := s
    simp only [slV] at *
    have t0 : decide (c < 0) = true := decide_eq_true h0
    go_enter Try.func40, Try.ntmps40
    go_wp2
    go_ret
    exact ⟨rfl, HP.out.keep HB.out, Foot.of_below HB.out⟩
  have hSp := refspot_any q al tk db ca ct cd fs ts dr s.n s.d _ (h.keep hB1)
  have bS := heap_alloc_new w (.cells #[.int .i64 s.n, .int .i64 s.d, .int .u64 (s.m : Nat), .int .i64 s.c] 60)
  cases hk : PM.find s.n s.d fs with
  | none =>
    have e : R = (3, ts) := by rw [hR]; unfold PM.one; rw [if_neg h0]; simp only [hk]
    subst e
    have eS : spotN s.n s.d fs = -1 := by unfold spotN; rw [hk]
    rw [eS] at hSp
    have HSp := Lib.hid hSp
    clear hR h hs hB1 hSp bS hk eS
    obtain ⟨x, y, m, c⟩ := s
    simp only [slV] at *
    have t0 : decide (c < 0) = false := decide_eq_false h0
    go_enter Try.func40, Try.ntmps40
    go_wp2_with (go_at_call 50; refine HSp.out.mono ?_; rintro e w1 ⟨rfl, hb1⟩)
    go_ret
    have hB9 := below_step HB.out hb1
    exact ⟨rfl, HP.out.keep hB9, Foot.of_below hB9⟩
  | some k =>
    obtain ⟨f, hf, hfn, hfd⟩ := PM.find_hit hk
    obtain ⟨t, ht⟩ := get_lt (l := ts) (k := k) (by rw [h.inv.1]; exact (List.getElem?_eq_some_iff.1 hf).1)
    have eS : spotN s.n s.d fs = (k : Int) := by unfold spotN; rw [hk]
    rw [eS] at hSp
    obtain ⟨i1, i2, i3, i4⟩ := h.inv.2 k f t hf ht
    obtain ⟨k1, k2⟩ := h.ok.ok f (List.mem_of_getElem? hf)
    have k3 : t.m < 18446744073709551616 := by rw [← i3]; exact Nat.lt_of_le_of_lt Nat.and_le_right k1
    have ks := hs.m
    have hkn : k < fs.length := (List.getElem?_eq_some_iff.1 hf).1
    have hfew := h.ok.few
    have hnd := h.ok.node f (List.mem_of_getElem? hf)
    have hnods := h.ok.nodes
    have hlt := h.lt
    have HSp := Lib.hid hSp
    obtain ⟨bd, hbd⟩ := get_lt (l := dr) (k := f.n) hnd
    have hone : R = if s.m &&& f.m ≠ s.m then (3, ts) else if s.m &&& t.m ≠ s.m ∨ (t.c : Int) < s.c then (4, ts) else (0, ts.set k (PM.down t s)) := by
      rw [hR]; unfold PM.one
      rw [if_neg h0]
      simp only [hk, hf, ht, if_true]
      rfl
    have HR := Lib.hid hone
    have HI := Lib.hid (And.intro hf (And.intro ht (And.intro hfn (And.intro hk (And.intro (Int.not_lt.1 h0) (And.intro i3 hbd))))))
    have HbS := Lib.hid bS
    have t0 : decide (s.c < 0) = false := decide_eq_false h0
    have tk0 : decide ((k : Int) < 0) = false := decide_eq_false (by omega)
    obtain ⟨n, hn⟩ : ∃ n, n = fs.length := ⟨_, rfl⟩
    obtain ⟨kd, hkd⟩ : ∃ kd, kd = dr.length := ⟨_, rfl⟩
    have Hn := Lib.hid (And.intro hn hkd)
    rw [← hn] at hkn hfew
    rw [← hkd] at hnd hnods
    clear hone hR h hs hB1 hSp bS hk eS hf ht i1 i2 i3 hfd hbd hn hkd h0
    obtain ⟨x, y, m, c⟩ := s
    simp only [slV] at *
    obtain rfl := hfn
    go_enter Try.func40, Try.ntmps40
    go_wp2_with (go_at_call 50; refine HSp.out.mono ?_; rintro e w1 ⟨rfl, hb1⟩; have hB9 := below_step HB.out hb1; have hR9 := HP.out.keep hB9; obtain ⟨h90, h91, h92⟩ := hR9.heads; rw [← Hn.out.1] at h90 h91; rw [← Hn.out.2] at h92; have bS9 := (hb1.block w.heap.size (by simp)).trans HbS.out; have s2 : w1.cell? ⟨w.heap.size, 2, none⟩ = some (.int .u64 (m : Nat)) := cell_blk (i := 2) bS9 rfl; have s3 : w1.cell? ⟨w.heap.size, 3, none⟩ = some (.int .i64 c) := cell_blk (i := 3) bS9 rfl; have s0 : w1.cell? ⟨w.heap.size, 0, none⟩ = some (.int .i64 (f.n : Nat)) := cell_blk (i := 0) bS9 rfl; obtain ⟨a2, a3, b2, b3, z2, z3⟩ := hR9.cells HI.out.1 HI.out.2.1)
    have hlw1 : w.heap.size < w1.heap.size := by have := hb1.size; simp at this; omega
    have HK := Lib.hid (fun (W : World) (hW : Below w1.heap.size w1 W) => And.intro (hR9.keep hW) ((hW.block w.heap.size hlw1).trans bS9))
    have HB9 := Lib.hid hB9
    have hl9 := hR9.lt
    have yd := (hR9.bit HI.out.2.2.2.2.2.2).1
    clear hB9 hb1 hR9 bS9
    have hw2 := refwithin_any m f.m ks k1 w1.drew
    go_still_tail 10, (by kernel_rfl)
    change wpList _ _ _ _ _ w1.drew
    by_cases hm : m &&& f.m = m
    · rw [decide_eq_true hm] at hw2
      have HW2 := Lib.hid hw2
      clear hw2
      go_wp2_with fail
      refine HW2.out.mono ?_
      rintro e w2 ⟨rfl, hb2⟩
      have hBw2 : Below w1.heap.size w1 w2 := below_step (Below.refl w1.heap.size w1).drew hb2
      have HBW := Lib.hid hBw2
      have hl2 := hBw2.size
      have hR0 := HR.out
      rw [if_neg (fun h => h hm)] at hR0
      clear hb2 hBw2 h90 h91 h92 s2 s3 s0 a2 a3 b2 b3 z2 z3 yd
      obtain ⟨rK, bK⟩ := HK.out w2 HBW.out
      obtain ⟨h90, h91, h92⟩ := rK.heads
      rw [← Hn.out.1] at h90 h91
      rw [← Hn.out.2] at h92
      have s2 : w2.cell? ⟨w.heap.size, 2, none⟩ = some (.int .u64 (m : Nat)) := cell_blk (i := 2) bK rfl
      have s3 : w2.cell? ⟨w.heap.size, 3, none⟩ = some (.int .i64 c) := cell_blk (i := 3) bK rfl
      have s0 : w2.cell? ⟨w.heap.size, 0, none⟩ = some (.int .i64 (f.n : Nat)) := cell_blk (i := 0) bK rfl
      obtain ⟨a2, a3, b2, b3, z2, z3⟩ := rK.cells HI.out.1 HI.out.2.1
      have yd := (rK.bit HI.out.2.2.2.2.2.2).1
      clear rK bK
      by_cases htm : m &&& t.m = m
      · have hw3 := fun W => refwithin_any m t.m ks k3 W
        rw [decide_eq_true htm] at hw3
        have HW3 := Lib.hid hw3
        have htl : m ≤ t.m := (PM.sub_nat htm).2
        have HmV := Lib.hid (show (t.m : Int) - (m : Int) = ((PM.down t ⟨(f.n : Int), y, m, c⟩).m : Nat) by simp only [PM.down]; have := PM.sub_nat htm; omega)
        by_cases hcc : (t.c : Int) < c
        · rw [if_pos (.inr hcc)] at hR0
          subst hR0
          have t2 : decide ((t.c : Int) < c) = true := decide_eq_true hcc
          clear hw3 hcc
          go_wp2
          go_region_held3 (fun w' => w'.cell? ⟨w.heap.size, 2, none⟩ = some (.int .u64 (m : Nat)) ∧ w'.cell? ⟨w.heap.size, 3, none⟩ = some (.int .i64 c) ∧ w'.cell? ⟨tk, k * 4 + 2, none⟩ = some (.int .u64 (t.m : Nat)) ∧ w'.cell? ⟨tk, k * 4 + 3, none⟩ = some (.int .i64 (t.c : Nat)) ∧ w'.cell? ⟨al, k * 4 + 2, none⟩ = some (.int .u64 (f.m : Nat)) ∧ w'.cell? ⟨al, k * 4 + 3, none⟩ = some (.int .i64 (f.c : Nat)) ∧ w'.cell? ⟨q, 0, none⟩ = some (.slice (some ⟨al, 0, none⟩) n ca))
            (go_keep)
            (first
              | (go_at_call 51; ((with_reducible refine (HW3.out w2.drew).mono ?_); rintro e w3 ⟨rfl, hb3⟩); have hB23 : Below w2.heap.size w2 w3 := below_step (Below.refl w2.heap.size w2).drew hb3; have HB3 := Lib.hid (HBW.out.trans (hB23.mono hl2)); have v0 := (hB23.cell (p := ⟨w.heap.size, 2, none⟩) (show w.heap.size < _ by omega)).trans s2; have v1 := (hB23.cell (p := ⟨w.heap.size, 3, none⟩) (show w.heap.size < _ by omega)).trans s3; have v2 := (hB23.cell (p := ⟨tk, k * 4 + 2, none⟩) (show tk < _ by omega)).trans b2; have v3 := (hB23.cell (p := ⟨tk, k * 4 + 3, none⟩) (show tk < _ by omega)).trans b3; have v4 := (hB23.cell (p := ⟨al, k * 4 + 2, none⟩) (show al < _ by omega)).trans a2; have v5 := (hB23.cell (p := ⟨al, k * 4 + 3, none⟩) (show al < _ by omega)).trans a3; have v6 := (hB23.cell (p := ⟨q, 0, none⟩) (show q < _ by omega)).trans h90))

          go_wp2
          go_ret
          exact ⟨rfl, HP.out.keep (HB9.out.trans (HB3.out.mono HB9.out.size)), Foot.of_below (HB9.out.trans (HB3.out.mono HB9.out.size))⟩
        · have t2 : decide ((t.c : Int) < c) = false := decide_eq_false hcc
          have hce : c ≤ (t.c : Int) := by omega
          have hc0 := HI.out.2.2.2.2.1
          have Hi := Lib.hid (show PM.Inv fs (ts.set k (PM.down t ⟨(f.n : Int), y, m, c⟩)) by
            have hu := PM.one_inv (dr := []) (give := true) (s := ⟨(f.n : Int), y, m, c⟩) HP.out.inv
            rwa [(PM.Gives.mk hc0 HI.out.2.2.2.1 HI.out.1 HI.out.2.1 hm htm hce : PM.Gives fs ⟨(f.n : Int), y, m, c⟩ k f t ts).eq] at hu)
          rw [if_neg (by rintro (h | h); exact h htm; exact hcc h)] at hR0
          subst hR0
          clear hw3 hcc htm hm
          go_wp2
          go_region_held3 (fun w' => w'.cell? ⟨w.heap.size, 2, none⟩ = some (.int .u64 (m : Nat)) ∧ w'.cell? ⟨w.heap.size, 3, none⟩ = some (.int .i64 c) ∧ w'.cell? ⟨tk, k * 4 + 2, none⟩ = some (.int .u64 (t.m : Nat)) ∧ w'.cell? ⟨tk, k * 4 + 3, none⟩ = some (.int .i64 (t.c : Nat)) ∧ w'.cell? ⟨al, k * 4 + 2, none⟩ = some (.int .u64 (f.m : Nat)) ∧ w'.cell? ⟨al, k * 4 + 3, none⟩ = some (.int .i64 (f.c : Nat)) ∧ w'.cell? ⟨q, 0, none⟩ = some (.slice (some ⟨al, 0, none⟩) n ca))
            (go_keep)
            (first
              | (go_at_call 51; ((with_reducible refine (HW3.out w2.drew).mono ?_); rintro e w3 ⟨rfl, hb3⟩); have hB23 : Below w2.heap.size w2 w3 := below_step (Below.refl w2.heap.size w2).drew hb3; have HB3 := Lib.hid (HBW.out.trans (hB23.mono hl2)); have v0 := (hB23.cell (p := ⟨w.heap.size, 2, none⟩) (show w.heap.size < _ by omega)).trans s2; have v1 := (hB23.cell (p := ⟨w.heap.size, 3, none⟩) (show w.heap.size < _ by omega)).trans s3; have v2 := (hB23.cell (p := ⟨tk, k * 4 + 2, none⟩) (show tk < _ by omega)).trans b2; have v3 := (hB23.cell (p := ⟨tk, k * 4 + 3, none⟩) (show tk < _ by omega)).trans b3; have v4 := (hB23.cell (p := ⟨al, k * 4 + 2, none⟩) (show al < _ by omega)).trans a2; have v5 := (hB23.cell (p := ⟨al, k * 4 + 3, none⟩) (show al < _ by omega)).trans a3; have v6 := (hB23.cell (p := ⟨q, 0, none⟩) (show q < _ by omega)).trans h90))

          have HBW3 := HB3
          clear HBW
          have HBW := HBW3
          have hl3 := HBW.out.size
          clear h90 h91 h92 s2 s3 s0 a2 a3 b2 b3 z2 z3 yd v0 v1 v2 v3 v4 v5 v6 hB23 hb3
          obtain ⟨rK, bK⟩ := HK.out w3 HBW.out
          obtain ⟨h90, h91, h92⟩ := rK.heads
          rw [← Hn.out.1] at h90 h91
          rw [← Hn.out.2] at h92
          have s2 : w3.cell? ⟨w.heap.size, 2, none⟩ = some (.int .u64 (m : Nat)) := cell_blk (i := 2) bK rfl
          have s3 : w3.cell? ⟨w.heap.size, 3, none⟩ = some (.int .i64 c) := cell_blk (i := 3) bK rfl
          have s0 : w3.cell? ⟨w.heap.size, 0, none⟩ = some (.int .i64 (f.n : Nat)) := cell_blk (i := 0) bK rfl
          obtain ⟨a2, a3, b2, b3, z2, z3⟩ := rK.cells HI.out.1 HI.out.2.1
          have yd := (rK.bit HI.out.2.2.2.2.2.2).1
          clear rK bK
          go_wp2
          go_still_tail 10, (by kernel_rfl)
          change wpList _ _ _ _ _ w3.drew
          go_wp2
          obtain ⟨W5, hW5⟩ : ∃ W5, W5 = (w3.setCell ⟨tk, k * 4 + 2, none⟩ (.int .u64 ((t.m : Int) - (m : Int)))).drew := ⟨_, rfl⟩
          have q3 : W5.cell? ⟨tk, k * 4 + 3, none⟩ = some (.int .i64 (t.c : Nat)) := by rw [hW5]; go_simp
          have r3 : W5.frozen? ⟨tk, k * 4 + 3, none⟩ = false := by rw [hW5]; go_simp
          have p3 : W5.cell? ⟨w.heap.size, 3, none⟩ = some (.int .i64 c) := by rw [hW5]; go_simp
          rw [← hW5]
          have HW5 := Lib.hid hW5
          clear hW5
          clear h90 h91 h92 s2 s3 s0 a2 a3 b2 b3 z2 z3 yd
          go_still_tail 10, (by kernel_rfl)
          change wpList _ _ _ _ _ W5.drew
          go_wp2
          go_ret
          have hBW := HB9.out.trans (HBW.out.mono HB9.out.size)
          have hft : Foot (· = tk) w (W5.setCell ⟨tk, k * 4 + 3, none⟩ (.int .i64 ((t.c : Int) - c))).drew := by
            rw [HW5.out]
            refine (Foot.setCell (p := ⟨tk, _, none⟩) (Foot.setCell (p := ⟨tk, _, none⟩) (Foot.of_below hBW) (.inl ?_) _).drew (.inl ?_) _).drew <;> rfl
          exact ⟨rfl, HP.out.wrote (PM.down t ⟨(f.n : Int), y, m, c⟩) _ _ HI.out.2.1 ⟨rfl, rfl⟩ hBW Hi.out hft (by rw [HW5.out]; rfl) HmV.out (by simp only [PM.down]; omega), hft⟩
      · have hw3 := fun W => refwithin_any m t.m ks k3 W
        rw [decide_eq_false htm] at hw3
        have HW3 := Lib.hid hw3
        rw [if_pos (.inl htm)] at hR0
        subst hR0
        clear hw3 htm hm
        go_wp2
        refine held_begin (fun w' : World => w'.cell? ⟨w.heap.size, 2, none⟩ = some (.int .u64 (m : Nat)) ∧ w'.cell? ⟨w.heap.size, 3, none⟩ = some (.int .i64 c) ∧ w'.cell? ⟨tk, k * 4 + 2, none⟩ = some (.int .u64 (t.m : Nat)) ∧ w'.cell? ⟨tk, k * 4 + 3, none⟩ = some (.int .i64 (t.c : Nat)) ∧ w'.cell? ⟨al, k * 4 + 2, none⟩ = some (.int .u64 (f.m : Nat)) ∧ w'.cell? ⟨al, k * 4 + 3, none⟩ = some (.int .i64 (f.c : Nat)) ∧ w'.cell? ⟨q, 0, none⟩ = some (.slice (some ⟨al, 0, none⟩) n ca)) (by kernel_rfl) ?_
        have hS0 : (fun w' : World => w'.cell? ⟨w.heap.size, 2, none⟩ = some (.int .u64 (m : Nat)) ∧ w'.cell? ⟨w.heap.size, 3, none⟩ = some (.int .i64 c) ∧ w'.cell? ⟨tk, k * 4 + 2, none⟩ = some (.int .u64 (t.m : Nat)) ∧ w'.cell? ⟨tk, k * 4 + 3, none⟩ = some (.int .i64 (t.c : Nat)) ∧ w'.cell? ⟨al, k * 4 + 2, none⟩ = some (.int .u64 (f.m : Nat)) ∧ w'.cell? ⟨al, k * 4 + 3, none⟩ = some (.int .i64 (f.c : Nat)) ∧ w'.cell? ⟨q, 0, none⟩ = some (.slice (some ⟨al, 0, none⟩) n ca)) w2.drew := ⟨s2, s3, b2, b3, a2, a3, h90⟩
        refine held_take (v := ?_) 0 37 rfl rfl (by kernel_rfl) (by kernel_rfl) (by kernel_rfl) (fun _ _ _ h => h) ⟨by rfl, ?_⟩ hS0 ?_
        rotate_left
        · intro w' hw'; obtain ⟨x0, x1, x2, x3, x4, x5, x6⟩ := hw'; go_simp; (try with_reducible rfl)
        simp only [Act.put, List.setIfInBounds_toArray, List.set_cons_zero, List.set_cons_succ]
        refine held_take (v := ?_) 1 38 rfl rfl (by kernel_rfl) (by kernel_rfl) (by kernel_rfl) (fun _ _ _ h => h) ⟨by rfl, ?_⟩ hS0 ?_
        rotate_left
        · intro w' hw'; obtain ⟨x0, x1, x2, x3, x4, x5, x6⟩ := hw'; go_simp; (try with_reducible rfl)
        simp only [Act.put, List.setIfInBounds_toArray, List.set_cons_zero, List.set_cons_succ]
        refine held_take (v := ?_) 2 39 rfl rfl (by kernel_rfl) (by kernel_rfl) (by kernel_rfl) (fun _ _ _ h => h) ⟨by rfl, ?_⟩ hS0 ?_
        rotate_left
        · intro w' hw'; obtain ⟨x0, x1, x2, x3, x4, x5, x6⟩ := hw'; go_simp; (try with_reducible rfl)
        simp only [Act.put, List.setIfInBounds_toArray, List.set_cons_zero, List.set_cons_succ]
        refine held_take (v := ?_) 3 40 rfl rfl (by kernel_rfl) (by kernel_rfl) (by kernel_rfl) (fun _ _ _ h => h) ⟨by rfl, ?_⟩ hS0 ?_
        rotate_left
        · intro w' hw'; obtain ⟨x0, x1, x2, x3, x4, x5, x6⟩ := hw'; go_simp; (try with_reducible rfl)
        simp only [Act.put, List.setIfInBounds_toArray, List.set_cons_zero, List.set_cons_succ]
        refine held_take (v := ?_) 4 41 rfl rfl (by kernel_rfl) (by kernel_rfl) (by kernel_rfl) (fun _ _ _ h => h) ⟨by rfl, ?_⟩ hS0 ?_
        rotate_left
        · intro w' hw'; obtain ⟨x0, x1, x2, x3, x4, x5, x6⟩ := hw'; go_simp; (try with_reducible rfl)
        simp only [Act.put, List.setIfInBounds_toArray, List.set_cons_zero, List.set_cons_succ]
        refine held_take (v := ?_) 5 42 rfl rfl (by kernel_rfl) (by kernel_rfl) (by kernel_rfl) (fun _ _ _ h => h) ⟨by rfl, ?_⟩ hS0 ?_
        rotate_left
        · intro w' hw'; obtain ⟨x0, x1, x2, x3, x4, x5, x6⟩ := hw'; go_simp; (try with_reducible rfl)
        simp only [Act.put, List.setIfInBounds_toArray, List.set_cons_zero, List.set_cons_succ]
        refine held_one 6 rfl (by kernel_rfl) (by rfl) (fun K hK => ?_)
        go_simp
        go_at_call 51
        refine (HW3.out _).mono ?_
        rintro e v1 ⟨rfl, hbv1⟩
        have hBv1 : Below w2.heap.size w2 v1 := below_step (Below.refl w2.heap.size w2).drew hbv1
        have hSv1 : (fun w' : World => w'.cell? ⟨w.heap.size, 2, none⟩ = some (.int .u64 (m : Nat)) ∧ w'.cell? ⟨w.heap.size, 3, none⟩ = some (.int .i64 c) ∧ w'.cell? ⟨tk, k * 4 + 2, none⟩ = some (.int .u64 (t.m : Nat)) ∧ w'.cell? ⟨tk, k * 4 + 3, none⟩ = some (.int .i64 (t.c : Nat)) ∧ w'.cell? ⟨al, k * 4 + 2, none⟩ = some (.int .u64 (f.m : Nat)) ∧ w'.cell? ⟨al, k * 4 + 3, none⟩ = some (.int .i64 (f.c : Nat)) ∧ w'.cell? ⟨q, 0, none⟩ = some (.slice (some ⟨al, 0, none⟩) n ca)) v1 := ⟨(hBv1.cell (p := ⟨w.heap.size, 2, none⟩) (show w.heap.size < _ by omega)).trans s2, (hBv1.cell (p := ⟨w.heap.size, 3, none⟩) (show w.heap.size < _ by omega)).trans s3, (hBv1.cell (p := ⟨tk, k * 4 + 2, none⟩) (show tk < _ by omega)).trans b2, (hBv1.cell (p := ⟨tk, k * 4 + 3, none⟩) (show tk < _ by omega)).trans b3, (hBv1.cell (p := ⟨al, k * 4 + 2, none⟩) (show al < _ by omega)).trans a2, (hBv1.cell (p := ⟨al, k * 4 + 3, none⟩) (show al < _ by omega)).trans a3, (hBv1.cell (p := ⟨q, 0, none⟩) (show q < _ by omega)).trans h90⟩
        refine hK.out _ _ hSv1 ?_
        clear hK K
        refine held_take (v := ?_) 7 44 rfl rfl (by kernel_rfl) (by kernel_rfl) (by kernel_rfl) (fun _ _ _ h => h) ⟨by rfl, ?_⟩ hSv1 ?_
        rotate_left
        · intro w' hw'; obtain ⟨x0, x1, x2, x3, x4, x5, x6⟩ := hw'; go_simp; (try with_reducible rfl)
        simp only [Act.put, List.setIfInBounds_toArray, List.set_cons_zero, List.set_cons_succ]
        refine held_take (v := ?_) 8 45 rfl rfl (by kernel_rfl) (by kernel_rfl) (by kernel_rfl) (fun _ _ _ h => h) ⟨by rfl, ?_⟩ hSv1 ?_
        rotate_left
        · intro w' hw'; obtain ⟨x0, x1, x2, x3, x4, x5, x6⟩ := hw'; go_simp; (try with_reducible rfl)
        simp only [Act.put, List.setIfInBounds_toArray, List.set_cons_zero, List.set_cons_succ]
        refine held_skip 9 46 rfl rfl (by kernel_rfl) (by kernel_rfl) (by kernel_rfl) (fun _ _ _ h => h) (by rfl) hSv1 ?_
        simp only [Act.put, List.setIfInBounds_toArray, List.set_cons_zero, List.set_cons_succ]
        refine held_skip 10 47 rfl rfl (by kernel_rfl) (by kernel_rfl) (by kernel_rfl) (fun _ _ _ h => h) (by rfl) hSv1 ?_
        simp only [Act.put, List.setIfInBounds_toArray, List.set_cons_zero, List.set_cons_succ]
        refine held_skip 11 48 rfl rfl (by kernel_rfl) (by kernel_rfl) (by kernel_rfl) (fun _ _ _ h => h) (by rfl) hSv1 ?_
        simp only [Act.put, List.setIfInBounds_toArray, List.set_cons_zero, List.set_cons_succ]
        refine held_skip 12 49 rfl rfl (by kernel_rfl) (by kernel_rfl) (by kernel_rfl) (fun _ _ _ h => h) (by rfl) hSv1 ?_
        simp only [Act.put, List.setIfInBounds_toArray, List.set_cons_zero, List.set_cons_succ]
        refine held_skip 13 50 rfl rfl (by kernel_rfl) (by kernel_rfl) (by kernel_rfl) (fun _ _ _ h => h) (by rfl) hSv1 ?_
        simp only [Act.put, List.setIfInBounds_toArray, List.set_cons_zero, List.set_cons_succ]
        refine held_skip 14 51 rfl rfl (by kernel_rfl) (by kernel_rfl) (by kernel_rfl) (fun _ _ _ h => h) (by rfl) hSv1 ?_
        simp only [Act.put, List.setIfInBounds_toArray, List.set_cons_zero, List.set_cons_succ]
        refine held_skip 15 52 rfl rfl (by kernel_rfl) (by kernel_rfl) (by kernel_rfl) (fun _ _ _ h => h) (by rfl) hSv1 ?_
        simp only [Act.put, List.setIfInBounds_toArray, List.set_cons_zero, List.set_cons_succ]
        refine held_take (v := ?_) 16 53 rfl rfl (by kernel_rfl) (by kernel_rfl) (by kernel_rfl) (fun _ _ _ h => h) ⟨by rfl, ?_⟩ hSv1 ?_
        rotate_left
        · intro w' hw'; obtain ⟨x0, x1, x2, x3, x4, x5, x6⟩ := hw'; go_simp; (try with_reducible rfl)
        simp only [Act.put, List.setIfInBounds_toArray, List.set_cons_zero, List.set_cons_succ]
        refine wpAnyH_done (by kernel_rfl) ?_ _
        have HB3 := Lib.hid (HBW.out.trans (hBv1.mono hl2))
        go_wp2
        go_ret
        exact ⟨rfl, HP.out.keep (HB9.out.trans (HB3.out.mono HB9.out.size)), Foot.of_below (HB9.out.trans (HB3.out.mono HB9.out.size))⟩
    · rw [decide_eq_false hm] at hw2
      have HW2 := Lib.hid hw2
      have eR := HR.out
      rw [if_pos hm] at eR
      subst eR
      clear hw2 hm
      go_wp2_with fail
      refine HW2.out.mono ?_
      rintro e w2 ⟨rfl, hb2⟩
      have hBw2 : Below w1.heap.size w1 w2 := below_step (Below.refl w1.heap.size w1).drew hb2
      have HBx := Lib.hid (HB9.out.trans (hBw2.mono HB9.out.size))
      clear hb2 hBw2
      go_wp2
      go_ret
      exact ⟨rfl, HP.out.keep HBx.out, Foot.of_below HBx.out⟩
end Go.Proofs.Ytgdbjepddcmfoaa
