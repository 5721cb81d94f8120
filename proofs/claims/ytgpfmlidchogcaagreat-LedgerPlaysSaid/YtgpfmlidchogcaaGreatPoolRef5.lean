/- The document's pool: what a slot that is taken does. -/
import Derived.Deep.RegionWith
import Derived.IntWalk
import Derived.Test.YtgpfmlidchogcaaGreatKitZ
import Derived.Test.YtgpfmlidchogcaaGreatPoolRefY
namespace Go.Proofs.YtgpfmlidchogcaaGreat
open Go.RowKit

set_option maxRecDepth 100000 in
set_option maxHeartbeats 4000000 in
theorem reftake (q al tk db ca ct cd : Nat) (fs ts : List Fr) (dr : List Bool) (s : PM.Sl) (w : World) (h : RefAt w q al tk db ca ct cd fs ts dr) (hs : SlOk s) :
  Calls Tryz.prog 141 #[.pointer (some ⟨q, 0, none⟩), .bool false, slV s] w fun e w' => e = .returned (.int .i64 (PM.one fs dr false s ts).1) ∧ RefAt w' q al tk db ca ct cd fs (PM.one fs dr false s ts).2 dr ∧ Foot (· = tk) w w' := by
 obtain ⟨R, hR⟩ : ∃ R, R = PM.one fs dr false s ts := ⟨_, rfl⟩
 rw [← hR]
 have HP := Lib.hid h
 have hB1 := (Below.refl w.heap.size w).alloc (Nat.le_refl _) (.cells #[.int .i64 s.n, .int .i64 s.d, .int .u64 (s.m : Nat), .int .i64 s.c] 41)
 have HB := Lib.hid hB1
 have kc := bounds_i64 hs.c
 by_cases h0 : s.c < 0
 ·have e : R = (1, ts) := by rw [hR]; unfold PM.one; rw [if_pos h0]
  subst e
  clear hR h hs hB1
  obtain ⟨x, y, m, c⟩ := s
  simp only [slV] at *
  have t0 : decide (c < 0) = true := decide_eq_true h0
  go_enter Tryz.func141, Tryz.ntmps141
  go_wp2
  go_ret
  exact ⟨rfl, HP.out.keep HB.out, Foot.of_below HB.out⟩
 have hSp := refspot_any q al tk db ca ct cd fs ts dr s.n s.d _ (h.keep hB1)
 have bS := heap_alloc_new w (.cells #[.int .i64 s.n, .int .i64 s.d, .int .u64 (s.m : Nat), .int .i64 s.c] 41)
 cases hk : PM.find s.n s.d fs with
 | none =>
  have e : R = (3, ts) := by rw [hR]; unfold PM.one; rw [if_neg h0]; simp only [hk]
  subst e
  have eS : spotN s.n s.d fs = -1 := by unfold spotN; rw [hk]
  rw [eS] at hSp
  have HSp := Lib.hid hSp
  clear hR h hs hB1 hSp bS hk eS
  obtain ⟨x, y, m, c⟩ := s
  simp only [slV] at *
  have t0 : decide (c < 0) = false := decide_eq_false h0
  go_enter Tryz.func141, Tryz.ntmps141
  go_wp2_with (go_at_call 172; refine HSp.out.mono ?_; rintro e w1 ⟨rfl, hb1⟩)
  go_ret
  have hB9 := below_step HB.out hb1
  exact ⟨rfl, HP.out.keep hB9, Foot.of_below hB9⟩
 | some k =>
  obtain ⟨f, hf, hfn, hfd⟩ := PM.find_hit hk
  obtain ⟨t, ht⟩ := get_lt (l := ts) (k := k) (by rw [h.inv.1]; exact (List.getElem?_eq_some_iff.1 hf).1)
  have eS : spotN s.n s.d fs = (k : Int) := by unfold spotN; rw [hk]
  rw [eS] at hSp
  obtain ⟨i1, i2, i3, i4⟩ := h.inv.2 k f t hf ht
  obtain ⟨k1, k2⟩ := h.ok.ok f (List.mem_of_getElem? hf)
  have k3 : t.m < 18446744073709551616 := by rw [← i3]; exact Nat.lt_of_le_of_lt Nat.and_le_right k1
  have ks := hs.m
  have hkn : k < fs.length := (List.getElem?_eq_some_iff.1 hf).1
  have hfew := h.ok.few
  have hnd := h.ok.node f (List.mem_of_getElem? hf)
  have hnods := h.ok.nodes
  have hlt := h.lt
  have HSp := Lib.hid hSp
  obtain ⟨bd, hbd⟩ := get_lt (l := dr) (k := f.n) hnd
  have hone : R = if bd = true then (8, ts) else if s.m &&& f.m ≠ s.m ∨ s.m &&& t.m ≠ 0 ∨ (f.c : Int) - (t.c : Int) < s.c then (5, ts) else (0, ts.set k (PM.up t s)) := by
   rw [hR]; unfold PM.one
   rw [if_neg h0]
   simp only [hk, hf, ht, Bool.false_eq_true, if_false, hbd, Option.some.injEq]
   rfl
  have HR := Lib.hid hone
  have HI := Lib.hid (And.intro hf (And.intro ht (And.intro hfn (And.intro hk (And.intro (Int.not_lt.1 h0) (And.intro i3 hbd))))))
  have HbS := Lib.hid bS
  have t0 : decide (s.c < 0) = false := decide_eq_false h0
  have tk0 : decide ((k : Int) < 0) = false := decide_eq_false (by omega)
  obtain ⟨n, hn⟩ : ∃ n, n = fs.length := ⟨_, rfl⟩
  obtain ⟨kd, hkd⟩ : ∃ kd, kd = dr.length := ⟨_, rfl⟩
  have Hn := Lib.hid (And.intro hn hkd)
  rw [← hn] at hkn hfew
  rw [← hkd] at hnd hnods
  clear hone hR h hs hB1 hSp bS hk eS hf ht i1 i2 i3 hfd hbd hn hkd h0
  obtain ⟨x, y, m, c⟩ := s
  simp only [slV] at *
  obtain rfl := hfn
  go_enter Tryz.func141, Tryz.ntmps141
  go_wp2_with (go_at_call 172; refine HSp.out.mono ?_; rintro e w1 ⟨rfl, hb1⟩; have hB9 := below_step HB.out hb1; have hR9 := HP.out.keep hB9; obtain ⟨h90, h91, h92⟩ := hR9.heads; rw [← Hn.out.1] at h90 h91; rw [← Hn.out.2] at h92; have bS9 := (hb1.block w.heap.size (by simp)).trans HbS.out; have s2 : w1.cell? ⟨w.heap.size, 2, none⟩ = some (.int .u64 (m : Nat)) := cell_blk (i := 2) bS9 rfl; have s3 : w1.cell? ⟨w.heap.size, 3, none⟩ = some (.int .i64 c) := cell_blk (i := 3) bS9 rfl; have s0 : w1.cell? ⟨w.heap.size, 0, none⟩ = some (.int .i64 (f.n : Nat)) := cell_blk (i := 0) bS9 rfl; obtain ⟨a2, a3, b2, b3, z2, z3⟩ := hR9.cells HI.out.1 HI.out.2.1)
  have hlw1 : w.heap.size < w1.heap.size := by have := hb1.size; simp at this; omega
  have HK := Lib.hid (fun (W : World) (hW : Below w1.heap.size w1 W) => And.intro (hR9.keep hW) ((hW.block w.heap.size hlw1).trans bS9))
  have HB9 := Lib.hid hB9
  have hl9 := hR9.lt
  have yd := (hR9.bit HI.out.2.2.2.2.2.2).1
  clear hB9 hb1 hR9 bS9
  cases bd
  ·have eR := HR.out
   rw [if_neg (by simp)] at eR
   go_wp2
   go_quiet (fail)
   go_wp2
   obtain ⟨W2, hW2⟩ : ∃ W2, W2 = w1.drewN nq := ⟨_, rfl⟩
   have HBW := Lib.hid (show Below w1.heap.size w1 W2 by rw [hW2]; exact below_drewN (Below.refl _ _) _)
   have HBW2 := Lib.hid (HB9.out.trans (HBW.out.mono HB9.out.size))
   rw [← hW2]
   clear hW2 h90 h91 h92 s2 s3 s0 a2 a3 b2 b3 z2 z3 yd
   obtain ⟨rK, bK⟩ := HK.out W2 HBW.out
   obtain ⟨h90, h91, h92⟩ := rK.heads
   rw [← Hn.out.1] at h90 h91
   rw [← Hn.out.2] at h92
   have s2 : W2.cell? ⟨w.heap.size, 2, none⟩ = some (.int .u64 (m : Nat)) := cell_blk (i := 2) bK rfl
   have s3 : W2.cell? ⟨w.heap.size, 3, none⟩ = some (.int .i64 c) := cell_blk (i := 3) bK rfl
   have s0 : W2.cell? ⟨w.heap.size, 0, none⟩ = some (.int .i64 (f.n : Nat)) := cell_blk (i := 0) bK rfl
   obtain ⟨a2, a3, b2, b3, z2, z3⟩ := rK.cells HI.out.1 HI.out.2.1
   have yd := (rK.bit HI.out.2.2.2.2.2.2).1
   clear rK bK
   have hl2 := HBW.out.size
   have hwr : IntKind.i64.wrap ((f.c : Int) - (t.c : Int)) = (f.c : Int) - t.c := IntWalk.i64_in _ (by omega)
   have hw := fun W => refwithin_any m f.m ks k1 W
   have ha := fun W => refapart_any m t.m ks k3 W
   by_cases hm : m &&& f.m = m
   ·rw [decide_eq_true hm] at hw
    by_cases hap : m &&& t.m = 0
    ·rw [decide_eq_true hap] at ha
     have HW := Lib.hid hw
     have HA := Lib.hid ha
     clear hw ha
     by_cases hcc : (f.c : Int) - (t.c : Int) < c
     ·rw [if_pos (.inr (.inr hcc))] at eR
      subst eR
      have t2 : decide ((f.c : Int) - (t.c : Int) < c) = true := decide_eq_true hcc
      clear hm hap hcc
      refine held_begin (fun w' : World => w'.cell? ⟨w.heap.size, 2, none⟩ = some (.int .u64 (m : Nat)) ∧ w'.cell? ⟨w.heap.size, 3, none⟩ = some (.int .i64 c) ∧ w'.cell? ⟨tk, k * 4 + 2, none⟩ = some (.int .u64 (t.m : Nat)) ∧ w'.cell? ⟨tk, k * 4 + 3, none⟩ = some (.int .i64 (t.c : Nat)) ∧ w'.cell? ⟨al, k * 4 + 2, none⟩ = some (.int .u64 (f.m : Nat)) ∧ w'.cell? ⟨al, k * 4 + 3, none⟩ = some (.int .i64 (f.c : Nat)) ∧ w'.cell? ⟨q, 0, none⟩ = some (.slice (some ⟨al, 0, none⟩) n ca)) (by kernel_rfl) ?_
      have hS0 : (fun w' : World => w'.cell? ⟨w.heap.size, 2, none⟩ = some (.int .u64 (m : Nat)) ∧ w'.cell? ⟨w.heap.size, 3, none⟩ = some (.int .i64 c) ∧ w'.cell? ⟨tk, k * 4 + 2, none⟩ = some (.int .u64 (t.m : Nat)) ∧ w'.cell? ⟨tk, k * 4 + 3, none⟩ = some (.int .i64 (t.c : Nat)) ∧ w'.cell? ⟨al, k * 4 + 2, none⟩ = some (.int .u64 (f.m : Nat)) ∧ w'.cell? ⟨al, k * 4 + 3, none⟩ = some (.int .i64 (f.c : Nat)) ∧ w'.cell? ⟨q, 0, none⟩ = some (.slice (some ⟨al, 0, none⟩) n ca)) W2.drew := ⟨s2, s3, b2, b3, a2, a3, h90⟩
      refine held_takeK (v := ?_) 0 83 rfl rfl ⟨by rfl, ?_⟩ hS0 ?_
      rotate_left
      ·intro w' hw'; obtain ⟨x0, x1, x2, x3, x4, x5, x6⟩ := hw'; go_simp; (try with_reducible rfl)
      simp only [Act.put, pzA, pzB, pzC]
      refine held_takeK (v := ?_) 1 84 rfl rfl ⟨by rfl, ?_⟩ hS0 ?_
      rotate_left
      ·intro w' hw'; obtain ⟨x0, x1, x2, x3, x4, x5, x6⟩ := hw'; go_simp; (try with_reducible rfl)
      simp only [Act.put, pzA, pzB, pzC]
      refine held_takeK (v := ?_) 2 85 rfl rfl ⟨by rfl, ?_⟩ hS0 ?_
      rotate_left
      ·intro w' hw'; obtain ⟨x0, x1, x2, x3, x4, x5, x6⟩ := hw'; go_simp; (try with_reducible rfl)
      simp only [Act.put, pzA, pzB, pzC]
      refine held_takeK (v := ?_) 3 86 rfl rfl ⟨by rfl, ?_⟩ hS0 ?_
      rotate_left
      ·intro w' hw'; obtain ⟨x0, x1, x2, x3, x4, x5, x6⟩ := hw'; go_simp; (try with_reducible rfl)
      simp only [Act.put, pzA, pzB, pzC]
      refine held_takeK (v := ?_) 4 87 rfl rfl ⟨by rfl, ?_⟩ hS0 ?_
      rotate_left
      ·intro w' hw'; obtain ⟨x0, x1, x2, x3, x4, x5, x6⟩ := hw'; go_simp; (try with_reducible rfl)
      simp only [Act.put, pzA, pzB, pzC]
      refine held_takeK (v := ?_) 5 88 rfl rfl ⟨by rfl, ?_⟩ hS0 ?_
      rotate_left
      ·intro w' hw'; obtain ⟨x0, x1, x2, x3, x4, x5, x6⟩ := hw'; go_simp; (try with_reducible rfl)
      simp only [Act.put, pzA, pzB, pzC]
      refine held_takeK (v := ?_) 6 89 rfl rfl ⟨by rfl, ?_⟩ hS0 ?_
      rotate_left
      ·intro w' hw'; obtain ⟨x0, x1, x2, x3, x4, x5, x6⟩ := hw'; go_simp; (try with_reducible rfl)
      simp only [Act.put, pzA, pzB, pzC]
      refine held_takeK (v := ?_) 7 90 rfl rfl ⟨by rfl, ?_⟩ hS0 ?_
      rotate_left
      ·intro w' hw'; obtain ⟨x0, x1, x2, x3, x4, x5, x6⟩ := hw'; go_simp; (try with_reducible rfl)
      simp only [Act.put, pzA, pzB, pzC]
      refine held_takeK (v := ?_) 8 91 rfl rfl ⟨by rfl, ?_⟩ hS0 ?_
      rotate_left
      ·intro w' hw'; obtain ⟨x0, x1, x2, x3, x4, x5, x6⟩ := hw'; go_simp; (try with_reducible rfl)
      simp only [Act.put, pzA, pzB, pzC]
      refine held_takeK (v := ?_) 9 92 rfl rfl ⟨by rfl, ?_⟩ hS0 ?_
      rotate_left
      ·intro w' hw'; obtain ⟨x0, x1, x2, x3, x4, x5, x6⟩ := hw'; go_simp; (try with_reducible rfl)
      simp only [Act.put, pzA, pzB, pzC]
      refine held_one 10 rfl (by kernel_rfl) (by rfl) (fun K hK => ?_)
      go_simp
      go_at_call 173
      refine (HW.out _).mono ?_
      rintro e v1 ⟨rfl, hbv1⟩
      have hBv1 : Below W2.heap.size W2 v1 := below_step (Below.refl W2.heap.size W2).drew hbv1
      have hSv1 : (fun w' : World => w'.cell? ⟨w.heap.size, 2, none⟩ = some (.int .u64 (m : Nat)) ∧ w'.cell? ⟨w.heap.size, 3, none⟩ = some (.int .i64 c) ∧ w'.cell? ⟨tk, k * 4 + 2, none⟩ = some (.int .u64 (t.m : Nat)) ∧ w'.cell? ⟨tk, k * 4 + 3, none⟩ = some (.int .i64 (t.c : Nat)) ∧ w'.cell? ⟨al, k * 4 + 2, none⟩ = some (.int .u64 (f.m : Nat)) ∧ w'.cell? ⟨al, k * 4 + 3, none⟩ = some (.int .i64 (f.c : Nat)) ∧ w'.cell? ⟨q, 0, none⟩ = some (.slice (some ⟨al, 0, none⟩) n ca)) v1 := ⟨(hBv1.cell (p := ⟨w.heap.size, 2, none⟩) (show w.heap.size < _ by omega)).trans s2, (hBv1.cell (p := ⟨w.heap.size, 3, none⟩) (show w.heap.size < _ by omega)).trans s3, (hBv1.cell (p := ⟨tk, k * 4 + 2, none⟩) (show tk < _ by omega)).trans b2, (hBv1.cell (p := ⟨tk, k * 4 + 3, none⟩) (show tk < _ by omega)).trans b3, (hBv1.cell (p := ⟨al, k * 4 + 2, none⟩) (show al < _ by omega)).trans a2, (hBv1.cell (p := ⟨al, k * 4 + 3, none⟩) (show al < _ by omega)).trans a3, (hBv1.cell (p := ⟨q, 0, none⟩) (show q < _ by omega)).trans h90⟩
      refine hK.out _ _ hSv1 ?_
      clear hK K
      refine held_takeK (v := ?_) 11 94 rfl rfl ⟨by rfl, ?_⟩ hSv1 ?_
      rotate_left
      ·intro w' hw'; obtain ⟨x0, x1, x2, x3, x4, x5, x6⟩ := hw'; go_simp; (try with_reducible rfl)
      simp only [Act.put, pzA, pzB, pzC]
      refine held_takeK (v := ?_) 12 95 rfl rfl ⟨by rfl, ?_⟩ hSv1 ?_
      rotate_left
      ·intro w' hw'; obtain ⟨x0, x1, x2, x3, x4, x5, x6⟩ := hw'; go_simp; (try with_reducible rfl)
      simp only [Act.put, pzA, pzB, pzC]
      refine held_takeK (v := ?_) 13 96 rfl rfl ⟨by rfl, ?_⟩ hSv1 ?_
      rotate_left
      ·intro w' hw'; obtain ⟨x0, x1, x2, x3, x4, x5, x6⟩ := hw'; go_simp; (try with_reducible rfl)
      simp only [Act.put, pzA, pzB, pzC]
      refine held_takeK (v := ?_) 14 97 rfl rfl ⟨by rfl, ?_⟩ hSv1 ?_
      rotate_left
      ·intro w' hw'; obtain ⟨x0, x1, x2, x3, x4, x5, x6⟩ := hw'; go_simp; (try with_reducible rfl)
      simp only [Act.put, pzA, pzB, pzC]
      refine held_takeK (v := ?_) 15 98 rfl rfl ⟨by rfl, ?_⟩ hSv1 ?_
      rotate_left
      ·intro w' hw'; obtain ⟨x0, x1, x2, x3, x4, x5, x6⟩ := hw'; go_simp; (try with_reducible rfl)
      simp only [Act.put, pzA, pzB, pzC]
      refine held_takeK (v := ?_) 16 99 rfl rfl ⟨by rfl, ?_⟩ hSv1 ?_
      rotate_left
      ·intro w' hw'; obtain ⟨x0, x1, x2, x3, x4, x5, x6⟩ := hw'; go_simp; (try with_reducible rfl)
      simp only [Act.put, pzA, pzB, pzC]
      refine held_takeK (v := ?_) 17 100 rfl rfl ⟨by rfl, ?_⟩ hSv1 ?_
      rotate_left
      ·intro w' hw'; obtain ⟨x0, x1, x2, x3, x4, x5, x6⟩ := hw'; go_simp; (try with_reducible rfl)
      simp only [Act.put, pzA, pzB, pzC]
      refine held_takeK (v := ?_) 18 101 rfl rfl ⟨by rfl, ?_⟩ hSv1 ?_
      rotate_left
      ·intro w' hw'; obtain ⟨x0, x1, x2, x3, x4, x5, x6⟩ := hw'; go_simp; (try with_reducible rfl)
      simp only [Act.put, pzA, pzB, pzC]
      refine held_one 19 rfl (by kernel_rfl) (by rfl) (fun K hK => ?_)
      go_simp
      go_at_call 174
      refine (HA.out _).mono ?_
      rintro e v2 ⟨rfl, hbv2⟩
      have hBv2 : Below W2.heap.size W2 v2 := below_step hBv1 hbv2
      have hSv2 : (fun w' : World => w'.cell? ⟨w.heap.size, 2, none⟩ = some (.int .u64 (m : Nat)) ∧ w'.cell? ⟨w.heap.size, 3, none⟩ = some (.int .i64 c) ∧ w'.cell? ⟨tk, k * 4 + 2, none⟩ = some (.int .u64 (t.m : Nat)) ∧ w'.cell? ⟨tk, k * 4 + 3, none⟩ = some (.int .i64 (t.c : Nat)) ∧ w'.cell? ⟨al, k * 4 + 2, none⟩ = some (.int .u64 (f.m : Nat)) ∧ w'.cell? ⟨al, k * 4 + 3, none⟩ = some (.int .i64 (f.c : Nat)) ∧ w'.cell? ⟨q, 0, none⟩ = some (.slice (some ⟨al, 0, none⟩) n ca)) v2 := ⟨(hBv2.cell (p := ⟨w.heap.size, 2, none⟩) (show w.heap.size < _ by omega)).trans s2, (hBv2.cell (p := ⟨w.heap.size, 3, none⟩) (show w.heap.size < _ by omega)).trans s3, (hBv2.cell (p := ⟨tk, k * 4 + 2, none⟩) (show tk < _ by omega)).trans b2, (hBv2.cell (p := ⟨tk, k * 4 + 3, none⟩) (show tk < _ by omega)).trans b3, (hBv2.cell (p := ⟨al, k * 4 + 2, none⟩) (show al < _ by omega)).trans a2, (hBv2.cell (p := ⟨al, k * 4 + 3, none⟩) (show al < _ by omega)).trans a3, (hBv2.cell (p := ⟨q, 0, none⟩) (show q < _ by omega)).trans h90⟩
      refine hK.out _ _ hSv2 ?_
      clear hK K
      refine held_takeK (v := ?_) 20 103 rfl rfl ⟨by rfl, ?_⟩ hSv2 ?_
      rotate_left
      ·intro w' hw'; obtain ⟨x0, x1, x2, x3, x4, x5, x6⟩ := hw'; go_simp; (try with_reducible rfl)
      simp only [Act.put, pzA, pzB, pzC]
      refine held_takeK (v := ?_) 21 104 rfl rfl ⟨by rfl, ?_⟩ hSv2 ?_
      rotate_left
      ·intro w' hw'; obtain ⟨x0, x1, x2, x3, x4, x5, x6⟩ := hw'; go_simp; (try with_reducible rfl)
      simp only [Act.put, pzA, pzB, pzC]
      refine held_takeK (v := ?_) 22 105 rfl rfl ⟨by rfl, ?_⟩ hSv2 ?_
      rotate_left
      ·intro w' hw'; obtain ⟨x0, x1, x2, x3, x4, x5, x6⟩ := hw'; go_simp; (try with_reducible rfl)
      simp only [Act.put, pzA, pzB, pzC]
      refine held_takeK (v := ?_) 23 106 rfl rfl ⟨by rfl, ?_⟩ hSv2 ?_
      rotate_left
      ·intro w' hw'; obtain ⟨x0, x1, x2, x3, x4, x5, x6⟩ := hw'; go_simp; (try with_reducible rfl)
      simp only [Act.put, pzA, pzB, pzC]
      refine held_takeK (v := ?_) 24 107 rfl rfl ⟨by rfl, ?_⟩ hSv2 ?_
      rotate_left
      ·intro w' hw'; obtain ⟨x0, x1, x2, x3, x4, x5, x6⟩ := hw'; go_simp; (try with_reducible rfl)
      simp only [Act.put, pzA, pzB, pzC]
      refine held_takeK (v := ?_) 25 108 rfl rfl ⟨by rfl, ?_⟩ hSv2 ?_
      rotate_left
      ·intro w' hw'; obtain ⟨x0, x1, x2, x3, x4, x5, x6⟩ := hw'; go_simp; (try with_reducible rfl)
      simp only [Act.put, pzA, pzB, pzC]
      refine held_takeK (v := ?_) 26 109 rfl rfl ⟨by rfl, ?_⟩ hSv2 ?_
      rotate_left
      ·intro w' hw'; obtain ⟨x0, x1, x2, x3, x4, x5, x6⟩ := hw'; go_simp; (try with_reducible rfl)
      simp only [Act.put, pzA, pzB, pzC]
      refine held_takeK (v := ?_) 27 110 rfl rfl ⟨by rfl, ?_⟩ hSv2 ?_
      rotate_left
      ·intro w' hw'; obtain ⟨x0, x1, x2, x3, x4, x5, x6⟩ := hw'; go_simp; (try with_reducible rfl)
      simp only [Act.put, pzA, pzB, pzC]
      refine held_takeK (v := ?_) 28 111 rfl rfl ⟨by rfl, ?_⟩ hSv2 ?_
      rotate_left
      ·intro w' hw'; obtain ⟨x0, x1, x2, x3, x4, x5, x6⟩ := hw'; go_simp; (try with_reducible rfl)
      simp only [Act.put, pzA, pzB, pzC]
      refine held_takeK (v := ?_) 29 112 rfl rfl ⟨by rfl, ?_⟩ hSv2 ?_
      rotate_left
      ·intro w' hw'; obtain ⟨x0, x1, x2, x3, x4, x5, x6⟩ := hw'; go_simp; (try with_reducible rfl)
      simp only [Act.put, pzA, pzB, pzC]
      refine held_takeK (v := ?_) 30 113 rfl rfl ⟨by rfl, ?_⟩ hSv2 ?_
      rotate_left
      ·intro w' hw'; obtain ⟨x0, x1, x2, x3, x4, x5, x6⟩ := hw'; go_simp; (try with_reducible rfl)
      simp only [Act.put, pzA, pzB, pzC]
      refine held_takeK (v := ?_) 31 114 rfl rfl ⟨by rfl, ?_⟩ hSv2 ?_
      rotate_left
      ·intro w' hw'; obtain ⟨x0, x1, x2, x3, x4, x5, x6⟩ := hw'; go_simp; (try with_reducible rfl)
      simp only [Act.put, pzA, pzB, pzC]
      refine held_takeK (v := ?_) 32 115 rfl rfl ⟨by rfl, ?_⟩ hSv2 ?_
      rotate_left
      ·intro w' hw'; obtain ⟨x0, x1, x2, x3, x4, x5, x6⟩ := hw'; go_simp; (try with_reducible rfl)
      simp only [Act.put, pzA, pzB, pzC]
      refine held_takeK (v := ?_) 33 116 rfl rfl ⟨by rfl, ?_⟩ hSv2 ?_
      rotate_left
      ·intro w' hw'; obtain ⟨x0, x1, x2, x3, x4, x5, x6⟩ := hw'; go_simp; (try with_reducible rfl)
      simp only [Act.put, pzA, pzB, pzC]
      refine held_takeK (v := ?_) 34 117 rfl rfl ⟨by rfl, ?_⟩ hSv2 ?_
      rotate_left
      ·intro w' hw'; obtain ⟨x0, x1, x2, x3, x4, x5, x6⟩ := hw'; go_simp; (try with_reducible rfl)
      simp only [Act.put, pzA, pzB, pzC]
      refine held_takeK (v := ?_) 35 118 rfl rfl ⟨by rfl, ?_⟩ hSv2 ?_
      rotate_left
      ·intro w' hw'; obtain ⟨x0, x1, x2, x3, x4, x5, x6⟩ := hw'; go_simp; (try with_reducible rfl)
      simp only [Act.put, pzA, pzB, pzC]
      refine held_takeK (v := ?_) 36 119 rfl rfl ⟨by rfl, ?_⟩ hSv2 ?_
      rotate_left
      ·intro w' hw'; obtain ⟨x0, x1, x2, x3, x4, x5, x6⟩ := hw'; go_simp; (try with_reducible rfl)
      simp only [Act.put, pzA, pzB, pzC]
      refine held_takeK (v := ?_) 37 120 rfl rfl ⟨by rfl, ?_⟩ hSv2 ?_
      rotate_left
      ·intro w' hw'; obtain ⟨x0, x1, x2, x3, x4, x5, x6⟩ := hw'; go_simp; (try with_reducible rfl)
      simp only [Act.put, pzA, pzB, pzC]
      refine held_takeK (v := ?_) 38 121 rfl rfl ⟨by rfl, ?_⟩ hSv2 ?_
      rotate_left
      ·intro w' hw'; obtain ⟨x0, x1, x2, x3, x4, x5, x6⟩ := hw'; go_simp; (try with_reducible rfl)
      simp only [Act.put, pzA, pzB, pzC]
      refine held_takeK (v := ?_) 39 122 rfl rfl ⟨by rfl, ?_⟩ hSv2 ?_
      rotate_left
      ·intro w' hw'; obtain ⟨x0, x1, x2, x3, x4, x5, x6⟩ := hw'; go_simp; (try with_reducible rfl)
      simp only [Act.put, pzA, pzB, pzC]
      refine wpAnyH_done (by kernel_rfl) ?_ _
      go_wp2
      go_ret
      exact ⟨rfl, HP.out.keep (HBW2.out.trans (hBv2.mono HBW2.out.size)), Foot.of_below (HBW2.out.trans (hBv2.mono HBW2.out.size))⟩
     ·have t2 : decide ((f.c : Int) - (t.c : Int) < c) = false := decide_eq_false hcc
      have hce : c ≤ (f.c : Int) - (t.c : Int) := by omega
      have hc0 := HI.out.2.2.2.2.1
      have Hi := Lib.hid (show PM.Inv fs (ts.set k (PM.up t ⟨(f.n : Int), y, m, c⟩)) by
       have hu := PM.one_inv (dr := []) (give := false) (s := ⟨(f.n : Int), y, m, c⟩) HP.out.inv
       rwa [(PM.Takes.mk hc0 HI.out.2.2.2.1 HI.out.1 HI.out.2.1 (by simp) hm hap hce : PM.Takes fs [] ⟨(f.n : Int), y, m, c⟩ k f t ts).eq] at hu)
      have HmV := Lib.hid (show (t.m : Int) + (m : Int) = ((PM.up t ⟨(f.n : Int), y, m, c⟩).m : Nat) by simp only [PM.up]; have := PM.or_add (show t.m &&& m = 0 by rw [Nat.and_comm]; exact hap); omega)
      have hsum : t.m + m < 18446744073709551616 := by
       rw [PM.or_add (show t.m &&& m = 0 by rw [Nat.and_comm]; exact hap)]; exact MM.or_lt k3 ks
      rw [if_neg (by rintro (h | h | h); exact h hm; exact h hap; exact hcc h)] at eR
      subst eR
      clear hm hap hcc
      refine held_begin (fun w' : World => w'.cell? ⟨w.heap.size, 2, none⟩ = some (.int .u64 (m : Nat)) ∧ w'.cell? ⟨w.heap.size, 3, none⟩ = some (.int .i64 c) ∧ w'.cell? ⟨tk, k * 4 + 2, none⟩ = some (.int .u64 (t.m : Nat)) ∧ w'.cell? ⟨tk, k * 4 + 3, none⟩ = some (.int .i64 (t.c : Nat)) ∧ w'.cell? ⟨al, k * 4 + 2, none⟩ = some (.int .u64 (f.m : Nat)) ∧ w'.cell? ⟨al, k * 4 + 3, none⟩ = some (.int .i64 (f.c : Nat)) ∧ w'.cell? ⟨q, 0, none⟩ = some (.slice (some ⟨al, 0, none⟩) n ca)) (by kernel_rfl) ?_
      have hS0 : (fun w' : World => w'.cell? ⟨w.heap.size, 2, none⟩ = some (.int .u64 (m : Nat)) ∧ w'.cell? ⟨w.heap.size, 3, none⟩ = some (.int .i64 c) ∧ w'.cell? ⟨tk, k * 4 + 2, none⟩ = some (.int .u64 (t.m : Nat)) ∧ w'.cell? ⟨tk, k * 4 + 3, none⟩ = some (.int .i64 (t.c : Nat)) ∧ w'.cell? ⟨al, k * 4 + 2, none⟩ = some (.int .u64 (f.m : Nat)) ∧ w'.cell? ⟨al, k * 4 + 3, none⟩ = some (.int .i64 (f.c : Nat)) ∧ w'.cell? ⟨q, 0, none⟩ = some (.slice (some ⟨al, 0, none⟩) n ca)) W2.drew := ⟨s2, s3, b2, b3, a2, a3, h90⟩
      refine held_takeK (v := ?_) 0 83 rfl rfl ⟨by rfl, ?_⟩ hS0 ?_
      rotate_left
      ·intro w' hw'; obtain ⟨x0, x1, x2, x3, x4, x5, x6⟩ := hw'; go_simp; (try with_reducible rfl)
      simp only [Act.put, pzA, pzB, pzC]
      refine held_takeK (v := ?_) 1 84 rfl rfl ⟨by rfl, ?_⟩ hS0 ?_
      rotate_left
      ·intro w' hw'; obtain ⟨x0, x1, x2, x3, x4, x5, x6⟩ := hw'; go_simp; (try with_reducible rfl)
      simp only [Act.put, pzA, pzB, pzC]
      refine held_takeK (v := ?_) 2 85 rfl rfl ⟨by rfl, ?_⟩ hS0 ?_
      rotate_left
      ·intro w' hw'; obtain ⟨x0, x1, x2, x3, x4, x5, x6⟩ := hw'; go_simp; (try with_reducible rfl)
      simp only [Act.put, pzA, pzB, pzC]
      refine held_takeK (v := ?_) 3 86 rfl rfl ⟨by rfl, ?_⟩ hS0 ?_
      rotate_left
      ·intro w' hw'; obtain ⟨x0, x1, x2, x3, x4, x5, x6⟩ := hw'; go_simp; (try with_reducible rfl)
      simp only [Act.put, pzA, pzB, pzC]
      refine held_takeK (v := ?_) 4 87 rfl rfl ⟨by rfl, ?_⟩ hS0 ?_
      rotate_left
      ·intro w' hw'; obtain ⟨x0, x1, x2, x3, x4, x5, x6⟩ := hw'; go_simp; (try with_reducible rfl)
      simp only [Act.put, pzA, pzB, pzC]
      refine held_takeK (v := ?_) 5 88 rfl rfl ⟨by rfl, ?_⟩ hS0 ?_
      rotate_left
      ·intro w' hw'; obtain ⟨x0, x1, x2, x3, x4, x5, x6⟩ := hw'; go_simp; (try with_reducible rfl)
      simp only [Act.put, pzA, pzB, pzC]
      refine held_takeK (v := ?_) 6 89 rfl rfl ⟨by rfl, ?_⟩ hS0 ?_
      rotate_left
      ·intro w' hw'; obtain ⟨x0, x1, x2, x3, x4, x5, x6⟩ := hw'; go_simp; (try with_reducible rfl)
      simp only [Act.put, pzA, pzB, pzC]
      refine held_takeK (v := ?_) 7 90 rfl rfl ⟨by rfl, ?_⟩ hS0 ?_
      rotate_left
      ·intro w' hw'; obtain ⟨x0, x1, x2, x3, x4, x5, x6⟩ := hw'; go_simp; (try with_reducible rfl)
      simp only [Act.put, pzA, pzB, pzC]
      refine held_takeK (v := ?_) 8 91 rfl rfl ⟨by rfl, ?_⟩ hS0 ?_
      rotate_left
      ·intro w' hw'; obtain ⟨x0, x1, x2, x3, x4, x5, x6⟩ := hw'; go_simp; (try with_reducible rfl)
      simp only [Act.put, pzA, pzB, pzC]
      refine held_takeK (v := ?_) 9 92 rfl rfl ⟨by rfl, ?_⟩ hS0 ?_
      rotate_left
      ·intro w' hw'; obtain ⟨x0, x1, x2, x3, x4, x5, x6⟩ := hw'; go_simp; (try with_reducible rfl)
      simp only [Act.put, pzA, pzB, pzC]
      refine held_one 10 rfl (by kernel_rfl) (by rfl) (fun K hK => ?_)
      go_simp
      go_at_call 173
      refine (HW.out _).mono ?_
      rintro e v1 ⟨rfl, hbv1⟩
      have hBv1 : Below W2.heap.size W2 v1 := below_step (Below.refl W2.heap.size W2).drew hbv1
      have hSv1 : (fun w' : World => w'.cell? ⟨w.heap.size, 2, none⟩ = some (.int .u64 (m : Nat)) ∧ w'.cell? ⟨w.heap.size, 3, none⟩ = some (.int .i64 c) ∧ w'.cell? ⟨tk, k * 4 + 2, none⟩ = some (.int .u64 (t.m : Nat)) ∧ w'.cell? ⟨tk, k * 4 + 3, none⟩ = some (.int .i64 (t.c : Nat)) ∧ w'.cell? ⟨al, k * 4 + 2, none⟩ = some (.int .u64 (f.m : Nat)) ∧ w'.cell? ⟨al, k * 4 + 3, none⟩ = some (.int .i64 (f.c : Nat)) ∧ w'.cell? ⟨q, 0, none⟩ = some (.slice (some ⟨al, 0, none⟩) n ca)) v1 := ⟨(hBv1.cell (p := ⟨w.heap.size, 2, none⟩) (show w.heap.size < _ by omega)).trans s2, (hBv1.cell (p := ⟨w.heap.size, 3, none⟩) (show w.heap.size < _ by omega)).trans s3, (hBv1.cell (p := ⟨tk, k * 4 + 2, none⟩) (show tk < _ by omega)).trans b2, (hBv1.cell (p := ⟨tk, k * 4 + 3, none⟩) (show tk < _ by omega)).trans b3, (hBv1.cell (p := ⟨al, k * 4 + 2, none⟩) (show al < _ by omega)).trans a2, (hBv1.cell (p := ⟨al, k * 4 + 3, none⟩) (show al < _ by omega)).trans a3, (hBv1.cell (p := ⟨q, 0, none⟩) (show q < _ by omega)).trans h90⟩
      refine hK.out _ _ hSv1 ?_
      clear hK K
      refine held_takeK (v := ?_) 11 94 rfl rfl ⟨by rfl, ?_⟩ hSv1 ?_
      rotate_left
      ·intro w' hw'; obtain ⟨x0, x1, x2, x3, x4, x5, x6⟩ := hw'; go_simp; (try with_reducible rfl)
      simp only [Act.put, pzA, pzB, pzC]
      refine held_takeK (v := ?_) 12 95 rfl rfl ⟨by rfl, ?_⟩ hSv1 ?_
      rotate_left
      ·intro w' hw'; obtain ⟨x0, x1, x2, x3, x4, x5, x6⟩ := hw'; go_simp; (try with_reducible rfl)
      simp only [Act.put, pzA, pzB, pzC]
      refine held_takeK (v := ?_) 13 96 rfl rfl ⟨by rfl, ?_⟩ hSv1 ?_
      rotate_left
      ·intro w' hw'; obtain ⟨x0, x1, x2, x3, x4, x5, x6⟩ := hw'; go_simp; (try with_reducible rfl)
      simp only [Act.put, pzA, pzB, pzC]
      refine held_takeK (v := ?_) 14 97 rfl rfl ⟨by rfl, ?_⟩ hSv1 ?_
      rotate_left
      ·intro w' hw'; obtain ⟨x0, x1, x2, x3, x4, x5, x6⟩ := hw'; go_simp; (try with_reducible rfl)
      simp only [Act.put, pzA, pzB, pzC]
      refine held_takeK (v := ?_) 15 98 rfl rfl ⟨by rfl, ?_⟩ hSv1 ?_
      rotate_left
      ·intro w' hw'; obtain ⟨x0, x1, x2, x3, x4, x5, x6⟩ := hw'; go_simp; (try with_reducible rfl)
      simp only [Act.put, pzA, pzB, pzC]
      refine held_takeK (v := ?_) 16 99 rfl rfl ⟨by rfl, ?_⟩ hSv1 ?_
      rotate_left
      ·intro w' hw'; obtain ⟨x0, x1, x2, x3, x4, x5, x6⟩ := hw'; go_simp; (try with_reducible rfl)
      simp only [Act.put, pzA, pzB, pzC]
      refine held_takeK (v := ?_) 17 100 rfl rfl ⟨by rfl, ?_⟩ hSv1 ?_
      rotate_left
      ·intro w' hw'; obtain ⟨x0, x1, x2, x3, x4, x5, x6⟩ := hw'; go_simp; (try with_reducible rfl)
      simp only [Act.put, pzA, pzB, pzC]
      refine held_takeK (v := ?_) 18 101 rfl rfl ⟨by rfl, ?_⟩ hSv1 ?_
      rotate_left
      ·intro w' hw'; obtain ⟨x0, x1, x2, x3, x4, x5, x6⟩ := hw'; go_simp; (try with_reducible rfl)
      simp only [Act.put, pzA, pzB, pzC]
      refine held_one 19 rfl (by kernel_rfl) (by rfl) (fun K hK => ?_)
      go_simp
      go_at_call 174
      refine (HA.out _).mono ?_
      rintro e v2 ⟨rfl, hbv2⟩
      have hBv2 : Below W2.heap.size W2 v2 := below_step hBv1 hbv2
      have hSv2 : (fun w' : World => w'.cell? ⟨w.heap.size, 2, none⟩ = some (.int .u64 (m : Nat)) ∧ w'.cell? ⟨w.heap.size, 3, none⟩ = some (.int .i64 c) ∧ w'.cell? ⟨tk, k * 4 + 2, none⟩ = some (.int .u64 (t.m : Nat)) ∧ w'.cell? ⟨tk, k * 4 + 3, none⟩ = some (.int .i64 (t.c : Nat)) ∧ w'.cell? ⟨al, k * 4 + 2, none⟩ = some (.int .u64 (f.m : Nat)) ∧ w'.cell? ⟨al, k * 4 + 3, none⟩ = some (.int .i64 (f.c : Nat)) ∧ w'.cell? ⟨q, 0, none⟩ = some (.slice (some ⟨al, 0, none⟩) n ca)) v2 := ⟨(hBv2.cell (p := ⟨w.heap.size, 2, none⟩) (show w.heap.size < _ by omega)).trans s2, (hBv2.cell (p := ⟨w.heap.size, 3, none⟩) (show w.heap.size < _ by omega)).trans s3, (hBv2.cell (p := ⟨tk, k * 4 + 2, none⟩) (show tk < _ by omega)).trans b2, (hBv2.cell (p := ⟨tk, k * 4 + 3, none⟩) (show tk < _ by omega)).trans b3, (hBv2.cell (p := ⟨al, k * 4 + 2, none⟩) (show al < _ by omega)).trans a2, (hBv2.cell (p := ⟨al, k * 4 + 3, none⟩) (show al < _ by omega)).trans a3, (hBv2.cell (p := ⟨q, 0, none⟩) (show q < _ by omega)).trans h90⟩
      refine hK.out _ _ hSv2 ?_
      clear hK K
      refine held_takeK (v := ?_) 20 103 rfl rfl ⟨by rfl, ?_⟩ hSv2 ?_
      rotate_left
      ·intro w' hw'; obtain ⟨x0, x1, x2, x3, x4, x5, x6⟩ := hw'; go_simp; (try with_reducible rfl)
      simp only [Act.put, pzA, pzB, pzC]
      refine held_takeK (v := ?_) 21 104 rfl rfl ⟨by rfl, ?_⟩ hSv2 ?_
      rotate_left
      ·intro w' hw'; obtain ⟨x0, x1, x2, x3, x4, x5, x6⟩ := hw'; go_simp; (try with_reducible rfl)
      simp only [Act.put, pzA, pzB, pzC]
      refine held_takeK (v := ?_) 22 105 rfl rfl ⟨by rfl, ?_⟩ hSv2 ?_
      rotate_left
      ·intro w' hw'; obtain ⟨x0, x1, x2, x3, x4, x5, x6⟩ := hw'; go_simp; (try with_reducible rfl)
      simp only [Act.put, pzA, pzB, pzC]
      refine held_takeK (v := ?_) 23 106 rfl rfl ⟨by rfl, ?_⟩ hSv2 ?_
      rotate_left
      ·intro w' hw'; obtain ⟨x0, x1, x2, x3, x4, x5, x6⟩ := hw'; go_simp; (try with_reducible rfl)
      simp only [Act.put, pzA, pzB, pzC]
      refine held_takeK (v := ?_) 24 107 rfl rfl ⟨by rfl, ?_⟩ hSv2 ?_
      rotate_left
      ·intro w' hw'; obtain ⟨x0, x1, x2, x3, x4, x5, x6⟩ := hw'; go_simp; (try with_reducible rfl)
      simp only [Act.put, pzA, pzB, pzC]
      refine held_takeK (v := ?_) 25 108 rfl rfl ⟨by rfl, ?_⟩ hSv2 ?_
      rotate_left
      ·intro w' hw'; obtain ⟨x0, x1, x2, x3, x4, x5, x6⟩ := hw'; go_simp; (try with_reducible rfl)
      simp only [Act.put, pzA, pzB, pzC]
      refine held_takeK (v := ?_) 26 109 rfl rfl ⟨by rfl, ?_⟩ hSv2 ?_
      rotate_left
      ·intro w' hw'; obtain ⟨x0, x1, x2, x3, x4, x5, x6⟩ := hw'; go_simp; (try with_reducible rfl)
      simp only [Act.put, pzA, pzB, pzC]
      refine held_takeK (v := ?_) 27 110 rfl rfl ⟨by rfl, ?_⟩ hSv2 ?_
      rotate_left
      ·intro w' hw'; obtain ⟨x0, x1, x2, x3, x4, x5, x6⟩ := hw'; go_simp; (try with_reducible rfl)
      simp only [Act.put, pzA, pzB, pzC]
      refine held_takeK (v := ?_) 28 111 rfl rfl ⟨by rfl, ?_⟩ hSv2 ?_
      rotate_left
      ·intro w' hw'; obtain ⟨x0, x1, x2, x3, x4, x5, x6⟩ := hw'; go_simp; (try with_reducible rfl)
      simp only [Act.put, pzA, pzB, pzC]
      refine held_takeK (v := ?_) 29 112 rfl rfl ⟨by rfl, ?_⟩ hSv2 ?_
      rotate_left
      ·intro w' hw'; obtain ⟨x0, x1, x2, x3, x4, x5, x6⟩ := hw'; go_simp; (try with_reducible rfl)
      simp only [Act.put, pzA, pzB, pzC]
      refine held_takeK (v := ?_) 30 113 rfl rfl ⟨by rfl, ?_⟩ hSv2 ?_
      rotate_left
      ·intro w' hw'; obtain ⟨x0, x1, x2, x3, x4, x5, x6⟩ := hw'; go_simp; (try with_reducible rfl)
      simp only [Act.put, pzA, pzB, pzC]
      refine held_takeK (v := ?_) 31 114 rfl rfl ⟨by rfl, ?_⟩ hSv2 ?_
      rotate_left
      ·intro w' hw'; obtain ⟨x0, x1, x2, x3, x4, x5, x6⟩ := hw'; go_simp; (try with_reducible rfl)
      simp only [Act.put, pzA, pzB, pzC]
      refine held_takeK (v := ?_) 32 115 rfl rfl ⟨by rfl, ?_⟩ hSv2 ?_
      rotate_left
      ·intro w' hw'; obtain ⟨x0, x1, x2, x3, x4, x5, x6⟩ := hw'; go_simp; (try with_reducible rfl)
      simp only [Act.put, pzA, pzB, pzC]
      refine held_takeK (v := ?_) 33 116 rfl rfl ⟨by rfl, ?_⟩ hSv2 ?_
      rotate_left
      ·intro w' hw'; obtain ⟨x0, x1, x2, x3, x4, x5, x6⟩ := hw'; go_simp; (try with_reducible rfl)
      simp only [Act.put, pzA, pzB, pzC]
      refine held_takeK (v := ?_) 34 117 rfl rfl ⟨by rfl, ?_⟩ hSv2 ?_
      rotate_left
      ·intro w' hw'; obtain ⟨x0, x1, x2, x3, x4, x5, x6⟩ := hw'; go_simp; (try with_reducible rfl)
      simp only [Act.put, pzA, pzB, pzC]
      refine held_takeK (v := ?_) 35 118 rfl rfl ⟨by rfl, ?_⟩ hSv2 ?_
      rotate_left
      ·intro w' hw'; obtain ⟨x0, x1, x2, x3, x4, x5, x6⟩ := hw'; go_simp; (try with_reducible rfl)
      simp only [Act.put, pzA, pzB, pzC]
      refine held_takeK (v := ?_) 36 119 rfl rfl ⟨by rfl, ?_⟩ hSv2 ?_
      rotate_left
      ·intro w' hw'; obtain ⟨x0, x1, x2, x3, x4, x5, x6⟩ := hw'; go_simp; (try with_reducible rfl)
      simp only [Act.put, pzA, pzB, pzC]
      refine held_takeK (v := ?_) 37 120 rfl rfl ⟨by rfl, ?_⟩ hSv2 ?_
      rotate_left
      ·intro w' hw'; obtain ⟨x0, x1, x2, x3, x4, x5, x6⟩ := hw'; go_simp; (try with_reducible rfl)
      simp only [Act.put, pzA, pzB, pzC]
      refine held_takeK (v := ?_) 38 121 rfl rfl ⟨by rfl, ?_⟩ hSv2 ?_
      rotate_left
      ·intro w' hw'; obtain ⟨x0, x1, x2, x3, x4, x5, x6⟩ := hw'; go_simp; (try with_reducible rfl)
      simp only [Act.put, pzA, pzB, pzC]
      refine held_takeK (v := ?_) 39 122 rfl rfl ⟨by rfl, ?_⟩ hSv2 ?_
      rotate_left
      ·intro w' hw'; obtain ⟨x0, x1, x2, x3, x4, x5, x6⟩ := hw'; go_simp; (try with_reducible rfl)
      simp only [Act.put, pzA, pzB, pzC]
      refine wpAnyH_done (by kernel_rfl) ?_ _
      go_wp2
      have HBx := Lib.hid (HBW.out.trans (hBv2.mono hl2))
      clear HBW
      have HBW := HBx
      have hl3 := HBW.out.size
      clear h90 h91 h92 s2 s3 s0 a2 a3 b2 b3 z2 z3 yd hS0 hSv1 hSv2 hBv1 hBv2 hbv1 hbv2
      obtain ⟨rK, bK⟩ := HK.out v2 HBW.out
      obtain ⟨h90, h91, h92⟩ := rK.heads
      rw [← Hn.out.1] at h90 h91
      rw [← Hn.out.2] at h92
      have s2 : v2.cell? ⟨w.heap.size, 2, none⟩ = some (.int .u64 (m : Nat)) := cell_blk (i := 2) bK rfl
      have s3 : v2.cell? ⟨w.heap.size, 3, none⟩ = some (.int .i64 c) := cell_blk (i := 3) bK rfl
      have s0 : v2.cell? ⟨w.heap.size, 0, none⟩ = some (.int .i64 (f.n : Nat)) := cell_blk (i := 0) bK rfl
      obtain ⟨a2, a3, b2, b3, z2, z3⟩ := rK.cells HI.out.1 HI.out.2.1
      have yd := (rK.bit HI.out.2.2.2.2.2.2).1
      clear rK bK

      go_still_tail 10, (by kernel_rfl)
      change wpList _ _ _ _ _ v2.drew
      go_wp2
      obtain ⟨W5, hW5⟩ : ∃ W5, W5 = (v2.setCell ⟨tk, k * 4 + 2, none⟩ (.int .u64 ((t.m : Int) + (m : Int)))).drew := ⟨_, rfl⟩
      have q3 : W5.cell? ⟨tk, k * 4 + 3, none⟩ = some (.int .i64 (t.c : Nat)) := by rw [hW5]; go_simp
      have r3 : W5.frozen? ⟨tk, k * 4 + 3, none⟩ = false := by rw [hW5]; go_simp
      have p3 : W5.cell? ⟨w.heap.size, 3, none⟩ = some (.int .i64 c) := by rw [hW5]; go_simp
      rw [← hW5]
      have HW5 := Lib.hid hW5
      clear hW5
      clear h90 h91 h92 s2 s3 s0 a2 a3 b2 b3 z2 z3 yd
      go_still_tail 10, (by kernel_rfl)
      change wpList _ _ _ _ _ W5.drew
      go_wp2
      go_ret
      have hBW := HB9.out.trans (HBW.out.mono HB9.out.size)
      have hft : Foot (· = tk) w (W5.setCell ⟨tk, k * 4 + 3, none⟩ (.int .i64 ((t.c : Int) + c))).drew := by
       rw [HW5.out]
       refine (Foot.setCell (p := ⟨tk, _, none⟩) (Foot.setCell (p := ⟨tk, _, none⟩) (Foot.of_below hBW) (.inl ?_) _).drew (.inl ?_) _).drew <;> rfl
      exact ⟨rfl, HP.out.wrote (PM.up t ⟨(f.n : Int), y, m, c⟩) _ _ HI.out.2.1 ⟨rfl, rfl⟩ hBW Hi.out hft (by rw [HW5.out]; rfl) HmV.out (by simp only [PM.up]; omega), hft⟩
    ·rw [decide_eq_false hap] at ha
     have HW := Lib.hid hw
     have HA := Lib.hid ha
     rw [if_pos (.inr (.inl hap))] at eR
     subst eR
     clear hw ha hm hap
     refine held_begin (fun w' : World => w'.cell? ⟨w.heap.size, 2, none⟩ = some (.int .u64 (m : Nat)) ∧ w'.cell? ⟨w.heap.size, 3, none⟩ = some (.int .i64 c) ∧ w'.cell? ⟨tk, k * 4 + 2, none⟩ = some (.int .u64 (t.m : Nat)) ∧ w'.cell? ⟨tk, k * 4 + 3, none⟩ = some (.int .i64 (t.c : Nat)) ∧ w'.cell? ⟨al, k * 4 + 2, none⟩ = some (.int .u64 (f.m : Nat)) ∧ w'.cell? ⟨al, k * 4 + 3, none⟩ = some (.int .i64 (f.c : Nat)) ∧ w'.cell? ⟨q, 0, none⟩ = some (.slice (some ⟨al, 0, none⟩) n ca)) (by kernel_rfl) ?_
     have hS0 : (fun w' : World => w'.cell? ⟨w.heap.size, 2, none⟩ = some (.int .u64 (m : Nat)) ∧ w'.cell? ⟨w.heap.size, 3, none⟩ = some (.int .i64 c) ∧ w'.cell? ⟨tk, k * 4 + 2, none⟩ = some (.int .u64 (t.m : Nat)) ∧ w'.cell? ⟨tk, k * 4 + 3, none⟩ = some (.int .i64 (t.c : Nat)) ∧ w'.cell? ⟨al, k * 4 + 2, none⟩ = some (.int .u64 (f.m : Nat)) ∧ w'.cell? ⟨al, k * 4 + 3, none⟩ = some (.int .i64 (f.c : Nat)) ∧ w'.cell? ⟨q, 0, none⟩ = some (.slice (some ⟨al, 0, none⟩) n ca)) W2.drew := ⟨s2, s3, b2, b3, a2, a3, h90⟩
     refine held_takeK (v := ?_) 0 83 rfl rfl ⟨by rfl, ?_⟩ hS0 ?_
     rotate_left
     ·intro w' hw'; obtain ⟨x0, x1, x2, x3, x4, x5, x6⟩ := hw'; go_simp; (try with_reducible rfl)
     simp only [Act.put, pzA, pzB, pzC]
     refine held_takeK (v := ?_) 1 84 rfl rfl ⟨by rfl, ?_⟩ hS0 ?_
     rotate_left
     ·intro w' hw'; obtain ⟨x0, x1, x2, x3, x4, x5, x6⟩ := hw'; go_simp; (try with_reducible rfl)
     simp only [Act.put, pzA, pzB, pzC]
     refine held_takeK (v := ?_) 2 85 rfl rfl ⟨by rfl, ?_⟩ hS0 ?_
     rotate_left
     ·intro w' hw'; obtain ⟨x0, x1, x2, x3, x4, x5, x6⟩ := hw'; go_simp; (try with_reducible rfl)
     simp only [Act.put, pzA, pzB, pzC]
     refine held_takeK (v := ?_) 3 86 rfl rfl ⟨by rfl, ?_⟩ hS0 ?_
     rotate_left
     ·intro w' hw'; obtain ⟨x0, x1, x2, x3, x4, x5, x6⟩ := hw'; go_simp; (try with_reducible rfl)
     simp only [Act.put, pzA, pzB, pzC]
     refine held_takeK (v := ?_) 4 87 rfl rfl ⟨by rfl, ?_⟩ hS0 ?_
     rotate_left
     ·intro w' hw'; obtain ⟨x0, x1, x2, x3, x4, x5, x6⟩ := hw'; go_simp; (try with_reducible rfl)
     simp only [Act.put, pzA, pzB, pzC]
     refine held_takeK (v := ?_) 5 88 rfl rfl ⟨by rfl, ?_⟩ hS0 ?_
     rotate_left
     ·intro w' hw'; obtain ⟨x0, x1, x2, x3, x4, x5, x6⟩ := hw'; go_simp; (try with_reducible rfl)
     simp only [Act.put, pzA, pzB, pzC]
     refine held_takeK (v := ?_) 6 89 rfl rfl ⟨by rfl, ?_⟩ hS0 ?_
     rotate_left
     ·intro w' hw'; obtain ⟨x0, x1, x2, x3, x4, x5, x6⟩ := hw'; go_simp; (try with_reducible rfl)
     simp only [Act.put, pzA, pzB, pzC]
     refine held_takeK (v := ?_) 7 90 rfl rfl ⟨by rfl, ?_⟩ hS0 ?_
     rotate_left
     ·intro w' hw'; obtain ⟨x0, x1, x2, x3, x4, x5, x6⟩ := hw'; go_simp; (try with_reducible rfl)
     simp only [Act.put, pzA, pzB, pzC]
     refine held_takeK (v := ?_) 8 91 rfl rfl ⟨by rfl, ?_⟩ hS0 ?_
     rotate_left
     ·intro w' hw'; obtain ⟨x0, x1, x2, x3, x4, x5, x6⟩ := hw'; go_simp; (try with_reducible rfl)
     simp only [Act.put, pzA, pzB, pzC]
     refine held_takeK (v := ?_) 9 92 rfl rfl ⟨by rfl, ?_⟩ hS0 ?_
     rotate_left
     ·intro w' hw'; obtain ⟨x0, x1, x2, x3, x4, x5, x6⟩ := hw'; go_simp; (try with_reducible rfl)
     simp only [Act.put, pzA, pzB, pzC]
     refine held_one 10 rfl (by kernel_rfl) (by rfl) (fun K hK => ?_)
     go_simp
     go_at_call 173
     refine (HW.out _).mono ?_
     rintro e v1 ⟨rfl, hbv1⟩
     have hBv1 : Below W2.heap.size W2 v1 := below_step (Below.refl W2.heap.size W2).drew hbv1
     have hSv1 : (fun w' : World => w'.cell? ⟨w.heap.size, 2, none⟩ = some (.int .u64 (m : Nat)) ∧ w'.cell? ⟨w.heap.size, 3, none⟩ = some (.int .i64 c) ∧ w'.cell? ⟨tk, k * 4 + 2, none⟩ = some (.int .u64 (t.m : Nat)) ∧ w'.cell? ⟨tk, k * 4 + 3, none⟩ = some (.int .i64 (t.c : Nat)) ∧ w'.cell? ⟨al, k * 4 + 2, none⟩ = some (.int .u64 (f.m : Nat)) ∧ w'.cell? ⟨al, k * 4 + 3, none⟩ = some (.int .i64 (f.c : Nat)) ∧ w'.cell? ⟨q, 0, none⟩ = some (.slice (some ⟨al, 0, none⟩) n ca)) v1 := ⟨(hBv1.cell (p := ⟨w.heap.size, 2, none⟩) (show w.heap.size < _ by omega)).trans s2, (hBv1.cell (p := ⟨w.heap.size, 3, none⟩) (show w.heap.size < _ by omega)).trans s3, (hBv1.cell (p := ⟨tk, k * 4 + 2, none⟩) (show tk < _ by omega)).trans b2, (hBv1.cell (p := ⟨tk, k * 4 + 3, none⟩) (show tk < _ by omega)).trans b3, (hBv1.cell (p := ⟨al, k * 4 + 2, none⟩) (show al < _ by omega)).trans a2, (hBv1.cell (p := ⟨al, k * 4 + 3, none⟩) (show al < _ by omega)).trans a3, (hBv1.cell (p := ⟨q, 0, none⟩) (show q < _ by omega)).trans h90⟩
     refine hK.out _ _ hSv1 ?_
     clear hK K
     refine held_takeK (v := ?_) 11 94 rfl rfl ⟨by rfl, ?_⟩ hSv1 ?_
     rotate_left
     ·intro w' hw'; obtain ⟨x0, x1, x2, x3, x4, x5, x6⟩ := hw'; go_simp; (try with_reducible rfl)
     simp only [Act.put, pzA, pzB, pzC]
     refine held_takeK (v := ?_) 12 95 rfl rfl ⟨by rfl, ?_⟩ hSv1 ?_
     rotate_left
     ·intro w' hw'; obtain ⟨x0, x1, x2, x3, x4, x5, x6⟩ := hw'; go_simp; (try with_reducible rfl)
     simp only [Act.put, pzA, pzB, pzC]
     refine held_takeK (v := ?_) 13 96 rfl rfl ⟨by rfl, ?_⟩ hSv1 ?_
     rotate_left
     ·intro w' hw'; obtain ⟨x0, x1, x2, x3, x4, x5, x6⟩ := hw'; go_simp; (try with_reducible rfl)
     simp only [Act.put, pzA, pzB, pzC]
     refine held_takeK (v := ?_) 14 97 rfl rfl ⟨by rfl, ?_⟩ hSv1 ?_
     rotate_left
     ·intro w' hw'; obtain ⟨x0, x1, x2, x3, x4, x5, x6⟩ := hw'; go_simp; (try with_reducible rfl)
     simp only [Act.put, pzA, pzB, pzC]
     refine held_takeK (v := ?_) 15 98 rfl rfl ⟨by rfl, ?_⟩ hSv1 ?_
     rotate_left
     ·intro w' hw'; obtain ⟨x0, x1, x2, x3, x4, x5, x6⟩ := hw'; go_simp; (try with_reducible rfl)
     simp only [Act.put, pzA, pzB, pzC]
     refine held_takeK (v := ?_) 16 99 rfl rfl ⟨by rfl, ?_⟩ hSv1 ?_
     rotate_left
     ·intro w' hw'; obtain ⟨x0, x1, x2, x3, x4, x5, x6⟩ := hw'; go_simp; (try with_reducible rfl)
     simp only [Act.put, pzA, pzB, pzC]
     refine held_takeK (v := ?_) 17 100 rfl rfl ⟨by rfl, ?_⟩ hSv1 ?_
     rotate_left
     ·intro w' hw'; obtain ⟨x0, x1, x2, x3, x4, x5, x6⟩ := hw'; go_simp; (try with_reducible rfl)
     simp only [Act.put, pzA, pzB, pzC]
     refine held_takeK (v := ?_) 18 101 rfl rfl ⟨by rfl, ?_⟩ hSv1 ?_
     rotate_left
     ·intro w' hw'; obtain ⟨x0, x1, x2, x3, x4, x5, x6⟩ := hw'; go_simp; (try with_reducible rfl)
     simp only [Act.put, pzA, pzB, pzC]
     refine held_one 19 rfl (by kernel_rfl) (by rfl) (fun K hK => ?_)
     go_simp
     go_at_call 174
     refine (HA.out _).mono ?_
     rintro e v2 ⟨rfl, hbv2⟩
     have hBv2 : Below W2.heap.size W2 v2 := below_step hBv1 hbv2
     have hSv2 : (fun w' : World => w'.cell? ⟨w.heap.size, 2, none⟩ = some (.int .u64 (m : Nat)) ∧ w'.cell? ⟨w.heap.size, 3, none⟩ = some (.int .i64 c) ∧ w'.cell? ⟨tk, k * 4 + 2, none⟩ = some (.int .u64 (t.m : Nat)) ∧ w'.cell? ⟨tk, k * 4 + 3, none⟩ = some (.int .i64 (t.c : Nat)) ∧ w'.cell? ⟨al, k * 4 + 2, none⟩ = some (.int .u64 (f.m : Nat)) ∧ w'.cell? ⟨al, k * 4 + 3, none⟩ = some (.int .i64 (f.c : Nat)) ∧ w'.cell? ⟨q, 0, none⟩ = some (.slice (some ⟨al, 0, none⟩) n ca)) v2 := ⟨(hBv2.cell (p := ⟨w.heap.size, 2, none⟩) (show w.heap.size < _ by omega)).trans s2, (hBv2.cell (p := ⟨w.heap.size, 3, none⟩) (show w.heap.size < _ by omega)).trans s3, (hBv2.cell (p := ⟨tk, k * 4 + 2, none⟩) (show tk < _ by omega)).trans b2, (hBv2.cell (p := ⟨tk, k * 4 + 3, none⟩) (show tk < _ by omega)).trans b3, (hBv2.cell (p := ⟨al, k * 4 + 2, none⟩) (show al < _ by omega)).trans a2, (hBv2.cell (p := ⟨al, k * 4 + 3, none⟩) (show al < _ by omega)).trans a3, (hBv2.cell (p := ⟨q, 0, none⟩) (show q < _ by omega)).trans h90⟩
     refine hK.out _ _ hSv2 ?_
     clear hK K
     refine held_takeK (v := ?_) 20 103 rfl rfl ⟨by rfl, ?_⟩ hSv2 ?_
     rotate_left
     ·intro w' hw'; obtain ⟨x0, x1, x2, x3, x4, x5, x6⟩ := hw'; go_simp; (try with_reducible rfl)
     simp only [Act.put, pzA, pzB, pzC]
     refine held_takeK (v := ?_) 21 104 rfl rfl ⟨by rfl, ?_⟩ hSv2 ?_
     rotate_left
     ·intro w' hw'; obtain ⟨x0, x1, x2, x3, x4, x5, x6⟩ := hw'; go_simp; (try with_reducible rfl)
     simp only [Act.put, pzA, pzB, pzC]
     refine held_takeK (v := ?_) 22 105 rfl rfl ⟨by rfl, ?_⟩ hSv2 ?_
     rotate_left
     ·intro w' hw'; obtain ⟨x0, x1, x2, x3, x4, x5, x6⟩ := hw'; go_simp; (try with_reducible rfl)
     simp only [Act.put, pzA, pzB, pzC]
     refine held_skipK 23 106 rfl rfl (by rfl) hSv2 ?_
     simp only [Act.put, pzA, pzB, pzC]
     refine held_skipK 24 107 rfl rfl (by rfl) hSv2 ?_
     simp only [Act.put, pzA, pzB, pzC]
     refine held_skipK 25 108 rfl rfl (by rfl) hSv2 ?_
     simp only [Act.put, pzA, pzB, pzC]
     refine held_skipK 26 109 rfl rfl (by rfl) hSv2 ?_
     simp only [Act.put, pzA, pzB, pzC]
     refine held_skipK 27 110 rfl rfl (by rfl) hSv2 ?_
     simp only [Act.put, pzA, pzB, pzC]
     refine held_skipK 28 111 rfl rfl (by rfl) hSv2 ?_
     simp only [Act.put, pzA, pzB, pzC]
     refine held_skipK 29 112 rfl rfl (by rfl) hSv2 ?_
     simp only [Act.put, pzA, pzB, pzC]
     refine held_skipK 30 113 rfl rfl (by rfl) hSv2 ?_
     simp only [Act.put, pzA, pzB, pzC]
     refine held_skipK 31 114 rfl rfl (by rfl) hSv2 ?_
     simp only [Act.put, pzA, pzB, pzC]
     refine held_skipK 32 115 rfl rfl (by rfl) hSv2 ?_
     simp only [Act.put, pzA, pzB, pzC]
     refine held_skipK 33 116 rfl rfl (by rfl) hSv2 ?_
     simp only [Act.put, pzA, pzB, pzC]
     refine held_skipK 34 117 rfl rfl (by rfl) hSv2 ?_
     simp only [Act.put, pzA, pzB, pzC]
     refine held_skipK 35 118 rfl rfl (by rfl) hSv2 ?_
     simp only [Act.put, pzA, pzB, pzC]
     refine held_skipK 36 119 rfl rfl (by rfl) hSv2 ?_
     simp only [Act.put, pzA, pzB, pzC]
     refine held_skipK 37 120 rfl rfl (by rfl) hSv2 ?_
     simp only [Act.put, pzA, pzB, pzC]
     refine held_skipK 38 121 rfl rfl (by rfl) hSv2 ?_
     simp only [Act.put, pzA, pzB, pzC]
     refine held_takeK (v := ?_) 39 122 rfl rfl ⟨by rfl, ?_⟩ hSv2 ?_
     rotate_left
     ·intro w' hw'; obtain ⟨x0, x1, x2, x3, x4, x5, x6⟩ := hw'; go_simp; (try with_reducible rfl)
     simp only [Act.put, pzA, pzB, pzC]
     refine wpAnyH_done (by kernel_rfl) ?_ _
     go_wp2
     go_ret
     exact ⟨rfl, HP.out.keep (HBW2.out.trans (hBv2.mono HBW2.out.size)), Foot.of_below (HBW2.out.trans (hBv2.mono HBW2.out.size))⟩
   ·rw [decide_eq_false hm] at hw
    have HW := Lib.hid hw
    rw [if_pos (.inl hm)] at eR
    subst eR
    clear hw ha hm
    refine held_begin (fun w' : World => w'.cell? ⟨w.heap.size, 2, none⟩ = some (.int .u64 (m : Nat)) ∧ w'.cell? ⟨w.heap.size, 3, none⟩ = some (.int .i64 c) ∧ w'.cell? ⟨tk, k * 4 + 2, none⟩ = some (.int .u64 (t.m : Nat)) ∧ w'.cell? ⟨tk, k * 4 + 3, none⟩ = some (.int .i64 (t.c : Nat)) ∧ w'.cell? ⟨al, k * 4 + 2, none⟩ = some (.int .u64 (f.m : Nat)) ∧ w'.cell? ⟨al, k * 4 + 3, none⟩ = some (.int .i64 (f.c : Nat)) ∧ w'.cell? ⟨q, 0, none⟩ = some (.slice (some ⟨al, 0, none⟩) n ca)) (by kernel_rfl) ?_
    have hS0 : (fun w' : World => w'.cell? ⟨w.heap.size, 2, none⟩ = some (.int .u64 (m : Nat)) ∧ w'.cell? ⟨w.heap.size, 3, none⟩ = some (.int .i64 c) ∧ w'.cell? ⟨tk, k * 4 + 2, none⟩ = some (.int .u64 (t.m : Nat)) ∧ w'.cell? ⟨tk, k * 4 + 3, none⟩ = some (.int .i64 (t.c : Nat)) ∧ w'.cell? ⟨al, k * 4 + 2, none⟩ = some (.int .u64 (f.m : Nat)) ∧ w'.cell? ⟨al, k * 4 + 3, none⟩ = some (.int .i64 (f.c : Nat)) ∧ w'.cell? ⟨q, 0, none⟩ = some (.slice (some ⟨al, 0, none⟩) n ca)) W2.drew := ⟨s2, s3, b2, b3, a2, a3, h90⟩
    refine held_takeK (v := ?_) 0 83 rfl rfl ⟨by rfl, ?_⟩ hS0 ?_
    rotate_left
    ·intro w' hw'; obtain ⟨x0, x1, x2, x3, x4, x5, x6⟩ := hw'; go_simp; (try with_reducible rfl)
    simp only [Act.put, pzA, pzB, pzC]
    refine held_takeK (v := ?_) 1 84 rfl rfl ⟨by rfl, ?_⟩ hS0 ?_
    rotate_left
    ·intro w' hw'; obtain ⟨x0, x1, x2, x3, x4, x5, x6⟩ := hw'; go_simp; (try with_reducible rfl)
    simp only [Act.put, pzA, pzB, pzC]
    refine held_takeK (v := ?_) 2 85 rfl rfl ⟨by rfl, ?_⟩ hS0 ?_
    rotate_left
    ·intro w' hw'; obtain ⟨x0, x1, x2, x3, x4, x5, x6⟩ := hw'; go_simp; (try with_reducible rfl)
    simp only [Act.put, pzA, pzB, pzC]
    refine held_takeK (v := ?_) 3 86 rfl rfl ⟨by rfl, ?_⟩ hS0 ?_
    rotate_left
    ·intro w' hw'; obtain ⟨x0, x1, x2, x3, x4, x5, x6⟩ := hw'; go_simp; (try with_reducible rfl)
    simp only [Act.put, pzA, pzB, pzC]
    refine held_takeK (v := ?_) 4 87 rfl rfl ⟨by rfl, ?_⟩ hS0 ?_
    rotate_left
    ·intro w' hw'; obtain ⟨x0, x1, x2, x3, x4, x5, x6⟩ := hw'; go_simp; (try with_reducible rfl)
    simp only [Act.put, pzA, pzB, pzC]
    refine held_takeK (v := ?_) 5 88 rfl rfl ⟨by rfl, ?_⟩ hS0 ?_
    rotate_left
    ·intro w' hw'; obtain ⟨x0, x1, x2, x3, x4, x5, x6⟩ := hw'; go_simp; (try with_reducible rfl)
    simp only [Act.put, pzA, pzB, pzC]
    refine held_takeK (v := ?_) 6 89 rfl rfl ⟨by rfl, ?_⟩ hS0 ?_
    rotate_left
    ·intro w' hw'; obtain ⟨x0, x1, x2, x3, x4, x5, x6⟩ := hw'; go_simp; (try with_reducible rfl)
    simp only [Act.put, pzA, pzB, pzC]
    refine held_takeK (v := ?_) 7 90 rfl rfl ⟨by rfl, ?_⟩ hS0 ?_
    rotate_left
    ·intro w' hw'; obtain ⟨x0, x1, x2, x3, x4, x5, x6⟩ := hw'; go_simp; (try with_reducible rfl)
    simp only [Act.put, pzA, pzB, pzC]
    refine held_takeK (v := ?_) 8 91 rfl rfl ⟨by rfl, ?_⟩ hS0 ?_
    rotate_left
    ·intro w' hw'; obtain ⟨x0, x1, x2, x3, x4, x5, x6⟩ := hw'; go_simp; (try with_reducible rfl)
    simp only [Act.put, pzA, pzB, pzC]
    refine held_takeK (v := ?_) 9 92 rfl rfl ⟨by rfl, ?_⟩ hS0 ?_
    rotate_left
    ·intro w' hw'; obtain ⟨x0, x1, x2, x3, x4, x5, x6⟩ := hw'; go_simp; (try with_reducible rfl)
    simp only [Act.put, pzA, pzB, pzC]
    refine held_one 10 rfl (by kernel_rfl) (by rfl) (fun K hK => ?_)
    go_simp
    go_at_call 173
    refine (HW.out _).mono ?_
    rintro e v1 ⟨rfl, hbv1⟩
    have hBv1 : Below W2.heap.size W2 v1 := below_step (Below.refl W2.heap.size W2).drew hbv1
    have hSv1 : (fun w' : World => w'.cell? ⟨w.heap.size, 2, none⟩ = some (.int .u64 (m : Nat)) ∧ w'.cell? ⟨w.heap.size, 3, none⟩ = some (.int .i64 c) ∧ w'.cell? ⟨tk, k * 4 + 2, none⟩ = some (.int .u64 (t.m : Nat)) ∧ w'.cell? ⟨tk, k * 4 + 3, none⟩ = some (.int .i64 (t.c : Nat)) ∧ w'.cell? ⟨al, k * 4 + 2, none⟩ = some (.int .u64 (f.m : Nat)) ∧ w'.cell? ⟨al, k * 4 + 3, none⟩ = some (.int .i64 (f.c : Nat)) ∧ w'.cell? ⟨q, 0, none⟩ = some (.slice (some ⟨al, 0, none⟩) n ca)) v1 := ⟨(hBv1.cell (p := ⟨w.heap.size, 2, none⟩) (show w.heap.size < _ by omega)).trans s2, (hBv1.cell (p := ⟨w.heap.size, 3, none⟩) (show w.heap.size < _ by omega)).trans s3, (hBv1.cell (p := ⟨tk, k * 4 + 2, none⟩) (show tk < _ by omega)).trans b2, (hBv1.cell (p := ⟨tk, k * 4 + 3, none⟩) (show tk < _ by omega)).trans b3, (hBv1.cell (p := ⟨al, k * 4 + 2, none⟩) (show al < _ by omega)).trans a2, (hBv1.cell (p := ⟨al, k * 4 + 3, none⟩) (show al < _ by omega)).trans a3, (hBv1.cell (p := ⟨q, 0, none⟩) (show q < _ by omega)).trans h90⟩
    refine hK.out _ _ hSv1 ?_
    clear hK K
    refine held_takeK (v := ?_) 11 94 rfl rfl ⟨by rfl, ?_⟩ hSv1 ?_
    rotate_left
    ·intro w' hw'; obtain ⟨x0, x1, x2, x3, x4, x5, x6⟩ := hw'; go_simp; (try with_reducible rfl)
    simp only [Act.put, pzA, pzB, pzC]
    refine held_takeK (v := ?_) 12 95 rfl rfl ⟨by rfl, ?_⟩ hSv1 ?_
    rotate_left
    ·intro w' hw'; obtain ⟨x0, x1, x2, x3, x4, x5, x6⟩ := hw'; go_simp; (try with_reducible rfl)
    simp only [Act.put, pzA, pzB, pzC]
    refine held_skipK 13 96 rfl rfl (by rfl) hSv1 ?_
    simp only [Act.put, pzA, pzB, pzC]
    refine held_skipK 14 97 rfl rfl (by rfl) hSv1 ?_
    simp only [Act.put, pzA, pzB, pzC]
    refine held_skipK 15 98 rfl rfl (by rfl) hSv1 ?_
    simp only [Act.put, pzA, pzB, pzC]
    refine held_skipK 16 99 rfl rfl (by rfl) hSv1 ?_
    simp only [Act.put, pzA, pzB, pzC]
    refine held_skipK 17 100 rfl rfl (by rfl) hSv1 ?_
    simp only [Act.put, pzA, pzB, pzC]
    refine held_skipK 18 101 rfl rfl (by rfl) hSv1 ?_
    simp only [Act.put, pzA, pzB, pzC]
    refine held_skipK 19 102 rfl rfl (by rfl) hSv1 ?_
    simp only [Act.put, pzA, pzB, pzC]
    refine held_skipK 20 103 rfl rfl (by rfl) hSv1 ?_
    simp only [Act.put, pzA, pzB, pzC]
    refine held_takeK (v := ?_) 21 104 rfl rfl ⟨by rfl, ?_⟩ hSv1 ?_
    rotate_left
    ·intro w' hw'; obtain ⟨x0, x1, x2, x3, x4, x5, x6⟩ := hw'; go_simp; (try with_reducible rfl)
    simp only [Act.put, pzA, pzB, pzC]
    refine held_takeK (v := ?_) 22 105 rfl rfl ⟨by rfl, ?_⟩ hSv1 ?_
    rotate_left
    ·intro w' hw'; obtain ⟨x0, x1, x2, x3, x4, x5, x6⟩ := hw'; go_simp; (try with_reducible rfl)
    simp only [Act.put, pzA, pzB, pzC]
    refine held_skipK 23 106 rfl rfl (by rfl) hSv1 ?_
    simp only [Act.put, pzA, pzB, pzC]
    refine held_skipK 24 107 rfl rfl (by rfl) hSv1 ?_
    simp only [Act.put, pzA, pzB, pzC]
    refine held_skipK 25 108 rfl rfl (by rfl) hSv1 ?_
    simp only [Act.put, pzA, pzB, pzC]
    refine held_skipK 26 109 rfl rfl (by rfl) hSv1 ?_
    simp only [Act.put, pzA, pzB, pzC]
    refine held_skipK 27 110 rfl rfl (by rfl) hSv1 ?_
    simp only [Act.put, pzA, pzB, pzC]
    refine held_skipK 28 111 rfl rfl (by rfl) hSv1 ?_
    simp only [Act.put, pzA, pzB, pzC]
    refine held_skipK 29 112 rfl rfl (by rfl) hSv1 ?_
    simp only [Act.put, pzA, pzB, pzC]
    refine held_skipK 30 113 rfl rfl (by rfl) hSv1 ?_
    simp only [Act.put, pzA, pzB, pzC]
    refine held_skipK 31 114 rfl rfl (by rfl) hSv1 ?_
    simp only [Act.put, pzA, pzB, pzC]
    refine held_skipK 32 115 rfl rfl (by rfl) hSv1 ?_
    simp only [Act.put, pzA, pzB, pzC]
    refine held_skipK 33 116 rfl rfl (by rfl) hSv1 ?_
    simp only [Act.put, pzA, pzB, pzC]
    refine held_skipK 34 117 rfl rfl (by rfl) hSv1 ?_
    simp only [Act.put, pzA, pzB, pzC]
    refine held_skipK 35 118 rfl rfl (by rfl) hSv1 ?_
    simp only [Act.put, pzA, pzB, pzC]
    refine held_skipK 36 119 rfl rfl (by rfl) hSv1 ?_
    simp only [Act.put, pzA, pzB, pzC]
    refine held_skipK 37 120 rfl rfl (by rfl) hSv1 ?_
    simp only [Act.put, pzA, pzB, pzC]
    refine held_skipK 38 121 rfl rfl (by rfl) hSv1 ?_
    simp only [Act.put, pzA, pzB, pzC]
    refine held_takeK (v := ?_) 39 122 rfl rfl ⟨by rfl, ?_⟩ hSv1 ?_
    rotate_left
    ·intro w' hw'; obtain ⟨x0, x1, x2, x3, x4, x5, x6⟩ := hw'; go_simp; (try with_reducible rfl)
    simp only [Act.put, pzA, pzB, pzC]
    refine wpAnyH_done (by kernel_rfl) ?_ _
    go_wp2
    go_ret
    exact ⟨rfl, HP.out.keep (HBW2.out.trans (hBv1.mono HBW2.out.size)), Foot.of_below (HBW2.out.trans (hBv1.mono HBW2.out.size))⟩
  ·have eR := HR.out
   rw [if_pos rfl] at eR
   subst eR
   go_wp2
   go_quiet (fail)
   go_wp2
   go_ret
   exact ⟨rfl, HP.out.keep (below_drewN HB9.out _), Foot.of_below (below_drewN HB9.out _)⟩
end Go.Proofs.YtgpfmlidchogcaaGreat
