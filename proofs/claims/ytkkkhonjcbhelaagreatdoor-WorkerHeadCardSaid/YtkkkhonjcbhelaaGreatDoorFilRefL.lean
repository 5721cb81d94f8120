import Derived.Test.YtkkkhonjcbhelaaGreatDoorProU
import Derived.Test.YtkkkhonjcbhelaaGreatDoorFilP
set_option maxRecDepth 100000
set_option linter.unusedVariables false
namespace Go.Proofs.YtkkkhonjcbhelaaGreatDoor
open Go.RowKit
open PR
theorem sub_in {a b : Nat} (h : MM.sub a b = 0) (i : Nat) (hi : a.testBit i = true) : b.testBit i = true := by
 have := congrArg (fun x => x.testBit i) h;simp only [MM.testBit_sub, Nat.zero_testBit, hi, Bool.true_and, Bool.not_eq_false'] at this;exact this
theorem shared_all {a b : Nat} (ha : a < 18446744073709551616) : shared a b < MM.cnt a ↔ MM.sub a b ≠ 0 := by
 have hle : shared a b ≤ MM.cnt a := List.countP_le_length;have h1 : shared a b = MM.cnt a ↔ MM.sub a b = 0 := by
  unfold shared;rw [show MM.cnt a = (MM.units a).length from rfl, List.countP_eq_length];constructor
  ·intro h;refine Nat.eq_of_testBit_eq fun i => ?_
   rw [MM.testBit_sub, Nat.zero_testBit]
   cases hi : a.testBit i
   ·rfl
   ·simp [h i (MM.units_mem.2 ⟨MM.bits_lt ha hi, hi⟩)]
  ·intro h k hk;exact sub_in h k (MM.units_mem.1 hk).2
 constructor
 ·intro h e; have := h1.2 e; omega
 ·intro h; have : shared a b ≠ MM.cnt a := fun e => h (h1.1 e); omega
theorem sub_minus {f s : Nat} (h : MM.sub s f = 0) : MM.sub f s + s = f := by
 have e0 : MM.sub f s &&& s = 0 := Nat.eq_of_testBit_eq fun i => by
  rw [Nat.testBit_and, MM.testBit_sub, Nat.zero_testBit]; cases s.testBit i <;> simp
 rw [or_plus e0];refine Nat.eq_of_testBit_eq fun i => ?_
 rw [Nat.testBit_or, MM.testBit_sub]
 cases h1 : s.testBit i
 ·simp
 ·simp [sub_in h i h1]
def LessRes (l ss : List Fe) (w' : World) (e : Ending) : Prop := ∃ A' c', Hid (Fes w' w'.heap.size A' (turnL lessC l ss).2 ∧ (turnL lessC l ss).2.length = l.length ∧ View (turnL lessC l ss).2 ∨ (turnL lessC l ss).1 ≠ 0) ∧
   e = .returned (.tuple #[if (turnL lessC l ss).1 = 0 then .slice A' l.length c' else .slice none 0 0, .int .i64 (turnL lessC l ss).1])
set_option maxHeartbeats 8000000 in
theorem refless05_any (A : Option Addr) (c : Nat) (l : List Fe) (SA : Option Addr) (sc : Nat) (ss : List Fe) (w : World) (h : Fes w w.heap.size A l) (hv : View l) (hn : l.length ≤ 1000) (hs : Fes w w.heap.size SA ss) (hso : ∀ s ∈ ss, FeOk s) (hsn : ss.length ≤ 100000) :
  Calls Tryz.prog 34 #[.slice A l.length c, .slice SA ss.length sc] w fun e w' => Below w.heap.size w w' ∧ LessRes l ss w' e := by
 obtain ⟨N, hN⟩ := nx (l.length);obtain ⟨n, hnl⟩ : ∃ n, n = ss.length := ⟨_, rfl⟩
 obtain ⟨i0, hi0, hz0, hz1, hz2⟩ := info_parts info_freeP;have H := Hq (Ai hs (Ai hso (Ai hnl (Ai hN (Ai h hv)))));rw [← hN] at hn;rw [← hnl] at hsn;rw [← hN, ← hnl];clear h hs hv hso hnl hN;go_enter Tryz.func34, Tryz.ntmps34;go_wp2_with (at_builtin; refine wpList_append_els (C := feC) (k := 4) _ rfl _ _ 22 rfl w.heap.size 63 i0 _ 32 Tryz.underlying22 hi0 hz0 hz1 hz2 rfl (by decide) (.slice (some ⟨w.heap.size, 0, none⟩) 0 0) 0 [] rfl (World.ownsRow_lit w #[] 0 (Nat.le_refl _) (by unfold maxLen; omega) rfl) w.heap.size A c N l rfl (fes_els (H.out.2.2.2.2.1.keep ((Below.refl w.heap.size w).alloc (Nat.le_refl _) (.cells #[] 63)) (Nat.le_refl _))) H.out.2.2.2.1 feC_len1 feC_one1 (by unfold maxLen; omega) (by omega) (by simp) ?_; intro A5 c5 w5 own5 g5 k5; rw [Nat.zero_add] at own5 k5 ⊢; rw [List.nil_append] at own5);have hb1 : Below w.heap.size w w5 := ((Below.refl w.heap.size w).alloc (Nat.le_refl _) _).grown g5 (by simp) (fun k e => by have := e; simp [Value.ownBlock] at this; omega);obtain ⟨gg, e5, hgB, hrow⟩ : ∃ gg, A5 = some ⟨gg, 0, none⟩ ∧ w.heap.size ≤ gg ∧ OwnF w5 gg l := by
  rcases own5.2 with ⟨e, h0⟩ | ⟨g, cap, cur, e, hgb, hg, h5, h6, h7, h8⟩
  ·injection e with e1 _ _;subst e1;rcases k5 with k5 | k5 <;> exact absurd k5 (by simp [Value.ownBlock])
  ·injection e with e1 _ _;exact ⟨g, e1, hgb, cur, hg, by rw [← H.out.2.2.2.1]; exact h8⟩
 subst e5;have HB1 := Hq hb1;have HR := Hq hrow;have hs1 : w.heap.size ≤ w5.heap.size := hb1.size;have hgl : gg < w5.heap.size := hrow.lt;have HV0 := Hq H.out.2.2.2.2.2;clear own5 g5 k5 hb1 hrow;go_wp2;go_loopw [7] (fun i wr => ∃ k : Nat, i = .int .i64 k ∧ k ≤ n ∧ Hid (Below w.heap.size w wr ∧ ∃ lk, turnL lessC l (ss.take k) = (0, lk) ∧ OwnF wr gg lk ∧ (∀ f ∈ lk, FeOk f ∧ 0 ≤ f.c ∧ f.c ≤ 1048576) ∧ spotsL lk = spotsL l)) (fun i _ => n - (intOf i).toNat)
 case atStart => exact ⟨0, rfl, by omega, Hq ⟨HB1.out, l, by rw [List.take_zero, turnL], HR.out, HV0.out.ok, rfl⟩⟩
 case round =>
  clear HB1 HR HV0 hs1 hgl;obtain ⟨k, rfl, hk, hin⟩ := hrel;obtain ⟨hB, lk, hT, hO, hok, hsp⟩ := hin.out;have hlk : lk.length = N := by have := congrArg List.length hsp; unfold spotsL at this; rw [List.length_map, List.length_map] at this; rw [this]; exact H.out.2.2.2.1.symm
  have hBs := hB.size;by_cases hlt : k < n
  ·have hgw := hO.lt;obtain ⟨s, hx⟩ := get_lt (l := ss) (k := k) (by rw [← H.out.2.2.1]; exact hlt);obtain ⟨bs, os, rfl, hbs, hcs⟩ := H.out.1.at_ hx;obtain ⟨s0, s1, s2, s3⟩ := (hcs k s hx).keep hbs hB;have hsk := H.out.2.1 s (List.mem_of_getElem? hx);obtain ⟨S, hS⟩ := nx (wr.heap.size);obtain ⟨W, hW⟩ := nx (wr.alloc (.cells #[.int .i64 s.n, .int .i64 s.d, .int .u64 (s.m : Nat), .int .i64 s.c] 64));have bS : Hid (W.heap[S]? = some (.cells #[.int .i64 s.n, .int .i64 s.d, .int .u64 (s.m : Nat), .int .i64 s.c] 64 (0, 0))) := Hq (by rw [hW, hS]; exact heap_alloc_new wr _);have hgS : gg ≠ S := (by omega);have hOW : OwnF W gg lk := hO.of_block (by rw [hW]; exact Below.heap_alloc _ _ _ hgw);have hBW : Hid (Below w.heap.size w W) := Hq (by rw [hW]; exact hB.alloc hBs _);have hWz : W.heap.size = S + 1 := by rw [hW, hS]; simp
   have HWW := Hq (Ai hW hS);have t1 : decide (k < n) = true := decide_eq_true hlt;have hnx := turnL_next hT hx;by_cases hneg : s.c < 0
   ·have t2 : decide (s.c < 0) = true := decide_eq_true hneg;have hst : stepL lessC lk s = (1, lk) := by unfold stepL; rw [if_pos hneg]
    have hfin := Hq (turnL_stop hT hx (by rw [hst]; simp));rw [hst] at hfin;clear hst hneg hT hO hok hsp hx hcs hsk hOW hW hS hnx hB hin;go_wp2;rw [← HWW.out.1]
    go_ret2
    exact ⟨hBW.out, none, 0, Hq (.inr (by rw [hfin.out]; simp)), by rw [hfin.out]; rfl⟩
   have t2 : decide (s.c < 0) = false := decide_eq_false hneg;have HFD := Hq (fun V (hV : OwnF V gg lk) => by
    have h9 := find_any (some ⟨gg, 0, none⟩) c5 V.heap.size lk s.n s.d V hV.fes (Nat.le_refl _) (by omega);rw [hlk] at h9; exact h9)
   have HO := Hq hOW
   cases hh : hitL lk s.n s.d with
   | none =>
    have hst : stepL lessC lk s = (3, lk) := by unfold stepL; rw [if_neg hneg, hh]
    have hfin := Hq (turnL_stop hT hx (by rw [hst]; simp));rw [hst] at hfin;rw [find_miss hh] at HFD;have t3 : decide ((-1 : Int) < 0) = true := (by decide);clear hst hneg hT hO hok hsp hx hcs hsk hOW hW hS hnx hB hin hh;go_wp2_with fail;rw [← HWW.out.1];refine (HFD.out W HO.out).mono ?_;rintro e wa ⟨rfl, hba⟩;have HBa := Hq (below_step hBW.out hba);clear hba;go_wp2
    go_ret2
    exact ⟨HBa.out, none, 0, Hq (.inr (by rw [hfin.out]; simp)), by rw [hfin.out]; rfl⟩
   | some kf =>
    obtain ⟨f, hf, hf1, hf2⟩ := hitL_some hh;obtain ⟨hfk, hfc0, hfc1⟩ := hok f (List.mem_of_getElem? hf);have hst : stepL lessC lk s = ((lessC f s).1, if (lessC f s).1 = 0 then lk.set kf (lessC f s).2 else lk) := by unfold stepL; rw [if_neg hneg, hh]; simp only [hf]
    have hkN : kf < N := by rw [← hlk]; exact (List.getElem?_eq_some_iff.1 hf).1
    rw [find_hit hh] at HFD;obtain ⟨sh, hsh⟩ := nx (shared s.m f.m);obtain ⟨cn, hcn⟩ := nx (MM.cnt s.m);have hshp := shared_all (b := f.m) hsk.m;have HMK := Hq (fun V => refmasks_any s.m f.m hsk.m hfk.m V);have HUN := Hq (fun V => refunits_own s.m hsk.m V);have hfi := bounds_i64 hsk.c;have hc64 : cn ≤ 64 := by rw [hcn]; exact MM.cnt_le s.m
    have hs64 : sh ≤ 64 := by rw [hsh]; unfold shared; exact Nat.le_trans List.countP_le_length (by have := MM.cnt_le s.m; exact this)
    rw [← hsh] at hshp HMK;rw [← hcn] at hshp;have HCN := Hq hcn;have t3 : decide ((kf : Int) < 0) = false := decide_eq_false (by omega);have j2 : (kf : Int) < (N : Int) := (by omega);have HST := Hq (Ai hT (Ai hx (Ai hst (Ai hf (Ai hok (Ai hsp (Ai hfk (Ai hsk (Ai hnx hlk)))))))));have lS : S < W.heap.size := (by omega);have lg : gg < W.heap.size := (by omega);have HBl := Hq hB;have hs00 : 0 ≤ s.c := (by omega);clear hst hneg hT hO hok hsp hx hcs hsk hOW hW hS hnx hB hin hh hf hf1 hf2 hfk hsh hcn;go_wp2_with fail;rw [← HWW.out.1, ← HWW.out.2];refine (HFD.out W HO.out).mono ?_;rintro e wa ⟨rfl, hba⟩;have hOa : OwnF wa gg lk := HO.out.of_block (hba.block gg lg);have bSa := (hba.block S lS).trans bS.out;have lSa : S < wa.heap.size := blk_lt bSa;have lga : gg < wa.heap.size := hOa.lt;have e2 : wa.cell? ⟨S, 2, none⟩ = some (.int .u64 (s.m : Nat)) := cell_blk (i := 2) bSa rfl;have e3 : wa.cell? ⟨S, 3, none⟩ = some (.int .i64 s.c) := cell_blk (i := 3) bSa rfl;have g2 : wa.cell? ⟨gg, kf * 4 + 2, none⟩ = some (.int .u64 (f.m : Nat)) := hOa.cell HST.out.2.2.2.1 (r := 2) (by omega) rfl;have g3 : wa.cell? ⟨gg, kf * 4 + 3, none⟩ = some (.int .i64 f.c) := hOa.cell HST.out.2.2.2.1 (r := 3) (by omega) rfl;have HA := Hq (Ai hOa (Ai bSa (below_step hBW.out hba)));clear s0 s1 s2 s3 hba hOa bSa HFD HO bS hBW t2;by_cases hz : MM.sub s.m f.m ≠ 0
    ·have hs0 : sh < cn := hshp.2 hz;have t4n : decide (sh < cn) = true := decide_eq_true hs0;have hmc : lessC f s = (5, f) := by unfold lessC; rw [if_pos (.inl hz)]
     have hfin := Hq (turnL_stop HST.out.1 HST.out.2.1 (by rw [HST.out.2.2.1, hmc]; simp));rw [HST.out.2.2.1, hmc] at hfin;clear hmc hz hs0 hshp;go_wp2_with fail;refine held_begin (fun w' : World => w'.cell? ⟨S, 2, none⟩ = some (.int .u64 (s.m : Nat)) ∧ w'.cell? ⟨gg, kf * 4 + 2, none⟩ = some (.int .u64 (f.m : Nat)) ∧ w'.cell? ⟨S, 3, none⟩ = some (.int .i64 s.c) ∧ w'.cell? ⟨gg, kf * 4 + 3, none⟩ = some (.int .i64 f.c)) (by kernel_rfl) ?_;have hBm0 : Below wa.heap.size wa wa.drew := (Below.refl _ _).drew;have hSm0 := Ai e2 (Ai g2 (Ai e3 g3));refine tkA 0 32 hSm0 ?_;refine tkA 1 33 hSm0 ?_;refine tkA 2 34 hSm0 ?_;refine tkA 3 35 hSm0 ?_;refine tkA 4 36 hSm0 ?_;refine tkA 5 37 hSm0 ?_;refine tkA 6 38 hSm0 ?_;refine tkA 8 40 hSm0 ?_;refine tkA 9 41 hSm0 ?_;refine held_one 7 rfl (by kernel_rfl) (by rfl) (fun K hK => ?_);go_simp
     go_at_call 31
     refine (HMK.out wa.drew).mono ?_;rintro e wm1 ⟨rfl, hbm1⟩;have hBm1 : Below wa.heap.size wa wm1 := below_step hBm0 hbm1;have hSm1 := Ai ((hBm1.cell (p := ⟨S, 2, none⟩) (lSa)).trans e2) (Ai ((hBm1.cell (p := ⟨gg, kf * 4 + 2, none⟩) (lga)).trans g2) (Ai ((hBm1.cell (p := ⟨S, 3, none⟩) (lSa)).trans e3) ((hBm1.cell (p := ⟨gg, kf * 4 + 3, none⟩) (lga)).trans g3)));refine hK.out _ _ hSm1 ?_;clear hK K;refine held_one 10 rfl (by kernel_rfl) (by rfl) (fun K hK => ?_);go_simp
     go_at_call 45
     refine (HUN.out wm1).mono ?_;rintro e wm2 ⟨v9, rfl, ho9, hbm2⟩;have hBm2 : Below wa.heap.size wa wm2 := below_step hBm1 hbm2;have hSm2 := Ai ((hBm2.cell (p := ⟨S, 2, none⟩) (lSa)).trans e2) (Ai ((hBm2.cell (p := ⟨gg, kf * 4 + 2, none⟩) (lga)).trans g2) (Ai ((hBm2.cell (p := ⟨S, 3, none⟩) (lSa)).trans e3) ((hBm2.cell (p := ⟨gg, kf * 4 + 3, none⟩) (lga)).trans g3)));obtain ⟨Av9, cv9, rfl, _⟩ := units_at8 ho9;rw [← HCN.out];clear ho9;refine hK.out _ _ hSm2 ?_;clear hK K;refine tkA 11 43 hSm2 ?_;refine tkA 12 44 hSm2 ?_;refine tkA 13 45 hSm2 ?_;refine skA 14 46 hSm2 ?_;refine skA 15 47 hSm2 ?_;refine skA 16 48 hSm2 ?_;refine skA 17 49 hSm2 ?_;refine skA 18 50 hSm2 ?_;refine skA 19 51 hSm2 ?_;refine skA 20 52 hSm2 ?_;refine skA 21 53 hSm2 ?_;refine tkA 22 54 hSm2 ?_;refine wpAnyH_done (by kernel_rfl) ?_ _;have HBm := Hq (HA.out.2.2.trans (hBm2.mono HA.out.2.2.size));clear hBm0 hBm1 hBm2 hSm0 hSm1 hSm2 hbm1 hbm2 e2 g2 e3 g3 HA;go_wp2
     go_ret2
     exact ⟨HBm.out, none, 0, Hq (.inr (by rw [hfin.out]; simp)), by rw [hfin.out]; rfl⟩
    ·have hs0 : ¬ sh < cn := fun h => hz (hshp.1 h)
     have t4n : decide (sh < cn) = false := decide_eq_false hs0;have hz0 : MM.sub s.m f.m = 0 := Classical.not_not.1 hz;clear hs0 hshp;by_cases hov : f.c < s.c
     ·have t5 : decide (s.c > f.c) = true := decide_eq_true hov;have t6 : decide (f.c < s.c) = true := decide_eq_true hov;have hmc : lessC f s = (5, f) := by unfold lessC; rw [if_pos (.inr hov)]
      have hfin := Hq (turnL_stop HST.out.1 HST.out.2.1 (by rw [HST.out.2.2.1, hmc]; simp));rw [HST.out.2.2.1, hmc] at hfin;clear hmc hz hz0 hov;go_wp2_with fail;refine held_begin (fun w' : World => w'.cell? ⟨S, 2, none⟩ = some (.int .u64 (s.m : Nat)) ∧ w'.cell? ⟨gg, kf * 4 + 2, none⟩ = some (.int .u64 (f.m : Nat)) ∧ w'.cell? ⟨S, 3, none⟩ = some (.int .i64 s.c) ∧ w'.cell? ⟨gg, kf * 4 + 3, none⟩ = some (.int .i64 f.c)) (by kernel_rfl) ?_;have hBm0 : Below wa.heap.size wa wa.drew := (Below.refl _ _).drew;have hSm0 := Ai e2 (Ai g2 (Ai e3 g3));refine tkA 0 32 hSm0 ?_;refine tkA 1 33 hSm0 ?_;refine tkA 2 34 hSm0 ?_;refine tkA 3 35 hSm0 ?_;refine tkA 4 36 hSm0 ?_;refine tkA 5 37 hSm0 ?_;refine tkA 6 38 hSm0 ?_;refine tkA 8 40 hSm0 ?_;refine tkA 9 41 hSm0 ?_;refine held_one 7 rfl (by kernel_rfl) (by rfl) (fun K hK => ?_);go_simp
      go_at_call 31
      refine (HMK.out wa.drew).mono ?_;rintro e wm1 ⟨rfl, hbm1⟩;have hBm1 : Below wa.heap.size wa wm1 := below_step hBm0 hbm1;have hSm1 := Ai ((hBm1.cell (p := ⟨S, 2, none⟩) (lSa)).trans e2) (Ai ((hBm1.cell (p := ⟨gg, kf * 4 + 2, none⟩) (lga)).trans g2) (Ai ((hBm1.cell (p := ⟨S, 3, none⟩) (lSa)).trans e3) ((hBm1.cell (p := ⟨gg, kf * 4 + 3, none⟩) (lga)).trans g3)));refine hK.out _ _ hSm1 ?_;clear hK K;refine held_one 10 rfl (by kernel_rfl) (by rfl) (fun K hK => ?_);go_simp
      go_at_call 45
      refine (HUN.out wm1).mono ?_;rintro e wm2 ⟨v9, rfl, ho9, hbm2⟩;have hBm2 : Below wa.heap.size wa wm2 := below_step hBm1 hbm2;have hSm2 := Ai ((hBm2.cell (p := ⟨S, 2, none⟩) (lSa)).trans e2) (Ai ((hBm2.cell (p := ⟨gg, kf * 4 + 2, none⟩) (lga)).trans g2) (Ai ((hBm2.cell (p := ⟨S, 3, none⟩) (lSa)).trans e3) ((hBm2.cell (p := ⟨gg, kf * 4 + 3, none⟩) (lga)).trans g3)));obtain ⟨Av9, cv9, rfl, _⟩ := units_at8 ho9;rw [← HCN.out];clear ho9;refine hK.out _ _ hSm2 ?_;clear hK K;refine tkA 11 43 hSm2 ?_;refine tkA 12 44 hSm2 ?_;refine tkA 13 45 hSm2 ?_;refine tkA 14 46 hSm2 ?_;refine tkA 15 47 hSm2 ?_;refine tkA 16 48 hSm2 ?_;refine tkA 17 49 hSm2 ?_;refine tkA 18 50 hSm2 ?_;refine tkA 19 51 hSm2 ?_;refine tkA 20 52 hSm2 ?_;refine tkA 21 53 hSm2 ?_;refine tkA 22 54 hSm2 ?_;refine wpAnyH_done (by kernel_rfl) ?_ _;have HBm := Hq (HA.out.2.2.trans (hBm2.mono HA.out.2.2.size));clear hBm0 hBm1 hBm2 hSm0 hSm1 hSm2 hbm1 hbm2 e2 g2 e3 g3 HA;go_wp2
      go_ret2
      exact ⟨HBm.out, none, 0, Hq (.inr (by rw [hfin.out]; simp)), by rw [hfin.out]; rfl⟩
     ·have t5 : decide (s.c > f.c) = false := decide_eq_false hov;have t6 : decide (f.c < s.c) = false := decide_eq_false hov;have hmc : lessC f s = (0, ⟨f.n, f.d, MM.sub f.m s.m, f.c - s.c⟩) := by unfold lessC; rw [if_neg (fun h => h.elim hz hov)]
      obtain ⟨x3, x4, x5, x6, x7⟩ := lessC_keep HST.out.2.2.2.2.2.2.1 hfc0 hfc1 HST.out.2.2.2.2.2.2.2.1 hs00 (by rw [hmc]);rw [hmc] at x3 x4 x5 x6 x7;have hadd := sub_minus hz0;have hadd2 : ((f.m : Int) - (s.m : Int)) = ((MM.sub f.m s.m : Nat) : Int) := (by omega);have hwm : IntKind.u64.wrap ((f.m : Int) - (s.m : Int)) = (f.m : Int) - (s.m : Int) := IntWalk.u64_in _ (by have := x5.m; simp only at this; omega);have HN := Hq (show turnL lessC l (ss.take (k + 1)) = (0, lk.set kf ⟨f.n, f.d, MM.sub f.m s.m, f.c - s.c⟩) ∧ (∀ y ∈ lk.set kf ⟨f.n, f.d, MM.sub f.m s.m, f.c - s.c⟩, FeOk y ∧ 0 ≤ y.c ∧ y.c ≤ 1048576) ∧ spotsL (lk.set kf ⟨f.n, f.d, MM.sub f.m s.m, f.c - s.c⟩) = spotsL l from by
       obtain ⟨hT, hx, hst, hf, hok, hsp, hfk, hsk, hnx, hlk⟩ := HST.out;refine ⟨by rw [hnx, hst, hmc]; rfl, fun y hy => ?_, by rw [spotsL_set (g := ⟨f.n, f.d, MM.sub f.m s.m, f.c - s.c⟩) hf rfl rfl, hsp]⟩;rcases List.mem_or_eq_of_mem_set hy with hy | hy
       ·exact hok y hy
       ·rw [hy]; exact ⟨x5, x6, x7⟩)
      have HAdd := Hq hadd2;have hcs9 : s.c ≤ 1048576 := (by omega);have hfm9 : (f.m : Int) < 18446744073709551616 := by have := HST.out.2.2.2.2.2.2.1.m; omega
      clear hmc hz hz0 hov x3 x4 x5 x6 x7 hadd hadd2;go_wp2_with fail;refine held_begin (fun w' : World => w'.cell? ⟨S, 2, none⟩ = some (.int .u64 (s.m : Nat)) ∧ w'.cell? ⟨gg, kf * 4 + 2, none⟩ = some (.int .u64 (f.m : Nat)) ∧ w'.cell? ⟨S, 3, none⟩ = some (.int .i64 s.c) ∧ w'.cell? ⟨gg, kf * 4 + 3, none⟩ = some (.int .i64 f.c)) (by kernel_rfl) ?_;have hBm0 : Below wa.heap.size wa wa.drew := (Below.refl _ _).drew;have hSm0 := Ai e2 (Ai g2 (Ai e3 g3));refine tkA 0 32 hSm0 ?_;refine tkA 1 33 hSm0 ?_;refine tkA 2 34 hSm0 ?_;refine tkA 3 35 hSm0 ?_;refine tkA 4 36 hSm0 ?_;refine tkA 5 37 hSm0 ?_;refine tkA 6 38 hSm0 ?_;refine tkA 8 40 hSm0 ?_;refine tkA 9 41 hSm0 ?_;refine held_one 7 rfl (by kernel_rfl) (by rfl) (fun K hK => ?_);go_simp
      go_at_call 31
      refine (HMK.out wa.drew).mono ?_;rintro e wm1 ⟨rfl, hbm1⟩;have hBm1 : Below wa.heap.size wa wm1 := below_step hBm0 hbm1;have hSm1 := Ai ((hBm1.cell (p := ⟨S, 2, none⟩) (lSa)).trans e2) (Ai ((hBm1.cell (p := ⟨gg, kf * 4 + 2, none⟩) (lga)).trans g2) (Ai ((hBm1.cell (p := ⟨S, 3, none⟩) (lSa)).trans e3) ((hBm1.cell (p := ⟨gg, kf * 4 + 3, none⟩) (lga)).trans g3)));refine hK.out _ _ hSm1 ?_;clear hK K;refine held_one 10 rfl (by kernel_rfl) (by rfl) (fun K hK => ?_);go_simp
      go_at_call 45
      refine (HUN.out wm1).mono ?_;rintro e wm2 ⟨v9, rfl, ho9, hbm2⟩;have hBm2 : Below wa.heap.size wa wm2 := below_step hBm1 hbm2;have hSm2 := Ai ((hBm2.cell (p := ⟨S, 2, none⟩) (lSa)).trans e2) (Ai ((hBm2.cell (p := ⟨gg, kf * 4 + 2, none⟩) (lga)).trans g2) (Ai ((hBm2.cell (p := ⟨S, 3, none⟩) (lSa)).trans e3) ((hBm2.cell (p := ⟨gg, kf * 4 + 3, none⟩) (lga)).trans g3)));obtain ⟨Av9, cv9, rfl, _⟩ := units_at8 ho9;rw [← HCN.out];clear ho9;refine hK.out _ _ hSm2 ?_;clear hK K;refine tkA 11 43 hSm2 ?_;refine tkA 12 44 hSm2 ?_;refine tkA 13 45 hSm2 ?_;refine tkA 14 46 hSm2 ?_;refine tkA 15 47 hSm2 ?_;refine tkA 16 48 hSm2 ?_;refine tkA 17 49 hSm2 ?_;refine tkA 18 50 hSm2 ?_;refine tkA 19 51 hSm2 ?_;refine tkA 20 52 hSm2 ?_;refine tkA 21 53 hSm2 ?_;refine tkA 22 54 hSm2 ?_;refine wpAnyH_done (by kernel_rfl) ?_ _;have hOc : OwnF wm2 gg lk := HA.out.1.of_block (hBm2.block gg lga);have bSc := (hBm2.block S lSa).trans HA.out.2.1;have hBC := HA.out.2.2.trans (hBm2.mono HA.out.2.2.size);have HV := Hq (Ai hOc (Ai bSc hBC));have lSV : S < wm2.heap.size := blk_lt bSc;have lgV : gg < wm2.heap.size := hOc.lt;have e22 : wm2.cell? ⟨S, 2, none⟩ = some (.int .u64 (s.m : Nat)) := cell_blk (i := 2) bSc rfl;have g22 : wm2.cell? ⟨gg, kf * 4 + 2, none⟩ = some (.int .u64 (f.m : Nat)) := hOc.cell HST.out.2.2.2.1 (r := 2) (by omega) rfl;have z2 : wm2.frozen? ⟨gg, kf * 4 + 2, none⟩ = false := hOc.frozen;clear hOc bSc hBC hBm0 hBm1 hBm2 hSm0 hSm1 hSm2 hbm1 hbm2 e2 g2 e3 g3 HA lSa lga t5 t6 t4n;go_wp2
      go_still_tail 12, (by kernel_rfl)
      change wpList _ _ _ _ _ wm2.drew
      go_wp2;obtain ⟨Y, hY⟩ := nx ((wm2.setCell ⟨gg, kf * 4 + 2, none⟩ (.int .u64 ((f.m : Int) - (s.m : Int)))).drew);rw [← hY];have blkY : ∃ cur, Y.heap[gg]? = some (.cells cur 63 (0, 0)) ∧ cur[kf * 4 + 3]? = some (.int .i64 f.c) := by
       obtain ⟨cur, h1, h2⟩ := HV.out.1;refine ⟨_, by rw [hY]; exact blk_put (i := kf * 4 + 2) _ h1, ?_⟩;rw [Array.getElem?_setIfInBounds_ne (by omega)];have hl8 := (List.getElem?_eq_some_iff.1 HST.out.2.2.2.1).1;have e8 := congrArg (fun x => x[kf * 4 + 3]?) h2;rw [List.getElem?_take, if_pos (by omega), fe_flat HST.out.2.2.2.1 (by omega : 3 < 4)] at e8;simpa [feC] using e8
      obtain ⟨curY, bY, bY3⟩ := blkY;have g3 : Y.cell? ⟨gg, kf * 4 + 3, none⟩ = some (.int .i64 f.c) := cell_blk bY bY3;have z3 : Y.frozen? ⟨gg, kf * 4 + 3, none⟩ = false := frozen_blk bY;have bSY : Y.heap[S]? = some (.cells #[.int .i64 s.n, .int .i64 s.d, .int .u64 (s.m : Nat), .int .i64 s.c] 64 (0, 0)) := by rw [hY]; exact (Below.heap_setCell _ _ _ _ (by show S ≠ gg; omega)).trans HV.out.2.1
      have f3 : Y.cell? ⟨S, 3, none⟩ = some (.int .i64 s.c) := cell_blk (i := 3) bSY rfl;have HY := Hq hY;have lSY : S < Y.heap.size := blk_lt bSY;have lgY : gg < Y.heap.size := blk_lt bY;clear hY bY bY3 bSY e22 g22 z2
      go_still_tail 12, (by kernel_rfl)
      change wpList _ _ _ _ _ Y.drew
      go_wp2
      go_roundw
      case rel =>
       refine ⟨k + 1, by go_num, by omega, Hq ⟨?_, _, HN.out.1, ?_, HN.out.2.1, HN.out.2.2⟩⟩
       ·rw [HY.out]; exact ((HV.out.2.2.setCell (p := ⟨gg, kf * 4 + 2, none⟩) hgB _).drew.drew).setCell (p := ⟨gg, kf * 4 + 3, none⟩) hgB _
       ·have h9 := HV.out.1.put (MM.sub f.m s.m) (f.c - s.c) HST.out.2.2.2.1;refine h9.of_block ?_;rw [HY.out, HAdd.out];rfl
      case measure => simp [intOf]; omega
  ·obtain rfl : k = n := by omega
   have t1 : decide (k < k) = false := (by simp);have hTT : turnL lessC l ss = (0, lk) := by have := hT; rw [List.take_of_length_le (by rw [← H.out.2.2.1]; omega)] at this; exact this
   have HR := Hq (Ai hTT (Ai hO (Ai hok (Ai hsp (Ai hB hlk)))));clear hTT hT hO hok hsp hB hlk hlt hin;go_wp2
   go_ret2
   obtain ⟨hTT, hO, hok, hsp, hBw, hlk⟩ := HR.out;refine ⟨hBw, some ⟨gg, 0, none⟩, c5, Hq (.inl ?_), by rw [hTT, ← H.out.2.2.2.1]; rfl⟩;rw [hTT];exact ⟨hO.fes, hlk.trans H.out.2.2.2.1, ⟨hok, by rw [hsp]; exact H.out.2.2.2.2.2.one⟩⟩
end Go.Proofs.YtkkkhonjcbhelaaGreatDoor
