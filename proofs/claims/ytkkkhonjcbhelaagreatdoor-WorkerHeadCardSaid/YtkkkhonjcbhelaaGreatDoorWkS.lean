import Derived.Test.YtkkkhonjcbhelaaGreatDoorElFew
import Derived.Test.YtkkkhonjcbhelaaGreatDoorWkR
set_option maxRecDepth 100000
set_option linter.unusedVariables false
namespace Go.Proofs.YtkkkhonjcbhelaaGreatDoor
section
open Go.RowKit
open PR
set_option maxHeartbeats 8000000 in
theorem few15_any (L : Lk) (w : World) (h : LkIn w w.heap.size L) (hW : LkW L) :
  Calls Tryz.prog 5 #[lkV L] w fun e w' => ∃ b, e = .returned (.bool b) ∧ (b = true → WkF L) ∧ Below w.heap.size w w' := by
 obtain ⟨n1, hn1⟩ := nx (L.lv.length);obtain ⟨n2, hn2⟩ := nx (L.lf.length);obtain ⟨n3, hn3⟩ := nx (L.le.length);obtain ⟨n4, hn4⟩ := nx (L.lw.length);obtain ⟨n5, hn5⟩ := nx (L.lr.length);have hF0 := Hq (fun W (hk : Below w.heap.size w W) => show Calls Tryz.prog 15 #[.agg #[.int .i64 L.now, .int .i64 L.hd, .int .i64 L.pr, .int .i64 L.to, .slice L.A1 n1 L.c1, .slice L.A2 n2 L.c2, .slice L.A3 n3 L.c3, .slice L.A4 n4 L.c4, .slice L.A5 n5 L.c5]] W (fun e w' => ∃ b, e = .returned (.bool b) ∧ (b = true → LkF L) ∧ Below W.heap.size W w') from by
  have h9 := few14_any L W (h.keep hk hk.size) hW;unfold lkV lkA at h9;rw [← hn1, ← hn2, ← hn3, ← hn4, ← hn5] at h9;exact h9)
 have HT4 := Hq (Ai h.t hn4);have hl4 : n4 ≤ 9223372036854775807 := by rw [hn4]; exact Nat.le_trans hW.l4 hW.m4
 unfold lkV lkA;rw [← hn1, ← hn2, ← hn3, ← hn4, ← hn5];clear hn1 hn2 hn3 hn4 hn5 h hW;obtain ⟨B0, hB0⟩ := nx (w.heap.size);rw [← hB0];have HB0 := Hq hB0;clear hB0;have HBel := Hq (Below.refl w.heap.size w);have hlow : w.heap.size ≤ w.heap.size := Nat.le_refl _;go_enter Tryz.func5, Tryz.ntmps5;go_wp2_with fail;obtain ⟨V1, hV1⟩ := nx (w.alloc (.cells #[.int .i64 L.now, .int .i64 L.hd, .int .i64 L.pr, .int .i64 L.to, .slice L.A1 n1 L.c1, .slice L.A2 n2 L.c2, .slice L.A3 n3 L.c3, .slice L.A4 n4 L.c4, .slice L.A5 n5 L.c5] 28));rw [← hV1];have hzV1 := sz1 hV1;replace HBel := be1 hV1 HBel hlow;have B_l := Hq (new10 hV1);obtain ⟨N_l, hN_l⟩ := nx (w.heap.size);(try rw [← hN_l]);rw [← hN_l] at B_l;have l_l : N_l < V1.heap.size := by omega
 have g_l : w.heap.size ≤ N_l := by omega
 replace hlow : w.heap.size ≤ V1.heap.size := by omega
 clear hV1 hzV1 hN_l;obtain ⟨l0, l1, l2, l3, l4, l5, l6, l7, l8⟩ := cells9 B_l.out;go_wp2_with fail;refine (hF0.out V1 HBel.out).mono ?_;rintro e U2 ⟨b, rfl, hf, hb9⟩;clear l0 l1 l2 l3 l4 l5 l6 l7 l8;have hs9 := hb9.size;replace HBel := bt9 HBel hb9 hlow;replace B_l := bb9 hb9 B_l l_l;replace l_l : N_l < U2.heap.size := by omega
 replace hlow : w.heap.size ≤ U2.heap.size := by omega
 clear hb9 hs9
 cases b
 ·clear hf;go_wp2
  go_ret
  exact ⟨false, rfl, (fun e => by cases e), by rw [HB0.out]; exact HBel.out⟩
 ·have HF := Hq (hf rfl);clear hf;by_cases c1 : L.now < 0
  ·have tc1 : decide (L.now < 0) = true := decide_eq_true c1;clear c1;obtain ⟨l0, l1, l2, l3, l4, l5, l6, l7, l8⟩ := cells9 B_l.out;go_wp2;clear l0 l1 l2 l3 l4 l5 l6 l7 l8
   go_ret
   exact ⟨false, rfl, (fun e => by cases e), by rw [HB0.out]; exact HBel.out⟩
  by_cases c2 : 1073741824 < L.now
  ·have tc1 : decide (L.now < 0) = false := decide_eq_false c1;have tc2 : decide (1073741824 < L.now) = true := decide_eq_true c2;clear c1 c2;obtain ⟨l0, l1, l2, l3, l4, l5, l6, l7, l8⟩ := cells9 B_l.out;go_wp2;clear l0 l1 l2 l3 l4 l5 l6 l7 l8
   go_ret
   exact ⟨false, rfl, (fun e => by cases e), by rw [HB0.out]; exact HBel.out⟩
  by_cases c3 : L.to < 0
  ·have tc1 : decide (L.now < 0) = false := decide_eq_false c1;have tc2 : decide (1073741824 < L.now) = false := decide_eq_false c2;have tc3 : decide (L.to < 0) = true := decide_eq_true c3;clear c1 c2 c3;obtain ⟨l0, l1, l2, l3, l4, l5, l6, l7, l8⟩ := cells9 B_l.out;go_wp2;clear l0 l1 l2 l3 l4 l5 l6 l7 l8
   go_ret
   exact ⟨false, rfl, (fun e => by cases e), by rw [HB0.out]; exact HBel.out⟩
  by_cases c4 : 1073741824 < L.to
  ·have tc1 : decide (L.now < 0) = false := decide_eq_false c1;have tc2 : decide (1073741824 < L.now) = false := decide_eq_false c2;have tc3 : decide (L.to < 0) = false := decide_eq_false c3;have tc4 : decide (1073741824 < L.to) = true := decide_eq_true c4;clear c1 c2 c3 c4;obtain ⟨l0, l1, l2, l3, l4, l5, l6, l7, l8⟩ := cells9 B_l.out;go_wp2;clear l0 l1 l2 l3 l4 l5 l6 l7 l8
   go_ret
   exact ⟨false, rfl, (fun e => by cases e), by rw [HB0.out]; exact HBel.out⟩
  have tc1 : decide (L.now < 0) = false := decide_eq_false c1;have tc2 : decide (1073741824 < L.now) = false := decide_eq_false c2;have tc3 : decide (L.to < 0) = false := decide_eq_false c3;have tc4 : decide (1073741824 < L.to) = false := decide_eq_false c4;have HC := Hq (Ai c1 (Ai c2 (Ai c3 c4)));clear c1 c2 c3 c4;have HI0 : Hid (∀ y ∈ L.lw.take 0, 0 ≤ y.r ∧ y.r ≤ 1073741824) := Hq (by simp);obtain ⟨l0, l1, l2, l3, l4, l5, l6, l7, l8⟩ := cells9 B_l.out;go_wp2;clear tc1 tc2 tc3 tc4;go_loopw [3] (fun vi wr => ∃ k : Nat, vi = .int .i64 k ∧ k ≤ n4 ∧ N_l < wr.heap.size ∧ Hid (Below w.heap.size w wr) ∧ Hid (wr.heap[N_l]? = some (.cells #[.int .i64 L.now, .int .i64 L.hd, .int .i64 L.pr, .int .i64 L.to, .slice L.A1 n1 L.c1, .slice L.A2 n2 L.c2, .slice L.A3 n3 L.c3, .slice L.A4 n4 L.c4, .slice L.A5 n5 L.c5] 28 (0, 0))) ∧ Hid (∀ y ∈ L.lw.take k, 0 ≤ y.r ∧ y.r ≤ 1073741824)) (fun vi _ => n4 - (intOf vi).toNat)
  case atStart => exact ⟨0, rfl, by omega, l_l, HBel, B_l, HI0⟩
  case round =>
   clear HBel B_l l_l hlow HI0 l0 l1 l2 l3 l4 l5 l6 l7 l8;obtain ⟨k, rfl, hk, l_l, HBel, B_l, hI⟩ := hrel;have hlow := HBel.out.size;by_cases hlt : k < n4
   ·have u1 : decide (k < n4) = true := decide_eq_true hlt;obtain ⟨x, hx⟩ := get_lt (l := L.lw) (k := k) (by rw [← HT4.out.2]; exact hlt);obtain ⟨b, off, hA, hb, hall⟩ := HT4.out.1.at_ hx;have a3 : wr.cell? ⟨b, off + k * 10 + 3, none⟩ = some (.int .i64 x.r) := ((hall k x hx).keep hb HBel.out) 3 _ rfl;have l7 : wr.cell? ⟨N_l, 7, none⟩ = some (.slice (some ⟨b, off, none⟩) n4 L.c4) := by rw [← hA]; exact cell_blk (i := 7) B_l.out rfl
    have HQ := Hq (Ai hx hI.out);clear hall hx hb hA hI;by_cases e1 : x.r < 0
    ·have te1 : decide (x.r < 0) = true := decide_eq_true e1;clear e1;go_wp2
     go_ret
     exact ⟨false, rfl, (fun e => by cases e), by rw [HB0.out]; exact HBel.out⟩
    by_cases e2 : 1073741824 < x.r
    ·have te1 : decide (x.r < 0) = false := decide_eq_false e1;have te2 : decide (1073741824 < x.r) = true := decide_eq_true e2;clear e1 e2;go_wp2
     go_ret
     exact ⟨false, rfl, (fun e => by cases e), by rw [HB0.out]; exact HBel.out⟩
    have te1 : decide (x.r < 0) = false := decide_eq_false e1;have te2 : decide (1073741824 < x.r) = false := decide_eq_false e2;have HN : Hid (∀ y ∈ L.lw.take (k + 1), 0 ≤ y.r ∧ y.r ≤ 1073741824) := Hq (by
     rw [take_next HQ.out.1];intro y hy;rcases List.mem_append.1 hy with hy | hy
     ·exact HQ.out.2 y hy
     ·rw [List.mem_singleton.1 hy]; omega)
    clear e1 e2;go_wp2
    go_roundw
    case rel => exact ⟨k + 1, by go_num, by omega, l_l, HBel, B_l, HN⟩
    case measure => simp [intOf]; omega
   ·obtain rfl : n4 = k := by omega
    have u1 : decide (n4 < n4) = false := decide_eq_false hlt;have HE := Hq (show WkF L from by
     have h9 := hI.out;rw [HT4.out.2, List.take_length] at h9;obtain ⟨g1, g2, g3, g4⟩ := HC.out;exact ⟨HF.out, by omega, by omega, by omega, by omega, h9⟩)
    have l7 : wr.cell? ⟨N_l, 7, none⟩ = some (.slice L.A4 n4 L.c4) := cell_blk (i := 7) B_l.out rfl;clear hI;go_wp2
    go_ret
    exact ⟨true, rfl, fun _ => HE.out, by rw [HB0.out]; exact HBel.out⟩
end
set_option linter.unusedVariables false
set_option maxRecDepth 100000
section
open Go.RowKit
open PR
def wxV : List Fe := [⟨0, 0, 3, 0⟩]
def wxW1 : Wt := ⟨1, 0, 0, 2, 1, 0, 4, 4, 0, 0⟩
def wxW2 : Wt := ⟨2, 0, 0, 2, 1, 0, 1, 1, 0, 0⟩
def wxH (s : Nat) : Ho := ⟨0, 0, 9, false, some ⟨s, 0, none⟩, 1, [⟨0, 0, 12, 0⟩]⟩
def wxX : Wa := ⟨0, 4, ⟨1, 0, 4, 4⟩⟩
def wxO : Ho := hoOf 0 3 [⟨0, 0, 1, 0⟩]
def wxL (v u h s t : Nat) : Lk := ⟨0, 1, 9, 1, some ⟨v, 0, none⟩, 1, wxV, some ⟨u, 0, none⟩, 1, [⟨9, 0⟩], some ⟨h, 0, none⟩, 1, [wxH s], some ⟨t, 0, none⟩, 2, [wxW1, wxW2], none, 0, []⟩
theorem wxV_view : View wxV := ⟨fun f hf => by
 simp [wxV] at hf;subst hf;exact ⟨⟨by decide, by decide, by decide, by decide⟩, by decide, by decide⟩, by simp [spotsL, wxV]⟩
theorem wx_cand {s : Nat} {x : Int} (h : Cand 0 ([wxH s] ++ [wxO]) x) : x = 0 ∨ x = 9 ∨ x = 3 := by
 rcases h with h | ⟨⟨y, hy, e⟩, _⟩
 ·exact .inl h
 ·simp at hy;rcases hy with rfl | rfl
  ·exact .inr (.inl e.symm)
  ·exact .inr (.inr e.symm)
theorem wx_aft (s : Nat) : Aft 0 wxV 9 0 [wxH s] wxX wxO 9 0 :=
 .inr ⟨by kernel_rfl, .inr ⟨⟨by decide, by decide, by decide⟩, .inr ⟨by kernel_rfl, rfl, .inr ⟨.inr ⟨⟨wxH s, by simp, rfl⟩, by decide, by decide⟩, by kernel_rfl, fun x hx hp => by
  rcases wx_cand hx with rfl | rfl | rfl
  ·rw [show at_ (turnL lessC wxV wxO.sl).2 (9 - hg wxO wxX.q) (0 - hc wxO wxX.q) ([wxH s] ++ [wxO]) wxX 0 = false by kernel_rfl] at hp; cases hp
  ·decide
  ·rw [show at_ (turnL lessC wxV wxO.sl).2 (9 - hg wxO wxX.q) (0 - hc wxO wxX.q) ([wxH s] ++ [wxO]) wxX 3 = false by kernel_rfl] at hp; cases hp⟩⟩⟩⟩
theorem wx_one {v u h s t : Nat} : MostE (wxL v u h s t) wxW1.J 0 7 :=
 .inr ⟨by kernel_rfl, .inr ⟨⟨9, 0⟩, rfl, .inr ⟨by decide, (by show (7 : Int) = plE wxW1.J.S wxV 9 0 4; kernel_rfl), fun m h1 h2 => by
  have e1 : wxW1.J.S.mn.toNat = 4 := rfl;have e2 : wxW1.J.S.mx.toNat = 4 := rfl;obtain rfl : m = 4 := by omega
  exact ⟨7, by decide, (by show (7 : Int) = plE wxW1.J.S wxV 9 0 4; kernel_rfl)⟩⟩⟩⟩
theorem wx_two {v u h s t : Nat} : MostE (wxL v u h s t) wxW2.J 1 0 :=
 .inr ⟨by kernel_rfl, .inr ⟨⟨9, 0⟩, rfl, .inl ⟨rfl, by decide, by decide, (by show (0 : Int) = plE wxW2.J.S wxV 9 0 1; kernel_rfl), fun m h1 h2 => by
  have e2 : wxW2.J.S.mx.toNat = 1 := rfl;omega⟩⟩⟩
theorem wx_fill {v u h s t n n' : Nat} {E : Int} (hf : FillE (wxL v u h s t) wxW2.J 3 n n' E) : E = 0 := by
 rcases hf with ⟨q, hM, hq, _⟩ | ⟨hM, hR⟩
 ·exact absurd ((hM.same wx_two).1) hq
 ·obtain ⟨_, e⟩ := hM.same wx_two;obtain rfl := e rfl;rcases hR with ⟨e, _⟩ | ⟨hE, hl, _⟩
  ·exact e
  ·have h9 : placeF wxW2.J.S (wxL v u h s t).lv wxW2.J.S.mn.toNat = [⟨0, 0, 1, 0⟩] := by kernel_rfl
   rw [h9] at hl;have hl2 : LetR (wxL v u h s t) wxW2.J.id wxW2.J.q 3 [⟨0, 0, 1, 0⟩] E := hl;have hk : LetR (wxL v u h s t) wxW2.J.id wxW2.J.q 3 [⟨0, 0, 1, 0⟩] 0 := .inr ⟨by show (2 : Int) ≠ 1; decide, wxX, rfl, .inr ⟨⟨9, 0⟩, rfl, 9, 0, wx_aft s, rfl⟩⟩;exact hl2.same hk
theorem wx_told {v u h s t : Nat} {d id : Int} {sl : List Fe} (hc : ChoiceR (wxL v u h s t) d id sl) : d = 2 ∧ id = 2 ∧ sl.length = 1 := by
 rcases hc with ⟨_, _, _, x, n, hx, hM, _⟩ | ⟨_, ⟨rfl, k, x, n, n', hx, _, hb, rfl, hF, rfl⟩ | ⟨hN, _⟩⟩
 ·have hx2 : some wxW1 = some x := hx;injection hx2 with hx2;subst hx2;exact absurd (hM.same wx_one).1 (by decide)
 ·match k, hx with
  | 0, hx =>
   have hx2 : some wxW1 = some x := hx;injection hx2 with hx2;subst hx2
   cases hb
  | 1, hx =>
   have hx2 : some wxW2 = some x := hx;injection hx2 with hx2;subst hx2;obtain ⟨⟨⟨_, _, U, hU, h9⟩, h1, h2⟩, _⟩ := hF.fit;have e1 : wxW2.J.S.mn.toNat = 1 := rfl;have e2 : wxW2.J.S.mx.toNat = 1 := rfl;refine ⟨rfl, rfl, ?_⟩;rw [placeF_len (plE_zero.1 h9).1];omega
  | k + 2, hx => cases hx
 ·exfalso;rcases hN wxW2 (by simp [wxL]) with h1 | ⟨n, n', E, hF, hE⟩
  ·cases h1
  ·exact hE (wx_fill hF)
theorem wx_in {v u h s t : Nat} (W : World) (bv : W.heap[v]? = some (.cells #[.int .i64 0, .int .i64 0, .int .u64 3, .int .i64 0] 63 (0, 0))) (bu : W.heap[u]? = some (.cells #[.int .i64 9, .int .i64 0] 42 (0, 0))) (bh : W.heap[h]? = some (.cells #[.int .i64 0, .int .i64 0, .int .i64 9, .bool false, .slice (some ⟨s, 0, none⟩) 1 1] 53 (0, 0))) (bs : W.heap[s]? = some (.cells #[.int .i64 0, .int .i64 0, .int .u64 12, .int .i64 0] 64 (0, 0))) (bt : W.heap[t]? = some (.cells #[.int .i64 1, .int .i64 0, .int .i64 0, .int .i64 2, .int .i64 1, .int .i64 0, .int .i64 4, .int .i64 4, .int .i64 0, .int .i64 0, .int .i64 2, .int .i64 0, .int .i64 0, .int .i64 2, .int .i64 1, .int .i64 0, .int .i64 1, .int .i64 1, .int .i64 0, .int .i64 0] 57 (0, 0))) : LkIn W W.heap.size (wxL v u h s t) :=
 ⟨fe_blk (cs := wxV.flatMap feC) bv (fun _ _ h => h) (blk_lt bv), els_blk luC_len bu (fun j v h => by simpa [wxL, luC] using h), ⟨.inr ⟨h, 0, rfl, blk_lt bh, fun i x hx => by
  match i, hx with
   | 0, hx =>
    have hx2 : some (wxH s) = some x := hx;injection hx2 with hx2; subst hx2;intro r u hr;rw [Nat.zero_mul, Nat.add_zero, Nat.zero_add];exact cell_blk bh (by simpa [hoC, wxH] using hr)
   | k + 1, hx => cases hx⟩, fun x hx => by
  have hx2 : x = wxH s := by simpa [wxL] using hx
  subst hx2;exact fe_blk (cs := [(⟨0, 0, 12, 0⟩ : Fe)].flatMap feC) bs (fun _ _ h => h) (blk_lt bs)⟩, els_blk wtC_len bt (fun j v h => by simpa [wxL, wtC, wxW1, wxW2] using h), .inl rfl⟩
theorem wx_ok (v u h s t : Nat) : LkW (wxL v u h s t) where
 now := (by decide : (Lit.int .i64 0).wf = true)
 hd := (by decide : (Lit.int .i64 1).wf = true)
 pr := (by decide : (Lit.int .i64 9).wf = true)
 to := (by decide : (Lit.int .i64 1).wf = true)
 v := fun f hf => (wxV_view.ok f hf).1
 l1 := Nat.le_refl _
 m1 := by show 1 ≤ maxLen; unfold maxLen; omega
 f := fun x hx => by
  simp [wxL] at hx;subst hx;exact ⟨by decide, by decide⟩
 l2 := Nat.le_refl _
 m2 := by show 1 ≤ maxLen; unfold maxLen; omega
 e := fun x hx => by
  simp [wxL] at hx;subst hx;refine ⟨by kernel_rfl, by kernel_rfl, Nat.le_refl 1, (by unfold maxLen; show 1 ≤ _; omega), fun f hf => ?_⟩;simp [wxH] at hf; subst hf;exact ⟨by decide, by decide, by decide, by decide⟩
 l3 := Nat.le_refl _
 m3 := by show 1 ≤ maxLen; unfold maxLen; omega
 t := fun x hx => by
  simp [wxL] at hx;rcases hx with rfl | rfl <;> exact ⟨by decide, by decide, by decide, by decide, by decide, by decide, by decide, by decide, by decide, by decide⟩
 l4 := Nat.le_refl _
 m4 := by show 2 ≤ maxLen; unfold maxLen; omega
 r := fun x hx => by cases hx
 l5 := Nat.le_refl _
 m5 := Nat.zero_le _
theorem wx_few (v u h s t : Nat) : WkF (wxL v u h s t) where
 f := ⟨wxV_view, by show 1 ≤ 70; omega, by show 1 ≤ 20; omega, fun x hx => by
  simp [wxL] at hx;subst hx;show 1 ≤ 20; omega, fun x hx => by
  simp [wxL] at hx;subst hx;exact ⟨by decide, by decide, by decide, by decide⟩, by kernel_rfl, by show 1 ≤ 20; omega⟩
 n0 := by show (0 : Int) ≤ 0; decide
 n1 := by show (0 : Int) ≤ 1073741824; decide
 t0 := by show (0 : Int) ≤ 1; decide
 t1 := by show (1 : Int) ≤ 1073741824; decide
 r := fun x hx => by
  simp [wxL] at hx;rcases hx with rfl | rfl <;> exact ⟨by decide, by decide⟩
set_option maxHeartbeats 4000000 in
theorem one_any (a b : Int) (w : World) : Calls Tryz.prog 13 #[.int .i64 a, .int .i64 b] w fun e w' => e = .returned (.agg #[.int .i64 a, .int .i64 0, .int .i64 0, .int .i64 2, .int .i64 1, .int .i64 0, .int .i64 b, .int .i64 b, .int .i64 0, .int .i64 0]) ∧ Below w.heap.size w w' := by
 obtain ⟨B0, hB0⟩ := nx (w.heap.size);rw [← hB0];have HB0 := Hq hB0;clear hB0;have HBel := Hq (Below.refl w.heap.size w);have hlow : w.heap.size ≤ w.heap.size := Nat.le_refl _;go_enter Tryz.func13, Tryz.ntmps13;go_wp2;obtain ⟨V1, hV1⟩ := nx (w.alloc (.cells #[.int .i64 a, .int .i64 0, .int .i64 0, .int .i64 2, .int .i64 1, .int .i64 0, .int .i64 b, .int .i64 b, .int .i64 0, .int .i64 0] 57));rw [← hV1];have hzV1 := sz1 hV1;replace HBel := be1 hV1 HBel hlow;have B_r := Hq (new10 hV1);obtain ⟨N_r, hN_r⟩ := nx (w.heap.size);(try rw [← hN_r]);rw [← hN_r] at B_r;have l_r : N_r < V1.heap.size := by omega
 have g_r : w.heap.size ≤ N_r := by omega
 replace hlow : w.heap.size ≤ V1.heap.size := by omega
 clear hV1 hzV1 hN_r;obtain ⟨r0, r1, r2, r3, r4, r5, r6, r7, r8, r9⟩ := cells10 B_r.out;refine bodyPost_ret (v := .agg #[.int .i64 a, .int .i64 0, .int .i64 0, .int .i64 2, .int .i64 1, .int .i64 0, .int .i64 b, .int .i64 b, .int .i64 0, .int .i64 0]) (by simp [results, Tryz.results13, go_sem, r0, r1, r2, r3, r4, r5, r6, r7, r8, r9]) rfl ?_;exact ⟨rfl, by rw [HB0.out]; exact HBel.out⟩
theorem run_load_lkx {oi : Oper} {ρ : Operand → Value} {W : World} {y : Operand} {g o : Nat} {a1 a2 a3 a4 : Int} {A1 A2 A3 A4 A5 : Option Addr} {n1 n2 n3 n4 n5 c1 c2 c3 c4 c5 : Nat} (ho : oi.op = .load 28 y) (hy : ρ y = .pointer (some ⟨g, o, none⟩)) (h : CellsAt W g o [.int .i64 a1, .int .i64 a2, .int .i64 a3, .int .i64 a4, .slice A1 n1 c1, .slice A2 n2 c2, .slice A3 n3 c3, .slice A4 n4 c4, .slice A5 n5 c5]) :
  (execOp ρ oi).run Tryz.prog W = .ok (.value (.agg #[.int .i64 a1, .int .i64 a2, .int .i64 a3, .int .i64 a4, .slice A1 n1 c1, .slice A2 n2 c2, .slice A3 n3 c3, .slice A4 n4 c4, .slice A5 n5 c5])) W := by
 have hl : (loadCells ⟨g, o, none⟩ 9).run Tryz.prog W = .ok #[.int .i64 a1, .int .i64 a2, .int .i64 a3, .int .i64 a4, .slice A1 n1 c1, .slice A2 n2 c2, .slice A3 n3 c3, .slice A4 n4 c4, .slice A5 n5 c5] W := run_loadCells_list (P := Tryz.prog) W ⟨g, o, none⟩ [.int .i64 a1, .int .i64 a2, .int .i64 a3, .int .i64 a4, .slice A1 n1 c1, .slice A2 n2 c2, .slice A3 n3 c3, .slice A4 n4 c4, .slice A5 n5 c5] fun j v hv => by rw [Addr.add_lit]; exact h j v hv
 have ha : (isAgg 28).run Tryz.prog W = .ok true W := by
  unfold isAgg;rw [Sem.run_bind, run_underlying Tryz.underlying28 W]
  simp
 unfold execOp;simp only [ho, hy, Instr.loadAt, Instr.sureAddr, Sem.run_bind, Sem.run_pure, Result.andThen_ok, loadVar, ha, if_true, Tryz.sizeOf28, hl]
set_option maxHeartbeats 16000000 in
theorem awake15 (w : World) (hT : Tab w) : Calls Tryz.prog 4 #[] w fun e w' => e = .returned (.bool true) ∧ Below w.heap.size w w' := by
 have HT := Hq hT;have hO := Hq one_any;have hC := Hq (fun v u h s t W (bv : W.heap[v]? = some (.cells #[.int .i64 0, .int .i64 0, .int .u64 3, .int .i64 0] 63 (0, 0))) (bu : W.heap[u]? = some (.cells #[.int .i64 9, .int .i64 0] 42 (0, 0))) (bh : W.heap[h]? = some (.cells #[.int .i64 0, .int .i64 0, .int .i64 9, .bool false, .slice (some ⟨s, 0, none⟩) 1 1] 53 (0, 0))) (bs : W.heap[s]? = some (.cells #[.int .i64 0, .int .i64 0, .int .u64 12, .int .i64 0] 64 (0, 0))) (bt : W.heap[t]? = some (.cells #[.int .i64 1, .int .i64 0, .int .i64 0, .int .i64 2, .int .i64 1, .int .i64 0, .int .i64 4, .int .i64 4, .int .i64 0, .int .i64 0, .int .i64 2, .int .i64 0, .int .i64 0, .int .i64 2, .int .i64 1, .int .i64 0, .int .i64 1, .int .i64 1, .int .i64 0, .int .i64 0] 57 (0, 0))) (hT : Tab W) => show Calls Tryz.prog 8 #[.agg #[.int .i64 0, .int .i64 1, .int .i64 9, .int .i64 1, .slice (some ⟨v, 0, none⟩) 1 1, .slice (some ⟨u, 0, none⟩) 1 1, .slice (some ⟨h, 0, none⟩) 1 1, .slice (some ⟨t, 0, none⟩) 2 2, .slice none 0 0]] W (fun e w' => ChooseJ (wxL v u h s t) w' e ∧ Below W.heap.size W w') from
  choose_any (wxL v u h s t) W (wx_in W bv bu bh bs bt) (wx_ok v u h s t) (wx_few v u h s t) hT)
 have hL := Hq (fun v u h s t W => show Calls Tryz.prog 14 #[.agg #[.int .i64 0, .int .i64 1, .int .i64 9, .int .i64 1, .slice (some ⟨v, 0, none⟩) 1 1, .slice (some ⟨u, 0, none⟩) 1 1, .slice (some ⟨h, 0, none⟩) 1 1, .slice (some ⟨t, 0, none⟩) 2 2, .slice none 0 0], .agg #[.int .i64 1, .int .i64 0, .int .i64 0, .int .i64 2, .int .i64 1, .int .i64 0, .int .i64 4, .int .i64 4]] W (fun e w' => e = .returned (.int .i64 3) ∧ Below W.heap.size W w') from
  latest_any (wxL v u h s t) wxW1.J W ⟨⟨by show (0 : Int) ≤ 0; decide, by show (0 : Int) ≤ 1073741824; decide⟩, ⟨by show (0 : Int) ≤ 1; decide, by show (1 : Int) ≤ 1073741824; decide⟩, by show (0 : Int) ≤ 2; decide, by show (2 : Int) ≤ 1073741824; decide⟩)
 clear hT;obtain ⟨B0, hB0⟩ := nx (w.heap.size);rw [← hB0];have HB0 := Hq hB0;clear hB0;have HBel := Hq (Below.refl w.heap.size w);have hlow : w.heap.size ≤ w.heap.size := Nat.le_refl _;go_enter Tryz.func4, Tryz.ntmps4;go_wp2_with fail;obtain ⟨V1, hV1⟩ := nx ((w.alloc (.cells #[.int .i64 0, .int .i64 0, .int .u64 3, .int .i64 0] 63)).alloc (.cells #[.int .i64 9, .int .i64 0] 42));rw [← hV1];have hzV1 := sz2 hV1;replace HBel := be2 hV1 HBel hlow;have B_v := Hq (new20 hV1);have B_u := Hq (new21 hV1);obtain ⟨N_v, hN_v⟩ := nx (w.heap.size);obtain ⟨N_u, hN_u⟩ := nx (w.heap.size + 1);(try rw [← hN_u]);rw [← hN_u] at B_u;(try rw [← hN_v]);rw [← hN_v] at B_v;have l_v : N_v < V1.heap.size := by omega
 have l_u : N_u < V1.heap.size := by omega
 have g_v : w.heap.size ≤ N_v := by omega
 have g_u : w.heap.size ≤ N_u := by omega
 have d_v_u : N_v < N_u := by omega
 replace hlow : w.heap.size ≤ V1.heap.size := by omega
 clear hV1 hzV1 hN_v hN_u;refine (hO.out 1 4 V1).mono ?_;rintro e U2 ⟨rfl, hb9⟩;have hs9 := hb9.size;replace HBel := bt9 HBel hb9 hlow;replace B_v := bb9 hb9 B_v l_v;replace B_u := bb9 hb9 B_u l_u;replace l_v : N_v < U2.heap.size := by omega
 replace l_u : N_u < U2.heap.size := by omega
 replace hlow : w.heap.size ≤ U2.heap.size := by omega
 clear hb9 hs9;go_wp2_with fail;refine (hO.out 2 1 U2).mono ?_;rintro e U3 ⟨rfl, hb9⟩;have hs9 := hb9.size;replace HBel := bt9 HBel hb9 hlow;replace B_v := bb9 hb9 B_v l_v;replace B_u := bb9 hb9 B_u l_u;replace l_v : N_v < U3.heap.size := by omega
 replace l_u : N_u < U3.heap.size := by omega
 replace hlow : w.heap.size ≤ U3.heap.size := by omega
 clear hb9 hs9;go_wp2_with fail;obtain ⟨V4, hV4⟩ := nx ((((U3.alloc (.cells #[.int .i64 1, .int .i64 0, .int .i64 0, .int .i64 2, .int .i64 1, .int .i64 0, .int .i64 4, .int .i64 4, .int .i64 0, .int .i64 0, .int .i64 2, .int .i64 0, .int .i64 0, .int .i64 2, .int .i64 1, .int .i64 0, .int .i64 1, .int .i64 1, .int .i64 0, .int .i64 0] 57)).alloc (.cells #[.int .i64 0, .int .i64 0, .int .u64 12, .int .i64 0] 64)).alloc (.cells #[.int .i64 0, .int .i64 0, .int .i64 9, .bool false, .slice (some ⟨U3.heap.size + 1, 0, none⟩) 1 1] 53)).alloc (.cells #[.int .i64 0, .int .i64 1, .int .i64 9, .int .i64 1, .slice (some ⟨N_v, 0, none⟩) 1 1, .slice (some ⟨N_u, 0, none⟩) 1 1, .slice (some ⟨U3.heap.size + 1 + 1, 0, none⟩) 1 1, .slice (some ⟨U3.heap.size, 0, none⟩) 2 2, .slice none 0 0] 28));rw [← hV4];have hzV4 := sz4 hV4;replace HBel := be4 hV4 HBel hlow;replace B_v := bk4 hV4 B_v l_v;replace B_u := bk4 hV4 B_u l_u;have B_t := Hq (new40 hV4);have B_s := Hq (new41 hV4);have B_h := Hq (new42 hV4);have B_l := Hq (new43 hV4);obtain ⟨N_t, hN_t⟩ := nx (U3.heap.size);obtain ⟨N_s, hN_s⟩ := nx (U3.heap.size + 1);obtain ⟨N_h, hN_h⟩ := nx (U3.heap.size + 1 + 1);obtain ⟨N_l, hN_l⟩ := nx (U3.heap.size + 1 + 1 + 1);(try rw [← hN_l]);rw [← hN_l] at B_l;(try rw [← hN_h]);rw [← hN_h] at B_h;(try rw [← hN_s]);rw [← hN_s] at B_s;(try rw [← hN_t]);rw [← hN_t] at B_t;have d_v_t : N_v < N_t := by omega
 have d_u_t : N_u < N_t := by omega
 have d_v_s : N_v < N_s := by omega
 have d_u_s : N_u < N_s := by omega
 have d_v_h : N_v < N_h := by omega
 have d_u_h : N_u < N_h := by omega
 have d_v_l : N_v < N_l := by omega
 have d_u_l : N_u < N_l := by omega
 replace l_v : N_v < V4.heap.size := by omega
 replace l_u : N_u < V4.heap.size := by omega
 have l_t : N_t < V4.heap.size := by omega
 have l_s : N_s < V4.heap.size := by omega
 have l_h : N_h < V4.heap.size := by omega
 have l_l : N_l < V4.heap.size := by omega
 have g_t : w.heap.size ≤ N_t := by omega
 have g_s : w.heap.size ≤ N_s := by omega
 have g_h : w.heap.size ≤ N_h := by omega
 have g_l : w.heap.size ≤ N_l := by omega
 have d_t_s : N_t < N_s := by omega
 have d_s_h : N_s < N_h := by omega
 have d_h_l : N_h < N_l := by omega
 replace hlow : w.heap.size ≤ V4.heap.size := by omega
 (try rw [← hN_s] at B_h);rw [← hN_h] at B_l;rw [← hN_t] at B_l;clear hV4 hzV4 hN_t hN_s hN_h hN_l;refine (hC.out N_v N_u N_h N_s N_t V4 B_v.out B_u.out B_h.out B_s.out B_t.out (HT.out.below HBel.out HT.out.size)).mono ?_;rintro e U5 ⟨⟨d, id, sl, A, k, c, rfl, hc, hk, hkc, hcm, hfe⟩, hb9⟩;have hs9 := hb9.size;obtain ⟨rfl, rfl, hsl⟩ := wx_told hc;rw [hsl] at hk;subst hk;clear hc hsl hkc hcm hfe;replace HBel := bt9 HBel hb9 hlow;replace B_v := bb9 hb9 B_v l_v;replace B_u := bb9 hb9 B_u l_u;replace B_t := bb9 hb9 B_t l_t;replace B_s := bb9 hb9 B_s l_s;replace B_h := bb9 hb9 B_h l_h;replace B_l := bb9 hb9 B_l l_l;replace l_v : N_v < U5.heap.size := by omega
 replace l_u : N_u < U5.heap.size := by omega
 replace l_t : N_t < U5.heap.size := by omega
 replace l_s : N_s < U5.heap.size := by omega
 replace l_h : N_h < U5.heap.size := by omega
 replace l_l : N_l < U5.heap.size := by omega
 replace hlow : w.heap.size ≤ U5.heap.size := by omega
 clear hb9 hs9;go_wp2_with fail;obtain ⟨V6, hV6⟩ := nx (U5.alloc (.cells #[.int .i64 2, .int .i64 2, .slice A 1 c] 39));rw [← hV6];have hzV6 := sz1 hV6;replace HBel := be1 hV6 HBel hlow;replace B_v := bk1 hV6 B_v l_v;replace B_u := bk1 hV6 B_u l_u;replace B_t := bk1 hV6 B_t l_t;replace B_s := bk1 hV6 B_s l_s;replace B_h := bk1 hV6 B_h l_h;replace B_l := bk1 hV6 B_l l_l;have B_c := Hq (new10 hV6);obtain ⟨N_c, hN_c⟩ := nx (U5.heap.size);(try rw [← hN_c]);rw [← hN_c] at B_c;have d_v_c : N_v < N_c := by omega
 have d_u_c : N_u < N_c := by omega
 have d_t_c : N_t < N_c := by omega
 have d_s_c : N_s < N_c := by omega
 have d_h_c : N_h < N_c := by omega
 have d_l_c : N_l < N_c := by omega
 replace l_v : N_v < V6.heap.size := by omega
 replace l_u : N_u < V6.heap.size := by omega
 replace l_t : N_t < V6.heap.size := by omega
 replace l_s : N_s < V6.heap.size := by omega
 replace l_h : N_h < V6.heap.size := by omega
 replace l_l : N_l < V6.heap.size := by omega
 have l_c : N_c < V6.heap.size := by omega
 have g_c : w.heap.size ≤ N_c := by omega
 replace hlow : w.heap.size ≤ V6.heap.size := by omega
 clear hV6 hzV6 hN_c;have hlk : CellsAt V6 N_l 0 [.int .i64 0, .int .i64 1, .int .i64 9, .int .i64 1, .slice (some ⟨N_v, 0, none⟩) 1 1, .slice (some ⟨N_u, 0, none⟩) 1 1, .slice (some ⟨N_h, 0, none⟩) 1 1, .slice (some ⟨N_t, 0, none⟩) 2 2, .slice none 0 0] := fun r v hr => by
  rw [Nat.zero_add];exact cell_blk B_l.out (by simpa using hr)
 have hj : CellsAt V6 N_t 0 (jbC wxW1.J) := fun r v hr => by
  rw [Nat.zero_add];exact cell_blk B_t.out (by rcases r with _ | _ | _ | _ | _ | _ | _ | _ | r <;> first | exact hr | (simp [jbC] at hr))
 have l7 : V6.cell? ⟨N_l, 7, none⟩ = some (.slice (some ⟨N_t, 0, none⟩) 2 2) := cell_blk (i := 7) B_l.out rfl;obtain ⟨c0, c1, c2⟩ := cells3 B_c.out;refine held_begin (fun w' : World => CellsAt w' N_l 0 [.int .i64 0, .int .i64 1, .int .i64 9, .int .i64 1, .slice (some ⟨N_v, 0, none⟩) 1 1, .slice (some ⟨N_u, 0, none⟩) 1 1, .slice (some ⟨N_h, 0, none⟩) 1 1, .slice (some ⟨N_t, 0, none⟩) 2 2, .slice none 0 0] ∧ w'.cell? ⟨N_l, 7, none⟩ = some (.slice (some ⟨N_t, 0, none⟩) 2 2) ∧ CellsAt w' N_t 0 (jbC wxW1.J) ∧ w'.cell? ⟨N_c, 0, none⟩ = some (.int .i64 2) ∧ w'.cell? ⟨N_c, 1, none⟩ = some (.int .i64 2) ∧ w'.cell? ⟨N_c, 2, none⟩ = some (.slice A 1 c)) (by kernel_rfl) ?_;have hBh0 : Below V6.heap.size V6 V6.drew := (Below.refl _ _).drew;have hSh0 := Ai hlk (Ai l7 (Ai hj (Ai c0 (Ai c1 c2))));refine tkA 0 20 hSh0 ?_;refine tkA 1 21 hSh0 ?_;refine tkA 2 22 hSh0 ?_;refine tkA 3 23 hSh0 ?_;refine tkA 4 24 hSh0 ?_;refine tkA 5 25 hSh0 ?_;refine tkA 6 26 hSh0 ?_;refine tkA 7 27 hSh0 ?_;refine tkA 8 28 hSh0 ?_;refine tkA 9 29 hSh0 ?_;refine tkA 10 30 hSh0 ?_;refine tkA 11 31 hSh0 ?_;refine tkA 12 32 hSh0 ?_;refine tkA 13 33 hSh0 ?_;refine tkA 14 34 hSh0 ?_;refine tkH ?_ 15 35 ?_ hSh0 ?_;rotate_left
 ·rintro w' ⟨x0, x1, x2, x3, x4, x5⟩;refine Eq.trans (run_load_lkx (by rfl) (by rfl) x0) ?_;(with_reducible rfl)
 simp only [Act.put, pzA, pzB, pzC];refine tkA 16 36 hSh0 ?_;refine tkA 17 37 hSh0 ?_;refine tkA 18 38 hSh0 ?_;refine tkA 19 39 hSh0 ?_;refine tkH ?_ 20 40 ?_ hSh0 ?_;rotate_left
 ·rintro w' ⟨x0, x1, x2, x3, x4, x5⟩;refine Eq.trans (run_load_jb (by rfl) (by rfl) x2) ?_;(with_reducible rfl)
 simp only [Act.put, pzA, pzB, pzC];refine held_one 21 rfl (by kernel_rfl) (by rfl) (fun K hK => ?_);go_simp
 go_at_call 14
 refine (hL.out N_v N_u N_h N_s N_t V6.drew).mono ?_;rintro e wh1 ⟨rfl, hbh1⟩;have hBh1 : Below V6.heap.size V6 wh1 := below_step hBh0 hbh1;have hSh1 := Ai (hlk.keep (show N_l < V6.heap.size by omega) hBh1) (Ai (ck hBh1 l7) (Ai (hj.keep (show N_t < V6.heap.size by omega) hBh1) (Ai (ck hBh1 c0) (Ai (ck hBh1 c1) (ck hBh1 c2)))));refine hK.out _ _ hSh1 ?_;clear hK K;refine tkA 22 42 hSh1 ?_;refine tkA 23 43 hSh1 ?_;refine tkH ?_ 24 0 ?_ hSh1 ?_;rotate_left
 ·rintro w' ⟨x0, x1, x2, x3, x4, x5⟩;go_simp;(try with_reducible rfl)
 simp only [Act.put, List.setIfInBounds_toArray, List.set_cons_zero];refine wpAnyH_done (by kernel_rfl) ?_ _;have hb9 := hBh1;have hs9 := hb9.size;replace HBel := bt9 HBel hb9 hlow;replace B_v := bb9 hb9 B_v l_v;replace B_u := bb9 hb9 B_u l_u;replace B_t := bb9 hb9 B_t l_t;replace B_s := bb9 hb9 B_s l_s;replace B_h := bb9 hb9 B_h l_h;replace B_l := bb9 hb9 B_l l_l;replace B_c := bb9 hb9 B_c l_c;replace l_v : N_v < wh1.heap.size := by omega
 replace l_u : N_u < wh1.heap.size := by omega
 replace l_t : N_t < wh1.heap.size := by omega
 replace l_s : N_s < wh1.heap.size := by omega
 replace l_h : N_h < wh1.heap.size := by omega
 replace l_l : N_l < wh1.heap.size := by omega
 replace l_c : N_c < wh1.heap.size := by omega
 replace hlow : w.heap.size ≤ wh1.heap.size := by omega
 clear hb9 hs9 hSh0 hBh0 hSh1 hBh1 hlk hj l7 c0 c1 c2;go_wp2
 go_ret
 exact ⟨by first | rfl | simp, by rw [HB0.out]; exact HBel.out⟩
end
end Go.Proofs.YtkkkhonjcbhelaaGreatDoor
