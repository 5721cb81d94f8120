/- Without a head, of those that wait the first one for which there is room and enough left is taken, with all that it can get: the law WorkerFirst answers true, at every input. The library's table of lowest units is as the program's text lays it (tied). -/
import Derived.RegionTactic
import Derived.BigRegion
import Derived.Test.YtmejcmoodbbmoaaGreatDoorWkS
import Derived.Test.YtmejcmoodbbmoaaGreatDoorWkRMost
import Derived.SevenTiedAt
import Derived.Test.YtmejcmoodbbmoaaGreatDoorTie
import Derived.Test.YtmejcmoodbbmoaaGreatDoorCards
set_option linter.unusedVariables false
namespace Go.Proofs.YtmejcmoodbbmoaaGreatDoor.workerFirst
open Go Go.ChangeShapes Go.WideShapes Go.ChangeAt Go.RowKit
open PR
def zeroL (L : Lk) : Lk := ⟨L.now, 0, L.pr, L.to, L.A1, L.c1, L.lv, L.A2, L.c2, L.lf, L.A3, L.c3, L.le, L.A4, L.c4, L.lw, L.A5, L.c5, L.lr⟩
theorem zero_in {L : Lk} {w : World} {B : Nat} (h : LkIn w B L) : LkIn w B (zeroL L) := ⟨h.v, h.f, h.e, h.t, h.r⟩
theorem zero_ok {L : Lk} (h : LkW L) : LkW (zeroL L) where
 now := h.now
 hd := (by decide : (Lit.int .i64 0).wf = true)
 pr := h.pr
 to := h.to
 v := h.v
 l1 := h.l1
 m1 := h.m1
 f := h.f
 l2 := h.l2
 m2 := h.m2
 e := h.e
 l3 := h.l3
 m3 := h.m3
 t := h.t
 l4 := h.l4
 m4 := h.m4
 r := h.r
 l5 := h.l5
 m5 := h.m5
theorem zero_none {L : Lk} : headL (zeroL L) = none := rfl
theorem zero_hd {L : Lk} {i : Int} : hdB (zeroL L) i = false := rfl
theorem fill_most {L : Lk} {x : Wt} {n n' m : Nat} {u r q : Int} (h : FillE (zeroL L) x.J u n n' r) (k : MostE (zeroL L) x.J m q) : r = q ∧ (r = 0 → n' = m) := h.none_ k (.inl zero_none)
theorem first_fill {L : Lk} {d id : Int} {s : List Fe} {k m : Nat} {x : Wt} (hall : ∀ y ∈ L.lw.take k, ∃ n E, MostE (zeroL L) y.J n E ∧ E ≠ 0) (hx : L.lw[k]? = some x) (hM : MostE (zeroL L) x.J m 0) (h : ChoiceR (zeroL L) d id s) : d = 2 ∧ id = x.id ∧ s = placeF x.J.S L.lv m := by
 have hno : ¬ FillN1 (zeroL L) x := fun hn => by
  rcases hn with hn | ⟨n, n', E, hF, hE⟩
  ·rw [zero_hd] at hn; cases hn
  ·exact hE (fill_most hF hM).1
 rcases h with ⟨_, h0, _⟩ | ⟨_, ⟨rfl, k', y, n, n', hy, hall', _, rfl, hF, rfl⟩ | ⟨hN, _⟩⟩
 ·exact absurd rfl h0
 ·have hy2 : L.lw[k']? = some y := hy
  rcases Nat.lt_trichotomy k' k with hlt | rfl | hgt
  ·obtain ⟨n9, E9, h1, h2⟩ := hall y (List.mem_take_iff_getElem.2 ⟨k', by have := (List.getElem?_eq_some_iff.1 hy2).1; omega, (List.getElem?_eq_some_iff.1 hy2).2⟩)
   exact absurd (fill_most hF h1).1.symm h2
  ·rw [hx] at hy2; injection hy2 with hy2; subst hy2
   obtain rfl := (fill_most hF hM).2 rfl
   exact ⟨rfl, rfl, rfl⟩
  ·exact absurd (hall' x (List.mem_take_iff_getElem.2 ⟨k, by have := (List.getElem?_eq_some_iff.1 hx).1; show k < min k' L.lw.length; omega, (List.getElem?_eq_some_iff.1 hx).2⟩)) hno
 ·exact absurd (hN x (List.mem_of_getElem? hx)) hno
theorem first_none {L : Lk} {d id : Int} {s : List Fe} (hall : ∀ y ∈ L.lw, ∃ n E, MostE (zeroL L) y.J n E ∧ E ≠ 0) (h : ChoiceR (zeroL L) d id s) : d = 3 ∨ d = 0 := by
 rcases h with ⟨_, h0, _⟩ | ⟨_, ⟨_, k', y, n, n', hy, _, _, _, hF, _⟩ | ⟨_, ⟨e, _⟩ | ⟨e, _⟩⟩⟩
 ·exact absurd rfl h0
 ·obtain ⟨n9, E9, h1, h2⟩ := hall y (List.mem_of_getElem? hy)
  exact absurd (fill_most hF h1).1.symm h2
 ·exact .inl e
 ·exact .inr e
set_option maxRecDepth 100000 in
set_option maxHeartbeats 16000000 in
theorem walk (L : Lk) (w : World) (v0 : LkIn w w.heap.size L) (q0 : LkW L) (hT : Tab w) :
  Calls Tryz.prog 6 #[lkV L] w fun e w' => e = .returned (.bool true) ∧ Below w.heap.size w w' := by
 obtain ⟨n1, hn1⟩ := nx (L.lv.length)
 obtain ⟨n2, hn2⟩ := nx (L.lf.length)
 obtain ⟨n3, hn3⟩ := nx (L.le.length)
 obtain ⟨n4, hn4⟩ := nx (L.lw.length)
 obtain ⟨n5, hn5⟩ := nx (L.lr.length)
 have HT := Lib.hid hT
 have hAw := Lib.hid (fun W (hT : Tab W) => awake15 W hT)
 have hFw := Lib.hid (fun W (hk : Below w.heap.size w W) => show Calls Tryz.prog 8 #[.agg #[.int .i64 L.now, .int .i64 0, .int .i64 L.pr, .int .i64 L.to, .slice L.A1 n1 L.c1, .slice L.A2 n2 L.c2, .slice L.A3 n3 L.c3, .slice L.A4 n4 L.c4, .slice L.A5 n5 L.c5]] W (fun e w' => ∃ b, e = .returned (.bool b) ∧ (b = true → WkF (zeroL L)) ∧ Below W.heap.size W w') from by
  have h9 := few15_any (zeroL L) W (zero_in (v0.keep hk hk.size)) (zero_ok q0)
  unfold lkV lkA zeroL at h9
  rw [← hn1, ← hn2, ← hn3, ← hn4, ← hn5] at h9
  exact h9)
 have hCh := Lib.hid (fun (hF : WkF (zeroL L)) W (hk : Below w.heap.size w W) => show Calls Tryz.prog 9 #[.agg #[.int .i64 L.now, .int .i64 0, .int .i64 L.pr, .int .i64 L.to, .slice L.A1 n1 L.c1, .slice L.A2 n2 L.c2, .slice L.A3 n3 L.c3, .slice L.A4 n4 L.c4, .slice L.A5 n5 L.c5]] W (fun e w' => ChooseJ (zeroL L) w' e ∧ Below W.heap.size W w') from by
  have h9 := choose_any (zeroL L) W (zero_in (v0.keep hk hk.size)) (zero_ok q0) hF (hT.below hk hT.size)
  unfold lkV lkA zeroL at h9
  rw [← hn1, ← hn2, ← hn3, ← hn4, ← hn5] at h9
  exact h9)
 have hMo := Lib.hid (fun (hF : WkF (zeroL L)) (x : Wt) (hx : x ∈ L.lw) W (hk : Below w.heap.size w W) => show Calls Tryz.prog 18 #[.agg #[.int .i64 L.now, .int .i64 0, .int .i64 L.pr, .int .i64 L.to, .slice L.A1 n1 L.c1, .slice L.A2 n2 L.c2, .slice L.A3 n3 L.c3, .slice L.A4 n4 L.c4, .slice L.A5 n5 L.c5], .agg #[.int .i64 x.J.id, .int .i64 x.J.q, .int .i64 x.J.p, .int .i64 x.J.r, .int .i64 x.J.g, .int .i64 x.J.c, .int .i64 x.J.mn, .int .i64 x.J.mx]] W (fun e w' => RMostJ (zeroL L) x.J w' e ∧ Below W.heap.size W w') from by
  have h9 := rmost14_any (zeroL L) x.J W (zero_in (v0.keep hk hk.size)) (zero_ok q0) hF.f (q0.t x hx).J (hT.below hk hT.size)
  unfold lkV lkA jbV jbA zeroL at h9
  rw [← hn1, ← hn2, ← hn3, ← hn4, ← hn5] at h9
  exact h9)
 have hSa := Lib.hid (fun (A1 A2 : Option Addr) (c1 c2 k : Nat) (l9 : List Fe) (hk9 : k = l9.length) (hk16 : k ≤ 16) W (h1 : Fes W W.heap.size A1 l9) (h2 : Fes W W.heap.size A2 l9) => show Calls Tryz.prog 19 #[.slice A1 k c1, .slice A2 k c2] W (fun e w' => e = .returned (.bool true) ∧ Below W.heap.size W w') from by
  rw [hk9]; exact same_slots A1 A2 c1 c2 W.heap.size l9 W h1 h2 (by omega))
 have HT4 := Lib.hid (And.intro v0.t hn4)
 have hl4 : n4 ≤ 9223372036854775807 := by rw [hn4]; exact Nat.le_trans q0.l4 q0.m4
 unfold lkV lkA
 rw [← hn1, ← hn2, ← hn3, ← hn4, ← hn5]
 clear hn1 hn2 hn3 hn4 hn5 v0 q0 hT
 obtain ⟨B0, hB0⟩ := nx (w.heap.size)
 rw [← hB0]
 have HB0 := Lib.hid hB0
 clear hB0
 have HBel := Lib.hid (Below.refl w.heap.size w)
 have hlow : w.heap.size ≤ w.heap.size := Nat.le_refl _
 go_enter Tryz.func6, Tryz.ntmps6
 go_wp2_with fail
 obtain ⟨V1, hV1⟩ := nx (w.alloc (.cells #[.int .i64 L.now, .int .i64 L.hd, .int .i64 L.pr, .int .i64 L.to, .slice L.A1 n1 L.c1, .slice L.A2 n2 L.c2, .slice L.A3 n3 L.c3, .slice L.A4 n4 L.c4, .slice L.A5 n5 L.c5] 28))
 rw [← hV1]
 have hzV1 := sz1 hV1
 replace HBel := be1 hV1 HBel hlow
 have B_l := Lib.hid (new10 hV1)
 obtain ⟨N_l, hN_l⟩ := nx (w.heap.size)
 (try rw [← hN_l])
 rw [← hN_l] at B_l
 have l_l : N_l < V1.heap.size := by omega
 have g_l : w.heap.size ≤ N_l := by omega
 replace hlow : w.heap.size ≤ V1.heap.size := by omega
 clear hV1 hzV1 hN_l
 refine (hAw.out V1 (HT.out.below HBel.out HT.out.size)).mono ?_
 rintro e U2 ⟨rfl, hb9⟩
 have hs9 := hb9.size
 replace HBel := bt9 HBel hb9 hlow
 replace B_l := bb9 hb9 B_l l_l
 replace l_l : N_l < U2.heap.size := by omega
 replace hlow : w.heap.size ≤ U2.heap.size := by omega
 clear hb9 hs9
 obtain ⟨l0, l1, l2, l3, l4, l5, l6, l7, l8⟩ := cells9 B_l.out
 have lz0 : U2.frozen? ⟨N_l, 0, none⟩ = false := frozen_blk B_l.out
 have lz1 : U2.frozen? ⟨N_l, 1, none⟩ = false := frozen_blk B_l.out
 have lz2 : U2.frozen? ⟨N_l, 2, none⟩ = false := frozen_blk B_l.out
 have lz3 : U2.frozen? ⟨N_l, 3, none⟩ = false := frozen_blk B_l.out
 have lz4 : U2.frozen? ⟨N_l, 4, none⟩ = false := frozen_blk B_l.out
 have lz5 : U2.frozen? ⟨N_l, 5, none⟩ = false := frozen_blk B_l.out
 have lz6 : U2.frozen? ⟨N_l, 6, none⟩ = false := frozen_blk B_l.out
 have lz7 : U2.frozen? ⟨N_l, 7, none⟩ = false := frozen_blk B_l.out
 have lz8 : U2.frozen? ⟨N_l, 8, none⟩ = false := frozen_blk B_l.out
 go_wp2_with fail
 clear l0 l1 l2 l3 l4 l5 l6 l7 l8 lz0 lz1 lz2 lz3 lz4 lz5 lz6 lz7 lz8
 obtain ⟨S3, hS3⟩ := nx ((U2).setCell ⟨N_l, 1, none⟩ (.int .i64 0))
 rw [← hS3]
 have hzS3 : S3.heap.size = U2.heap.size := by rw [hS3]; simp
 replace HBel : Hid (Below w.heap.size w S3) := Lib.hid (by rw [hS3]; exact (HBel.out.setCell (g_l) _))
 replace B_l : Hid (S3.heap[N_l]? = some (.cells #[.int .i64 L.now, .int .i64 0, .int .i64 L.pr, .int .i64 L.to, .slice L.A1 n1 L.c1, .slice L.A2 n2 L.c2, .slice L.A3 n3 L.c3, .slice L.A4 n4 L.c4, .slice L.A5 n5 L.c5] 28 (0, 0))) := Lib.hid (by rw [hS3]; exact (blk_put (i := 1) _ B_l.out))
 replace l_l : N_l < S3.heap.size := by omega
 replace hlow : w.heap.size ≤ S3.heap.size := by omega
 clear hS3 hzS3
 refine (hFw.out S3 HBel.out).mono ?_
 rintro e U4 ⟨b, rfl, hf, hb9⟩
 have hs9 := hb9.size
 replace HBel := bt9 HBel hb9 hlow
 replace B_l := bb9 hb9 B_l l_l
 replace l_l : N_l < U4.heap.size := by omega
 replace hlow : w.heap.size ≤ U4.heap.size := by omega
 clear hb9 hs9
 cases b
 ·clear hf
  go_wp2
  go_ret
  exact ⟨by first | rfl | (simp; done), by rw [HB0.out]; exact HBel.out⟩
 ·have HF := Lib.hid (hf rfl)
  clear hf
  obtain ⟨l0, l1, l2, l3, l4, l5, l6, l7, l8⟩ := cells9 B_l.out
  go_wp2_with fail
  refine (hCh.out HF.out U4 HBel.out).mono ?_
  rintro e U5 ⟨⟨d, id, sl, A, kc, c, rfl, hc, hk, hkc, hcm, hfe⟩, hb9⟩
  clear l0 l1 l2 l3 l4 l5 l6 l7 l8
  have hs9 := hb9.size
  have HC := Lib.hid hc
  have HK := Lib.hid hk
  have HS := Lib.hid hfe
  clear hc hk hkc hcm hfe
  replace HBel := bt9 HBel hb9 hlow
  replace B_l := bb9 hb9 B_l l_l
  replace l_l : N_l < U5.heap.size := by omega
  replace hlow : w.heap.size ≤ U5.heap.size := by omega
  clear hb9 hs9
  have HB_m := Lib.hid (Below.refl U5.heap.size U5)
  have hl_m : U5.heap.size ≤ U5.heap.size := Nat.le_refl _
  have HI0 : Hid (∀ y ∈ L.lw.take 0, ∃ n E, MostE (zeroL L) y.J n E ∧ E ≠ 0) := Lib.hid (by simp)
  obtain ⟨l0, l1, l2, l3, l4, l5, l6, l7, l8⟩ := cells9 B_l.out
  have l_l_0 : N_l < U5.heap.size + 1 := by omega
  go_wp2_with fail
  clear l0 l1 l2 l3 l4 l5 l6 l7 l8 l_l_0
  obtain ⟨V6, hV6⟩ := nx (U5.alloc (.cells #[.int .i64 d, .int .i64 id, .slice A kc c] 33))
  rw [← hV6]
  have hzV6 := sz1 hV6
  replace HBel := be1 hV6 HBel hlow
  replace B_l := bk1 hV6 B_l l_l
  have B_c := Lib.hid (new10 hV6)
  obtain ⟨N_c, hN_c⟩ := nx (U5.heap.size)
  (try rw [← hN_c])
  rw [← hN_c] at B_c
  have d_l_c : N_l < N_c := by omega
  replace l_l : N_l < V6.heap.size := by omega
  have l_c : N_c < V6.heap.size := by omega
  have g_c : w.heap.size ≤ N_c := by omega
  replace hlow : w.heap.size ≤ V6.heap.size := by omega
  replace HB_m := be1 hV6 HB_m hl_m
  replace hl_m : U5.heap.size ≤ V6.heap.size := by omega
  clear hV6 hzV6 hN_c
  go_loopw [4] (fun vi wr => ∃ k : Nat, vi = .int .i64 k ∧ k ≤ n4 ∧ N_l < wr.heap.size ∧ N_c < wr.heap.size ∧ Hid (Below w.heap.size w wr) ∧ Hid (Below U5.heap.size U5 wr) ∧ Hid (wr.heap[N_l]? = some (.cells #[.int .i64 L.now, .int .i64 0, .int .i64 L.pr, .int .i64 L.to, .slice L.A1 n1 L.c1, .slice L.A2 n2 L.c2, .slice L.A3 n3 L.c3, .slice L.A4 n4 L.c4, .slice L.A5 n5 L.c5] 28 (0, 0))) ∧ Hid (wr.heap[N_c]? = some (.cells #[.int .i64 d, .int .i64 id, .slice A kc c] 33 (0, 0))) ∧ Hid (∀ y ∈ L.lw.take k, ∃ n E, MostE (zeroL L) y.J n E ∧ E ≠ 0)) (fun vi _ => n4 - (intOf vi).toNat)
  case atStart => exact ⟨0, rfl, by omega, l_l, l_c, HBel, HB_m, B_l, B_c, HI0⟩
  case round =>
   clear HBel HB_m hl_m B_l B_c l_l l_c hlow HI0
   obtain ⟨k, rfl, hk, l_l, l_c, HBel, HB_m, B_l, B_c, hI⟩ := hrel
   have hlow := HBel.out.size
   have hl_m := HB_m.out.size
   by_cases hlt : k < n4
   ·have u1 : decide (k < n4) = true := decide_eq_true hlt
    obtain ⟨x, hx⟩ := get_lt (l := L.lw) (k := k) (by rw [← HT4.out.2]; exact hlt)
    have hMx0 := hMo.out HF.out x (List.mem_of_getElem? hx)
    obtain ⟨b, off, hA, hb, hall⟩ := HT4.out.1.at_ hx
    rw [hA] at hMx0
    have hMx := Lib.hid hMx0
    clear hMx0
    have hcx := (hall k x hx).keep hb HBel.out
    have HX := Lib.hid (show CellsAt wr b (off + k * 10) (jbC x.J) from fun r v hr => hcx r v (by rcases r with _ | _ | _ | _ | _ | _ | _ | _ | r <;> first | exact hr | (simp [jbC] at hr)))
    have l7 : wr.cell? ⟨N_l, 7, none⟩ = some (.slice (some ⟨b, off, none⟩) n4 L.c4) := by rw [← hA]; exact cell_blk (i := 7) B_l.out rfl
    have L7 := Lib.hid l7
    have HQ := Lib.hid (And.intro hx hI.out)
    clear hall hx hb hcx hI l7
    obtain ⟨l0, l1, l2, l3, l4, l5, l6, l7, l8⟩ := cells9 B_l.out
    have l_l_0 : N_l < wr.heap.size + 1 := by omega
    clear l7
    have l7 := L7.out
    skip
    clear hA
    go_wp2_with (refine wpList_load_jb rfl _ rfl b (off + k * 10) x.J rfl HX.out ?_)
    clear l0 l1 l2 l3 l4 l5 l6 l7 l8 l_l_0
    obtain ⟨V1, hV1⟩ := nx (wr.alloc (.cells #[.int .i64 x.J.id, .int .i64 x.J.q, .int .i64 x.J.p, .int .i64 x.J.r, .int .i64 x.J.g, .int .i64 x.J.c, .int .i64 x.J.mn, .int .i64 x.J.mx] 38))
    rw [← hV1]
    have hzV1 := sz1 hV1
    replace HBel := be1 hV1 HBel hlow
    replace B_l := bk1 hV1 B_l l_l
    replace B_c := bk1 hV1 B_c l_c
    have B_j := Lib.hid (new10 hV1)
    obtain ⟨N_j, hN_j⟩ := nx (wr.heap.size)
    (try rw [← hN_j])
    rw [← hN_j] at B_j
    have d_l_j : N_l < N_j := by omega
    have d_c_j : N_c < N_j := by omega
    replace l_l : N_l < V1.heap.size := by omega
    replace l_c : N_c < V1.heap.size := by omega
    have l_j : N_j < V1.heap.size := by omega
    have g_j : w.heap.size ≤ N_j := by omega
    replace hlow : w.heap.size ≤ V1.heap.size := by omega
    replace HB_m := be1 hV1 HB_m hl_m
    replace hl_m : U5.heap.size ≤ V1.heap.size := by omega
    clear hV1 hzV1 hN_j
    clear L7
    refine (hMx.out V1 HBel.out).mono ?_
    rintro e U2 ⟨⟨A2, k2, cq, r, n, rfl, hE, hS⟩, hb9⟩
    have hs9 := hb9.size
    have HE := Lib.hid (And.intro hE hS)
    clear hE hS
    replace HB_m := bt9 HB_m hb9 hl_m
    replace hl_m : U5.heap.size ≤ U2.heap.size := by omega
    replace HBel := bt9 HBel hb9 hlow
    replace B_l := bb9 hb9 B_l l_l
    replace B_c := bb9 hb9 B_c l_c
    replace B_j := bb9 hb9 B_j l_j
    replace l_l : N_l < U2.heap.size := by omega
    replace l_c : N_c < U2.heap.size := by omega
    replace l_j : N_j < U2.heap.size := by omega
    replace hlow : w.heap.size ≤ U2.heap.size := by omega
    clear hb9 hs9
    by_cases hr : r = 0
    ·subst hr
     obtain ⟨rfl, h16, hln, hf2⟩ := HE.out.2 rfl
     obtain ⟨rfl, rfl, rfl⟩ := first_fill HQ.out.2 HQ.out.1 HE.out.1 HC.out
     have hkk : kc = k2 := HK.out.trans hln.symm
     subst hkk
     have HS2 := Lib.hid (And.intro hln (And.intro h16 hf2))
     have t4 : (x.id == x.J.id) = true := by show (x.id == x.id) = true; simp
     clear h16 hln hf2
     obtain ⟨c0, c1, c2⟩ := cells3 B_c.out
     obtain ⟨j0, j1, j2, j3, j4, j5, j6, j7⟩ := cells8 B_j.out
     go_wp2_with fail
     refine (hSa.out A A2 c cq kc (placeF x.J.S L.lv kc) HS2.out.1 HS2.out.2.1 U2 (HS.out.keep HB_m.out hl_m) HS2.out.2.2).mono ?_
     rintro e U3 ⟨rfl, hb9⟩
     clear c0 c1 c2 j0 j1 j2 j3 j4 j5 j6 j7
     have hs9 := hb9.size
     replace HB_m := bt9 HB_m hb9 hl_m
     replace hl_m : U5.heap.size ≤ U3.heap.size := by omega
     replace HBel := bt9 HBel hb9 hlow
     replace B_l := bb9 hb9 B_l l_l
     replace B_c := bb9 hb9 B_c l_c
     replace B_j := bb9 hb9 B_j l_j
     replace l_l : N_l < U3.heap.size := by omega
     replace l_c : N_c < U3.heap.size := by omega
     replace l_j : N_j < U3.heap.size := by omega
     replace hlow : w.heap.size ≤ U3.heap.size := by omega
     clear hb9 hs9
     go_wp2
     go_ret
     exact ⟨by first | rfl | (simp; done), by rw [HB0.out]; exact HBel.out⟩
    ·have t1 : (r != 0) = true := by simp [hr]
     have HN : Hid (∀ y ∈ L.lw.take (k + 1), ∃ n E, MostE (zeroL L) y.J n E ∧ E ≠ 0) := Lib.hid (by
      rw [take_next HQ.out.1]
      intro y hy
      rcases List.mem_append.1 hy with hy | hy
      ·exact HQ.out.2 y hy
      ·rw [List.mem_singleton.1 hy]; exact ⟨n, r, HE.out.1, hr⟩)
     clear hr
     go_wp2
     go_roundw
     case rel => exact ⟨k + 1, by go_num, by omega, l_l, l_c, HBel, HB_m, B_l, B_c, HN⟩
     case measure => simp [intOf]; omega
   ·obtain rfl : n4 = k := by omega
    have u1 : decide (n4 < n4) = false := decide_eq_false hlt
    have HD := Lib.hid (show d = 3 ∨ d = 0 from first_none (by have h9 := hI.out; rw [HT4.out.2, List.take_length] at h9; exact h9) HC.out)
    clear hI
    rcases HD.out with rfl | rfl
    ·obtain ⟨l0, l1, l2, l3, l4, l5, l6, l7, l8⟩ := cells9 B_l.out
     obtain ⟨c0, c1, c2⟩ := cells3 B_c.out
     go_wp2
     go_ret
     exact ⟨by first | rfl | (simp; done), by rw [HB0.out]; exact HBel.out⟩
    ·obtain ⟨l0, l1, l2, l3, l4, l5, l6, l7, l8⟩ := cells9 B_l.out
     obtain ⟨c0, c1, c2⟩ := cells3 B_c.out
     go_wp2
     go_ret
     exact ⟨by first | rfl | (simp; done), by rw [HB0.out]; exact HBel.out⟩

set_option maxRecDepth 100000 in
set_option maxHeartbeats 1000000 in
theorem lifted (os : Os) (started : os.Started) (H : Type) (enc : TypeId × Value → H) :
  ReturnsInHanded {} Tryz.checked os 6 .any (fun w args => (Rows.workerFirstSpec.pre enc Tryz.prog Tryz.f6 [] false w args ∧ laidMetH Tryz.prog laid1 w) ∧ sizedMet enc Tryz.prog Tryz.f6 (OpenSpec.ofChange Rows.workerFirstSpec) false w args)
   (Rows.workerFirstSpec.post enc Tryz.prog Tryz.f6 false true false false) := by
 refine returnsInHanded_of_change_and (C := Tryz.checked) (X := fun w _ => laidMetH Tryz.prog laid1 w) (fun _ _ _ hh h => h.of_heap hh) own started (by kernel_rfl) Tryz.func6
  (ChangeSpec.witness_shaped (enc := enc) (C := Tryz.checked) (os := os) (X := fun w _ => laidMetH Tryz.prog laid1 w) false (World.doorLaid Tryz.prog 400 os) #[.agg #[.int .i64 0, .int .i64 0, .int .i64 0, .int .i64 0, .slice none 0 0, .slice none 0 0, .slice none 0 0, .slice none 0 0, .slice none 0 0]] 8 rfl (World.shaped_of_RefB (by kernel_rfl) (by kernel_rfl)) (by kernel_rfl) (by kernel_rfl) (by kernel_rfl) (door_met os _)) ?_
 intro W base args ds gs before hval0 hW _ _ hL _
 have hval : ∀ (j : Nat) t v, Tryz.f6.params[j]? = some t → args[j]? = some v → Value.okWide Tryz.prog W .any base t v := hval0
 have hW' := hW
 obtain ⟨p, q, hA0, hV, rfl, hfz, hnd⟩ := hW
 have hA : DataW.TrodAll enc Tryz.prog W 0 (fun _ => true) true Tryz.f6.params.toList args.toList ds p := hA0
 rw [Tryz.params6] at hA hval
 obtain ⟨v0, vs0, d0, ds0, p0, q0, hargs, rfl, rfl, h0, r0⟩ := trodAll_cons hA
 obtain ⟨rfl, rfl, rfl⟩ := trodAll_nil r0
 obtain rfl : args = #[v0] := by cases args; simp_all
 obtain ⟨rfl, rfl⟩ := trodVars_none hV
 have k0 := h0
 have lt0 : ∀ x ∈ p0, x.block < W.heap.size := by obtain ⟨m, hm⟩ := k0; exact DataW.trod_lt m _ _ _ hm
 obtain ⟨x0, rfl, v0, q0⟩ := lk_of (hval 0 28 v0 rfl rfl) h0
 have hT := of_laid hL
 clear hL
 clear hA0 hval0
 refine (walk x0 W v0 q0 hT).mono fun e W' ⟨he, bel⟩ => ?_
 subst he
 exact ⟨_, rfl, _, _, _, [], _, [], hW', trodAll_mk1 (shut_bool Tryz.underlying4 _), (trodAll_cons_mk (Below.trod laidOut (by kernel_rfl) (of_decide_eq_true (by kernel_rfl)) k0 bel lt0) trodAll_mk0), rfl, bel.frame _, fun h => by cases h⟩

theorem row_holds : Rows.WorkerFirstSaid :=
 OpenClaim.holds_of_wide 6 Tryz.f6 rfl rfl rfl rfl rfl rfl rfl ⟨rfl, rfl, rfl, rfl, rfl⟩ rfl rfl rfl rfl rfl (by kernel_rfl) Tryz.func6 (by kernel_rfl)
  (of_decide_eq_true (by kernel_rfl)) (by unfold Func.isWrapper; first | (rw [if_pos (by decide +kernel)]; kernel_rfl) | (rw [if_neg (by decide +kernel)]; exact ⟨rfl, rfl⟩))
  (fun os started H enc _ => lifted os started H enc)

theorem card_holds : Rows.WorkerFirstCardSaid :=
 Claim7.holds_tied_plain_at .later [] [.data] true (true, Rows.workerFirstCard.stood.harness.2) false
  row_holds (fun _ h => by cases h) (by kernel_rfl) (fun _ h => by cases h) workerFirst_row_tie rfl ⟨rfl, rfl⟩ (by kernel_rfl) rfl
  (fun f fn hf hfn => by
   obtain rfl : f = 6 := Option.some.inj ((show Tryz.prog.funcNamed Rows.workerFirstRow.func = some 6 by kernel_rfl).symm.trans hf) |>.symm
   obtain rfl : fn = Tryz.f6 := (Option.some.inj (Tryz.func6.symm.trans hfn)).symm
   exact ⟨by kernel_rfl, fun j t ht => by
    rw [Tryz.params6] at ht
    have hm : t ∈ [28] := by simpa using Array.mem_of_getElem? ht
    have hall : ([28].all fun u => !Tryz.prog.wantsStandIn u) = true := by kernel_rfl
    exact (show Tryz.prog.wantsStandIn t = false by simpa using List.all_eq_true.1 hall t hm)⟩)
  (by kernel_rfl)
end Go.Proofs.YtmejcmoodbbmoaaGreatDoor.workerFirst
