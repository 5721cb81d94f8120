/- The document's placing: the best spot looked for each time. -/
import Derived.BigQuiet
import Derived.Deep.QuietTactic
import Derived.Test.YtmejcmoodbbmoaaGreatDoorPackTellsM
import Derived.Test.YtmejcmoodbbmoaaGreatDoorPackPick
namespace Go.Proofs.YtmejcmoodbbmoaaGreatDoor
open Go.RowKit
open PK
def marks (T : List Nat) (n : Nat) : List Value := (List.range n).map (fun i => Value.bool (decide (i ∈ T)))
theorem marks_at (T : List Nat) {n i : Nat} (h : i < n) : (marks T n)[i]? = some (.bool (decide (i ∈ T))) := by
 unfold marks; rw [List.getElem?_map, List.getElem?_range h]; rfl
def MarkAt (w : World) (g : Nat) (T : List Nat) (n : Nat) : Prop := w.heap[g]? = some (.cells (marks T n).toArray 4 (0, 0))
theorem MarkAt.cell {w : World} {g n i : Nat} {T : List Nat} (h : MarkAt w g T n) (hi : i < n) : w.cell? ⟨g, i, none⟩ = some (.bool (decide (i ∈ T))) := cell_blk h (by simpa using marks_at T hi)
theorem MarkAt.put {w : World} {g n i : Nat} {T : List Nat} (h : MarkAt w g T n) : MarkAt (w.setCell ⟨g, i, none⟩ (.bool true)) g (T ++ [i]) n := by
 have := blk_put (i := i) (.bool true) h
 unfold MarkAt
 rw [this]
 congr 2
 apply Array.toList_inj.1
 simp only [List.setIfInBounds_toArray]
 refine List.ext_getElem? fun x => ?_
 unfold marks
 rw [List.getElem?_set, List.getElem?_map, List.getElem?_map]
 rcases Nat.lt_or_ge x n with hx | hx
 ·rw [List.getElem?_range hx]
  by_cases hi : i = x
  ·subst hi; simp [hx]
  ·have hne : ¬ x = i := fun e => hi e.symm
   simp [hi, hne]
 ·rw [List.getElem?_eq_none (by simpa using hx)]
  simp
  omega
theorem own_emptyS {w : World} {base : Nat} : w.ownsRow base 70 4 (.slice none 0 0) 0 [] := ⟨rfl, .inl ⟨rfl, rfl⟩⟩
def lenV : Value → Nat
 | .slice _ n _ => n
 | _ => 0
set_option maxRecDepth 100000 in
set_option maxHeartbeats 8000000 in
theorem refplace_ok (A : Option Addr) (cap B : Nat) (l : List Fe) (S : Shp) (p : Nat) (w : World) (h : Fes w B A l) (hB : B ≤ w.heap.size) (hn : l.length ≤ 100000) (hw : S.Wf) (hf : ∀ f ∈ l, FeOk f ∧ 0 ≤ f.c) (hT : Tab w) (hok : S.ok = true) (hp1 : 1 ≤ p) (hp16 : p ≤ 16) (hr : p ≤ roomF S l) :
  Calls Tryz.prog 35 #[.slice A l.length cap, shV S, .int .i64 (p : Nat)] w fun e w' => ∃ A' cap', e = .returned (.tuple #[.slice A' p cap', .int .i64 0]) ∧ Below w.heap.size w w' ∧ Hid (Fes w' w'.heap.size A' (placeF S l p)) := by
 obtain ⟨n, hln⟩ : ∃ n, l.length = n := ⟨_, rfl⟩
 have hRt := Lib.hid (fun W => show Calls Tryz.prog 42 #[.agg #[.int .i64 S.g, .int .i64 S.c, .int .i64 S.mn, .int .i64 S.mx]] W (fun e w' => e = .returned (.bool true) ∧ Below W.heap.size W w') from (by have h9 := refright_any S.g S.c S.mn S.mx W hw; rw [show Shp.ok ⟨S.g, S.c, S.mn, S.mx⟩ = true from hok] at h9; exact h9))
 have hRm := Lib.hid (fun W (hW : Below w.heap.size w W) => show Calls Tryz.prog 29 #[.slice A n cap, .agg #[.int .i64 S.g, .int .i64 S.c, .int .i64 S.mn, .int .i64 S.mx]] W (fun e w' => e = .returned (.int .i64 (roomF S l : Nat)) ∧ Below W.heap.size W w') from (by
  have h9 := refroom_any A cap W.heap.size l S W (h.imp (Nat.le_trans hB hW.size) (fun _ _ _ hb hd => hd.keep (B := w.heap.size) (Nat.lt_of_lt_of_le hb hB) hW)) (Nat.le_refl _) (by omega) hw hf (hT.below hW hT.size)
  rw [hln] at h9; exact h9))
 have hRf := Lib.hid (fun (f : Fe) W (hfo : FeOk f) (h0 : 0 ≤ f.c) (hT : Tab W) => show Calls Tryz.prog 43 #[.agg #[.int .i64 S.g, .int .i64 S.c, .int .i64 S.mn, .int .i64 S.mx], .agg #[.int .i64 f.n, .int .i64 f.d, .int .u64 (f.m : Nat), .int .i64 f.c]] W (fun e w' => e = .returned (.int .i64 (fitF S f : Nat)) ∧ Below W.heap.size W w') from reffit_all S f W hw hfo h0 hT)
 have H := Lib.hid (And.intro h (And.intro hln (And.intro hf (And.intro hT hr))))
 have HT := Lib.hid hT
 have hrl := roomF_le S l
 obtain ⟨r, hrd⟩ : ∃ r, r = roomF S l := ⟨_, rfl⟩
 rw [← hrd] at hRm hr hrl
 rw [hln] at hn hrl ⊢
 have t0 : decide ((p : Int) < 1) = false := decide_eq_false (by omega)
 have t1 : decide (16 < (p : Int)) = false := decide_eq_false (by omega)
 have t2 : decide (r < p) = false := decide_eq_false (by omega)
 obtain ⟨MB, hMB⟩ := nx ((marks [] n).toArray)
 have hmk : ∀ W : World, (Instr.makeSlice 97 (.int .i64 (n : Nat)) (.int .i64 (n : Nat))).run Tryz.prog W = .ok (.slice (some ⟨W.heap.size, 0, none⟩) n n) (W.alloc (.cells MB 4)) := fun W => by
  obtain ⟨i0, hi, hz0, hz1, hz2⟩ : ∃ i : TypeInfo, Tryz.prog.info? 4 = some i ∧ i.zero = some (.bool false) ∧ i.size = 1 ∧ i.bytes = 1 := ⟨_, rfl, rfl, rfl, rfl⟩
  have := run_make (P := Tryz.prog) W 97 4 i0 _ Tryz.underlying97 hi hz0 .i64 .i64 (n : Nat) (n : Nat) (by omega) (by omega) (by rw [hz2]; omega) (by omega)
  rw [hz1] at this
  have e : madeCells (Value.bool false).cells (n * 1) = MB := by
   rw [Nat.mul_one, hMB]
   have := toList_madeCells_one (Value.bool false) n
   apply Array.toList_inj.1
   refine this.trans ?_
   unfold marks
   refine List.ext_getElem? fun x => ?_
   rw [List.getElem?_map, List.getElem?_replicate]
   rcases Nat.lt_or_ge x n with hx | hx
   ·rw [if_pos hx, List.getElem?_range hx]; simp
   ·rw [if_neg (by omega), List.getElem?_eq_none (by simpa using hx)]; rfl
  rw [← e]
  simpa using this
 have HMB := Lib.hid hMB
 unfold shV
 clear h hln hf hw hT hok hrd hMB
 have HBel := Lib.hid (Below.refl w.heap.size w)
 have hlow : w.heap.size ≤ w.heap.size := Nat.le_refl _
 go_enter Tryz.func35, Tryz.ntmps35
 go_wp2_with fail
 obtain ⟨V1, hV1⟩ := nx (w.alloc (.cells #[.int .i64 S.g, .int .i64 S.c, .int .i64 S.mn, .int .i64 S.mx] 36))
 rw [← hV1]
 have hzV1 := sz1 hV1
 replace HBel := be1 hV1 HBel hlow
 have B_s := Lib.hid (new10 hV1)
 obtain ⟨N_s, hN_s⟩ := nx (w.heap.size)
 (try rw [← hN_s])
 rw [← hN_s] at B_s
 have l_s : N_s < V1.heap.size := by omega
 have g_s : w.heap.size ≤ N_s := by omega
 replace hlow : w.heap.size ≤ V1.heap.size := by omega
 clear hV1 hzV1 hN_s
 obtain ⟨s0, s1, s2, s3⟩ := cells4 B_s.out
 go_wp2_with fail
 refine (hRt.out V1).mono ?_
 rintro e U2 ⟨rfl, hb9⟩
 clear s0 s1 s2 s3
 have hs9 := hb9.size
 replace HBel := bt9 HBel hb9 hlow
 replace B_s := bb9 hb9 B_s l_s
 replace l_s : N_s < U2.heap.size := by omega
 replace hlow : w.heap.size ≤ U2.heap.size := by omega
 clear hb9 hs9
 obtain ⟨s0, s1, s2, s3⟩ := cells4 B_s.out
 go_wp2_with fail
 refine (hRm.out U2 HBel.out).mono ?_
 rintro e U3 ⟨rfl, hb9⟩
 clear s0 s1 s2 s3
 have hs9 := hb9.size
 replace HBel := bt9 HBel hb9 hlow
 replace B_s := bb9 hb9 B_s l_s
 replace l_s : N_s < U3.heap.size := by omega
 replace hlow : w.heap.size ≤ U3.heap.size := by omega
 clear hb9 hs9
 go_wp2_with fail
 obtain ⟨W1, hW1⟩ := nx (U3.alloc (.cells MB 4))
 rw [← hW1]
 have hB1 : Hid (Below w.heap.size w W1) := Lib.hid (by rw [hW1]; exact HBel.out.alloc hlow _)
 have B_1 : Hid (W1.heap[N_s]? = some (.cells #[.int .i64 S.g, .int .i64 S.c, .int .i64 S.mn, .int .i64 S.mx] 36 (0, 0))) := Lib.hid (by rw [hW1]; exact (Below.heap_alloc _ _ _ l_s).trans B_s.out)
 have hM1 : Hid (MarkAt W1 U3.heap.size ((orderF (fitsL S l)).take 0) n) := Lib.hid (by unfold MarkAt; rw [List.take_zero, ← HMB.out, hW1]; exact heap_alloc_new _ _)
 have hsz : W1.heap.size = U3.heap.size + 1 := by rw [hW1]; simp
 obtain ⟨G, hG⟩ := nx (U3.heap.size)
 rw [← hG] at hM1 hsz l_s hlow ⊢
 have hG1 : G < W1.heap.size := by omega
 clear hG hsz hW1 HBel B_s hmk HMB
 go_loopw [8] (fun v wr => ∃ (j m : Nat) (A' : Option Addr) (cap' : Nat), v = .slice A' m cap' ∧ j ≤ n ∧ Hid (m = min p (fitSum S l ((orderF (fitsL S l)).take j))) ∧ Hid (Below G W1 wr) ∧ Hid (MarkAt wr G ((orderF (fitsL S l)).take j) n) ∧ Hid (wr.ownsRow (G + 1) 70 4 v m ((placeL S l ((orderF (fitsL S l)).take j) p).flatMap feC))) (fun v _ => p - lenV v)
 case atStart => exact ⟨0, 0, none, 0, rfl, Nat.zero_le _, Lib.hid (by simp [fitSum]), Lib.hid (Below.refl G W1), hM1, Lib.hid own_emptyS⟩
 case round =>
  obtain ⟨j, m, A', cap', rfl, hj, hm, hBo, hMo, hOo⟩ := hrel
  obtain ⟨Z, hZ⟩ := nx (orderF (fitsL S l))
  by_cases hlt : m < p
  ·have t3 : decide (m < p) = true := decide_eq_true hlt
   have hBos := hBo.out.size
   obtain ⟨W2, hW2⟩ := nx (wr)
   rw [← hW2] at hBo hMo hOo hBos
   have HW2 := Lib.hid hW2
   clear hW2
   go_wp2_with fail
   rw [← HW2.out]
   clear HW2
   go_loopw [10, 11] (fun a i wr => ∃ (k : Nat) (b : Int), a = .int .i64 b ∧ i = .int .i64 k ∧ k ≤ n ∧ Hid (Best (fitsL S l) ((orderF (fitsL S l)).take j) k b) ∧ Hid (Below W2.heap.size W2 wr)) (fun _ i _ => n - (intOf i).toNat)
   case atStart => exact ⟨0, -1, rfl, rfl, Nat.zero_le _, Lib.hid (Best.start _ _), Lib.hid (Below.refl _ _)⟩
   case round =>
    obtain ⟨k, bb, rfl, rfl, hk, hbst, hBe⟩ := hrel
    have hBs := hBe.out.size
    have hBg := Lib.hid (hBo.out.trans (hBe.out.mono (show G ≤ W2.heap.size by omega)))
    have hBw := Lib.hid (hB1.out.trans (hBg.out.mono hlow))
    have hws : w.heap.size ≤ wr.heap.size := by omega
    have hMk : MarkAt wr G ((orderF (fitsL S l)).take j) n := (hBe.out.block _ (show G < W2.heap.size by omega)).trans hMo.out
    by_cases hkn : k < n
    ·have t4 : decide (k < n) = true := decide_eq_true hkn
     have j0 : (0 : Int) ≤ (k : Int) := by omega
     have j1 : (k : Int) < (n : Int) := by omega
     have mk := hMk.cell hkn
     by_cases hkt : k ∈ (orderF (fitsL S l)).take j
     ·rw [decide_eq_true hkt] at mk
      have HN := Lib.hid (hbst.out.past hkt)
      clear hMk hkt hbst
      go_wp2_with fail
      refine held_begin (fun w' : World => w'.cell? ⟨G, k, none⟩ = some (.bool true)) (by kernel_rfl) ?_
      have hBh0 : Below wr.heap.size wr wr.drew := (Below.refl _ _).drew
      have hSh0 : (fun w' : World => w'.cell? ⟨G, k, none⟩ = some (.bool true)) wr.drew := mk
      generalize wr.drew = Dw at hBh0 hSh0 ⊢
      refine tkH ?_ 0 47 ?_ hSh0 ?_;rotate_left
      ·rintro w' x0;go_simp;(try with_reducible rfl)
      simp only [Act.put, pzA, pzB, pzC]
      refine tkH ?_ 1 48 ?_ hSh0 ?_;rotate_left
      ·rintro w' x0;go_simp;(try with_reducible rfl)
      simp only [Act.put, pzA, pzB, pzC]
      refine tkH ?_ 2 49 ?_ hSh0 ?_;rotate_left
      ·rintro w' x0;go_simp;(try with_reducible rfl)
      simp only [Act.put, pzA, pzB, pzC]
      refine tkH ?_ 3 50 ?_ hSh0 ?_;rotate_left
      ·rintro w' x0;go_simp;(try with_reducible rfl)
      simp only [Act.put, pzA, pzB, pzC]
      refine tkH ?_ 4 51 ?_ hSh0 ?_;rotate_left
      ·rintro w' x0;go_simp;(try with_reducible rfl)
      simp only [Act.put, pzA, pzB, pzC]
      refine tkH ?_ 5 52 ?_ hSh0 ?_;rotate_left
      ·rintro w' x0;go_simp;(try with_reducible rfl)
      simp only [Act.put, pzA, pzB, pzC]
      refine held_skipK 6 53 rfl rfl (by rfl) hSh0 ?_
      simp only [Act.put, pzA, pzB, pzC]
      refine held_skipK 7 54 rfl rfl (by rfl) hSh0 ?_
      simp only [Act.put, pzA, pzB, pzC]
      refine held_skipK 8 55 rfl rfl (by rfl) hSh0 ?_
      simp only [Act.put, pzA, pzB, pzC]
      refine held_skipK 9 56 rfl rfl (by rfl) hSh0 ?_
      simp only [Act.put, pzA, pzB, pzC]
      refine held_skipK 10 57 rfl rfl (by rfl) hSh0 ?_
      simp only [Act.put, pzA, pzB, pzC]
      refine held_skipK 11 58 rfl rfl (by rfl) hSh0 ?_
      simp only [Act.put, pzA, pzB, pzC]
      refine held_skipK 12 59 rfl rfl (by rfl) hSh0 ?_
      simp only [Act.put, pzA, pzB, pzC]
      refine held_skipK 13 60 rfl rfl (by rfl) hSh0 ?_
      simp only [Act.put, pzA, pzB, pzC]
      refine held_skipK 14 61 rfl rfl (by rfl) hSh0 ?_
      simp only [Act.put, pzA, pzB, pzC]
      refine held_skipK 15 62 rfl rfl (by rfl) hSh0 ?_
      simp only [Act.put, pzA, pzB, pzC]
      refine held_skipK 16 63 rfl rfl (by rfl) hSh0 ?_
      simp only [Act.put, pzA, pzB, pzC]
      refine held_skipK 17 64 rfl rfl (by rfl) hSh0 ?_
      simp only [Act.put, pzA, pzB, pzC]
      refine held_skipK 18 65 rfl rfl (by rfl) hSh0 ?_
      simp only [Act.put, pzA, pzB, pzC]
      refine held_skipK 19 66 rfl rfl (by rfl) hSh0 ?_
      simp only [Act.put, pzA, pzB, pzC]
      refine held_skipK 20 67 rfl rfl (by rfl) hSh0 ?_
      simp only [Act.put, pzA, pzB, pzC]
      refine held_skipK 21 68 rfl rfl (by rfl) hSh0 ?_
      simp only [Act.put, pzA, pzB, pzC]
      refine held_skipK 22 69 rfl rfl (by rfl) hSh0 ?_
      simp only [Act.put, pzA, pzB, pzC]
      refine tkH ?_ 23 70 ?_ hSh0 ?_;rotate_left
      ·rintro w' x0;go_simp;(try with_reducible rfl)
      simp only [Act.put, pzA, pzB, pzC]
      refine wpAnyH_done (by kernel_rfl) ?_ _
      go_wp2
      go_roundw
      case rel => exact ⟨k + 1, bb, rfl, by go_num, by omega, HN, Lib.hid (hBe.out.trans (hBh0.mono hBs))⟩
      case measure => simp [intOf]; omega
     ·rw [decide_eq_false hkt] at mk
      by_cases hbb : bb < 0
      ·have t5 : decide (bb < 0) = true := decide_eq_true hbb
       have hb1 : bb = -1 := by rcases hbst.out with ⟨h, _⟩ | ⟨c, h, _⟩; exact h; omega
       subst hb1
       have HN := Lib.hid (hbst.out.first hkt)
       clear hMk hkt hbst
       go_wp2_with fail
       refine held_begin (fun w' : World => w'.cell? ⟨G, k, none⟩ = some (.bool false)) (by kernel_rfl) ?_
       have hBh0 : Below wr.heap.size wr wr.drew := (Below.refl _ _).drew
       have hSh0 : (fun w' : World => w'.cell? ⟨G, k, none⟩ = some (.bool false)) wr.drew := mk
       generalize wr.drew = Dw at hBh0 hSh0 ⊢
       refine tkH ?_ 0 47 ?_ hSh0 ?_;rotate_left
       ·rintro w' x0;go_simp;(try with_reducible rfl)
       simp only [Act.put, pzA, pzB, pzC]
       refine tkH ?_ 1 48 ?_ hSh0 ?_;rotate_left
       ·rintro w' x0;go_simp;(try with_reducible rfl)
       simp only [Act.put, pzA, pzB, pzC]
       refine tkH ?_ 2 49 ?_ hSh0 ?_;rotate_left
       ·rintro w' x0;go_simp;(try with_reducible rfl)
       simp only [Act.put, pzA, pzB, pzC]
       refine tkH ?_ 3 50 ?_ hSh0 ?_;rotate_left
       ·rintro w' x0;go_simp;(try with_reducible rfl)
       simp only [Act.put, pzA, pzB, pzC]
       refine tkH ?_ 4 51 ?_ hSh0 ?_;rotate_left
       ·rintro w' x0;go_simp;(try with_reducible rfl)
       simp only [Act.put, pzA, pzB, pzC]
       refine tkH ?_ 5 52 ?_ hSh0 ?_;rotate_left
       ·rintro w' x0;go_simp;(try with_reducible rfl)
       simp only [Act.put, pzA, pzB, pzC]
       refine tkH ?_ 6 53 ?_ hSh0 ?_;rotate_left
       ·rintro w' x0;go_simp;(try with_reducible rfl)
       simp only [Act.put, pzA, pzB, pzC]
       refine tkH ?_ 7 54 ?_ hSh0 ?_;rotate_left
       ·rintro w' x0;go_simp;(try with_reducible rfl)
       simp only [Act.put, pzA, pzB, pzC]
       refine tkH ?_ 8 55 ?_ hSh0 ?_;rotate_left
       ·rintro w' x0;go_simp;(try with_reducible rfl)
       simp only [Act.put, pzA, pzB, pzC]
       refine held_skipK 9 56 rfl rfl (by rfl) hSh0 ?_
       simp only [Act.put, pzA, pzB, pzC]
       refine held_skipK 10 57 rfl rfl (by rfl) hSh0 ?_
       simp only [Act.put, pzA, pzB, pzC]
       refine held_skipK 11 58 rfl rfl (by rfl) hSh0 ?_
       simp only [Act.put, pzA, pzB, pzC]
       refine held_skipK 12 59 rfl rfl (by rfl) hSh0 ?_
       simp only [Act.put, pzA, pzB, pzC]
       refine held_skipK 13 60 rfl rfl (by rfl) hSh0 ?_
       simp only [Act.put, pzA, pzB, pzC]
       refine held_skipK 14 61 rfl rfl (by rfl) hSh0 ?_
       simp only [Act.put, pzA, pzB, pzC]
       refine held_skipK 15 62 rfl rfl (by rfl) hSh0 ?_
       simp only [Act.put, pzA, pzB, pzC]
       refine held_skipK 16 63 rfl rfl (by rfl) hSh0 ?_
       simp only [Act.put, pzA, pzB, pzC]
       refine held_skipK 17 64 rfl rfl (by rfl) hSh0 ?_
       simp only [Act.put, pzA, pzB, pzC]
       refine held_skipK 18 65 rfl rfl (by rfl) hSh0 ?_
       simp only [Act.put, pzA, pzB, pzC]
       refine held_skipK 19 66 rfl rfl (by rfl) hSh0 ?_
       simp only [Act.put, pzA, pzB, pzC]
       refine held_skipK 20 67 rfl rfl (by rfl) hSh0 ?_
       simp only [Act.put, pzA, pzB, pzC]
       refine held_skipK 21 68 rfl rfl (by rfl) hSh0 ?_
       simp only [Act.put, pzA, pzB, pzC]
       refine tkH ?_ 22 69 ?_ hSh0 ?_;rotate_left
       ·rintro w' x0;go_simp;(try with_reducible rfl)
       simp only [Act.put, pzA, pzB, pzC]
       refine tkH ?_ 23 70 ?_ hSh0 ?_;rotate_left
       ·rintro w' x0;go_simp;(try with_reducible rfl)
       simp only [Act.put, pzA, pzB, pzC]
       refine wpAnyH_done (by kernel_rfl) ?_ _
       go_wp2
       go_roundw
       case rel => exact ⟨k + 1, (k : Int), rfl, by go_num, by omega, HN, Lib.hid (hBe.out.trans (hBh0.mono hBs))⟩
       case measure => simp [intOf]; omega
      ·have t5 : decide (bb < 0) = false := decide_eq_false hbb
       obtain ⟨c, rfl⟩ : ∃ c : Nat, bb = c := ⟨bb.toNat, by omega⟩
       have hcn : c < k := by
        rcases hbst.out with ⟨h, _⟩ | ⟨c', h, h2, _⟩ <;> omega
       obtain ⟨f, hx⟩ := get_lt (l := l) (k := k) (by rw [H.out.2.1]; exact hkn)
       obtain ⟨g, hy⟩ := get_lt (l := l) (k := c) (by rw [H.out.2.1]; omega)
       obtain ⟨b, off, rfl, hb, hc⟩ := H.out.1.at_ hx
       obtain ⟨hfo, hf0⟩ := H.out.2.2.1 f (List.mem_of_getElem? hx)
       obtain ⟨hgo, hg0⟩ := H.out.2.2.1 g (List.mem_of_getElem? hy)
       obtain ⟨f0, f1, f2, f3⟩ := (hc k f hx).keep (B := w.heap.size) (by omega) hBw.out
       obtain ⟨g0, g1, g2, g3⟩ := (hc c g hy).keep (B := w.heap.size) (by omega) hBw.out
       have hC1 := fun W hT => hRf.out f W hfo hf0 hT
       have hC2 := fun W hT => hRf.out g W hgo hg0 hT
       have e1 := ftL_at (S := S) hx
       have e2 := ftL_at (S := S) hy
       rw [← e1] at hC1
       rw [← e2] at hC2
       obtain ⟨x1, hx1⟩ := nx (ftL (fitsL S l) k)
       obtain ⟨x2, hx2⟩ := nx (ftL (fitsL S l) c)
       rw [← hx1] at hC1
       rw [← hx2] at hC2
       have hC1 := Lib.hid hC1
       have hC2 := Lib.hid hC2
       have bs := (hBg.out.block _ l_s).trans B_1.out
       have s0 := cell_blk (i := 0) bs rfl
       have s1 := cell_blk (i := 1) bs rfl
       have s2 := cell_blk (i := 2) bs rfl
       have s3 := cell_blk (i := 3) bs rfl
       have hbx : b < wr.heap.size := by have := hBw.out.size; omega
       have hns : N_s < wr.heap.size := by omega
       have j2 : (0 : Int) ≤ (c : Int) := by omega
       have j3 : (c : Int) < (n : Int) := by omega
       by_cases hgt : x2 < x1
       ·have t6 : decide (x2 < x1) = true := decide_eq_true hgt
        have HN := Lib.hid (hbst.out.take (fitsL_le S l) (by rw [fitsL_len, H.out.2.1]; exact hkn) hkt (by omega))
        clear hMk hkt hbst hx hy hc hfo hf0 hgo hg0 e1 e2 hx1 hx2 bs
        go_wp2_with fail
        refine held_begin (fun w' : World => w'.cell? ⟨G, k, none⟩ = some (.bool false) ∧ w'.cell? ⟨N_s, 0, none⟩ = some (.int .i64 S.g) ∧ w'.cell? ⟨N_s, 1, none⟩ = some (.int .i64 S.c) ∧ w'.cell? ⟨N_s, 2, none⟩ = some (.int .i64 S.mn) ∧ w'.cell? ⟨N_s, 3, none⟩ = some (.int .i64 S.mx) ∧ w'.cell? ⟨b, off + k * 4, none⟩ = some (.int .i64 f.n) ∧ w'.cell? ⟨b, off + k * 4 + 1, none⟩ = some (.int .i64 f.d) ∧ w'.cell? ⟨b, off + k * 4 + 2, none⟩ = some (.int .u64 (f.m : Nat)) ∧ w'.cell? ⟨b, off + k * 4 + 3, none⟩ = some (.int .i64 f.c) ∧ w'.cell? ⟨b, off + c * 4, none⟩ = some (.int .i64 g.n) ∧ w'.cell? ⟨b, off + c * 4 + 1, none⟩ = some (.int .i64 g.d) ∧ w'.cell? ⟨b, off + c * 4 + 2, none⟩ = some (.int .u64 (g.m : Nat)) ∧ w'.cell? ⟨b, off + c * 4 + 3, none⟩ = some (.int .i64 g.c)) (by kernel_rfl) ?_
        have hBh0 : Below wr.heap.size wr wr.drew := (Below.refl _ _).drew
        have hSh0 : (fun w' : World => w'.cell? ⟨G, k, none⟩ = some (.bool false) ∧ w'.cell? ⟨N_s, 0, none⟩ = some (.int .i64 S.g) ∧ w'.cell? ⟨N_s, 1, none⟩ = some (.int .i64 S.c) ∧ w'.cell? ⟨N_s, 2, none⟩ = some (.int .i64 S.mn) ∧ w'.cell? ⟨N_s, 3, none⟩ = some (.int .i64 S.mx) ∧ w'.cell? ⟨b, off + k * 4, none⟩ = some (.int .i64 f.n) ∧ w'.cell? ⟨b, off + k * 4 + 1, none⟩ = some (.int .i64 f.d) ∧ w'.cell? ⟨b, off + k * 4 + 2, none⟩ = some (.int .u64 (f.m : Nat)) ∧ w'.cell? ⟨b, off + k * 4 + 3, none⟩ = some (.int .i64 f.c) ∧ w'.cell? ⟨b, off + c * 4, none⟩ = some (.int .i64 g.n) ∧ w'.cell? ⟨b, off + c * 4 + 1, none⟩ = some (.int .i64 g.d) ∧ w'.cell? ⟨b, off + c * 4 + 2, none⟩ = some (.int .u64 (g.m : Nat)) ∧ w'.cell? ⟨b, off + c * 4 + 3, none⟩ = some (.int .i64 g.c)) wr.drew := ⟨mk, s0, s1, s2, s3, f0, f1, f2, f3, g0, g1, g2, g3⟩
        generalize wr.drew = Dw at hBh0 hSh0 ⊢
        refine tkH ?_ 0 47 ?_ hSh0 ?_;rotate_left
        ·rintro w' ⟨x0, x1, x2, x3, x4, x5, x6, x7, x8, x9, x10, x11, x12⟩;go_simp;(try with_reducible rfl)
        simp only [Act.put, pzA, pzB, pzC]
        refine tkH ?_ 1 48 ?_ hSh0 ?_;rotate_left
        ·rintro w' ⟨x0, x1, x2, x3, x4, x5, x6, x7, x8, x9, x10, x11, x12⟩;go_simp;(try with_reducible rfl)
        simp only [Act.put, pzA, pzB, pzC]
        refine tkH ?_ 2 49 ?_ hSh0 ?_;rotate_left
        ·rintro w' ⟨x0, x1, x2, x3, x4, x5, x6, x7, x8, x9, x10, x11, x12⟩;go_simp;(try with_reducible rfl)
        simp only [Act.put, pzA, pzB, pzC]
        refine tkH ?_ 3 50 ?_ hSh0 ?_;rotate_left
        ·rintro w' ⟨x0, x1, x2, x3, x4, x5, x6, x7, x8, x9, x10, x11, x12⟩;go_simp;(try with_reducible rfl)
        simp only [Act.put, pzA, pzB, pzC]
        refine tkH ?_ 4 51 ?_ hSh0 ?_;rotate_left
        ·rintro w' ⟨x0, x1, x2, x3, x4, x5, x6, x7, x8, x9, x10, x11, x12⟩;go_simp;(try with_reducible rfl)
        simp only [Act.put, pzA, pzB, pzC]
        refine tkH ?_ 5 52 ?_ hSh0 ?_;rotate_left
        ·rintro w' ⟨x0, x1, x2, x3, x4, x5, x6, x7, x8, x9, x10, x11, x12⟩;go_simp;(try with_reducible rfl)
        simp only [Act.put, pzA, pzB, pzC]
        refine tkH ?_ 6 53 ?_ hSh0 ?_;rotate_left
        ·rintro w' ⟨x0, x1, x2, x3, x4, x5, x6, x7, x8, x9, x10, x11, x12⟩;go_simp;(try with_reducible rfl)
        simp only [Act.put, pzA, pzB, pzC]
        refine tkH ?_ 7 54 ?_ hSh0 ?_;rotate_left
        ·rintro w' ⟨x0, x1, x2, x3, x4, x5, x6, x7, x8, x9, x10, x11, x12⟩;go_simp;(try with_reducible rfl)
        simp only [Act.put, pzA, pzB, pzC]
        refine tkH ?_ 8 55 ?_ hSh0 ?_;rotate_left
        ·rintro w' ⟨x0, x1, x2, x3, x4, x5, x6, x7, x8, x9, x10, x11, x12⟩;go_simp;(try with_reducible rfl)
        simp only [Act.put, pzA, pzB, pzC]
        refine tkH ?_ 9 56 ?_ hSh0 ?_;rotate_left
        ·rintro w' ⟨x0, x1, x2, x3, x4, x5, x6, x7, x8, x9, x10, x11, x12⟩;go_simp;(try with_reducible rfl)
        simp only [Act.put, pzA, pzB, pzC]
        refine tkH ?_ 10 57 ?_ hSh0 ?_;rotate_left
        ·rintro w' ⟨x0, x1, x2, x3, x4, x5, x6, x7, x8, x9, x10, x11, x12⟩;go_simp;(try with_reducible rfl)
        simp only [Act.put, pzA, pzB, pzC]
        refine tkH ?_ 11 58 ?_ hSh0 ?_;rotate_left
        ·rintro w' ⟨x0, x1, x2, x3, x4, x5, x6, x7, x8, x9, x10, x11, x12⟩;go_simp;(try with_reducible rfl)
        simp only [Act.put, pzA, pzB, pzC]
        refine tkH ?_ 12 59 ?_ hSh0 ?_;rotate_left
        ·rintro w' ⟨x0, x1, x2, x3, x4, x5, x6, x7, x8, x9, x10, x11, x12⟩;go_simp;(try with_reducible rfl)
        simp only [Act.put, pzA, pzB, pzC]
        refine tkH ?_ 13 60 ?_ hSh0 ?_;rotate_left
        ·rintro w' ⟨x0, x1, x2, x3, x4, x5, x6, x7, x8, x9, x10, x11, x12⟩;go_simp;(try with_reducible rfl)
        simp only [Act.put, pzA, pzB, pzC]
        refine tkH ?_ 15 62 ?_ hSh0 ?_;rotate_left
        ·rintro w' ⟨x0, x1, x2, x3, x4, x5, x6, x7, x8, x9, x10, x11, x12⟩;go_simp;(try with_reducible rfl)
        simp only [Act.put, pzA, pzB, pzC]
        refine tkH ?_ 16 63 ?_ hSh0 ?_;rotate_left
        ·rintro w' ⟨x0, x1, x2, x3, x4, x5, x6, x7, x8, x9, x10, x11, x12⟩;go_simp;(try with_reducible rfl)
        simp only [Act.put, pzA, pzB, pzC]
        refine tkH ?_ 17 64 ?_ hSh0 ?_;rotate_left
        ·rintro w' ⟨x0, x1, x2, x3, x4, x5, x6, x7, x8, x9, x10, x11, x12⟩;go_simp;(try with_reducible rfl)
        simp only [Act.put, pzA, pzB, pzC]
        refine tkH ?_ 18 65 ?_ hSh0 ?_;rotate_left
        ·rintro w' ⟨x0, x1, x2, x3, x4, x5, x6, x7, x8, x9, x10, x11, x12⟩;go_simp;(try with_reducible rfl)
        simp only [Act.put, pzA, pzB, pzC]
        refine tkH ?_ 19 66 ?_ hSh0 ?_;rotate_left
        ·rintro w' ⟨x0, x1, x2, x3, x4, x5, x6, x7, x8, x9, x10, x11, x12⟩;go_simp;(try with_reducible rfl)
        simp only [Act.put, pzA, pzB, pzC]
        refine held_one 14 rfl (by kernel_rfl) (by rfl) (fun K hK => ?_)
        go_simp
        go_at_call 43
        refine (hC1.out Dw (HT.out.below (hBw.out.trans (hBh0.mono hws)) HT.out.size)).mono ?_
        rintro e wh1 ⟨rfl, hbh1⟩
        have hBh1 : Below wr.heap.size wr wh1 := below_step hBh0 hbh1
        have hSh1 := And.intro (ck hBh1 mk) (And.intro (ck hBh1 s0) (And.intro (ck hBh1 s1) (And.intro (ck hBh1 s2) (And.intro (ck hBh1 s3) (And.intro (ck hBh1 f0) (And.intro (ck hBh1 f1) (And.intro (ck hBh1 f2) (And.intro (ck hBh1 f3) (And.intro (ck hBh1 g0) (And.intro (ck hBh1 g1) (And.intro (ck hBh1 g2) (ck hBh1 g3))))))))))))
        refine hK.out _ _ hSh1 ?_
        clear hK K
        refine held_one 20 rfl (by kernel_rfl) (by rfl) (fun K hK => ?_)
        go_simp
        go_at_call 43
        refine (hC2.out wh1 (HT.out.below (hBw.out.trans (hBh1.mono hws)) HT.out.size)).mono ?_
        rintro e wh2 ⟨rfl, hbh2⟩
        have hBh2 : Below wr.heap.size wr wh2 := below_step hBh1 hbh2
        have hSh2 := And.intro (ck hBh2 mk) (And.intro (ck hBh2 s0) (And.intro (ck hBh2 s1) (And.intro (ck hBh2 s2) (And.intro (ck hBh2 s3) (And.intro (ck hBh2 f0) (And.intro (ck hBh2 f1) (And.intro (ck hBh2 f2) (And.intro (ck hBh2 f3) (And.intro (ck hBh2 g0) (And.intro (ck hBh2 g1) (And.intro (ck hBh2 g2) (ck hBh2 g3))))))))))))
        refine hK.out _ _ hSh2 ?_
        clear hK K
        refine tkH ?_ 21 68 ?_ hSh2 ?_;rotate_left
        ·rintro w' ⟨x0, x1, x2, x3, x4, x5, x6, x7, x8, x9, x10, x11, x12⟩;go_simp;(try with_reducible rfl)
        simp only [Act.put, pzA, pzB, pzC]
        refine tkH ?_ 22 69 ?_ hSh2 ?_;rotate_left
        ·rintro w' ⟨x0, x1, x2, x3, x4, x5, x6, x7, x8, x9, x10, x11, x12⟩;go_simp;(try with_reducible rfl)
        simp only [Act.put, pzA, pzB, pzC]
        refine tkH ?_ 23 70 ?_ hSh2 ?_;rotate_left
        ·rintro w' ⟨x0, x1, x2, x3, x4, x5, x6, x7, x8, x9, x10, x11, x12⟩;go_simp;(try with_reducible rfl)
        simp only [Act.put, pzA, pzB, pzC]
        refine wpAnyH_done (by kernel_rfl) ?_ _
        go_wp2
        go_roundw
        case rel => exact ⟨k + 1, (k : Int), rfl, by go_num, by omega, HN, Lib.hid (hBe.out.trans (hBh2.mono hBs))⟩
        case measure => simp [intOf]; omega
       ·have t6 : decide (x2 < x1) = false := decide_eq_false hgt
        have HN := Lib.hid (hbst.out.keep (by omega))
        clear hMk hkt hbst hx hy hc hfo hf0 hgo hg0 e1 e2 hx1 hx2 bs
        go_wp2_with fail
        refine held_begin (fun w' : World => w'.cell? ⟨G, k, none⟩ = some (.bool false) ∧ w'.cell? ⟨N_s, 0, none⟩ = some (.int .i64 S.g) ∧ w'.cell? ⟨N_s, 1, none⟩ = some (.int .i64 S.c) ∧ w'.cell? ⟨N_s, 2, none⟩ = some (.int .i64 S.mn) ∧ w'.cell? ⟨N_s, 3, none⟩ = some (.int .i64 S.mx) ∧ w'.cell? ⟨b, off + k * 4, none⟩ = some (.int .i64 f.n) ∧ w'.cell? ⟨b, off + k * 4 + 1, none⟩ = some (.int .i64 f.d) ∧ w'.cell? ⟨b, off + k * 4 + 2, none⟩ = some (.int .u64 (f.m : Nat)) ∧ w'.cell? ⟨b, off + k * 4 + 3, none⟩ = some (.int .i64 f.c) ∧ w'.cell? ⟨b, off + c * 4, none⟩ = some (.int .i64 g.n) ∧ w'.cell? ⟨b, off + c * 4 + 1, none⟩ = some (.int .i64 g.d) ∧ w'.cell? ⟨b, off + c * 4 + 2, none⟩ = some (.int .u64 (g.m : Nat)) ∧ w'.cell? ⟨b, off + c * 4 + 3, none⟩ = some (.int .i64 g.c)) (by kernel_rfl) ?_
        have hBh0 : Below wr.heap.size wr wr.drew := (Below.refl _ _).drew
        have hSh0 : (fun w' : World => w'.cell? ⟨G, k, none⟩ = some (.bool false) ∧ w'.cell? ⟨N_s, 0, none⟩ = some (.int .i64 S.g) ∧ w'.cell? ⟨N_s, 1, none⟩ = some (.int .i64 S.c) ∧ w'.cell? ⟨N_s, 2, none⟩ = some (.int .i64 S.mn) ∧ w'.cell? ⟨N_s, 3, none⟩ = some (.int .i64 S.mx) ∧ w'.cell? ⟨b, off + k * 4, none⟩ = some (.int .i64 f.n) ∧ w'.cell? ⟨b, off + k * 4 + 1, none⟩ = some (.int .i64 f.d) ∧ w'.cell? ⟨b, off + k * 4 + 2, none⟩ = some (.int .u64 (f.m : Nat)) ∧ w'.cell? ⟨b, off + k * 4 + 3, none⟩ = some (.int .i64 f.c) ∧ w'.cell? ⟨b, off + c * 4, none⟩ = some (.int .i64 g.n) ∧ w'.cell? ⟨b, off + c * 4 + 1, none⟩ = some (.int .i64 g.d) ∧ w'.cell? ⟨b, off + c * 4 + 2, none⟩ = some (.int .u64 (g.m : Nat)) ∧ w'.cell? ⟨b, off + c * 4 + 3, none⟩ = some (.int .i64 g.c)) wr.drew := ⟨mk, s0, s1, s2, s3, f0, f1, f2, f3, g0, g1, g2, g3⟩
        generalize wr.drew = Dw at hBh0 hSh0 ⊢
        refine tkH ?_ 0 47 ?_ hSh0 ?_;rotate_left
        ·rintro w' ⟨x0, x1, x2, x3, x4, x5, x6, x7, x8, x9, x10, x11, x12⟩;go_simp;(try with_reducible rfl)
        simp only [Act.put, pzA, pzB, pzC]
        refine tkH ?_ 1 48 ?_ hSh0 ?_;rotate_left
        ·rintro w' ⟨x0, x1, x2, x3, x4, x5, x6, x7, x8, x9, x10, x11, x12⟩;go_simp;(try with_reducible rfl)
        simp only [Act.put, pzA, pzB, pzC]
        refine tkH ?_ 2 49 ?_ hSh0 ?_;rotate_left
        ·rintro w' ⟨x0, x1, x2, x3, x4, x5, x6, x7, x8, x9, x10, x11, x12⟩;go_simp;(try with_reducible rfl)
        simp only [Act.put, pzA, pzB, pzC]
        refine tkH ?_ 3 50 ?_ hSh0 ?_;rotate_left
        ·rintro w' ⟨x0, x1, x2, x3, x4, x5, x6, x7, x8, x9, x10, x11, x12⟩;go_simp;(try with_reducible rfl)
        simp only [Act.put, pzA, pzB, pzC]
        refine tkH ?_ 4 51 ?_ hSh0 ?_;rotate_left
        ·rintro w' ⟨x0, x1, x2, x3, x4, x5, x6, x7, x8, x9, x10, x11, x12⟩;go_simp;(try with_reducible rfl)
        simp only [Act.put, pzA, pzB, pzC]
        refine tkH ?_ 5 52 ?_ hSh0 ?_;rotate_left
        ·rintro w' ⟨x0, x1, x2, x3, x4, x5, x6, x7, x8, x9, x10, x11, x12⟩;go_simp;(try with_reducible rfl)
        simp only [Act.put, pzA, pzB, pzC]
        refine tkH ?_ 6 53 ?_ hSh0 ?_;rotate_left
        ·rintro w' ⟨x0, x1, x2, x3, x4, x5, x6, x7, x8, x9, x10, x11, x12⟩;go_simp;(try with_reducible rfl)
        simp only [Act.put, pzA, pzB, pzC]
        refine tkH ?_ 7 54 ?_ hSh0 ?_;rotate_left
        ·rintro w' ⟨x0, x1, x2, x3, x4, x5, x6, x7, x8, x9, x10, x11, x12⟩;go_simp;(try with_reducible rfl)
        simp only [Act.put, pzA, pzB, pzC]
        refine tkH ?_ 8 55 ?_ hSh0 ?_;rotate_left
        ·rintro w' ⟨x0, x1, x2, x3, x4, x5, x6, x7, x8, x9, x10, x11, x12⟩;go_simp;(try with_reducible rfl)
        simp only [Act.put, pzA, pzB, pzC]
        refine tkH ?_ 9 56 ?_ hSh0 ?_;rotate_left
        ·rintro w' ⟨x0, x1, x2, x3, x4, x5, x6, x7, x8, x9, x10, x11, x12⟩;go_simp;(try with_reducible rfl)
        simp only [Act.put, pzA, pzB, pzC]
        refine tkH ?_ 10 57 ?_ hSh0 ?_;rotate_left
        ·rintro w' ⟨x0, x1, x2, x3, x4, x5, x6, x7, x8, x9, x10, x11, x12⟩;go_simp;(try with_reducible rfl)
        simp only [Act.put, pzA, pzB, pzC]
        refine tkH ?_ 11 58 ?_ hSh0 ?_;rotate_left
        ·rintro w' ⟨x0, x1, x2, x3, x4, x5, x6, x7, x8, x9, x10, x11, x12⟩;go_simp;(try with_reducible rfl)
        simp only [Act.put, pzA, pzB, pzC]
        refine tkH ?_ 12 59 ?_ hSh0 ?_;rotate_left
        ·rintro w' ⟨x0, x1, x2, x3, x4, x5, x6, x7, x8, x9, x10, x11, x12⟩;go_simp;(try with_reducible rfl)
        simp only [Act.put, pzA, pzB, pzC]
        refine tkH ?_ 13 60 ?_ hSh0 ?_;rotate_left
        ·rintro w' ⟨x0, x1, x2, x3, x4, x5, x6, x7, x8, x9, x10, x11, x12⟩;go_simp;(try with_reducible rfl)
        simp only [Act.put, pzA, pzB, pzC]
        refine tkH ?_ 15 62 ?_ hSh0 ?_;rotate_left
        ·rintro w' ⟨x0, x1, x2, x3, x4, x5, x6, x7, x8, x9, x10, x11, x12⟩;go_simp;(try with_reducible rfl)
        simp only [Act.put, pzA, pzB, pzC]
        refine tkH ?_ 16 63 ?_ hSh0 ?_;rotate_left
        ·rintro w' ⟨x0, x1, x2, x3, x4, x5, x6, x7, x8, x9, x10, x11, x12⟩;go_simp;(try with_reducible rfl)
        simp only [Act.put, pzA, pzB, pzC]
        refine tkH ?_ 17 64 ?_ hSh0 ?_;rotate_left
        ·rintro w' ⟨x0, x1, x2, x3, x4, x5, x6, x7, x8, x9, x10, x11, x12⟩;go_simp;(try with_reducible rfl)
        simp only [Act.put, pzA, pzB, pzC]
        refine tkH ?_ 18 65 ?_ hSh0 ?_;rotate_left
        ·rintro w' ⟨x0, x1, x2, x3, x4, x5, x6, x7, x8, x9, x10, x11, x12⟩;go_simp;(try with_reducible rfl)
        simp only [Act.put, pzA, pzB, pzC]
        refine tkH ?_ 19 66 ?_ hSh0 ?_;rotate_left
        ·rintro w' ⟨x0, x1, x2, x3, x4, x5, x6, x7, x8, x9, x10, x11, x12⟩;go_simp;(try with_reducible rfl)
        simp only [Act.put, pzA, pzB, pzC]
        refine held_one 14 rfl (by kernel_rfl) (by rfl) (fun K hK => ?_)
        go_simp
        go_at_call 43
        refine (hC1.out Dw (HT.out.below (hBw.out.trans (hBh0.mono hws)) HT.out.size)).mono ?_
        rintro e wh1 ⟨rfl, hbh1⟩
        have hBh1 : Below wr.heap.size wr wh1 := below_step hBh0 hbh1
        have hSh1 := And.intro (ck hBh1 mk) (And.intro (ck hBh1 s0) (And.intro (ck hBh1 s1) (And.intro (ck hBh1 s2) (And.intro (ck hBh1 s3) (And.intro (ck hBh1 f0) (And.intro (ck hBh1 f1) (And.intro (ck hBh1 f2) (And.intro (ck hBh1 f3) (And.intro (ck hBh1 g0) (And.intro (ck hBh1 g1) (And.intro (ck hBh1 g2) (ck hBh1 g3))))))))))))
        refine hK.out _ _ hSh1 ?_
        clear hK K
        refine held_one 20 rfl (by kernel_rfl) (by rfl) (fun K hK => ?_)
        go_simp
        go_at_call 43
        refine (hC2.out wh1 (HT.out.below (hBw.out.trans (hBh1.mono hws)) HT.out.size)).mono ?_
        rintro e wh2 ⟨rfl, hbh2⟩
        have hBh2 : Below wr.heap.size wr wh2 := below_step hBh1 hbh2
        have hSh2 := And.intro (ck hBh2 mk) (And.intro (ck hBh2 s0) (And.intro (ck hBh2 s1) (And.intro (ck hBh2 s2) (And.intro (ck hBh2 s3) (And.intro (ck hBh2 f0) (And.intro (ck hBh2 f1) (And.intro (ck hBh2 f2) (And.intro (ck hBh2 f3) (And.intro (ck hBh2 g0) (And.intro (ck hBh2 g1) (And.intro (ck hBh2 g2) (ck hBh2 g3))))))))))))
        refine hK.out _ _ hSh2 ?_
        clear hK K
        refine tkH ?_ 21 68 ?_ hSh2 ?_;rotate_left
        ·rintro w' ⟨x0, x1, x2, x3, x4, x5, x6, x7, x8, x9, x10, x11, x12⟩;go_simp;(try with_reducible rfl)
        simp only [Act.put, pzA, pzB, pzC]
        refine tkH ?_ 22 69 ?_ hSh2 ?_;rotate_left
        ·rintro w' ⟨x0, x1, x2, x3, x4, x5, x6, x7, x8, x9, x10, x11, x12⟩;go_simp;(try with_reducible rfl)
        simp only [Act.put, pzA, pzB, pzC]
        refine tkH ?_ 23 70 ?_ hSh2 ?_;rotate_left
        ·rintro w' ⟨x0, x1, x2, x3, x4, x5, x6, x7, x8, x9, x10, x11, x12⟩;go_simp;(try with_reducible rfl)
        simp only [Act.put, pzA, pzB, pzC]
        refine wpAnyH_done (by kernel_rfl) ?_ _
        go_wp2
        go_roundw
        case rel => exact ⟨k + 1, (c : Int), rfl, by go_num, by omega, HN, Lib.hid (hBe.out.trans (hBh2.mono hBs))⟩
        case measure => simp [intOf]; omega
    ·obtain rfl : k = n := by omega
     have t4 : decide (k < k) = false := by simp
     have hln := H.out.2.1
     have hfs : fitSum S l ((orderF (fitsL S l)).take j) < p := by have := hm.out; omega
     have hjn := place_more H.out.2.2.2.2 hfs
     have hbn := hbst.out
     rw [← hln, ← fitsL_len S l] at hbn
     obtain ⟨c, rfl, hzc, hcl⟩ := hbn.next (by rw [fitsL_len]; exact hjn)
     rw [fitsL_len, hln] at hcl
     have hpos := place_pos H.out.2.2.2.2 hfs hzc
     obtain ⟨g, hy⟩ := get_lt (l := l) (k := c) (by rw [hln]; exact hcl)
     obtain ⟨b, off, rfl, hb, hc⟩ := H.out.1.at_ hy
     obtain ⟨hgo, hg0⟩ := H.out.2.2.1 g (List.mem_of_getElem? hy)
     obtain ⟨g0, g1, g2, g3⟩ := (hc c g hy).keep (B := w.heap.size) (by omega) hBw.out
     have e2 := ftL_at (S := S) hy
     have hstep := place_step (p := p) hzc hy
     have hsum := fitSum_take (S := S) (l := l) hzc
     rw [e2] at hpos hsum
     obtain ⟨x2, hx2⟩ := nx (fitF S g)
     have hx16 := fitF_le S g
     have bs := (hBg.out.block _ l_s).trans B_1.out
     obtain ⟨W3, hW3⟩ := nx (wr.setCell ⟨G, c, none⟩ (.bool true))
     have hM3 : Hid (MarkAt W3 G ((orderF (fitsL S l)).take (j + 1)) k) := Lib.hid (by rw [hW3, take_at hzc]; exact hMk.put)
     have hB3 : Hid (Below G W1 W3) := Lib.hid (by rw [hW3]; exact hBg.out.setCell (Nat.le_refl _) _)
     have hz3 : W3.heap.size = wr.heap.size := by rw [hW3]; simp
     have hbG : b < G := by omega
     have hNG : N_s < G := l_s
     have ob : ∀ (q : Nat), W3.cell? ⟨b, q, none⟩ = wr.cell? ⟨b, q, none⟩ := fun q => by rw [hW3]; exact World.cell?_setCell_other wr ⟨G, c, none⟩ ⟨b, q, none⟩ _ (by first | omega | (simp <;> omega))
     have os : W3.heap[N_s]? = wr.heap[N_s]? := by rw [hW3]; exact Below.heap_setCell _ _ _ _ (by first | omega | (simp <;> omega))
     have z0 : wr.frozen? ⟨G, c, none⟩ = false := frozen_blk hMk
     have hO3 : Hid (W3.ownsRow (G + 1) 70 4 (.slice A' m cap') m ((placeL S l ((orderF (fitsL S l)).take j) p).flatMap feC)) := Lib.hid (own_kept (own_below hOo.out hBe.out) fun i hi => by rw [hW3]; exact Below.heap_setCell _ _ _ _ (by have := (hOo.out.lt i hi).1; first | omega | (simp <;> omega)))
     have bsw := bs
     rw [← os] at bs
     have j2 : (0 : Int) ≤ (c : Int) := by omega
     have j3 : (c : Int) < (k : Int) := by omega
     have HW3 := Lib.hid hW3
     have hns : N_s < wr.heap.size := by omega
     have HX := Lib.hid (And.intro hpos (And.intro hsum (And.intro hstep (And.intro hgo (And.intro hg0 (And.intro hx2 (And.intro hx16 bs)))))))
     have hs0 := cell_blk (i := 0) bsw rfl
     have hs1 := cell_blk (i := 1) bsw rfl
     have hs2 := cell_blk (i := 2) bsw rfl
     have hs3 := cell_blk (i := 3) bsw rfl
     have hbx : b < wr.heap.size := by omega
     have hne1 : G ≠ b := by omega
     have hne2 : G ≠ N_s := by omega
     have hne3 : b ≠ G := by omega
     have hne4 : N_s ≠ G := by omega
     have mkc := hMk.cell hcl
     clear hbst hzc hy hc hgo hg0 e2 hstep hsum hx2 hpos bs bsw os ob hMk hW3 hfs hln
     go_wp2_with fail
     rw [← HW3.out]
     obtain ⟨F, hF⟩ := nx (wr.heap.size)
     obtain ⟨W4, hW4⟩ := nx (W3.alloc (.cells #[.int .i64 g.n, .int .i64 g.d, .int .u64 (g.m : Nat), .int .i64 g.c] 69))
     rw [← hF, ← hW4]
     rw [← hF] at hz3
     have hB4 : Below W3.heap.size W3 W4 := by rw [hW4]; exact (Below.refl _ _).alloc (Nat.le_refl _) _
     have bf : W4.heap[F]? = some (.cells #[.int .i64 g.n, .int .i64 g.d, .int .u64 (g.m : Nat), .int .i64 g.c] 69 (0, 0)) := by rw [hW4, ← hz3]; exact heap_alloc_new _ _
     have hz4 : W4.heap.size = F + 1 := by rw [hW4, ← hz3]; simp
     have bs4 := (hB4.block N_s (by omega)).trans HX.out.2.2.2.2.2.2.2
     have hG4 : Hid (Below G W1 W4) := Lib.hid (hB3.out.trans (hB4.mono (by omega)))
     have hM4 : Hid (MarkAt W4 G ((orderF (fitsL S l)).take (j + 1)) k) := Lib.hid ((hB4.block G (by omega)).trans hM3.out)
     have hO4 := Lib.hid (own_below hO3.out hB4)
     have hOl : Hid (∀ i, (Value.slice A' m cap').ownBlock = some i → G < i ∧ i < F) := Lib.hid fun i hi => ⟨(hO3.out.lt i hi).1, by have := (hO3.out.lt i hi).2; omega⟩
     have hW4w := Lib.hid (hB1.out.trans (hG4.out.mono hlow))
     have hCf := Lib.hid (hRf.out g W4 HX.out.2.2.2.1 HX.out.2.2.2.2.1 (HT.out.below hW4w.out HT.out.size))
     have x0 := cell_blk (i := 0) bf rfl
     have x1 := cell_blk (i := 1) bf rfl
     have x2' := cell_blk (i := 2) bf rfl
     have x3 := cell_blk (i := 3) bf rfl
     have y0 := cell_blk (i := 0) bs4 rfl
     have y1 := cell_blk (i := 1) bs4 rfl
     have y2 := cell_blk (i := 2) bs4 rfl
     have y3 := cell_blk (i := 3) bs4 rfl
     have BF := Lib.hid bf
     have BS := Lib.hid bs4
     have HB4 := Lib.hid hB4
     have hGF : G < F := by omega
     have hNF : N_s < F := by omega
     clear hF hW4 bf bs4 hB4 g0 g1 g2 g3 hs0 hs1 hs2 hs3 HW3 hB3 hM3 hO3 z0
     refine hCf.out.mono ?_
     rintro e W5 ⟨rfl, hb5⟩
     have hs5 := hb5.size
     rw [← HX.out.2.2.2.2.2.1]
     clear x0 x1 x2' x3 y0 y1 y2 y3 hCf
     have hB5 := below_step HB4.out hb5
     have HL0 := Lib.hid (show Below G W1 W5 ∧ MarkAt W5 G ((orderF (fitsL S l)).take (j + 1)) k ∧ W5.heap[F]? = some (.cells #[.int .i64 (rests S g 0).n, .int .i64 (rests S g 0).d, .int .u64 ((rests S g 0).m : Nat), .int .i64 (rests S g 0).c] 69 (0, 0)) ∧ W5.ownsRow (G + 1) 70 4 (.slice A' (m + 0) cap') (m + 0) ((placeL S l ((orderF (fitsL S l)).take j) p ++ pieces S g 0).flatMap feC) ∧ (∀ i, (Value.slice A' (m + 0) cap').ownBlock = some i → i ≠ F) ∧ FeOk (rests S g 0) ∧ fitF S g ≤ fitF S (rests S g 0) + 0 from
      ⟨hG4.out.trans (hb5.mono (by omega)), (hb5.block G (by omega)).trans hM4.out, (hb5.block F (by omega)).trans BF.out, by
       have h9 := own_below hO4.out hb5
       simpa [pieces] using h9, fun i hi => by have := hOl.out i hi; omega, HX.out.2.2.2.1, Nat.le_refl _⟩)
     have hF5 : F < W5.heap.size := by omega
     have HMm := Lib.hid (show m = fitSum S l ((orderF (fitsL S l)).take j) from by have := hm.out; omega)
     clear hB5 hb5 hs5 hG4 hM4 hO4 hOl
     have hx2p : x2 ≤ 16 := by rw [HX.out.2.2.2.2.2.1]; exact HX.out.2.2.2.2.2.2.1
     obtain ⟨i0, hi, hz0, hz1, hz2⟩ := info_parts info_slotP
     go_wp2_with fail
     go_loopw [8, 14] (fun v i wr => ∃ (q : Nat) (A2 : Option Addr) (c2 : Nat), v = .slice A2 (m + q) c2 ∧ i = .int .i64 q ∧ q ≤ x2 ∧ m + q ≤ p ∧ F < wr.heap.size ∧ Hid (Below G W1 wr ∧ MarkAt wr G ((orderF (fitsL S l)).take (j + 1)) k ∧ wr.heap[F]? = some (.cells #[.int .i64 (rests S g q).n, .int .i64 (rests S g q).d, .int .u64 ((rests S g q).m : Nat), .int .i64 (rests S g q).c] 69 (0, 0)) ∧ wr.ownsRow (G + 1) 70 4 v (m + q) ((placeL S l ((orderF (fitsL S l)).take j) p ++ pieces S g q).flatMap feC) ∧ (∀ i, v.ownBlock = some i → i ≠ F) ∧ FeOk (rests S g q) ∧ fitF S g ≤ fitF S (rests S g q) + q)) (fun _ i _ => x2 - (intOf i).toNat)
     case atStart => exact ⟨0, A', cap', rfl, rfl, by omega, by omega, hF5, HL0⟩
     case round =>
      clear HL0
      obtain ⟨q, A2, c2, rfl, rfl, hqx, hqp, hFw, hin⟩ := hrel
      by_cases hqlt : q < x2
      ·have t7 : decide (q < x2) = true := decide_eq_true hqlt
       by_cases hql : m + q < p
       ·have t8 : decide (m + q < p) = true := decide_eq_true hql
        obtain ⟨iB, iM, iF, iO, iN, iK, iX⟩ := hin.out
        obtain ⟨re0, hre0⟩ := nx (rests S g q)
        rw [← hre0] at iF iK iX
        have hpos0 : 0 < fitF S re0 := by have := HX.out.2.2.2.2.2.1; omega
        have hBww := hB1.out.trans (iB.mono hlow)
        have hPc := Lib.hid (refpiece_call S re0 wr iK (HT.out.below hBww HT.out.size) hpos0)
        have hrf := restF_fit hpos0
        have hrok := restF_ok iK hpos0
        obtain ⟨sl, hsl⟩ := nx (slotF S re0)
        obtain ⟨re, hre⟩ := nx (restF S re0)
        rw [← hsl, ← hre] at hPc
        rw [← hre] at hrf hrok
        have HN := Lib.hid (And.intro (show pieces S g (q + 1) = pieces S g q ++ [sl] by rw [hsl, hre0]; exact pieces_next _ _ _) (And.intro (show rests S g (q + 1) = re by rw [hre, hre0]; exact rests_next _ _ _) (And.intro hrok (And.intro hrf iX))))
        have bs6 := (iB.block _ l_s).trans B_1.out
        have HI := Lib.hid (And.intro iB (And.intro iM (And.intro iF (And.intro iO (And.intro iN bs6)))))
        have x0 : wr.cell? ⟨F, 0, none⟩ = some (.int .i64 re0.n) := cell_blk (i := 0) iF rfl
        have x1 : wr.cell? ⟨F, 1, none⟩ = some (.int .i64 re0.d) := cell_blk (i := 1) iF rfl
        have x2' : wr.cell? ⟨F, 2, none⟩ = some (.int .u64 (re0.m : Nat)) := cell_blk (i := 2) iF rfl
        have x3 : wr.cell? ⟨F, 3, none⟩ = some (.int .i64 re0.c) := cell_blk (i := 3) iF rfl
        have y0 := cell_blk (i := 0) bs6 rfl
        have y1 := cell_blk (i := 1) bs6 rfl
        have y2 := cell_blk (i := 2) bs6 rfl
        have y3 := cell_blk (i := 3) bs6 rfl
        unfold shV feV at hPc
        clear hre0 hpos0 hBww hrf hrok hsl hre iB iM iF iO iN iK iX bs6 hin
        go_wp2_with fail
        refine hPc.out.mono ?_
        rintro e w2 ⟨rfl, hb2⟩
        have hs2 := hb2.size
        clear x0 x1 x2' x3 y0 y1 y2 y3 hPc
        obtain ⟨W9, hW9⟩ := nx ((w2.alloc (.cells #[.int .i64 sl.n, .int .i64 sl.d, .int .u64 (sl.m : Nat), .int .i64 sl.c] 70)).alloc (.cells #[.int .i64 re.n, .int .i64 re.d, .int .u64 (re.m : Nat), .int .i64 re.c] 69))
        have bD : W9.heap[w2.heap.size + 1]? = some (.cells #[.int .i64 re.n, .int .i64 re.d, .int .u64 (re.m : Nat), .int .i64 re.c] 69 (0, 0)) := by
         have h9 := heap_alloc_new (w2.alloc (.cells #[.int .i64 sl.n, .int .i64 sl.d, .int .u64 (sl.m : Nat), .int .i64 sl.c] 70)) (.cells #[.int .i64 re.n, .int .i64 re.d, .int .u64 (re.m : Nat), .int .i64 re.c] 69)
         rw [World.size_alloc] at h9; rw [hW9]; exact h9
        have hb9 : Below wr.heap.size wr W9 := by rw [hW9]; exact (hb2.alloc hs2 _).alloc (by simp; omega) _
        have hz9 : W9.heap.size = w2.heap.size + 1 + 1 := by rw [hW9]; first | rfl | simp
        obtain ⟨W10, hW10⟩ := nx (W9.alloc (.cells #[.int .i64 sl.n, .int .i64 sl.d, .int .u64 (sl.m : Nat), .int .i64 sl.c] 70))
        have hb10 : Below wr.heap.size wr W10 := by rw [hW10]; exact hb9.alloc hb9.size _
        have bN10 : W10.heap[w2.heap.size + 1 + 1]? = some (.cells #[.int .i64 sl.n, .int .i64 sl.d, .int .u64 (sl.m : Nat), .int .i64 sl.c] 70 (0, 0)) := by rw [hW10, ← hz9]; exact heap_alloc_new W9 _
        have bD10 : W10.heap[w2.heap.size + 1]? = some (.cells #[.int .i64 re.n, .int .i64 re.d, .int .u64 (re.m : Nat), .int .i64 re.c] 69 (0, 0)) := by rw [hW10]; exact (Below.heap_alloc W9 _ _ (by omega)).trans bD
        have hz10 : W10.heap.size = w2.heap.size + 1 + 1 + 1 := by rw [hW10, World.size_alloc, hz9]
        have hown10 := own_below HI.out.2.2.2.1 hb10
        have bF10 := (hb10.block F hFw).trans HI.out.2.2.1
        have hno : ∀ i, (Value.slice A2 (m + q) c2).ownBlock = some i → i < wr.heap.size ∧ G + 1 ≤ i := fun i hi => ⟨(HI.out.2.2.2.1.lt i hi).2, (HI.out.2.2.2.1.lt i hi).1⟩
        have HG := (show ∀ w6 : World, W10.grownBy w6 (Value.slice A2 (m + q) c2).ownBlock → w6.heap[w2.heap.size + 1]? = some (.cells #[.int .i64 re.n, .int .i64 re.d, .int .u64 (re.m : Nat), .int .i64 re.c] 69 (0, 0)) ∧ w6.heap[F]? = some (.cells #[.int .i64 re0.n, .int .i64 re0.d, .int .u64 (re0.m : Nat), .int .i64 re0.c] 69 (0, 0)) ∧ Below G W1 w6 ∧ MarkAt w6 G ((orderF (fitsL S l)).take (j + 1)) k ∧ w2.heap.size + 1 < w6.heap.size from fun w6 hg => by
         have hs6 := hg.size
         refine ⟨(hg.block _ (by omega) fun e => by have := hno _ e.symm; omega).trans bD10, (hg.block _ (by omega) fun e => HI.out.2.2.2.2.1 _ e.symm rfl).trans bF10, (HI.out.1.trans (hb10.mono (by omega))).grown hg (by have := HI.out.1.size; omega) (fun i e => by have := hno i e; omega), ?_, by omega⟩
         exact (hg.block G (by omega) fun e => by have := hno _ e.symm; omega).trans ((hb10.block G (by omega)).trans HI.out.2.1))
        rw [hW10, hW9] at HG
        have HG := Lib.hid HG
        have hFW : F < W10.heap.size := by omega
        have H10 := Lib.hid (And.intro hb10 (And.intro bN10 (And.intro bD10 (And.intro hown10 (And.intro bF10 (And.intro hno (And.intro hz10 (hW10.trans (by rw [hW9])))))))))
        clear hb2 bD hb9 hz9 hW9 hb10 bN10 bD10 hown10 bF10 hno hz10 hW10
        go_wp2_with (at_builtin; refine wpList_append_lies _ rfl _ _ 31 rfl (G + 1) 70 i0 _ 4 32 Tryz.underlying31 hi hz0 hz1 hz2 rfl (by decide) (.slice A2 (m + q) c2) (m + q) ((placeL S l ((orderF (fitsL S l)).take j) p ++ pieces S g q).flatMap feC) rfl (by have := H10.out.2.2.2.1; rw [H10.out.2.2.2.2.2.2.2] at this; exact this) ⟨w2.heap.size + 1 + 1, 0, none⟩ 1 1 [.int .i64 sl.n, .int .i64 sl.d, .int .u64 (sl.m : Nat), .int .i64 sl.c] rfl rfl (World.news_of_block (by have := H10.out.2.1; rw [H10.out.2.2.2.2.2.2.2] at this; exact this)) (by simp [Value.oneCell']) (by omega) (by unfold maxLen; omega) (by omega) (by simp; omega) (w2.heap.size + 1 + 1 + 1) (by simp) ?_; intro gg cap6 w6 hown6 hgrow hat hlt6; obtain ⟨gD, gF, gB, gM, gS⟩ := HG.out w6 hgrow; have u0 := cell_blk (i := 0) gD rfl; have u1 := cell_blk (i := 1) gD rfl; have u2 := cell_blk (i := 2) gD rfl; have u3 := cell_blk (i := 3) gD rfl; have x0 := cell_blk (i := 0) gF rfl; have x1 := cell_blk (i := 1) gF rfl; have x2' := cell_blk (i := 2) gF rfl; have x3 := cell_blk (i := 3) gF rfl; have z0 := frozen_blk (i := 0) gF; have z1 := frozen_blk (i := 1) gF; have z2 := frozen_blk (i := 2) gF; have z3 := frozen_blk (i := 3) gF)
        go_roundw
        case rel =>
         have hFo : Foot (· = F) w6 ((((w6.setCell ⟨F, 0, none⟩ (.int .i64 re.n)).setCell ⟨F, 1, none⟩ (.int .i64 re.d)).setCell ⟨F, 2, none⟩ (.int .u64 (re.m : Nat))).setCell ⟨F, 3, none⟩ (.int .i64 re.c)) := by
          refine Foot.setCell (p := ⟨F, _, none⟩) (Foot.setCell (p := ⟨F, _, none⟩) (Foot.setCell (p := ⟨F, _, none⟩) (Foot.setCell (p := ⟨F, _, none⟩) (Foot.refl _ _) (.inl ?_) _) (.inl ?_) _) (.inl ?_) _) (.inl ?_) _ <;> rfl
         have hggF : gg ≠ F := by
          rcases hat with hat | hat
          ·exact HI.out.2.2.2.2.1 _ hat
          ·have hFl := blk_lt HI.out.2.2.1
           have := H10.out.2.2.2.2.2.2.1
           have := H10.out.1.size
           omega
         refine ⟨q + 1, some ⟨gg, 0, none⟩, cap6, rfl, by go_num, by omega, by omega, by have := blk_lt gF; simp; omega, Lib.hid ⟨?_, ?_, ?_, ?_, ?_, ?_, ?_⟩⟩
         ·exact (((gB.setCell (p := ⟨F, 0, none⟩) (Nat.le_of_lt hGF) _).setCell (p := ⟨F, 1, none⟩) (Nat.le_of_lt hGF) _).setCell (p := ⟨F, 2, none⟩) (Nat.le_of_lt hGF) _).setCell (p := ⟨F, 3, none⟩) (Nat.le_of_lt hGF) _
         ·exact (hFo.block G (blk_lt gM) (by omega)).trans gM
         ·rw [HN.out.2.1]
          have e3 := blk_put (i := 3) (.int .i64 re.c) (blk_put (i := 2) (.int .u64 (re.m : Nat)) (blk_put (i := 1) (.int .i64 re.d) (blk_put (i := 0) (.int .i64 re.n) gF)))
          simpa using e3
         ·rw [HN.out.1, ← List.append_assoc, List.flatMap_append]
          refine own_kept hown6 fun i hi => hFo.block i (hown6.lt i hi).2 ?_
          have : gg = i := by simpa [Value.ownBlock] using hi
          omega
         ·intro i hi
          have : gg = i := by simpa [Value.ownBlock] using hi
          omega
         ·rw [HN.out.2.1]; exact HN.out.2.2.1
         ·rw [HN.out.2.1]; have := HN.out.2.2.2.1; have := HN.out.2.2.2.2; omega
        case measure => simp [intOf]; omega
       ·have t8 : decide (m + q < p) = false := decide_eq_false hql
        obtain ⟨iB, iM, iF, iO, iN, iK, iX⟩ := hin.out
        have hqX := HX.out.2.2.2.2.2.1
        have hX0 := HX.out.1
        have e9 : min (fitF S g) (p - m) = q := by omega
        have HE := Lib.hid (show m + q = min p (fitSum S l ((orderF (fitsL S l)).take (j + 1))) ∧ Below G W1 wr ∧ MarkAt wr G ((orderF (fitsL S l)).take (j + 1)) k ∧ wr.ownsRow (G + 1) 70 4 (.slice A2 (m + q) c2) (m + q) ((placeL S l ((orderF (fitsL S l)).take (j + 1)) p).flatMap feC) ∧ 0 < q from
         ⟨by rw [HX.out.2.1, ← HMm.out]; omega, iB, iM, by rw [HX.out.2.2.1, ← HMm.out, e9]; exact iO, by omega⟩)
        have hjk : j + 1 ≤ k := by have := H.out.2.1; omega
        clear iB iM iF iO iN iK iX hin e9 hqX hX0
        go_wp2
        go_roundw
        case rel => exact ⟨j + 1, m + q, A2, c2, rfl, hjk, Lib.hid HE.out.1, Lib.hid HE.out.2.1, Lib.hid HE.out.2.2.1, Lib.hid HE.out.2.2.2.1⟩
        case measure => have := HE.out.2.2.2.2; simp [lenV]; omega
      ·have t7 : decide (q < x2) = false := decide_eq_false hqlt
       obtain ⟨iB, iM, iF, iO, iN, iK, iX⟩ := hin.out
       have hqX := HX.out.2.2.2.2.2.1
       have hX0 := HX.out.1
       have e9 : min (fitF S g) (p - m) = q := by omega
       have HE := Lib.hid (show m + q = min p (fitSum S l ((orderF (fitsL S l)).take (j + 1))) ∧ Below G W1 wr ∧ MarkAt wr G ((orderF (fitsL S l)).take (j + 1)) k ∧ wr.ownsRow (G + 1) 70 4 (.slice A2 (m + q) c2) (m + q) ((placeL S l ((orderF (fitsL S l)).take (j + 1)) p).flatMap feC) ∧ 0 < q from
        ⟨by rw [HX.out.2.1, ← HMm.out]; omega, iB, iM, by rw [HX.out.2.2.1, ← HMm.out, e9]; exact iO, by omega⟩)
       have hjk : j + 1 ≤ k := by have := H.out.2.1; omega
       clear iB iM iF iO iN iK iX hin e9 hqX hX0
       go_wp2
       go_roundw
       case rel => exact ⟨j + 1, m + q, A2, c2, rfl, hjk, Lib.hid HE.out.1, Lib.hid HE.out.2.1, Lib.hid HE.out.2.2.1, Lib.hid HE.out.2.2.2.1⟩
       case measure => have := HE.out.2.2.2.2; simp [lenV]; omega
  ·have hmp : m = p := by have := hm.out; omega
   have t3 : decide (m < p) = false := decide_eq_false hlt
   have hdone := place_done (S := S) (l := l) (p := p) (j := j) (by have := hm.out; omega)
   have HO := Lib.hid (show wr.ownsRow (G + 1) 70 4 (.slice A' m cap') m ((placeF S l p).flatMap feC) by rw [← hdone]; exact hOo.out)
   have HE := Lib.hid (hB1.out.trans (hBo.out.mono hlow))
   have hpl : (placeF S l p).length = p := placeF_len H.out.2.2.2.2
   have HP := Lib.hid hpl
   subst hmp
   clear hm hdone hBo hMo hOo hpl
   go_wp2
   go_ret2
   exact ⟨A', cap', rfl, HE.out, Lib.hid (fe_own (c := cap') (by rw [HP.out]; exact HO.out))⟩
end Go.Proofs.YtmejcmoodbbmoaaGreatDoor
