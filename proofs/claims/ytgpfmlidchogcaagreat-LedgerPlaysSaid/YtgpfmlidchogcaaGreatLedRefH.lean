/- The document's ledger: a hold goes (let). -/
import Derived.Deep.RegionHeld3
import Derived.Deep.DrawnRows
import Derived.Test.YtgpfmlidchogcaaGreatLedRefG
import Derived.Test.YtgpfmlidchogcaaGreatKitZ
set_option maxRecDepth 100000
set_option linter.unusedVariables false
namespace Go.Proofs.YtgpfmlidchogcaaGreat
open Go.RowKit
def atHs (A : Option Addr) (k c : Nat) : Option Addr := if c = k then A else A.map (·.add (k * 5))
theorem run_hs_to {oi : Oper} {ρ : Operand → Value} {W : World} {p q : Operand} {A : Option Addr} {n c k : Nat} (ho : oi.op = .slice 60 p none (some q) none) (hp : ρ p = .slice A n c) (hq : ρ q = .int .i64 (k : Nat)) (hk : k ≤ c) :
  (execOp ρ oi).run Tryz.prog W = .ok (.value (.slice (atHs A 0 c) k c)) W := by
 have ht : Tryz.prog.underlying 60 = some (.slice (Tryz.prog.elem 60)) := by kernel_rfl
 have he : Tryz.prog.elem 60 = 44 := by kernel_rfl
 unfold execOp
 simp only [ho, hp, hq, Option.map_none, Option.map_some, Sem.run_bind, run_sliceAt_slice W _ _ _ _ _ ht, run_slice_h W _ A n c ht .i64 (k : Nat) (by omega) (by omega), he, Tryz.sizeOf44, Result.andThen_ok, Sem.run_pure, sliced, Int.toNat_natCast, atHs, Nat.sub_zero, Nat.zero_mul]
theorem run_hs_from {oi : Oper} {ρ : Operand → Value} {W : World} {p q : Operand} {A : Option Addr} {n c k : Nat} (ho : oi.op = .slice 60 p (some q) none none) (hp : ρ p = .slice A n c) (hq : ρ q = .int .i64 (k : Nat)) (hk : k ≤ n) :
  (execOp ρ oi).run Tryz.prog W = .ok (.value (.slice (atHs A k c) (n - k) (c - k))) W := by
 have ht : Tryz.prog.underlying 60 = some (.slice (Tryz.prog.elem 60)) := by kernel_rfl
 have he : Tryz.prog.elem 60 = 44 := by kernel_rfl
 unfold execOp
 simp only [ho, hp, hq, Option.map_none, Option.map_some, Sem.run_bind, run_sliceAt_slice W _ _ _ _ _ ht, run_slice_l W _ A n c ht .i64 (k : Nat) (by omega) (by omega), he, Tryz.sizeOf44, Result.andThen_ok, Sem.run_pure, sliced, Int.toNat_natCast, atHs]
theorem els_hs_from {w : World} {B : Nat} {A : Option Addr} {L : List Hs} (h : Els hsC 5 w B A L) (k c : Nat) (hc : L.length ≤ c) : Els hsC 5 w B (atHs A k c) (L.drop k) := by
 unfold atHs
 by_cases e : c = k
 ·exact .inl (List.drop_eq_nil_of_le (by omega))
 ·rw [if_neg e]
  rcases h with rfl | ⟨b, off, rfl, hb, hcc⟩
  ·exact .inl (by simp)
  ·refine .inr ⟨b, off + k * 5, by rw [Option.map_some, Addr.add_lit], hb, fun i x hx => ?_⟩
   rw [show off + k * 5 + i * 5 = off + (k + i) * 5 by omega]
   exact hcc (k + i) x (by rwa [List.getElem?_drop] at hx)
theorem els_hs_to {w : World} {B : Nat} {A : Option Addr} {L : List Hs} (h : Els hsC 5 w B A L) (k c : Nat) (hc : L.length ≤ c) : Els hsC 5 w B (atHs A 0 c) (L.take k) := by
 rcases els_hs_from h 0 c hc with h | ⟨b, off, e, hb, hcc⟩
 ·rw [List.drop_zero] at h; rw [h]; exact .inl (by simp)
 ·refine .inr ⟨b, off, e, hb, fun i x hx => hcc i x ?_⟩
  rw [List.drop_zero]
  rw [List.getElem?_take] at hx
  split at hx
  ·exact hx
  ·cases hx
section
variable {w : World} {r : Nat} {D : Nat → Prop} {fs : List Fr} {st : LS}
set_option maxHeartbeats 4000000 in
theorem rlet_at {q al tk db ra a b c : Nat} {A : Option Addr} {L : List Hs} (k : Nat) (g : Hd) (h1 : RLAt w r q al tk db ra a b A c L fs st) (hk : st.hs[k]? = some g) (hv : st.ver ≤ 100000) :
  Calls Tryz.prog 78 #[.pointer (some ⟨r, 0, none⟩), .int .i64 (k : Int)] w fun e w' => e = .returned (.tuple #[]) ∧ ∃ q' tk' db' A' c', RLAt w' r q' al tk' db' ra a b A' c' (L.take k ++ L.drop (k + 1)) fs (LM.letGo fs st g) ∧
   Foot (fun i => i = r ∨ i = q ∨ i = tk ∨ i = db ∨ i = b) w w' ∧ (q' = q ∨ w.heap.size ≤ q') ∧ (tk' = tk ∨ w.heap.size ≤ tk') ∧ (db' = db ∨ w.heap.size ≤ db') ∧ ∀ g o, A' = some ⟨g, o, none⟩ → w.heap.size ≤ g := by
 obtain ⟨i0, hi0, hz0, hz1, hz2⟩ := info_parts info_hold
 obtain ⟨x, G, hx, hxg, rfl, hG, hxc, hfz, hGr, hkL⟩ := h1.hold hk
 obtain ⟨_, _, c2, _⟩ := h1.own
 have hxm := List.mem_of_getElem? hx
 have hdo := h1.ok.ok g (List.mem_of_getElem? hk)
 have hL : L.length ≤ 100000 := by have := h1.ok.few; rw [← h1.hs, List.length_map] at this; omega
 have hgv0 := rgive_l g.q x.A x.c x.h.sl (h1.keep (Below.refl _ _).drew) ((h1.keep (Below.refl _ _).drew).sl x hxm) (by rw [hxg]; exact hdo.sl) (by rw [hxg]; exact hdo.n2) (fun _ b o e hb => (h1.off x hxm b o e).1 hb)
 have f1 := hxc 1 _ rfl
 have f4 := hxc 4 _ rfl
 unfold hsV at f4
 obtain ⟨N, hN⟩ : ∃ N, N = L.length := ⟨_, rfl⟩
 obtain ⟨xq, hxq⟩ : ∃ v, v = x.h.q := ⟨_, rfl⟩
 obtain ⟨xn, hxn⟩ : ∃ v, v = x.h.sl.length := ⟨_, rfl⟩
 obtain ⟨xA, hxA⟩ : ∃ v, v = x.A := ⟨_, rfl⟩
 obtain ⟨xc, hxcc⟩ : ∃ v, v = x.c := ⟨_, rfl⟩
 rw [← hxg] at hgv0
 rw [← hxq, ← hxA, ← hxn, ← hxcc] at hgv0
 rw [← hxq] at f1
 rw [← hxA, ← hxn, ← hxcc] at f4
 rw [← hN] at c2 hkL hL
 have hNc : N ≤ c := by
  rcases h1.row.2 with ⟨e, h0⟩ | ⟨g9, cap, cur, e, hgb, hg, h5, h6, h7, h8⟩
  ·cases e
  ·injection e with e1 e2 e3
   omega
 have HGv := Lib.hid hgv0
 have hGF : ¬ (G = r ∨ G = q ∨ G = tk ∨ G = db ∨ G = b) := fun e => h1.rown G 0 rfl (by rcases e with rfl | rfl | rfl | rfl | rfl <;> simp)
 have lr := h1.lts.1
 have j1 : (k : Int) < (N : Int) := by omega
 have j0 : ¬ (k : Int) < 0 := by omega
 have HLn := Lib.hid hN.symm
 have hkc : k ≤ c := by omega
 have hk1 : k + 1 ≤ N := by omega
 have wk1 : IntKind.i64.wrap ((k : Int) + 1) = (k : Int) + 1 := IntWalk.i64_in _ (by omega)
 have H := Lib.hid (And.intro h1 (And.intro trivial (And.intro hx (And.intro hxg (And.intro hxq (And.intro hxn hxA))))))
 have HK := Lib.hid hk
 clear hgv0 h1 hx hxg hxc hfz hxm hdo hN hxq hxn hxA hxcc hk
 go_enter Tryz.func78, Tryz.ntmps78
 go_wp2_with fail
 refine held_begin (fun w' : World => w'.cell? ⟨r, 2, none⟩ = some (.slice (some ⟨G, 0, none⟩) N c) ∧ w'.cell? ⟨G, k * 5 + 1, none⟩ = some (.int .i64 xq) ∧ w'.cell? ⟨G, k * 5 + 4, none⟩ = some (.slice xA xn xc)) (by kernel_rfl) ?_
 have hBu0 : Foot (fun i => i = r ∨ i = q ∨ i = tk ∨ i = db ∨ i = b) w w.drew := (Foot.refl _ _).drew
 have hSu0 : (fun w' : World => w'.cell? ⟨r, 2, none⟩ = some (.slice (some ⟨G, 0, none⟩) N c) ∧ w'.cell? ⟨G, k * 5 + 1, none⟩ = some (.int .i64 xq) ∧ w'.cell? ⟨G, k * 5 + 4, none⟩ = some (.slice xA xn xc)) w.drew := ⟨c2, f1, f4⟩
 refine held_takeK (v := ?_) 0 4 rfl rfl ⟨by rfl, ?_⟩ hSu0 ?_
 rotate_left
 ·intro w' hw'; obtain ⟨x0, x1, x2⟩ := hw'; go_simp; (try with_reducible rfl)
 simp only [Act.put, pzA, pzB, pzC]
 refine held_takeK (v := ?_) 1 5 rfl rfl ⟨by rfl, ?_⟩ hSu0 ?_
 rotate_left
 ·intro w' hw'; obtain ⟨x0, x1, x2⟩ := hw'; go_simp; (try with_reducible rfl)
 simp only [Act.put, pzA, pzB, pzC]
 refine held_takeK (v := ?_) 2 6 rfl rfl ⟨by rfl, ?_⟩ hSu0 ?_
 rotate_left
 ·intro w' hw'; obtain ⟨x0, x1, x2⟩ := hw'; go_simp; (try with_reducible rfl)
 simp only [Act.put, pzA, pzB, pzC]
 refine held_takeK (v := ?_) 3 7 rfl rfl ⟨by rfl, ?_⟩ hSu0 ?_
 rotate_left
 ·intro w' hw'; obtain ⟨x0, x1, x2⟩ := hw'; go_simp; (try with_reducible rfl)
 simp only [Act.put, pzA, pzB, pzC]
 refine held_takeK (v := ?_) 4 8 rfl rfl ⟨by rfl, ?_⟩ hSu0 ?_
 rotate_left
 ·intro w' hw'; obtain ⟨x0, x1, x2⟩ := hw'; go_simp; (try with_reducible rfl)
 simp only [Act.put, pzA, pzB, pzC]
 refine held_takeK (v := ?_) 5 9 rfl rfl ⟨by rfl, ?_⟩ hSu0 ?_
 rotate_left
 ·intro w' hw'; obtain ⟨x0, x1, x2⟩ := hw'; go_simp; (try with_reducible rfl)
 simp only [Act.put, pzA, pzB, pzC]
 refine held_takeK (v := ?_) 6 10 rfl rfl ⟨by rfl, ?_⟩ hSu0 ?_
 rotate_left
 ·intro w' hw'; obtain ⟨x0, x1, x2⟩ := hw'; go_simp; (try with_reducible rfl)
 simp only [Act.put, pzA, pzB, pzC]
 refine held_takeK (v := ?_) 7 11 rfl rfl ⟨by rfl, ?_⟩ hSu0 ?_
 rotate_left
 ·intro w' hw'; obtain ⟨x0, x1, x2⟩ := hw'; go_simp; (try with_reducible rfl)
 simp only [Act.put, pzA, pzB, pzC]
 refine held_takeK (v := ?_) 8 12 rfl rfl ⟨by rfl, ?_⟩ hSu0 ?_
 rotate_left
 ·intro w' hw'; obtain ⟨x0, x1, x2⟩ := hw'; go_simp; (try with_reducible rfl)
 simp only [Act.put, pzA, pzB, pzC]
 refine held_takeK (v := ?_) 9 13 rfl rfl ⟨by rfl, ?_⟩ hSu0 ?_
 rotate_left
 ·intro w' hw'; obtain ⟨x0, x1, x2⟩ := hw'; go_simp; (try with_reducible rfl)
 simp only [Act.put, pzA, pzB, pzC]
 refine held_takeK (v := ?_) 10 14 rfl rfl ⟨by rfl, ?_⟩ hSu0 ?_
 rotate_left
 ·intro w' hw'; obtain ⟨x0, x1, x2⟩ := hw'; go_simp; (try with_reducible rfl)
 simp only [Act.put, pzA, pzB, pzC]
 refine held_takeK (v := ?_) 11 15 rfl rfl ⟨by rfl, ?_⟩ hSu0 ?_
 rotate_left
 ·intro w' hw'; obtain ⟨x0, x1, x2⟩ := hw'; go_simp; (try with_reducible rfl)
 simp only [Act.put, pzA, pzB, pzC]
 refine held_takeK (v := ?_) 12 16 rfl rfl ⟨by rfl, ?_⟩ hSu0 ?_
 rotate_left
 ·intro w' hw'; obtain ⟨x0, x1, x2⟩ := hw'; go_simp; (try with_reducible rfl)
 simp only [Act.put, pzA, pzB, pzC]
 refine held_takeK (v := ?_) 13 17 rfl rfl ⟨by rfl, ?_⟩ hSu0 ?_
 rotate_left
 ·intro w' hw'; obtain ⟨x0, x1, x2⟩ := hw'; go_simp; (try with_reducible rfl)
 simp only [Act.put, pzA, pzB, pzC]
 refine held_takeK (v := ?_) 14 18 rfl rfl ⟨by rfl, ?_⟩ hSu0 ?_
 rotate_left
 ·intro w' hw'; obtain ⟨x0, x1, x2⟩ := hw'; go_simp; (try with_reducible rfl)
 simp only [Act.put, pzA, pzB, pzC]
 refine held_takeK (v := ?_) 15 19 rfl rfl ⟨by rfl, ?_⟩ hSu0 ?_
 rotate_left
 ·intro w' hw'; obtain ⟨x0, x1, x2⟩ := hw'; go_simp; (try with_reducible rfl)
 simp only [Act.put, pzA, pzB, pzC]
 refine held_takeK (v := ?_) 16 20 rfl rfl ⟨by rfl, ?_⟩ hSu0 ?_
 rotate_left
 ·intro w' hw'; obtain ⟨x0, x1, x2⟩ := hw'; go_simp; (try with_reducible rfl)
 simp only [Act.put, pzA, pzB, pzC]
 refine held_one 17 rfl (by kernel_rfl) (by rfl) (fun K hK => ?_)
 go_simp
 go_at_call 77
 refine (HGv.out).mono ?_
 rintro e wu1 ⟨rfl, q2, tk2, db2, h2, hbu1, y1, y2, y3⟩
 have hBu1 : Foot (fun i => i = r ∨ i = q ∨ i = tk ∨ i = db ∨ i = b) w wu1 := hBu0.trans hbu1 (fun i hi => .inl hi)
 have d2 : wu1.cell? ⟨r, 2, none⟩ = some (.slice (some ⟨G, 0, none⟩) N c) := by have h9 := h2.own.2.2.1; rw [HLn.out] at h9; exact h9
 have hSu1 : (fun w' : World => w'.cell? ⟨r, 2, none⟩ = some (.slice (some ⟨G, 0, none⟩) N c) ∧ w'.cell? ⟨G, k * 5 + 1, none⟩ = some (.int .i64 xq) ∧ w'.cell? ⟨G, k * 5 + 4, none⟩ = some (.slice xA xn xc)) wu1 := ⟨d2, (hBu1.cell (p := ⟨G, k * 5 + 1, none⟩) (show G < w.heap.size from hG) hGF).trans f1, (hBu1.cell (p := ⟨G, k * 5 + 4, none⟩) (show G < w.heap.size from hG) hGF).trans f4⟩
 refine hK.out _ _ hSu1 ?_
 clear hK K
 refine wpAnyH_done (by kernel_rfl) ?_ _
 obtain ⟨w2, hw2⟩ : ∃ W, W = wu1 := ⟨_, rfl⟩
 rw [← hw2] at h2 hBu1 d2 ⊢
 have HR2 := Lib.hid h2.blk
 have lr2 := h2.lts.1
 have HEl := Lib.hid (els_own (C := hsC) hsC_len (l := L) h2.row rfl).1
 have H2 := Lib.hid h2
 have HF2 := Lib.hid hBu1
 have HY := Lib.hid (And.intro y1 (And.intro y2 y3))
 clear h2 hBu1 hBu0 hSu0 hSu1 hbu1 y1 y2 y3 c2 f1 f4 hw2
 go_wp2_with fail
 obtain ⟨S4, hS4⟩ : ∃ S, S = w2.heap.size := ⟨_, rfl⟩
 have hS4r : r < S4 := by omega
 refine wp_until (fun w' : World => w'.cell? ⟨r, 2, none⟩ = some (.slice (some ⟨G, 0, none⟩) N c)) 19 (by kernel_rfl) ?_
 have hSu : (fun w' : World => w'.cell? ⟨r, 2, none⟩ = some (.slice (some ⟨G, 0, none⟩) N c)) w2.drew := d2
 refine until_take (v := ?_) 0 22 rfl rfl (by kernel_rfl) (by kernel_rfl) (by kernel_rfl) (by kernel_rfl) (fun _ _ _ h => h) ⟨by rfl, ?_⟩ hSu ?_
 rotate_left
 ·intro w' x0; go_simp; (try with_reducible rfl)
 simp only [Act.put, pzA, pzB, pzC]
 refine until_take (v := ?_) 2 24 rfl rfl (by kernel_rfl) (by kernel_rfl) (by kernel_rfl) (by kernel_rfl) (fun _ _ _ h => h) ⟨by rfl, ?_⟩ hSu ?_
 rotate_left
 ·intro w' x0; go_simp; (try with_reducible rfl)
 simp only [Act.put, pzA, pzB, pzC]
 refine until_take (v := ?_) 3 25 rfl rfl (by kernel_rfl) (by kernel_rfl) (by kernel_rfl) (by kernel_rfl) (fun _ _ _ h => h) ⟨by rfl, ?_⟩ hSu ?_
 rotate_left
 ·intro w' x0; go_simp; (try with_reducible rfl)
 simp only [Act.put, pzA, pzB, pzC]
 refine until_take (v := ?_) 4 26 rfl rfl (by kernel_rfl) (by kernel_rfl) (by kernel_rfl) (by kernel_rfl) (fun _ _ _ h => h) ⟨by rfl, ?_⟩ hSu ?_
 rotate_left
 ·intro w' x0; go_simp; (try with_reducible rfl)
 simp only [Act.put, pzA, pzB, pzC]
 refine until_take (v := ?_) 5 27 rfl rfl (by kernel_rfl) (by kernel_rfl) (by kernel_rfl) (by kernel_rfl) (fun _ _ _ h => h) ⟨by rfl, ?_⟩ hSu ?_
 rotate_left
 ·intro w' x0; go_simp; (try with_reducible rfl)
 simp only [Act.put, pzA, pzB, pzC]
 refine until_take (v := ?_) 6 28 rfl rfl (by kernel_rfl) (by kernel_rfl) (by kernel_rfl) (by kernel_rfl) (fun _ _ _ h => h) ⟨by rfl, ?_⟩ hSu ?_
 rotate_left
 ·intro w' x0; go_simp; (try with_reducible rfl)
 simp only [Act.put, pzA, pzB, pzC]
 refine until_take (v := ?_) 7 29 rfl rfl (by kernel_rfl) (by kernel_rfl) (by kernel_rfl) (by kernel_rfl) (fun _ _ _ h => h) ⟨by rfl, ?_⟩ hSu ?_
 rotate_left
 ·intro w' x0; refine Eq.trans (run_hs_to (k := k) (by rfl) (by rfl) (by rfl) hkc) ?_; (with_reducible rfl)
 simp only [Act.put, pzA, pzB, pzC]
 refine until_take (v := ?_) 9 31 rfl rfl (by kernel_rfl) (by kernel_rfl) (by kernel_rfl) (by kernel_rfl) (fun _ _ _ h => h) ⟨by rfl, ?_⟩ hSu ?_
 rotate_left
 ·intro w' x0; go_simp; (try with_reducible rfl)
 simp only [Act.put, pzA, pzB, pzC]
 refine until_take (v := ?_) 10 32 rfl rfl (by kernel_rfl) (by kernel_rfl) (by kernel_rfl) (by kernel_rfl) (fun _ _ _ h => h) ⟨by rfl, ?_⟩ hSu ?_
 rotate_left
 ·intro w' x0; go_simp; (try with_reducible rfl)
 simp only [Act.put, pzA, pzB, pzC]
 refine until_take (v := ?_) 11 33 rfl rfl (by kernel_rfl) (by kernel_rfl) (by kernel_rfl) (by kernel_rfl) (fun _ _ _ h => h) ⟨by rfl, ?_⟩ hSu ?_
 rotate_left
 ·intro w' x0; go_simp; (try with_reducible rfl)
 simp only [Act.put, pzA, pzB, pzC]
 refine until_take (v := ?_) 12 34 rfl rfl (by kernel_rfl) (by kernel_rfl) (by kernel_rfl) (by kernel_rfl) (fun _ _ _ h => h) ⟨by rfl, ?_⟩ hSu ?_
 rotate_left
 ·intro w' x0; go_simp; (try with_reducible rfl)
 simp only [Act.put, pzA, pzB, pzC]
 refine until_take (v := ?_) 13 35 rfl rfl (by kernel_rfl) (by kernel_rfl) (by kernel_rfl) (by kernel_rfl) (fun _ _ _ h => h) ⟨by rfl, ?_⟩ hSu ?_
 rotate_left
 ·intro w' x0; go_simp; (try with_reducible rfl)
 simp only [Act.put, pzA, pzB, pzC]
 refine until_take (v := .int .i64 ((k + 1 : Nat) : Int)) 14 36 rfl rfl (by kernel_rfl) (by kernel_rfl) (by kernel_rfl) (by kernel_rfl) (fun _ _ _ h => h) ⟨by rfl, ?_⟩ hSu ?_
 ·intro w' x0; go_simp; (try (with_reducible rfl)); (try simp); (try exact wk1)
 simp only [Act.put, pzA, pzB, pzC]
 refine until_take (v := ?_) 15 37 rfl rfl (by kernel_rfl) (by kernel_rfl) (by kernel_rfl) (by kernel_rfl) (fun _ _ _ h => h) ⟨by rfl, ?_⟩ hSu ?_
 rotate_left
 ·intro w' x0; refine Eq.trans (run_hs_from (k := k + 1) (by rfl) (by rfl) (by rfl) hk1) ?_; (with_reducible rfl)
 simp only [Act.put, pzA, pzB, pzC]
 refine until_one 1 rfl (by kernel_rfl) rfl (fun K hK => ?_)
 go_simp
 obtain ⟨W4, hW4⟩ : ∃ W, W = (w2.alloc (.cells #[] 44)).drew := ⟨_, rfl⟩
 (try rw [← hW4])
 have hst4 : Below w2.heap.size w2 W4 := by rw [hW4]; exact ((Below.refl w2.heap.size w2).alloc (Nat.le_refl _) _).drew
 have hSu4 : (fun w' : World => w'.cell? ⟨r, 2, none⟩ = some (.slice (some ⟨G, 0, none⟩) N c)) W4 := (hst4.cell (p := ⟨r, 2, none⟩) (show r < w2.heap.size by omega)).trans d2
 refine hK.out _ _ (fun _ => hSu4) ?_
 clear hK K
 try simp only [Act.put, pzA, pzB, pzC]
 refine until_one 8 rfl (by kernel_rfl) rfl (fun K hK => ?_)
 simp only [Go.wp_at_zero, Go.wp_at_succ]
 have hz4 : W4.heap.size = S4 + 1 := by rw [hW4, hS4]; show (w2.alloc (.cells #[] 44)).heap.size = _; rw [World.size_alloc]
 have own0 : W4.ownsRow S4 44 5 (.slice (some ⟨S4, 0, none⟩) 0 0) 0 [] := by rw [hW4, hS4]; exact World.ownsRow_lit w2 #[] 0 (Nat.le_refl _) (by unfold maxLen; omega) rfl
 have hH4 := els_hs_to (HEl.out.keep hst4 hst4.size) k c (by rw [HLn.out]; omega)
 have hlk : (L.take k).length = k := by rw [List.length_take, HLn.out]; omega
 refine wp_append_els (C := hsC) (k := 5) _ _ _ 60 rfl S4 44 i0 _ 56 Tryz.underlying60 hi0 hz0 hz1 hz2 rfl (by decide) (.slice (some ⟨S4, 0, none⟩) 0 0) 0 [] (by first | rfl | (rw [hS4]; rfl)) own0 _ (atHs (some ⟨G, 0, none⟩) 0 c) c k (L.take k) rfl hH4 hlk.symm hsC_len hsC_one (by unfold maxLen; omega) (by omega) (by omega) ?_
 intro A6 c6 w7 own7 g7 k7
 rw [Nat.zero_add] at own7 k7 ⊢
 rw [List.nil_append] at own7
 have hs7 : S4 + 1 ≤ w7.heap.size := by have := g7.size; omega
 have bk7 : ∀ p, p < S4 → w7.heap[p]? = w2.heap[p]? := fun p hp => (g7.block p (by omega) (fun e => by have e : some p = some S4 := e; injection e with e; omega)).trans (hst4.block p (by omega))
 have hSu7 : (fun w' : World => w'.cell? ⟨r, 2, none⟩ = some (.slice (some ⟨G, 0, none⟩) N c)) w7 := (World.cell?_of_block (bk7 r hS4r)).trans d2
 refine hK.out _ _ (fun _ => hSu7) ?_
 clear hK K
 try simp only [Act.put, pzA, pzB, pzC]
 refine until_one 16 rfl (by kernel_rfl) rfl (fun K hK => ?_)
 simp only [Go.wp_at_zero, Go.wp_at_succ]
 have hb7 : Below w2.heap.size w2 w7 := hst4.grown g7 (by omega) (fun i e => by have e : some S4 = some i := e; injection e with e; omega)
 have hH7 := els_hs_from (HEl.out.keep hb7 hb7.size) (k + 1) c (by rw [HLn.out]; omega)
 have hld : (L.drop (k + 1)).length = N - (k + 1) := by rw [List.length_drop, HLn.out]
 refine wp_append_els (C := hsC) (k := 5) _ _ _ 60 rfl S4 44 i0 _ 56 Tryz.underlying60 hi0 hz0 hz1 hz2 rfl (by decide) (.slice A6 k c6) k ((L.take k).flatMap hsC) rfl own7 _ (atHs (some ⟨G, 0, none⟩) (k + 1) c) (c - (k + 1)) (N - (k + 1)) (L.drop (k + 1)) rfl hH7 hld.symm hsC_len hsC_one (by unfold maxLen; omega) (by omega) (by omega) ?_
 intro A8 c8 w8 own8 g8 k8
 have bk8 : ∀ p, p < S4 → w8.heap[p]? = w2.heap[p]? := fun p hp => (g8.block p (by omega) (fun e => by have := (own7.lt p e.symm).1; omega)).trans (bk7 p hp)
 have hs8 : S4 + 1 ≤ w8.heap.size := by have := g8.size; omega
 have hkm1 : k + (N - (k + 1)) = N - 1 := by omega
 rw [hkm1] at own8 ⊢
 rw [← List.flatMap_append] at own8
 have z2 : w8.frozen? ⟨r, 2, none⟩ = false := frozen_blk ((bk8 r hS4r).trans HR2.out)
 have hSu8 : (fun w' : World => w'.cell? ⟨r, 2, none⟩ = some (.slice (some ⟨G, 0, none⟩) N c)) w8 := (World.cell?_of_block (bk8 r hS4r)).trans d2
 have HOW := Lib.hid own8
 have HB8 := Lib.hid (hb7.grown g8 (by omega) (fun i e => by have := (own7.lt i e).1; omega))
 have HS4 := Lib.hid hS4
 refine hK.out _ _ (fun _ => hSu8) ?_
 clear hK K own7 g7 k7 hb7 hH7 hld own8 g8 k8 bk8 bk7 hH4 own0 hst4 hW4 hlk
 try simp only [Act.put, pzA, pzB, pzC]
 refine until_one 17 rfl (by kernel_rfl) rfl (fun K hK => ?_)
 go_simp
 refine hK.out _ _ (fun _ => hSu8) ?_
 clear hK K
 try simp only [Act.put, pzA, pzB, pzC]
 refine until_one 18 rfl (by kernel_rfl) rfl (fun K hK => ?_)
 go_simp
 refine hK.out _ _ (fun _ => hSu8) ?_
 clear hK K
 try simp only [Act.put, pzA, pzB, pzC]
 refine until_one 19 rfl (by kernel_rfl) rfl (fun K hK => ?_)
 go_simp
 refine hK.out _ _ (fun h => absurd h (by decide)) ?_
 clear hK K
 refine until_done (by kernel_rfl) ?_
 obtain ⟨w9, hw9⟩ : ∃ W, W = w8.setCell ⟨r, 2, none⟩ (.slice A8 (N - 1) c8) := ⟨_, rfl⟩
 rw [← hw9]
 have HW9 := Lib.hid hw9
 clear hw9
 (first | go_end0 | (go_wp2; go_end0))
 have hF9 : Foot (· = r) w2 w9 := by rw [HW9.out]; exact (Foot.of_below HB8.out).setCell (F := (· = r)) (p := ⟨r, 2, none⟩) (.inl rfl) _
 have hLl : (L.take k ++ L.drop (k + 1)).length = N - 1 := by rw [List.length_append, List.length_take, List.length_drop, HLn.out]; omega
 have h9 : RLAt w9 r q2 al tk2 db2 ra a b A8 c8 (L.take k ++ L.drop (k + 1)) fs { LM.give fs st xq x.h.sl with hs := LM.del g.id (LM.give fs st xq x.h.sl).hs } := by
  refine H2.out.rowed hF9 ?_ ?_ ?_ (LOk.less H2.out.ok g.id) (fun y hy => .inl ?_) (fun y hy => .inl ?_)
  ·rw [HW9.out, hLl]
   exact blk_put (i := 2) (.slice A8 (N - 1) c8) ((HB8.out.block r lr2).trans HR2.out)
  ·rw [hLl, HW9.out, ← HS4.out]
   refine own_stays HOW.out fun i hi => Below.heap_setCell _ _ _ _ ?_
   have := (HOW.out.lt i hi).1
   show i ≠ r; omega
  ·rw [LM.del_at H2.out.ok.asc HK.out, List.map_append, List.map_take, List.map_drop, H2.out.hs]
  ·rcases List.mem_append.1 hy with hy | hy
   ·exact List.mem_of_mem_take hy
   ·exact List.mem_of_mem_drop hy
  ·rcases List.mem_append.1 hy with hy | hy
   ·exact List.mem_of_mem_take hy
   ·exact List.mem_of_mem_drop hy
 have hs2 := HF2.out.size
 refine ⟨rfl, q2, tk2, db2, A8, c8, (by have h8 := h9; rw [H.out.2.2.2.2.1, H.out.2.2.2.1] at h8; exact h8), HF2.out.trans hF9 fun i hi => .inl (.inl hi), HY.out.1, HY.out.2.1, HY.out.2.2, fun g o e => ?_⟩
 subst e
 have h8 := HOW.out.lt g rfl
 have h7 := HS4.out
 omega
theorem let_next {w' : World} {q al tk db ra a b q' tk' db' c' k : Nat} {A A' : Option Addr} {L : List Hs} {st' : LS} (hD : ∀ i, RB r q al tk db ra a b A L i → D i) (h2 : RLAt w' r q' al tk' db' ra a b A' c' (L.take k ++ L.drop (k + 1)) fs st')
  (hf : Foot (fun i => i = r ∨ i = q ∨ i = tk ∨ i = db ∨ i = b) w w') (y1 : q' = q ∨ w.heap.size ≤ q') (y2 : tk' = tk ∨ w.heap.size ≤ tk') (y3 : db' = db ∨ w.heap.size ≤ db') (hA : ∀ g o, A' = some ⟨g, o, none⟩ → w.heap.size ≤ g) : RNext w w' r D fs st' := by
 have hD8 : ∀ i, i ∈ [r, q, al, tk, db, ra, a, b] → D i := fun i hi => hD i (.inl hi)
 refine RNext.of h2 (hf.mono fun i hi => hD8 i (by rcases hi with rfl | rfl | rfl | rfl | rfl <;> simp)) fun i hi => ?_
 rcases hi with hi | ⟨o, e⟩ | ⟨y, hy, o, e⟩
 ·simp only [List.mem_cons, List.not_mem_nil, or_false] at hi
  rcases hi with rfl | rfl | rfl | rfl | rfl | rfl | rfl | rfl
  ·exact .inl (hD8 _ (by simp))
  ·rcases y1 with rfl | y1
   ·exact .inl (hD8 _ (by simp))
   ·exact .inr y1
  ·exact .inl (hD8 _ (by simp))
  ·rcases y2 with rfl | y2
   ·exact .inl (hD8 _ (by simp))
   ·exact .inr y2
  ·rcases y3 with rfl | y3
   ·exact .inl (hD8 _ (by simp))
   ·exact .inr y3
  ·exact .inl (hD8 _ (by simp))
  ·exact .inl (hD8 _ (by simp))
  ·exact .inl (hD8 _ (by simp))
 ·exact .inr (hA i o e)
 ·refine .inl (hD i (.inr (.inr ⟨y, ?_, o, e⟩)))
  rcases List.mem_append.1 hy with hy | hy
  ·exact List.mem_of_mem_take hy
  ·exact List.mem_of_mem_drop hy
theorem rlet_l (k : Nat) (g : Hd) (h : RL w r D fs st) (hk : st.hs[k]? = some g) (hv : st.ver ≤ 100000) :
  Calls Tryz.prog 78 #[.pointer (some ⟨r, 0, none⟩), .int .i64 (k : Int)] w fun e w' => e = .returned (.tuple #[]) ∧ RNext w w' r D fs (LM.letGo fs st g) := by
 obtain ⟨q, al, tk, db, ra, a, b, A, c, L, h1, hD⟩ := h
 refine (rlet_at k g h1 hk hv).mono ?_
 rintro e w' ⟨rfl, q', tk', db', A', c', h2, hf, y1, y2, y3, hA⟩
 exact ⟨rfl, let_next hD h2 hf y1 y2 y3 hA⟩
end
end Go.Proofs.YtgpfmlidchogcaaGreat
