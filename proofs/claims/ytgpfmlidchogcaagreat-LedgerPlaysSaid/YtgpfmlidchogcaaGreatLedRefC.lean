/- The document's pool is copied. -/
import Derived.Test.YtgpfmlidchogcaaGreatLedRefB
import Derived.Test.YtgpfmlidchogcaaGreatKitZ
set_option maxRecDepth 100000
set_option linter.unusedVariables false
namespace Go.Proofs.YtgpfmlidchogcaaGreat
open Go.RowKit
def boC (b : Bool) : List Value := [.bool b]
theorem boC_len (b : Bool) : (boC b).length = 1 := rfl
theorem boO (b : Bool) : ∀ v ∈ boC b, v.oneCell' = true := by simp [boC, Value.oneCell']
theorem frC1 (f : Fr) : (frC f).length = 4 := rfl
theorem frO (f : Fr) : ∀ v ∈ frC f, v.oneCell' = true := by simp [frC, Value.oneCell']
theorem own_where {W : World} {base n c e s : Nat} {t : TypeId} {k : Nat} {A : Option Addr} {xs : List Value} (h : W.ownsRow base t k (.slice A n c) n xs) (hn : 0 < n)
  (hk : (Value.slice A n c).ownBlock = (Value.slice (some ⟨e, 0, none⟩) 0 0).ownBlock ∨ (Value.slice A n c).ownBlock = some s) : ∃ g, A = some ⟨g, 0, none⟩ ∧ (g = e ∨ g = s) ∧ g < W.heap.size ∧ base ≤ g := by
 rcases h.2 with ⟨_, h0⟩ | ⟨g, _, _, e1, hb, hg, _⟩
 ·omega
 ·injection e1 with e1 _ _
  subst e1
  refine ⟨g, rfl, ?_, blk_lt hg, hb⟩
  simpa [Value.ownBlock] using hk
theorem bools_flat (dr : List Bool) : dr.flatMap boC = dr.map Value.bool := by
 induction dr with
 | nil => rfl
 | cons x l ih => rw [List.flatMap_cons, ih]; rfl
theorem copied {w : World} {q al tk db ca ct cd N m gT gD cTn cDn : Nat} {fs ts : List Fr} {dr : List Bool} (W : World) (h : RefAt w q al tk db ca ct cd fs ts dr) (hB : Below w.heap.size w W) (lq : q < w.heap.size) (ne : gT ≠ gD) (lT : gT < W.heap.size) (lD : gD < W.heap.size)
  (oT : W.ownsRow w.heap.size 144 4 (.slice (some ⟨gT, 0, none⟩) N cTn) N (ts.flatMap frC)) (oD : W.ownsRow w.heap.size 4 1 (.slice (some ⟨gD, 0, none⟩) m cDn) m (dr.flatMap boC)) (hN : N = fs.length) (hM : m = dr.length) :
  RefAt (W.alloc (.cells #[.slice (some ⟨al, 0, none⟩) N ca, .slice (some ⟨gT, 0, none⟩) N cTn, .slice (some ⟨gD, 0, none⟩) m cDn] 121)) W.heap.size al gT gD ca cTn cDn fs ts dr ∧ w.heap.size ≤ W.heap.size ∧ w.heap.size ≤ gT ∧ w.heap.size ≤ gD ∧
   Below w.heap.size w (W.alloc (.cells #[.slice (some ⟨al, 0, none⟩) N ca, .slice (some ⟨gT, 0, none⟩) N cTn, .slice (some ⟨gD, 0, none⟩) m cDn] 121)) := by
 obtain ⟨l1, l2, l3, l4⟩ := h.lt
 have bT := (oT.lt gT rfl).1
 have bD := (oD.lt gD rfl).1
 have htl : ts.length = N := by rw [h.inv.1, hN]
 rw [← htl] at oT
 have hT := TakenAt.of_own oT
 have hB2 := hB.alloc hB.size (.cells #[.slice (some ⟨al, 0, none⟩) N ca, .slice (some ⟨gT, 0, none⟩) N cTn, .slice (some ⟨gD, 0, none⟩) m cDn] 121)
 have hs := hB.size
 refine ⟨⟨h.ok, h.inv, by rw [← hN, ← hM]; exact heap_alloc_new W _, fun i f hf => (h.all i f hf).of (hB2.block al l2), hT.1.of_block (Below.heap_alloc _ _ _ lT), ?_, by omega, by omega, by omega, by omega, by omega, ne⟩, hs, bT, bD, hB2⟩
 rcases oD.2 with ⟨e, _⟩ | ⟨g, _, cur, e, _, hg, _, _, _, ht⟩
 ·cases e
 ·cases e
  refine ⟨cur, (Below.heap_alloc _ _ _ lD).trans hg, fun j v hj => ?_⟩
  rw [← bools_flat, ← ht, List.getElem?_take] at hj
  split at hj
  ·simpa using hj
  ·cases hj
set_option maxHeartbeats 16000000 in
theorem rcopy_any (q al tk db ca ct cd : Nat) (fs ts : List Fr) (dr : List Bool) (w : World) (h : RefAt w q al tk db ca ct cd fs ts dr) (hd0 : 0 < dr.length) :
  Calls Tryz.prog 110 #[.pointer (some ⟨q, 0, none⟩)] w fun e w' => ∃ q' tk' db' ct' cd', e = .returned (.pointer (some ⟨q', 0, none⟩)) ∧ RefAt w' q' al tk' db' ca ct' cd' fs ts dr ∧ w.heap.size ≤ q' ∧ w.heap.size ≤ tk' ∧ w.heap.size ≤ db' ∧ Below w.heap.size w w' := by
 obtain ⟨N, hN⟩ : ∃ N, N = fs.length := ⟨_, rfl⟩
 obtain ⟨m, hM⟩ : ∃ m, m = dr.length := ⟨_, rfl⟩
 obtain ⟨iT, hiT, zT0, zT1, zT2⟩ := info_parts info_free
 obtain ⟨iD, hiD, zD0, zD1, zD2⟩ := info_parts info_bool
 obtain ⟨c0, c1, c2⟩ := h.heads
 obtain ⟨lq, _, l3, l4⟩ := h.lt
 have hN1 : 0 < N ∧ N ≤ 1000 := by rw [hN]; exact ⟨h.ok.pos, h.ok.few⟩
 have hM1 : 0 < m ∧ m ≤ 1000 := by rw [hM]; exact ⟨hd0, h.ok.nodes⟩
 have HET : Hid (Els frC 4 w w.heap.size (some ⟨tk, 0, none⟩) ts) := Lib.hid (by
  obtain ⟨cur, h1, h2⟩ := h.taken
  exact els_blk frC1 h1 h2)
 have HED : Hid (Els boC 1 w w.heap.size (some ⟨db, 0, none⟩) dr) := Lib.hid (by
  obtain ⟨cur, h1, h2⟩ := h.drained
  exact els_blk boC_len h1 (by rw [bools_flat]; exact h2))
 have HLT : Hid (N = ts.length) := Lib.hid (by rw [h.inv.1, hN])
 have HLD := Lib.hid hM
 have HP := Lib.hid h
 rw [← hN] at c0 c1
 rw [← hM] at c2
 have Hc := Lib.hid (And.intro c0 (And.intro c1 c2))
 have HN := Lib.hid hN
 have HM := Lib.hid hM
 clear h hN hM hd0 c0 c1 c2 l3 l4
 go_enter Tryz.func110, Tryz.ntmps110
 go_wp2
 refine held_begin (fun w' : World => w'.cell? ⟨q, 0, none⟩ = some (.slice (some ⟨al, 0, none⟩) N ca) ∧ w'.cell? ⟨q, 1, none⟩ = some (.slice (some ⟨tk, 0, none⟩) N ct) ∧ w'.cell? ⟨q, 2, none⟩ = some (.slice (some ⟨db, 0, none⟩) m cd)) (by kernel_rfl) ?_
 have hB0 : Below w.heap.size w w.drew := (Below.refl _ _).drew
 generalize w.drew = wd at hB0 ⊢
 have hS0 : (fun w' : World => w'.cell? ⟨q, 0, none⟩ = some (.slice (some ⟨al, 0, none⟩) N ca) ∧ w'.cell? ⟨q, 1, none⟩ = some (.slice (some ⟨tk, 0, none⟩) N ct) ∧ w'.cell? ⟨q, 2, none⟩ = some (.slice (some ⟨db, 0, none⟩) m cd)) wd := ⟨(hB0.cell (p := ⟨q, 0, none⟩) lq).trans Hc.out.1, (hB0.cell (p := ⟨q, 1, none⟩) lq).trans Hc.out.2.1, (hB0.cell (p := ⟨q, 2, none⟩) lq).trans Hc.out.2.2⟩
 refine held_takeK (v := ?_) 0 3 rfl rfl ⟨by rfl, ?_⟩ hS0 ?_
 rotate_left
 ·intro w' hw'; obtain ⟨x0, x1, x2⟩ := hw'; go_simp; (try with_reducible rfl)
 simp only [Act.put, pzA, pzB, pzC]
 refine held_takeK (v := ?_) 1 4 rfl rfl ⟨by rfl, ?_⟩ hS0 ?_
 rotate_left
 ·intro w' hw'; obtain ⟨x0, x1, x2⟩ := hw'; go_simp; (try with_reducible rfl)
 simp only [Act.put, pzA, pzB, pzC]
 refine held_takeK (v := ?_) 2 5 rfl rfl ⟨by rfl, ?_⟩ hS0 ?_
 rotate_left
 ·intro w' hw'; obtain ⟨x0, x1, x2⟩ := hw'; go_simp; (try with_reducible rfl)
 simp only [Act.put, pzA, pzB, pzC]
 refine held_takeK (v := ?_) 3 6 rfl rfl ⟨by rfl, ?_⟩ hS0 ?_
 rotate_left
 ·intro w' hw'; obtain ⟨x0, x1, x2⟩ := hw'; go_simp; (try with_reducible rfl)
 simp only [Act.put, pzA, pzB, pzC]
 refine held_takeK (v := ?_) 5 8 rfl rfl ⟨by rfl, ?_⟩ hS0 ?_
 rotate_left
 ·intro w' hw'; obtain ⟨x0, x1, x2⟩ := hw'; go_simp; (try with_reducible rfl)
 simp only [Act.put, pzA, pzB, pzC]
 refine held_takeK (v := ?_) 6 9 rfl rfl ⟨by rfl, ?_⟩ hS0 ?_
 rotate_left
 ·intro w' hw'; obtain ⟨x0, x1, x2⟩ := hw'; go_simp; (try with_reducible rfl)
 simp only [Act.put, pzA, pzB, pzC]
 refine held_takeK (v := ?_) 7 10 rfl rfl ⟨by rfl, ?_⟩ hS0 ?_
 rotate_left
 ·intro w' hw'; obtain ⟨x0, x1, x2⟩ := hw'; go_simp; (try with_reducible rfl)
 simp only [Act.put, pzA, pzB, pzC]
 refine held_takeK (v := ?_) 8 11 rfl rfl ⟨by rfl, ?_⟩ hS0 ?_
 rotate_left
 ·intro w' hw'; obtain ⟨x0, x1, x2⟩ := hw'; go_simp; (try with_reducible rfl)
 simp only [Act.put, pzA, pzB, pzC]
 refine held_takeK (v := ?_) 11 14 rfl rfl ⟨by rfl, ?_⟩ hS0 ?_
 rotate_left
 ·intro w' hw'; obtain ⟨x0, x1, x2⟩ := hw'; go_simp; (try with_reducible rfl)
 simp only [Act.put, pzA, pzB, pzC]
 refine held_takeK (v := ?_) 12 15 rfl rfl ⟨by rfl, ?_⟩ hS0 ?_
 rotate_left
 ·intro w' hw'; obtain ⟨x0, x1, x2⟩ := hw'; go_simp; (try with_reducible rfl)
 simp only [Act.put, pzA, pzB, pzC]
 refine held_takeK (v := ?_) 13 16 rfl rfl ⟨by rfl, ?_⟩ hS0 ?_
 rotate_left
 ·intro w' hw'; obtain ⟨x0, x1, x2⟩ := hw'; go_simp; (try with_reducible rfl)
 simp only [Act.put, pzA, pzB, pzC]
 refine held_takeK (v := ?_) 14 17 rfl rfl ⟨by rfl, ?_⟩ hS0 ?_
 rotate_left
 ·intro w' hw'; obtain ⟨x0, x1, x2⟩ := hw'; go_simp; (try with_reducible rfl)
 simp only [Act.put, pzA, pzB, pzC]
 refine held_two 4 10 rfl rfl (by kernel_rfl) (by rfl) (by rfl) (fun K hK => ?_) (fun K hK => ?_)
 ·go_simp
  obtain ⟨v1, hv1⟩ : ∃ z, z = wd.alloc (.cells #[] 144) := ⟨_, rfl⟩
  obtain ⟨eT, heT⟩ : ∃ z, z = wd.heap.size := ⟨_, rfl⟩
  have ownT := Lib.hid (show v1.ownsRow w.heap.size 144 4 (.slice (some ⟨eT, 0, none⟩) 0 0) 0 [] by rw [hv1, heT]; exact World.ownsRow_lit wd #[] 0 hB0.size (by unfold maxLen; omega) rfl)
  have hB1 : Below w.heap.size w v1 := by rw [hv1]; exact hB0.alloc hB0.size _
  have bw : Below wd.heap.size wd v1 := by rw [hv1]; exact (Below.refl _ _).alloc (Nat.le_refl _) _
  have lT : eT < v1.heap.size := by rw [hv1, heT]; simp
  rw [← hv1, ← heT]
  have hS1 : (fun w' : World => w'.cell? ⟨q, 0, none⟩ = some (.slice (some ⟨al, 0, none⟩) N ca) ∧ w'.cell? ⟨q, 1, none⟩ = some (.slice (some ⟨tk, 0, none⟩) N ct) ∧ w'.cell? ⟨q, 2, none⟩ = some (.slice (some ⟨db, 0, none⟩) m cd)) v1 := ⟨(hB1.cell (p := ⟨q, 0, none⟩) lq).trans Hc.out.1, (hB1.cell (p := ⟨q, 1, none⟩) lq).trans Hc.out.2.1, (hB1.cell (p := ⟨q, 2, none⟩) lq).trans Hc.out.2.2⟩
  refine hK.out _ _ hS1 ?_
  clear hK K hv1 heT bw
  try simp only [Act.put, pzA, pzB, pzC]
  refine held_two 9 10 rfl rfl (by kernel_rfl) (by rfl) (by rfl) (fun K hK => ?_) (fun K hK => ?_)
  ·simp only [Go.wp_at_zero, Go.wp_at_succ]
   refine wp_append_els (C := frC) (k := 4) _ _ _ 111 rfl w.heap.size 144 iT _ 32 Tryz.underlying111 hiT zT0 zT1 zT2 rfl (by decide) (.slice (some ⟨eT, 0, none⟩) 0 0) 0 [] rfl ownT.out w.heap.size (some ⟨tk, 0, none⟩) ct N ts rfl (HET.out.keep hB1 (Nat.le_refl _)) HLT.out frC1 frO (by unfold maxLen; omega) (by omega) hB1.size ?_
   intro AT cTn v2 own5 g5 k5
   rw [Nat.zero_add] at own5 ⊢
   rw [List.nil_append] at own5
   obtain ⟨gT, rfl, hgT, hlT, hbT⟩ := own_where own5 (by omega) (by rw [Nat.zero_add] at k5; exact k5)
   have hB2 : Below w.heap.size w v2 := hB1.grown g5 hB1.size (fun j hj => by have h1 : j = eT := (by simpa [Value.ownBlock] using hj.symm); have := (ownT.out.lt eT rfl).1; omega)
   have sz5 := g5.size
   have ownT := Lib.hid own5
   have lT : gT < v2.heap.size := hlT
   have hS2 : (fun w' : World => w'.cell? ⟨q, 0, none⟩ = some (.slice (some ⟨al, 0, none⟩) N ca) ∧ w'.cell? ⟨q, 1, none⟩ = some (.slice (some ⟨tk, 0, none⟩) N ct) ∧ w'.cell? ⟨q, 2, none⟩ = some (.slice (some ⟨db, 0, none⟩) m cd)) v2 := ⟨(hB2.cell (p := ⟨q, 0, none⟩) lq).trans Hc.out.1, (hB2.cell (p := ⟨q, 1, none⟩) lq).trans Hc.out.2.1, (hB2.cell (p := ⟨q, 2, none⟩) lq).trans Hc.out.2.2⟩
   refine hK.out _ _ hS2 ?_
   clear hK K own5 g5 k5 hgT hlT hbT sz5
   try simp only [Act.put, pzA, pzB, pzC]
   refine held_one 10 rfl (by kernel_rfl) (by rfl) (fun K hK => ?_)
   go_simp
   obtain ⟨v3, hv3⟩ : ∃ z, z = v2.alloc (.cells #[] 4) := ⟨_, rfl⟩
   obtain ⟨eD, heD⟩ : ∃ z, z = v2.heap.size := ⟨_, rfl⟩
   have ownD := Lib.hid (show v3.ownsRow w.heap.size 4 1 (.slice (some ⟨eD, 0, none⟩) 0 0) 0 [] by rw [hv3, heD]; exact World.ownsRow_lit v2 #[] 0 hB2.size (by unfold maxLen; omega) rfl)
   have hB3 : Below w.heap.size w v3 := by rw [hv3]; exact hB2.alloc hB2.size _
   have bw : Below v2.heap.size v2 v3 := by rw [hv3]; exact (Below.refl _ _).alloc (Nat.le_refl _) _
   have lD : eD < v3.heap.size := by rw [hv3, heD]; simp
   have ownT := Lib.hid (own_keep ownT.out bw)
   have neTD : gT ≠ eD := by omega
   have lT : gT < v3.heap.size := by have := bw.size; omega
   rw [← hv3, ← heD]
   have hS3 : (fun w' : World => w'.cell? ⟨q, 0, none⟩ = some (.slice (some ⟨al, 0, none⟩) N ca) ∧ w'.cell? ⟨q, 1, none⟩ = some (.slice (some ⟨tk, 0, none⟩) N ct) ∧ w'.cell? ⟨q, 2, none⟩ = some (.slice (some ⟨db, 0, none⟩) m cd)) v3 := ⟨(hB3.cell (p := ⟨q, 0, none⟩) lq).trans Hc.out.1, (hB3.cell (p := ⟨q, 1, none⟩) lq).trans Hc.out.2.1, (hB3.cell (p := ⟨q, 2, none⟩) lq).trans Hc.out.2.2⟩
   refine hK.out _ _ hS3 ?_
   clear hK K hv3 heD bw
   try simp only [Act.put, pzA, pzB, pzC]
   refine held_one 15 rfl (by kernel_rfl) (by rfl) (fun K hK => ?_)
   simp only [Go.wp_at_zero, Go.wp_at_succ]
   refine wp_append_els (C := boC) (k := 1) _ _ _ 118 rfl w.heap.size 4 iD _ 1 Tryz.underlying118 hiD zD0 zD1 zD2 rfl (by decide) (.slice (some ⟨eD, 0, none⟩) 0 0) 0 [] rfl ownD.out w.heap.size (some ⟨db, 0, none⟩) cd m dr rfl (HED.out.keep hB3 (Nat.le_refl _)) HLD.out boC_len boO (by unfold maxLen; omega) (by omega) hB3.size ?_
   intro AD cDn v4 own5 g5 k5
   rw [Nat.zero_add] at own5 ⊢
   rw [List.nil_append] at own5
   obtain ⟨gD, rfl, hgD, hlD, hbD⟩ := own_where own5 (by omega) (by rw [Nat.zero_add] at k5; exact k5)
   have hB4 : Below w.heap.size w v4 := hB3.grown g5 hB3.size (fun j hj => by have h1 : j = eD := (by simpa [Value.ownBlock] using hj.symm); have := (ownD.out.lt eD rfl).1; omega)
   have sz5 := g5.size
   have ownT := Lib.hid (own_stays ownT.out fun i hi => g5.block i (ownT.out.lt i hi).2 (fun e => by have h1 : i = gT := (by simpa [Value.ownBlock] using hi.symm); have h2 : i = eD := (by simpa [Value.ownBlock] using e); omega))
   have neTD : gT ≠ gD := by rcases hgD with e | e <;> omega
   have lT : gT < v4.heap.size := by omega
   have ownD := Lib.hid own5
   have lD : gD < v4.heap.size := hlD
   have hS4 : (fun w' : World => w'.cell? ⟨q, 0, none⟩ = some (.slice (some ⟨al, 0, none⟩) N ca) ∧ w'.cell? ⟨q, 1, none⟩ = some (.slice (some ⟨tk, 0, none⟩) N ct) ∧ w'.cell? ⟨q, 2, none⟩ = some (.slice (some ⟨db, 0, none⟩) m cd)) v4 := ⟨(hB4.cell (p := ⟨q, 0, none⟩) lq).trans Hc.out.1, (hB4.cell (p := ⟨q, 1, none⟩) lq).trans Hc.out.2.1, (hB4.cell (p := ⟨q, 2, none⟩) lq).trans Hc.out.2.2⟩
   refine hK.out _ _ hS4 ?_
   clear hK K own5 g5 k5 hgD hlD hbD sz5
   try simp only [Act.put, pzA, pzB, pzC]
   refine held_takeK (v := ?_) 16 19 rfl rfl ⟨by rfl, ?_⟩ hS4 ?_
   rotate_left
   ·intro w' hw'; obtain ⟨x0, x1, x2⟩ := hw'; go_simp; (try with_reducible rfl)
   simp only [Act.put, pzA, pzB, pzC]
   refine held_one 17 rfl (by kernel_rfl) (by rfl) (fun K hK => ?_)
   go_simp
   obtain ⟨WZ, hWZ⟩ : ∃ z, z = v4.alloc (.cells #[.slice (some ⟨al, 0, none⟩) N ca, .slice (some ⟨gT, 0, none⟩) N cTn, .slice (some ⟨gD, 0, none⟩) m cDn] 121) := ⟨_, rfl⟩
   have FIN := Lib.hid (copied v4 HP.out hB4 lq neTD lT lD ownT.out ownD.out HN.out HM.out)
   rw [← hWZ] at FIN ⊢
   have hSZ : (fun w' : World => w'.cell? ⟨q, 0, none⟩ = some (.slice (some ⟨al, 0, none⟩) N ca) ∧ w'.cell? ⟨q, 1, none⟩ = some (.slice (some ⟨tk, 0, none⟩) N ct) ∧ w'.cell? ⟨q, 2, none⟩ = some (.slice (some ⟨db, 0, none⟩) m cd)) WZ := by have hz : Below w.heap.size w WZ := FIN.out.2.2.2.2; exact ⟨(hz.cell (p := ⟨q, 0, none⟩) lq).trans Hc.out.1, (hz.cell (p := ⟨q, 1, none⟩) lq).trans Hc.out.2.1, (hz.cell (p := ⟨q, 2, none⟩) lq).trans Hc.out.2.2⟩
   refine hK.out _ _ hSZ ?_
   clear hK K
   try simp only [Act.put, pzA, pzB, pzC]
   refine held_takeK (v := ?_) 18 2 rfl rfl ⟨by rfl, ?_⟩ hSZ ?_
   rotate_left
   ·intro w' hw'; go_simp; (try with_reducible rfl)
   simp only [Act.put, pzA, pzB, pzC]
   refine wpAnyH_done (by kernel_rfl) ?_ _
   clear hSZ hWZ
   go_wp2
   go_ret
   exact ⟨_, rfl, gT, gD, ⟨cTn, cDn, FIN.out.1⟩, FIN.out.2⟩
  ·go_simp
   obtain ⟨v5, hv5⟩ : ∃ z, z = v1.alloc (.cells #[] 4) := ⟨_, rfl⟩
   obtain ⟨eD, heD⟩ : ∃ z, z = v1.heap.size := ⟨_, rfl⟩
   have ownD := Lib.hid (show v5.ownsRow w.heap.size 4 1 (.slice (some ⟨eD, 0, none⟩) 0 0) 0 [] by rw [hv5, heD]; exact World.ownsRow_lit v1 #[] 0 hB1.size (by unfold maxLen; omega) rfl)
   have hB5 : Below w.heap.size w v5 := by rw [hv5]; exact hB1.alloc hB1.size _
   have bw : Below v1.heap.size v1 v5 := by rw [hv5]; exact (Below.refl _ _).alloc (Nat.le_refl _) _
   have lD : eD < v5.heap.size := by rw [hv5, heD]; simp
   have ownT := Lib.hid (own_keep ownT.out bw)
   have neTD : eT ≠ eD := by omega
   have lT : eT < v5.heap.size := by have := bw.size; omega
   rw [← hv5, ← heD]
   have hS5 : (fun w' : World => w'.cell? ⟨q, 0, none⟩ = some (.slice (some ⟨al, 0, none⟩) N ca) ∧ w'.cell? ⟨q, 1, none⟩ = some (.slice (some ⟨tk, 0, none⟩) N ct) ∧ w'.cell? ⟨q, 2, none⟩ = some (.slice (some ⟨db, 0, none⟩) m cd)) v5 := ⟨(hB5.cell (p := ⟨q, 0, none⟩) lq).trans Hc.out.1, (hB5.cell (p := ⟨q, 1, none⟩) lq).trans Hc.out.2.1, (hB5.cell (p := ⟨q, 2, none⟩) lq).trans Hc.out.2.2⟩
   refine hK.out _ _ hS5 ?_
   clear hK K hv5 heD bw
   try simp only [Act.put, pzA, pzB, pzC]
   refine held_one 9 rfl (by kernel_rfl) (by rfl) (fun K hK => ?_)
   simp only [Go.wp_at_zero, Go.wp_at_succ]
   refine wp_append_els (C := frC) (k := 4) _ _ _ 111 rfl w.heap.size 144 iT _ 32 Tryz.underlying111 hiT zT0 zT1 zT2 rfl (by decide) (.slice (some ⟨eT, 0, none⟩) 0 0) 0 [] rfl ownT.out w.heap.size (some ⟨tk, 0, none⟩) ct N ts rfl (HET.out.keep hB5 (Nat.le_refl _)) HLT.out frC1 frO (by unfold maxLen; omega) (by omega) hB5.size ?_
   intro AT cTn v6 own5 g5 k5
   rw [Nat.zero_add] at own5 ⊢
   rw [List.nil_append] at own5
   obtain ⟨gT, rfl, hgT, hlT, hbT⟩ := own_where own5 (by omega) (by rw [Nat.zero_add] at k5; exact k5)
   have hB6 : Below w.heap.size w v6 := hB5.grown g5 hB5.size (fun j hj => by have h1 : j = eT := (by simpa [Value.ownBlock] using hj.symm); have := (ownT.out.lt eT rfl).1; omega)
   have sz5 := g5.size
   have ownD := Lib.hid (own_stays ownD.out fun i hi => g5.block i (ownD.out.lt i hi).2 (fun e => by have h1 : i = eD := (by simpa [Value.ownBlock] using hi.symm); have h2 : i = eT := (by simpa [Value.ownBlock] using e); omega))
   have neTD : gT ≠ eD := by rcases hgT with e | e <;> omega
   have lD : eD < v6.heap.size := by omega
   have ownT := Lib.hid own5
   have lT : gT < v6.heap.size := hlT
   have hS6 : (fun w' : World => w'.cell? ⟨q, 0, none⟩ = some (.slice (some ⟨al, 0, none⟩) N ca) ∧ w'.cell? ⟨q, 1, none⟩ = some (.slice (some ⟨tk, 0, none⟩) N ct) ∧ w'.cell? ⟨q, 2, none⟩ = some (.slice (some ⟨db, 0, none⟩) m cd)) v6 := ⟨(hB6.cell (p := ⟨q, 0, none⟩) lq).trans Hc.out.1, (hB6.cell (p := ⟨q, 1, none⟩) lq).trans Hc.out.2.1, (hB6.cell (p := ⟨q, 2, none⟩) lq).trans Hc.out.2.2⟩
   refine hK.out _ _ hS6 ?_
   clear hK K own5 g5 k5 hgT hlT hbT sz5
   try simp only [Act.put, pzA, pzB, pzC]
   refine held_one 15 rfl (by kernel_rfl) (by rfl) (fun K hK => ?_)
   simp only [Go.wp_at_zero, Go.wp_at_succ]
   refine wp_append_els (C := boC) (k := 1) _ _ _ 118 rfl w.heap.size 4 iD _ 1 Tryz.underlying118 hiD zD0 zD1 zD2 rfl (by decide) (.slice (some ⟨eD, 0, none⟩) 0 0) 0 [] rfl ownD.out w.heap.size (some ⟨db, 0, none⟩) cd m dr rfl (HED.out.keep hB6 (Nat.le_refl _)) HLD.out boC_len boO (by unfold maxLen; omega) (by omega) hB6.size ?_
   intro AD cDn v7 own5 g5 k5
   rw [Nat.zero_add] at own5 ⊢
   rw [List.nil_append] at own5
   obtain ⟨gD, rfl, hgD, hlD, hbD⟩ := own_where own5 (by omega) (by rw [Nat.zero_add] at k5; exact k5)
   have hB7 : Below w.heap.size w v7 := hB6.grown g5 hB6.size (fun j hj => by have h1 : j = eD := (by simpa [Value.ownBlock] using hj.symm); have := (ownD.out.lt eD rfl).1; omega)
   have sz5 := g5.size
   have ownT := Lib.hid (own_stays ownT.out fun i hi => g5.block i (ownT.out.lt i hi).2 (fun e => by have h1 : i = gT := (by simpa [Value.ownBlock] using hi.symm); have h2 : i = eD := (by simpa [Value.ownBlock] using e); omega))
   have neTD : gT ≠ gD := by rcases hgD with e | e <;> omega
   have lT : gT < v7.heap.size := by omega
   have ownD := Lib.hid own5
   have lD : gD < v7.heap.size := hlD
   have hS7 : (fun w' : World => w'.cell? ⟨q, 0, none⟩ = some (.slice (some ⟨al, 0, none⟩) N ca) ∧ w'.cell? ⟨q, 1, none⟩ = some (.slice (some ⟨tk, 0, none⟩) N ct) ∧ w'.cell? ⟨q, 2, none⟩ = some (.slice (some ⟨db, 0, none⟩) m cd)) v7 := ⟨(hB7.cell (p := ⟨q, 0, none⟩) lq).trans Hc.out.1, (hB7.cell (p := ⟨q, 1, none⟩) lq).trans Hc.out.2.1, (hB7.cell (p := ⟨q, 2, none⟩) lq).trans Hc.out.2.2⟩
   refine hK.out _ _ hS7 ?_
   clear hK K own5 g5 k5 hgD hlD hbD sz5
   try simp only [Act.put, pzA, pzB, pzC]
   refine held_takeK (v := ?_) 16 19 rfl rfl ⟨by rfl, ?_⟩ hS7 ?_
   rotate_left
   ·intro w' hw'; obtain ⟨x0, x1, x2⟩ := hw'; go_simp; (try with_reducible rfl)
   simp only [Act.put, pzA, pzB, pzC]
   refine held_one 17 rfl (by kernel_rfl) (by rfl) (fun K hK => ?_)
   go_simp
   obtain ⟨WZ, hWZ⟩ : ∃ z, z = v7.alloc (.cells #[.slice (some ⟨al, 0, none⟩) N ca, .slice (some ⟨gT, 0, none⟩) N cTn, .slice (some ⟨gD, 0, none⟩) m cDn] 121) := ⟨_, rfl⟩
   have FIN := Lib.hid (copied v7 HP.out hB7 lq neTD lT lD ownT.out ownD.out HN.out HM.out)
   rw [← hWZ] at FIN ⊢
   have hSZ : (fun w' : World => w'.cell? ⟨q, 0, none⟩ = some (.slice (some ⟨al, 0, none⟩) N ca) ∧ w'.cell? ⟨q, 1, none⟩ = some (.slice (some ⟨tk, 0, none⟩) N ct) ∧ w'.cell? ⟨q, 2, none⟩ = some (.slice (some ⟨db, 0, none⟩) m cd)) WZ := by have hz : Below w.heap.size w WZ := FIN.out.2.2.2.2; exact ⟨(hz.cell (p := ⟨q, 0, none⟩) lq).trans Hc.out.1, (hz.cell (p := ⟨q, 1, none⟩) lq).trans Hc.out.2.1, (hz.cell (p := ⟨q, 2, none⟩) lq).trans Hc.out.2.2⟩
   refine hK.out _ _ hSZ ?_
   clear hK K
   try simp only [Act.put, pzA, pzB, pzC]
   refine held_takeK (v := ?_) 18 2 rfl rfl ⟨by rfl, ?_⟩ hSZ ?_
   rotate_left
   ·intro w' hw'; go_simp; (try with_reducible rfl)
   simp only [Act.put, pzA, pzB, pzC]
   refine wpAnyH_done (by kernel_rfl) ?_ _
   clear hSZ hWZ
   go_wp2
   go_ret
   exact ⟨_, rfl, gT, gD, ⟨cTn, cDn, FIN.out.1⟩, FIN.out.2⟩
 ·go_simp
  obtain ⟨v8, hv8⟩ : ∃ z, z = wd.alloc (.cells #[] 4) := ⟨_, rfl⟩
  obtain ⟨eD, heD⟩ : ∃ z, z = wd.heap.size := ⟨_, rfl⟩
  have ownD := Lib.hid (show v8.ownsRow w.heap.size 4 1 (.slice (some ⟨eD, 0, none⟩) 0 0) 0 [] by rw [hv8, heD]; exact World.ownsRow_lit wd #[] 0 hB0.size (by unfold maxLen; omega) rfl)
  have hB8 : Below w.heap.size w v8 := by rw [hv8]; exact hB0.alloc hB0.size _
  have bw : Below wd.heap.size wd v8 := by rw [hv8]; exact (Below.refl _ _).alloc (Nat.le_refl _) _
  have lD : eD < v8.heap.size := by rw [hv8, heD]; simp
  rw [← hv8, ← heD]
  have hS8 : (fun w' : World => w'.cell? ⟨q, 0, none⟩ = some (.slice (some ⟨al, 0, none⟩) N ca) ∧ w'.cell? ⟨q, 1, none⟩ = some (.slice (some ⟨tk, 0, none⟩) N ct) ∧ w'.cell? ⟨q, 2, none⟩ = some (.slice (some ⟨db, 0, none⟩) m cd)) v8 := ⟨(hB8.cell (p := ⟨q, 0, none⟩) lq).trans Hc.out.1, (hB8.cell (p := ⟨q, 1, none⟩) lq).trans Hc.out.2.1, (hB8.cell (p := ⟨q, 2, none⟩) lq).trans Hc.out.2.2⟩
  refine hK.out _ _ hS8 ?_
  clear hK K hv8 heD bw
  try simp only [Act.put, pzA, pzB, pzC]
  refine held_one 4 rfl (by kernel_rfl) (by rfl) (fun K hK => ?_)
  go_simp
  obtain ⟨v9, hv9⟩ : ∃ z, z = v8.alloc (.cells #[] 144) := ⟨_, rfl⟩
  obtain ⟨eT, heT⟩ : ∃ z, z = v8.heap.size := ⟨_, rfl⟩
  have ownT := Lib.hid (show v9.ownsRow w.heap.size 144 4 (.slice (some ⟨eT, 0, none⟩) 0 0) 0 [] by rw [hv9, heT]; exact World.ownsRow_lit v8 #[] 0 hB8.size (by unfold maxLen; omega) rfl)
  have hB9 : Below w.heap.size w v9 := by rw [hv9]; exact hB8.alloc hB8.size _
  have bw : Below v8.heap.size v8 v9 := by rw [hv9]; exact (Below.refl _ _).alloc (Nat.le_refl _) _
  have lT : eT < v9.heap.size := by rw [hv9, heT]; simp
  have ownD := Lib.hid (own_keep ownD.out bw)
  have neTD : eT ≠ eD := by omega
  have lD : eD < v9.heap.size := by have := bw.size; omega
  rw [← hv9, ← heT]
  have hS9 : (fun w' : World => w'.cell? ⟨q, 0, none⟩ = some (.slice (some ⟨al, 0, none⟩) N ca) ∧ w'.cell? ⟨q, 1, none⟩ = some (.slice (some ⟨tk, 0, none⟩) N ct) ∧ w'.cell? ⟨q, 2, none⟩ = some (.slice (some ⟨db, 0, none⟩) m cd)) v9 := ⟨(hB9.cell (p := ⟨q, 0, none⟩) lq).trans Hc.out.1, (hB9.cell (p := ⟨q, 1, none⟩) lq).trans Hc.out.2.1, (hB9.cell (p := ⟨q, 2, none⟩) lq).trans Hc.out.2.2⟩
  refine hK.out _ _ hS9 ?_
  clear hK K hv9 heT bw
  try simp only [Act.put, pzA, pzB, pzC]
  refine held_one 9 rfl (by kernel_rfl) (by rfl) (fun K hK => ?_)
  simp only [Go.wp_at_zero, Go.wp_at_succ]
  refine wp_append_els (C := frC) (k := 4) _ _ _ 111 rfl w.heap.size 144 iT _ 32 Tryz.underlying111 hiT zT0 zT1 zT2 rfl (by decide) (.slice (some ⟨eT, 0, none⟩) 0 0) 0 [] rfl ownT.out w.heap.size (some ⟨tk, 0, none⟩) ct N ts rfl (HET.out.keep hB9 (Nat.le_refl _)) HLT.out frC1 frO (by unfold maxLen; omega) (by omega) hB9.size ?_
  intro AT cTn v10 own5 g5 k5
  rw [Nat.zero_add] at own5 ⊢
  rw [List.nil_append] at own5
  obtain ⟨gT, rfl, hgT, hlT, hbT⟩ := own_where own5 (by omega) (by rw [Nat.zero_add] at k5; exact k5)
  have hB10 : Below w.heap.size w v10 := hB9.grown g5 hB9.size (fun j hj => by have h1 : j = eT := (by simpa [Value.ownBlock] using hj.symm); have := (ownT.out.lt eT rfl).1; omega)
  have sz5 := g5.size
  have ownD := Lib.hid (own_stays ownD.out fun i hi => g5.block i (ownD.out.lt i hi).2 (fun e => by have h1 : i = eD := (by simpa [Value.ownBlock] using hi.symm); have h2 : i = eT := (by simpa [Value.ownBlock] using e); omega))
  have neTD : gT ≠ eD := by rcases hgT with e | e <;> omega
  have lD : eD < v10.heap.size := by omega
  have ownT := Lib.hid own5
  have lT : gT < v10.heap.size := hlT
  have hS10 : (fun w' : World => w'.cell? ⟨q, 0, none⟩ = some (.slice (some ⟨al, 0, none⟩) N ca) ∧ w'.cell? ⟨q, 1, none⟩ = some (.slice (some ⟨tk, 0, none⟩) N ct) ∧ w'.cell? ⟨q, 2, none⟩ = some (.slice (some ⟨db, 0, none⟩) m cd)) v10 := ⟨(hB10.cell (p := ⟨q, 0, none⟩) lq).trans Hc.out.1, (hB10.cell (p := ⟨q, 1, none⟩) lq).trans Hc.out.2.1, (hB10.cell (p := ⟨q, 2, none⟩) lq).trans Hc.out.2.2⟩
  refine hK.out _ _ hS10 ?_
  clear hK K own5 g5 k5 hgT hlT hbT sz5
  try simp only [Act.put, pzA, pzB, pzC]
  refine held_one 15 rfl (by kernel_rfl) (by rfl) (fun K hK => ?_)
  simp only [Go.wp_at_zero, Go.wp_at_succ]
  refine wp_append_els (C := boC) (k := 1) _ _ _ 118 rfl w.heap.size 4 iD _ 1 Tryz.underlying118 hiD zD0 zD1 zD2 rfl (by decide) (.slice (some ⟨eD, 0, none⟩) 0 0) 0 [] rfl ownD.out w.heap.size (some ⟨db, 0, none⟩) cd m dr rfl (HED.out.keep hB10 (Nat.le_refl _)) HLD.out boC_len boO (by unfold maxLen; omega) (by omega) hB10.size ?_
  intro AD cDn v11 own5 g5 k5
  rw [Nat.zero_add] at own5 ⊢
  rw [List.nil_append] at own5
  obtain ⟨gD, rfl, hgD, hlD, hbD⟩ := own_where own5 (by omega) (by rw [Nat.zero_add] at k5; exact k5)
  have hB11 : Below w.heap.size w v11 := hB10.grown g5 hB10.size (fun j hj => by have h1 : j = eD := (by simpa [Value.ownBlock] using hj.symm); have := (ownD.out.lt eD rfl).1; omega)
  have sz5 := g5.size
  have ownT := Lib.hid (own_stays ownT.out fun i hi => g5.block i (ownT.out.lt i hi).2 (fun e => by have h1 : i = gT := (by simpa [Value.ownBlock] using hi.symm); have h2 : i = eD := (by simpa [Value.ownBlock] using e); omega))
  have neTD : gT ≠ gD := by rcases hgD with e | e <;> omega
  have lT : gT < v11.heap.size := by omega
  have ownD := Lib.hid own5
  have lD : gD < v11.heap.size := hlD
  have hS11 : (fun w' : World => w'.cell? ⟨q, 0, none⟩ = some (.slice (some ⟨al, 0, none⟩) N ca) ∧ w'.cell? ⟨q, 1, none⟩ = some (.slice (some ⟨tk, 0, none⟩) N ct) ∧ w'.cell? ⟨q, 2, none⟩ = some (.slice (some ⟨db, 0, none⟩) m cd)) v11 := ⟨(hB11.cell (p := ⟨q, 0, none⟩) lq).trans Hc.out.1, (hB11.cell (p := ⟨q, 1, none⟩) lq).trans Hc.out.2.1, (hB11.cell (p := ⟨q, 2, none⟩) lq).trans Hc.out.2.2⟩
  refine hK.out _ _ hS11 ?_
  clear hK K own5 g5 k5 hgD hlD hbD sz5
  try simp only [Act.put, pzA, pzB, pzC]
  refine held_takeK (v := ?_) 16 19 rfl rfl ⟨by rfl, ?_⟩ hS11 ?_
  rotate_left
  ·intro w' hw'; obtain ⟨x0, x1, x2⟩ := hw'; go_simp; (try with_reducible rfl)
  simp only [Act.put, pzA, pzB, pzC]
  refine held_one 17 rfl (by kernel_rfl) (by rfl) (fun K hK => ?_)
  go_simp
  obtain ⟨WZ, hWZ⟩ : ∃ z, z = v11.alloc (.cells #[.slice (some ⟨al, 0, none⟩) N ca, .slice (some ⟨gT, 0, none⟩) N cTn, .slice (some ⟨gD, 0, none⟩) m cDn] 121) := ⟨_, rfl⟩
  have FIN := Lib.hid (copied v11 HP.out hB11 lq neTD lT lD ownT.out ownD.out HN.out HM.out)
  rw [← hWZ] at FIN ⊢
  have hSZ : (fun w' : World => w'.cell? ⟨q, 0, none⟩ = some (.slice (some ⟨al, 0, none⟩) N ca) ∧ w'.cell? ⟨q, 1, none⟩ = some (.slice (some ⟨tk, 0, none⟩) N ct) ∧ w'.cell? ⟨q, 2, none⟩ = some (.slice (some ⟨db, 0, none⟩) m cd)) WZ := by have hz : Below w.heap.size w WZ := FIN.out.2.2.2.2; exact ⟨(hz.cell (p := ⟨q, 0, none⟩) lq).trans Hc.out.1, (hz.cell (p := ⟨q, 1, none⟩) lq).trans Hc.out.2.1, (hz.cell (p := ⟨q, 2, none⟩) lq).trans Hc.out.2.2⟩
  refine hK.out _ _ hSZ ?_
  clear hK K
  try simp only [Act.put, pzA, pzB, pzC]
  refine held_takeK (v := ?_) 18 2 rfl rfl ⟨by rfl, ?_⟩ hSZ ?_
  rotate_left
  ·intro w' hw'; go_simp; (try with_reducible rfl)
  simp only [Act.put, pzA, pzB, pzC]
  refine wpAnyH_done (by kernel_rfl) ?_ _
  clear hSZ hWZ
  go_wp2
  go_ret
  exact ⟨_, rfl, gT, gD, ⟨cTn, cDn, FIN.out.1⟩, FIN.out.2⟩
end Go.Proofs.YtgpfmlidchogcaaGreat
