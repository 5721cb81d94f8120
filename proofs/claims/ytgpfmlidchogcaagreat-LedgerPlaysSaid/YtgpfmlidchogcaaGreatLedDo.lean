/- The laws' do: one call of a ledger. -/
import Derived.Laws.ResultCell
import Derived.Laws.Rows
import Derived.Deep.RegionHeld3
import Derived.StillTail
import Derived.StillTailTactics
import Derived.Test.YtgpfmlidchogcaaGreatLedCalls
import Derived.Test.YtgpfmlidchogcaaGreatLedCallz
import Derived.Test.YtgpfmlidchogcaaGreatLedActs
set_option maxRecDepth 100000
set_option linter.unusedVariables false
namespace Go.Proofs.YtgpfmlidchogcaaGreat
open Go.RowKit Go.MuLone

def toldZ : Array Value := #[.int .i64 0, .slice none 0 0, .int .i64 0, .int .i64 0, .int .u64 0, .int .i64 0, .int .i64 0, .int .i64 0, .int .i64 0, .bool false, .slice none 0 0]
theorem told_size : (Tryz.prog.info? 46).map (·.size) = some 11 := by kernel_rfl
theorem blk11 {w : World} {R : Nat} {t : TypeId} {v0 v1 v2 v3 v4 v5 v6 v7 v8 v9 v10 : Value} (h : w.heap[R]? = some (.cells #[v0, v1, v2, v3, v4, v5, v6, v7, v8, v9, v10] t (0, 0))) :
  w.cell? ⟨R, 0, none⟩ = some v0 ∧ w.cell? ⟨R, 1, none⟩ = some v1 ∧ w.cell? ⟨R, 2, none⟩ = some v2 ∧ w.cell? ⟨R, 3, none⟩ = some v3 ∧ w.cell? ⟨R, 4, none⟩ = some v4 ∧ w.cell? ⟨R, 5, none⟩ = some v5 ∧ w.cell? ⟨R, 6, none⟩ = some v6 ∧ w.cell? ⟨R, 7, none⟩ = some v7 ∧ w.cell? ⟨R, 8, none⟩ = some v8 ∧ w.cell? ⟨R, 9, none⟩ = some v9 ∧ w.cell? ⟨R, 10, none⟩ = some v10 :=
 ⟨cell_blk h rfl, cell_blk h rfl, cell_blk h rfl, cell_blk h rfl, cell_blk h rfl, cell_blk h rfl, cell_blk h rfl, cell_blk h rfl, cell_blk h rfl, cell_blk h rfl, cell_blk h rfl⟩
abbrev set11 (W : World) (R : Nat) (v0 v1 v2 v3 v4 v5 v6 v7 v8 v9 v10 : Value) : World := (((((((((((W.setCell ⟨R, 0, none⟩ v0).setCell ⟨R, 1, none⟩ v1).setCell ⟨R, 2, none⟩ v2).setCell ⟨R, 3, none⟩ v3).setCell ⟨R, 4, none⟩ v4).setCell ⟨R, 5, none⟩ v5).setCell ⟨R, 6, none⟩ v6).setCell ⟨R, 7, none⟩ v7).setCell ⟨R, 8, none⟩ v8).setCell ⟨R, 9, none⟩ v9).setCell ⟨R, 10, none⟩ v10)
theorem set11_foot (W : World) (R : Nat) (v0 v1 v2 v3 v4 v5 v6 v7 v8 v9 v10 : Value) : Foot (· = R) W (set11 W R v0 v1 v2 v3 v4 v5 v6 v7 v8 v9 v10) := (Foot.setCell (F := (· = R)) (p := ⟨R, 10, none⟩) ((Foot.setCell (F := (· = R)) (p := ⟨R, 9, none⟩) ((Foot.setCell (F := (· = R)) (p := ⟨R, 8, none⟩) ((Foot.setCell (F := (· = R)) (p := ⟨R, 7, none⟩) ((Foot.setCell (F := (· = R)) (p := ⟨R, 6, none⟩) ((Foot.setCell (F := (· = R)) (p := ⟨R, 5, none⟩) ((Foot.setCell (F := (· = R)) (p := ⟨R, 4, none⟩) ((Foot.setCell (F := (· = R)) (p := ⟨R, 3, none⟩) ((Foot.setCell (F := (· = R)) (p := ⟨R, 2, none⟩) ((Foot.setCell (F := (· = R)) (p := ⟨R, 1, none⟩) ((Foot.setCell (F := (· = R)) (p := ⟨R, 0, none⟩) (Foot.refl _ W) (.inl rfl) _)) (.inl rfl) _)) (.inl rfl) _)) (.inl rfl) _)) (.inl rfl) _)) (.inl rfl) _)) (.inl rfl) _)) (.inl rfl) _)) (.inl rfl) _)) (.inl rfl) _)) (.inl rfl) _)
theorem set11_blk {W : World} {R : Nat} {u0 u1 u2 u3 u4 u5 u6 u7 u8 u9 u10 : Value} {t : TypeId} (h : W.heap[R]? = some (.cells #[u0, u1, u2, u3, u4, u5, u6, u7, u8, u9, u10] t (0, 0))) (v0 v1 v2 v3 v4 v5 v6 v7 v8 v9 v10 : Value) : (set11 W R v0 v1 v2 v3 v4 v5 v6 v7 v8 v9 v10).heap[R]? = some (.cells #[v0, v1, v2, v3, v4, v5, v6, v7, v8, v9, v10] t (0, 0)) := by
 have s0 : (W.setCell ⟨R, 0, none⟩ v0).heap[R]? = some (.cells #[v0, u1, u2, u3, u4, u5, u6, u7, u8, u9, u10] t (0, 0)) := (blk_put (i := 0) v0 h).trans (by simp)
 have s1 : ((W.setCell ⟨R, 0, none⟩ v0).setCell ⟨R, 1, none⟩ v1).heap[R]? = some (.cells #[v0, v1, u2, u3, u4, u5, u6, u7, u8, u9, u10] t (0, 0)) := (blk_put (i := 1) v1 s0).trans (by simp)
 have s2 : (((W.setCell ⟨R, 0, none⟩ v0).setCell ⟨R, 1, none⟩ v1).setCell ⟨R, 2, none⟩ v2).heap[R]? = some (.cells #[v0, v1, v2, u3, u4, u5, u6, u7, u8, u9, u10] t (0, 0)) := (blk_put (i := 2) v2 s1).trans (by simp)
 have s3 : ((((W.setCell ⟨R, 0, none⟩ v0).setCell ⟨R, 1, none⟩ v1).setCell ⟨R, 2, none⟩ v2).setCell ⟨R, 3, none⟩ v3).heap[R]? = some (.cells #[v0, v1, v2, v3, u4, u5, u6, u7, u8, u9, u10] t (0, 0)) := (blk_put (i := 3) v3 s2).trans (by simp)
 have s4 : (((((W.setCell ⟨R, 0, none⟩ v0).setCell ⟨R, 1, none⟩ v1).setCell ⟨R, 2, none⟩ v2).setCell ⟨R, 3, none⟩ v3).setCell ⟨R, 4, none⟩ v4).heap[R]? = some (.cells #[v0, v1, v2, v3, v4, u5, u6, u7, u8, u9, u10] t (0, 0)) := (blk_put (i := 4) v4 s3).trans (by simp)
 have s5 : ((((((W.setCell ⟨R, 0, none⟩ v0).setCell ⟨R, 1, none⟩ v1).setCell ⟨R, 2, none⟩ v2).setCell ⟨R, 3, none⟩ v3).setCell ⟨R, 4, none⟩ v4).setCell ⟨R, 5, none⟩ v5).heap[R]? = some (.cells #[v0, v1, v2, v3, v4, v5, u6, u7, u8, u9, u10] t (0, 0)) := (blk_put (i := 5) v5 s4).trans (by simp)
 have s6 : (((((((W.setCell ⟨R, 0, none⟩ v0).setCell ⟨R, 1, none⟩ v1).setCell ⟨R, 2, none⟩ v2).setCell ⟨R, 3, none⟩ v3).setCell ⟨R, 4, none⟩ v4).setCell ⟨R, 5, none⟩ v5).setCell ⟨R, 6, none⟩ v6).heap[R]? = some (.cells #[v0, v1, v2, v3, v4, v5, v6, u7, u8, u9, u10] t (0, 0)) := (blk_put (i := 6) v6 s5).trans (by simp)
 have s7 : ((((((((W.setCell ⟨R, 0, none⟩ v0).setCell ⟨R, 1, none⟩ v1).setCell ⟨R, 2, none⟩ v2).setCell ⟨R, 3, none⟩ v3).setCell ⟨R, 4, none⟩ v4).setCell ⟨R, 5, none⟩ v5).setCell ⟨R, 6, none⟩ v6).setCell ⟨R, 7, none⟩ v7).heap[R]? = some (.cells #[v0, v1, v2, v3, v4, v5, v6, v7, u8, u9, u10] t (0, 0)) := (blk_put (i := 7) v7 s6).trans (by simp)
 have s8 : (((((((((W.setCell ⟨R, 0, none⟩ v0).setCell ⟨R, 1, none⟩ v1).setCell ⟨R, 2, none⟩ v2).setCell ⟨R, 3, none⟩ v3).setCell ⟨R, 4, none⟩ v4).setCell ⟨R, 5, none⟩ v5).setCell ⟨R, 6, none⟩ v6).setCell ⟨R, 7, none⟩ v7).setCell ⟨R, 8, none⟩ v8).heap[R]? = some (.cells #[v0, v1, v2, v3, v4, v5, v6, v7, v8, u9, u10] t (0, 0)) := (blk_put (i := 8) v8 s7).trans (by simp)
 have s9 : ((((((((((W.setCell ⟨R, 0, none⟩ v0).setCell ⟨R, 1, none⟩ v1).setCell ⟨R, 2, none⟩ v2).setCell ⟨R, 3, none⟩ v3).setCell ⟨R, 4, none⟩ v4).setCell ⟨R, 5, none⟩ v5).setCell ⟨R, 6, none⟩ v6).setCell ⟨R, 7, none⟩ v7).setCell ⟨R, 8, none⟩ v8).setCell ⟨R, 9, none⟩ v9).heap[R]? = some (.cells #[v0, v1, v2, v3, v4, v5, v6, v7, v8, v9, u10] t (0, 0)) := (blk_put (i := 9) v9 s8).trans (by simp)
 have s10 : (((((((((((W.setCell ⟨R, 0, none⟩ v0).setCell ⟨R, 1, none⟩ v1).setCell ⟨R, 2, none⟩ v2).setCell ⟨R, 3, none⟩ v3).setCell ⟨R, 4, none⟩ v4).setCell ⟨R, 5, none⟩ v5).setCell ⟨R, 6, none⟩ v6).setCell ⟨R, 7, none⟩ v7).setCell ⟨R, 8, none⟩ v8).setCell ⟨R, 9, none⟩ v9).setCell ⟨R, 10, none⟩ v10).heap[R]? = some (.cells #[v0, v1, v2, v3, v4, v5, v6, v7, v8, v9, v10] t (0, 0)) := (blk_put (i := 10) v10 s9).trans (by simp)
 exact s10
theorem blk7 {w : World} {R : Nat} {t : TypeId} {v0 v1 v2 v3 v4 v5 v6 : Value} (h : w.heap[R]? = some (.cells #[v0, v1, v2, v3, v4, v5, v6] t (0, 0))) :
  w.cell? ⟨R, 0, none⟩ = some v0 ∧ w.cell? ⟨R, 1, none⟩ = some v1 ∧ w.cell? ⟨R, 2, none⟩ = some v2 ∧ w.cell? ⟨R, 3, none⟩ = some v3 ∧ w.cell? ⟨R, 4, none⟩ = some v4 ∧ w.cell? ⟨R, 5, none⟩ = some v5 ∧ w.cell? ⟨R, 6, none⟩ = some v6 :=
 ⟨cell_blk h rfl, cell_blk h rfl, cell_blk h rfl, cell_blk h rfl, cell_blk h rfl, cell_blk h rfl, cell_blk h rfl⟩
structure Tl where
 err : Int
 ids : List Int
 slot : PM.Sl
 hold : Hd
def numC (x : Int) : List Value := [.int .i64 x]
theorem numC_len (x : Int) : (numC x).length = 1 := rfl
def tlV (t : Tl) (A1 : Option Addr) (c1 : Nat) (A2 : Option Addr) (c2 : Nat) : Array Value := #[.int .i64 t.err, .slice A1 t.ids.length c1, .int .i64 t.slot.n, .int .i64 t.slot.d, .int .u64 (t.slot.m : Nat), .int .i64 t.slot.c, .int .i64 t.hold.id, .int .i64 t.hold.q, .int .i64 t.hold.un, .bool t.hold.run, .slice A2 t.hold.sl.length c2]
def TlIn (w : World) (B : Nat) (F : Nat → Prop) (v : Value) (t : Tl) : Prop := ∃ A1 c1 A2 c2, v = .agg (tlV t A1 c1 A2 c2) ∧ Els numC 1 w w.heap.size A1 t.ids ∧ (∀ b off, A1 = some ⟨b, off, none⟩ → B ≤ b) ∧ Slots w w.heap.size A2 t.hold.sl ∧ ∀ b off, A2 = some ⟨b, off, none⟩ → F b
def LM.act (fs : List Fr) (st : LS) (a : La) : Tl × LS :=
 if a.k = 0 then (⟨(LM.reserve fs st a.id a.q a.un (IntKind.i64.wrap ((st.ver : Int) - a.old)) a.sl).1, [], LM.noSl, LM.noHd⟩, (LM.reserve fs st a.id a.q a.un (IntKind.i64.wrap ((st.ver : Int) - a.old)) a.sl).2)
 else if a.k = 1 then (⟨(LM.commit st a.id a.now a.un).1, [], LM.noSl, LM.noHd⟩, (LM.commit st a.id a.now a.un).2)
 else if a.k = 2 then (⟨(LM.grow fs st a.id (a.sl.head?.getD LM.noSl)).1, [], LM.noSl, LM.noHd⟩, (LM.grow fs st a.id (a.sl.head?.getD LM.noSl)).2)
 else if a.k = 3 then (⟨(LM.shrink fs st a.id).1.2, [], (LM.shrink fs st a.id).1.1, LM.noHd⟩, (LM.shrink fs st a.id).2)
 else if a.k = 4 then (⟨(LM.release fs st a.id).1.2, [], LM.noSl, (LM.release fs st a.id).1.1⟩, (LM.release fs st a.id).2)
 else if a.k = 5 then (⟨0, (LM.expire fs st a.now).1, LM.noSl, LM.noHd⟩, (LM.expire fs st a.now).2)
 else if a.k = 6 then (⟨(LM.drain fs st a.id).1.2, (LM.drain fs st a.id).1.1, LM.noSl, LM.noHd⟩, (LM.drain fs st a.id).2)
 else (⟨(LM.undrain st a.id).1, [], LM.noSl, LM.noHd⟩, (LM.undrain st a.id).2)
theorem do_close {w W0 w1 W9 : World} {p T R : Nat} {F F' : Nat → Prop} {fs : List Fr} {st : LS} (hB0 : Below w.heap.size w W0) (hT : w.heap.size ≤ T ∧ T < W0.heap.size) (hR : w.heap.size ≤ R ∧ R < W0.heap.size) (hF : ∀ i, F i → i < w.heap.size) (r1 : LObj w1 p F' fs st)
  (r2 : Foot F W0 w1) (r3 : ∀ i, F' i → F i ∨ W0.heap.size ≤ i) (f9 : Foot (fun i => i = T ∨ i = R) w1 W9) : ∃ F', LObj W9 p F' fs st ∧ Foot F w W9 ∧ ∀ i, F' i → F i ∨ w.heap.size ≤ i := by
 have hs := hB0.size
 refine ⟨F', r1.foot f9 fun i hi e => ?_, ((Foot.of_below (F := F) hB0).trans r2 fun i hi => .inl hi).trans f9 fun i hi => .inr ?_, fun i hi => ?_⟩
 ·rcases r3 i hi with e1 | e1
  ·have := hF i e1; rcases e with e | e <;> omega
  ·rcases e with e | e <;> omega
 ·rcases hi with e | e <;> omega
 ·rcases r3 i hi with e1 | e1
  ·exact .inl e1
  ·exact .inr (by omega)

def boxC (a : La) (A : Option Addr) (c : Nat) : Obj := .cells (laC a A c).toArray 49
def toldB : Obj := .cells toldZ 46
structure Do0 (w W0 : World) (a : La) (A : Option Addr) (c : Nat) : Prop where
 eq : W0 = ((w.alloc (boxC a A c)).alloc toldB).alloc toldB
 bel : Below w.heap.size w W0
 sz : W0.heap.size = w.heap.size + 3
 b0 : W0.heap[w.heap.size]? = some (.cells #[.int .i64 a.k, .int .i64 a.id, .int .i64 a.q, .int .i64 a.un, .int .i64 a.now, .int .i64 a.old, .slice A a.sl.length c] 49 (0, 0))
 b1 : W0.heap[w.heap.size + 1]? = some (.cells #[.int .i64 0, .slice none 0 0, .int .i64 0, .int .i64 0, .int .u64 0, .int .i64 0, .int .i64 0, .int .i64 0, .int .i64 0, .bool false, .slice none 0 0] 46 (0, 0))
 b2 : W0.heap[w.heap.size + 1 + 1]? = some (.cells #[.int .i64 0, .slice none 0 0, .int .i64 0, .int .i64 0, .int .u64 0, .int .i64 0, .int .i64 0, .int .i64 0, .int .i64 0, .bool false, .slice none 0 0] 46 (0, 0))
theorem do0 (w : World) (a : La) (A : Option Addr) (c : Nat) : ∃ W0, Do0 w W0 a A c := by
 refine ⟨_, rfl, ?_, by simp, ?_, ?_, ?_⟩
 ·exact (((Below.refl w.heap.size w).alloc (Nat.le_refl _) _).alloc (by simp) _).alloc (by simp; omega) _
 ·exact (Below.heap_alloc _ _ _ (by simp; omega)).trans ((Below.heap_alloc _ _ _ (by simp)).trans (heap_alloc_new w _))
 ·refine (Below.heap_alloc _ _ _ (by simp)).trans ?_
  have h9 := heap_alloc_new (w.alloc (boxC a A c)) toldB
  rw [show (w.alloc (boxC a A c)).heap.size = w.heap.size + 1 by simp] at h9
  exact h9
 ·have h9 := heap_alloc_new ((w.alloc (boxC a A c)).alloc toldB) toldB
  rw [show ((w.alloc (boxC a A c)).alloc toldB).heap.size = w.heap.size + 1 + 1 by simp] at h9
  exact h9

set_option maxHeartbeats 2000000 in
theorem do_commit {w : World} {p : Nat} {F : Nat → Prop} {fs : List Fr} {st : LS} (A : Option Addr) (c : Nat) (a : La) (h : LObj w p F fs st) (hver : st.ver ≤ 100000) (ha : LaOk a) (hl : Slots w w.heap.size A a.sl) (hA : a.sl ≠ [] → Off A F) (hk : a.k = 1) :
  Calls Tryz.prog 9 #[.pointer (some ⟨p, 0, none⟩), .agg (laC a A c).toArray] w fun e w' => ∃ v, e = .returned v ∧ TlIn w' w.heap.size F v (LM.act fs st a).1 ∧ ∃ F', LObj w' p F' fs (LM.act fs st a).2 ∧ Foot F w w' ∧ ∀ i, F' i → F i ∨ w.heap.size ≤ i := by
 obtain ⟨W0, hD⟩ := do0 w a A c
 have HF := Lib.hid h.lt.2
 have h0 := h.keep hD.bel
 have hsz := hD.sz
 have HB0 := Lib.hid hD.bel
 have hl0 := Slots.keep hl hD.bel hD.bel.size
 have hM := commit_l a.id a.now a.un h0 hver ha.id ha.un
 obtain ⟨R, hR⟩ : ∃ R, R = LM.commit st a.id a.now a.un := ⟨_, rfl⟩
 have hact : LM.act fs st a = (⟨R.1, [], LM.noSl, LM.noHd⟩, R.2) := by unfold LM.act; rw [hR]; rw [if_neg (by omega), if_pos hk]
 rw [← hR] at hM
 rw [hact]
 obtain ⟨r, hr⟩ : ∃ r, r = R.1 := ⟨_, rfl⟩
 rw [← hr] at hM ⊢
 have HM0 := Lib.hid hM
 clear hM hact hR hr
 have HD := Lib.hid hD
 have e0 := hD.eq
 obtain ⟨k, id, q, un, now, old, sl⟩ := a
 simp only [boxC, toldB, toldZ, laC] at e0
 simp only [laC]
 have HE := Lib.hid e0
 simp only at hk
 subst hk

 clear h h0 hver ha hl hl0 hA hD e0
 go_enter Tryz.func9, Tryz.ntmps9
 go_wp2_with (go_at_call 23; rw [← HE.out]; refine HM0.out.mono ?_; rintro e w1 ⟨rfl, F1, m1, m2, m3⟩; have HM := Lib.hid (And.intro m1 (And.intro m2 m3)); have hR1 := (m2.block (w.heap.size + 1) (by omega) (fun e => by have := HF.out _ e; omega)).trans HD.out.b1; have hT1 := (m2.block (w.heap.size + 1 + 1) (by omega) (fun e => by have := HF.out _ e; omega)).trans HD.out.b2; obtain ⟨x0, x1, x2, x3, x4, x5, x6, x7, x8, x9, x10⟩ := blk11 hT1; obtain ⟨y0, y1, y2, y3, y4, y5, y6, y7, y8, y9, y10⟩ := blk11 hR1; have zt := frozen_blk (i := 0) hT1; have z0 := frozen_blk (i := 0) hR1; have z1 := frozen_blk (i := 1) hR1; have z2 := frozen_blk (i := 2) hR1; have z3 := frozen_blk (i := 3) hR1; have z4 := frozen_blk (i := 4) hR1; have z5 := frozen_blk (i := 5) hR1; have z6 := frozen_blk (i := 6) hR1; have z7 := frozen_blk (i := 7) hR1; have z8 := frozen_blk (i := 8) hR1; have z9 := frozen_blk (i := 9) hR1; have z10 := frozen_blk (i := 10) hR1; have HR1 := Lib.hid hR1; clear m1 m2 m3 hR1 hT1)
 obtain ⟨W9, hW9⟩ : ∃ W9, W9 = set11 (w1.setCell ⟨w.heap.size + 1 + 1, 0, none⟩ (.int .i64 r)) (w.heap.size + 1) (.int .i64 r) (.slice none 0 0) (.int .i64 0) (.int .i64 0) (.int .u64 0) (.int .i64 0) (.int .i64 0) (.int .i64 0) (.int .i64 0) (.bool false) (.slice none 0 0) := ⟨_, rfl⟩
 have f9 : Foot (fun i => i = w.heap.size + 1 + 1 ∨ i = w.heap.size + 1) w1 W9 := by
  rw [hW9]
  exact ((Foot.setCell (F := fun i => i = w.heap.size + 1 + 1 ∨ i = w.heap.size + 1) (p := ⟨w.heap.size + 1 + 1, 0, none⟩) (Foot.refl _ w1) (.inl (.inl rfl)) _)).trans ((set11_foot _ _ _ _ _ _ _ _ _ _ _ _ _).mono fun i (hi : i = w.heap.size + 1) => .inr hi) fun i hi => .inl hi
 have hbk9 : W9.heap[w.heap.size + 1]? = some (.cells #[.int .i64 r, .slice none 0 0, .int .i64 0, .int .i64 0, .int .u64 0, .int .i64 0, .int .i64 0, .int .i64 0, .int .i64 0, .bool false, .slice none 0 0] 46 (0, 0)) := by
  rw [hW9]
  exact set11_blk ((Below.heap_setCell _ _ _ _ (fun e => by simp at e)).trans HR1.out) _ _ _ _ _ _ _ _ _ _ _
 unfold set11 at hW9
 rw [← hW9]
 refine bodyPost_ret (results_cell_row rfl _ W9 (w.heap.size + 1) _ _ _ _ rfl hbk9 Tryz.underlying46 rfl told_size) rfl ?_
 obtain ⟨F9, s1, s2, s3⟩ := do_close HB0.out (T := w.heap.size + 1 + 1) (R := w.heap.size + 1) (by omega) (by omega) HF.out HM.out.1 HM.out.2.1 HM.out.2.2 f9
 exact ⟨_, rfl, ⟨none, 0, none, 0, rfl, .inl rfl, (fun _ _ e => by cases e), .inl rfl, (fun _ _ e => by cases e)⟩, F9, s1, s2, s3⟩

set_option maxHeartbeats 2000000 in
theorem do_undrain {w : World} {p : Nat} {F : Nat → Prop} {fs : List Fr} {st : LS} (A : Option Addr) (c : Nat) (a : La) (h : LObj w p F fs st) (hver : st.ver ≤ 100000) (ha : LaOk a) (hl : Slots w w.heap.size A a.sl) (hA : a.sl ≠ [] → Off A F) (hk : a.k ≠ 0 ∧ a.k ≠ 1 ∧ a.k ≠ 2 ∧ a.k ≠ 3 ∧ a.k ≠ 4 ∧ a.k ≠ 5 ∧ a.k ≠ 6) :
  Calls Tryz.prog 9 #[.pointer (some ⟨p, 0, none⟩), .agg (laC a A c).toArray] w fun e w' => ∃ v, e = .returned v ∧ TlIn w' w.heap.size F v (LM.act fs st a).1 ∧ ∃ F', LObj w' p F' fs (LM.act fs st a).2 ∧ Foot F w w' ∧ ∀ i, F' i → F i ∨ w.heap.size ≤ i := by
 obtain ⟨W0, hD⟩ := do0 w a A c
 have HF := Lib.hid h.lt.2
 have h0 := h.keep hD.bel
 have hsz := hD.sz
 have HB0 := Lib.hid hD.bel
 have hl0 := Slots.keep hl hD.bel hD.bel.size
 have hM := undrain_l a.id h0 hver ha.id
 obtain ⟨R, hR⟩ : ∃ R, R = LM.undrain st a.id := ⟨_, rfl⟩
 have hact : LM.act fs st a = (⟨R.1, [], LM.noSl, LM.noHd⟩, R.2) := by unfold LM.act; rw [hR]; rw [if_neg hk.1, if_neg hk.2.1, if_neg hk.2.2.1, if_neg hk.2.2.2.1, if_neg hk.2.2.2.2.1, if_neg hk.2.2.2.2.2.1, if_neg hk.2.2.2.2.2.2]
 rw [← hR] at hM
 rw [hact]
 obtain ⟨r, hr⟩ : ∃ r, r = R.1 := ⟨_, rfl⟩
 rw [← hr] at hM ⊢
 have HM0 := Lib.hid hM
 clear hM hact hR hr
 have HD := Lib.hid hD
 have e0 := hD.eq
 obtain ⟨k, id, q, un, now, old, sl⟩ := a
 simp only [boxC, toldB, toldZ, laC] at e0
 simp only [laC]
 have HE := Lib.hid e0
 simp only at hk
 have t0 : (k == 0) = false := beq_eq_false_iff_ne.2 hk.1
 have t1 : (k == 1) = false := beq_eq_false_iff_ne.2 hk.2.1
 have t2 : (k == 2) = false := beq_eq_false_iff_ne.2 hk.2.2.1
 have t3 : (k == 3) = false := beq_eq_false_iff_ne.2 hk.2.2.2.1
 have t4 : (k == 4) = false := beq_eq_false_iff_ne.2 hk.2.2.2.2.1
 have t5 : (k == 5) = false := beq_eq_false_iff_ne.2 hk.2.2.2.2.2.1
 have t6 : (k == 6) = false := beq_eq_false_iff_ne.2 hk.2.2.2.2.2.2

 clear h h0 hver ha hl hl0 hA hD e0
 go_enter Tryz.func9, Tryz.ntmps9
 go_wp2_with (go_at_call 30; rw [← HE.out]; refine HM0.out.mono ?_; rintro e w1 ⟨rfl, F1, m1, m2, m3⟩; have HM := Lib.hid (And.intro m1 (And.intro m2 m3)); have hR1 := (m2.block (w.heap.size + 1) (by omega) (fun e => by have := HF.out _ e; omega)).trans HD.out.b1; have hT1 := (m2.block (w.heap.size + 1 + 1) (by omega) (fun e => by have := HF.out _ e; omega)).trans HD.out.b2; obtain ⟨x0, x1, x2, x3, x4, x5, x6, x7, x8, x9, x10⟩ := blk11 hT1; obtain ⟨y0, y1, y2, y3, y4, y5, y6, y7, y8, y9, y10⟩ := blk11 hR1; have zt := frozen_blk (i := 0) hT1; have z0 := frozen_blk (i := 0) hR1; have z1 := frozen_blk (i := 1) hR1; have z2 := frozen_blk (i := 2) hR1; have z3 := frozen_blk (i := 3) hR1; have z4 := frozen_blk (i := 4) hR1; have z5 := frozen_blk (i := 5) hR1; have z6 := frozen_blk (i := 6) hR1; have z7 := frozen_blk (i := 7) hR1; have z8 := frozen_blk (i := 8) hR1; have z9 := frozen_blk (i := 9) hR1; have z10 := frozen_blk (i := 10) hR1; have HR1 := Lib.hid hR1; clear m1 m2 m3 hR1 hT1)
 obtain ⟨W9, hW9⟩ : ∃ W9, W9 = set11 (w1.setCell ⟨w.heap.size + 1 + 1, 0, none⟩ (.int .i64 r)) (w.heap.size + 1) (.int .i64 r) (.slice none 0 0) (.int .i64 0) (.int .i64 0) (.int .u64 0) (.int .i64 0) (.int .i64 0) (.int .i64 0) (.int .i64 0) (.bool false) (.slice none 0 0) := ⟨_, rfl⟩
 have f9 : Foot (fun i => i = w.heap.size + 1 + 1 ∨ i = w.heap.size + 1) w1 W9 := by
  rw [hW9]
  exact ((Foot.setCell (F := fun i => i = w.heap.size + 1 + 1 ∨ i = w.heap.size + 1) (p := ⟨w.heap.size + 1 + 1, 0, none⟩) (Foot.refl _ w1) (.inl (.inl rfl)) _)).trans ((set11_foot _ _ _ _ _ _ _ _ _ _ _ _ _).mono fun i (hi : i = w.heap.size + 1) => .inr hi) fun i hi => .inl hi
 have hbk9 : W9.heap[w.heap.size + 1]? = some (.cells #[.int .i64 r, .slice none 0 0, .int .i64 0, .int .i64 0, .int .u64 0, .int .i64 0, .int .i64 0, .int .i64 0, .int .i64 0, .bool false, .slice none 0 0] 46 (0, 0)) := by
  rw [hW9]
  exact set11_blk ((Below.heap_setCell _ _ _ _ (fun e => by simp at e)).trans HR1.out) _ _ _ _ _ _ _ _ _ _ _
 unfold set11 at hW9
 rw [← hW9]
 refine bodyPost_ret (results_cell_row rfl _ W9 (w.heap.size + 1) _ _ _ _ rfl hbk9 Tryz.underlying46 rfl told_size) rfl ?_
 obtain ⟨F9, s1, s2, s3⟩ := do_close HB0.out (T := w.heap.size + 1 + 1) (R := w.heap.size + 1) (by omega) (by omega) HF.out HM.out.1 HM.out.2.1 HM.out.2.2 f9
 exact ⟨_, rfl, ⟨none, 0, none, 0, rfl, .inl rfl, (fun _ _ e => by cases e), .inl rfl, (fun _ _ e => by cases e)⟩, F9, s1, s2, s3⟩

set_option maxHeartbeats 2000000 in
theorem do_shrink {w : World} {p : Nat} {F : Nat → Prop} {fs : List Fr} {st : LS} (A : Option Addr) (c : Nat) (a : La) (h : LObj w p F fs st) (hver : st.ver ≤ 100000) (ha : LaOk a) (hl : Slots w w.heap.size A a.sl) (hA : a.sl ≠ [] → Off A F) (hk : a.k = 3) :
  Calls Tryz.prog 9 #[.pointer (some ⟨p, 0, none⟩), .agg (laC a A c).toArray] w fun e w' => ∃ v, e = .returned v ∧ TlIn w' w.heap.size F v (LM.act fs st a).1 ∧ ∃ F', LObj w' p F' fs (LM.act fs st a).2 ∧ Foot F w w' ∧ ∀ i, F' i → F i ∨ w.heap.size ≤ i := by
 obtain ⟨W0, hD⟩ := do0 w a A c
 have HF := Lib.hid h.lt.2
 have h0 := h.keep hD.bel
 have hsz := hD.sz
 have HB0 := Lib.hid hD.bel
 have hl0 := Slots.keep hl hD.bel hD.bel.size
 have hM := shrink_l a.id h0 hver ha.id
 obtain ⟨⟨⟨⟨sn, sd, sm, sc⟩, r⟩, st2⟩, hR⟩ : ∃ R, R = LM.shrink fs st a.id := ⟨_, rfl⟩
 have hact : LM.act fs st a = (⟨r, [], ⟨sn, sd, sm, sc⟩, LM.noHd⟩, st2) := by unfold LM.act; rw [← hR]; rw [if_neg (by omega), if_neg (by omega), if_neg (by omega), if_pos hk]
 rw [← hR] at hM
 rw [hact]
 simp only [slV] at hM
 have HM0 := Lib.hid hM
 clear hM hact hR
 have HD := Lib.hid hD
 have e0 := hD.eq
 obtain ⟨k, id, q, un, now, old, sl⟩ := a
 simp only [boxC, toldB, toldZ, laC] at e0
 simp only [laC]
 have HE := Lib.hid e0
 simp only at hk
 subst hk

 clear h h0 hver ha hl hl0 hA hD e0
 go_enter Tryz.func9, Tryz.ntmps9
 go_wp2_with (go_at_call 26; rw [← HE.out]; refine HM0.out.mono ?_; rintro e w1 ⟨rfl, F1, m1, m2, m3⟩; have HM := Lib.hid (And.intro m1 (And.intro m2 m3)); have hR1 := (m2.block (w.heap.size + 1) (by omega) (fun e => by have := HF.out _ e; omega)).trans HD.out.b1; have hT1 := (m2.block (w.heap.size + 1 + 1) (by omega) (fun e => by have := HF.out _ e; omega)).trans HD.out.b2; obtain ⟨x0, x1, x2, x3, x4, x5, x6, x7, x8, x9, x10⟩ := blk11 hT1; obtain ⟨y0, y1, y2, y3, y4, y5, y6, y7, y8, y9, y10⟩ := blk11 hR1; have zt0 := frozen_blk (i := 0) hT1; have zt2 := frozen_blk (i := 2) hT1; have zt3 := frozen_blk (i := 3) hT1; have zt4 := frozen_blk (i := 4) hT1; have zt5 := frozen_blk (i := 5) hT1; have z0 := frozen_blk (i := 0) hR1; have z1 := frozen_blk (i := 1) hR1; have z2 := frozen_blk (i := 2) hR1; have z3 := frozen_blk (i := 3) hR1; have z4 := frozen_blk (i := 4) hR1; have z5 := frozen_blk (i := 5) hR1; have z6 := frozen_blk (i := 6) hR1; have z7 := frozen_blk (i := 7) hR1; have z8 := frozen_blk (i := 8) hR1; have z9 := frozen_blk (i := 9) hR1; have z10 := frozen_blk (i := 10) hR1; have HR1 := Lib.hid hR1; clear m1 m2 m3 hR1 hT1)
 obtain ⟨W9, hW9⟩ : ∃ W9, W9 = set11 ((((((w1.setCell ⟨w.heap.size + 1 + 1, 2, none⟩ (.int .i64 sn)).setCell ⟨w.heap.size + 1 + 1, 3, none⟩ (.int .i64 sd)).setCell ⟨w.heap.size + 1 + 1, 4, none⟩ (.int .u64 (sm : Nat))).setCell ⟨w.heap.size + 1 + 1, 5, none⟩ (.int .i64 sc)).setCell ⟨w.heap.size + 1 + 1, 0, none⟩ (.int .i64 r))) (w.heap.size + 1) (.int .i64 r) (.slice none 0 0) (.int .i64 sn) (.int .i64 sd) (.int .u64 (sm : Nat)) (.int .i64 sc) (.int .i64 0) (.int .i64 0) (.int .i64 0) (.bool false) (.slice none 0 0) := ⟨_, rfl⟩
 have f9 : Foot (fun i => i = w.heap.size + 1 + 1 ∨ i = w.heap.size + 1) w1 W9 := by
  rw [hW9]
  exact ((Foot.setCell (F := fun i => i = w.heap.size + 1 + 1 ∨ i = w.heap.size + 1) (p := ⟨w.heap.size + 1 + 1, 0, none⟩) ((Foot.setCell (F := fun i => i = w.heap.size + 1 + 1 ∨ i = w.heap.size + 1) (p := ⟨w.heap.size + 1 + 1, 5, none⟩) ((Foot.setCell (F := fun i => i = w.heap.size + 1 + 1 ∨ i = w.heap.size + 1) (p := ⟨w.heap.size + 1 + 1, 4, none⟩) ((Foot.setCell (F := fun i => i = w.heap.size + 1 + 1 ∨ i = w.heap.size + 1) (p := ⟨w.heap.size + 1 + 1, 3, none⟩) ((Foot.setCell (F := fun i => i = w.heap.size + 1 + 1 ∨ i = w.heap.size + 1) (p := ⟨w.heap.size + 1 + 1, 2, none⟩) (Foot.refl _ w1) (.inl (.inl rfl)) _)) (.inl (.inl rfl)) _)) (.inl (.inl rfl)) _)) (.inl (.inl rfl)) _)) (.inl (.inl rfl)) _)).trans ((set11_foot _ _ _ _ _ _ _ _ _ _ _ _ _).mono fun i (hi : i = w.heap.size + 1) => .inr hi) fun i hi => .inl hi
 have hbk9 : W9.heap[w.heap.size + 1]? = some (.cells #[.int .i64 r, .slice none 0 0, .int .i64 sn, .int .i64 sd, .int .u64 (sm : Nat), .int .i64 sc, .int .i64 0, .int .i64 0, .int .i64 0, .bool false, .slice none 0 0] 46 (0, 0)) := by
  rw [hW9]
  exact set11_blk ((Below.heap_setCell _ _ _ _ (fun e => by simp at e)).trans ((Below.heap_setCell _ _ _ _ (fun e => by simp at e)).trans ((Below.heap_setCell _ _ _ _ (fun e => by simp at e)).trans ((Below.heap_setCell _ _ _ _ (fun e => by simp at e)).trans ((Below.heap_setCell _ _ _ _ (fun e => by simp at e)).trans (HR1.out)))))) _ _ _ _ _ _ _ _ _ _ _
 unfold set11 at hW9
 rw [← hW9]
 refine bodyPost_ret (results_cell_row rfl _ W9 (w.heap.size + 1) _ _ _ _ rfl hbk9 Tryz.underlying46 rfl told_size) rfl ?_
 obtain ⟨F9, s1, s2, s3⟩ := do_close HB0.out (T := w.heap.size + 1 + 1) (R := w.heap.size + 1) (by omega) (by omega) HF.out HM.out.1 HM.out.2.1 HM.out.2.2 f9
 exact ⟨_, rfl, ⟨none, 0, none, 0, rfl, .inl rfl, (fun _ _ e => by cases e), .inl rfl, (fun _ _ e => by cases e)⟩, F9, s1, s2, s3⟩

theorem map_numC (l : List Int) : l.map (Value.int .i64) = l.flatMap numC := by
 induction l with
 | nil => rfl
 | cons x l ih => rw [List.map_cons, List.flatMap_cons, ih]; rfl
theorem Els.foot2 {α : Type} {C : α → List Value} {k : Nat} {w w' : World} {A : Option Addr} {l : List α} {G : Nat → Prop} (h : Els C k w w.heap.size A l) (hk : Foot G w w') (ho : Off A G) : Els C k w' w'.heap.size A l := by
 rcases h with h | ⟨b, off, rfl, hb, hc⟩
 ·exact .inl h
 ·exact .inr ⟨b, off, rfl, Nat.lt_of_lt_of_le hb hk.size, fun i x hx j v hv => (World.cell?_of_block (w := w) (w' := w') (a := ⟨b, off + i * k + j, none⟩) (hk.block b hb (ho b off rfl))).trans (hc i x hx j v hv)⟩

set_option maxHeartbeats 2000000 in
theorem do_release {w : World} {p : Nat} {F : Nat → Prop} {fs : List Fr} {st : LS} (A : Option Addr) (c : Nat) (a : La) (h : LObj w p F fs st) (hver : st.ver ≤ 100000) (ha : LaOk a) (hl : Slots w w.heap.size A a.sl) (hA : a.sl ≠ [] → Off A F) (hk : a.k = 4) :
  Calls Tryz.prog 9 #[.pointer (some ⟨p, 0, none⟩), .agg (laC a A c).toArray] w fun e w' => ∃ v, e = .returned v ∧ TlIn w' w.heap.size F v (LM.act fs st a).1 ∧ ∃ F', LObj w' p F' fs (LM.act fs st a).2 ∧ Foot F w w' ∧ ∀ i, F' i → F i ∨ w.heap.size ≤ i := by
 obtain ⟨W0, hD⟩ := do0 w a A c
 have HF := Lib.hid h.lt.2
 have h0 := h.keep hD.bel
 have hsz := hD.sz
 have HB0 := Lib.hid hD.bel
 have hl0 := Slots.keep hl hD.bel hD.bel.size
 have hM := release_l a.id h0 hver ha.id
 obtain ⟨⟨⟨⟨hi, hq, hu, hr, hsl⟩, r⟩, st2⟩, hR⟩ : ∃ R, R = LM.release fs st a.id := ⟨_, rfl⟩
 have hact : LM.act fs st a = (⟨r, [], LM.noSl, ⟨hi, hq, hu, hr, hsl⟩⟩, st2) := by unfold LM.act; rw [← hR]; rw [if_neg (by omega), if_neg (by omega), if_neg (by omega), if_neg (by omega), if_pos hk]
 rw [← hR] at hM
 rw [hact]
 simp only at hM
 have HM0 := Lib.hid hM
 clear hM hact hR
 have HD := Lib.hid hD
 have e0 := hD.eq
 obtain ⟨k, id, q, un, now, old, sl⟩ := a
 simp only [boxC, toldB, toldZ, laC] at e0
 simp only [laC]
 have HE := Lib.hid e0
 simp only at hk
 subst hk

 clear h h0 hver ha hl hl0 hA hD e0
 go_enter Tryz.func9, Tryz.ntmps9
 go_wp2_with (go_at_call 27; rw [← HE.out]; refine HM0.out.mono ?_; rintro e w1 ⟨⟨v, rfl, A2, c2, rfl, m4, m5⟩, F1, m1, m2, m3⟩; have HM := Lib.hid (And.intro m1 (And.intro m2 m3)); have hR1 := (m2.block (w.heap.size + 1) (by omega) (fun e => by have := HF.out _ e; omega)).trans HD.out.b1; have hT1 := (m2.block (w.heap.size + 1 + 1) (by omega) (fun e => by have := HF.out _ e; omega)).trans HD.out.b2; obtain ⟨x0, x1, x2, x3, x4, x5, x6, x7, x8, x9, x10⟩ := blk11 hT1; obtain ⟨y0, y1, y2, y3, y4, y5, y6, y7, y8, y9, y10⟩ := blk11 hR1; have zt0 := frozen_blk (i := 0) hT1; have zt6 := frozen_blk (i := 6) hT1; have zt7 := frozen_blk (i := 7) hT1; have zt8 := frozen_blk (i := 8) hT1; have zt9 := frozen_blk (i := 9) hT1; have zt10 := frozen_blk (i := 10) hT1; have z0 := frozen_blk (i := 0) hR1; have z1 := frozen_blk (i := 1) hR1; have z2 := frozen_blk (i := 2) hR1; have z3 := frozen_blk (i := 3) hR1; have z4 := frozen_blk (i := 4) hR1; have z5 := frozen_blk (i := 5) hR1; have z6 := frozen_blk (i := 6) hR1; have z7 := frozen_blk (i := 7) hR1; have z8 := frozen_blk (i := 8) hR1; have z9 := frozen_blk (i := 9) hR1; have z10 := frozen_blk (i := 10) hR1; have HR1 := Lib.hid hR1; have HS := Lib.hid (And.intro m4 m5); clear m4 m5; simp only [hdV]; clear m1 m2 m3 hR1 hT1)
 obtain ⟨W9, hW9⟩ : ∃ W9, W9 = set11 (((((((w1.setCell ⟨w.heap.size + 1 + 1, 6, none⟩ (.int .i64 hi)).setCell ⟨w.heap.size + 1 + 1, 7, none⟩ (.int .i64 hq)).setCell ⟨w.heap.size + 1 + 1, 8, none⟩ (.int .i64 hu)).setCell ⟨w.heap.size + 1 + 1, 9, none⟩ (.bool hr)).setCell ⟨w.heap.size + 1 + 1, 10, none⟩ (.slice A2 hsl.length c2)).setCell ⟨w.heap.size + 1 + 1, 0, none⟩ (.int .i64 r))) (w.heap.size + 1) (.int .i64 r) (.slice none 0 0) (.int .i64 0) (.int .i64 0) (.int .u64 0) (.int .i64 0) (.int .i64 hi) (.int .i64 hq) (.int .i64 hu) (.bool hr) (.slice A2 hsl.length c2) := ⟨_, rfl⟩
 have f9 : Foot (fun i => i = w.heap.size + 1 + 1 ∨ i = w.heap.size + 1) w1 W9 := by
  rw [hW9]
  exact ((Foot.setCell (F := fun i => i = w.heap.size + 1 + 1 ∨ i = w.heap.size + 1) (p := ⟨w.heap.size + 1 + 1, 0, none⟩) ((Foot.setCell (F := fun i => i = w.heap.size + 1 + 1 ∨ i = w.heap.size + 1) (p := ⟨w.heap.size + 1 + 1, 10, none⟩) ((Foot.setCell (F := fun i => i = w.heap.size + 1 + 1 ∨ i = w.heap.size + 1) (p := ⟨w.heap.size + 1 + 1, 9, none⟩) ((Foot.setCell (F := fun i => i = w.heap.size + 1 + 1 ∨ i = w.heap.size + 1) (p := ⟨w.heap.size + 1 + 1, 8, none⟩) ((Foot.setCell (F := fun i => i = w.heap.size + 1 + 1 ∨ i = w.heap.size + 1) (p := ⟨w.heap.size + 1 + 1, 7, none⟩) ((Foot.setCell (F := fun i => i = w.heap.size + 1 + 1 ∨ i = w.heap.size + 1) (p := ⟨w.heap.size + 1 + 1, 6, none⟩) (Foot.refl _ w1) (.inl (.inl rfl)) _)) (.inl (.inl rfl)) _)) (.inl (.inl rfl)) _)) (.inl (.inl rfl)) _)) (.inl (.inl rfl)) _)) (.inl (.inl rfl)) _)).trans ((set11_foot _ _ _ _ _ _ _ _ _ _ _ _ _).mono fun i (hi : i = w.heap.size + 1) => .inr hi) fun i hi => .inl hi
 have hbk9 : W9.heap[w.heap.size + 1]? = some (.cells #[.int .i64 r, .slice none 0 0, .int .i64 0, .int .i64 0, .int .u64 0, .int .i64 0, .int .i64 hi, .int .i64 hq, .int .i64 hu, .bool hr, .slice A2 hsl.length c2] 46 (0, 0)) := by
  rw [hW9]
  exact set11_blk ((Below.heap_setCell _ _ _ _ (fun e => by simp at e)).trans ((Below.heap_setCell _ _ _ _ (fun e => by simp at e)).trans ((Below.heap_setCell _ _ _ _ (fun e => by simp at e)).trans ((Below.heap_setCell _ _ _ _ (fun e => by simp at e)).trans ((Below.heap_setCell _ _ _ _ (fun e => by simp at e)).trans ((Below.heap_setCell _ _ _ _ (fun e => by simp at e)).trans (HR1.out))))))) _ _ _ _ _ _ _ _ _ _ _
 unfold set11 at hW9
 rw [← hW9]
 refine bodyPost_ret (results_cell_row rfl _ W9 (w.heap.size + 1) _ _ _ _ rfl hbk9 Tryz.underlying46 rfl told_size) rfl ?_
 obtain ⟨F9, s1, s2, s3⟩ := do_close HB0.out (T := w.heap.size + 1 + 1) (R := w.heap.size + 1) (by omega) (by omega) HF.out HM.out.1 HM.out.2.1 HM.out.2.2 f9
 exact ⟨_, rfl, ⟨none, 0, A2, c2, rfl, .inl rfl, (fun _ _ e => by cases e), HS.out.1.foot f9 (fun hne b off e hf => by have h1 := HF.out b (HS.out.2 b off e); rcases hf with e2 | e2 <;> omega), HS.out.2⟩, F9, s1, s2, s3⟩

set_option maxHeartbeats 2000000 in
theorem do_expire {w : World} {p : Nat} {F : Nat → Prop} {fs : List Fr} {st : LS} (A : Option Addr) (c : Nat) (a : La) (h : LObj w p F fs st) (hver : st.ver ≤ 100000) (ha : LaOk a) (hl : Slots w w.heap.size A a.sl) (hA : a.sl ≠ [] → Off A F) (hk : a.k = 5) :
  Calls Tryz.prog 9 #[.pointer (some ⟨p, 0, none⟩), .agg (laC a A c).toArray] w fun e w' => ∃ v, e = .returned v ∧ TlIn w' w.heap.size F v (LM.act fs st a).1 ∧ ∃ F', LObj w' p F' fs (LM.act fs st a).2 ∧ Foot F w w' ∧ ∀ i, F' i → F i ∨ w.heap.size ≤ i := by
 obtain ⟨W0, hD⟩ := do0 w a A c
 have HF := Lib.hid h.lt.2
 have h0 := h.keep hD.bel
 have hsz := hD.sz
 have HB0 := Lib.hid hD.bel
 have hl0 := Slots.keep hl hD.bel hD.bel.size
 have hM := expire_l a.now h0 hver
 obtain ⟨⟨ids, st2⟩, hR⟩ : ∃ R, R = LM.expire fs st a.now := ⟨_, rfl⟩
 have hact : LM.act fs st a = (⟨0, ids, LM.noSl, LM.noHd⟩, st2) := by unfold LM.act; rw [← hR]; rw [if_neg (by omega), if_neg (by omega), if_neg (by omega), if_neg (by omega), if_neg (by omega), if_pos hk]
 rw [← hR] at hM
 rw [hact]
 simp only at hM
 have HM0 := Lib.hid hM
 clear hM hact hR
 have HD := Lib.hid hD
 have e0 := hD.eq
 obtain ⟨k, id, q, un, now, old, sl⟩ := a
 simp only [boxC, toldB, toldZ, laC] at e0
 simp only [laC]
 have HE := Lib.hid e0
 simp only at hk
 subst hk

 clear h h0 hver ha hl hl0 hA hD e0
 go_enter Tryz.func9, Tryz.ntmps9
 go_wp2_with (go_at_call 28; rw [← HE.out]; refine HM0.out.mono ?_; rintro e w1 ⟨⟨A1, c1, rfl, m4⟩, F1, m1, m2, m3⟩; have HM := Lib.hid (And.intro m1 (And.intro m2 m3)); have hR1 := (m2.block (w.heap.size + 1) (by omega) (fun e => by have := HF.out _ e; omega)).trans HD.out.b1; have hT1 := (m2.block (w.heap.size + 1 + 1) (by omega) (fun e => by have := HF.out _ e; omega)).trans HD.out.b2; obtain ⟨x0, x1, x2, x3, x4, x5, x6, x7, x8, x9, x10⟩ := blk11 hT1; obtain ⟨y0, y1, y2, y3, y4, y5, y6, y7, y8, y9, y10⟩ := blk11 hR1; have zt0 := frozen_blk (i := 0) hT1; have zt1 := frozen_blk (i := 1) hT1; have z0 := frozen_blk (i := 0) hR1; have z1 := frozen_blk (i := 1) hR1; have z2 := frozen_blk (i := 2) hR1; have z3 := frozen_blk (i := 3) hR1; have z4 := frozen_blk (i := 4) hR1; have z5 := frozen_blk (i := 5) hR1; have z6 := frozen_blk (i := 6) hR1; have z7 := frozen_blk (i := 7) hR1; have z8 := frozen_blk (i := 8) hR1; have z9 := frozen_blk (i := 9) hR1; have z10 := frozen_blk (i := 10) hR1; have HR1 := Lib.hid hR1; have m5 := els_own (C := numC) numC_len (l := ids) (show w1.ownsRow W0.heap.size 3 1 (.slice A1 ids.length c1) ids.length (ids.flatMap numC) by rw [← map_numC]; exact m4) rfl; have HS := Lib.hid (And.intro m5.1 (fun b off e => (m5.2 b off e).1)); clear m4 m5; clear m1 m2 m3 hR1 hT1)
 obtain ⟨W9, hW9⟩ : ∃ W9, W9 = set11 (((w1.setCell ⟨w.heap.size + 1 + 1, 1, none⟩ (.slice A1 ids.length c1)).setCell ⟨w.heap.size + 1 + 1, 0, none⟩ (.int .i64 0))) (w.heap.size + 1) (.int .i64 0) (.slice A1 ids.length c1) (.int .i64 0) (.int .i64 0) (.int .u64 0) (.int .i64 0) (.int .i64 0) (.int .i64 0) (.int .i64 0) (.bool false) (.slice none 0 0) := ⟨_, rfl⟩
 have f9 : Foot (fun i => i = w.heap.size + 1 + 1 ∨ i = w.heap.size + 1) w1 W9 := by
  rw [hW9]
  exact ((Foot.setCell (F := fun i => i = w.heap.size + 1 + 1 ∨ i = w.heap.size + 1) (p := ⟨w.heap.size + 1 + 1, 0, none⟩) ((Foot.setCell (F := fun i => i = w.heap.size + 1 + 1 ∨ i = w.heap.size + 1) (p := ⟨w.heap.size + 1 + 1, 1, none⟩) (Foot.refl _ w1) (.inl (.inl rfl)) _)) (.inl (.inl rfl)) _)).trans ((set11_foot _ _ _ _ _ _ _ _ _ _ _ _ _).mono fun i (hi : i = w.heap.size + 1) => .inr hi) fun i hi => .inl hi
 have hbk9 : W9.heap[w.heap.size + 1]? = some (.cells #[.int .i64 0, .slice A1 ids.length c1, .int .i64 0, .int .i64 0, .int .u64 0, .int .i64 0, .int .i64 0, .int .i64 0, .int .i64 0, .bool false, .slice none 0 0] 46 (0, 0)) := by
  rw [hW9]
  exact set11_blk ((Below.heap_setCell _ _ _ _ (fun e => by simp at e)).trans ((Below.heap_setCell _ _ _ _ (fun e => by simp at e)).trans (HR1.out))) _ _ _ _ _ _ _ _ _ _ _
 unfold set11 at hW9
 rw [← hW9]
 refine bodyPost_ret (results_cell_row rfl _ W9 (w.heap.size + 1) _ _ _ _ rfl hbk9 Tryz.underlying46 rfl told_size) rfl ?_
 obtain ⟨F9, s1, s2, s3⟩ := do_close HB0.out (T := w.heap.size + 1 + 1) (R := w.heap.size + 1) (by omega) (by omega) HF.out HM.out.1 HM.out.2.1 HM.out.2.2 f9
 exact ⟨_, rfl, ⟨A1, c1, none, 0, rfl, HS.out.1.foot2 f9 (fun b off e hf => by have h1 := HS.out.2 b off e; rcases hf with e2 | e2 <;> omega), (fun b off e => by have h1 := HS.out.2 b off e; omega), .inl rfl, (fun _ _ e => by cases e)⟩, F9, s1, s2, s3⟩

set_option maxHeartbeats 2000000 in
theorem do_drain {w : World} {p : Nat} {F : Nat → Prop} {fs : List Fr} {st : LS} (A : Option Addr) (c : Nat) (a : La) (h : LObj w p F fs st) (hver : st.ver ≤ 100000) (ha : LaOk a) (hl : Slots w w.heap.size A a.sl) (hA : a.sl ≠ [] → Off A F) (hk : a.k = 6) :
  Calls Tryz.prog 9 #[.pointer (some ⟨p, 0, none⟩), .agg (laC a A c).toArray] w fun e w' => ∃ v, e = .returned v ∧ TlIn w' w.heap.size F v (LM.act fs st a).1 ∧ ∃ F', LObj w' p F' fs (LM.act fs st a).2 ∧ Foot F w w' ∧ ∀ i, F' i → F i ∨ w.heap.size ≤ i := by
 obtain ⟨W0, hD⟩ := do0 w a A c
 have HF := Lib.hid h.lt.2
 have h0 := h.keep hD.bel
 have hsz := hD.sz
 have HB0 := Lib.hid hD.bel
 have hl0 := Slots.keep hl hD.bel hD.bel.size
 have hM := drain_l a.id h0 hver ha.id
 obtain ⟨⟨⟨ids, r⟩, st2⟩, hR⟩ : ∃ R, R = LM.drain fs st a.id := ⟨_, rfl⟩
 have hact : LM.act fs st a = (⟨r, ids, LM.noSl, LM.noHd⟩, st2) := by unfold LM.act; rw [← hR]; rw [if_neg (by omega), if_neg (by omega), if_neg (by omega), if_neg (by omega), if_neg (by omega), if_neg (by omega), if_pos hk]
 rw [← hR] at hM
 rw [hact]
 simp only at hM
 have HM0 := Lib.hid hM
 clear hM hact hR
 have HD := Lib.hid hD
 have e0 := hD.eq
 obtain ⟨k, id, q, un, now, old, sl⟩ := a
 simp only [boxC, toldB, toldZ, laC] at e0
 simp only [laC]
 have HE := Lib.hid e0
 simp only at hk
 subst hk

 clear h h0 hver ha hl hl0 hA hD e0
 go_enter Tryz.func9, Tryz.ntmps9
 go_wp2_with (go_at_call 29; rw [← HE.out]; refine HM0.out.mono ?_; rintro e w1 ⟨⟨A1, c1, rfl, m4⟩, F1, m1, m2, m3⟩; have HM := Lib.hid (And.intro m1 (And.intro m2 m3)); have hR1 := (m2.block (w.heap.size + 1) (by omega) (fun e => by have := HF.out _ e; omega)).trans HD.out.b1; have hT1 := (m2.block (w.heap.size + 1 + 1) (by omega) (fun e => by have := HF.out _ e; omega)).trans HD.out.b2; obtain ⟨x0, x1, x2, x3, x4, x5, x6, x7, x8, x9, x10⟩ := blk11 hT1; obtain ⟨y0, y1, y2, y3, y4, y5, y6, y7, y8, y9, y10⟩ := blk11 hR1; have zt0 := frozen_blk (i := 0) hT1; have zt1 := frozen_blk (i := 1) hT1; have z0 := frozen_blk (i := 0) hR1; have z1 := frozen_blk (i := 1) hR1; have z2 := frozen_blk (i := 2) hR1; have z3 := frozen_blk (i := 3) hR1; have z4 := frozen_blk (i := 4) hR1; have z5 := frozen_blk (i := 5) hR1; have z6 := frozen_blk (i := 6) hR1; have z7 := frozen_blk (i := 7) hR1; have z8 := frozen_blk (i := 8) hR1; have z9 := frozen_blk (i := 9) hR1; have z10 := frozen_blk (i := 10) hR1; have HR1 := Lib.hid hR1; have m5 := els_own (C := numC) numC_len (l := ids) (show w1.ownsRow W0.heap.size 3 1 (.slice A1 ids.length c1) ids.length (ids.flatMap numC) by rw [← map_numC]; exact m4) rfl; have HS := Lib.hid (And.intro m5.1 (fun b off e => (m5.2 b off e).1)); clear m4 m5; clear m1 m2 m3 hR1 hT1)
 obtain ⟨W9, hW9⟩ : ∃ W9, W9 = set11 (((w1.setCell ⟨w.heap.size + 1 + 1, 1, none⟩ (.slice A1 ids.length c1)).setCell ⟨w.heap.size + 1 + 1, 0, none⟩ (.int .i64 r))) (w.heap.size + 1) (.int .i64 r) (.slice A1 ids.length c1) (.int .i64 0) (.int .i64 0) (.int .u64 0) (.int .i64 0) (.int .i64 0) (.int .i64 0) (.int .i64 0) (.bool false) (.slice none 0 0) := ⟨_, rfl⟩
 have f9 : Foot (fun i => i = w.heap.size + 1 + 1 ∨ i = w.heap.size + 1) w1 W9 := by
  rw [hW9]
  exact ((Foot.setCell (F := fun i => i = w.heap.size + 1 + 1 ∨ i = w.heap.size + 1) (p := ⟨w.heap.size + 1 + 1, 0, none⟩) ((Foot.setCell (F := fun i => i = w.heap.size + 1 + 1 ∨ i = w.heap.size + 1) (p := ⟨w.heap.size + 1 + 1, 1, none⟩) (Foot.refl _ w1) (.inl (.inl rfl)) _)) (.inl (.inl rfl)) _)).trans ((set11_foot _ _ _ _ _ _ _ _ _ _ _ _ _).mono fun i (hi : i = w.heap.size + 1) => .inr hi) fun i hi => .inl hi
 have hbk9 : W9.heap[w.heap.size + 1]? = some (.cells #[.int .i64 r, .slice A1 ids.length c1, .int .i64 0, .int .i64 0, .int .u64 0, .int .i64 0, .int .i64 0, .int .i64 0, .int .i64 0, .bool false, .slice none 0 0] 46 (0, 0)) := by
  rw [hW9]
  exact set11_blk ((Below.heap_setCell _ _ _ _ (fun e => by simp at e)).trans ((Below.heap_setCell _ _ _ _ (fun e => by simp at e)).trans (HR1.out))) _ _ _ _ _ _ _ _ _ _ _
 unfold set11 at hW9
 rw [← hW9]
 refine bodyPost_ret (results_cell_row rfl _ W9 (w.heap.size + 1) _ _ _ _ rfl hbk9 Tryz.underlying46 rfl told_size) rfl ?_
 obtain ⟨F9, s1, s2, s3⟩ := do_close HB0.out (T := w.heap.size + 1 + 1) (R := w.heap.size + 1) (by omega) (by omega) HF.out HM.out.1 HM.out.2.1 HM.out.2.2 f9
 exact ⟨_, rfl, ⟨A1, c1, none, 0, rfl, HS.out.1.foot2 f9 (fun b off e hf => by have h1 := HS.out.2 b off e; rcases hf with e2 | e2 <;> omega), (fun b off e => by have h1 := HS.out.2 b off e; omega), .inl rfl, (fun _ _ e => by cases e)⟩, F9, s1, s2, s3⟩
theorem slot_size : (Tryz.prog.info? 41).map (·.size) = some 4 := by kernel_rfl
set_option maxHeartbeats 1000000 in
theorem first_l (A : Option Addr) (c : Nat) (l : List PM.Sl) (w : World) (h : Slots w w.heap.size A l) (hn : l.length ≤ maxLen) :
  Calls Tryz.prog 34 #[.slice A l.length c] w fun e w' => e = .returned (slV (l.head?.getD LM.noSl)) ∧ Below w.heap.size w w' := by
 cases l with
 | nil =>
  simp only [List.length_nil, List.head?_nil, Option.getD_none, LM.noSl, slV]
  clear h hn
  go_enter Tryz.func34, Tryz.ntmps34
  go_wp2
  refine bodyPost_ret (results_cell_row rfl _ _ w.heap.size _ _ _ _ rfl (heap_alloc_new w _) Tryz.underlying41 rfl slot_size) rfl ?_
  exact ⟨rfl, (Below.refl _ _).alloc (Nat.le_refl _) _⟩
 | cons s l =>
  obtain ⟨b, off, rfl, hb, hc⟩ := h.at_ (show (s :: l)[0]? = some s from rfl)
  obtain ⟨u0, u1, u2, u3⟩ := hc 0 s rfl
  obtain ⟨n, hln⟩ : ∃ n, (s :: l).length = n := ⟨_, rfl⟩
  have n1 : 1 ≤ n := by rw [← hln]; simp
  obtain ⟨sn, sd, sm, sc⟩ := s
  simp only [List.head?_cons, Option.getD_some, slV]
  rw [hln] at hn ⊢
  unfold maxLen at hn
  simp only [Nat.zero_mul, Nat.add_zero] at u0 u1 u2 u3
  have t0 : ((n : Int) == 0) = false := beq_eq_false_iff_ne.2 (by omega)
  have t1 : (n == 0) = false := beq_eq_false_iff_ne.2 (by omega)
  have t2 : decide (0 < n) = true := decide_eq_true (by omega)
  clear h hc hln
  go_enter Tryz.func34, Tryz.ntmps34
  go_wp2
  refine bodyPost_ret (results_cell_row rfl _ _ w.heap.size _ _ _ _ rfl (heap_alloc_new w _) Tryz.underlying41 rfl slot_size) rfl ?_
  exact ⟨rfl, (Below.refl _ _).alloc (Nat.le_refl _) _⟩
set_option maxHeartbeats 1000000 in
theorem First_l (A : Option Addr) (c : Nat) (a : La) (w : World) (h : Slots w w.heap.size A a.sl) (hn : a.sl.length ≤ maxLen) :
  Calls Tryz.prog 25 #[.agg (laC a A c).toArray] w fun e w' => e = .returned (slV (a.sl.head?.getD LM.noSl)) ∧ Below w.heap.size w w' := by
 obtain ⟨W0, hW0⟩ : ∃ W0, W0 = (w.alloc (boxC a A c)).alloc (.cells #[.int .i64 0, .int .i64 0, .int .u64 0, .int .i64 0] 41) := ⟨_, rfl⟩
 have hB0 : Below w.heap.size w W0 := by rw [hW0]; exact ((Below.refl w.heap.size w).alloc (Nat.le_refl _) _).alloc (by simp) _
 have hb1 : W0.heap[w.heap.size + 1]? = some (.cells #[.int .i64 0, .int .i64 0, .int .u64 0, .int .i64 0] 41 (0, 0)) := by
  have h9 := heap_alloc_new (w.alloc (boxC a A c)) (.cells #[.int .i64 0, .int .i64 0, .int .u64 0, .int .i64 0] 41)
  rw [show (w.alloc (boxC a A c)).heap.size = w.heap.size + 1 by simp] at h9
  rw [hW0]; exact h9
 have hM := first_l A c a.sl W0 (Slots.keep h hB0 hB0.size) hn
 obtain ⟨⟨sn, sd, sm, sc⟩, hs⟩ : ∃ s, s = a.sl.head?.getD LM.noSl := ⟨_, rfl⟩
 rw [← hs] at hM ⊢
 obtain ⟨k, id, q, un, now, old, sl⟩ := a
 simp only [boxC, laC] at hW0
 simp only [laC]
 simp only [slV] at hM ⊢
 have HM := Lib.hid hM
 have HE := Lib.hid hW0
 have HB0 := Lib.hid hB0
 have HB1 := Lib.hid hb1
 have l1 := blk_lt hb1
 clear h hn hM hs hW0 hB0 hb1
 go_enter Tryz.func25, Tryz.ntmps25
 go_wp2_with (go_at_call 34; rw [← HE.out]; refine HM.out.mono ?_; rintro e w1 ⟨rfl, hb2⟩; have hk := (hb2.block (w.heap.size + 1) l1).trans HB1.out; obtain ⟨x0, x1, x2, x3, xz0, xz1, xz2, xz3, lx⟩ := blk4 hk; have HK := Lib.hid hk; have HB2 := Lib.hid hb2; clear hk hb2)
 refine bodyPost_ret (results_cell_row rfl _ _ (w.heap.size + 1) _ _ _ _ rfl (set4_blk HK.out (.int .i64 sn) (.int .i64 sd) (.int .u64 (sm : Nat)) (.int .i64 sc)) Tryz.underlying41 rfl slot_size) rfl ?_
 refine ⟨rfl, (below_step HB0.out HB2.out).trans ?_⟩
 have l9 := HB0.out.size
 have l8 := HB2.out.size
 exact ((set4_foot w1 (w.heap.size + 1) (.int .i64 sn) (.int .i64 sd) (.int .u64 (sm : Nat)) (.int .i64 sc)).below (by omega) fun i (e : i = w.heap.size + 1) => by omega)

set_option maxHeartbeats 2000000 in
theorem do_grow {w : World} {p : Nat} {F : Nat → Prop} {fs : List Fr} {st : LS} (A : Option Addr) (c : Nat) (a : La) (h : LObj w p F fs st) (hver : st.ver ≤ 100000) (ha : LaOk a) (hl : Slots w w.heap.size A a.sl) (hA : a.sl ≠ [] → Off A F) (hk : a.k = 2) :
  Calls Tryz.prog 9 #[.pointer (some ⟨p, 0, none⟩), .agg (laC a A c).toArray] w fun e w' => ∃ v, e = .returned v ∧ TlIn w' w.heap.size F v (LM.act fs st a).1 ∧ ∃ F', LObj w' p F' fs (LM.act fs st a).2 ∧ Foot F w w' ∧ ∀ i, F' i → F i ∨ w.heap.size ≤ i := by
 obtain ⟨W0, hD⟩ := do0 w a A c
 have HF := Lib.hid h.lt.2
 have h0 := h.keep hD.bel
 have hsz := hD.sz
 have HB0 := Lib.hid hD.bel
 have hl0 := Slots.keep hl hD.bel hD.bel.size
 obtain ⟨⟨r, st2⟩, hR⟩ : ∃ R, R = LM.grow fs st a.id (a.sl.head?.getD LM.noSl) := ⟨_, rfl⟩
 have hact : LM.act fs st a = (⟨r, [], LM.noSl, LM.noHd⟩, st2) := by unfold LM.act; rw [← hR]; rw [if_neg (by omega), if_neg (by omega), if_pos hk]
 rw [hact]
 have hs0 := hD.bel.size
 obtain ⟨s, hs⟩ : ∃ s, s = a.sl.head?.getD LM.noSl := ⟨_, rfl⟩
 rw [← hs] at hR
 have hso : SlOk s := by
  rw [hs]
  cases hsl : a.sl with
  | nil => exact ⟨by decide, by decide, by decide, by decide⟩
  | cons x l => exact ha.sl x (by rw [hsl]; simp)
 have hFi : ∀ W, Below W0.heap.size W0 W → Calls Tryz.prog 25 #[.agg (laC a A c).toArray] W fun e w' => e = .returned (slV s) ∧ Below W.heap.size W w' := fun W hW => by
  rw [hs]; exact First_l A c a W (Slots.keep hl0 hW hW.size) ha.few
 have hGr : ∀ W, Below W0.heap.size W0 W → Calls Tryz.prog 24 #[.pointer (some ⟨p, 0, none⟩), .int .i64 a.id, slV s] W fun e w' => e = .returned (.int .i64 r) ∧ ∃ F1, LObj w' p F1 fs st2 ∧ Foot F W0 w' ∧ ∀ i, F1 i → F i ∨ W0.heap.size ≤ i := fun W hW => by
  refine (grow_l a.id s (h0.keep hW) hver ha.id hso).mono fun e w' ⟨he, F1, m1, m2, m3⟩ => ?_
  rw [← hR] at he m1
  exact ⟨he, F1, m1, (Foot.of_below (F := F) hW).trans m2 fun i hi => .inl hi, fun i hi => by rcases m3 i hi with e | e; exact .inl e; exact .inr (Nat.le_trans hW.size e)⟩
 clear hs hso
 obtain ⟨sn, sd, sm, sc⟩ := s
 simp only [slV, laC] at hFi hGr
 have HFi := Lib.hid hFi
 have HGr := Lib.hid hGr
 clear hFi hGr
 clear hact hR
 have HD := Lib.hid hD
 have e0 := hD.eq
 obtain ⟨k, id, q, un, now, old, sl⟩ := a
 simp only [boxC, toldB, toldZ, laC] at e0
 simp only [laC]
 have HE := Lib.hid e0
 simp only at hk
 subst hk

 clear h h0 hver ha hl hl0 hA hD e0
 go_enter Tryz.func9, Tryz.ntmps9
 go_wp2
 rw [← HE.out]
 have hb7 := HD.out.b0
 simp only at hb7
 have HB7 := Lib.hid hb7
 obtain ⟨u0, u1, u2, u3, u4, u5, u6⟩ := blk7 hb7
 clear hb7
 go_region_held3 (fun w' => w'.cell? ⟨w.heap.size, 0, none⟩ = some (.int .i64 2) ∧ w'.cell? ⟨w.heap.size, 1, none⟩ = some (.int .i64 id) ∧ w'.cell? ⟨w.heap.size, 2, none⟩ = some (.int .i64 q) ∧ w'.cell? ⟨w.heap.size, 3, none⟩ = some (.int .i64 un) ∧ w'.cell? ⟨w.heap.size, 4, none⟩ = some (.int .i64 now) ∧ w'.cell? ⟨w.heap.size, 5, none⟩ = some (.int .i64 old) ∧ w'.cell? ⟨w.heap.size, 6, none⟩ = some (.slice A sl.length c))
  (go_keep)
  (first
   | (go_at_call 25; refine (HFi.out W0.drew (Below.refl W0.heap.size W0).drew).mono ?_; rintro e wf ⟨rfl, hbf⟩; have hBf : Below W0.heap.size W0 wf := below_step (Below.refl W0.heap.size W0).drew hbf; have hbk := (hBf.block w.heap.size (by omega)).trans HB7.out; obtain ⟨f0, f1, f2, f3, f4, f5, f6⟩ := blk7 hbk; have HBf := Lib.hid (And.intro hBf hbk); have lf := blk_lt hbk; clear hBf hbf hbk)
   | (go_at_call 24; refine (HGr.out wf HBf.out.1).mono ?_; rintro e w1 ⟨rfl, F1, m1, m2, m3⟩; have HM := Lib.hid (And.intro m1 (And.intro m2 m3)); have hbk := (m2.block w.heap.size (by omega) (fun e => by have := HF.out _ e; omega)).trans HB7.out; obtain ⟨g0, g1, g2, g3, g4, g5, g6⟩ := blk7 hbk; clear m1 m2 m3 hbk))
 have hR1 := (HM.out.2.1.block (w.heap.size + 1) (by omega) (fun e => by have := HF.out _ e; omega)).trans HD.out.b1
 have hT1 := (HM.out.2.1.block (w.heap.size + 1 + 1) (by omega) (fun e => by have := HF.out _ e; omega)).trans HD.out.b2
 obtain ⟨x0, x1, x2, x3, x4, x5, x6, x7, x8, x9, x10⟩ := blk11 hT1
 obtain ⟨y0, y1, y2, y3, y4, y5, y6, y7, y8, y9, y10⟩ := blk11 hR1
 have zt := frozen_blk (i := 0) hT1
 have z0 := frozen_blk (i := 0) hR1
 have z1 := frozen_blk (i := 1) hR1
 have z2 := frozen_blk (i := 2) hR1
 have z3 := frozen_blk (i := 3) hR1
 have z4 := frozen_blk (i := 4) hR1
 have z5 := frozen_blk (i := 5) hR1
 have z6 := frozen_blk (i := 6) hR1
 have z7 := frozen_blk (i := 7) hR1
 have z8 := frozen_blk (i := 8) hR1
 have z9 := frozen_blk (i := 9) hR1
 have z10 := frozen_blk (i := 10) hR1
 have HR1 := Lib.hid hR1
 clear hR1 hT1 u0 u1 u2 u3 u4 u5 u6 f0 f1 f2 f3 f4 f5 f6 g0 g1 g2 g3 g4 g5 g6
 go_wp2
 obtain ⟨W9, hW9⟩ : ∃ W9, W9 = set11 (w1.setCell ⟨w.heap.size + 1 + 1, 0, none⟩ (.int .i64 r)) (w.heap.size + 1) (.int .i64 r) (.slice none 0 0) (.int .i64 0) (.int .i64 0) (.int .u64 0) (.int .i64 0) (.int .i64 0) (.int .i64 0) (.int .i64 0) (.bool false) (.slice none 0 0) := ⟨_, rfl⟩
 have f9 : Foot (fun i => i = w.heap.size + 1 + 1 ∨ i = w.heap.size + 1) w1 W9 := by
  rw [hW9]
  exact ((Foot.setCell (F := fun i => i = w.heap.size + 1 + 1 ∨ i = w.heap.size + 1) (p := ⟨w.heap.size + 1 + 1, 0, none⟩) (Foot.refl _ w1) (.inl (.inl rfl)) _)).trans ((set11_foot _ _ _ _ _ _ _ _ _ _ _ _ _).mono fun i (hi : i = w.heap.size + 1) => .inr hi) fun i hi => .inl hi
 have hbk9 : W9.heap[w.heap.size + 1]? = some (.cells #[.int .i64 r, .slice none 0 0, .int .i64 0, .int .i64 0, .int .u64 0, .int .i64 0, .int .i64 0, .int .i64 0, .int .i64 0, .bool false, .slice none 0 0] 46 (0, 0)) := by
  rw [hW9]
  exact set11_blk ((Below.heap_setCell _ _ _ _ (fun e => by simp at e)).trans HR1.out) _ _ _ _ _ _ _ _ _ _ _
 unfold set11 at hW9
 rw [← hW9]
 refine bodyPost_ret (results_cell_row rfl _ W9 (w.heap.size + 1) _ _ _ _ rfl hbk9 Tryz.underlying46 rfl told_size) rfl ?_
 obtain ⟨F9, s1, s2, s3⟩ := do_close HB0.out (T := w.heap.size + 1 + 1) (R := w.heap.size + 1) (by omega) (by omega) HF.out HM.out.1 HM.out.2.1 HM.out.2.2 f9
 exact ⟨_, rfl, ⟨none, 0, none, 0, rfl, .inl rfl, (fun _ _ e => by cases e), .inl rfl, (fun _ _ e => by cases e)⟩, F9, s1, s2, s3⟩

set_option maxHeartbeats 2000000 in
theorem do_reserve {w : World} {p : Nat} {F : Nat → Prop} {fs : List Fr} {st : LS} (A : Option Addr) (c : Nat) (a : La) (h : LObj w p F fs st) (hver : st.ver ≤ 100000) (ha : LaOk a) (hl : Slots w w.heap.size A a.sl) (hA : a.sl ≠ [] → Off A F) (hk : a.k = 0) :
  Calls Tryz.prog 9 #[.pointer (some ⟨p, 0, none⟩), .agg (laC a A c).toArray] w fun e w' => ∃ v, e = .returned v ∧ TlIn w' w.heap.size F v (LM.act fs st a).1 ∧ ∃ F', LObj w' p F' fs (LM.act fs st a).2 ∧ Foot F w w' ∧ ∀ i, F' i → F i ∨ w.heap.size ≤ i := by
 obtain ⟨W0, hD⟩ := do0 w a A c
 have HF := Lib.hid h.lt.2
 have h0 := h.keep hD.bel
 have hsz := hD.sz
 have HB0 := Lib.hid hD.bel
 have hl0 := Slots.keep hl hD.bel hD.bel.size
 obtain ⟨⟨r, st2⟩, hR⟩ : ∃ R, R = LM.reserve fs st a.id a.q a.un (IntKind.i64.wrap ((st.ver : Int) - a.old)) a.sl := ⟨_, rfl⟩
 have hact : LM.act fs st a = (⟨r, [], LM.noSl, LM.noHd⟩, st2) := by unfold LM.act; rw [← hR]; rw [if_pos hk]
 rw [hact]
 have hs0 := hD.bel.size
 have hFi : ∀ W, Below W0.heap.size W0 W → Calls Tryz.prog 13 #[.pointer (some ⟨p, 0, none⟩)] W fun e w' => e = .returned (.int .i64 (st.ver : Nat)) ∧ Below W.heap.size W w' := fun W hW => version_l (h0.keep hW)
 have hGr : ∀ W, Below W0.heap.size W0 W → Calls Tryz.prog 12 #[.pointer (some ⟨p, 0, none⟩), .int .i64 a.id, .int .i64 a.q, .int .i64 a.un, .int .i64 (IntKind.i64.wrap ((st.ver : Int) - a.old)), .slice A a.sl.length c] W fun e w' => e = .returned (.int .i64 r) ∧ ∃ F1, LObj w' p F1 fs st2 ∧ Foot F W0 w' ∧ ∀ i, F1 i → F i ∨ W0.heap.size ≤ i := fun W hW => by
  refine (reserve_l a.id a.q a.un _ A c a.sl (h0.keep hW) hver ha.id ha.q ha.un ha.sl (Slots.keep hl0 hW hW.size) hA).mono fun e w' ⟨he, F1, m1, m2, m3⟩ => ?_
  rw [← hR] at he m1
  exact ⟨he, F1, m1, (Foot.of_below (F := F) hW).trans m2 fun i hi => .inl hi, fun i hi => by rcases m3 i hi with e | e; exact .inl e; exact .inr (Nat.le_trans hW.size e)⟩
 have HFi := Lib.hid hFi
 have HGr := Lib.hid hGr
 clear hFi hGr
 clear hact hR
 have HD := Lib.hid hD
 have e0 := hD.eq
 obtain ⟨k, id, q, un, now, old, sl⟩ := a
 simp only [boxC, toldB, toldZ, laC] at e0
 simp only [laC]
 have HE := Lib.hid e0
 simp only at hk
 subst hk

 clear h h0 hver ha hl hl0 hA hD e0
 go_enter Tryz.func9, Tryz.ntmps9
 go_wp2
 rw [← HE.out]
 have hb7 := HD.out.b0
 simp only at hb7
 have HB7 := Lib.hid hb7
 obtain ⟨u0, u1, u2, u3, u4, u5, u6⟩ := blk7 hb7
 clear hb7
 go_region_held3 (fun w' => w'.cell? ⟨w.heap.size, 1, none⟩ = some (.int .i64 id) ∧ w'.cell? ⟨w.heap.size, 2, none⟩ = some (.int .i64 q) ∧ w'.cell? ⟨w.heap.size, 3, none⟩ = some (.int .i64 un) ∧ w'.cell? ⟨w.heap.size, 5, none⟩ = some (.int .i64 old) ∧ w'.cell? ⟨w.heap.size, 6, none⟩ = some (.slice A sl.length c))
  (go_keep)
  (first
   | (go_at_call 13; refine (HFi.out W0.drew (Below.refl W0.heap.size W0).drew).mono ?_; rintro e wf ⟨rfl, hbf⟩; have hBf : Below W0.heap.size W0 wf := below_step (Below.refl W0.heap.size W0).drew hbf; have hbk := (hBf.block w.heap.size (by omega)).trans HB7.out; obtain ⟨f0, f1, f2, f3, f4, f5, f6⟩ := blk7 hbk; have HBf := Lib.hid (And.intro hBf hbk); have lf := blk_lt hbk; clear hBf hbf hbk)
   | (go_at_call 12; refine (HGr.out wf HBf.out.1).mono ?_; rintro e w1 ⟨rfl, F1, m1, m2, m3⟩; have HM := Lib.hid (And.intro m1 (And.intro m2 m3)); have hbk := (m2.block w.heap.size (by omega) (fun e => by have := HF.out _ e; omega)).trans HB7.out; obtain ⟨g0, g1, g2, g3, g4, g5, g6⟩ := blk7 hbk; clear m1 m2 m3 hbk))
 have hR1 := (HM.out.2.1.block (w.heap.size + 1) (by omega) (fun e => by have := HF.out _ e; omega)).trans HD.out.b1
 have hT1 := (HM.out.2.1.block (w.heap.size + 1 + 1) (by omega) (fun e => by have := HF.out _ e; omega)).trans HD.out.b2
 obtain ⟨x0, x1, x2, x3, x4, x5, x6, x7, x8, x9, x10⟩ := blk11 hT1
 obtain ⟨y0, y1, y2, y3, y4, y5, y6, y7, y8, y9, y10⟩ := blk11 hR1
 have zt := frozen_blk (i := 0) hT1
 have z0 := frozen_blk (i := 0) hR1
 have z1 := frozen_blk (i := 1) hR1
 have z2 := frozen_blk (i := 2) hR1
 have z3 := frozen_blk (i := 3) hR1
 have z4 := frozen_blk (i := 4) hR1
 have z5 := frozen_blk (i := 5) hR1
 have z6 := frozen_blk (i := 6) hR1
 have z7 := frozen_blk (i := 7) hR1
 have z8 := frozen_blk (i := 8) hR1
 have z9 := frozen_blk (i := 9) hR1
 have z10 := frozen_blk (i := 10) hR1
 have HR1 := Lib.hid hR1
 clear hR1 hT1 u0 u1 u2 u3 u4 u5 u6 f0 f1 f2 f3 f4 f5 f6 g0 g1 g2 g3 g4 g5 g6
 go_wp2
 obtain ⟨W9, hW9⟩ : ∃ W9, W9 = set11 (w1.setCell ⟨w.heap.size + 1 + 1, 0, none⟩ (.int .i64 r)) (w.heap.size + 1) (.int .i64 r) (.slice none 0 0) (.int .i64 0) (.int .i64 0) (.int .u64 0) (.int .i64 0) (.int .i64 0) (.int .i64 0) (.int .i64 0) (.bool false) (.slice none 0 0) := ⟨_, rfl⟩
 have f9 : Foot (fun i => i = w.heap.size + 1 + 1 ∨ i = w.heap.size + 1) w1 W9 := by
  rw [hW9]
  exact ((Foot.setCell (F := fun i => i = w.heap.size + 1 + 1 ∨ i = w.heap.size + 1) (p := ⟨w.heap.size + 1 + 1, 0, none⟩) (Foot.refl _ w1) (.inl (.inl rfl)) _)).trans ((set11_foot _ _ _ _ _ _ _ _ _ _ _ _ _).mono fun i (hi : i = w.heap.size + 1) => .inr hi) fun i hi => .inl hi
 have hbk9 : W9.heap[w.heap.size + 1]? = some (.cells #[.int .i64 r, .slice none 0 0, .int .i64 0, .int .i64 0, .int .u64 0, .int .i64 0, .int .i64 0, .int .i64 0, .int .i64 0, .bool false, .slice none 0 0] 46 (0, 0)) := by
  rw [hW9]
  exact set11_blk ((Below.heap_setCell _ _ _ _ (fun e => by simp at e)).trans HR1.out) _ _ _ _ _ _ _ _ _ _ _
 unfold set11 at hW9
 rw [← hW9]
 refine bodyPost_ret (results_cell_row rfl _ W9 (w.heap.size + 1) _ _ _ _ rfl hbk9 Tryz.underlying46 rfl told_size) rfl ?_
 obtain ⟨F9, s1, s2, s3⟩ := do_close HB0.out (T := w.heap.size + 1 + 1) (R := w.heap.size + 1) (by omega) (by omega) HF.out HM.out.1 HM.out.2.1 HM.out.2.2 f9
 exact ⟨_, rfl, ⟨none, 0, none, 0, rfl, .inl rfl, (fun _ _ e => by cases e), .inl rfl, (fun _ _ e => by cases e)⟩, F9, s1, s2, s3⟩

theorem do_l {w : World} {p : Nat} {F : Nat → Prop} {fs : List Fr} {st : LS} (A : Option Addr) (c : Nat) (a : La) (h : LObj w p F fs st) (hver : st.ver ≤ 100000) (ha : LaOk a) (hl : Slots w w.heap.size A a.sl) (hA : a.sl ≠ [] → Off A F) :
  Calls Tryz.prog 9 #[.pointer (some ⟨p, 0, none⟩), .agg (laC a A c).toArray] w fun e w' => ∃ v, e = .returned v ∧ TlIn w' w.heap.size F v (LM.act fs st a).1 ∧ ∃ F', LObj w' p F' fs (LM.act fs st a).2 ∧ Foot F w w' ∧ ∀ i, F' i → F i ∨ w.heap.size ≤ i := by
 by_cases k0 : a.k = 0
 ·exact do_reserve A c a h hver ha hl hA k0
 by_cases k1 : a.k = 1
 ·exact do_commit A c a h hver ha hl hA k1
 by_cases k2 : a.k = 2
 ·exact do_grow A c a h hver ha hl hA k2
 by_cases k3 : a.k = 3
 ·exact do_shrink A c a h hver ha hl hA k3
 by_cases k4 : a.k = 4
 ·exact do_release A c a h hver ha hl hA k4
 by_cases k5 : a.k = 5
 ·exact do_expire A c a h hver ha hl hA k5
 by_cases k6 : a.k = 6
 ·exact do_drain A c a h hver ha hl hA k6
 exact do_undrain A c a h hver ha hl hA ⟨k0, k1, k2, k3, k4, k5, k6⟩
end Go.Proofs.YtgpfmlidchogcaaGreat
