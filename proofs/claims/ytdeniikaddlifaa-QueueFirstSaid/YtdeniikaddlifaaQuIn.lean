/- What comes in to queue's laws; their own do, and the document's example. -/
import Derived.Test.YtdeniikaddlifaaReads
import Derived.Test.YtdeniikaddlifaaOrdIn
import Derived.Test.YtdeniikaddlifaaQuNew
set_option linter.unusedVariables false
set_option maxRecDepth 100000
namespace Go.Proofs.Ytdeniikaddlifaa
open Go.ChangeShapes Go.WideShapes Go.ChangeAt Go.RowKit Go.Deep
/-- A call: its kind, and a wait. -/
structure Qk where
  k : Int
  x : Wt
def qkC (a : Qk) : List Value := .int .i64 a.k :: wtC a.x
def qkA (a : Qk) : Array Value := #[.int .i64 a.k, .int .i64 a.x.id, .int .i64 a.x.q, .int .i64 a.x.p, .int .i64 a.x.r, .int .i64 a.x.g, .int .i64 a.x.c, .int .i64 a.x.mn, .int .i64 a.x.mx, .int .i64 a.x.s, .int .i64 a.x.n]
def qkV (a : Qk) : Value := .agg (qkA a)
theorem qkC_len (a : Qk) : (qkC a).length = 11 := rfl
structure QkW (a : Qk) : Prop where
  k : (Lit.int .i64 a.k).wf = true
  x : WtW a.x
abbrev Qks (w : World) (B : Nat) (A : Option Addr) (l : List Qk) : Prop := Els qkC 11 w B A l
def qkSh : Sh := .struct (.cons (.int .i64) (.cons wtSh .nil))
theorem qk_lift {w : World} {B : Nat} {cs : List Value} (hl : cs.length = 11) (h : qkSh.Holds w B cs) : ∃ x : Qk, cs = qkC x ∧ QkW x := by
  match cs, hl with
  | [z, a, b, c, d, e, f, g, i, j, k], _ =>
    simp [qkSh, wtSh, jobSh, shpSh4, Sh.Holds, Sh.size] at h
    obtain ⟨⟨z0, rfl, hz⟩, ⟨⟨x0, rfl, h0⟩, ⟨x1, rfl, h1⟩, ⟨x2, rfl, h2⟩, ⟨x3, rfl, h3⟩, ⟨x4, rfl, h4⟩, ⟨x5, rfl, h5⟩, ⟨x6, rfl, h6⟩, ⟨x7, rfl, h7⟩⟩, ⟨x8, rfl, h8⟩, ⟨x9, rfl, h9⟩⟩ := h
    exact ⟨⟨z0, ⟨x0, x1, x2, x3, x4, x5, x6, x7, x8, x9⟩⟩, rfl, ⟨hz, ⟨h0, h1, h2, h3, h4, h5, h6, h7, h8, h9⟩⟩⟩
section
variable {H : Type} {enc : TypeId × Value → H} {w : World} {held : Bool} {r : Reach} {b0 : Nat} {v : Value} {d : DataW H} {p : List MemPlace}
theorem nums_of (hv : Value.okWide Try.prog w r b0 22 v) (h : DataW.Trod enc Try.prog w 0 (fun _ => true) held 22 v d p) :
    ∃ (A : Option Addr) (c : Nat) (l : List Int), v = .slice A l.length c ∧ l.length ≤ c ∧ c ≤ maxLen ∧ Nums w w.heap.size A l ∧ ∀ a ∈ l, (Lit.int .i64 a).wf = true :=
  rows_of (e := .int .i64) (arg_slice (sh := .slice (.int .i64)) Try.underlying22 (by kernel_rfl) hv h) fun b o cs _ hl hat hh => by
    obtain ⟨n, e, hu⟩ := hh
    subst e
    exact ⟨n, hat, hu⟩
theorem qks_of (hv : Value.okWide Try.prog w r b0 23 v) (h : DataW.Trod enc Try.prog w 0 (fun _ => true) held 23 v d p) :
    ∃ (A : Option Addr) (c : Nat) (l : List Qk), v = .slice A l.length c ∧ l.length ≤ c ∧ c ≤ maxLen ∧ Qks w w.heap.size A l ∧ ∀ a ∈ l, QkW a :=
  rows_of (e := qkSh) (arg_slice (sh := .slice qkSh) Try.underlying23 (by kernel_rfl) hv h) fun b o cs _ hl hat hh => by
    obtain ⟨u, e, hu⟩ := qk_lift hl hh
    subst e
    exact ⟨u, hat, hu⟩
end
namespace QL
/-- What a call tells, and leaves. -/
def doW (L : List Wt) (a : Qk) : Wt := if a.k = 0 then zw else getW L a.x.id
def doE (R : List Int) (L : List Wt) (a : Qk) : Int := if a.k = 0 then addE R L a.x else getE L a.x.id
def doL (R : List Int) (L : List Wt) (a : Qk) : List Wt := if a.k = 0 then addL R L a.x else if a.k = 1 then dropI L a.x.id else L
end QL
set_option maxRecDepth 100000 in
set_option maxHeartbeats 4000000 in
theorem do_q (p : Nat) (F : Nat → Prop) (R : List Int) (L : List Wt) (a : Qk) (w : World) (h : QuObj w p F R L) :
    Calls Try.prog 11 #[.pointer (some ⟨p, 0, none⟩), qkV a] w fun e w' => e = .returned (.tuple #[wtV (QL.doW L a), .int .i64 (QL.doE R L a)]) ∧ ∃ F', QuObj w' p F' R (QL.doL R L a) ∧ Foot F w w' ∧ ∀ i, F' i → F i ∨ w.heap.size ≤ i := by
  obtain ⟨k, x⟩ := a
  have hb1 := heap_alloc_new w (.cells (qkA ⟨k, x⟩) 43)
  have hB1 := (Below.refl w.heap.size w).alloc (Nat.le_refl _) (.cells (qkA ⟨k, x⟩) 43)
  have hb2 := wt_new (w.alloc (.cells (qkA ⟨k, x⟩) 43)) QL.zw
  have hB2 := hB1.alloc hB1.size (wtO QL.zw)
  have hb1' := (Below.heap_alloc (w.alloc (.cells (qkA ⟨k, x⟩) 43)) (wtO QL.zw) _ (blk_lt hb1)).trans hb1

  have b0 : ((w.alloc (.cells (qkA ⟨k, x⟩) 43)).alloc (wtO QL.zw)).cell? ⟨w.heap.size, 0, none⟩ = some (.int .i64 k) := cell_blk (i := 0) hb1' rfl
  have b1 : ((w.alloc (.cells (qkA ⟨k, x⟩) 43)).alloc (wtO QL.zw)).cell? ⟨w.heap.size, 1, none⟩ = some (.int .i64 x.id) := cell_blk (i := 1) hb1' rfl
  have b2 : ((w.alloc (.cells (qkA ⟨k, x⟩) 43)).alloc (wtO QL.zw)).cell? ⟨w.heap.size, 2, none⟩ = some (.int .i64 x.q) := cell_blk (i := 2) hb1' rfl
  have b3 : ((w.alloc (.cells (qkA ⟨k, x⟩) 43)).alloc (wtO QL.zw)).cell? ⟨w.heap.size, 3, none⟩ = some (.int .i64 x.p) := cell_blk (i := 3) hb1' rfl
  have b4 : ((w.alloc (.cells (qkA ⟨k, x⟩) 43)).alloc (wtO QL.zw)).cell? ⟨w.heap.size, 4, none⟩ = some (.int .i64 x.r) := cell_blk (i := 4) hb1' rfl
  have b5 : ((w.alloc (.cells (qkA ⟨k, x⟩) 43)).alloc (wtO QL.zw)).cell? ⟨w.heap.size, 5, none⟩ = some (.int .i64 x.g) := cell_blk (i := 5) hb1' rfl
  have b6 : ((w.alloc (.cells (qkA ⟨k, x⟩) 43)).alloc (wtO QL.zw)).cell? ⟨w.heap.size, 6, none⟩ = some (.int .i64 x.c) := cell_blk (i := 6) hb1' rfl
  have b7 : ((w.alloc (.cells (qkA ⟨k, x⟩) 43)).alloc (wtO QL.zw)).cell? ⟨w.heap.size, 7, none⟩ = some (.int .i64 x.mn) := cell_blk (i := 7) hb1' rfl
  have b8 : ((w.alloc (.cells (qkA ⟨k, x⟩) 43)).alloc (wtO QL.zw)).cell? ⟨w.heap.size, 8, none⟩ = some (.int .i64 x.mx) := cell_blk (i := 8) hb1' rfl
  have b9 : ((w.alloc (.cells (qkA ⟨k, x⟩) 43)).alloc (wtO QL.zw)).cell? ⟨w.heap.size, 9, none⟩ = some (.int .i64 x.s) := cell_blk (i := 9) hb1' rfl
  have b10 : ((w.alloc (.cells (qkA ⟨k, x⟩) 43)).alloc (wtO QL.zw)).cell? ⟨w.heap.size, 10, none⟩ = some (.int .i64 x.n) := cell_blk (i := 10) hb1' rfl
  rw [show (w.alloc (.cells (qkA ⟨k, x⟩) 43)).heap.size = w.heap.size + 1 by simp] at hb2
  have lz : w.heap.size + 1 < ((w.alloc (.cells (qkA ⟨k, x⟩) 43)).alloc (wtO QL.zw)).heap.size := by simp
  have hO := h.keep hB2
  have HZ := Lib.hid (And.intro hb2 lz)
  have HB := Lib.hid (And.intro hB2 h)
  have HA := Lib.hid (add_q p F R L x _ hO)
  have HR := Lib.hid (remove_q p F R L x.id _ hO)
  have HG := Lib.hid (get_q p F R L x.id _ hO)
  have Hl := Lib.hid h.lt
  have HE : Hid ((k = 0 → QL.doW L ⟨k, x⟩ = QL.zw ∧ QL.doE R L ⟨k, x⟩ = QL.addE R L x ∧ QL.doL R L ⟨k, x⟩ = QL.addL R L x) ∧ (k = 1 → QL.doW L ⟨k, x⟩ = QL.getW L x.id ∧ QL.doE R L ⟨k, x⟩ = QL.getE L x.id ∧ QL.doL R L ⟨k, x⟩ = QL.dropI L x.id) ∧ (¬ k = 0 → ¬ k = 1 → QL.doW L ⟨k, x⟩ = QL.getW L x.id ∧ QL.doE R L ⟨k, x⟩ = QL.getE L x.id ∧ QL.doL R L ⟨k, x⟩ = L)) := Lib.hid (by
    unfold QL.doW QL.doE QL.doL
    refine ⟨fun e => by simp [e], fun e => by simp [e], fun e f => by simp [e, f]⟩)
  obtain ⟨y, hy⟩ : ∃ y, y = QL.getW L x.id := ⟨_, rfl⟩
  rw [← hy] at HR HG HE
  clear h hb1 hb2 hB1 hB2 hb1' hO lz hy
  simp only [wtV, wtA, wtO, qkV, qkA, QL.zw] at *
  by_cases h0 : k = 0
  · subst h0
    have HE0 := Lib.hid (HE.out.1 rfl)
    clear HE HR HG
    go_enter Try.func11, Try.ntmps11
    go_wp2_with fail
    refine HA.out.mono ?_
    rintro e w1 ⟨rfl, F', hO1, hft, hyg⟩
    have hZ1 := (hft.block (w.heap.size + 1) HZ.out.2 (fun e => by have := Hl.out _ e; omega)).trans HZ.out.1
    have HZ1 := Lib.hid hZ1
    have H1 := Lib.hid (And.intro hO1 (And.intro hft hyg))
    clear hZ1 hO1 hft hyg b0 b1 b2 b3 b4 b5 b6 b7 b8 b9 b10 HA
    go_wp2_with (refine wpList_store_wt rfl _ _ rfl (w.heap.size + 1) QL.zw rfl rfl QL.zw HZ1.out ?_)
    refine bodyPost_ret (results_wt Try.results11 _ _ (w.heap.size + 1) QL.zw (.int .i64 (QL.addE R L x)) rfl (setRow_wt HZ1.out) rfl) rfl ?_
    have hl1 := H1.out.1.lt
    have hs := HB.out.1.size
    refine ⟨by rw [HE0.out.1, HE0.out.2.1]; rfl, F', by rw [HE0.out.2.2]; exact H1.out.1.of fun i hi => setRow_other _ _ i _ (by rintro rfl; rcases H1.out.2.2 _ hi with e | e; exact absurd (Hl.out _ e) (by omega); have := HZ.out.2; omega), foot_row ((Foot.of_below (F := F) HB.out.1).trans H1.out.2.1 fun i hi => .inl hi) (.inr (by omega)) _, fun i hi => ?_⟩
    rcases H1.out.2.2 i hi with e | e
    · exact .inl e
    · exact .inr (by omega)
  · have t0 : decide (k = 0) = false := decide_eq_false h0
    by_cases h1 : k = 1
    · subst h1
      have HE0 := Lib.hid (HE.out.2.1 rfl)
      clear HE HA HG
      go_enter Try.func11, Try.ntmps11
      go_wp2_with fail
      refine HR.out.mono ?_
      rintro e w1 ⟨rfl, F', hO1, hft, hyg⟩
      have hZ1 := (hft.block (w.heap.size + 1) HZ.out.2 (fun e => by have := Hl.out _ e; omega)).trans HZ.out.1
      have lz1 := blk_lt hZ1
      have hZ2 : (w1.alloc (.cells #[.int .i64 y.id, .int .i64 y.q, .int .i64 y.p, .int .i64 y.r, .int .i64 y.g, .int .i64 y.c, .int .i64 y.mn, .int .i64 y.mx, .int .i64 y.s, .int .i64 y.n] 39)).heap[w.heap.size + 1]? = _ := (Below.heap_alloc w1 (.cells #[.int .i64 y.id, .int .i64 y.q, .int .i64 y.p, .int .i64 y.r, .int .i64 y.g, .int .i64 y.c, .int .i64 y.mn, .int .i64 y.mx, .int .i64 y.s, .int .i64 y.n] 39) _ lz1).trans hZ1
      have HX2 := Lib.hid (heap_alloc_new w1 (.cells #[.int .i64 y.id, .int .i64 y.q, .int .i64 y.p, .int .i64 y.r, .int .i64 y.g, .int .i64 y.c, .int .i64 y.mn, .int .i64 y.mx, .int .i64 y.s, .int .i64 y.n] 39))
      have HZ2 := Lib.hid hZ2
      have H1 := Lib.hid (And.intro hO1 (And.intro hft hyg))
      have hl1 := hft.size
      clear hZ1 hZ2 hO1 hft hyg b0 b1 b2 b3 b4 b5 b6 b7 b8 b9 b10 HR
      go_wp2_with (first
        | (refine wpList_load_row rfl 39 _ rfl w1.heap.size rfl 39 #[.int .i64 y.id, .int .i64 y.q, .int .i64 y.p, .int .i64 y.r, .int .i64 y.g, .int .i64 y.c, .int .i64 y.mn, .int .i64 y.mx, .int .i64 y.s, .int .i64 y.n] (0, 0) _ HX2.out Try.underlying39 rfl (by kernel_rfl) ?_)
        | (refine wpList_store_wt rfl _ _ rfl (w.heap.size + 1) y rfl rfl QL.zw HZ2.out ?_))
      refine bodyPost_ret (results_wt Try.results11 _ _ (w.heap.size + 1) y (.int .i64 (QL.getE L x.id)) rfl (setRow_wt HZ2.out) rfl) rfl ?_
      have hs := HB.out.1.size
      have hlo := H1.out.1.lt
      refine ⟨by rw [HE0.out.1, HE0.out.2.1]; rfl, F', by rw [HE0.out.2.2]; exact H1.out.1.of fun i hi => (setRow_other _ _ i _ (by rintro rfl; rcases H1.out.2.2 _ hi with e | e; exact absurd (Hl.out _ e) (by omega); have := HZ.out.2; omega)).trans (Below.heap_alloc w1 _ i (hlo i hi)), foot_row (((Foot.of_below (F := F) HB.out.1).trans H1.out.2.1 fun i hi => .inl hi).alloc _) (.inr (by omega)) _, fun i hi => ?_⟩
      rcases H1.out.2.2 i hi with e | e
      · exact .inl e
      · exact .inr (by omega)
    · have t1 : decide (k = 1) = false := decide_eq_false h1
      have HE0 := Lib.hid (HE.out.2.2 h0 h1)
      clear HE HA HR
      go_enter Try.func11, Try.ntmps11
      go_wp2_with fail
      refine HG.out.mono ?_
      rintro e w1 ⟨rfl, hb1⟩
      have hZ1 := (hb1.block (w.heap.size + 1) HZ.out.2).trans HZ.out.1
      have lz1 := blk_lt hZ1
      have hZ2 : (w1.alloc (.cells #[.int .i64 y.id, .int .i64 y.q, .int .i64 y.p, .int .i64 y.r, .int .i64 y.g, .int .i64 y.c, .int .i64 y.mn, .int .i64 y.mx, .int .i64 y.s, .int .i64 y.n] 39)).heap[w.heap.size + 1]? = _ := (Below.heap_alloc w1 (.cells #[.int .i64 y.id, .int .i64 y.q, .int .i64 y.p, .int .i64 y.r, .int .i64 y.g, .int .i64 y.c, .int .i64 y.mn, .int .i64 y.mx, .int .i64 y.s, .int .i64 y.n] 39) _ lz1).trans hZ1
      have HX2 := Lib.hid (heap_alloc_new w1 (.cells #[.int .i64 y.id, .int .i64 y.q, .int .i64 y.p, .int .i64 y.r, .int .i64 y.g, .int .i64 y.c, .int .i64 y.mn, .int .i64 y.mx, .int .i64 y.s, .int .i64 y.n] 39))
      have HZ2 := Lib.hid hZ2
      have H1 := Lib.hid (below_step HB.out.1 hb1)
      clear hZ1 hZ2 hb1 b0 b1 b2 b3 b4 b5 b6 b7 b8 b9 b10 HG
      go_wp2_with (first
        | (refine wpList_load_row rfl 39 _ rfl w1.heap.size rfl 39 #[.int .i64 y.id, .int .i64 y.q, .int .i64 y.p, .int .i64 y.r, .int .i64 y.g, .int .i64 y.c, .int .i64 y.mn, .int .i64 y.mx, .int .i64 y.s, .int .i64 y.n] (0, 0) _ HX2.out Try.underlying39 rfl (by kernel_rfl) ?_)
        | (refine wpList_store_wt rfl _ _ rfl (w.heap.size + 1) y rfl rfl QL.zw HZ2.out ?_))
      refine bodyPost_ret (results_wt Try.results11 _ _ (w.heap.size + 1) y (.int .i64 (QL.getE L x.id)) rfl (setRow_wt HZ2.out) rfl) rfl ?_
      have hB9 : Below w.heap.size w ((w1.alloc (.cells #[.int .i64 y.id, .int .i64 y.q, .int .i64 y.p, .int .i64 y.r, .int .i64 y.g, .int .i64 y.c, .int .i64 y.mn, .int .i64 y.mx, .int .i64 y.s, .int .i64 y.n] 39)).setRow (w.heap.size + 1) (wtA y)) := below_row (H1.out.alloc H1.out.size _) (by omega) _
      exact ⟨by rw [HE0.out.1, HE0.out.2.1]; rfl, F, by rw [HE0.out.2.2]; exact HB.out.2.keep hB9, Foot.of_below hB9, fun i hi => .inl hi⟩

/-- Queues that were made since a world. -/
structure QuIn (w0 w : World) (p : Nat) (R : List Int) (L : List Wt) : Prop where
  ex : ∃ F, QuObj w p F R L ∧ ∀ i, F i → w0.heap.size ≤ i
  b : Below w0.heap.size w0 w
section
variable {w0 w w' : World} {p : Nat} {R : List Int} {L L' : List Wt}
theorem QuIn.keep (h : QuIn w0 w p R L) (hk : Below w.heap.size w w') : QuIn w0 w' p R L := by
  obtain ⟨F, h1, h2⟩ := h.ex
  exact ⟨⟨F, h1.keep hk, h2⟩, below_step h.b hk⟩
theorem QuIn.inv (h : QuIn w0 w p R L) : QL.Inv R L := by
  obtain ⟨F, h1, _⟩ := h.ex; exact h1.inv
theorem QuIn.foot {F F' : Nat → Prop} (hb : Below w0.heap.size w0 w) (hF : ∀ i, F i → w0.heap.size ≤ i) (h : QuObj w' p F' R L') (hf : Foot F w w') (hy : ∀ i, F' i → F i ∨ w.heap.size ≤ i) : QuIn w0 w' p R L' :=
  ⟨⟨F', h, fun i hi => by rcases hy i hi with e | e; exact hF i e; exact Nat.le_trans hb.size e⟩, hb.trans (hf.below hb.size hF)⟩
end
theorem new_i (A : Option Addr) (c : Nat) (R : List Int) (w0 w : World) (hb : Below w0.heap.size w0 w) (h : Nums w w.heap.size A R) (hc : R.length ≤ 1000000) :
    Calls Try.prog 9 #[.slice A R.length c] w fun e w' => (QL.right R = false ∧ e = .returned (.tuple #[.pointer none, .int .i64 1]) ∧ Below w0.heap.size w0 w') ∨ (QL.right R = true ∧ ∃ p, e = .returned (.tuple #[.pointer (some ⟨p, 0, none⟩), .int .i64 0]) ∧ QuIn w0 w' p R []) := by
  refine (new_q A c R w h hc).mono ?_
  rintro e w' ⟨⟨h1, rfl⟩ | ⟨h1, p, F, rfl, h2, h3⟩, hb2⟩
  · exact .inl ⟨h1, rfl, below_step hb hb2⟩
  · exact .inr ⟨h1, p, rfl, ⟨F, h2, fun i hi => Nat.le_trans hb.size (h3 i hi)⟩, below_step hb hb2⟩
theorem add_i (p : Nat) (R : List Int) (L : List Wt) (x : Wt) (w0 w : World) (h : QuIn w0 w p R L) :
    Calls Try.prog 25 #[.pointer (some ⟨p, 0, none⟩), wtV x] w fun e w' => e = .returned (.int .i64 (QL.addE R L x)) ∧ QuIn w0 w' p R (QL.addL R L x) := by
  obtain ⟨F, h1, h2⟩ := h.ex
  refine (add_q p F R L x w h1).mono ?_
  rintro e w' ⟨rfl, F', h3, h4, h5⟩
  exact ⟨rfl, QuIn.foot h.b h2 h3 h4 h5⟩
theorem remove_i (p : Nat) (R : List Int) (L : List Wt) (id : Int) (w0 w : World) (h : QuIn w0 w p R L) :
    Calls Try.prog 24 #[.pointer (some ⟨p, 0, none⟩), .int .i64 id] w fun e w' => e = .returned (.tuple #[wtV (QL.getW L id), .int .i64 (QL.getE L id)]) ∧ QuIn w0 w' p R (QL.dropI L id) := by
  obtain ⟨F, h1, h2⟩ := h.ex
  refine (remove_q p F R L id w h1).mono ?_
  rintro e w' ⟨rfl, F', h3, h4, h5⟩
  exact ⟨rfl, QuIn.foot h.b h2 h3 h4 h5⟩
theorem do_i (p : Nat) (R : List Int) (L : List Wt) (a : Qk) (w0 w : World) (h : QuIn w0 w p R L) :
    Calls Try.prog 11 #[.pointer (some ⟨p, 0, none⟩), qkV a] w fun e w' => e = .returned (.tuple #[wtV (QL.doW L a), .int .i64 (QL.doE R L a)]) ∧ QuIn w0 w' p R (QL.doL R L a) := by
  obtain ⟨F, h1, h2⟩ := h.ex
  refine (do_q p F R L a w h1).mono ?_
  rintro e w' ⟨rfl, F', h3, h4, h5⟩
  exact ⟨rfl, QuIn.foot h.b h2 h3 h4 h5⟩
theorem len_i (p : Nat) (R : List Int) (L : List Wt) (q : Int) (w0 w : World) (h : QuIn w0 w p R L) :
    Calls Try.prog 19 #[.pointer (some ⟨p, 0, none⟩), .int .i64 q] w fun e w' => e = .returned (.int .i64 (QL.lenQ R L q)) ∧ w = w' := by
  obtain ⟨F, ⟨g, c, V, h1, _⟩, _⟩ := h.ex
  exact len_q p g c V R L q w h1
theorem room_i (p : Nat) (R : List Int) (L : List Wt) (q : Int) (w0 w : World) (h : QuIn w0 w p R L) :
    Calls Try.prog 16 #[.pointer (some ⟨p, 0, none⟩), .int .i64 q] w fun e w' => e = .returned (.int .i64 (QL.roomQ R L q)) ∧ Below w.heap.size w w' := by
  obtain ⟨F, ⟨g, c, V, h1, _⟩, _⟩ := h.ex
  exact room_q p g c V R L q w h1
theorem all_i (p : Nat) (R : List Int) (L : List Wt) (w0 w : World) (h : QuIn w0 w p R L) :
    Calls Try.prog 14 #[.pointer (some ⟨p, 0, none⟩)] w fun e w' => ∃ A c, e = .returned (.slice A (QL.allL R.length L).length c) ∧ (QL.allL R.length L).length ≤ c ∧ c ≤ maxLen ∧ Wts w' w'.heap.size A (QL.allL R.length L) ∧ Below w.heap.size w w' := by
  obtain ⟨F, h1, _⟩ := h.ex
  refine (all_q p F R L w h1).mono ?_
  rintro e w' ⟨A, c, rfl, ho, hb⟩
  refine ⟨A, c, rfl, ?_, ?_, (els_own wtC_len ho rfl).1, hb⟩
  · rcases ho.2 with ⟨e1, e2⟩ | ⟨g, cap, cu, e1, _, _, h7, _⟩
    · injection e1 with _ _ e3; omega
    · injection e1 with _ _ e3; omega
  · rcases ho.2 with ⟨e1, e2⟩ | ⟨g, cap, cu, e1, _, _, _, h7, _⟩
    · injection e1 with _ _ e3; unfold maxLen; omega
    · injection e1 with _ _ e3; omega
end Go.Proofs.Ytdeniikaddlifaa
