/- PutConfig: the closure that puts fields' bytes, and what hands it a list's length. -/
import Derived.Test.YtplekkpfpidebaaWirePut
set_option linter.unusedVariables false
set_option linter.unusedSimpArgs false
set_option maxRecDepth 100000
namespace Go.Proofs.Ytplekkpfpidebaa
open Go.RowKit
/-- The closure over the text at block T. -/
abbrev putCl (T : Nat) : Value := .func (.func 27) #[] #[.pointer (some ⟨T, 0, none⟩)]
/-- The text so far, in block T. -/
structure PutSt (W : World) (T base : Nat) (t : List UInt8) (v : Value) : Prop where
  cell : W.heap[T]? = some (.cells #[v] 67 (0, 0))
  own : W.ownsRow base 5 1 v t.length (t.flatMap u8C)
  bT : T < base
  hb : base ≤ W.heap.size
/-- Blocks that a text has. -/
abbrev TB (T : Nat) (v : Value) : Nat → Prop := fun i => i = T ∨ v.ownBlock = some i
/-- From one text to a longer one. -/
def PutTo (W W' : World) (T base : Nat) (v : Value) (t : List UInt8) : Prop := ∃ v', PutSt W' T base t v' ∧ ∀ i, v'.ownBlock = some i → v.ownBlock = some i ∨ W.heap.size ≤ i
theorem PutSt.lt {W : World} {T base : Nat} {t : List UInt8} {v : Value} (h : PutSt W T base t v) {i : Nat} (hi : TB T v i) : i < W.heap.size := by
  rcases hi with rfl | hi
  · exact blk_lt h.cell
  · exact (h.own.lt i hi).2
theorem PutSt.keep {W W' : World} {T base : Nat} {t : List UInt8} {v : Value} (h : PutSt W T base t v) (hk : Below W.heap.size W W') : PutSt W' T base t v :=
  ⟨(hk.block T (blk_lt h.cell)).trans h.cell, own_stay h.own fun i hi => hk.block i (h.own.lt i hi).2, h.bT, Nat.le_trans h.hb hk.size⟩
theorem PutTo.refl {W : World} {T base : Nat} {t : List UInt8} {v : Value} (h : PutSt W T base t v) : PutTo W W T base v t := ⟨v, h, fun i hi => .inl hi⟩
set_option maxHeartbeats 4000000 in
theorem clput_any (T base : Nat) (t : List UInt8) (v : Value) (W : World) (h : PutSt W T base t v) (ht : t.length ≤ 1000000)
    (A : Option Addr) (c n : Nat) (fs : List FldP) (vs : List Int) (hn : n = fs.length) (hF : Els fpC 2 W W.heap.size A fs) (hA : ∀ b off, A = some ⟨b, off, none⟩ → ¬ TB T v b) (hw : ∀ x ∈ fs, (x.2.2 = 1 ∨ x.2.2 = 2 ∨ x.2.2 = 3) ∧ x.1 < W.heap.size ∧ ¬ TB T v x.1) (hlen : fs.length ≤ 8) (hN : NumsAt W fs vs) :
    Calls Try.prog 27 #[.slice A n c, .pointer (some ⟨T, 0, none⟩)] W fun e W' => e = .returned (.bool (fitF fs vs)) ∧ Hid (fitF fs vs = true → PutTo W W' T base v (t ++ encF fs vs)) ∧ Hid (Foot (TB T v) W W') := by
  have HP := Lib.hid (put_any (fun i => v.ownBlock = some i) base v t W h.own h.hb ht (fun i hi => hi) A c fs vs hF (fun b off k x e hx he => hA b off e (.inr he)) (fun x hx => ⟨(hw x hx).1, (hw x hx).2.1, fun he => (hw x hx).2.2 (.inr he)⟩) hlen hN)
  rw [← hn] at HP
  obtain ⟨ff, hff⟩ : ∃ ff, ff = fitF fs vs := ⟨_, rfl⟩
  rw [← hff] at HP ⊢
  have c0 : W.cell? ⟨T, 0, none⟩ = some v := cell_blk (i := 0) h.cell rfl
  have H := Lib.hid h
  clear h hF hA hw hN hff hn hlen
  go_enter Try.func27, Try.ntmps27
  go_wp2_with fail
  refine HP.out.mono ?_
  rintro e w1 ⟨h1, h2, h3⟩
  have hT1 : w1.heap[T]? = some (.cells #[v] 67 (0, 0)) := (h3.out.block T (blk_lt H.out.cell) (fun e => by have := (H.out.own.lt T e).1; have := H.out.bT; omega)).trans H.out.cell
  have y0 : w1.cell? ⟨T, 0, none⟩ = some v := cell_blk (i := 0) hT1 rfl
  have y1 : w1.frozen? ⟨T, 0, none⟩ = false := frozen_blk hT1
  have HT := Lib.hid hT1
  have hf1 := h3.out.size
  cases ff with
  | true =>
    obtain ⟨v', rfl, ho⟩ := h1 rfl
    obtain ⟨a', c', rfl⟩ := own_formE ho.out.1
    clear h1 h2 hT1 c0 HP
    go_wp2_with fail
    go_ret
    refine ⟨rfl, Lib.hid ⟨.slice a' (t ++ encF fs vs).length c', ⟨by rw [List.length_append]; exact blk_put (i := 0) _ HT.out, own_stay ho.out.1 fun i hi => Below.heap_setCell _ _ _ _ (fun e => ?_), H.out.bT, by have := H.out.hb; simp; omega⟩, fun i hi => ho.out.2 i hi⟩, Lib.hid ((h3.out.mono fun i hi => .inr hi).setCell (p := ⟨T, 0, none⟩) (.inl (.inl rfl)) _)⟩
    have h8 := (ho.out.1.lt i hi).1
    have h9 := H.out.bT
    simp at e
    omega
  | false =>
    obtain rfl := h2 rfl
    clear h1 h2 hT1 c0 HP
    go_wp2_with fail
    go_ret
    exact ⟨rfl, Lib.hid fun h => absurd h (by decide), Lib.hid ((h3.out.mono fun i hi => .inr hi).setCell (p := ⟨T, 0, none⟩) (.inl (.inl rfl)) _)⟩
theorem not_tb {W : World} {T base : Nat} {t : List UInt8} {v : Value} (h : PutSt W T base t v) {i : Nat} (hi : W.heap.size ≤ i) : ¬ TB T v i := fun e => by have := h.lt e; omega
theorem fit_one (n : Int) (b o c : Nat) : fitF [(b, o, c)] [n] = WM.fit n c := by simp [fitF]
theorem enc_one (n : Int) (b o c : Nat) : encF [(b, o, c)] [n] = WM.enc n.toNat c := by simp [encF]
set_option maxHeartbeats 4000000 in
theorem cntnode_any (T base : Nat) (t : List UInt8) (v : Value) (W : World) (h : PutSt W T base t v) (ht : t.length ≤ 1000000)
    (g o n lc : Nat) (LA : Option Addr) (hn : n ≤ maxLen) (hg : W.cell? ⟨g, o, none⟩ = some (.slice LA n lc)) (hgT : ¬ TB T v g) :
    Calls Try.prog 32 #[.pointer (some ⟨g, o, none⟩), putCl T] W fun e W' => e = .returned (.bool (WM.fit n 1)) ∧ Hid (WM.fit n 1 = true → PutTo W W' T base v (t ++ WM.enc n 1)) ∧ Hid (Foot (TB T v) W W') := by
  obtain ⟨ff, hff⟩ : ∃ ff, ff = WM.fit n 1 := ⟨_, rfl⟩
  rw [← hff]
  have HFF := Lib.hid hff
  have H := Lib.hid h
  have hgl := lt_of_cell hg
  have HG := Lib.hid hg
  unfold maxLen at hn
  clear hff h
  go_enter Try.func32, Try.ntmps32
  go_wp2_with fail
  obtain ⟨w2, hw2⟩ : ∃ w2, w2 = (W.alloc (.cells #[.int .i64 n] 3)).alloc (.cells #[.pointer (some ⟨W.heap.size, 0, none⟩), .int .i64 1] 92) := ⟨_, rfl⟩
  rw [← hw2]
  have hz2 : w2.heap.size = W.heap.size + 1 + 1 := by rw [hw2]; simp
  have HB2 : Hid (Below W.heap.size W w2) := Lib.hid (by rw [hw2]; exact ((Below.refl _ _).alloc (Nat.le_refl _) _).alloc (by simp) _)
  have HQ : Hid (w2.heap[W.heap.size]? = some (.cells #[.int .i64 n] 3 (0, 0))) := Lib.hid (by rw [hw2]; exact (Below.heap_alloc _ _ _ (by simp)).trans (heap_alloc_new W _))
  have HR : Hid (w2.heap[W.heap.size + 1]? = some (.cells #[.pointer (some ⟨W.heap.size, 0, none⟩), .int .i64 1] 92 (0, 0))) := Lib.hid (by
    have h9 := heap_alloc_new (W.alloc (.cells #[.int .i64 n] 3)) (.cells #[.pointer (some ⟨W.heap.size, 0, none⟩), .int .i64 1] 92)
    rw [World.size_alloc] at h9
    rw [hw2]; exact h9)
  have H2 := H.out.keep HB2.out
  have hntb : ∀ i, W.heap.size ≤ i → ¬ TB T v i := fun i hi => not_tb H.out hi
  refine (clput_any T base t v w2 H2 ht (some ⟨W.heap.size + 1, 0, none⟩) 1 1 [(W.heap.size, 0, 1)] [(n : Int)] rfl (els_blk fpC_len HR.out (fun j u hj => by simpa [fpC] using hj)) (fun b off e => by cases e; exact hntb _ (by omega)) (fun x hx => by
    rw [List.mem_singleton.1 hx]
    exact ⟨.inl rfl, by simp only; omega, hntb _ (Nat.le_refl _)⟩) (by simp) ⟨rfl, fun k x u hx hu => by
    cases k with
    | zero =>
      simp at hx hu
      subst hx; subst hu
      exact ⟨cell_blk (i := 0) HQ.out rfl, by constructor <;> omega⟩
    | succ k => simp at hx⟩).mono ?_
  rintro e w3 ⟨rfl, hP, hF⟩
  rw [fit_one, ← HFF.out] at hP ⊢
  rw [enc_one] at hP
  have hq3 : w3.cell? ⟨W.heap.size, 0, none⟩ = some (.int .i64 n) := cell_blk (i := 0) ((hF.out.block _ (by omega) (hntb _ (Nat.le_refl _))).trans HQ.out) rfl
  have hg3 : w3.cell? ⟨g, o, none⟩ = some (.slice LA n lc) := ((hF.out.cell (p := ⟨g, o, none⟩) (by simp only; omega) hgT).trans (HB2.out.cell (p := ⟨g, o, none⟩) hgl)).trans HG.out
  have HF3 : Hid (Foot (TB T v) W w3) := Lib.hid ((Foot.of_below HB2.out).trans hF.out fun i hi => .inl hi)
  have HP3 : Hid (ff = true → PutTo W w3 T base v (t ++ WM.enc n 1)) := Lib.hid fun h => by
    obtain ⟨v', h1, h2⟩ := hP.out h
    exact ⟨v', by simpa using h1, fun i hi => (h2 i hi).imp id fun h => by omega⟩
  clear hw2 hz2 hF hP H2 hntb HQ HR HB2
  cases ff with
  | true =>
    go_wp2_with fail
    go_quiet (fail)
    go_wp2_with fail
    go_ret
    obtain ⟨v', h1, h2⟩ := HP3.out (by trivial)
    exact ⟨rfl, Lib.hid ⟨v', h1.keep (below_drewN (Below.refl _ _) _), h2⟩, Lib.hid (HF3.out.drewN _)⟩
  | false =>
    go_wp2_with fail
    go_ret
    exact ⟨rfl, Lib.hid fun h => absurd h (by decide), HF3⟩
set_option maxHeartbeats 4000000 in
theorem cntqueue_any (T base : Nat) (t : List UInt8) (v : Value) (W : World) (h : PutSt W T base t v) (ht : t.length ≤ 1000000)
    (g o n lc : Nat) (LA : Option Addr) (hn : n ≤ maxLen) (hg : W.cell? ⟨g, o, none⟩ = some (.slice LA n lc)) (hgT : ¬ TB T v g) :
    Calls Try.prog 34 #[.pointer (some ⟨g, o, none⟩), putCl T] W fun e W' => e = .returned (.bool (WM.fit n 1)) ∧ Hid (WM.fit n 1 = true → PutTo W W' T base v (t ++ WM.enc n 1)) ∧ Hid (Foot (TB T v) W W') := by
  obtain ⟨ff, hff⟩ : ∃ ff, ff = WM.fit n 1 := ⟨_, rfl⟩
  rw [← hff]
  have HFF := Lib.hid hff
  have H := Lib.hid h
  have hgl := lt_of_cell hg
  have HG := Lib.hid hg
  unfold maxLen at hn
  clear hff h
  go_enter Try.func34, Try.ntmps34
  go_wp2_with fail
  obtain ⟨w2, hw2⟩ : ∃ w2, w2 = (W.alloc (.cells #[.int .i64 n] 3)).alloc (.cells #[.pointer (some ⟨W.heap.size, 0, none⟩), .int .i64 1] 92) := ⟨_, rfl⟩
  rw [← hw2]
  have hz2 : w2.heap.size = W.heap.size + 1 + 1 := by rw [hw2]; simp
  have HB2 : Hid (Below W.heap.size W w2) := Lib.hid (by rw [hw2]; exact ((Below.refl _ _).alloc (Nat.le_refl _) _).alloc (by simp) _)
  have HQ : Hid (w2.heap[W.heap.size]? = some (.cells #[.int .i64 n] 3 (0, 0))) := Lib.hid (by rw [hw2]; exact (Below.heap_alloc _ _ _ (by simp)).trans (heap_alloc_new W _))
  have HR : Hid (w2.heap[W.heap.size + 1]? = some (.cells #[.pointer (some ⟨W.heap.size, 0, none⟩), .int .i64 1] 92 (0, 0))) := Lib.hid (by
    have h9 := heap_alloc_new (W.alloc (.cells #[.int .i64 n] 3)) (.cells #[.pointer (some ⟨W.heap.size, 0, none⟩), .int .i64 1] 92)
    rw [World.size_alloc] at h9
    rw [hw2]; exact h9)
  have H2 := H.out.keep HB2.out
  have hntb : ∀ i, W.heap.size ≤ i → ¬ TB T v i := fun i hi => not_tb H.out hi
  refine (clput_any T base t v w2 H2 ht (some ⟨W.heap.size + 1, 0, none⟩) 1 1 [(W.heap.size, 0, 1)] [(n : Int)] rfl (els_blk fpC_len HR.out (fun j u hj => by simpa [fpC] using hj)) (fun b off e => by cases e; exact hntb _ (by omega)) (fun x hx => by
    rw [List.mem_singleton.1 hx]
    exact ⟨.inl rfl, by simp only; omega, hntb _ (Nat.le_refl _)⟩) (by simp) ⟨rfl, fun k x u hx hu => by
    cases k with
    | zero =>
      simp at hx hu
      subst hx; subst hu
      exact ⟨cell_blk (i := 0) HQ.out rfl, by constructor <;> omega⟩
    | succ k => simp at hx⟩).mono ?_
  rintro e w3 ⟨rfl, hP, hF⟩
  rw [fit_one, ← HFF.out] at hP ⊢
  rw [enc_one] at hP
  have hq3 : w3.cell? ⟨W.heap.size, 0, none⟩ = some (.int .i64 n) := cell_blk (i := 0) ((hF.out.block _ (by omega) (hntb _ (Nat.le_refl _))).trans HQ.out) rfl
  have hg3 : w3.cell? ⟨g, o, none⟩ = some (.slice LA n lc) := ((hF.out.cell (p := ⟨g, o, none⟩) (by simp only; omega) hgT).trans (HB2.out.cell (p := ⟨g, o, none⟩) hgl)).trans HG.out
  have HF3 : Hid (Foot (TB T v) W w3) := Lib.hid ((Foot.of_below HB2.out).trans hF.out fun i hi => .inl hi)
  have HP3 : Hid (ff = true → PutTo W w3 T base v (t ++ WM.enc n 1)) := Lib.hid fun h => by
    obtain ⟨v', h1, h2⟩ := hP.out h
    exact ⟨v', by simpa using h1, fun i hi => (h2 i hi).imp id fun h => by omega⟩
  clear hw2 hz2 hF hP H2 hntb HQ HR HB2
  cases ff with
  | true =>
    go_wp2_with fail
    go_quiet (fail)
    go_wp2_with fail
    go_ret
    obtain ⟨v', h1, h2⟩ := HP3.out (by trivial)
    exact ⟨rfl, Lib.hid ⟨v', h1.keep (below_drewN (Below.refl _ _) _), h2⟩, Lib.hid (HF3.out.drewN _)⟩
  | false =>
    go_wp2_with fail
    go_ret
    exact ⟨rfl, Lib.hid fun h => absurd h (by decide), HF3⟩
set_option maxHeartbeats 4000000 in
theorem cntdom_any (T base : Nat) (t : List UInt8) (v : Value) (W : World) (h : PutSt W T base t v) (ht : t.length ≤ 1000000)
    (g o n lc : Nat) (LA : Option Addr) (hn : n ≤ maxLen) (hg : W.cell? ⟨g, o, none⟩ = some (.slice LA n lc)) (hgT : ¬ TB T v g) :
    Calls Try.prog 35 #[.pointer (some ⟨g, o, none⟩), putCl T] W fun e W' => e = .returned (.bool (WM.fit n 1)) ∧ Hid (WM.fit n 1 = true → PutTo W W' T base v (t ++ WM.enc n 1)) ∧ Hid (Foot (TB T v) W W') := by
  obtain ⟨ff, hff⟩ : ∃ ff, ff = WM.fit n 1 := ⟨_, rfl⟩
  rw [← hff]
  have HFF := Lib.hid hff
  have H := Lib.hid h
  have hgl := lt_of_cell hg
  have HG := Lib.hid hg
  unfold maxLen at hn
  clear hff h
  go_enter Try.func35, Try.ntmps35
  go_wp2_with fail
  obtain ⟨w2, hw2⟩ : ∃ w2, w2 = (W.alloc (.cells #[.int .i64 n] 3)).alloc (.cells #[.pointer (some ⟨W.heap.size, 0, none⟩), .int .i64 1] 92) := ⟨_, rfl⟩
  rw [← hw2]
  have hz2 : w2.heap.size = W.heap.size + 1 + 1 := by rw [hw2]; simp
  have HB2 : Hid (Below W.heap.size W w2) := Lib.hid (by rw [hw2]; exact ((Below.refl _ _).alloc (Nat.le_refl _) _).alloc (by simp) _)
  have HQ : Hid (w2.heap[W.heap.size]? = some (.cells #[.int .i64 n] 3 (0, 0))) := Lib.hid (by rw [hw2]; exact (Below.heap_alloc _ _ _ (by simp)).trans (heap_alloc_new W _))
  have HR : Hid (w2.heap[W.heap.size + 1]? = some (.cells #[.pointer (some ⟨W.heap.size, 0, none⟩), .int .i64 1] 92 (0, 0))) := Lib.hid (by
    have h9 := heap_alloc_new (W.alloc (.cells #[.int .i64 n] 3)) (.cells #[.pointer (some ⟨W.heap.size, 0, none⟩), .int .i64 1] 92)
    rw [World.size_alloc] at h9
    rw [hw2]; exact h9)
  have H2 := H.out.keep HB2.out
  have hntb : ∀ i, W.heap.size ≤ i → ¬ TB T v i := fun i hi => not_tb H.out hi
  refine (clput_any T base t v w2 H2 ht (some ⟨W.heap.size + 1, 0, none⟩) 1 1 [(W.heap.size, 0, 1)] [(n : Int)] rfl (els_blk fpC_len HR.out (fun j u hj => by simpa [fpC] using hj)) (fun b off e => by cases e; exact hntb _ (by omega)) (fun x hx => by
    rw [List.mem_singleton.1 hx]
    exact ⟨.inl rfl, by simp only; omega, hntb _ (Nat.le_refl _)⟩) (by simp) ⟨rfl, fun k x u hx hu => by
    cases k with
    | zero =>
      simp at hx hu
      subst hx; subst hu
      exact ⟨cell_blk (i := 0) HQ.out rfl, by constructor <;> omega⟩
    | succ k => simp at hx⟩).mono ?_
  rintro e w3 ⟨rfl, hP, hF⟩
  rw [fit_one, ← HFF.out] at hP ⊢
  rw [enc_one] at hP
  have hq3 : w3.cell? ⟨W.heap.size, 0, none⟩ = some (.int .i64 n) := cell_blk (i := 0) ((hF.out.block _ (by omega) (hntb _ (Nat.le_refl _))).trans HQ.out) rfl
  have hg3 : w3.cell? ⟨g, o, none⟩ = some (.slice LA n lc) := ((hF.out.cell (p := ⟨g, o, none⟩) (by simp only; omega) hgT).trans (HB2.out.cell (p := ⟨g, o, none⟩) hgl)).trans HG.out
  have HF3 : Hid (Foot (TB T v) W w3) := Lib.hid ((Foot.of_below HB2.out).trans hF.out fun i hi => .inl hi)
  have HP3 : Hid (ff = true → PutTo W w3 T base v (t ++ WM.enc n 1)) := Lib.hid fun h => by
    obtain ⟨v', h1, h2⟩ := hP.out h
    exact ⟨v', by simpa using h1, fun i hi => (h2 i hi).imp id fun h => by omega⟩
  clear hw2 hz2 hF hP H2 hntb HQ HR HB2
  cases ff with
  | true =>
    go_wp2_with fail
    go_quiet (fail)
    go_wp2_with fail
    go_ret
    obtain ⟨v', h1, h2⟩ := HP3.out (by trivial)
    exact ⟨rfl, Lib.hid ⟨v', h1.keep (below_drewN (Below.refl _ _) _), h2⟩, Lib.hid (HF3.out.drewN _)⟩
  | false =>
    go_wp2_with fail
    go_ret
    exact ⟨rfl, Lib.hid fun h => absurd h (by decide), HF3⟩
end Go.Proofs.Ytplekkpfpidebaa
