/- Gangs: a book as an object; its calls but Add. -/
import Derived.Test.YtbomdannlcclkaaGaColl
import Derived.Test.YtbomdannlcclkaaGaCall
set_option linter.unusedVariables false
namespace Go.Proofs.Ytbomdannlcclkaa
open Go.RowKit
/-- A book as an object: its blocks are F. -/
def GaObj (T : TypeId) (w : World) (p : Nat) (F : Nat → Prop) (L : List Rc) : Prop := ∃ V, GaAt T w p V L ∧ ∀ i, F i ↔ (i = p ∨ V.ownBlock = some i)
section
variable {T : TypeId} {w w' : World} {p : Nat} {F : Nat → Prop} {L : List Rc}
theorem GaObj.lt (h : GaObj T w p F L) : ∀ i, F i → i < w.heap.size := by
  obtain ⟨V, h1, h2⟩ := h
  exact fun i hi => h1.lt i ((h2 i).1 hi)
theorem GaObj.of (h : GaObj T w p F L) (e : ∀ i, F i → w'.heap[i]? = w.heap[i]?) : GaObj T w' p F L := by
  obtain ⟨V, h1, h2⟩ := h
  exact ⟨V, h1.of fun i hi => e i ((h2 i).2 hi), h2⟩
theorem GaObj.keep (h : GaObj T w p F L) (hk : Below w.heap.size w w') : GaObj T w' p F L := h.of fun i hi => hk.block i (h.lt i hi)
theorem GaObj.len (h : GaObj T w p F L) : L.length ≤ 4096 := by obtain ⟨V, h1, _⟩ := h; exact h1.len
theorem GaObj.new (T : TypeId) (w : World) : GaObj T (w.alloc (.cells #[.slice none 0 0] T)) w.heap.size (· = w.heap.size) [] :=
  ⟨_, ⟨heap_alloc_new w _, World.ownsRow_nil _ _ _ _, fun b hb => (by cases hb), Nat.zero_le _⟩, fun i => ⟨fun h => .inl h, fun h => by rcases h with h | h; exact h; cases h⟩⟩
end
set_option maxRecDepth 100000 in
set_option maxHeartbeats 4000000 in
theorem get_any (T : TypeId) (p : Nat) (F : Nat → Prop) (L : List Rc) (id : Int) (w : World) (h : GaObj T w p F L) :
    Calls Try.prog 20 #[.pointer (some ⟨p, 0, none⟩), .int .i64 id] w fun e w' => e = .returned (.tuple #[rcV (GL.getR L id), .int .i64 (GL.getE L id)]) ∧ Below w.heap.size w w' := by
  obtain ⟨V, hV, _⟩ := h
  have hz := rc_new w GL.zr
  have hB1 : Below w.heap.size w (w.alloc (rcO GL.zr)) := (Below.refl _ w).alloc (Nat.le_refl _) _
  have lb : w.heap.size < (w.alloc (rcO GL.zr)).heap.size := blk_lt hz
  have h1 := hV.keep hB1
  have HF := Lib.hid (find_any T p V L id _ h1)
  have HB1 := Lib.hid hB1
  have HZ := Lib.hid hz
  have H1 := Lib.hid h1
  clear hV hz hB1 h1
  simp only [rcO, rcA, GL.zr] at HF HB1 HZ H1 lb
  go_enter Try.func20, Try.ntmps20
  go_wp2_with fail
  refine HF.out.mono ?_
  rintro e w2 ⟨hfo, hb⟩
  have HB2 := Lib.hid (below_step HB1.out hb)
  have HZ2 : Hid (w2.heap[w.heap.size]? = some (rcO GL.zr)) := Lib.hid ((hb.block _ lb).trans HZ.out)
  have H2 := Lib.hid (H1.out.keep hb)
  clear hb HF HZ H1 HB1
  rcases hfo with ⟨hno, rfl⟩ | ⟨g, x, hg, hx, hxi, hh, rfl⟩
  · have HN := Lib.hid (GL.get_no hno)
    clear hno
    go_wp2_with (refine wpList_store_rc rfl _ _ rfl w.heap.size GL.zr rfl rfl GL.zr HZ2.out ?_)
    refine bodyPost_ret (results_rcn Try.results20 _ _ w.heap.size GL.zr (.int .i64 3) rfl (setRow_rc (old := GL.zr) HZ2.out) rfl) rfl ?_
    refine ⟨?_, below_row HB2.out (Nat.le_refl _) _⟩
    rw [HN.out.1, HN.out.2]
  · have HN := Lib.hid (GL.get_yes hx hh)
    have HR := Lib.hid (H2.out.rec_ hg hx)
    obtain ⟨k0, hk0⟩ : ∃ k0, k0 = GL.pos L id := ⟨_, rfl⟩
    rw [← hk0] at HR ⊢
    clear hx hxi hh hk0
    go_wp2_with (first
      | (refine wpList_load_rc rfl _ rfl g (k0 * 16) x rfl HR.out ?_)
      | (refine wpList_store_rc rfl _ _ rfl w.heap.size x rfl rfl GL.zr HZ2.out ?_))
    refine bodyPost_ret (results_rcn Try.results20 _ _ w.heap.size x (.int .i64 0) rfl (setRow_rc (old := GL.zr) HZ2.out) rfl) rfl ?_
    refine ⟨?_, below_row HB2.out (Nat.le_refl _) _⟩
    rw [HN.out.1, HN.out.2]
theorem allo_any (T : TypeId) (p : Nat) (F : Nat → Prop) (L : List Rc) (w : World) (h : GaObj T w p F L) :
    Calls Try.prog 17 #[.pointer (some ⟨p, 0, none⟩)] w fun e w' => ∃ A c, e = .returned (.slice A L.length c) ∧ w'.ownsRow w.heap.size 42 16 (.slice A L.length c) L.length (L.flatMap rcC) ∧ Below w.heap.size w w' := by
  obtain ⟨V, hV, _⟩ := h
  exact all_any T p V L w hV
theorem ino_any (T : TypeId) (p : Nat) (F : Nat → Prop) (L : List Rc) (s : Int) (w : World) (h : GaObj T w p F L) :
    Calls Try.prog 18 #[.pointer (some ⟨p, 0, none⟩), .int .i64 s] w fun e w' => ∃ A c, e = .returned (.slice A (GL.inL L s).length c) ∧ w'.ownsRow w.heap.size 42 16 (.slice A (GL.inL L s).length c) (GL.inL L s).length ((GL.inL L s).flatMap rcC) ∧ Below w.heap.size w w' := by
  obtain ⟨V, hV, _⟩ := h
  exact in_any T p V L s w hV

set_option maxRecDepth 100000 in
set_option maxHeartbeats 4000000 in
theorem reserve_any (T : TypeId) (p : Nat) (F : Nat → Prop) (L : List Rc) (id m l k : Int) (w : World) (h : GaObj T w p F L) :
    Calls Try.prog 22 #[.pointer (some ⟨p, 0, none⟩), .int .i64 id, .int .i64 m, .int .i64 l, .int .i64 k] w fun e w' => e = .returned (.int .i64 (GL.chE L id (GL.resE · m))) ∧ GaObj T w' p F (GL.chL L id (GL.resE · m) (GL.resR · m l k)) ∧ Foot F w w' := by
  obtain ⟨V, hV, hF⟩ := h
  obtain ⟨w1, hw1⟩ : ∃ w1, w1 = (((w.alloc (.cells #[.int .i64 m] 3)).alloc (.cells #[.int .i64 l] 3)).alloc (.cells #[.int .i64 k] 3)) := ⟨_, rfl⟩
  have hB1 : Below w.heap.size w w1 := by rw [hw1]; exact (((Below.refl _ w).alloc (Nat.le_refl _) _).alloc (by simp) _).alloc (by simp; omega) _
  have hz1 : w1.heap.size = w.heap.size + 3 := by rw [hw1]; simp
  have e0 : ∀ (W : World) (o : Obj), (W.alloc o).heap.size = W.heap.size + 1 := fun W o => by simp
  have b0 := heap_alloc_new w (.cells #[.int .i64 m] 3)
  have b1 := heap_alloc_new (w.alloc (.cells #[.int .i64 m] 3)) (.cells #[.int .i64 l] 3)
  have b2 := heap_alloc_new ((w.alloc (.cells #[.int .i64 m] 3)).alloc (.cells #[.int .i64 l] 3)) (.cells #[.int .i64 k] 3)
  rw [e0] at b1
  rw [e0, e0] at b2
  rw [← hw1] at b2
  have f0 : w1.heap[w.heap.size]? = some (.cells #[.int .i64 m] 3 (0, 0)) := by rw [hw1]; exact (Below.heap_alloc _ _ _ (by rw [e0, e0]; omega)).trans ((Below.heap_alloc _ _ _ (by rw [e0]; omega)).trans b0)
  have f1 : w1.heap[w.heap.size + 1]? = some (.cells #[.int .i64 l] 3 (0, 0)) := by rw [hw1]; exact (Below.heap_alloc _ _ _ (by rw [e0, e0]; omega)).trans b1
  have c1 : w1.cell? ⟨w.heap.size, 0, none⟩ = some (.int .i64 m) := cell_blk (i := 0) f0 rfl
  have c2 : w1.cell? ⟨w.heap.size + 1, 0, none⟩ = some (.int .i64 l) := cell_blk (i := 0) f1 rfl
  have c3 : w1.cell? ⟨w.heap.size + 2, 0, none⟩ = some (.int .i64 k) := cell_blk (i := 0) b2 rfl
  clear e0 b0 b1 b2 f0 f1
  have HC := Lib.hid (ch_res T p w.heap.size V L id m l k w1 (hV.keep hB1) (by omega) c1 c2 c3)
  have HB := Lib.hid (And.intro hB1 hF)
  rw [hw1] at HC HB
  clear hV hF hB1 hz1 c1 c2 c3 hw1
  go_enter Try.func22, Try.ntmps22
  go_wp2_with fail
  refine HC.out.mono ?_
  rintro e w2 ⟨rfl, h2, hf2⟩
  have H2 := Lib.hid (And.intro h2 ((Foot.of_below (F := F) HB.out.1).trans hf2 fun i hi => .inl ((HB.out.2 i).2 (.inr hi))))
  clear h2 hf2 HC
  go_wp2
  go_ret
  exact ⟨by simp, ⟨V, H2.out.1, HB.out.2⟩, H2.out.2⟩

set_option maxRecDepth 100000 in
set_option maxHeartbeats 4000000 in
theorem turn_any (T : TypeId) (p : Nat) (F : Nat → Prop) (L : List Rc) (id v : Int) (w : World) (h : GaObj T w p F L) :
    Calls Try.prog 23 #[.pointer (some ⟨p, 0, none⟩), .int .i64 id, .int .i64 v] w fun e w' => e = .returned (.int .i64 (GL.chE L id (GL.turE · v))) ∧ GaObj T w' p F (GL.chL L id (GL.turE · v) (GL.turR · v)) ∧ Foot F w w' := by
  obtain ⟨V, hV, hF⟩ := h
  obtain ⟨w1, hw1⟩ : ∃ w1, w1 = (w.alloc (.cells #[.int .i64 v] 3)) := ⟨_, rfl⟩
  have hB1 : Below w.heap.size w w1 := by rw [hw1]; exact (Below.refl _ w).alloc (Nat.le_refl _) _
  have hz1 : w1.heap.size = w.heap.size + 1 := by rw [hw1]; simp
  have c1 : w1.cell? ⟨w.heap.size, 0, none⟩ = some (.int .i64 v) := by rw [hw1]; exact cell_blk (i := 0) (heap_alloc_new w _) rfl
  have HC := Lib.hid (ch_tur T p w.heap.size V L id v w1 (hV.keep hB1) (by omega) c1)
  have HB := Lib.hid (And.intro hB1 hF)
  rw [hw1] at HC HB
  clear hV hF hB1 hz1 c1 hw1
  go_enter Try.func23, Try.ntmps23
  go_wp2_with fail
  refine HC.out.mono ?_
  rintro e w2 ⟨rfl, h2, hf2⟩
  have H2 := Lib.hid (And.intro h2 ((Foot.of_below (F := F) HB.out.1).trans hf2 fun i hi => .inl ((HB.out.2 i).2 (.inr hi))))
  clear h2 hf2 HC
  go_wp2
  go_ret
  exact ⟨by simp, ⟨V, H2.out.1, HB.out.2⟩, H2.out.2⟩

set_option maxRecDepth 100000 in
set_option maxHeartbeats 4000000 in
theorem resize_any (T : TypeId) (p : Nat) (F : Nat → Prop) (L : List Rc) (id v : Int) (w : World) (h : GaObj T w p F L) :
    Calls Try.prog 26 #[.pointer (some ⟨p, 0, none⟩), .int .i64 id, .int .i64 v] w fun e w' => e = .returned (.int .i64 (GL.chE L id (GL.sizE · v))) ∧ GaObj T w' p F (GL.chL L id (GL.sizE · v) (GL.sizR · v)) ∧ Foot F w w' := by
  obtain ⟨V, hV, hF⟩ := h
  obtain ⟨w1, hw1⟩ : ∃ w1, w1 = (w.alloc (.cells #[.int .i64 v] 3)) := ⟨_, rfl⟩
  have hB1 : Below w.heap.size w w1 := by rw [hw1]; exact (Below.refl _ w).alloc (Nat.le_refl _) _
  have hz1 : w1.heap.size = w.heap.size + 1 := by rw [hw1]; simp
  have c1 : w1.cell? ⟨w.heap.size, 0, none⟩ = some (.int .i64 v) := by rw [hw1]; exact cell_blk (i := 0) (heap_alloc_new w _) rfl
  have HC := Lib.hid (ch_siz T p w.heap.size V L id v w1 (hV.keep hB1) (by omega) c1)
  have HB := Lib.hid (And.intro hB1 hF)
  rw [hw1] at HC HB
  clear hV hF hB1 hz1 c1 hw1
  go_enter Try.func26, Try.ntmps26
  go_wp2_with fail
  refine HC.out.mono ?_
  rintro e w2 ⟨rfl, h2, hf2⟩
  have H2 := Lib.hid (And.intro h2 ((Foot.of_below (F := F) HB.out.1).trans hf2 fun i hi => .inl ((HB.out.2 i).2 (.inr hi))))
  clear h2 hf2 HC
  go_wp2
  go_ret
  exact ⟨by simp, ⟨V, H2.out.1, HB.out.2⟩, H2.out.2⟩

set_option maxRecDepth 100000 in
set_option maxHeartbeats 4000000 in
theorem start_any (T : TypeId) (p : Nat) (F : Nat → Prop) (L : List Rc) (id n : Int) (w : World) (h : GaObj T w p F L) :
    Calls Try.prog 25 #[.pointer (some ⟨p, 0, none⟩), .int .i64 id, .int .i64 n] w fun e w' => e = .returned (.tuple #[.int .i64 (GL.staN L id n), .int .i64 (GL.chE L id (GL.staE · n))]) ∧ GaObj T w' p F (GL.chL L id (GL.staE · n) (GL.staR · n)) ∧ Foot F w w' := by
  obtain ⟨V, hV, hF⟩ := h
  have e0 : ∀ (W : World) (o : Obj), (W.alloc o).heap.size = W.heap.size + 1 := fun W o => by simp
  obtain ⟨w0, hw0⟩ : ∃ w0, w0 = w.alloc (.cells #[.int .i64 n] 3) := ⟨_, rfl⟩
  have hz0 : w0.heap.size = w.heap.size + 1 := by rw [hw0]; simp
  have hB0 : Below w.heap.size w w0 := by rw [hw0]; exact (Below.refl _ w).alloc (Nat.le_refl _) _
  have c0 : w0.cell? ⟨w.heap.size, 0, none⟩ = some (.int .i64 n) := by rw [hw0]; exact cell_blk (i := 0) (heap_alloc_new w _) rfl
  obtain ⟨wa, hwa⟩ : ∃ wa, wa = w0.alloc (.cells #[.int .i64 0] 3) := ⟨_, rfl⟩
  have hza : wa.heap.size = w.heap.size + 2 := by rw [hwa, e0, hz0]
  have hBa : Below w0.heap.size w0 wa := by rw [hwa]; exact (Below.refl _ w0).alloc (Nat.le_refl _) _
  have ha : wa.heap[w.heap.size + 1]? = some (.cells #[.int .i64 0] 3 (0, 0)) := by rw [hwa, ← hz0]; exact heap_alloc_new w0 _
  obtain ⟨w1, hw1⟩ : ∃ w1, w1 = wa := ⟨_, rfl⟩
  have hB1 : Below (w.heap.size + 1) w0 w1 := by rw [hw1, ← hz0]; exact hBa
  have hz1 : w1.heap.size = w.heap.size + 2 := by rw [hw1]; exact hza
  have h1 : w1.heap[w.heap.size + 1]? = some (.cells #[.int .i64 0] 3 (0, 0)) := by rw [hw1]; exact ha
  have c1 : w1.cell? ⟨w.heap.size, 0, none⟩ = some (.int .i64 n) := (hB1.cell (p := ⟨w.heap.size, 0, none⟩) (by show w.heap.size < w.heap.size + 1; omega)).trans c0
  have hBw : Below w.heap.size w w1 := hB0.trans (hB1.mono (by omega))
  have hlp := hV.lt p (.inl rfl)
  have HC := Lib.hid (ch_sta T p w.heap.size V L id n (w.heap.size + 1) w1 (hV.keep hBw) (by omega) (by omega) (by omega) (fun i hi => by have := hV.lt i (.inr hi); omega) c1 h1)
  have HB := Lib.hid (And.intro hBw hF)
  have hf : wa.frozen? ⟨w.heap.size + 1, 0, none⟩ = false := frozen_blk ha
  have hc : wa.cell? ⟨w.heap.size + 1, 0, none⟩ = some (.int .i64 0) := cell_blk ha rfl
  rw [hw1] at HC HB
  rw [hwa] at HC HB hf hc
  rw [hw0] at HC HB hf hc
  clear hV hF hB0 hB1 hBw hz0 hza hz1 c0 c1 h1 ha hBa hw0 hwa hw1 hlp e0
  go_enter Try.func25, Try.ntmps25
  go_wp2_with fail
  refine HC.out.mono ?_
  rintro e w2 ⟨rfl, h2, hf2, hZ⟩
  have hcz : w2.cell? ⟨w.heap.size + 1, 0, none⟩ = some (.int .i64 (GL.staN L id n)) := cell_blk hZ rfl
  have H2 := Lib.hid (And.intro h2 ((Foot.of_below (F := F) HB.out.1).trans hf2 fun i hi => by
    rcases hi with hi | hi
    · exact .inl ((HB.out.2 i).2 (.inr hi))
    · exact .inr (by omega)))
  clear h2 hf2 HC hZ
  go_wp2
  refine bodyPost_ret (v := .tuple #[.int .i64 (GL.staN L id n), .int .i64 (GL.chE L id (GL.staE · n))]) (by simp [results, Try.results25, go_sem]) rfl ?_
  exact ⟨rfl, ⟨V, H2.out.1, HB.out.2⟩, H2.out.2⟩

end Go.Proofs.Ytbomdannlcclkaa
