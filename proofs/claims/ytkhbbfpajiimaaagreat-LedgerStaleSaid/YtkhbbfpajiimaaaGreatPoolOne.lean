/- A slot, taken or given back; slots, one behind the other; Take and Give. -/
import Derived.Test.YtkhbbfpajiimaaaGreatPoolCl
namespace Go.Proofs.YtkhbbfpajiimaaaGreat
open Go.RowKit

def clN (give : Bool) : Nat := if give then 141 else 138
def clV (give : Bool) (bx : Nat) : Value := .func (.func (clN give)) #[] #[.pointer (some ⟨bx, 0, none⟩)]
theorem cl_any {T : Nat → Prop} (give : Bool) (p g dm bx k : Nat) (fs ts : List Fr) (dr : List Bool) (f t : Fr) (s : PM.Sl) (w : World) (h : PoolAt w T p g dm fs ts dr) (hbx : w.cell? ⟨bx, 0, none⟩ = some (.pointer (some ⟨p, 0, none⟩))) (hs : SlOk s) (h0 : 0 ≤ s.c)
    (hk : PM.find s.n s.d fs = some k) (hf : fs[k]? = some f) (ht : ts[k]? = some t) :
    Calls Tryz.prog (clN give) #[.pointer (some ⟨g, k * 4, none⟩), slV s, .pointer (some ⟨bx, 0, none⟩)] w fun e w' =>
      e = .returned (.int .i64 (PM.one fs dr give s ts).1) ∧ PoolAt w' T p g dm fs (PM.one fs dr give s ts).2 dr ∧ Foot (· = g) w w' := by
  cases give
  · exact take_cl p g dm bx k fs ts dr f t s w h hbx hs h0 hk hf ht
  · exact give_cl p g dm bx k fs ts dr f t s w h hbx hs h0 hk hf ht
set_option maxRecDepth 100000 in
set_option maxHeartbeats 2000000 in
theorem one_any {T : Nat → Prop} (give : Bool) (p g dm bx : Nat) (fs ts : List Fr) (dr : List Bool) (s : PM.Sl) (w : World) (h : PoolAt w T p g dm fs ts dr) (hbx : w.cell? ⟨bx, 0, none⟩ = some (.pointer (some ⟨p, 0, none⟩))) (hs : SlOk s) :
    Calls Tryz.prog 167 #[.pointer (some ⟨p, 0, none⟩), slV s, clV give bx] w fun e w' =>
      e = .returned (.int .i64 (PM.one fs dr give s ts).1) ∧ PoolAt w' T p g dm fs (PM.one fs dr give s ts).2 dr ∧ Foot (· = g) w w' := by
  obtain ⟨R, hR⟩ : ∃ R, R = PM.one fs dr give s ts := ⟨_, rfl⟩
  rw [← hR]
  have HP := Lib.hid h
  have hB1 := (Below.refl w.heap.size w).alloc (Nat.le_refl _) (.cells #[.int .i64 s.n, .int .i64 s.d, .int .u64 (s.m : Nat), .int .i64 s.c] 41)
  have HB := Lib.hid hB1
  have kc := bounds_i64 hs.c
  by_cases h0 : s.c < 0
  · have e : R = (1, ts) := by rw [hR]; unfold PM.one; rw [if_pos h0]
    subst e
    clear hR h hbx hs hB1
    obtain ⟨x, y, m, c⟩ := s
    simp only [slV] at *
    have t0 : decide (c < 0) = true := by simpa using h0
    go_enter Tryz.func167, Tryz.ntmps167
    go_wp2
    go_ret
    exact ⟨rfl, HP.out.keep HB.out, Foot.of_below HB.out⟩
  obtain ⟨a, c0, hT⟩ := h.topo
  obtain ⟨a', h1, _⟩ := h.blk
  have c1 : w.cell? ⟨p, 1, none⟩ = some (.slice (some ⟨g, 0, none⟩) fs.length fs.length) := cell_blk (i := 1) h1 rfl
  have hlp := h.lt.1
  have hbl := lt_of_cell hbx
  have hT2 := Lib.hid hT
  have hbW := heap_alloc_new w (.cells #[.int .i64 s.n, .int .i64 s.d, .int .u64 (s.m : Nat), .int .i64 s.c] 41)
  have b0 := (hB1.cell (p := ⟨p, 0, none⟩) hlp).trans c0
  have b1 := (hB1.cell (p := ⟨p, 1, none⟩) hlp).trans c1
  have e0 : (w.alloc (.cells #[.int .i64 s.n, .int .i64 s.d, .int .u64 (s.m : Nat), .int .i64 s.c] 41)).cell? ⟨w.heap.size, 0, none⟩ = some (.int .i64 s.n) := cell_blk (i := 0) hbW rfl
  have e1 : (w.alloc (.cells #[.int .i64 s.n, .int .i64 s.d, .int .u64 (s.m : Nat), .int .i64 s.c] 41)).cell? ⟨w.heap.size, 1, none⟩ = some (.int .i64 s.d) := cell_blk (i := 1) hbW rfl
  have Hb := Lib.hid hbW
  have HS := Lib.hid hs
  have HX := Lib.hid hbx
  cases hk : PM.find s.n s.d fs with
  | none =>
    have e : R = (3, ts) := by rw [hR]; unfold PM.one; rw [if_neg h0]; simp only [hk]
    subst e
    have hI := Lib.hid (fun W (hW : Below w.heap.size w W) => index_miss a dr.length s.n s.d fs W (hT2.out.keep hW) hs.n hs.d (PM.find_miss hk))
    clear hR h hbx hs hB1 h1 hT c0 c1 hk hbW
    obtain ⟨x, y, m, c⟩ := s
    simp only [slV] at *
    have t0 : decide (c < 0) = false := by simpa using h0
    go_enter Tryz.func167, Tryz.ntmps167
    go_wp2
    obtain ⟨W, hW⟩ : ∃ W, W = w.alloc (.cells #[.int .i64 x, .int .i64 y, .int .u64 (m : Nat), .int .i64 c] 41) := ⟨_, rfl⟩
    rw [← hW] at b0 b1 e0 e1 HB Hb ⊢
    have lb : p < W.heap.size ∧ w.heap.size < W.heap.size := by rw [hW]; simp; omega
    clear hW
    go_region_held3 (fun w' => w'.cell? ⟨p, 0, none⟩ = some (.pointer (some ⟨a, 0, none⟩)) ∧ w'.cell? ⟨w.heap.size, 0, none⟩ = some (.int .i64 x) ∧ w'.cell? ⟨w.heap.size, 1, none⟩ = some (.int .i64 y))
      (go_keep)
      (first | (go_at_call 169; ((with_reducible refine (hI.out W.drew HB.out.drew).mono ?_); rintro e w1 ⟨rfl, hb1⟩); have hB7 : Below W.heap.size W w1 := below_step (Below.refl W.heap.size W).drew hb1; have v1 := (hB7.cell (p := ⟨p, 0, none⟩) lb.1).trans b0; have v2 := (hB7.cell (p := ⟨w.heap.size, 0, none⟩) lb.2).trans e0; have v3 := (hB7.cell (p := ⟨w.heap.size, 1, none⟩) lb.2).trans e1))
    go_wp2
    go_ret
    have hB9 := HB.out.trans (hB7.mono (by omega))
    exact ⟨rfl, HP.out.keep hB9, Foot.of_below hB9⟩
  | some k =>
    obtain ⟨f, hf, hfn, hfd⟩ := PM.find_hit hk
    obtain ⟨t, ht⟩ := get_lt (l := ts) (k := k) (by rw [h.inv.1]; exact (List.getElem?_eq_some_iff.1 hf).1)
    have hkl := (List.getElem?_eq_some_iff.1 hf).1
    have hfl := h.ok.few
    have hI := Lib.hid (fun W (hW : Below w.heap.size w W) => index_hit a dr.length k f fs W (hT2.out.keep hW) hf h.ok.dup)
    rw [hfn, hfd] at hI
    have hC := Lib.hid (fun W (hW : Below w.heap.size w W) => cl_any give p g dm bx k fs ts dr f t s W (h.keep hW) ((hW.cell (p := ⟨bx, 0, none⟩) hbl).trans hbx) hs (by omega) hk hf ht)
    rw [← hR] at hC
    obtain ⟨n, hn⟩ : ∃ n, fs.length = n := ⟨_, rfl⟩
    rw [hn] at hkl hfl b1
    clear hR h hbx hs hB1 h1 hT c0 c1 hk hbW hf ht hfn hfd hn
    obtain ⟨x, y, m, c⟩ := s
    cases give
    all_goals
      simp only [slV, clV, clN, Bool.false_eq_true, if_false, if_true] at *
      have t0 : decide (c < 0) = false := by simpa using h0
      go_enter Tryz.func167, Tryz.ntmps167
      go_wp2
      obtain ⟨W, hW⟩ : ∃ W, W = w.alloc (.cells #[.int .i64 x, .int .i64 y, .int .u64 (m : Nat), .int .i64 c] 41) := ⟨_, rfl⟩
      rw [← hW] at b0 b1 e0 e1 HB Hb ⊢
      have lb : p < W.heap.size ∧ w.heap.size < W.heap.size := by rw [hW]; simp; omega
      clear hW
      go_region_held3 (fun w' => w'.cell? ⟨p, 0, none⟩ = some (.pointer (some ⟨a, 0, none⟩)) ∧ w'.cell? ⟨w.heap.size, 0, none⟩ = some (.int .i64 x) ∧ w'.cell? ⟨w.heap.size, 1, none⟩ = some (.int .i64 y))
        (go_keep)
        (first | (go_at_call 169; ((with_reducible refine (hI.out W.drew HB.out.drew).mono ?_); rintro e w1 ⟨rfl, hb1⟩); have hB7 : Below W.heap.size W w1 := below_step (Below.refl W.heap.size W).drew hb1; have v1 := (hB7.cell (p := ⟨p, 0, none⟩) lb.1).trans b0; have v2 := (hB7.cell (p := ⟨w.heap.size, 0, none⟩) lb.2).trans e0; have v3 := (hB7.cell (p := ⟨w.heap.size, 1, none⟩) lb.2).trans e1))
      have x1 := (hB7.cell (p := ⟨p, 1, none⟩) lb.1).trans b1
      have hbk := (hB7.block _ lb.2).trans Hb.out
      have y0 : w1.cell? ⟨w.heap.size, 0, none⟩ = some (.int .i64 x) := cell_blk (i := 0) hbk rfl
      have y1 : w1.cell? ⟨w.heap.size, 1, none⟩ = some (.int .i64 y) := cell_blk (i := 1) hbk rfl
      have y2 : w1.cell? ⟨w.heap.size, 2, none⟩ = some (.int .u64 (m : Nat)) := cell_blk (i := 2) hbk rfl
      have y3 : w1.cell? ⟨w.heap.size, 3, none⟩ = some (.int .i64 c) := cell_blk (i := 3) hbk rfl
      have H9 := Lib.hid (HB.out.trans (hB7.mono (by omega)))
      clear hbk v1 v2 v3 b0 b1 e0 e1 hB7 hb1
      go_wp2
      go_still_tail 8, (by kernel_rfl)
      change wpList _ _ _ _ _ w1.drew
      go_wp2_with (first | (go_at_call 138; refine (hC.out _ H9.out.drew).mono ?_; rintro e w2 ⟨rfl, hp2, hf2⟩) | (go_at_call 141; refine (hC.out _ H9.out.drew).mono ?_; rintro e w2 ⟨rfl, hp2, hf2⟩))
      go_ret
      exact ⟨rfl, hp2, (Foot.of_below H9.out.drew).trans hf2 fun i hi => .inl hi⟩
/-- A slot's cells; slots in memory. -/
def SlAt (w : World) (b o : Nat) (s : PM.Sl) : Prop :=
  w.cell? ⟨b, o, none⟩ = some (.int .i64 s.n) ∧ w.cell? ⟨b, o + 1, none⟩ = some (.int .i64 s.d) ∧ w.cell? ⟨b, o + 2, none⟩ = some (.int .u64 (s.m : Nat)) ∧ w.cell? ⟨b, o + 3, none⟩ = some (.int .i64 s.c)
abbrev Slots (w : World) (B : Nat) (A : Option Addr) (l : List PM.Sl) : Prop := Rows B A (SlAt w) 4 l
theorem SlAt.of {w w' : World} {b o : Nat} {s : PM.Sl} (h : SlAt w b o s) (e : w'.heap[b]? = w.heap[b]?) : SlAt w' b o s := by
  have hc := fun o => World.cell?_of_block (w := w) (w' := w') (a := ⟨b, o, none⟩) e
  unfold SlAt at h ⊢
  rw [hc, hc, hc, hc]; exact h
theorem SlAt.keep {w w' : World} {B b o : Nat} {s : PM.Sl} (h : SlAt w b o s) (hb : b < B) (hk : Below B w w') : SlAt w' b o s := h.of (hk.block b hb)
theorem Slots.keep {w w' : World} {B B' : Nat} {A : Option Addr} {l : List PM.Sl} (h : Slots w B A l) (hk : Below B w w') (hB : B ≤ B') : Slots w' B' A l := h.imp hB fun _ _ _ hb hd => hd.keep hb hk
/-- An address that lies in none of these blocks. -/
def Off (A : Option Addr) (F : Nat → Prop) : Prop := ∀ b off, A = some ⟨b, off, none⟩ → ¬ F b
/-- The row of what is free is another one, which reads as what was free. -/
theorem PoolAt.laid {T : Nat → Prop} {w w1 w' : World} {p g g' dm : Nat} {fs ts tk : List Fr} {dr : List Bool} (h0 : PoolAt w T p g dm fs ts dr) (h : PoolAt w1 T p g dm fs tk dr) (hg : w.heap.size ≤ g') (hr : w1.heap[g']? = some (rowBlk (PM.free fs ts)))
    (e : w' = w1.setCell ⟨p, 1, none⟩ (.slice (some ⟨g', 0, none⟩) fs.length fs.length)) (hne : p ≠ g') : PoolAt w' T p g' dm fs ts dr := by
  obtain ⟨n1, n2, n3⟩ := h0.ne
  obtain ⟨a, h1, h2⟩ := h.blk
  have hl : ∀ j, j ≠ p → w'.heap[j]? = w1.heap[j]? := fun j hj => by rw [e]; exact Below.heap_setCell _ _ _ _ hj
  have hs : w'.heap.size = w1.heap.size := by rw [e]; simp [World.setCell]
  refine ⟨h.ok, h0.inv, ⟨a, ?_, h2.off (by omega) fun i hi _ => hl i fun e => h.out.1 (e ▸ hi)⟩, (hl g' (Ne.symm hne)).trans hr, h.drs.of_block (hl dm (Ne.symm n2)), ⟨h0.out.1, fun ht => ?_, h0.out.2.2⟩, fun i hi => by rw [hs]; exact h.old i hi⟩
  · rw [e]; exact blk_put _ h1
  · have := h0.old g' ht; omega
theorem many_at {fs : List Fr} {dr : List Bool} {give : Bool} {l : List PM.Sl} {ts tk : List Fr} {k : Nat} {s : PM.Sl} (hx : l[k]? = some s) (h : PM.many fs dr give (l.take k) ts = (0, tk)) :
    ((PM.one fs dr give s tk).1 ≠ 0 → PM.whole fs dr give l ts = ((PM.one fs dr give s tk).1, ts)) ∧ ((PM.one fs dr give s tk).1 = 0 → PM.many fs dr give (l.take (k + 1)) ts = (0, (PM.one fs dr give s tk).2)) := by
  constructor
  · intro h0
    have hl : l = l.take k ++ s :: l.drop (k + 1) := by
      have hk := (List.getElem?_eq_some_iff.1 hx)
      obtain ⟨hk, rfl⟩ := hk
      rw [← List.drop_eq_getElem_cons hk, List.take_append_drop]
    have e : (PM.many fs dr give l ts).1 = (PM.one fs dr give s tk).1 := by
      rw [hl, PM.many_split h, PM.many_first h0]
    unfold PM.whole
    rw [if_neg (by rw [e]; exact h0), e]
  · intro h0
    rw [take_next hx, PM.many_split h]
    rw [PM.many_cons (ts1 := (PM.one fs dr give s tk).2) (Prod.ext h0 rfl)]
    rfl
set_option maxRecDepth 100000 in
set_option maxHeartbeats 2000000 in
theorem each_any {T : Nat → Prop} (give : Bool) (p g dm bx : Nat) (fs ts : List Fr) (dr : List Bool) (A : Option Addr) (cap : Nat) (l : List PM.Sl) (w : World) (h : PoolAt w T p g dm fs ts dr) (hbx : w.cell? ⟨bx, 0, none⟩ = some (.pointer (some ⟨p, 0, none⟩))) (hbg : bx ≠ g)
    (hs : ∀ s ∈ l, SlOk s) (hl : Slots w w.heap.size A l) (hA : l ≠ [] → Off A (· = g)) (hn : l.length ≤ maxLen) :
    Calls Tryz.prog 137 #[.pointer (some ⟨p, 0, none⟩), .slice A l.length cap, clV give bx] w fun e w' =>
      e = .returned (.int .i64 (PM.whole fs dr give l ts).1) ∧ ∃ g', PoolAt w' T p g' dm fs (PM.whole fs dr give l ts).2 dr ∧ Foot (fun i => i = p ∨ i = g) w w' ∧ (g' = g ∨ w.heap.size ≤ g') := by
  obtain ⟨R, hR⟩ : ∃ R, R = PM.whole fs dr give l ts := ⟨_, rfl⟩
  rw [← hR]
  have HP := Lib.hid h
  have hC := copied_any g (PM.free fs ts) w h.row (by rw [PM.free_len h.inv]; exact h.ok.pos) (by rw [PM.free_len h.inv]; exact h.ok.few)
  rw [PM.free_len h.inv] at hC
  have hC := Lib.hid hC
  obtain ⟨a, h1, _⟩ := h.blk
  have c1 : w.cell? ⟨p, 1, none⟩ = some (.slice (some ⟨g, 0, none⟩) fs.length fs.length) := cell_blk (i := 1) h1 rfl
  obtain ⟨l1, l2, l3⟩ := h.lt
  obtain ⟨n1, n2, n3⟩ := h.ne
  have hbl := lt_of_cell hbx
  obtain ⟨n, hln⟩ : ∃ n, l.length = n := ⟨_, rfl⟩
  have hone := Lib.hid (fun (tk : List Fr) (s : PM.Sl) (W : World) (hW : PoolAt W T p g dm fs tk dr) (hb : W.cell? ⟨bx, 0, none⟩ = some (.pointer (some ⟨p, 0, none⟩))) (hs : SlOk s) => one_any give p g dm bx fs tk dr s W hW hb hs)
  have H := Lib.hid (And.intro hR (And.intro hbx (And.intro hs (And.intro hl (And.intro hA hln)))))
  rw [hln] at hn ⊢
  unfold maxLen at hn
  clear hR h hbx hs hl hA hln h1
  obtain ⟨K, hK⟩ : ∃ K, K = clV give bx := ⟨_, rfl⟩
  rw [← hK] at hone ⊢
  clear hK
  go_enter Tryz.func137, Tryz.ntmps137
  go_wp2_with (go_at_call 99; refine hC.out.mono ?_; rintro e w1 ⟨rfl, hr1, hb1⟩)
  have HR1 := Lib.hid hr1
  have HB1 := Lib.hid hb1
  have hs1 : w.heap.size < w1.heap.size := blk_lt hr1
  clear hr1 hb1 c1
  go_loopw [18] (fun i wr => ∃ k : Nat, i = .int .i64 k ∧ k ≤ n ∧ w1.heap.size ≤ wr.heap.size ∧ Hid (Foot (· = g) w1 wr ∧ ∃ tk, PoolAt wr T p g dm fs tk dr ∧ PM.many fs dr give (l.take k) ts = (0, tk))) (fun i _ => n - (intOf i).toNat)
  case atStart => exact ⟨0, rfl, by omega, Nat.le_refl _, Lib.hid ⟨Foot.refl _ _, ts, HP.out.keep HB1.out, rfl⟩⟩
  case round =>
    obtain ⟨k, rfl, hk, hsz, hin⟩ := hrel
    obtain ⟨hft, tk, hpk, hmk⟩ := hin.out
    by_cases hlt : k < n
    · obtain ⟨hR, hbx, hs, hl, hA, hln⟩ := H.out
      obtain ⟨s, hx⟩ := get_lt (l := l) (k := k) (by rw [hln]; exact hlt)
      obtain ⟨b, off, rfl, hb, hc⟩ := hl.at_ hx
      have hbg2 : b ≠ g := hA (by rintro rfl; simp at hx) b off rfl
      have hbk : wr.heap[b]? = w.heap[b]? := (hft.block b (by omega) hbg2).trans (HB1.out.block b hb)
      obtain ⟨s0, s1, s2, s3⟩ := (hc k s hx).of hbk
      have hbx2 : wr.cell? ⟨bx, 0, none⟩ = some (.pointer (some ⟨p, 0, none⟩)) := (World.cell?_of_block ((hft.block bx (by omega) hbg).trans (HB1.out.block bx hbl))).trans hbx
      have hso := hs s (List.mem_of_getElem? hx)
      have t0 : decide (k < n) = true := by simpa using hlt
      have hB2 := Lib.hid ((Below.refl wr.heap.size wr).alloc (Nat.le_refl _) (.cells #[.int .i64 s.n, .int .i64 s.d, .int .u64 (s.m : Nat), .int .i64 s.c] 41))
      have hO := Lib.hid (hone.out tk s _ (hpk.keep hB2.out) ((hB2.out.cell (p := ⟨bx, 0, none⟩) (by show bx < _; omega)).trans hbx2) hso)
      have HA := Lib.hid (many_at hx hmk)
      obtain ⟨E, hE⟩ : ∃ E, E = PM.one fs dr give s tk := ⟨_, rfl⟩
      rw [← hE] at hO HA
      have HF := Lib.hid hft
      clear hR hbx hs hl hA hln hx hc hbk hbx2 hso hpk hmk hE hin hft
      obtain ⟨x, y, m, c⟩ := s
      simp only [slV] at *
      by_cases he : E.1 = 0
      · have t1 : (E.1 != 0) = false := by rw [he]; rfl
        have HE := Lib.hid he
        clear he
        go_wp2_with (go_at_call 167; refine hO.out.mono ?_; rintro e w2 ⟨rfl, hp2, hf2⟩)
        have hs2 := hf2.size
        simp at hs2
        go_roundw
        case rel => exact ⟨k + 1, by go_num, by omega, by omega, Lib.hid ⟨(HF.out.alloc _).trans hf2 (fun i hi => .inl hi), E.2, hp2, HA.out.2 HE.out⟩⟩
        case measure => simp [intOf]; omega
      · have t1 : (E.1 != 0) = true := by simpa using he
        have HE := Lib.hid he
        clear he
        go_wp2_with (go_at_call 167; refine hO.out.mono ?_; rintro e w2 ⟨rfl, hp2, hf2⟩; have HP2 := Lib.hid hp2; obtain ⟨a2, hq1, _⟩ := hp2.blk; have z1 : w2.frozen? ⟨p, 1, none⟩ = false := frozen_blk hq1; have z2 : w2.cell? ⟨p, 1, none⟩ = some (.slice (some ⟨g, 0, none⟩) fs.length fs.length) := cell_blk (i := 1) hq1 rfl; have HF2 := Lib.hid hf2; clear hp2 hq1 hf2)
        go_ret
        have eR : R = (E.1, ts) := by rw [H.out.1]; exact HA.out.1 HE.out
        subst eR
        have hrow : w2.heap[w.heap.size]? = some (rowBlk (PM.free fs ts)) := by
          refine (HF2.out.block _ (by simp; omega) (by omega)).trans ?_
          refine (Below.heap_alloc wr _ _ (by omega)).trans ?_
          exact (HF.out.block _ hs1 (by omega)).trans HR1.out
        refine ⟨rfl, w.heap.size, HP.out.laid HP2.out (Nat.le_refl _) hrow rfl (by omega), ?_, .inr (Nat.le_refl _)⟩
        have hf3 : Foot (fun i => i = p ∨ i = g) w w2 := ((Foot.of_below HB1.out).trans ((HF.out.alloc _).trans HF2.out (fun i hi => .inl hi)) (fun i hi => .inl hi)).mono (fun i hi => .inr hi)
        exact hf3.setCell (p := ⟨p, 1, none⟩) (.inl (.inl rfl)) _
    · obtain rfl : k = n := by omega
      obtain ⟨hR, hbx, hs, hl, hA, hln⟩ := H.out
      rw [← hln, List.take_length] at hmk
      have e : R = (0, tk) := by rw [hR]; exact PM.whole_of_many hmk
      subst e
      have HF := Lib.hid (And.intro hft hpk)
      clear hR hbx hs hl hA hln hmk hpk hft hin hlt
      go_wp2
      go_ret
      exact ⟨rfl, g, HF.out.2, ((Foot.of_below HB1.out).trans HF.out.1 (fun i hi => .inl hi)).mono (fun i hi => .inr hi), .inl rfl⟩
set_option maxHeartbeats 1000000 in
theorem take_any {T : Nat → Prop} (p g dm : Nat) (fs ts : List Fr) (dr : List Bool) (A : Option Addr) (cap : Nat) (l : List PM.Sl) (w : World) (h : PoolAt w T p g dm fs ts dr)
    (hs : ∀ s ∈ l, SlOk s) (hl : Slots w w.heap.size A l) (hA : l ≠ [] → Off A (· = g)) (hn : l.length ≤ maxLen) :
    Calls Tryz.prog 108 #[.pointer (some ⟨p, 0, none⟩), .slice A l.length cap] w fun e w' =>
      e = .returned (.int .i64 (PM.whole fs dr false l ts).1) ∧ ∃ g', PoolAt w' T p g' dm fs (PM.whole fs dr false l ts).2 dr ∧ Foot (fun i => i = p ∨ i = g) w w' ∧ (g' = g ∨ w.heap.size ≤ g') := by
  have hB := (Below.refl w.heap.size w).alloc (Nat.le_refl _) (.cells #[.pointer (some ⟨p, 0, none⟩)] 79)
  have hE := Lib.hid (each_any false p g dm w.heap.size fs ts dr A cap l _ (h.keep hB) (cell_blk (i := 0) (heap_alloc_new w _) rfl) (Nat.ne_of_gt h.lt.2.1) hs (Slots.keep hl hB (by simp)) hA hn)
  have HB := Lib.hid hB
  obtain ⟨R, hR⟩ : ∃ R, R = PM.whole fs dr false l ts := ⟨_, rfl⟩
  rw [← hR] at hE ⊢
  simp only [clV, clN, Bool.false_eq_true, if_false] at hE
  have hmf : ∀ (fn : Fn) (first cap : Array Value) (w : World), (Instr.makeFunc fn first cap).run Tryz.prog w = .ok (.func fn first cap) w := fun _ _ _ _ => rfl
  clear hR h hs hl hA hn hB
  go_enter Tryz.func108, Tryz.ntmps108
  go_wp2_with (go_at_call 137; refine hE.out.mono ?_; rintro e w1 ⟨rfl, g', hp1, hf1, hg1⟩)
  go_ret
  refine ⟨rfl, g', hp1, (Foot.of_below HB.out).trans hf1 (fun i hi => .inl hi), ?_⟩
  simp at hg1
  omega
set_option maxHeartbeats 1000000 in
theorem give_any {T : Nat → Prop} (p g dm : Nat) (fs ts : List Fr) (dr : List Bool) (A : Option Addr) (cap : Nat) (l : List PM.Sl) (w : World) (h : PoolAt w T p g dm fs ts dr)
    (hs : ∀ s ∈ l, SlOk s) (hl : Slots w w.heap.size A l) (hA : l ≠ [] → Off A (· = g)) (hn : l.length ≤ maxLen) :
    Calls Tryz.prog 111 #[.pointer (some ⟨p, 0, none⟩), .slice A l.length cap] w fun e w' =>
      e = .returned (.int .i64 (PM.whole fs dr true l ts).1) ∧ ∃ g', PoolAt w' T p g' dm fs (PM.whole fs dr true l ts).2 dr ∧ Foot (fun i => i = p ∨ i = g) w w' ∧ (g' = g ∨ w.heap.size ≤ g') := by
  have hB := (Below.refl w.heap.size w).alloc (Nat.le_refl _) (.cells #[.pointer (some ⟨p, 0, none⟩)] 79)
  have hE := Lib.hid (each_any true p g dm w.heap.size fs ts dr A cap l _ (h.keep hB) (cell_blk (i := 0) (heap_alloc_new w _) rfl) (Nat.ne_of_gt h.lt.2.1) hs (Slots.keep hl hB (by simp)) hA hn)
  have HB := Lib.hid hB
  obtain ⟨R, hR⟩ : ∃ R, R = PM.whole fs dr true l ts := ⟨_, rfl⟩
  rw [← hR] at hE ⊢
  simp only [clV, clN, if_true] at hE
  have hmf : ∀ (fn : Fn) (first cap : Array Value) (w : World), (Instr.makeFunc fn first cap).run Tryz.prog w = .ok (.func fn first cap) w := fun _ _ _ _ => rfl
  clear hR h hs hl hA hn hB
  go_enter Tryz.func111, Tryz.ntmps111
  go_wp2_with (go_at_call 137; refine hE.out.mono ?_; rintro e w1 ⟨rfl, g', hp1, hf1, hg1⟩)
  go_ret
  refine ⟨rfl, g', hp1, (Foot.of_below HB.out).trans hf1 (fun i hi => .inl hi), ?_⟩
  simp at hg1
  omega
end Go.Proofs.YtkhbbfpajiimaaaGreat
