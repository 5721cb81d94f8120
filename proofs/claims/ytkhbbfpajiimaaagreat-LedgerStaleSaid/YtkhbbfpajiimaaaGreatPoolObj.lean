/- A pool in memory: its blocks; what it tells of its nodes and of what is free: Drained, has, copied, Free, Drain, Undrain. -/
import Derived.Deep.QuietTactic
import Derived.BigQuiet
import Derived.Laws.CopyOwn
import Derived.Test.YtkhbbfpajiimaaaGreatPoolMem
namespace Go.Proofs.YtkhbbfpajiimaaaGreat
open Go.RowKit

/-- The spots of a cluster that may be, of so many nodes. -/
structure FsOk (fs : List Fr) (k : Nat) : Prop where
  pos : 0 < fs.length
  few : fs.length ≤ 1000
  dup : (fs.map spOf).Nodup
  ok : ∀ f ∈ fs, f.m < 18446744073709551616 ∧ f.c ≤ 1024
  node : ∀ f ∈ fs, f.n < k
  nodes : k ≤ 1000
def poolBlk (a g dm n : Nat) : Obj := .cells #[.pointer (some ⟨a, 0, none⟩), .slice (some ⟨g, 0, none⟩) n n, .map (some dm)] 150 (0, 0)
def rowBlk (l : List Fr) : Obj := .cells (l.flatMap frC).toArray 130 (0, 0)
/-- A topology in memory, whose blocks are of T. -/
def TopoIn (w : World) (T : Nat → Prop) (a k : Nat) (l : List Fr) : Prop :=
  ∃ m A c, w.heap[a]? = some (.cells #[.int .i64 (k : Nat), .slice A l.length c, .map (some m)] 181 (0, 0)) ∧ Frees w w.heap.size A l ∧ MapAt w m (l.map spOf) ∧ T a ∧ T m ∧ ∀ b off, A = some ⟨b, off, none⟩ → T b
theorem TopoIn.at_ {w : World} {T : Nat → Prop} {a k : Nat} {l : List Fr} (h : TopoIn w T a k l) : TopoAt w a k l := by
  obtain ⟨m, A, c, h1, h2, h3, _⟩ := h
  exact ⟨m, A, c, h1, h2, h3⟩
theorem FrAt.of {w w' : World} {b o : Nat} {f : Fr} (h : FrAt w b o f) (e : w'.heap[b]? = w.heap[b]?) : FrAt w' b o f := by
  have hc := fun o => World.cell?_of_block (w := w) (w' := w') (a := ⟨b, o, none⟩) e
  unfold FrAt at h ⊢
  rw [hc, hc, hc, hc]; exact h
/-- A row of what is free stays, where its block does. -/
theorem Frees.off {w w' : World} {A : Option Addr} {l : List Fr} (h : Frees w w.heap.size A l) (hs : w.heap.size ≤ w'.heap.size) (hk : ∀ b off, A = some ⟨b, off, none⟩ → b < w.heap.size → w'.heap[b]? = w.heap[b]?) : Frees w' w'.heap.size A l := by
  rcases h with h | ⟨b, off, rfl, hb, hc⟩
  · exact .inl h
  · exact .inr ⟨b, off, rfl, by omega, fun i x hx => (hc i x hx).of (hk b off rfl hb)⟩
theorem TopoIn.off {w w' : World} {T : Nat → Prop} {a k : Nat} {l : List Fr} (h : TopoIn w T a k l) (hs : w.heap.size ≤ w'.heap.size) (hk : ∀ i, T i → i < w.heap.size → w'.heap[i]? = w.heap[i]?) : TopoIn w' T a k l := by
  obtain ⟨m, A, c, h1, h2, h3, h4, h5, h6⟩ := h
  exact ⟨m, A, c, (hk a h4 (blk_lt h1)).trans h1, h2.off hs fun b off e hb => hk b (h6 b off e) hb, h3.of_block (hk m h5 h3.lt), h4, h5, h6⟩
/-- A pool: block p, its row of what is free (g), its map of drained nodes (dm); its topology's blocks are of T. -/
structure PoolAt (w : World) (T : Nat → Prop) (p g dm : Nat) (fs ts : List Fr) (dr : List Bool) : Prop where
  ok : FsOk fs dr.length
  inv : PM.Inv fs ts
  blk : ∃ a, w.heap[p]? = some (poolBlk a g dm fs.length) ∧ TopoIn w T a dr.length fs
  row : w.heap[g]? = some (rowBlk (PM.free fs ts))
  drs : Drs w dm dr
  out : ¬ T p ∧ ¬ T g ∧ ¬ T dm
  old : ∀ i, T i → i < w.heap.size
section
variable {w w' : World} {T : Nat → Prop} {p g dm : Nat} {fs ts : List Fr} {dr : List Bool}
theorem PoolAt.lt (h : PoolAt w T p g dm fs ts dr) : p < w.heap.size ∧ g < w.heap.size ∧ dm < w.heap.size := by
  obtain ⟨a, h1, _⟩ := h.blk
  exact ⟨blk_lt h1, blk_lt h.row, h.drs.lt⟩
theorem PoolAt.ne (h : PoolAt w T p g dm fs ts dr) : p ≠ g ∧ p ≠ dm ∧ g ≠ dm := by
  obtain ⟨a, h1, _⟩ := h.blk
  have h2 := h.row
  obtain ⟨D, ⟨es, clock, h3, _⟩, _⟩ := h.drs
  refine ⟨fun e => ?_, fun e => ?_, fun e => ?_⟩
  · subst e; rw [h1] at h2; injection h2 with h2; injection h2 with _ ht; exact absurd ht (by decide)
  · subst e; rw [h1] at h3; cases h3
  · subst e; rw [h2] at h3; cases h3
/-- A pool stays, where its blocks do. -/
theorem PoolAt.off (h : PoolAt w T p g dm fs ts dr) (hs : w.heap.size ≤ w'.heap.size) (hk : ∀ i, i < w.heap.size → (T i ∨ i = p ∨ i = g ∨ i = dm) → w'.heap[i]? = w.heap[i]?) : PoolAt w' T p g dm fs ts dr := by
  obtain ⟨l1, l2, l3⟩ := h.lt
  obtain ⟨a, h1, h2⟩ := h.blk
  exact ⟨h.ok, h.inv, ⟨a, (hk p l1 (.inr (.inl rfl))).trans h1, h2.off hs fun i hi hl => hk i hl (.inl hi)⟩, (hk g l2 (.inr (.inr (.inl rfl)))).trans h.row, h.drs.of_block (hk dm l3 (.inr (.inr (.inr rfl)))), h.out, fun i hi => Nat.lt_of_lt_of_le (h.old i hi) hs⟩
theorem PoolAt.foot {F : Nat → Prop} (h : PoolAt w T p g dm fs ts dr) (hk : Foot F w w') (hF : ∀ i, F i → ¬ T i ∧ i ≠ p ∧ i ≠ g ∧ i ≠ dm) : PoolAt w' T p g dm fs ts dr :=
  h.off hk.size fun i hi ht => hk.block i hi fun hf => by
    obtain ⟨a, b, c, d⟩ := hF i hf
    rcases ht with e | e | e | e
    · exact a e
    · exact b e
    · exact c e
    · exact d e
theorem PoolAt.keep (h : PoolAt w T p g dm fs ts dr) (hk : Below w.heap.size w w') : PoolAt w' T p g dm fs ts dr := h.off hk.size fun i hi _ => hk.block i hi
end
theorem info_fr : (Tryz.prog.info? 130).map (fun i => (i.zero, i.size, i.bytes)) = some (some (.agg #[.int .i64 0, .int .i64 0, .int .u64 0, .int .i64 0]), 4, 32) := by kernel_rfl

theorem drained_any {T : Nat → Prop} (p g dm : Nat) (fs ts : List Fr) (dr : List Bool) (x : Int) (w : World) (h : PoolAt w T p g dm fs ts dr) (hx : (Lit.int .i64 x).wf = true) :
    Calls Tryz.prog 97 #[.pointer (some ⟨p, 0, none⟩), .int .i64 x] w fun e w' => e = .returned (.bool (isDr dr x)) ∧ w = w' := by
  have hl := h.drs.look hx
  obtain ⟨a, h1, _⟩ := h.blk
  have c2 : w.cell? ⟨p, 2, none⟩ = some (.map (some dm)) := cell_blk (i := 2) h1 rfl
  clear h h1 hx
  go_enter Tryz.func97, Tryz.ntmps97
  go_wp2
  go_ret
  exact ⟨rfl, rfl⟩
set_option maxRecDepth 100000 in
set_option maxHeartbeats 1000000 in
theorem copied_any (g : Nat) (l : List Fr) (w : World) (h : w.heap[g]? = some (rowBlk l)) (h0 : 0 < l.length) (hl : l.length ≤ 1000) :
    Calls Tryz.prog 99 #[.slice (some ⟨g, 0, none⟩) l.length l.length] w fun e w' => e = .returned (.slice (some ⟨w.heap.size, 0, none⟩) l.length l.length) ∧ w'.heap[w.heap.size]? = some (rowBlk l) ∧ Below w.heap.size w w' := by
  have hcells := frees_cells (w := w) (b := g) (off := 0) (l := l) (by
    rcases blk_frees h with e | ⟨b, off, e, _, hc⟩
    · rw [e] at h0; simp at h0
    · cases e; exact hc)
  have hb := blk_lt h
  obtain ⟨i0, hi, hz0, hz1, hz2⟩ := info_parts info_fr
  obtain ⟨n, hln⟩ : ∃ n, l.length = n := ⟨_, rfl⟩
  have hfl := frC_len l
  rw [hln] at h0 hl hfl ⊢
  obtain ⟨mc, hmc⟩ : ∃ mc, mc = madeCells (.agg #[.int .i64 0, .int .i64 0, .int .u64 0, .int .i64 0] : Value).cells (n * 4) := ⟨_, rfl⟩
  have hmcs : mc.size = n * 4 := by rw [hmc, size_madeCells]
  have hmk : ∀ W : World, (Instr.makeSlice 52 (.int .i64 (n : Nat)) (.int .i64 (n : Nat))).run Tryz.prog W = .ok (.slice (some ⟨W.heap.size, 0, none⟩) n n) (W.alloc (.cells mc 130)) := fun W => by
    have := run_make (P := Tryz.prog) W 52 130 i0 _ Tryz.underlying52 hi hz0 .i64 .i64 (n : Nat) (n : Nat) (by omega) (by omega) (by rw [hz2]; omega) (by omega)
    rw [hz1] at this
    rw [hmc]
    simpa using this
  have hB1 := (Below.refl w.heap.size w).alloc (Nat.le_refl _) (.cells mc 130)
  have H := Lib.hid (And.intro hcells (And.intro hfl (And.intro hmcs (And.intro hb (And.intro (heap_alloc_new w (.cells mc 130)) (And.intro (frC_one l) hi))))))
  clear hmc hmcs h hcells hln hfl hi hz0 hz2
  go_enter Tryz.func99, Tryz.ntmps99
  go_wp2_with (with_reducible refine wpList_copy_whole rfl _ _ 52 52 rfl 130 i0 4 Tryz.underlying52 H.out.2.2.2.2.2.2 hz1 w.heap.size n n n ⟨g, 0, none⟩ rfl rfl mc 130 (l.flatMap frC) H.out.2.2.2.2.1 H.out.2.1 H.out.2.2.1 (fun j v hj => (hB1.cell (p := (⟨g, 0, none⟩ : Addr).add j) (by rw [Addr.add_lit]; exact H.out.2.2.2.1)).trans (H.out.1 j v hj)) H.out.2.2.2.2.2.1 ?_)
  go_ret
  exact ⟨rfl, setRow_heap _ _ _ _ _ _ H.out.2.2.2.2.1, below_setRow hB1 (Nat.le_refl _) _⟩
set_option maxRecDepth 100000 in
theorem free_any {T : Nat → Prop} (p g dm : Nat) (fs ts : List Fr) (dr : List Bool) (w : World) (h : PoolAt w T p g dm fs ts dr) :
    Calls Tryz.prog 58 #[.pointer (some ⟨p, 0, none⟩)] w fun e w' => e = .returned (.slice (some ⟨w.heap.size, 0, none⟩) fs.length fs.length) ∧ w'.heap[w.heap.size]? = some (rowBlk (PM.free fs ts)) ∧ Below w.heap.size w w' := by
  have hC := copied_any g (PM.free fs ts) w h.row (by rw [PM.free_len h.inv]; exact h.ok.pos) (by rw [PM.free_len h.inv]; exact h.ok.few)
  rw [PM.free_len h.inv] at hC
  have hC := Lib.hid hC
  obtain ⟨a, h1, _⟩ := h.blk
  have c1 : w.cell? ⟨p, 1, none⟩ = some (.slice (some ⟨g, 0, none⟩) fs.length fs.length) := cell_blk (i := 1) h1 rfl
  clear h h1
  go_enter Tryz.func58, Tryz.ntmps58
  go_wp2_with (go_at_call 99; refine hC.out.mono ?_; rintro e w1 ⟨rfl, hr, hb⟩)
  go_ret
  exact ⟨rfl, hr, hb⟩
theorem PoolAt.topo {w : World} {T : Nat → Prop} {p g dm : Nat} {fs ts : List Fr} {dr : List Bool} (h : PoolAt w T p g dm fs ts dr) : ∃ a, w.cell? ⟨p, 0, none⟩ = some (.pointer (some ⟨a, 0, none⟩)) ∧ TopoAt w a dr.length fs := by
  obtain ⟨a, h1, h2⟩ := h.blk
  exact ⟨a, cell_blk (i := 0) h1 rfl, h2.at_⟩
set_option maxHeartbeats 1000000 in
theorem poolhas_any {T : Nat → Prop} (p g dm : Nat) (fs ts : List Fr) (dr : List Bool) (x : Int) (w : World) (h : PoolAt w T p g dm fs ts dr) :
    Calls Tryz.prog 119 #[.pointer (some ⟨p, 0, none⟩), .int .i64 x] w fun e w' => e = .returned (.bool (decide (0 ≤ x) && decide (x < (dr.length : Int)))) ∧ w = w' := by
  obtain ⟨a, c0, hT⟩ := h.topo
  have hN := Lib.hid (nodes_any a dr.length fs w hT)
  clear h hT
  by_cases h0 : 0 ≤ x
  · have t0 : decide (0 ≤ x) = true := by simpa using h0
    rw [t0, Bool.true_and]
    go_enter Tryz.func119, Tryz.ntmps119
    go_wp2_with (go_at_call 148; refine hN.out.mono ?_; rintro e w1 ⟨rfl, rfl⟩)
    go_ret
    exact ⟨rfl, rfl⟩
  · have t0 : decide (0 ≤ x) = false := by simpa using h0
    rw [t0, Bool.false_and]
    go_enter Tryz.func119, Tryz.ntmps119
    go_wp2_with (go_at_call 148; refine hN.out.mono ?_; rintro e w1 ⟨rfl, rfl⟩)
    go_ret
    exact ⟨rfl, rfl⟩
/-- What a drain or an undrain says of a node. -/
def turn (dr : List Bool) (x : Int) (to : Bool) : Int × List Bool :=
  if x < 0 ∨ (dr.length : Int) ≤ x then (1, dr) else if isDr dr x = to then (if to = true then 4 else 3, dr) else (0, dr.set x.toNat to)
theorem PoolAt.turned {w w' : World} {T : Nat → Prop} {p g dm : Nat} {fs ts : List Fr} {dr dr' : List Bool} (h : PoolAt w T p g dm fs ts dr) (hl : dr'.length = dr.length) (hd : Drs w' dm dr') (hk : w.mapTurned w' dm) : PoolAt w' T p g dm fs ts dr' ∧ Foot (· = dm) w w' := by
  obtain ⟨l1, l2, l3⟩ := h.lt
  obtain ⟨n1, n2, n3⟩ := h.ne
  have hf : Foot (· = dm) w w' := (Foot.refl _ w).grown hk.grown fun k e => .inl (by injection e with e; exact e.symm)
  obtain ⟨a, h1, h2⟩ := h.blk
  exact ⟨⟨by rw [hl]; exact h.ok, h.inv, ⟨a, (hf.block p l1 n2).trans h1, by rw [hl]; exact h2.off hf.size fun i hi hlt => hf.block i hlt fun e => h.out.2.2 (e ▸ hi)⟩, (hf.block g l2 n3).trans h.row, hd, h.out, fun i hi => Nat.lt_of_lt_of_le (h.old i hi) hf.size⟩, hf⟩
end Go.Proofs.YtkhbbfpajiimaaaGreat
