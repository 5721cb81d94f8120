/- A pool in memory: its blocks, its map of drained nodes, what keeps it. -/
/- A pool in memory: its blocks; what it tells of its nodes and of what is free: Drained, has, copied, Free, Drain, Undrain. -/
/- A pool's Drain and Undrain. -/
/- What is done to one slot: the closures of Take and Give. -/
/- A slot, taken or given back; slots, one behind the other; Take and Give. -/
/- What a pool tells: New, View, Out. -/
/- Calls and slots that come in; the laws' own few and do. -/
/- The document's example, which each law of layer 3 asks first. -/
/- What the laws of layer 3 share: Count of any row, View as a row. -/
import Derived.Maps.OwnSet
import Derived.Test.YtgpfmlidchogcaaGreatTopoZ
import Derived.Test.YtgpfmlidchogcaaGreatPoolMathZ
import Derived.Test.YtgpfmlidchogcaaGreatKitZ
import Derived.Deep.QuietTactic
import Derived.BigQuiet
import Derived.Laws.CopyOwn
import Derived.StillTactics
import Derived.StillTailTactics
import Derived.Deep.DrawnRows
import Derived.Deep.RegionHeld3
import Derived.OpenShut
import Derived.Test.YtgpfmlidchogcaaGreatReads
import Derived.Laws.StructEq
import Derived.Test.YtgpfmlidchogcaaGreatTopoRefZ
namespace Go.Proofs.YtgpfmlidchogcaaGreat
open Go.RowKit

/-! ### Drained nodes: a map -/
def isDr (dr : List Bool) (x : Int) : Bool := decide (0 ≤ x) && (dr[x.toNat]?.getD false)
theorem isDr_nat (dr : List Bool) (k : Nat) : isDr dr (k : Int) = (dr[k]?.getD false) := by simp [isDr]
theorem isDr_iff (dr : List Bool) (k : Nat) : isDr dr (k : Int) = true ↔ dr[k]? = some true := by
 rw [isDr_nat]; cases h : dr[k]? with
 | none => simp
 | some b => cases b <;> simp
theorem isDr_set (dr : List Bool) (k : Nat) (b : Bool) (hk : k < dr.length) (x : Int) : isDr (dr.set k b) x = if x = (k : Int) then b else isDr dr x := by
 unfold isDr
 by_cases h0 : 0 ≤ x
 ·obtain ⟨n, rfl⟩ := Int.eq_ofNat_of_zero_le h0
  simp only [Int.toNat_natCast]
  by_cases e : k = n
  ·subst e; simp [hk]
  ·rw [List.getElem?_set_ne e, if_neg (by omega)]
 ·rw [if_neg (by omega)]; simp [h0]
abbrev dWorld (w : World) (m n : Nat) (D : DataW Unit) : Prop := w.ownsMap Tryz.prog 3 (plainElem Tryz.prog 4) m n D
def Drs (w : World) (m : Nat) (dr : List Bool) : Prop :=
 ∃ D : DataW Unit, dWorld w m (dr.count true) D ∧ Maps.size D = dr.count true ∧ ∀ x : Int, (Lit.int .i64 x).wf = true → D.atKey (.int .i64 x) (.lit (.bool false)) = .lit (.bool (isDr dr x)) ∧ Maps.has D (.int .i64 x) = isDr dr x
theorem intKeys : Maps.Keyed Tryz.prog 3 := Maps.int_keyed Tryz.underlying3
theorem drType : Tryz.prog.underlying 133 = some (.map 3 4) := Tryz.underlying133
theorem intKey {x : Int} (h : (Lit.int .i64 x).wf = true) : keyOf Tryz.prog 3 (.int .i64 x) = some (.int .i64 x) := Maps.keyOf_int_mk Tryz.underlying3 h
theorem boolElem (b : Bool) : plainElem (H := Unit) Tryz.prog 4 (.bool b) = some (.lit (.bool b), []) := plainElem_bool Tryz.underlying4 b
set_option maxRecDepth 100000 in
theorem boolElem_inv {v : Value} {b : Bool} {ps : List MemPlace} (h : plainElem (H := Unit) Tryz.prog 4 v = some (.lit (.bool b), ps)) : v = .bool b := by
 unfold plainElem at h
 rw [Tryz.underlying4] at h
 cases v <;> simp at h
 rw [h.1]
theorem zeroBool (w : World) : (zeroValue 4).run Tryz.prog w = .ok (.bool false) w := by kernel_rfl
theorem Drs.lt {w : World} {m : Nat} {dr : List Bool} (h : Drs w m dr) : m < w.heap.size := by
 obtain ⟨D, h1, _⟩ := h
 exact h1.lt
theorem Drs.of_block {w w' : World} {m : Nat} {dr : List Bool} (h : Drs w m dr) (e : w'.heap[m]? = w.heap[m]?) : Drs w' m dr := by
 obtain ⟨D, ⟨es, clock, hb, r⟩, h2⟩ := h
 exact ⟨D, ⟨es, clock, e.trans hb, r⟩, h2⟩
theorem Drs.new (w : World) (k : Nat) : Drs (w.alloc (.map #[] 0)) w.heap.size (List.replicate k false) := by
 have e : (List.replicate k false).count true = 0 := by rw [List.count_replicate]; simp
 refine ⟨_, by rw [e]; exact World.ownsMap_made w _ _ _, by rw [e]; rfl, fun x _ => ?_⟩
 have e2 : isDr (List.replicate k false) x = false := by
  unfold isDr
  cases h : (List.replicate k false)[x.toNat]? with
  | none => simp
  | some b => have := List.mem_of_getElem? h; simp at this; simp [this.2]
 rw [e2]
 exact ⟨rfl, rfl⟩
theorem Drs.look {w : World} {m : Nat} {dr : List Bool} (h : Drs w m dr) {x : Int} (hx : (Lit.int .i64 x).wf = true) :
  (Instr.lookup 133 (.map (some m)) (.int .i64 x) false).run Tryz.prog w = .ok (.bool (isDr dr x)) w := by
 obtain ⟨D, h1, h2, h3⟩ := h
 obtain ⟨v, ps, hrun, hv⟩ := h1.lookup intKeys drType (zeroBool w) (boolElem false) (intKey hx)
 rw [(h3 x hx).1] at hv
 rw [boolElem_inv hv] at hrun
 exact hrun
theorem count_set {dr : List Bool} {k : Nat} {a b : Bool} (h : dr[k]? = some a) : (dr.set k b).count true + (if a = true then 1 else 0) = dr.count true + (if b = true then 1 else 0) := by
 induction dr generalizing k with
 | nil => simp at h
 | cons c l ih =>
  cases k with
  | zero => simp at h; subst h; cases c <;> cases b <;> simp
  | succ k => have := ih (k := k) (by simpa using h); simp [List.count_cons]; omega
theorem isKeyInt {x : Int} (_ : (Lit.int .i64 x).wf = true) : WideAt.IsKeyLit (.int .i64 x) := trivial
theorem Drs.store {w : World} {m k : Nat} {dr : List Bool} (h : Drs w m dr) (hk : dr[k]? = some false) (hl : dr.length ≤ 1000) :
  ∃ w', (Instr.mapUpdate 133 (.map (some m)) (.int .i64 (k : Nat)) (.bool true)).run Tryz.prog w = .ok () w' ∧ Drs w' m (dr.set k true) ∧ w.mapTurned w' m := by
 obtain ⟨D, h1, h2, h3⟩ := h
 have hkl : k < dr.length := (List.getElem?_eq_some_iff.1 hk).1
 have hw : (Lit.int .i64 (k : Int)).wf = true := wf_nat (by omega)
 have hct : dr.count true ≤ dr.length := List.count_le_length
 obtain ⟨w', hrun, r1, r2⟩ := h1.store intKeys drType (by unfold maxLen; omega) (intKey hw) (boolElem true)
 have hc := count_set (b := true) hk
 simp at hc
 have hno : Maps.has D (.int .i64 (k : Int)) = false := by rw [(h3 _ hw).2, isDr_nat, hk]; rfl
 refine ⟨w', hrun, ⟨_, by rw [hc]; exact r1, by rw [Maps.size_put (h1.tidy intKeys), hno, hc, h2]; rfl, fun x hx => ?_⟩, r2⟩
 rw [isDr_set _ _ _ hkl]
 by_cases e : x = (k : Int)
 ·subst e
  rw [if_pos rfl]
  exact ⟨Maps.atKey_put_same h1.isMap (isKeyInt hw) _ _, Maps.has_put_same h1.isMap (isKeyInt hw) _⟩
 ·rw [if_neg e]
  have ne : (Lit.int .i64 x) ≠ .int .i64 (k : Int) := fun h => e (by injection h)
  rw [Maps.atKey_put_other ne, Maps.has_put_other ne]
  exact h3 x hx
theorem Drs.drop {w : World} {m k : Nat} {dr : List Bool} (h : Drs w m dr) (hk : dr[k]? = some true) (hl : dr.length ≤ 1000) (ty : TypeId) :
  ∃ w', (Builtin.delete_ #[133, 3] ty #[.map (some m), .int .i64 (k : Nat)]).run Tryz.prog w = .ok (.tuple #[]) w' ∧ Drs w' m (dr.set k false) ∧ w.mapTurned w' m := by
 obtain ⟨D, h1, h2, h3⟩ := h
 have hkl : k < dr.length := (List.getElem?_eq_some_iff.1 hk).1
 have hw : (Lit.int .i64 (k : Int)).wf = true := wf_nat (by omega)
 obtain ⟨w', hrun, r1, r2⟩ := h1.drop intKeys drType (intKey hw) ty
 have hc := count_set (b := false) hk
 simp at hc
 have hyes : Maps.has D (.int .i64 (k : Int)) = true := by rw [(h3 _ hw).2, isDr_nat, hk]; rfl
 have hsz := Maps.size_del (h1.tidy intKeys) (k := .int .i64 (k : Int))
 rw [hyes] at hsz
 simp at hsz
 have hsz' : Maps.size (D.del (.int .i64 (k : Int))) = (dr.set k false).count true := by omega
 obtain ⟨es, clock, e1, e2, e3, e4⟩ := r1
 refine ⟨w', hrun, ⟨_, ⟨es, clock, e1, e2, ?_, e4⟩, hsz', fun x hx => ?_⟩, r2⟩
 ·rw [e4] at hsz'
  simp [Maps.size, length_sorted] at hsz'
  omega
 rw [isDr_set _ _ _ hkl]
 by_cases e : x = (k : Int)
 ·subst e
  rw [if_pos rfl]
  exact ⟨Maps.atKey_del_same _, Maps.has_del_same⟩
 ·rw [if_neg e]
  have ne : (Lit.int .i64 x) ≠ .int .i64 (k : Int) := fun h => e (by injection h)
  rw [Maps.atKey_del_other ne, Maps.has_del_other ne]
  exact h3 x hx
end Go.Proofs.YtgpfmlidchogcaaGreat

namespace Go.Proofs.YtgpfmlidchogcaaGreat
open Go.RowKit

structure FsOk (fs : List Fr) (k : Nat) : Prop where
 pos : 0 < fs.length
 few : fs.length ≤ 1000
 dup : (fs.map spOf).Nodup
 ok : ∀ f ∈ fs, f.m < 18446744073709551616 ∧ f.c ≤ 1024
 node : ∀ f ∈ fs, f.n < k
 nodes : k ≤ 1000
def poolBlk (a g dm n : Nat) : Obj := .cells #[.pointer (some ⟨a, 0, none⟩), .slice (some ⟨g, 0, none⟩) n n, .map (some dm)] 135 (0, 0)
def rowBlk (l : List Fr) : Obj := .cells (l.flatMap frC).toArray 144 (0, 0)
def TopoIn (w : World) (T : Nat → Prop) (a k : Nat) (l : List Fr) : Prop :=
 ∃ m A c, w.heap[a]? = some (.cells #[.int .i64 (k : Nat), .slice A l.length c, .map (some m)] 171 (0, 0)) ∧ Frees w w.heap.size A l ∧ MapAt w m (l.map spOf) ∧ T a ∧ T m ∧ ∀ b off, A = some ⟨b, off, none⟩ → T b
theorem TopoIn.at_ {w : World} {T : Nat → Prop} {a k : Nat} {l : List Fr} (h : TopoIn w T a k l) : TopoAt w a k l := by
 obtain ⟨m, A, c, h1, h2, h3, _⟩ := h
 exact ⟨m, A, c, h1, h2, h3⟩
theorem FrAt.of {w w' : World} {b o : Nat} {f : Fr} (h : FrAt w b o f) (e : w'.heap[b]? = w.heap[b]?) : FrAt w' b o f := by
 have hc := fun o => World.cell?_of_block (w := w) (w' := w') (a := ⟨b, o, none⟩) e
 unfold FrAt at h ⊢
 rw [hc, hc, hc, hc]; exact h
theorem Frees.off {w w' : World} {A : Option Addr} {l : List Fr} (h : Frees w w.heap.size A l) (hs : w.heap.size ≤ w'.heap.size) (hk : ∀ b off, A = some ⟨b, off, none⟩ → b < w.heap.size → w'.heap[b]? = w.heap[b]?) : Frees w' w'.heap.size A l := by
 rcases h with h | ⟨b, off, rfl, hb, hc⟩
 ·exact .inl h
 ·exact .inr ⟨b, off, rfl, by omega, fun i x hx => (hc i x hx).of (hk b off rfl hb)⟩
theorem TopoIn.off {w w' : World} {T : Nat → Prop} {a k : Nat} {l : List Fr} (h : TopoIn w T a k l) (hs : w.heap.size ≤ w'.heap.size) (hk : ∀ i, T i → i < w.heap.size → w'.heap[i]? = w.heap[i]?) : TopoIn w' T a k l := by
 obtain ⟨m, A, c, h1, h2, h3, h4, h5, h6⟩ := h
 exact ⟨m, A, c, (hk a h4 (blk_lt h1)).trans h1, h2.off hs fun b off e hb => hk b (h6 b off e) hb, h3.of_block (hk m h5 h3.lt), h4, h5, h6⟩
structure PoolAt (w : World) (T : Nat → Prop) (p g dm : Nat) (fs ts : List Fr) (dr : List Bool) : Prop where
 ok : FsOk fs dr.length
 inv : PM.Inv fs ts
 blk : ∃ a, w.heap[p]? = some (poolBlk a g dm fs.length) ∧ TopoIn w T a dr.length fs
 row : w.heap[g]? = some (rowBlk (PM.free fs ts))
 drs : Drs w dm dr
 out : ¬ T p ∧ ¬ T g ∧ ¬ T dm
 old : ∀ i, T i → i < w.heap.size
section
variable {w w' : World} {T : Nat → Prop} {p g dm : Nat} {fs ts : List Fr} {dr : List Bool}
theorem PoolAt.lt (h : PoolAt w T p g dm fs ts dr) : p < w.heap.size ∧ g < w.heap.size ∧ dm < w.heap.size := by
 obtain ⟨a, h1, _⟩ := h.blk
 exact ⟨blk_lt h1, blk_lt h.row, h.drs.lt⟩
theorem PoolAt.ne (h : PoolAt w T p g dm fs ts dr) : p ≠ g ∧ p ≠ dm ∧ g ≠ dm := by
 obtain ⟨a, h1, _⟩ := h.blk
 have h2 := h.row
 obtain ⟨D, ⟨es, clock, h3, _⟩, _⟩ := h.drs
 refine ⟨fun e => ?_, fun e => ?_, fun e => ?_⟩
 ·subst e; rw [h1] at h2; injection h2 with h2; injection h2 with _ ht; exact absurd ht (by decide)
 ·subst e; rw [h1] at h3; cases h3
 ·subst e; rw [h2] at h3; cases h3
theorem PoolAt.off (h : PoolAt w T p g dm fs ts dr) (hs : w.heap.size ≤ w'.heap.size) (hk : ∀ i, i < w.heap.size → (T i ∨ i = p ∨ i = g ∨ i = dm) → w'.heap[i]? = w.heap[i]?) : PoolAt w' T p g dm fs ts dr := by
 obtain ⟨l1, l2, l3⟩ := h.lt
 obtain ⟨a, h1, h2⟩ := h.blk
 exact ⟨h.ok, h.inv, ⟨a, (hk p l1 (.inr (.inl rfl))).trans h1, h2.off hs fun i hi hl => hk i hl (.inl hi)⟩, (hk g l2 (.inr (.inr (.inl rfl)))).trans h.row, h.drs.of_block (hk dm l3 (.inr (.inr (.inr rfl)))), h.out, fun i hi => Nat.lt_of_lt_of_le (h.old i hi) hs⟩
theorem PoolAt.foot {F : Nat → Prop} (h : PoolAt w T p g dm fs ts dr) (hk : Foot F w w') (hF : ∀ i, F i → ¬ T i ∧ i ≠ p ∧ i ≠ g ∧ i ≠ dm) : PoolAt w' T p g dm fs ts dr :=
 h.off hk.size fun i hi ht => hk.block i hi fun hf => by
  obtain ⟨a, b, c, d⟩ := hF i hf
  rcases ht with e | e | e | e
  ·exact a e
  ·exact b e
  ·exact c e
  ·exact d e
theorem PoolAt.keep (h : PoolAt w T p g dm fs ts dr) (hk : Below w.heap.size w w') : PoolAt w' T p g dm fs ts dr := h.off hk.size fun i hi _ => hk.block i hi
end
theorem info_fr : (Tryz.prog.info? 144).map (fun i => (i.zero, i.size, i.bytes)) = some (some (.agg #[.int .i64 0, .int .i64 0, .int .u64 0, .int .i64 0]), 4, 32) := by kernel_rfl

theorem drained_any {T : Nat → Prop} (p g dm : Nat) (fs ts : List Fr) (dr : List Bool) (x : Int) (w : World) (h : PoolAt w T p g dm fs ts dr) (hx : (Lit.int .i64 x).wf = true) :
  Calls Tryz.prog 88 #[.pointer (some ⟨p, 0, none⟩), .int .i64 x] w fun e w' => e = .returned (.bool (isDr dr x)) ∧ w = w' := by
 have hl := h.drs.look hx
 obtain ⟨a, h1, _⟩ := h.blk
 have c2 : w.cell? ⟨p, 2, none⟩ = some (.map (some dm)) := cell_blk (i := 2) h1 rfl
 clear h h1 hx
 go_enter Tryz.func88, Tryz.ntmps88
 go_wp2
 go_ret
 exact ⟨rfl, rfl⟩
set_option maxRecDepth 100000 in
set_option maxHeartbeats 1000000 in
theorem copied_any (g : Nat) (l : List Fr) (w : World) (h : w.heap[g]? = some (rowBlk l)) (h0 : 0 < l.length) (hl : l.length ≤ 1000) :
  Calls Tryz.prog 115 #[.slice (some ⟨g, 0, none⟩) l.length l.length] w fun e w' => e = .returned (.slice (some ⟨w.heap.size, 0, none⟩) l.length l.length) ∧ w'.heap[w.heap.size]? = some (rowBlk l) ∧ Below w.heap.size w w' := by
 have hcells := frees_cells (w := w) (b := g) (off := 0) (l := l) (by
  rcases blk_frees h with e | ⟨b, off, e, _, hc⟩
  ·rw [e] at h0; simp at h0
  ·cases e; exact hc)
 have hb := blk_lt h
 obtain ⟨i0, hi, hz0, hz1, hz2⟩ := info_parts info_fr
 obtain ⟨n, hln⟩ : ∃ n, l.length = n := ⟨_, rfl⟩
 have hfl := frC_len l
 rw [hln] at h0 hl hfl ⊢
 obtain ⟨mc, hmc⟩ : ∃ mc, mc = madeCells (.agg #[.int .i64 0, .int .i64 0, .int .u64 0, .int .i64 0] : Value).cells (n * 4) := ⟨_, rfl⟩
 have hmcs : mc.size = n * 4 := by rw [hmc, size_madeCells]
 have hmk : ∀ W : World, (Instr.makeSlice 111 (.int .i64 (n : Nat)) (.int .i64 (n : Nat))).run Tryz.prog W = .ok (.slice (some ⟨W.heap.size, 0, none⟩) n n) (W.alloc (.cells mc 144)) := fun W => by
  have := run_make (P := Tryz.prog) W 111 144 i0 _ Tryz.underlying111 hi hz0 .i64 .i64 (n : Nat) (n : Nat) (by omega) (by omega) (by rw [hz2]; omega) (by omega)
  rw [hz1] at this
  rw [hmc]
  simpa using this
 have hB1 := (Below.refl w.heap.size w).alloc (Nat.le_refl _) (.cells mc 144)
 have H := Lib.hid (And.intro hcells (And.intro hfl (And.intro hmcs (And.intro hb (And.intro (heap_alloc_new w (.cells mc 144)) (And.intro (frC_one l) hi))))))
 clear hmc hmcs h hcells hln hfl hi hz0 hz2
 go_enter Tryz.func115, Tryz.ntmps115
 go_wp2_with (with_reducible refine wpList_copy_whole rfl _ _ 111 111 rfl 144 i0 4 Tryz.underlying111 H.out.2.2.2.2.2.2 hz1 w.heap.size n n n ⟨g, 0, none⟩ rfl rfl mc 144 (l.flatMap frC) H.out.2.2.2.2.1 H.out.2.1 H.out.2.2.1 (fun j v hj => (hB1.cell (p := (⟨g, 0, none⟩ : Addr).add j) (by rw [Addr.add_lit]; exact H.out.2.2.2.1)).trans (H.out.1 j v hj)) H.out.2.2.2.2.2.1 ?_)
 go_ret
 exact ⟨rfl, setRow_heap _ _ _ _ _ _ H.out.2.2.2.2.1, below_setRow hB1 (Nat.le_refl _) _⟩
set_option maxRecDepth 100000 in
theorem free_any {T : Nat → Prop} (p g dm : Nat) (fs ts : List Fr) (dr : List Bool) (w : World) (h : PoolAt w T p g dm fs ts dr) :
  Calls Tryz.prog 82 #[.pointer (some ⟨p, 0, none⟩)] w fun e w' => e = .returned (.slice (some ⟨w.heap.size, 0, none⟩) fs.length fs.length) ∧ w'.heap[w.heap.size]? = some (rowBlk (PM.free fs ts)) ∧ Below w.heap.size w w' := by
 have hC := copied_any g (PM.free fs ts) w h.row (by rw [PM.free_len h.inv]; exact h.ok.pos) (by rw [PM.free_len h.inv]; exact h.ok.few)
 rw [PM.free_len h.inv] at hC
 have hC := Lib.hid hC
 obtain ⟨a, h1, _⟩ := h.blk
 have c1 : w.cell? ⟨p, 1, none⟩ = some (.slice (some ⟨g, 0, none⟩) fs.length fs.length) := cell_blk (i := 1) h1 rfl
 clear h h1
 go_enter Tryz.func82, Tryz.ntmps82
 go_wp2_with (go_at_call 115; refine hC.out.mono ?_; rintro e w1 ⟨rfl, hr, hb⟩)
 go_ret
 exact ⟨rfl, hr, hb⟩
theorem PoolAt.topo {w : World} {T : Nat → Prop} {p g dm : Nat} {fs ts : List Fr} {dr : List Bool} (h : PoolAt w T p g dm fs ts dr) : ∃ a, w.cell? ⟨p, 0, none⟩ = some (.pointer (some ⟨a, 0, none⟩)) ∧ TopoAt w a dr.length fs := by
 obtain ⟨a, h1, h2⟩ := h.blk
 exact ⟨a, cell_blk (i := 0) h1 rfl, h2.at_⟩
set_option maxHeartbeats 1000000 in
theorem poolhas_any {T : Nat → Prop} (p g dm : Nat) (fs ts : List Fr) (dr : List Bool) (x : Int) (w : World) (h : PoolAt w T p g dm fs ts dr) :
  Calls Tryz.prog 108 #[.pointer (some ⟨p, 0, none⟩), .int .i64 x] w fun e w' => e = .returned (.bool (decide (0 ≤ x) && decide (x < (dr.length : Int)))) ∧ w = w' := by
 obtain ⟨a, c0, hT⟩ := h.topo
 have hN := Lib.hid (nodes_any a dr.length fs w hT)
 clear h hT
 by_cases h0 : 0 ≤ x
 ·have t0 : decide (0 ≤ x) = true := by simpa using h0
  rw [t0, Bool.true_and]
  go_enter Tryz.func108, Tryz.ntmps108
  go_wp2_with (go_at_call 140; refine hN.out.mono ?_; rintro e w1 ⟨rfl, rfl⟩)
  go_ret
  exact ⟨rfl, rfl⟩
 ·have t0 : decide (0 ≤ x) = false := by simpa using h0
  rw [t0, Bool.false_and]
  go_enter Tryz.func108, Tryz.ntmps108
  go_wp2_with (go_at_call 140; refine hN.out.mono ?_; rintro e w1 ⟨rfl, rfl⟩)
  go_ret
  exact ⟨rfl, rfl⟩
def turn (dr : List Bool) (x : Int) (to : Bool) : Int × List Bool :=
 if x < 0 ∨ (dr.length : Int) ≤ x then (1, dr) else if isDr dr x = to then (if to = true then 4 else 3, dr) else (0, dr.set x.toNat to)
theorem PoolAt.turned {w w' : World} {T : Nat → Prop} {p g dm : Nat} {fs ts : List Fr} {dr dr' : List Bool} (h : PoolAt w T p g dm fs ts dr) (hl : dr'.length = dr.length) (hd : Drs w' dm dr') (hk : w.mapTurned w' dm) : PoolAt w' T p g dm fs ts dr' ∧ Foot (· = dm) w w' := by
 obtain ⟨l1, l2, l3⟩ := h.lt
 obtain ⟨n1, n2, n3⟩ := h.ne
 have hf : Foot (· = dm) w w' := (Foot.refl _ w).grown hk.grown fun k e => .inl (by injection e with e; exact e.symm)
 obtain ⟨a, h1, h2⟩ := h.blk
 exact ⟨⟨by rw [hl]; exact h.ok, h.inv, ⟨a, (hf.block p l1 n2).trans h1, by rw [hl]; exact h2.off hf.size fun i hi hlt => hf.block i hlt fun e => h.out.2.2 (e ▸ hi)⟩, (hf.block g l2 n3).trans h.row, hd, h.out, fun i hi => Nat.lt_of_lt_of_le (h.old i hi) hf.size⟩, hf⟩
end Go.Proofs.YtgpfmlidchogcaaGreat

namespace Go.Proofs.YtgpfmlidchogcaaGreat
open Go.RowKit

theorem isDr_at {dr : List Bool} {x : Int} {b : Bool} (h0 : ¬ (x < 0 ∨ (dr.length : Int) ≤ x)) (h : isDr dr x = b) : ∃ k : Nat, x = k ∧ dr[k]? = some b := by
 obtain ⟨k, rfl⟩ : ∃ k : Nat, x = k := ⟨x.toNat, by omega⟩
 refine ⟨k, rfl, ?_⟩
 rw [isDr_nat] at h
 have hk : k < dr.length := by omega
 rw [List.getElem?_eq_getElem hk] at h ⊢
 simpa using h
set_option maxHeartbeats 1000000 in
theorem drain_any {T : Nat → Prop} (p g dm : Nat) (fs ts : List Fr) (dr : List Bool) (x : Int) (w : World) (h : PoolAt w T p g dm fs ts dr) (hx : (Lit.int .i64 x).wf = true) :
  Calls Tryz.prog 69 #[.pointer (some ⟨p, 0, none⟩), .int .i64 x] w fun e w' => e = .returned (.int .i64 (turn dr x true).1) ∧ PoolAt w' T p g dm fs ts (turn dr x true).2 ∧ Foot (· = dm) w w' := by
 have hH := Lib.hid (poolhas_any p g dm fs ts dr x w h)
 have hD := Lib.hid (drained_any p g dm fs ts dr x w h hx)
 have HP := Lib.hid h
 unfold turn
 by_cases h0 : x < 0 ∨ (dr.length : Int) ≤ x
 ·rw [if_pos h0]
  have t0 : (decide (0 ≤ x) && decide (x < (dr.length : Int))) = false := by simp; omega
  rw [t0] at hH
  clear h hx h0 t0
  go_enter Tryz.func69, Tryz.ntmps69
  go_wp2_with (go_at_call 108; refine hH.out.mono ?_; rintro e w1 ⟨rfl, rfl⟩)
  go_ret
  exact ⟨rfl, HP.out, Foot.refl _ _⟩
 rw [if_neg h0]
 have t0 : (decide (0 ≤ x) && decide (x < (dr.length : Int))) = true := by simp; omega
 rw [t0] at hH
 cases hb : isDr dr x
 ·obtain ⟨k, rfl, hk⟩ := isDr_at h0 hb
  rw [if_neg (by simp)]
  rw [hb] at hD
  obtain ⟨w2, hrun, hD2, hm⟩ := h.drs.store hk h.ok.nodes
  have HR := Lib.hid (h.turned (by simp) hD2 hm)
  obtain ⟨a, h1, _⟩ := h.blk
  have c2 : w.cell? ⟨p, 2, none⟩ = some (.map (some dm)) := cell_blk (i := 2) h1 rfl
  clear h hx h0 t0 h1 hk hb hD2 hm
  go_enter Tryz.func69, Tryz.ntmps69
  go_wp2_with (first
   | (go_at_call 108; refine hH.out.mono ?_; rintro e w1 ⟨rfl, rfl⟩)
   | (go_at_call 88; refine hD.out.mono ?_; rintro e w1 ⟨rfl, rfl⟩))
  go_ret
  exact ⟨rfl, HR.out⟩
 ·rw [if_pos rfl, if_pos rfl]
  rw [hb] at hD
  clear h hx h0 t0 hb
  go_enter Tryz.func69, Tryz.ntmps69
  go_wp2_with (first
   | (go_at_call 108; refine hH.out.mono ?_; rintro e w1 ⟨rfl, rfl⟩)
   | (go_at_call 88; refine hD.out.mono ?_; rintro e w1 ⟨rfl, rfl⟩))
  go_ret
  exact ⟨rfl, HP.out, Foot.refl _ _⟩
set_option maxHeartbeats 1000000 in
theorem undrain_any {T : Nat → Prop} (p g dm : Nat) (fs ts : List Fr) (dr : List Bool) (x : Int) (w : World) (h : PoolAt w T p g dm fs ts dr) (hx : (Lit.int .i64 x).wf = true) :
  Calls Tryz.prog 73 #[.pointer (some ⟨p, 0, none⟩), .int .i64 x] w fun e w' => e = .returned (.int .i64 (turn dr x false).1) ∧ PoolAt w' T p g dm fs ts (turn dr x false).2 ∧ Foot (· = dm) w w' := by
 have hH := Lib.hid (poolhas_any p g dm fs ts dr x w h)
 have hD := Lib.hid (drained_any p g dm fs ts dr x w h hx)
 have HP := Lib.hid h
 unfold turn
 by_cases h0 : x < 0 ∨ (dr.length : Int) ≤ x
 ·rw [if_pos h0]
  have t0 : (decide (0 ≤ x) && decide (x < (dr.length : Int))) = false := by simp; omega
  rw [t0] at hH
  clear h hx h0 t0
  go_enter Tryz.func73, Tryz.ntmps73
  go_wp2_with (go_at_call 108; refine hH.out.mono ?_; rintro e w1 ⟨rfl, rfl⟩)
  go_ret
  exact ⟨rfl, HP.out, Foot.refl _ _⟩
 rw [if_neg h0]
 have t0 : (decide (0 ≤ x) && decide (x < (dr.length : Int))) = true := by simp; omega
 rw [t0] at hH
 cases hb : isDr dr x
 ·rw [if_pos rfl, if_neg (by simp)]
  rw [hb] at hD
  clear h hx h0 t0 hb
  go_enter Tryz.func73, Tryz.ntmps73
  go_wp2_with (first
   | (go_at_call 108; refine hH.out.mono ?_; rintro e w1 ⟨rfl, rfl⟩)
   | (go_at_call 88; refine hD.out.mono ?_; rintro e w1 ⟨rfl, rfl⟩))
  go_ret
  exact ⟨rfl, HP.out, Foot.refl _ _⟩
 ·obtain ⟨k, rfl, hk⟩ := isDr_at h0 hb
  rw [if_neg (by simp)]
  rw [hb] at hD
  have hrun0 := h.drs.drop hk h.ok.nodes
  obtain ⟨w2, hrun, hD2, hm⟩ : ∃ w', (∀ ty, (Builtin.delete_ #[133, 3] ty #[.map (some dm), .int .i64 (k : Nat)]).run Tryz.prog w = .ok (.tuple #[]) w') ∧ Drs w' dm (dr.set k false) ∧ w.mapTurned w' dm := by
   obtain ⟨w2, hrun, hr⟩ := hrun0 0
   refine ⟨w2, fun ty => ?_, hr⟩
   obtain ⟨w3, hrun3, _⟩ := hrun0 ty
   exact hrun
  have HR := Lib.hid (h.turned (by simp) hD2 hm)
  obtain ⟨a, h1, _⟩ := h.blk
  have c2 : w.cell? ⟨p, 2, none⟩ = some (.map (some dm)) := cell_blk (i := 2) h1 rfl
  clear h hx h0 t0 h1 hk hb hD2 hm hrun0
  go_enter Tryz.func73, Tryz.ntmps73
  go_wp2_with (first
   | (go_at_call 108; refine hH.out.mono ?_; rintro e w1 ⟨rfl, rfl⟩)
   | (go_at_call 88; refine hD.out.mono ?_; rintro e w1 ⟨rfl, rfl⟩))
  go_ret
  exact ⟨rfl, HR.out⟩
end Go.Proofs.YtgpfmlidchogcaaGreat

namespace Go.Proofs.YtgpfmlidchogcaaGreat
open Go.RowKit

namespace PM
theorem bits_ext {a b : Nat} (h : ∀ i, a.testBit i = b.testBit i) : a = b := Nat.eq_of_testBit_eq h
theorem busy_iff {s f t : Nat} : MM.sub s (MM.sub f t) = 0 ↔ s &&& f = s ∧ s &&& t = 0 := by
 constructor
 ·intro h
  have hb : ∀ i, s.testBit i = true → f.testBit i = true ∧ t.testBit i = false := fun i hi => by
   have := congrArg (fun x => x.testBit i) h
   simp only [MM.testBit_sub, Nat.zero_testBit, hi] at this
   revert this
   cases f.testBit i <;> cases t.testBit i <;> simp
  exact ⟨bits_ext fun i => by rw [Nat.testBit_and]; cases hi : s.testBit i; rfl; rw [(hb i hi).1]; rfl, bits_ext fun i => by rw [Nat.testBit_and, Nat.zero_testBit]; cases hi : s.testBit i; rfl; rw [(hb i hi).2]; rfl⟩
 ·rintro ⟨h1, h2⟩
  refine bits_ext fun i => ?_
  have := congrArg (fun x => x.testBit i) h2
  simp only [Nat.testBit_and, Nat.zero_testBit] at this
  rw [MM.testBit_sub, MM.testBit_sub, Nat.zero_testBit]
  cases hi : s.testBit i
  ·rfl
  ·rw [and_sub_iff h1 i hi]; rw [hi] at this; simp at this; simp [this]
theorem sub_sub (f t s : Nat) : MM.sub (MM.sub f t) s = MM.sub f (t ||| s) := bits_ext fun i => by
 rw [MM.testBit_sub, MM.testBit_sub, MM.testBit_sub, Nat.testBit_or]; cases f.testBit i <;> cases t.testBit i <;> cases s.testBit i <;> rfl
theorem none_iff {s f : Nat} : MM.sub s f = 0 ↔ s &&& f = s := by
 have := @busy_iff s f 0
 have e : MM.sub f 0 = f := bits_ext fun i => by rw [MM.testBit_sub]; simp
 rw [e] at this; simpa using this
theorem twice_iff {s f t : Nat} (h : s &&& f = s) : s &&& MM.sub f t = 0 ↔ s &&& t = s := by
 constructor
 ·intro e
  refine bits_ext fun i => ?_
  have := congrArg (fun x => x.testBit i) e
  simp only [Nat.testBit_and, MM.testBit_sub, Nat.zero_testBit] at this
  rw [Nat.testBit_and]
  cases hi : s.testBit i
  ·rfl
  ·rw [hi, and_sub_iff h i hi] at this; simp at this; simp [this]
 ·intro e
  refine bits_ext fun i => ?_
  rw [Nat.testBit_and, MM.testBit_sub, Nat.zero_testBit]
  cases hi : s.testBit i
  ·rfl
  ·rw [and_sub_iff e i hi]; simp
theorem or_sub {s f t : Nat} (h : s &&& f = s) : MM.sub f t ||| s = MM.sub f (MM.sub t s) := bits_ext fun i => by
 rw [Nat.testBit_or, MM.testBit_sub, MM.testBit_sub, MM.testBit_sub]
 cases hi : s.testBit i
 ·simp
 ·rw [and_sub_iff h i hi]; simp
theorem free_set {fs ts : List Fr} {k : Nat} {f u : Fr} (hf : fs[k]? = some f) (hk : k < ts.length) : free fs (ts.set k u) = (free fs ts).set k (freeOf f u) := by
 have hkf := (List.getElem?_eq_some_iff.1 hf).1
 refine List.ext_getElem? fun i => ?_
 by_cases e : k = i
 ·subst e
  rw [List.getElem?_set_self (by unfold free; rw [List.length_zipWith]; omega)]
  exact free_at hf (List.getElem?_set_self hk)
 ·rw [List.getElem?_set_ne e]
  unfold free
  rw [List.getElem?_zipWith, List.getElem?_zipWith, List.getElem?_set_ne e]
end PM
theorem flat_set : ∀ {l : List Fr} {k : Nat} {f : Fr} (m c : Nat), l[k]? = some f → (l.set k ⟨f.n, f.d, m, c⟩).flatMap frC = ((l.flatMap frC).set (k * 4 + 2) (.int .u64 (m : Nat))).set (k * 4 + 3) (.int .i64 (c : Nat))
 | [], _, _, _, _, h => by simp at h
 | x :: l, 0, f, m, c, h => by simp at h; subst h; simp [frC]
 | x :: l, k + 1, f, m, c, h => by
  have ih := flat_set m c (l := l) (k := k) (f := f) (by simpa using h)
  rw [List.set_cons_succ, List.flatMap_cons, ih, List.flatMap_cons, show (k + 1) * 4 + 2 = k * 4 + 2 + 4 by omega, show (k + 1) * 4 + 3 = k * 4 + 3 + 4 by omega]
  simp [frC]
structure SlOk (s : PM.Sl) : Prop where
 n : (Lit.int .i64 s.n).wf = true
 d : (Lit.int .i64 s.d).wf = true
 m : s.m < 18446744073709551616
 c : (Lit.int .i64 s.c).wf = true
def slV (s : PM.Sl) : Value := .agg #[.int .i64 s.n, .int .i64 s.d, .int .u64 (s.m : Nat), .int .i64 s.c]
theorem PoolAt.wrote {T : Nat → Prop} {w w1 w' : World} {p g dm k : Nat} {fs ts : List Fr} {dr : List Bool} {f t : Fr} (u : Fr) (M C : Int) (h : PoolAt w T p g dm fs ts dr) (hf : fs[k]? = some f) (ht : ts[k]? = some t) (hw : Below w.heap.size w w1) (hi : PM.Inv fs (ts.set k u))
  (hft : Foot (· = g) w w') (e : w'.heap = ((w1.setCell ⟨g, k * 4 + 2, none⟩ (.int .u64 M)).setCell ⟨g, k * 4 + 3, none⟩ (.int .i64 C)).heap) (hM : M = (MM.sub f.m u.m : Nat)) (hC : C = ((f.c - u.c : Nat) : Int)) :
  PoolAt w' T p g dm fs (ts.set k u) dr := by
 subst hM hC
 obtain ⟨l1, l2, l3⟩ := h.lt
 obtain ⟨n1, n2, n3⟩ := h.ne
 obtain ⟨a, h1, h2⟩ := h.blk
 refine ⟨h.ok, hi, ⟨a, (hft.block p l1 n1).trans h1, h2.off hft.size fun i hi hlt => hft.block i hlt fun e => h.out.2.1 (e ▸ hi)⟩, ?_, h.drs.of_block (hft.block dm l3 (Ne.symm n3)), h.out, fun i hi => Nat.lt_of_lt_of_le (h.old i hi) hft.size⟩
 have hr : w1.heap[g]? = some (rowBlk (PM.free fs ts)) := (hw.block g l2).trans h.row
 rw [e]
 unfold rowBlk at hr ⊢
 rw [blk_put _ (blk_put _ hr), PM.free_set hf (List.getElem?_eq_some_iff.1 ht).1]
 have hfr := PM.free_at hf ht
 have := flat_set (MM.sub f.m u.m) (f.c - u.c) hfr
 simp only [PM.freeOf] at this ⊢
 rw [this]
 simp
theorem box_free {W w1 : World} {v0 v1 v2 v3 : Value} {t : TypeId} (hb : Below (W.alloc (.cells #[v0, v1, v2, v3] t)).drew.heap.size (W.alloc (.cells #[v0, v1, v2, v3] t)).drew w1) :
  w1.cell? ⟨W.heap.size, 0, none⟩ = some v0 ∧ w1.cell? ⟨W.heap.size, 1, none⟩ = some v1 ∧ w1.cell? ⟨W.heap.size, 2, none⟩ = some v2 ∧ w1.cell? ⟨W.heap.size, 3, none⟩ = some v3 ∧
  w1.frozen? ⟨W.heap.size, 0, none⟩ = false ∧ w1.frozen? ⟨W.heap.size, 1, none⟩ = false ∧ w1.frozen? ⟨W.heap.size, 2, none⟩ = false ∧ w1.frozen? ⟨W.heap.size, 3, none⟩ = false ∧ w1.heap[W.heap.size]? = some (.cells #[v0, v1, v2, v3] t (0, 0)) := by
 have h : w1.heap[W.heap.size]? = some (.cells #[v0, v1, v2, v3] t (0, 0)) := (hb.block _ (by show W.heap.size < (W.alloc _).heap.size; simp)).trans (heap_alloc_new W _)
 exact ⟨cell_blk (i := 0) h rfl, cell_blk (i := 1) h rfl, cell_blk (i := 2) h rfl, cell_blk (i := 3) h rfl, frozen_blk h, frozen_blk h, frozen_blk h, frozen_blk h, h⟩
theorem PoolAt.cells {T : Nat → Prop} {w : World} {p g dm k : Nat} {fs ts : List Fr} {dr : List Bool} {f t : Fr} (h : PoolAt w T p g dm fs ts dr) (hf : fs[k]? = some f) (ht : ts[k]? = some t) :
  w.cell? ⟨g, k * 4 + 2, none⟩ = some (.int .u64 (MM.sub f.m t.m : Nat)) ∧ w.cell? ⟨g, k * 4 + 3, none⟩ = some (.int .i64 ((f.c - t.c : Nat) : Int)) ∧ w.frozen? ⟨g, k * 4 + 2, none⟩ = false ∧ w.frozen? ⟨g, k * 4 + 3, none⟩ = false := by
 have hr := h.row
 have hfr := PM.free_at hf ht
 unfold rowBlk at hr
 refine ⟨cell_blk hr ?_, cell_blk hr ?_, frozen_blk hr, frozen_blk hr⟩
 ·rw [List.getElem?_toArray, flat_at hfr (by omega)]; rfl
 ·rw [List.getElem?_toArray, flat_at hfr (by omega)]; rfl
set_option maxRecDepth 100000 in
set_option maxHeartbeats 2000000 in
theorem take_cl {T : Nat → Prop} (p g dm bx k : Nat) (fs ts : List Fr) (dr : List Bool) (f t : Fr) (s : PM.Sl) (w : World) (h : PoolAt w T p g dm fs ts dr) (hbx : w.cell? ⟨bx, 0, none⟩ = some (.pointer (some ⟨p, 0, none⟩))) (hs : SlOk s) (h0 : 0 ≤ s.c)
  (hk : PM.find s.n s.d fs = some k) (hf : fs[k]? = some f) (ht : ts[k]? = some t) :
  Calls Tryz.prog 126 #[.pointer (some ⟨g, k * 4, none⟩), slV s, .pointer (some ⟨bx, 0, none⟩)] w fun e w' =>
   e = .returned (.int .i64 (PM.one fs dr false s ts).1) ∧ PoolAt w' T p g dm fs (PM.one fs dr false s ts).2 dr ∧ Foot (· = g) w w' := by
 have hB1 := (Below.refl w.heap.size w).alloc (Nat.le_refl _) (.cells #[.int .i64 s.n, .int .i64 s.d, .int .u64 (s.m : Nat), .int .i64 s.c] 41)
 have hD := Lib.hid (fun W (hW : Below w.heap.size w W) => drained_any p g dm fs ts dr s.n W (h.keep hW) hs.n)
 have hbl := lt_of_cell hbx
 have hfn : (f.n : Int) = s.n := by
  obtain ⟨f', hf', h1, _⟩ := PM.find_hit hk
  rw [hf] at hf'; cases hf'; exact h1
 obtain ⟨i1, i2, i3, i4⟩ := h.inv.2 k f t hf ht
 obtain ⟨k1, k2⟩ := h.ok.ok f (List.mem_of_getElem? hf)
 have ks := hs.m
 have kc := bounds_i64 hs.c
 obtain ⟨F, hF⟩ : ∃ F, F = MM.sub f.m t.m := ⟨_, rfl⟩
 obtain ⟨C, hC⟩ : ∃ C, C = f.c - t.c := ⟨_, rfl⟩
 have hFl : F < 18446744073709551616 := by rw [hF]; exact MM.sub_lt _ k1
 have b1 := (hB1.cell (p := ⟨bx, 0, none⟩) hbl).trans hbx
 have hl := h.lt.2.1
 obtain ⟨c2, c3, z2, z3⟩ := (h.keep hB1).cells hf ht
 rw [← hF] at c2
 rw [← hC] at c3
 have hCl : (C : Int) ≤ 1024 := by omega
 have hone : PM.one fs dr false s ts = if isDr dr s.n = true then (8, ts) else if MM.sub s.m F ≠ 0 ∨ (C : Int) < s.c then (5, ts) else (0, ts.set k (PM.up t s)) := by
  unfold PM.one
  rw [if_neg (by omega)]
  simp only [hk, hf, ht, Bool.false_eq_true, if_false]
  rw [← hfn]
  simp only [isDr_iff]
  by_cases hd : dr[f.n]? = some true
  ·rw [if_pos hd, if_pos hd]
  ·rw [if_neg hd, if_neg hd, hF, hC]
   have e : (MM.sub s.m (MM.sub f.m t.m) ≠ 0 ∨ ((f.c - t.c : Nat) : Int) < s.c) ↔ (s.m &&& f.m ≠ s.m ∨ s.m &&& t.m ≠ 0 ∨ (f.c : Int) - (t.c : Int) < s.c) := by
    rw [Ne, PM.busy_iff, Classical.not_and_iff_not_or_not, or_assoc, show ((f.c - t.c : Nat) : Int) = (f.c : Int) - (t.c : Int) by omega]
   by_cases hc : s.m &&& f.m ≠ s.m ∨ s.m &&& t.m ≠ 0 ∨ (f.c : Int) - (t.c : Int) < s.c
   ·rw [if_pos hc, if_pos (e.2 hc)]
   ·rw [if_neg hc, if_neg (fun h => hc (e.1 h))]; rfl
 have HI := Lib.hid (show MM.sub s.m F = 0 ∧ s.c ≤ (C : Int) → PM.Inv fs (ts.set k (PM.up t s)) from fun ⟨e1, e2⟩ => by
  rw [hF, PM.busy_iff] at e1
  have hu := PM.one_inv (dr := []) (give := false) (s := s) h.inv
  rwa [(PM.Takes.mk h0 hk hf ht (by simp) e1.1 e1.2 (by omega) : PM.Takes fs [] s k f t ts).eq] at hu)
 have HP := Lib.hid h
 have HB := Lib.hid hB1
 rw [hone]
 have HF := Lib.hid (And.intro hF (And.intro hC (And.intro hf (And.intro ht hk))))
 clear hone hf ht hk i1 i2 i3 hB1 hfn hF hC
 obtain ⟨x, y, m, c⟩ := s
 simp only [slV] at *
 by_cases hd : isDr dr x = true
 ·rw [if_pos hd]
  rw [hd] at hD
  clear hd h hs
  go_enter Tryz.func126, Tryz.ntmps126
  go_wp2_with (go_at_call 88; refine (hD.out _ HB.out).mono ?_; rintro e w1 ⟨rfl, rfl⟩)
  go_ret
  exact ⟨rfl, HP.out.keep HB.out, Foot.of_below HB.out⟩
 rw [if_neg hd]
 rw [Bool.not_eq_true] at hd
 rw [hd] at hD
 clear hd h hs
 obtain ⟨X, hX⟩ : ∃ X, X = MM.sub m F := ⟨_, rfl⟩
 have hXn := not_u64 m F ks hFl
 rw [← hX] at hXn ⊢
 have HX := Lib.hid hX
 clear hX
 by_cases hm : X = 0
 ·have t1 : ((X : Int) != 0) = false := by rw [hm]; rfl
  by_cases hc : (C : Int) < c
  ·rw [if_pos (.inr hc)]
   have t2 : decide ((C : Int) < c) = true := by simpa using hc
   clear hc hm
   go_enter Tryz.func126, Tryz.ntmps126
   go_wp2_with (go_at_call 88; refine (hD.out _ HB.out).mono ?_; rintro e w1 ⟨rfl, rfl⟩)
   go_quiet (fail)
   go_wp2
   go_ret
   exact ⟨rfl, HP.out.keep (below_drewN HB.out _), Foot.of_below (below_drewN HB.out _)⟩
  ·rw [if_neg (by rintro (h | h); exact h hm; exact hc h)]
   have t2 : decide ((C : Int) < c) = false := by simpa using hc
   have hc2 : c ≤ (C : Int) := by omega
   have hm0 := Lib.hid hm
   clear hc hm
   go_enter Tryz.func126, Tryz.ntmps126
   go_wp2_with (go_at_call 88; refine (hD.out _ HB.out).mono ?_; rintro e w1 ⟨rfl, rfl⟩)
   go_quiet (fail)
   go_wp2
   obtain ⟨Y, hY⟩ : ∃ Y, Y = MM.sub F m := ⟨_, rfl⟩
   have hYn := not_u64 F m hFl ks
   rw [← hY] at hYn
   have HY := Lib.hid hY
   clear hY
   obtain ⟨W, hW⟩ : ∃ W, W = (w.alloc (.cells #[.int .i64 x, .int .i64 y, .int .u64 (m : Nat), .int .i64 c] 41)).drewN nq := ⟨_, rfl⟩
   have hBW : Below w.heap.size w W := by rw [hW]; exact below_drewN HB.out _
   have hbW : W.heap[w.heap.size]? = some (.cells #[.int .i64 x, .int .i64 y, .int .u64 (m : Nat), .int .i64 c] 41 (0, 0)) := by rw [hW]; exact heap_alloc_new w _
   obtain ⟨d2, d3, y2, y3⟩ := (HP.out.keep hBW).cells HF.out.2.2.1 HF.out.2.2.2.1
   rw [← HF.out.1] at d2
   rw [← HF.out.2.1] at d3
   have e2 : W.cell? ⟨w.heap.size, 2, none⟩ = some (.int .u64 (m : Nat)) := cell_blk (i := 2) hbW rfl
   have e3 : W.cell? ⟨w.heap.size, 3, none⟩ = some (.int .i64 c) := cell_blk (i := 3) hbW rfl
   have hne : g ≠ w.heap.size := by omega
   rw [← hW]
   clear hW b1 c2 c3 z2 z3
   have HW := Lib.hid (And.intro hBW hbW)
   clear hBW hbW
   go_still_tail 9, (by kernel_rfl)
   change wpList _ _ _ _ _ W.drew
   go_wp2
   obtain ⟨W2, hW2⟩ : ∃ W2, W2 = (W.setCell ⟨g, k * 4 + 2, none⟩ (.int .u64 (Y : Nat))).drew := ⟨_, rfl⟩
   have q3 : W2.cell? ⟨g, k * 4 + 3, none⟩ = some (.int .i64 (C : Nat)) := by rw [hW2]; go_simp
   have r3 : W2.frozen? ⟨g, k * 4 + 3, none⟩ = false := by rw [hW2]; go_simp
   have s3 : W2.cell? ⟨w.heap.size, 3, none⟩ = some (.int .i64 c) := by rw [hW2]; go_simp
   rw [← hW2]
   have HW2 := Lib.hid hW2
   clear hW2 d2 d3 y2 y3 e2 e3
   go_still_tail 9, (by kernel_rfl)
   change wpList _ _ _ _ _ W2.drew
   go_wp2
   go_ret
   obtain ⟨u1, u2, u3, u4, u5⟩ := HF.out
   have hi : PM.Inv fs (ts.set k (PM.up t ⟨x, y, m, c⟩)) := HI.out ⟨by rw [← HX.out, hm0.out], hc2⟩
   have hft : Foot (· = g) w (W2.setCell ⟨g, k * 4 + 3, none⟩ (.int .i64 ((C : Int) - c))).drew := by
    rw [HW2.out]
    refine (Foot.setCell (p := ⟨g, _, none⟩) (Foot.setCell (p := ⟨g, _, none⟩) (Foot.of_below HW.out.1) (.inl ?_) _).drew (.inl ?_) _).drew <;> rfl
   refine ⟨rfl, HP.out.wrote (PM.up t ⟨x, y, m, c⟩) _ _ u3 u4 HW.out.1 hi hft (by rw [HW2.out]; rfl) ?_ ?_, hft⟩
   ·rw [HY.out, u1, PM.sub_sub]; rfl
   ·simp only [PM.up]; omega
 ·rw [if_pos (.inl hm)]
  have t1 : ((X : Int) != 0) = true := by simpa using hm
  clear hm
  go_enter Tryz.func126, Tryz.ntmps126
  go_wp2_with (go_at_call 88; refine (hD.out _ HB.out).mono ?_; rintro e w1 ⟨rfl, rfl⟩)
  go_quiet (fail)
  go_wp2
  go_ret
  exact ⟨rfl, HP.out.keep (below_drewN HB.out _), Foot.of_below (below_drewN HB.out _)⟩
set_option maxRecDepth 100000 in
set_option maxHeartbeats 2000000 in
theorem give_cl {T : Nat → Prop} (p g dm bx k : Nat) (fs ts : List Fr) (dr : List Bool) (f t : Fr) (s : PM.Sl) (w : World) (h : PoolAt w T p g dm fs ts dr) (hbx : w.cell? ⟨bx, 0, none⟩ = some (.pointer (some ⟨p, 0, none⟩))) (hs : SlOk s) (h0 : 0 ≤ s.c)
  (hk : PM.find s.n s.d fs = some k) (hf : fs[k]? = some f) (ht : ts[k]? = some t) :
  Calls Tryz.prog 129 #[.pointer (some ⟨g, k * 4, none⟩), slV s, .pointer (some ⟨bx, 0, none⟩)] w fun e w' =>
   e = .returned (.int .i64 (PM.one fs dr true s ts).1) ∧ PoolAt w' T p g dm fs (PM.one fs dr true s ts).2 dr ∧ Foot (· = g) w w' := by
 have hB1 := (Below.refl w.heap.size w).alloc (Nat.le_refl _) (.cells #[.int .i64 s.n, .int .i64 s.d, .int .u64 (s.m : Nat), .int .i64 s.c] 41)
 have hbl := lt_of_cell hbx
 have hfn : (f.n : Int) = s.n := by
  obtain ⟨f', hf', h1, _⟩ := PM.find_hit hk
  rw [hf] at hf'; cases hf'; exact h1
 obtain ⟨i1, i2, i3, i4⟩ := h.inv.2 k f t hf ht
 obtain ⟨k1, k2⟩ := h.ok.ok f (List.mem_of_getElem? hf)
 have ks := hs.m
 have kc := bounds_i64 hs.c
 obtain ⟨a, c0, hT⟩ := h.topo
 have hfd : (f.d : Int) = s.d := by
  obtain ⟨f', hf', _, h1⟩ := PM.find_hit hk
  rw [hf] at hf'; cases hf'; exact h1
 have hA0 : ∀ W, Below w.heap.size w W → Calls Tryz.prog 130 #[.pointer (some ⟨a, 0, none⟩), .agg #[.int .i64 s.n, .int .i64 s.d]] W fun e w' => e = .returned (.tuple #[.agg #[.int .i64 s.n, .int .i64 s.d, .int .u64 (f.m : Nat), .int .i64 (f.c : Nat)], .int .i64 0]) ∧ Below W.heap.size W w' := fun W hW => by
  rw [← hfn, ← hfd]; exact at_hit a dr.length k f fs W (hT.keep hW) hf h.ok.dup
 have hA := Lib.hid hA0
 obtain ⟨F, hF⟩ : ∃ F, F = MM.sub f.m t.m := ⟨_, rfl⟩
 obtain ⟨C, hC⟩ : ∃ C, C = f.c - t.c := ⟨_, rfl⟩
 have hFl : F < 18446744073709551616 := by rw [hF]; exact MM.sub_lt _ k1
 have b1 := (hB1.cell (p := ⟨bx, 0, none⟩) hbl).trans hbx
 have c1 := (hB1.cell (p := ⟨p, 0, none⟩) h.lt.1).trans c0
 have hl := h.lt.2.1
 have hlp := h.lt.1
 have hCl : (C : Int) ≤ f.c := by omega
 have hone : PM.one fs dr true s ts = if MM.sub s.m f.m ≠ 0 then (3, ts) else if s.m &&& F ≠ 0 ∨ (f.c : Int) - C < s.c then (4, ts) else (0, ts.set k (PM.down t s)) := by
  unfold PM.one
  rw [if_neg (by omega)]
  simp only [hk, hf, ht, if_true]
  by_cases hm : MM.sub s.m f.m ≠ 0
  ·rw [if_pos hm, if_pos (fun e => hm (PM.none_iff.2 e))]
  ·have hm' := PM.none_iff.1 (Classical.not_not.1 hm)
   rw [if_neg hm, if_neg (fun e => e hm'), hF, hC]
   have e : (s.m &&& MM.sub f.m t.m ≠ 0 ∨ (f.c : Int) - ((f.c - t.c : Nat) : Int) < s.c) ↔ (s.m &&& t.m ≠ s.m ∨ (t.c : Int) < s.c) := by
    rw [Ne, PM.twice_iff hm', show (f.c : Int) - ((f.c - t.c : Nat) : Int) = (t.c : Int) by omega]
   by_cases hc : s.m &&& t.m ≠ s.m ∨ (t.c : Int) < s.c
   ·rw [if_pos hc, if_pos (e.2 hc)]
   ·rw [if_neg hc, if_neg (fun h => hc (e.1 h))]; rfl
 have HI := Lib.hid (show MM.sub s.m f.m = 0 ∧ s.m &&& F = 0 ∧ s.c ≤ (f.c : Int) - C → PM.Inv fs (ts.set k (PM.down t s)) from fun ⟨e1, e2, e3⟩ => by
  rw [PM.none_iff] at e1
  rw [hF, PM.twice_iff e1] at e2
  have hu := PM.one_inv (dr := []) (give := true) (s := s) h.inv
  rwa [(PM.Gives.mk h0 hk hf ht e1 e2 (by omega) : PM.Gives fs s k f t ts).eq] at hu)
 have HP := Lib.hid h
 have HB := Lib.hid hB1
 obtain ⟨R, hR⟩ : ∃ R, R = PM.one fs dr true s ts := ⟨_, rfl⟩
 rw [← hR]
 rw [hone] at hR
 have HR := Lib.hid hR
 have HF := Lib.hid (And.intro hF (And.intro hC (And.intro hf (And.intro ht hk))))
 have hbW := heap_alloc_new w (.cells #[.int .i64 s.n, .int .i64 s.d, .int .u64 (s.m : Nat), .int .i64 s.c] 41)
 have e0 : (w.alloc (.cells #[.int .i64 s.n, .int .i64 s.d, .int .u64 (s.m : Nat), .int .i64 s.c] 41)).cell? ⟨w.heap.size, 0, none⟩ = some (.int .i64 s.n) := cell_blk (i := 0) hbW rfl
 have e1 : (w.alloc (.cells #[.int .i64 s.n, .int .i64 s.d, .int .u64 (s.m : Nat), .int .i64 s.c] 41)).cell? ⟨w.heap.size, 1, none⟩ = some (.int .i64 s.d) := cell_blk (i := 1) hbW rfl
 have Hb := Lib.hid hbW
 clear hone hR hf ht hk i1 i2 i3 hB1 hfn hfd hF hC hT hA0 c0 hbW h hs
 obtain ⟨x, y, m, c⟩ := s
 simp only [slV] at *
 go_enter Tryz.func129, Tryz.ntmps129
 go_wp2_with fail
 obtain ⟨W, hW⟩ : ∃ W, W = w.alloc (.cells #[.int .i64 x, .int .i64 y, .int .u64 (m : Nat), .int .i64 c] 41) := ⟨_, rfl⟩
 rw [← hW] at b1 c1 e0 e1 HB Hb ⊢
 have lb : bx < W.heap.size ∧ p < W.heap.size ∧ w.heap.size < W.heap.size := by rw [hW]; simp; omega
 clear hW
 have HB3 := Lib.hid (((Below.refl W.heap.size W).alloc (Nat.le_refl _) (.cells #[.int .i64 0, .int .i64 0, .int .u64 0, .int .i64 0] 144)).drew)
 have HB1 := Lib.hid (below_step HB.out HB3.out)
 have nb1 : W.heap.size ≠ bx := by omega
 have nb2 : W.heap.size ≠ p := by omega
 have nb3 : W.heap.size ≠ w.heap.size := by omega
 have HB2 := Lib.hid HB.out.drew
 go_region_held3 (fun w' => w'.cell? ⟨bx, 0, none⟩ = some (.pointer (some ⟨p, 0, none⟩)) ∧ w'.cell? ⟨p, 0, none⟩ = some (.pointer (some ⟨a, 0, none⟩)) ∧ w'.cell? ⟨w.heap.size, 0, none⟩ = some (.int .i64 x) ∧ w'.cell? ⟨w.heap.size, 1, none⟩ = some (.int .i64 y))
  (go_keep)
  (first
   | (go_at_call 130; ((with_reducible refine (hA.out ((W.alloc (.cells #[.int .i64 0, .int .i64 0, .int .u64 0, .int .i64 0] 144)).drew) HB1.out).mono ?_); rintro e w1 ⟨rfl, hb1⟩); obtain ⟨z0, z1, z2, z3, r0, r1, r2, r3, hz9⟩ := box_free hb1; have hB7 : Below W.heap.size W w1 := below_step HB3.out hb1; have y0 := (hB7.cell (p := ⟨bx, 0, none⟩) lb.1).trans b1; have y1 := (hB7.cell (p := ⟨p, 0, none⟩) lb.2.1).trans c1; have v2 := (hB7.cell (p := ⟨w.heap.size, 0, none⟩) lb.2.2).trans e0; have v3 := (hB7.cell (p := ⟨w.heap.size, 1, none⟩) lb.2.2).trans e1)
   | (go_at_call 130; ((with_reducible refine (hA.out W.drew HB2.out).mono ?_); rintro e w1 ⟨rfl, hb1⟩); have hB7 : Below W.heap.size W w1 := below_step (Below.refl W.heap.size W).drew hb1; have y0 := (hB7.cell (p := ⟨bx, 0, none⟩) lb.1).trans b1; have y1 := (hB7.cell (p := ⟨p, 0, none⟩) lb.2.1).trans c1; have v2 := (hB7.cell (p := ⟨w.heap.size, 0, none⟩) lb.2.2).trans e0; have v3 := (hB7.cell (p := ⟨w.heap.size, 1, none⟩) lb.2.2).trans e1))
 ·obtain ⟨W3, hW3⟩ : ∃ W3, W3 = w1.alloc (.cells #[.int .i64 x, .int .i64 y, .int .u64 (f.m : Nat), .int .i64 (f.c : Nat)] 144) := ⟨_, rfl⟩
  obtain ⟨q, hq⟩ : ∃ q, q = w1.heap.size := ⟨_, rfl⟩
  rw [← hW3, ← hq]
  have hs1 := hB7.size
  have hblk : W3.heap[q]? = some (.cells #[.int .i64 x, .int .i64 y, .int .u64 (f.m : Nat), .int .i64 (f.c : Nat)] 144 (0, 0)) := by rw [hW3, hq]; exact heap_alloc_new w1 _
  have hB3 : Below w.heap.size w W3 := by rw [hW3]; exact (HB.out.trans (hB7.mono (by omega))).alloc (by omega) _
  have hsl : W3.heap[w.heap.size]? = some (.cells #[.int .i64 x, .int .i64 y, .int .u64 (m : Nat), .int .i64 c] 41 (0, 0)) := by rw [hW3]; exact (Below.heap_alloc w1 _ _ (by omega)).trans ((hB7.block _ lb.2.2).trans Hb.out)
  have hqw : w.heap.size < q := by omega
  have e2 : W3.cell? ⟨w.heap.size, 2, none⟩ = some (.int .u64 (m : Nat)) := cell_blk (i := 2) hsl rfl
  have e3 : W3.cell? ⟨w.heap.size, 3, none⟩ = some (.int .i64 c) := cell_blk (i := 3) hsl rfl
  have o2 : W3.cell? ⟨q, 1 + 1, none⟩ = some (.int .u64 (f.m : Nat)) := cell_blk (i := 2) hblk rfl
  have o2' : W3.cell? ⟨q, 2, none⟩ = some (.int .u64 (f.m : Nat)) := cell_blk (i := 2) hblk rfl
  have o3 : W3.cell? ⟨q, 3, none⟩ = some (.int .i64 (f.c : Nat)) := cell_blk (i := 3) hblk rfl
  obtain ⟨d2, d3, y2, y3⟩ := (HP.out.keep hB3).cells HF.out.2.2.1 HF.out.2.2.2.1
  rw [← HF.out.1] at d2
  rw [← HF.out.2.1] at d3
  have hne : g ≠ w.heap.size := by omega
  have hneq : g ≠ q := by omega
  have H3 := Lib.hid hB3
  clear hW3 hq hB7 hB3 hsl hblk b1 c1 e0 e1 y0 y1 hb1
  obtain ⟨X, hX⟩ : ∃ X, X = MM.sub m f.m := ⟨_, rfl⟩
  have hXn := not_u64 m f.m ks k1
  rw [← hX] at hXn
  have HX := Lib.hid hX
  clear hX
  by_cases hm : X = 0
  ·have hR1 := HR.out
   rw [← HX.out, if_neg (fun h => h hm)] at hR1
   have t1 : ((X : Int) != 0) = false := by rw [hm]; rfl
   obtain ⟨Z, hZ⟩ : ∃ Z, Z = m &&& F := ⟨_, rfl⟩
   have hZn := and_u64 m F ks hFl
   rw [← hZ] at hZn
   rw [← hZ] at hR1
   have HZ := Lib.hid hZ
   have HM := Lib.hid hm
   have hw1 : IntKind.i64.wrap ((f.c : Int) - (C : Int)) = (f.c : Int) - C := IntWalk.i64_in _ (by omega)
   clear hZ hm
   by_cases hz : Z = 0
   ·have t3 : ((Z : Int) != 0) = false := by rw [hz]; rfl
    by_cases hc : (f.c : Int) - C < c
    ·rw [if_pos (.inr hc)] at hR1
     subst hR1
     have t2 : decide ((f.c : Int) - (C : Int) < c) = true := by simpa using hc
     clear hc hz
     go_wp2
     go_quiet (fail)
     go_wp2
     go_ret
     exact ⟨rfl, HP.out.keep (below_drewN H3.out _), Foot.of_below (below_drewN H3.out _)⟩
    ·rw [if_neg (by rintro (h | h); exact h hz; exact hc h)] at hR1
     subst hR1
     have t2 : decide ((f.c : Int) - (C : Int) < c) = false := by simpa using hc
     have hc2 : c ≤ (f.c : Int) - C := by omega
     have HC := Lib.hid (And.intro hz hc2)
     clear hc hz
     go_wp2
     go_quiet (fail)
     go_wp2
     obtain ⟨Y, hY⟩ : ∃ Y, Y = F ||| m := ⟨_, rfl⟩
     have hYn := or_u64 F m hFl ks
     rw [← hY] at hYn
     have HY := Lib.hid hY
     clear hY
     obtain ⟨W4, hW4⟩ : ∃ W4, W4 = W3.drewN nq := ⟨_, rfl⟩
     have f2 : W4.cell? ⟨g, k * 4 + 2, none⟩ = some (.int .u64 (F : Nat)) := by rw [hW4]; exact d2
     have f3 : W4.cell? ⟨g, k * 4 + 3, none⟩ = some (.int .i64 (C : Nat)) := by rw [hW4]; exact d3
     have p2 : W4.frozen? ⟨g, k * 4 + 2, none⟩ = false := by rw [hW4]; exact y2
     have p3 : W4.frozen? ⟨g, k * 4 + 3, none⟩ = false := by rw [hW4]; exact y3
     have g2 : W4.cell? ⟨w.heap.size, 2, none⟩ = some (.int .u64 (m : Nat)) := by rw [hW4]; exact e2
     have g3 : W4.cell? ⟨w.heap.size, 3, none⟩ = some (.int .i64 c) := by rw [hW4]; exact e3
     have H4 := Lib.hid (show Below w.heap.size w W4 by rw [hW4]; exact below_drewN H3.out _)
     rw [← hW4]
     clear hW4 d2 d3 y2 y3 e2 e3 o2 o2' o3
     go_still_tail 9, (by kernel_rfl)
     change wpList _ _ _ _ _ W4.drew
     go_wp2
     obtain ⟨W5, hW5⟩ : ∃ W5, W5 = (W4.setCell ⟨g, k * 4 + 2, none⟩ (.int .u64 (Y : Nat))).drew := ⟨_, rfl⟩
     have q3 : W5.cell? ⟨g, k * 4 + 3, none⟩ = some (.int .i64 (C : Nat)) := by rw [hW5]; go_simp
     have r3 : W5.frozen? ⟨g, k * 4 + 3, none⟩ = false := by rw [hW5]; go_simp
     have s3 : W5.cell? ⟨w.heap.size, 3, none⟩ = some (.int .i64 c) := by rw [hW5]; go_simp
     rw [← hW5]
     have HW5 := Lib.hid hW5
     clear hW5 f2 f3 p2 p3 g2 g3
     go_still_tail 9, (by kernel_rfl)
     change wpList _ _ _ _ _ W5.drew
     go_wp2
     go_ret
     obtain ⟨u1, u2, u3, u4, u5⟩ := HF.out
     have hX0 : MM.sub m f.m = 0 := by rw [← HX.out]; exact HM.out
     have hZ0 : m &&& F = 0 := by rw [← HZ.out]; exact HC.out.1
     have hi : PM.Inv fs (ts.set k (PM.down t ⟨x, y, m, c⟩)) := HI.out ⟨hX0, hZ0, HC.out.2⟩
     have hft : Foot (· = g) w (W5.setCell ⟨g, k * 4 + 3, none⟩ (.int .i64 ((C : Int) + c))).drew := by
      rw [HW5.out]
      refine (Foot.setCell (p := ⟨g, _, none⟩) (Foot.setCell (p := ⟨g, _, none⟩) (Foot.of_below H4.out) (.inl ?_) _).drew (.inl ?_) _).drew <;> rfl
     refine ⟨rfl, HP.out.wrote (PM.down t ⟨x, y, m, c⟩) _ _ u3 u4 H4.out hi hft (by rw [HW5.out]; rfl) ?_ ?_, hft⟩
     ·rw [HY.out, u1, PM.or_sub (PM.none_iff.1 hX0)]; rfl
     ·have hc5 := HC.out.2; simp only [PM.down]; omega
   ·have t3 : ((Z : Int) != 0) = true := by simpa using hz
    rw [if_pos (.inl hz)] at hR1
    subst hR1
    clear hz
    go_wp2
    go_quiet (fail)
    go_wp2
    go_ret
    exact ⟨rfl, HP.out.keep (below_drewN H3.out _), Foot.of_below (below_drewN H3.out _)⟩
  ·have hR1 := HR.out
   rw [← HX.out, if_pos hm] at hR1
   subst hR1
   have t1 : ((X : Int) != 0) = true := by simpa using hm
   clear hm
   go_wp2
   go_ret
   exact ⟨rfl, HP.out.keep H3.out, Foot.of_below H3.out⟩
 ·obtain ⟨W3, hW3⟩ : ∃ W3, W3 = (((w1.setCell ⟨W.heap.size, 0, none⟩ (.int .i64 x)).setCell ⟨W.heap.size, 1, none⟩ (.int .i64 y)).setCell ⟨W.heap.size, 2, none⟩ (.int .u64 (f.m : Nat))).setCell ⟨W.heap.size, 3, none⟩ (.int .i64 (f.c : Nat)) := ⟨_, rfl⟩
  obtain ⟨q, hq⟩ : ∃ q, q = W.heap.size := ⟨_, rfl⟩
  rw [← hW3, ← hq]
  have hs1 := hB7.size
  have hblk : W3.heap[q]? = some (.cells #[.int .i64 x, .int .i64 y, .int .u64 (f.m : Nat), .int .i64 (f.c : Nat)] 144 (0, 0)) := by rw [hW3, hq]; exact (blk_put _ (blk_put _ (blk_put _ (blk_put _ hz9))))
  have hB3 : Below w.heap.size w W3 := by rw [hW3]; exact ((((HB.out.trans (hB7.mono (by omega))).setCell (by simp; omega) _).setCell (by simp; omega) _).setCell (by simp; omega) _).setCell (by simp; omega) _
  have hsl : W3.heap[w.heap.size]? = some (.cells #[.int .i64 x, .int .i64 y, .int .u64 (m : Nat), .int .i64 c] 41 (0, 0)) := by
   rw [hW3, Below.heap_setCell _ _ _ _ (by simp; omega), Below.heap_setCell _ _ _ _ (by simp; omega), Below.heap_setCell _ _ _ _ (by simp; omega), Below.heap_setCell _ _ _ _ (by simp; omega)]; exact (hB7.block _ lb.2.2).trans Hb.out
  have hqw : w.heap.size < q := by omega
  have e2 : W3.cell? ⟨w.heap.size, 2, none⟩ = some (.int .u64 (m : Nat)) := cell_blk (i := 2) hsl rfl
  have e3 : W3.cell? ⟨w.heap.size, 3, none⟩ = some (.int .i64 c) := cell_blk (i := 3) hsl rfl
  have o2 : W3.cell? ⟨q, 1 + 1, none⟩ = some (.int .u64 (f.m : Nat)) := cell_blk (i := 2) hblk rfl
  have o2' : W3.cell? ⟨q, 2, none⟩ = some (.int .u64 (f.m : Nat)) := cell_blk (i := 2) hblk rfl
  have o3 : W3.cell? ⟨q, 3, none⟩ = some (.int .i64 (f.c : Nat)) := cell_blk (i := 3) hblk rfl
  obtain ⟨d2, d3, y2, y3⟩ := (HP.out.keep hB3).cells HF.out.2.2.1 HF.out.2.2.2.1
  rw [← HF.out.1] at d2
  rw [← HF.out.2.1] at d3
  have hne : g ≠ w.heap.size := by omega
  have hneq : g ≠ q := by omega
  have H3 := Lib.hid hB3
  clear hW3 hq hB7 hB3 hsl hblk b1 c1 e0 e1 y0 y1 hb1
  obtain ⟨X, hX⟩ : ∃ X, X = MM.sub m f.m := ⟨_, rfl⟩
  have hXn := not_u64 m f.m ks k1
  rw [← hX] at hXn
  have HX := Lib.hid hX
  clear hX
  by_cases hm : X = 0
  ·have hR1 := HR.out
   rw [← HX.out, if_neg (fun h => h hm)] at hR1
   have t1 : ((X : Int) != 0) = false := by rw [hm]; rfl
   obtain ⟨Z, hZ⟩ : ∃ Z, Z = m &&& F := ⟨_, rfl⟩
   have hZn := and_u64 m F ks hFl
   rw [← hZ] at hZn
   rw [← hZ] at hR1
   have HZ := Lib.hid hZ
   have HM := Lib.hid hm
   have hw1 : IntKind.i64.wrap ((f.c : Int) - (C : Int)) = (f.c : Int) - C := IntWalk.i64_in _ (by omega)
   clear hZ hm
   by_cases hz : Z = 0
   ·have t3 : ((Z : Int) != 0) = false := by rw [hz]; rfl
    by_cases hc : (f.c : Int) - C < c
    ·rw [if_pos (.inr hc)] at hR1
     subst hR1
     have t2 : decide ((f.c : Int) - (C : Int) < c) = true := by simpa using hc
     clear hc hz
     go_wp2
     go_quiet (fail)
     go_wp2
     go_ret
     exact ⟨rfl, HP.out.keep (below_drewN H3.out _), Foot.of_below (below_drewN H3.out _)⟩
    ·rw [if_neg (by rintro (h | h); exact h hz; exact hc h)] at hR1
     subst hR1
     have t2 : decide ((f.c : Int) - (C : Int) < c) = false := by simpa using hc
     have hc2 : c ≤ (f.c : Int) - C := by omega
     have HC := Lib.hid (And.intro hz hc2)
     clear hc hz
     go_wp2
     go_quiet (fail)
     go_wp2
     obtain ⟨Y, hY⟩ : ∃ Y, Y = F ||| m := ⟨_, rfl⟩
     have hYn := or_u64 F m hFl ks
     rw [← hY] at hYn
     have HY := Lib.hid hY
     clear hY
     obtain ⟨W4, hW4⟩ : ∃ W4, W4 = W3.drewN nq := ⟨_, rfl⟩
     have f2 : W4.cell? ⟨g, k * 4 + 2, none⟩ = some (.int .u64 (F : Nat)) := by rw [hW4]; exact d2
     have f3 : W4.cell? ⟨g, k * 4 + 3, none⟩ = some (.int .i64 (C : Nat)) := by rw [hW4]; exact d3
     have p2 : W4.frozen? ⟨g, k * 4 + 2, none⟩ = false := by rw [hW4]; exact y2
     have p3 : W4.frozen? ⟨g, k * 4 + 3, none⟩ = false := by rw [hW4]; exact y3
     have g2 : W4.cell? ⟨w.heap.size, 2, none⟩ = some (.int .u64 (m : Nat)) := by rw [hW4]; exact e2
     have g3 : W4.cell? ⟨w.heap.size, 3, none⟩ = some (.int .i64 c) := by rw [hW4]; exact e3
     have H4 := Lib.hid (show Below w.heap.size w W4 by rw [hW4]; exact below_drewN H3.out _)
     rw [← hW4]
     clear hW4 d2 d3 y2 y3 e2 e3 o2 o2' o3
     go_still_tail 9, (by kernel_rfl)
     change wpList _ _ _ _ _ W4.drew
     go_wp2
     obtain ⟨W5, hW5⟩ : ∃ W5, W5 = (W4.setCell ⟨g, k * 4 + 2, none⟩ (.int .u64 (Y : Nat))).drew := ⟨_, rfl⟩
     have q3 : W5.cell? ⟨g, k * 4 + 3, none⟩ = some (.int .i64 (C : Nat)) := by rw [hW5]; go_simp
     have r3 : W5.frozen? ⟨g, k * 4 + 3, none⟩ = false := by rw [hW5]; go_simp
     have s3 : W5.cell? ⟨w.heap.size, 3, none⟩ = some (.int .i64 c) := by rw [hW5]; go_simp
     rw [← hW5]
     have HW5 := Lib.hid hW5
     clear hW5 f2 f3 p2 p3 g2 g3
     go_still_tail 9, (by kernel_rfl)
     change wpList _ _ _ _ _ W5.drew
     go_wp2
     go_ret
     obtain ⟨u1, u2, u3, u4, u5⟩ := HF.out
     have hX0 : MM.sub m f.m = 0 := by rw [← HX.out]; exact HM.out
     have hZ0 : m &&& F = 0 := by rw [← HZ.out]; exact HC.out.1
     have hi : PM.Inv fs (ts.set k (PM.down t ⟨x, y, m, c⟩)) := HI.out ⟨hX0, hZ0, HC.out.2⟩
     have hft : Foot (· = g) w (W5.setCell ⟨g, k * 4 + 3, none⟩ (.int .i64 ((C : Int) + c))).drew := by
      rw [HW5.out]
      refine (Foot.setCell (p := ⟨g, _, none⟩) (Foot.setCell (p := ⟨g, _, none⟩) (Foot.of_below H4.out) (.inl ?_) _).drew (.inl ?_) _).drew <;> rfl
     refine ⟨rfl, HP.out.wrote (PM.down t ⟨x, y, m, c⟩) _ _ u3 u4 H4.out hi hft (by rw [HW5.out]; rfl) ?_ ?_, hft⟩
     ·rw [HY.out, u1, PM.or_sub (PM.none_iff.1 hX0)]; rfl
     ·have hc5 := HC.out.2; simp only [PM.down]; omega
   ·have t3 : ((Z : Int) != 0) = true := by simpa using hz
    rw [if_pos (.inl hz)] at hR1
    subst hR1
    clear hz
    go_wp2
    go_quiet (fail)
    go_wp2
    go_ret
    exact ⟨rfl, HP.out.keep (below_drewN H3.out _), Foot.of_below (below_drewN H3.out _)⟩
  ·have hR1 := HR.out
   rw [← HX.out, if_pos hm] at hR1
   subst hR1
   have t1 : ((X : Int) != 0) = true := by simpa using hm
   clear hm
   go_wp2
   go_ret
   exact ⟨rfl, HP.out.keep H3.out, Foot.of_below H3.out⟩
end Go.Proofs.YtgpfmlidchogcaaGreat

namespace Go.Proofs.YtgpfmlidchogcaaGreat
open Go.RowKit

def clN (give : Bool) : Nat := if give then 129 else 126
def clV (give : Bool) (bx : Nat) : Value := .func (.func (clN give)) #[] #[.pointer (some ⟨bx, 0, none⟩)]
theorem cl_any {T : Nat → Prop} (give : Bool) (p g dm bx k : Nat) (fs ts : List Fr) (dr : List Bool) (f t : Fr) (s : PM.Sl) (w : World) (h : PoolAt w T p g dm fs ts dr) (hbx : w.cell? ⟨bx, 0, none⟩ = some (.pointer (some ⟨p, 0, none⟩))) (hs : SlOk s) (h0 : 0 ≤ s.c)
  (hk : PM.find s.n s.d fs = some k) (hf : fs[k]? = some f) (ht : ts[k]? = some t) :
  Calls Tryz.prog (clN give) #[.pointer (some ⟨g, k * 4, none⟩), slV s, .pointer (some ⟨bx, 0, none⟩)] w fun e w' =>
   e = .returned (.int .i64 (PM.one fs dr give s ts).1) ∧ PoolAt w' T p g dm fs (PM.one fs dr give s ts).2 dr ∧ Foot (· = g) w w' := by
 cases give
 ·exact take_cl p g dm bx k fs ts dr f t s w h hbx hs h0 hk hf ht
 ·exact give_cl p g dm bx k fs ts dr f t s w h hbx hs h0 hk hf ht
set_option maxRecDepth 100000 in
set_option maxHeartbeats 2000000 in
theorem one_any {T : Nat → Prop} (give : Bool) (p g dm bx : Nat) (fs ts : List Fr) (dr : List Bool) (s : PM.Sl) (w : World) (h : PoolAt w T p g dm fs ts dr) (hbx : w.cell? ⟨bx, 0, none⟩ = some (.pointer (some ⟨p, 0, none⟩))) (hs : SlOk s) :
  Calls Tryz.prog 150 #[.pointer (some ⟨p, 0, none⟩), slV s, clV give bx] w fun e w' =>
   e = .returned (.int .i64 (PM.one fs dr give s ts).1) ∧ PoolAt w' T p g dm fs (PM.one fs dr give s ts).2 dr ∧ Foot (· = g) w w' := by
 obtain ⟨R, hR⟩ : ∃ R, R = PM.one fs dr give s ts := ⟨_, rfl⟩
 rw [← hR]
 have HP := Lib.hid h
 have hB1 := (Below.refl w.heap.size w).alloc (Nat.le_refl _) (.cells #[.int .i64 s.n, .int .i64 s.d, .int .u64 (s.m : Nat), .int .i64 s.c] 41)
 have HB := Lib.hid hB1
 have kc := bounds_i64 hs.c
 by_cases h0 : s.c < 0
 ·have e : R = (1, ts) := by rw [hR]; unfold PM.one; rw [if_pos h0]
  subst e
  clear hR h hbx hs hB1
  obtain ⟨x, y, m, c⟩ := s
  simp only [slV] at *
  have t0 : decide (c < 0) = true := by simpa using h0
  go_enter Tryz.func150, Tryz.ntmps150
  go_wp2
  go_ret
  exact ⟨rfl, HP.out.keep HB.out, Foot.of_below HB.out⟩
 obtain ⟨a, c0, hT⟩ := h.topo
 obtain ⟨a', h1, _⟩ := h.blk
 have c1 : w.cell? ⟨p, 1, none⟩ = some (.slice (some ⟨g, 0, none⟩) fs.length fs.length) := cell_blk (i := 1) h1 rfl
 have hlp := h.lt.1
 have hbl := lt_of_cell hbx
 have hT2 := Lib.hid hT
 have hbW := heap_alloc_new w (.cells #[.int .i64 s.n, .int .i64 s.d, .int .u64 (s.m : Nat), .int .i64 s.c] 41)
 have b0 := (hB1.cell (p := ⟨p, 0, none⟩) hlp).trans c0
 have b1 := (hB1.cell (p := ⟨p, 1, none⟩) hlp).trans c1
 have e0 : (w.alloc (.cells #[.int .i64 s.n, .int .i64 s.d, .int .u64 (s.m : Nat), .int .i64 s.c] 41)).cell? ⟨w.heap.size, 0, none⟩ = some (.int .i64 s.n) := cell_blk (i := 0) hbW rfl
 have e1 : (w.alloc (.cells #[.int .i64 s.n, .int .i64 s.d, .int .u64 (s.m : Nat), .int .i64 s.c] 41)).cell? ⟨w.heap.size, 1, none⟩ = some (.int .i64 s.d) := cell_blk (i := 1) hbW rfl
 have Hb := Lib.hid hbW
 have HS := Lib.hid hs
 have HX := Lib.hid hbx
 cases hk : PM.find s.n s.d fs with
 | none =>
  have e : R = (3, ts) := by rw [hR]; unfold PM.one; rw [if_neg h0]; simp only [hk]
  subst e
  have hI := Lib.hid (fun W (hW : Below w.heap.size w W) => index_miss a dr.length s.n s.d fs W (hT2.out.keep hW) hs.n hs.d (PM.find_miss hk))
  clear hR h hbx hs hB1 h1 hT c0 c1 hk hbW
  obtain ⟨x, y, m, c⟩ := s
  simp only [slV] at *
  have t0 : decide (c < 0) = false := by simpa using h0
  go_enter Tryz.func150, Tryz.ntmps150
  go_wp2
  obtain ⟨W, hW⟩ : ∃ W, W = w.alloc (.cells #[.int .i64 x, .int .i64 y, .int .u64 (m : Nat), .int .i64 c] 41) := ⟨_, rfl⟩
  rw [← hW] at b0 b1 e0 e1 HB Hb ⊢
  have lb : p < W.heap.size ∧ w.heap.size < W.heap.size := by rw [hW]; simp; omega
  clear hW
  go_region_held3 (fun w' => w'.cell? ⟨p, 0, none⟩ = some (.pointer (some ⟨a, 0, none⟩)) ∧ w'.cell? ⟨w.heap.size, 0, none⟩ = some (.int .i64 x) ∧ w'.cell? ⟨w.heap.size, 1, none⟩ = some (.int .i64 y))
   (go_keep)
   (first | (go_at_call 152; ((with_reducible refine (hI.out W.drew HB.out.drew).mono ?_); rintro e w1 ⟨rfl, hb1⟩); have hB7 : Below W.heap.size W w1 := below_step (Below.refl W.heap.size W).drew hb1; have v1 := (hB7.cell (p := ⟨p, 0, none⟩) lb.1).trans b0; have v2 := (hB7.cell (p := ⟨w.heap.size, 0, none⟩) lb.2).trans e0; have v3 := (hB7.cell (p := ⟨w.heap.size, 1, none⟩) lb.2).trans e1))
  go_wp2
  go_ret
  have hB9 := HB.out.trans (hB7.mono (by omega))
  exact ⟨rfl, HP.out.keep hB9, Foot.of_below hB9⟩
 | some k =>
  obtain ⟨f, hf, hfn, hfd⟩ := PM.find_hit hk
  obtain ⟨t, ht⟩ := get_lt (l := ts) (k := k) (by rw [h.inv.1]; exact (List.getElem?_eq_some_iff.1 hf).1)
  have hkl := (List.getElem?_eq_some_iff.1 hf).1
  have hfl := h.ok.few
  have hI := Lib.hid (fun W (hW : Below w.heap.size w W) => index_hit a dr.length k f fs W (hT2.out.keep hW) hf h.ok.dup)
  rw [hfn, hfd] at hI
  have hC := Lib.hid (fun W (hW : Below w.heap.size w W) => cl_any give p g dm bx k fs ts dr f t s W (h.keep hW) ((hW.cell (p := ⟨bx, 0, none⟩) hbl).trans hbx) hs (by omega) hk hf ht)
  rw [← hR] at hC
  obtain ⟨n, hn⟩ : ∃ n, fs.length = n := ⟨_, rfl⟩
  rw [hn] at hkl hfl b1
  clear hR h hbx hs hB1 h1 hT c0 c1 hk hbW hf ht hfn hfd hn
  obtain ⟨x, y, m, c⟩ := s
  cases give
  all_goals
   simp only [slV, clV, clN, Bool.false_eq_true, if_false, if_true] at *
   have t0 : decide (c < 0) = false := by simpa using h0
   go_enter Tryz.func150, Tryz.ntmps150
   go_wp2
   obtain ⟨W, hW⟩ : ∃ W, W = w.alloc (.cells #[.int .i64 x, .int .i64 y, .int .u64 (m : Nat), .int .i64 c] 41) := ⟨_, rfl⟩
   rw [← hW] at b0 b1 e0 e1 HB Hb ⊢
   have lb : p < W.heap.size ∧ w.heap.size < W.heap.size := by rw [hW]; simp; omega
   clear hW
   go_region_held3 (fun w' => w'.cell? ⟨p, 0, none⟩ = some (.pointer (some ⟨a, 0, none⟩)) ∧ w'.cell? ⟨w.heap.size, 0, none⟩ = some (.int .i64 x) ∧ w'.cell? ⟨w.heap.size, 1, none⟩ = some (.int .i64 y))
    (go_keep)
    (first | (go_at_call 152; ((with_reducible refine (hI.out W.drew HB.out.drew).mono ?_); rintro e w1 ⟨rfl, hb1⟩); have hB7 : Below W.heap.size W w1 := below_step (Below.refl W.heap.size W).drew hb1; have v1 := (hB7.cell (p := ⟨p, 0, none⟩) lb.1).trans b0; have v2 := (hB7.cell (p := ⟨w.heap.size, 0, none⟩) lb.2).trans e0; have v3 := (hB7.cell (p := ⟨w.heap.size, 1, none⟩) lb.2).trans e1))
   have x1 := (hB7.cell (p := ⟨p, 1, none⟩) lb.1).trans b1
   have hbk := (hB7.block _ lb.2).trans Hb.out
   have y0 : w1.cell? ⟨w.heap.size, 0, none⟩ = some (.int .i64 x) := cell_blk (i := 0) hbk rfl
   have y1 : w1.cell? ⟨w.heap.size, 1, none⟩ = some (.int .i64 y) := cell_blk (i := 1) hbk rfl
   have y2 : w1.cell? ⟨w.heap.size, 2, none⟩ = some (.int .u64 (m : Nat)) := cell_blk (i := 2) hbk rfl
   have y3 : w1.cell? ⟨w.heap.size, 3, none⟩ = some (.int .i64 c) := cell_blk (i := 3) hbk rfl
   have H9 := Lib.hid (HB.out.trans (hB7.mono (by omega)))
   clear hbk v1 v2 v3 b0 b1 e0 e1 hB7 hb1
   go_wp2
   go_still_tail 8, (by kernel_rfl)
   change wpList _ _ _ _ _ w1.drew
   go_wp2_with (first | (go_at_call 126; refine (hC.out _ H9.out.drew).mono ?_; rintro e w2 ⟨rfl, hp2, hf2⟩) | (go_at_call 129; refine (hC.out _ H9.out.drew).mono ?_; rintro e w2 ⟨rfl, hp2, hf2⟩))
   go_ret
   exact ⟨rfl, hp2, (Foot.of_below H9.out.drew).trans hf2 fun i hi => .inl hi⟩
def SlAt (w : World) (b o : Nat) (s : PM.Sl) : Prop :=
 w.cell? ⟨b, o, none⟩ = some (.int .i64 s.n) ∧ w.cell? ⟨b, o + 1, none⟩ = some (.int .i64 s.d) ∧ w.cell? ⟨b, o + 2, none⟩ = some (.int .u64 (s.m : Nat)) ∧ w.cell? ⟨b, o + 3, none⟩ = some (.int .i64 s.c)
abbrev Slots (w : World) (B : Nat) (A : Option Addr) (l : List PM.Sl) : Prop := Rows B A (SlAt w) 4 l
theorem SlAt.of {w w' : World} {b o : Nat} {s : PM.Sl} (h : SlAt w b o s) (e : w'.heap[b]? = w.heap[b]?) : SlAt w' b o s := by
 have hc := fun o => World.cell?_of_block (w := w) (w' := w') (a := ⟨b, o, none⟩) e
 unfold SlAt at h ⊢
 rw [hc, hc, hc, hc]; exact h
theorem SlAt.keep {w w' : World} {B b o : Nat} {s : PM.Sl} (h : SlAt w b o s) (hb : b < B) (hk : Below B w w') : SlAt w' b o s := h.of (hk.block b hb)
theorem Slots.keep {w w' : World} {B B' : Nat} {A : Option Addr} {l : List PM.Sl} (h : Slots w B A l) (hk : Below B w w') (hB : B ≤ B') : Slots w' B' A l := h.imp hB fun _ _ _ hb hd => hd.keep hb hk
def Off (A : Option Addr) (F : Nat → Prop) : Prop := ∀ b off, A = some ⟨b, off, none⟩ → ¬ F b
theorem PoolAt.laid {T : Nat → Prop} {w w1 w' : World} {p g g' dm : Nat} {fs ts tk : List Fr} {dr : List Bool} (h0 : PoolAt w T p g dm fs ts dr) (h : PoolAt w1 T p g dm fs tk dr) (hg : w.heap.size ≤ g') (hr : w1.heap[g']? = some (rowBlk (PM.free fs ts)))
  (e : w' = w1.setCell ⟨p, 1, none⟩ (.slice (some ⟨g', 0, none⟩) fs.length fs.length)) (hne : p ≠ g') : PoolAt w' T p g' dm fs ts dr := by
 obtain ⟨n1, n2, n3⟩ := h0.ne
 obtain ⟨a, h1, h2⟩ := h.blk
 have hl : ∀ j, j ≠ p → w'.heap[j]? = w1.heap[j]? := fun j hj => by rw [e]; exact Below.heap_setCell _ _ _ _ hj
 have hs : w'.heap.size = w1.heap.size := by rw [e]; simp [World.setCell]
 refine ⟨h.ok, h0.inv, ⟨a, ?_, h2.off (by omega) fun i hi _ => hl i fun e => h.out.1 (e ▸ hi)⟩, (hl g' (Ne.symm hne)).trans hr, h.drs.of_block (hl dm (Ne.symm n2)), ⟨h0.out.1, fun ht => ?_, h0.out.2.2⟩, fun i hi => by rw [hs]; exact h.old i hi⟩
 ·rw [e]; exact blk_put _ h1
 ·have := h0.old g' ht; omega
theorem many_at {fs : List Fr} {dr : List Bool} {give : Bool} {l : List PM.Sl} {ts tk : List Fr} {k : Nat} {s : PM.Sl} (hx : l[k]? = some s) (h : PM.many fs dr give (l.take k) ts = (0, tk)) :
  ((PM.one fs dr give s tk).1 ≠ 0 → PM.whole fs dr give l ts = ((PM.one fs dr give s tk).1, ts)) ∧ ((PM.one fs dr give s tk).1 = 0 → PM.many fs dr give (l.take (k + 1)) ts = (0, (PM.one fs dr give s tk).2)) := by
 constructor
 ·intro h0
  have hl : l = l.take k ++ s :: l.drop (k + 1) := by
   have hk := (List.getElem?_eq_some_iff.1 hx)
   obtain ⟨hk, rfl⟩ := hk
   rw [← List.drop_eq_getElem_cons hk, List.take_append_drop]
  have e : (PM.many fs dr give l ts).1 = (PM.one fs dr give s tk).1 := by
   rw [hl, PM.many_split h, PM.many_first h0]
  unfold PM.whole
  rw [if_neg (by rw [e]; exact h0), e]
 ·intro h0
  rw [take_next hx, PM.many_split h]
  rw [PM.many_cons (ts1 := (PM.one fs dr give s tk).2) (Prod.ext h0 rfl)]
  rfl
set_option maxRecDepth 100000 in
set_option maxHeartbeats 2000000 in
theorem each_any {T : Nat → Prop} (give : Bool) (p g dm bx : Nat) (fs ts : List Fr) (dr : List Bool) (A : Option Addr) (cap : Nat) (l : List PM.Sl) (w : World) (h : PoolAt w T p g dm fs ts dr) (hbx : w.cell? ⟨bx, 0, none⟩ = some (.pointer (some ⟨p, 0, none⟩))) (hbg : bx ≠ g)
  (hs : ∀ s ∈ l, SlOk s) (hl : Slots w w.heap.size A l) (hA : l ≠ [] → Off A (· = g)) (hn : l.length ≤ maxLen) :
  Calls Tryz.prog 125 #[.pointer (some ⟨p, 0, none⟩), .slice A l.length cap, clV give bx] w fun e w' =>
   e = .returned (.int .i64 (PM.whole fs dr give l ts).1) ∧ ∃ g', PoolAt w' T p g' dm fs (PM.whole fs dr give l ts).2 dr ∧ Foot (fun i => i = p ∨ i = g) w w' ∧ (g' = g ∨ w.heap.size ≤ g') := by
 obtain ⟨R, hR⟩ : ∃ R, R = PM.whole fs dr give l ts := ⟨_, rfl⟩
 rw [← hR]
 have HP := Lib.hid h
 have hC := copied_any g (PM.free fs ts) w h.row (by rw [PM.free_len h.inv]; exact h.ok.pos) (by rw [PM.free_len h.inv]; exact h.ok.few)
 rw [PM.free_len h.inv] at hC
 have hC := Lib.hid hC
 obtain ⟨a, h1, _⟩ := h.blk
 have c1 : w.cell? ⟨p, 1, none⟩ = some (.slice (some ⟨g, 0, none⟩) fs.length fs.length) := cell_blk (i := 1) h1 rfl
 obtain ⟨l1, l2, l3⟩ := h.lt
 obtain ⟨n1, n2, n3⟩ := h.ne
 have hbl := lt_of_cell hbx
 obtain ⟨n, hln⟩ : ∃ n, l.length = n := ⟨_, rfl⟩
 have hone := Lib.hid (fun (tk : List Fr) (s : PM.Sl) (W : World) (hW : PoolAt W T p g dm fs tk dr) (hb : W.cell? ⟨bx, 0, none⟩ = some (.pointer (some ⟨p, 0, none⟩))) (hs : SlOk s) => one_any give p g dm bx fs tk dr s W hW hb hs)
 have H := Lib.hid (And.intro hR (And.intro hbx (And.intro hs (And.intro hl (And.intro hA hln)))))
 rw [hln] at hn ⊢
 unfold maxLen at hn
 clear hR h hbx hs hl hA hln h1
 obtain ⟨K, hK⟩ : ∃ K, K = clV give bx := ⟨_, rfl⟩
 rw [← hK] at hone ⊢
 clear hK
 go_enter Tryz.func125, Tryz.ntmps125
 go_wp2_with (go_at_call 115; refine hC.out.mono ?_; rintro e w1 ⟨rfl, hr1, hb1⟩)
 have HR1 := Lib.hid hr1
 have HB1 := Lib.hid hb1
 have hs1 : w.heap.size < w1.heap.size := blk_lt hr1
 clear hr1 hb1 c1
 go_loopw [18] (fun i wr => ∃ k : Nat, i = .int .i64 k ∧ k ≤ n ∧ w1.heap.size ≤ wr.heap.size ∧ Hid (Foot (· = g) w1 wr ∧ ∃ tk, PoolAt wr T p g dm fs tk dr ∧ PM.many fs dr give (l.take k) ts = (0, tk))) (fun i _ => n - (intOf i).toNat)
 case atStart => exact ⟨0, rfl, by omega, Nat.le_refl _, Lib.hid ⟨Foot.refl _ _, ts, HP.out.keep HB1.out, rfl⟩⟩
 case round =>
  obtain ⟨k, rfl, hk, hsz, hin⟩ := hrel
  obtain ⟨hft, tk, hpk, hmk⟩ := hin.out
  by_cases hlt : k < n
  ·obtain ⟨hR, hbx, hs, hl, hA, hln⟩ := H.out
   obtain ⟨s, hx⟩ := get_lt (l := l) (k := k) (by rw [hln]; exact hlt)
   obtain ⟨b, off, rfl, hb, hc⟩ := hl.at_ hx
   have hbg2 : b ≠ g := hA (by rintro rfl; simp at hx) b off rfl
   have hbk : wr.heap[b]? = w.heap[b]? := (hft.block b (by omega) hbg2).trans (HB1.out.block b hb)
   obtain ⟨s0, s1, s2, s3⟩ := (hc k s hx).of hbk
   have hbx2 : wr.cell? ⟨bx, 0, none⟩ = some (.pointer (some ⟨p, 0, none⟩)) := (World.cell?_of_block ((hft.block bx (by omega) hbg).trans (HB1.out.block bx hbl))).trans hbx
   have hso := hs s (List.mem_of_getElem? hx)
   have t0 : decide (k < n) = true := by simpa using hlt
   have hB2 := Lib.hid ((Below.refl wr.heap.size wr).alloc (Nat.le_refl _) (.cells #[.int .i64 s.n, .int .i64 s.d, .int .u64 (s.m : Nat), .int .i64 s.c] 41))
   have hO := Lib.hid (hone.out tk s _ (hpk.keep hB2.out) ((hB2.out.cell (p := ⟨bx, 0, none⟩) (by show bx < _; omega)).trans hbx2) hso)
   have HA := Lib.hid (many_at hx hmk)
   obtain ⟨E, hE⟩ : ∃ E, E = PM.one fs dr give s tk := ⟨_, rfl⟩
   rw [← hE] at hO HA
   have HF := Lib.hid hft
   clear hR hbx hs hl hA hln hx hc hbk hbx2 hso hpk hmk hE hin hft
   obtain ⟨x, y, m, c⟩ := s
   simp only [slV] at *
   by_cases he : E.1 = 0
   ·have t1 : (E.1 != 0) = false := by rw [he]; rfl
    have HE := Lib.hid he
    clear he
    go_wp2_with (go_at_call 150; refine hO.out.mono ?_; rintro e w2 ⟨rfl, hp2, hf2⟩)
    have hs2 := hf2.size
    simp at hs2
    go_roundw
    case rel => exact ⟨k + 1, by go_num, by omega, by omega, Lib.hid ⟨(HF.out.alloc _).trans hf2 (fun i hi => .inl hi), E.2, hp2, HA.out.2 HE.out⟩⟩
    case measure => simp [intOf]; omega
   ·have t1 : (E.1 != 0) = true := by simpa using he
    have HE := Lib.hid he
    clear he
    go_wp2_with (go_at_call 150; refine hO.out.mono ?_; rintro e w2 ⟨rfl, hp2, hf2⟩; have HP2 := Lib.hid hp2; obtain ⟨a2, hq1, _⟩ := hp2.blk; have z1 : w2.frozen? ⟨p, 1, none⟩ = false := frozen_blk hq1; have z2 : w2.cell? ⟨p, 1, none⟩ = some (.slice (some ⟨g, 0, none⟩) fs.length fs.length) := cell_blk (i := 1) hq1 rfl; have HF2 := Lib.hid hf2; clear hp2 hq1 hf2)
    go_ret
    have eR : R = (E.1, ts) := by rw [H.out.1]; exact HA.out.1 HE.out
    subst eR
    have hrow : w2.heap[w.heap.size]? = some (rowBlk (PM.free fs ts)) := by
     refine (HF2.out.block _ (by simp; omega) (by omega)).trans ?_
     refine (Below.heap_alloc wr _ _ (by omega)).trans ?_
     exact (HF.out.block _ hs1 (by omega)).trans HR1.out
    refine ⟨rfl, w.heap.size, HP.out.laid HP2.out (Nat.le_refl _) hrow rfl (by omega), ?_, .inr (Nat.le_refl _)⟩
    have hf3 : Foot (fun i => i = p ∨ i = g) w w2 := ((Foot.of_below HB1.out).trans ((HF.out.alloc _).trans HF2.out (fun i hi => .inl hi)) (fun i hi => .inl hi)).mono (fun i hi => .inr hi)
    exact hf3.setCell (p := ⟨p, 1, none⟩) (.inl (.inl rfl)) _
  ·obtain rfl : k = n := by omega
   obtain ⟨hR, hbx, hs, hl, hA, hln⟩ := H.out
   rw [← hln, List.take_length] at hmk
   have e : R = (0, tk) := by rw [hR]; exact PM.whole_of_many hmk
   subst e
   have HF := Lib.hid (And.intro hft hpk)
   clear hR hbx hs hl hA hln hmk hpk hft hin hlt
   go_wp2
   go_ret
   exact ⟨rfl, g, HF.out.2, ((Foot.of_below HB1.out).trans HF.out.1 (fun i hi => .inl hi)).mono (fun i hi => .inr hi), .inl rfl⟩
set_option maxHeartbeats 1000000 in
theorem take_any {T : Nat → Prop} (p g dm : Nat) (fs ts : List Fr) (dr : List Bool) (A : Option Addr) (cap : Nat) (l : List PM.Sl) (w : World) (h : PoolAt w T p g dm fs ts dr)
  (hs : ∀ s ∈ l, SlOk s) (hl : Slots w w.heap.size A l) (hA : l ≠ [] → Off A (· = g)) (hn : l.length ≤ maxLen) :
  Calls Tryz.prog 93 #[.pointer (some ⟨p, 0, none⟩), .slice A l.length cap] w fun e w' =>
   e = .returned (.int .i64 (PM.whole fs dr false l ts).1) ∧ ∃ g', PoolAt w' T p g' dm fs (PM.whole fs dr false l ts).2 dr ∧ Foot (fun i => i = p ∨ i = g) w w' ∧ (g' = g ∨ w.heap.size ≤ g') := by
 have hB := (Below.refl w.heap.size w).alloc (Nat.le_refl _) (.cells #[.pointer (some ⟨p, 0, none⟩)] 64)
 have hE := Lib.hid (each_any false p g dm w.heap.size fs ts dr A cap l _ (h.keep hB) (cell_blk (i := 0) (heap_alloc_new w _) rfl) (Nat.ne_of_gt h.lt.2.1) hs (Slots.keep hl hB (by simp)) hA hn)
 have HB := Lib.hid hB
 obtain ⟨R, hR⟩ : ∃ R, R = PM.whole fs dr false l ts := ⟨_, rfl⟩
 rw [← hR] at hE ⊢
 simp only [clV, clN, Bool.false_eq_true, if_false] at hE
 have hmf : ∀ (fn : Fn) (first cap : Array Value) (w : World), (Instr.makeFunc fn first cap).run Tryz.prog w = .ok (.func fn first cap) w := fun _ _ _ _ => rfl
 clear hR h hs hl hA hn hB
 go_enter Tryz.func93, Tryz.ntmps93
 go_wp2_with (go_at_call 125; refine hE.out.mono ?_; rintro e w1 ⟨rfl, g', hp1, hf1, hg1⟩)
 go_ret
 refine ⟨rfl, g', hp1, (Foot.of_below HB.out).trans hf1 (fun i hi => .inl hi), ?_⟩
 simp at hg1
 omega
set_option maxHeartbeats 1000000 in
theorem give_any {T : Nat → Prop} (p g dm : Nat) (fs ts : List Fr) (dr : List Bool) (A : Option Addr) (cap : Nat) (l : List PM.Sl) (w : World) (h : PoolAt w T p g dm fs ts dr)
  (hs : ∀ s ∈ l, SlOk s) (hl : Slots w w.heap.size A l) (hA : l ≠ [] → Off A (· = g)) (hn : l.length ≤ maxLen) :
  Calls Tryz.prog 96 #[.pointer (some ⟨p, 0, none⟩), .slice A l.length cap] w fun e w' =>
   e = .returned (.int .i64 (PM.whole fs dr true l ts).1) ∧ ∃ g', PoolAt w' T p g' dm fs (PM.whole fs dr true l ts).2 dr ∧ Foot (fun i => i = p ∨ i = g) w w' ∧ (g' = g ∨ w.heap.size ≤ g') := by
 have hB := (Below.refl w.heap.size w).alloc (Nat.le_refl _) (.cells #[.pointer (some ⟨p, 0, none⟩)] 64)
 have hE := Lib.hid (each_any true p g dm w.heap.size fs ts dr A cap l _ (h.keep hB) (cell_blk (i := 0) (heap_alloc_new w _) rfl) (Nat.ne_of_gt h.lt.2.1) hs (Slots.keep hl hB (by simp)) hA hn)
 have HB := Lib.hid hB
 obtain ⟨R, hR⟩ : ∃ R, R = PM.whole fs dr true l ts := ⟨_, rfl⟩
 rw [← hR] at hE ⊢
 simp only [clV, clN, if_true] at hE
 have hmf : ∀ (fn : Fn) (first cap : Array Value) (w : World), (Instr.makeFunc fn first cap).run Tryz.prog w = .ok (.func fn first cap) w := fun _ _ _ _ => rfl
 clear hR h hs hl hA hn hB
 go_enter Tryz.func96, Tryz.ntmps96
 go_wp2_with (go_at_call 125; refine hE.out.mono ?_; rintro e w1 ⟨rfl, g', hp1, hf1, hg1⟩)
 go_ret
 refine ⟨rfl, g', hp1, (Foot.of_below HB.out).trans hf1 (fun i hi => .inl hi), ?_⟩
 simp at hg1
 omega
end Go.Proofs.YtgpfmlidchogcaaGreat

namespace Go.Proofs.YtgpfmlidchogcaaGreat
open Go.RowKit

theorem free_zero (fs : List Fr) : PM.free fs (PM.zero fs) = fs := by
 have e : ∀ f : Fr, PM.freeOf f ⟨f.n, f.d, 0, 0⟩ = f := fun f => by
  have : MM.sub f.m 0 = f.m := Nat.eq_of_testBit_eq fun i => by rw [MM.testBit_sub]; simp
  simp [PM.freeOf, this]
 unfold PM.free PM.zero
 induction fs with
 | nil => rfl
 | cons f fs ih => simp only [List.map_cons, List.zipWith_cons_cons, ih, e]
theorem fsOk {ns : List (List (Int × Int))} (h : cluOk ns = true) : FsOk (frees ns) ns.length :=
 ⟨frees_pos h, by have := frees_len h; omega, row_dup ns, frees_ok h, fun _ hf => frees_mem hf, by have := cluOk_len h; omega⟩
set_option maxRecDepth 100000 in
set_option maxHeartbeats 1000000 in
theorem poolnew_no (A : Option Addr) (c B : Nat) (ns : List (List (Int × Int))) (w : World) (h : Nodes w B A ns) (hB : B ≤ w.heap.size) (hok : cluOk ns = false) :
  Calls Tryz.prog 17 #[.agg #[.slice A ns.length c]] w fun e w' => e = .returned (.tuple #[.pointer none, .int .i64 1]) ∧ Below w.heap.size w w' := by
 have hB1 := (Below.refl w.heap.size w).alloc (Nat.le_refl _) (.cells #[.slice A ns.length c] 24)
 have hN := Lib.hid (new_no A c w.heap.size ns _ ((Nodes.keep h (Below.refl B w) hB).imp (Nat.le_refl _) fun _ _ _ hb hx => hx.keep hb hB1 (Nat.le_refl _)) hB1.size hok)
 have HB := Lib.hid hB1
 clear h hB hok hB1
 go_enter Tryz.func17, Tryz.ntmps17
 go_wp2_with (go_at_call 59; refine hN.out.mono ?_; rintro e w1 ⟨rfl, hb1⟩)
 go_ret2
 exact ⟨rfl, below_step HB.out hb1⟩
theorem Half.doneIn {w : World} {B a m k : Nat} {v : Value} {l : List Fr} (h : Half w B a m k v l) : TopoIn w (fun i => B ≤ i ∧ i < w.heap.size) a k l := by
 obtain ⟨A, c, rfl⟩ := h.form
 refine ⟨m, A, c, h.blk, ?_, h.map, ⟨h.ha, blk_lt h.blk⟩, ⟨h.hm, h.map.lt⟩, fun b off e => ?_⟩
 ·rcases h.own.2 with ⟨e, h0⟩ | ⟨g, cap, cur, e, _⟩
  ·exact .inl (List.length_eq_zero_iff.1 h0)
  ·cases e; exact own_frees h.own
 ·subst e
  rcases h.own.2 with ⟨e, h0⟩ | ⟨g, cap, cur, e, _⟩
  ·cases e
  ·cases e; exact h.own.lt _ rfl
theorem topo_new_in (A : Option Addr) (c B : Nat) (ns : List (List (Int × Int))) (w : World) (h : Nodes w B A ns) (hB : B ≤ w.heap.size) (hok : cluOk ns = true) :
  Calls Tryz.prog 59 #[.agg #[.slice A ns.length c]] w fun e w' => ∃ a, e = .returned (.tuple #[.pointer (some ⟨a, 0, none⟩), .int .i64 0]) ∧ TopoIn w' (fun i => w.heap.size ≤ i ∧ i < w'.heap.size) a ns.length (frees ns) ∧ Below w.heap.size w w' := by
 obtain ⟨x, hx⟩ := get_lt (l := ns) (k := 0) (by have := cluOk_len hok; omega)
 obtain ⟨b, off, rfl, hb, hc⟩ := h.at_ hx
 exact (new_loop b off c B _ ns rfl w hb hc hB hok).mono fun e w' ⟨a, m, v, he, hH, hb⟩ => ⟨a, he, hH.doneIn, hb⟩
set_option maxRecDepth 100000 in
set_option maxHeartbeats 1000000 in
theorem poolnew_ok (A : Option Addr) (c B : Nat) (ns : List (List (Int × Int))) (w : World) (h : Nodes w B A ns) (hB : B ≤ w.heap.size) (hok : cluOk ns = true) :
  Calls Tryz.prog 17 #[.agg #[.slice A ns.length c]] w fun e w' => ∃ T p g dm, e = .returned (.tuple #[.pointer (some ⟨p, 0, none⟩), .int .i64 0]) ∧
   PoolAt w' T p g dm (frees ns) (PM.zero (frees ns)) (List.replicate ns.length false) ∧ Below w.heap.size w w' ∧ w.heap.size ≤ p ∧ w.heap.size ≤ g ∧ w.heap.size ≤ dm ∧ ∀ i, T i → w.heap.size ≤ i := by
 have hB1 := (Below.refl w.heap.size w).alloc (Nat.le_refl _) (.cells #[.slice A ns.length c] 24)
 have hN := Lib.hid (topo_new_in A c w.heap.size ns _ ((Nodes.keep h (Below.refl B w) hB).imp (Nat.le_refl _) fun _ _ _ hb hx => hx.keep hb hB1 (Nat.le_refl _)) hB1.size hok)
 have hA := Lib.hid (fun a W hW => all_law a ns.length ns hok W hW)
 have HB := Lib.hid hB1
 have HF := Lib.hid (fsOk hok)
 obtain ⟨n, hn⟩ : ∃ n, (frees ns).length = n := ⟨_, rfl⟩
 rw [hn] at hA
 have Hn := Lib.hid hn
 have hmm := @run_makeMap Tryz.prog
 clear h hB hok hB1 hn
 go_enter Tryz.func17, Tryz.ntmps17
 go_wp2_with (first
  | (go_at_call 59; refine hN.out.mono ?_; rintro e w1 ⟨a, rfl, hT, hb1⟩; have HT := Lib.hid hT; have HB1 := Lib.hid hb1; clear hT hb1)
  | (go_at_call 60; refine (hA.out a _ HT.out.at_).mono ?_; rintro e w2 ⟨g, rfl, hg, hr, hb2⟩; have HR := Lib.hid hr; have HB2 := Lib.hid hb2; clear hr hb2))
 go_ret2
 have hs2 := HB2.out.size
 have hs1 := HB1.out.size
 simp at hs1
 have hB9 := below_step (below_step HB.out HB1.out) HB2.out
 have HB9 : Below w.heap.size w ((w2.alloc (.map #[] 0)).alloc (.cells #[.pointer (some ⟨a, 0, none⟩), .slice (some ⟨g, 0, none⟩) n n, .map (some w2.heap.size)] 135)) :=
  (hB9.alloc (by omega) _).alloc (by simp; omega) _
 have hgl := blk_lt HR.out
 have hT9 : Below w1.heap.size w1 ((w2.alloc (.map #[] 0)).alloc (.cells #[.pointer (some ⟨a, 0, none⟩), .slice (some ⟨g, 0, none⟩) n n, .map (some w2.heap.size)] 135)) := (HB2.out.alloc hs2 _).alloc (by simp; omega) _
 refine ⟨fun i => (w.alloc (.cells #[.slice A ns.length c] 24)).heap.size ≤ i ∧ i < w1.heap.size, w2.heap.size + 1, g, w2.heap.size, rfl, ⟨by rw [List.length_replicate]; exact HF.out, PM.zero_inv _, ⟨a, ?_, ?_⟩, ?_, ?_, ⟨?_, ?_, ?_⟩, ?_⟩, HB9, by omega, by omega, by omega, fun i hi => by have := hi.1; simp at this; omega⟩
 ·have := heap_alloc_new (w2.alloc (.map #[] 0)) (.cells #[.pointer (some ⟨a, 0, none⟩), .slice (some ⟨g, 0, none⟩) n n, .map (some w2.heap.size)] 135)
  unfold poolBlk
  rw [Hn.out]
  simpa using this
 ·rw [List.length_replicate]; exact HT.out.off hT9.size fun i _ hl => hT9.block i hl
 ·rw [free_zero]
  exact (Below.heap_alloc _ _ _ (by simp; omega)).trans ((Below.heap_alloc w2 _ _ hgl).trans HR.out)
 ·exact (Drs.new w2 _).of_block (Below.heap_alloc _ _ _ (by simp))
 ·rintro ⟨_, h⟩; omega
 ·rintro ⟨_, h⟩; omega
 ·rintro ⟨_, h⟩; omega
 ·rintro i ⟨_, h⟩; simp; omega
def seen (dr : List Bool) (f : Fr) : Bool := !(dr[f.n]?.getD false)
theorem filter_next {q : Fr → Bool} {l : List Fr} {k : Nat} {f : Fr} (h : l[k]? = some f) : (l.take (k + 1)).filter q = (l.take k).filter q ++ (if q f = true then [f] else []) := by
 rw [take_next h, List.filter_append]
 by_cases e : q f = true
 ·rw [if_pos e, List.filter_cons_of_pos e]; rfl
 ·rw [if_neg e, List.filter_cons_of_neg e]; rfl
theorem FsOk.free {fs ts : List Fr} {n : Nat} (h : FsOk fs n) (hi : PM.Inv fs ts) : ∀ f ∈ PM.free fs ts, f.m < 18446744073709551616 ∧ f.c ≤ 1024 ∧ f.n < n := by
 intro f hf
 obtain ⟨k, hk⟩ := List.mem_iff_getElem?.1 hf
 have hkl := (List.getElem?_eq_some_iff.1 hk).1
 rw [PM.free_len hi] at hkl
 obtain ⟨g, hg⟩ := get_lt hkl
 obtain ⟨t, ht⟩ := get_lt (l := ts) (k := k) (by rw [hi.1]; exact hkl)
 rw [PM.free_at hg ht] at hk
 cases hk
 have hm := List.mem_of_getElem? hg
 obtain ⟨a, b⟩ := h.ok g hm
 exact ⟨MM.sub_lt _ a, by simp only [PM.freeOf]; omega, h.node g hm⟩
set_option maxRecDepth 100000 in
set_option maxHeartbeats 4000000 in
theorem view_any {T : Nat → Prop} (p g dm : Nat) (fs ts : List Fr) (dr : List Bool) (w : World) (h : PoolAt w T p g dm fs ts dr) :
  Calls Tryz.prog 83 #[.pointer (some ⟨p, 0, none⟩)] w fun e w' => ∃ v, e = .returned v ∧ w'.ownsRow w.heap.size 144 4 v (PM.view fs ts dr).length ((PM.view fs ts dr).flatMap frC) ∧ Below w.heap.size w w' := by
 obtain ⟨L, hL⟩ : ∃ L, L = PM.free fs ts := ⟨_, rfl⟩
 have hvw : PM.view fs ts dr = L.filter (seen dr) := by rw [hL]; rfl
 rw [hvw]
 have hok := h.ok.free h.inv
 have hlen := PM.free_len h.inv
 have hfew := h.ok.few
 have hnod := h.ok.nodes
 rw [← hL] at hok hlen
 obtain ⟨n, hn⟩ : ∃ n, fs.length = n := ⟨_, rfl⟩
 rw [hn] at hlen hfew
 obtain ⟨a, h1, _⟩ := h.blk
 have c1 : w.cell? ⟨p, 1, none⟩ = some (.slice (some ⟨g, 0, none⟩) n n) := by rw [← hn]; exact cell_blk (i := 1) h1 rfl
 obtain ⟨l1, l2, l3⟩ := h.lt
 have hfr : ∀ i f, L[i]? = some f → FrAt w g (0 + i * 4) f := by
  have hr := h.row
  rw [← hL] at hr
  rcases blk_frees hr with e | ⟨b, off, e, _, hc⟩
  ·intro i f hf; rw [e] at hf; simp at hf
  ·cases e; exact hc
 have hD := Lib.hid (fun (f : Fr) (W : World) (hW : Below w.heap.size w W) (hf : f.n < 1000000) => drained_any p g dm fs ts dr (f.n : Int) W (h.keep hW) (wf_nat (by omega)))
 have Q := Lib.hid (And.intro hlen (And.intro hok hfr))
 obtain ⟨i0, hi, hz0, hz1, hz2⟩ := info_parts info_free
 clear h hL hvw hok hlen hfr h1 hn
 go_enter Tryz.func83, Tryz.ntmps83
 go_wp2
 go_loopw [3, 11] (fun out i wr => ∃ (k : Nat) (A : Option Addr) (cp : Nat), i = .int .i64 k ∧ out = .slice A ((L.take k).filter (seen dr)).length cp ∧ k ≤ n ∧ Below w.heap.size w wr ∧ wr.ownsRow w.heap.size 144 4 (.slice A ((L.take k).filter (seen dr)).length cp) ((L.take k).filter (seen dr)).length (((L.take k).filter (seen dr)).flatMap frC)) (fun _ i _ => n - (intOf i).toNat)
 case atStart => exact ⟨0, none, 0, rfl, rfl, by omega, Below.refl _ _, World.ownsRow_nil _ _ _ _⟩
 case round =>
  obtain ⟨k, A, cp, rfl, rfl, hk, hBl, hown⟩ := hrel
  have hBs := hBl.size
  by_cases hlt : k < n
  ·obtain ⟨hlen, hok, hfr⟩ := Q.out
   obtain ⟨f, hx⟩ := get_lt (l := L) (k := k) (by rw [hlen]; exact hlt)
   obtain ⟨f0, f1, f2, f3⟩ := (hfr k f hx).keep l2 hBl
   rw [Nat.zero_add] at f0 f1 f2 f3
   obtain ⟨fm, fc, fn⟩ := hok f (List.mem_of_getElem? hx)
   have t0 : decide (k < n) = true := by simpa using hlt
   have N := Lib.hid (filter_next (q := seen dr) hx)
   obtain ⟨V, hV⟩ : ∃ V, V = (L.take k).filter (seen dr) := ⟨_, rfl⟩
   have hVl : V.length ≤ 1000 := by
    rw [hV]; have := List.length_filter_le (seen dr) (L.take k); rw [List.length_take] at this; omega
   rw [← hV] at hown N ⊢
   obtain ⟨W, hW⟩ : ∃ W, W = wr.alloc (.cells #[.int .i64 (f.n : Nat), .int .i64 (f.d : Nat), .int .u64 (f.m : Nat), .int .i64 (f.c : Nat)] 144) := ⟨_, rfl⟩
   have hBW : Below w.heap.size w W := by rw [hW]; exact hBl.alloc hBs _
   have bF : W.heap[wr.heap.size]? = some (.cells #[.int .i64 (f.n : Nat), .int .i64 (f.d : Nat), .int .u64 (f.m : Nat), .int .i64 (f.c : Nat)] 144 (0, 0)) := by rw [hW]; exact heap_alloc_new wr _
   have hownW : W.ownsRow w.heap.size 144 4 (.slice A V.length cp) V.length (V.flatMap frC) := by rw [hW]; exact hown.alloc _
   have hD2 := Lib.hid (hD.out f W hBW (by omega))
   have HW := Lib.hid hW
   have x0 : W.cell? ⟨wr.heap.size, 0, none⟩ = some (.int .i64 (f.n : Nat)) := cell_blk (i := 0) bF rfl
   have x1 : W.cell? ⟨wr.heap.size, 1, none⟩ = some (.int .i64 (f.d : Nat)) := cell_blk (i := 1) bF rfl
   have x2 : W.cell? ⟨wr.heap.size, 2, none⟩ = some (.int .u64 (f.m : Nat)) := cell_blk (i := 2) bF rfl
   have x3 : W.cell? ⟨wr.heap.size, 3, none⟩ = some (.int .i64 (f.c : Nat)) := cell_blk (i := 3) bF rfl
   have HB := Lib.hid hBW
   have OW := Lib.hid hownW
   have hws : w.heap.size ≤ W.heap.size := hBW.size
   have HV := Lib.hid hV
   cases hs : isDr dr (f.n : Int)
   ·rw [hs] at hD2
    have hsn : seen dr f = true := by unfold seen; rw [← isDr_nat, hs]; rfl
    rw [if_pos hsn] at N
    clear hx hW hBW bF hownW hown hV hlen hok hfr hs hsn
    go_wp2_with fail
    rw [← HW.out]
    go_wp2_with (first
     | (go_at_call 88; refine hD2.out.mono ?_; rintro e w2 ⟨rfl, rfl⟩)
     | (at_builtin; refine wpList_append_lies _ rfl _ _ 111 rfl w.heap.size 144 i0 _ 4 32 Tryz.underlying111 hi hz0 hz1 hz2 rfl (by decide) (.slice A V.length cp) V.length (V.flatMap frC) rfl (OW.out.alloc _) ⟨W.heap.size, 0, none⟩ 1 1 [.int .i64 (f.n : Nat), .int .i64 (f.d : Nat), .int .u64 (f.m : Nat), .int .i64 (f.c : Nat)] rfl rfl (World.news_of_block (cs := #[.int .i64 (f.n : Nat), .int .i64 (f.d : Nat), .int .u64 (f.m : Nat), .int .i64 (f.c : Nat)]) (t := 144) (fr := (0, 0)) (heap_alloc_new W _)) (by simp [Value.oneCell']) (by omega) (by unfold maxLen; omega) (by omega) (by simp; omega) (W.heap.size + 1) (by simp) ?_; intro gg cap' w3 hown3 hgrow hat hlt3))
    have hB6 : Below w.heap.size w w3 := (HB.out.alloc hws _).grown hgrow (by simp; omega) (fun i e => (OW.out.lt i e).1)
    have hown6 : w3.ownsRow w.heap.size 144 4 (.slice (some ⟨gg, 0, none⟩) (V ++ [f]).length cap') (V ++ [f]).length ((V ++ [f]).flatMap frC) := by
     rw [List.length_append, List.flatMap_append]
     simpa [frC] using hown3
    go_roundw
    case rel => exact ⟨k + 1, some ⟨gg, 0, none⟩, cap', by go_num, by rw [N.out]; simp, by omega, hB6, by rw [N.out]; exact hown6⟩
    case measure => simp [intOf]; omega
   ·rw [hs] at hD2
    have hsn : ¬ seen dr f = true := by unfold seen; rw [← isDr_nat, hs]; simp
    rw [if_neg hsn, List.append_nil] at N
    clear hx hW hBW bF hownW hown hV hlen hok hfr hs hsn
    go_wp2_with fail
    rw [← HW.out]
    go_wp2_with (go_at_call 88; refine hD2.out.mono ?_; rintro e w2 ⟨rfl, rfl⟩)
    go_roundw
    case rel => exact ⟨k + 1, A, cp, by go_num, by rw [N.out], by omega, HB.out, by rw [N.out]; exact OW.out⟩
    case measure => simp [intOf]; omega
  ·obtain rfl : k = n := by omega
   have e : L.take k = L := by rw [← Q.out.1]; exact List.take_length
   rw [e] at hown ⊢
   have OW := Lib.hid hown
   clear hown hlt e
   go_wp2
   go_ret
   exact ⟨_, rfl, OW.out, hBl⟩
end Go.Proofs.YtgpfmlidchogcaaGreat

set_option maxRecDepth 100000
namespace Go.Proofs.YtgpfmlidchogcaaGreat
open Go.ChangeShapes Go.WideShapes Go.ChangeAt Go.RowKit Go.Deep

def slSh : Sh := .struct (.cons (.struct (.cons (.int .i64) (.cons (.int .i64) .nil))) (.cons (.int .u64) (.cons (.int .i64) .nil)))
structure Ac where
 kind : Int
 node : Int
 sl : List PM.Sl
structure AcOk (a : Ac) : Prop where
 kind : (Lit.int .i64 a.kind).wf = true
 node : (Lit.int .i64 a.node).wf = true
 sl : ∀ s ∈ a.sl, SlOk s
 few : a.sl.length ≤ maxLen
def ActAt (w : World) (B b o : Nat) (a : Ac) : Prop :=
 ∃ A c, w.cell? ⟨b, o, none⟩ = some (.int .i64 a.kind) ∧ w.cell? ⟨b, o + 1, none⟩ = some (.int .i64 a.node) ∧ w.cell? ⟨b, o + 2, none⟩ = some (.slice A a.sl.length c) ∧ Slots w B A a.sl
abbrev Acts (w : World) (B : Nat) (A : Option Addr) (l : List Ac) : Prop := Rows B A (ActAt w B) 3 l
theorem ActAt.keep {w w' : World} {B b o : Nat} {a : Ac} (h : ActAt w B b o a) (hb : b < B) (hk : Below B w w') : ActAt w' B b o a := by
 obtain ⟨A, c, h1, h2, h3, h4⟩ := h
 exact ⟨A, c, (hk.cell (p := ⟨b, o, none⟩) hb).trans h1, (hk.cell (p := ⟨b, o + 1, none⟩) hb).trans h2, (hk.cell (p := ⟨b, o + 2, none⟩) hb).trans h3, Slots.keep h4 hk (Nat.le_refl _)⟩
theorem Acts.keep {w w' : World} {B : Nat} {A : Option Addr} {l : List Ac} (h : Acts w B A l) (hk : Below B w w') : Acts w' B A l := h.imp (Nat.le_refl _) fun _ _ _ hb hd => hd.keep hb hk
theorem nat_of_u64 {m : Int} (h : (Lit.int .u64 m).wf = true) : ∃ n : Nat, m = n ∧ n < 18446744073709551616 := by
 have := bounds_u64 h
 exact ⟨m.toNat, by omega, by omega⟩
theorem sl_lift {w : World} {B : Nat} {cs : List Value} (hl : cs.length = 4) (h : slSh.Holds w B cs) : ∃ s : PM.Sl, cs = [.int .i64 s.n, .int .i64 s.d, .int .u64 (s.m : Nat), .int .i64 s.c] ∧ SlOk s := by
 match cs, hl with
 | [a, b, c, d], _ =>
  simp [slSh, Sh.Holds, Sh.size] at h
  obtain ⟨⟨⟨x, rfl, hx⟩, ⟨y, rfl, hy⟩⟩, ⟨m, rfl, hm⟩, ⟨z, rfl, hz⟩⟩ := h
  obtain ⟨n, rfl, hn⟩ := nat_of_u64 hm
  exact ⟨⟨x, y, n, z⟩, rfl, ⟨hx, hy, hn, hz⟩⟩
theorem sl_at {w : World} {b o : Nat} {s : PM.Sl} {cs : List Value} (e : cs = [.int .i64 s.n, .int .i64 s.d, .int .u64 (s.m : Nat), .int .i64 s.c]) (hat : ∀ j u, cs[j]? = some u → w.cell? ⟨b, o + j, none⟩ = some u) : SlAt w b o s := by
 subst e
 exact ⟨hat 0 _ rfl, hat 1 _ rfl, hat 2 _ rfl, hat 3 _ rfl⟩
theorem slots_lift {w : World} {B : Nat} {v : Value} (h : (Sh.slice slSh).Holds w B [v]) : ∃ (A : Option Addr) (c : Nat) (l : List PM.Sl), v = .slice A l.length c ∧ l.length ≤ c ∧ c ≤ maxLen ∧ Slots w B A l ∧ ∀ s ∈ l, SlOk s :=
 rows_of h fun b o cs _ hl hat hh => by
  obtain ⟨s, e, hs⟩ := sl_lift hl hh
  exact ⟨s, sl_at e hat, hs⟩
section
variable {H : Type} {enc : TypeId × Value → H} {w : World} {held : Bool} {r : Reach} {b0 : Nat} {v : Value} {d : DataW H} {p : List MemPlace}
end
/-! ### few -/
/-! ### do -/
def act (fs : List Fr) (st : List Fr × List Bool) (a : Ac) : Int × List Fr × List Bool :=
 if a.kind = 0 then ((PM.whole fs st.2 false a.sl st.1).1, (PM.whole fs st.2 false a.sl st.1).2, st.2)
 else if a.kind = 1 then ((PM.whole fs st.2 true a.sl st.1).1, (PM.whole fs st.2 true a.sl st.1).2, st.2)
 else if a.kind = 2 then ((turn st.2 a.node true).1, st.1, (turn st.2 a.node true).2)
 else ((turn st.2 a.node false).1, st.1, (turn st.2 a.node false).2)
end Go.Proofs.YtgpfmlidchogcaaGreat

set_option maxRecDepth 100000
namespace Go.Proofs.YtgpfmlidchogcaaGreat
open Go.RowKit

def aw3 : List (List (Int × Int)) := [[(4, 8)]]
theorem aw3_ok : cluOk aw3 = true := by decide
theorem aw3_nodes (w W : World) (h0 : W.heap[w.heap.size]? = some (.cells #[.int .i64 4, .int .i64 8] 53 (0, 0))) (h1 : W.heap[w.heap.size + 1]? = some (.cells #[.slice (some ⟨w.heap.size, 0, none⟩) 1 1] 56 (0, 0))) :
  Nodes W W.heap.size (some ⟨w.heap.size + 1, 0, none⟩) aw3 := by
 have l0 := blk_lt h0
 have l1 := blk_lt h1
 refine .inr ⟨w.heap.size + 1, 0, rfl, l1, fun i x hx => ?_⟩
 match i, hx with
 | 0, hx =>
  simp [aw3] at hx; subst hx
  refine ⟨some ⟨w.heap.size, 0, none⟩, 1, cell_blk (i := 0) h1 rfl, by simp, by unfold maxLen; simp, .inr ⟨w.heap.size, 0, rfl, l0, fun j y hy => ?_⟩⟩
  match j, hy with
  | 0, hy => simp at hy; subst hy; exact ⟨cell_blk (i := 0) h0 rfl, cell_blk (i := 1) h0 rfl⟩
  | j + 1, hy => simp at hy
 | i + 1, hx => simp [aw3] at hx
theorem slot_blk {W : World} {b : Nat} {s : PM.Sl} (h : W.heap[b]? = some (.cells #[.int .i64 s.n, .int .i64 s.d, .int .u64 (s.m : Nat), .int .i64 s.c] 41 (0, 0))) : Slots W W.heap.size (some ⟨b, 0, none⟩) [s] := by
 refine .inr ⟨b, 0, rfl, blk_lt h, fun i x hx => ?_⟩
 match i, hx with
 | 0, hx => simp at hx; subst hx; exact ⟨cell_blk (i := 0) h rfl, cell_blk (i := 1) h rfl, cell_blk (i := 2) h rfl, cell_blk (i := 3) h rfl⟩
 | i + 1, hx => simp at hx
end Go.Proofs.YtgpfmlidchogcaaGreat

set_option maxRecDepth 100000
namespace Go.Proofs.YtgpfmlidchogcaaGreat
open Go.RowKit

theorem own_rows {w : World} {B : Nat} {v : Value} {l : List Fr} (h : w.ownsRow B 144 4 v l.length (l.flatMap frC)) : ∃ A c, v = .slice A l.length c ∧ Frees w w.heap.size A l := by
 rcases h.2 with ⟨rfl, h0⟩ | ⟨g, cap, cur, rfl, _⟩
 ·exact ⟨none, 0, by rw [h0], .inl (List.length_eq_zero_iff.1 h0)⟩
 ·exact ⟨_, _, rfl, own_frees h⟩
theorem free_row {T : Nat → Prop} (p g dm : Nat) (fs ts : List Fr) (dr : List Bool) (w : World) (h : PoolAt w T p g dm fs ts dr) :
  Calls Tryz.prog 82 #[.pointer (some ⟨p, 0, none⟩)] w fun e w' => e = .returned (.slice (some ⟨w.heap.size, 0, none⟩) (PM.free fs ts).length (PM.free fs ts).length) ∧ Frees w' w'.heap.size (some ⟨w.heap.size, 0, none⟩) (PM.free fs ts) ∧ Below w.heap.size w w' := by
 rw [PM.free_len h.inv]
 exact (free_any p g dm fs ts dr w h).mono fun e w' ⟨he, hr, hb⟩ => ⟨he, blk_frees hr, hb⟩
theorem view_sub (fs ts : List Fr) (dr : List Bool) : ∀ f ∈ PM.view fs ts dr, f ∈ PM.free fs ts := fun _ hf => (List.mem_filter.1 hf).1
theorem FsOk.freeOk {fs ts : List Fr} {n : Nat} (h : FsOk fs n) (hi : PM.Inv fs ts) : ∀ f ∈ PM.free fs ts, f.m < 18446744073709551616 ∧ f.c ≤ 1024 := fun f hf => by
 obtain ⟨a, b, _⟩ := h.free hi f hf; exact ⟨a, b⟩
theorem FsOk.viewOk {fs ts : List Fr} {dr : List Bool} {n : Nat} (h : FsOk fs n) (hi : PM.Inv fs ts) : (PM.view fs ts dr).length ≤ 1000 ∧ ∀ f ∈ PM.view fs ts dr, f.m < 18446744073709551616 ∧ f.c ≤ 1024 := by
 refine ⟨?_, fun f hf => h.freeOk hi f (view_sub _ _ _ f hf)⟩
 have := List.length_filter_le (fun f : Fr => !(dr[f.n]?.getD false)) (PM.free fs ts)
 rw [PM.free_len hi] at this
 have := h.few
 unfold PM.view
 omega
theorem same_rows (A A' : Option Addr) (c c' : Nat) (l : List Fr) (w : World) (h : Frees w w.heap.size A l) (h' : Frees w w.heap.size A' l) (h0 : 0 < l.length) (hl : l.length ≤ 1000) :
  Calls Tryz.prog 40 #[.slice A l.length c, .slice A' l.length c'] w fun e w' => e = .returned (.bool true) ∧ Below w.heap.size w w' := by
 obtain ⟨f, hf⟩ := get_lt h0
 obtain ⟨b, off, rfl, hb, hc⟩ := h.at_ hf
 obtain ⟨b', off', rfl, hb', hc'⟩ := h'.at_ hf
 exact same_some b off c l.length b' off' c' l w rfl hb hb' hc hc' hl
/-! ### Drains -/
theorem view_new {T : Nat → Prop} (p g dm : Nat) (fs ts : List Fr) (dr : List Bool) (w : World) (h : PoolAt w T p g dm fs ts dr) :
  Calls Tryz.prog 83 #[.pointer (some ⟨p, 0, none⟩)] w fun e w' => ∃ A c, e = .returned (.slice A (PM.view fs ts dr).length c) ∧ Frees w' w'.heap.size A (PM.view fs ts dr) ∧ (∀ b off, A = some ⟨b, off, none⟩ → w.heap.size ≤ b ∧ b < w'.heap.size) ∧ Below w.heap.size w w' :=
 (view_any p g dm fs ts dr w h).mono fun e w' ⟨v, he, ho, hb⟩ => by
  rcases ho.2 with ⟨rfl, h0⟩ | ⟨g, cap, cur, rfl, _⟩
  ·exact ⟨none, 0, by rw [he, h0], .inl (List.length_eq_zero_iff.1 h0), (fun _ _ e => by cases e), hb⟩
  ·exact ⟨_, _, he, own_frees ho, (fun b off e => by cases e; exact ho.lt _ rfl), hb⟩
set_option maxHeartbeats 1000000 in
theorem same_nil (A A' : Option Addr) (c c' : Nat) (w : World) :
  Calls Tryz.prog 40 #[.slice A 0 c, .slice A' 0 c'] w fun e w' => e = .returned (.bool true) ∧ Below w.heap.size w w' := by
 go_enter Tryz.func40, Tryz.ntmps40
 go_wp2
 refine wp_loop_rounds 1 ?_
 rw [rounds_succ]
 go_wp2
 go_ret
 exact ⟨rfl, Below.refl _ _⟩
theorem same_any (A A' : Option Addr) (c c' : Nat) (l : List Fr) (w : World) (h : Frees w w.heap.size A l) (h' : Frees w w.heap.size A' l) (hl : l.length ≤ 1000) :
  Calls Tryz.prog 40 #[.slice A l.length c, .slice A' l.length c'] w fun e w' => e = .returned (.bool true) ∧ Below w.heap.size w w' := by
 cases l with
 | nil => exact same_nil A A' c c' w
 | cons f l => exact same_rows A A' c c' (f :: l) w h h' (by simp) hl
/-! ### All units of a cluster -/
def slC (s : PM.Sl) : List Value := [.int .i64 s.n, .int .i64 s.d, .int .u64 (s.m : Nat), .int .i64 s.c]
theorem slflat_at : ∀ {l : List PM.Sl} {i r : Nat} {f : PM.Sl}, l[i]? = some f → r < 4 → (l.flatMap slC)[i * 4 + r]? = (slC f)[r]?
 | [], _, _, _, h, _ => by simp at h
 | x :: l, 0, r, f, h, hr => by
  simp at h; subst h
  rw [List.flatMap_cons, List.getElem?_append_left (by simp [slC]; omega)]; simp
 | x :: l, i + 1, r, f, h, hr => by
  rw [List.flatMap_cons, List.getElem?_append_right (by simp [slC]; omega), show (i + 1) * 4 + r - (slC x).length = i * 4 + r by simp [slC]; omega]
  exact slflat_at (by simpa using h) hr
theorem info_slot : (Tryz.prog.info? 41).map (fun i => (i.zero, i.size, i.bytes)) = some (some (.agg #[.int .i64 0, .int .i64 0, .int .u64 0, .int .i64 0]), 4, 32) := by kernel_rfl
theorem own_slots {w : World} {B : Nat} {A : Option Addr} {c : Nat} {l : List PM.Sl} (h : w.ownsRow B 41 4 (.slice A l.length c) l.length (l.flatMap slC)) : Slots w w.heap.size A l := by
 rcases h.2 with ⟨e, h0⟩ | ⟨g, cap, cur, e, _⟩
 ·exact .inl (List.length_eq_zero_iff.1 h0)
 ·cases e
  refine .inr ⟨g, 0, rfl, (h.lt g rfl).2, fun i f hf => ?_⟩
  have hi : i < l.length := (List.getElem?_eq_some_iff.1 hf).1
  have hc : ∀ r, r < 4 → w.cell? ⟨g, 0 + i * 4 + r, none⟩ = (slC f)[r]? := fun r hr => by
   rw [← slflat_at hf hr, Nat.zero_add]
   exact h.cellAt _ (by omega)
  exact ⟨hc 0 (by omega), hc 1 (by omega), hc 2 (by omega), hc 3 (by omega)⟩
end Go.Proofs.YtgpfmlidchogcaaGreat
