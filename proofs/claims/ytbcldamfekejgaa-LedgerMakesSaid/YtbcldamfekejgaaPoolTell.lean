/- What a pool tells: New, View, Out. -/
import Derived.Test.YtbcldamfekejgaaPoolOne
namespace Go.Proofs.Ytbcldamfekejgaa
open Go.RowKit

theorem free_zero (fs : List Fr) : PM.free fs (PM.zero fs) = fs := by
  have e : ∀ f : Fr, PM.freeOf f ⟨f.n, f.d, 0, 0⟩ = f := fun f => by
    have : MM.sub f.m 0 = f.m := Nat.eq_of_testBit_eq fun i => by rw [MM.testBit_sub]; simp
    simp [PM.freeOf, this]
  unfold PM.free PM.zero
  induction fs with
  | nil => rfl
  | cons f fs ih => simp only [List.map_cons, List.zipWith_cons_cons, ih, e]
theorem fsOk {ns : List (List (Int × Int))} (h : cluOk ns = true) : FsOk (frees ns) ns.length :=
  ⟨frees_pos h, by have := frees_len h; omega, row_dup ns, frees_ok h, fun _ hf => frees_mem hf, by have := cluOk_len h; omega⟩
set_option maxRecDepth 100000 in
set_option maxHeartbeats 1000000 in
theorem poolnew_no (A : Option Addr) (c B : Nat) (ns : List (List (Int × Int))) (w : World) (h : Nodes w B A ns) (hB : B ≤ w.heap.size) (hok : cluOk ns = false) :
    Calls Try.prog 12 #[.agg #[.slice A ns.length c]] w fun e w' => e = .returned (.tuple #[.pointer none, .int .i64 1]) ∧ Below w.heap.size w w' := by
  have hB1 := (Below.refl w.heap.size w).alloc (Nat.le_refl _) (.cells #[.slice A ns.length c] 24)
  have hN := Lib.hid (new_no A c w.heap.size ns _ ((Nodes.keep h (Below.refl B w) hB).imp (Nat.le_refl _) fun _ _ _ hb hx => hx.keep hb hB1 (Nat.le_refl _)) hB1.size hok)
  have HB := Lib.hid hB1
  clear h hB hok hB1
  go_enter Try.func12, Try.ntmps12
  go_wp2_with (go_at_call 27; refine hN.out.mono ?_; rintro e w1 ⟨rfl, hb1⟩)
  go_ret2
  exact ⟨rfl, below_step HB.out hb1⟩
theorem Half.doneIn {w : World} {B a m k : Nat} {v : Value} {l : List Fr} (h : Half w B a m k v l) : TopoIn w (fun i => B ≤ i ∧ i < w.heap.size) a k l := by
  obtain ⟨A, c, rfl⟩ := h.form
  refine ⟨m, A, c, h.blk, ?_, h.map, ⟨h.ha, blk_lt h.blk⟩, ⟨h.hm, h.map.lt⟩, fun b off e => ?_⟩
  · rcases h.own.2 with ⟨e, h0⟩ | ⟨g, cap, cur, e, _⟩
    · exact .inl (List.length_eq_zero_iff.1 h0)
    · cases e; exact own_frees h.own
  · subst e
    rcases h.own.2 with ⟨e, h0⟩ | ⟨g, cap, cur, e, _⟩
    · cases e
    · cases e; exact h.own.lt _ rfl
theorem topo_new_in (A : Option Addr) (c B : Nat) (ns : List (List (Int × Int))) (w : World) (h : Nodes w B A ns) (hB : B ≤ w.heap.size) (hok : cluOk ns = true) :
    Calls Try.prog 27 #[.agg #[.slice A ns.length c]] w fun e w' => ∃ a, e = .returned (.tuple #[.pointer (some ⟨a, 0, none⟩), .int .i64 0]) ∧ TopoIn w' (fun i => w.heap.size ≤ i ∧ i < w'.heap.size) a ns.length (frees ns) ∧ Below w.heap.size w w' := by
  obtain ⟨x, hx⟩ := get_lt (l := ns) (k := 0) (by have := cluOk_len hok; omega)
  obtain ⟨b, off, rfl, hb, hc⟩ := h.at_ hx
  exact (new_loop b off c B _ ns rfl w hb hc hB hok).mono fun e w' ⟨a, m, v, he, hH, hb⟩ => ⟨a, he, hH.doneIn, hb⟩
set_option maxRecDepth 100000 in
set_option maxHeartbeats 1000000 in
theorem poolnew_ok (A : Option Addr) (c B : Nat) (ns : List (List (Int × Int))) (w : World) (h : Nodes w B A ns) (hB : B ≤ w.heap.size) (hok : cluOk ns = true) :
    Calls Try.prog 12 #[.agg #[.slice A ns.length c]] w fun e w' => ∃ T p g dm, e = .returned (.tuple #[.pointer (some ⟨p, 0, none⟩), .int .i64 0]) ∧
      PoolAt w' T p g dm (frees ns) (PM.zero (frees ns)) (List.replicate ns.length false) ∧ Below w.heap.size w w' ∧ w.heap.size ≤ p ∧ w.heap.size ≤ g ∧ w.heap.size ≤ dm ∧ ∀ i, T i → w.heap.size ≤ i := by
  have hB1 := (Below.refl w.heap.size w).alloc (Nat.le_refl _) (.cells #[.slice A ns.length c] 24)
  have hN := Lib.hid (topo_new_in A c w.heap.size ns _ ((Nodes.keep h (Below.refl B w) hB).imp (Nat.le_refl _) fun _ _ _ hb hx => hx.keep hb hB1 (Nat.le_refl _)) hB1.size hok)
  have hA := Lib.hid (fun a W hW => all_law a ns.length ns hok W hW)
  have HB := Lib.hid hB1
  have HF := Lib.hid (fsOk hok)
  obtain ⟨n, hn⟩ : ∃ n, (frees ns).length = n := ⟨_, rfl⟩
  rw [hn] at hA
  have Hn := Lib.hid hn
  have hmm := @run_makeMap Try.prog
  clear h hB hok hB1 hn
  go_enter Try.func12, Try.ntmps12
  go_wp2_with (first
    | (go_at_call 27; refine hN.out.mono ?_; rintro e w1 ⟨a, rfl, hT, hb1⟩; have HT := Lib.hid hT; have HB1 := Lib.hid hb1; clear hT hb1)
    | (go_at_call 28; refine (hA.out a _ HT.out.at_).mono ?_; rintro e w2 ⟨g, rfl, hg, hr, hb2⟩; have HR := Lib.hid hr; have HB2 := Lib.hid hb2; clear hr hb2))
  go_ret2
  have hs2 := HB2.out.size
  have hs1 := HB1.out.size
  simp at hs1
  have hB9 := below_step (below_step HB.out HB1.out) HB2.out
  have HB9 : Below w.heap.size w ((w2.alloc (.map #[] 0)).alloc (.cells #[.pointer (some ⟨a, 0, none⟩), .slice (some ⟨g, 0, none⟩) n n, .map (some w2.heap.size)] 87)) :=
    (hB9.alloc (by omega) _).alloc (by simp; omega) _
  have hgl := blk_lt HR.out
  have hT9 : Below w1.heap.size w1 ((w2.alloc (.map #[] 0)).alloc (.cells #[.pointer (some ⟨a, 0, none⟩), .slice (some ⟨g, 0, none⟩) n n, .map (some w2.heap.size)] 87)) := (HB2.out.alloc hs2 _).alloc (by simp; omega) _
  refine ⟨fun i => (w.alloc (.cells #[.slice A ns.length c] 24)).heap.size ≤ i ∧ i < w1.heap.size, w2.heap.size + 1, g, w2.heap.size, rfl, ⟨by rw [List.length_replicate]; exact HF.out, PM.zero_inv _, ⟨a, ?_, ?_⟩, ?_, ?_, ⟨?_, ?_, ?_⟩, ?_⟩, HB9, by omega, by omega, by omega, fun i hi => by have := hi.1; simp at this; omega⟩
  · have := heap_alloc_new (w2.alloc (.map #[] 0)) (.cells #[.pointer (some ⟨a, 0, none⟩), .slice (some ⟨g, 0, none⟩) n n, .map (some w2.heap.size)] 87)
    unfold poolBlk
    rw [Hn.out]
    simpa using this
  · rw [List.length_replicate]; exact HT.out.off hT9.size fun i _ hl => hT9.block i hl
  · rw [free_zero]
    exact (Below.heap_alloc _ _ _ (by simp; omega)).trans ((Below.heap_alloc w2 _ _ hgl).trans HR.out)
  · exact (Drs.new w2 _).of_block (Below.heap_alloc _ _ _ (by simp))
  · rintro ⟨_, h⟩; omega
  · rintro ⟨_, h⟩; omega
  · rintro ⟨_, h⟩; omega
  · rintro i ⟨_, h⟩; simp; omega
def seen (dr : List Bool) (f : Fr) : Bool := !(dr[f.n]?.getD false)
theorem filter_next {q : Fr → Bool} {l : List Fr} {k : Nat} {f : Fr} (h : l[k]? = some f) : (l.take (k + 1)).filter q = (l.take k).filter q ++ (if q f = true then [f] else []) := by
  rw [take_next h, List.filter_append]
  by_cases e : q f = true
  · rw [if_pos e, List.filter_cons_of_pos e]; rfl
  · rw [if_neg e, List.filter_cons_of_neg e]; rfl
theorem FsOk.free {fs ts : List Fr} {n : Nat} (h : FsOk fs n) (hi : PM.Inv fs ts) : ∀ f ∈ PM.free fs ts, f.m < 18446744073709551616 ∧ f.c ≤ 1024 ∧ f.n < n := by
  intro f hf
  obtain ⟨k, hk⟩ := List.mem_iff_getElem?.1 hf
  have hkl := (List.getElem?_eq_some_iff.1 hk).1
  rw [PM.free_len hi] at hkl
  obtain ⟨g, hg⟩ := get_lt hkl
  obtain ⟨t, ht⟩ := get_lt (l := ts) (k := k) (by rw [hi.1]; exact hkl)
  rw [PM.free_at hg ht] at hk
  cases hk
  have hm := List.mem_of_getElem? hg
  obtain ⟨a, b⟩ := h.ok g hm
  exact ⟨MM.sub_lt _ a, by simp only [PM.freeOf]; omega, h.node g hm⟩
end Go.Proofs.Ytbcldamfekejgaa
