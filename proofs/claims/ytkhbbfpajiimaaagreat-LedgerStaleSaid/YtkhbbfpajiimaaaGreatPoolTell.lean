/- What a pool tells: New, View, Out. -/
import Derived.Test.YtkhbbfpajiimaaaGreatPoolOne
namespace Go.Proofs.YtkhbbfpajiimaaaGreat
open Go.RowKit

theorem free_zero (fs : List Fr) : PM.free fs (PM.zero fs) = fs := by
  have e : ∀ f : Fr, PM.freeOf f ⟨f.n, f.d, 0, 0⟩ = f := fun f => by
    have : MM.sub f.m 0 = f.m := Nat.eq_of_testBit_eq fun i => by rw [MM.testBit_sub]; simp
    simp [PM.freeOf, this]
  unfold PM.free PM.zero
  induction fs with
  | nil => rfl
  | cons f fs ih => simp only [List.map_cons, List.zipWith_cons_cons, ih, e]
theorem fsOk {ns : List (List (Int × Int))} (h : cluOk ns = true) : FsOk (frees ns) ns.length :=
  ⟨frees_pos h, by have := frees_len h; omega, row_dup ns, frees_ok h, fun _ hf => frees_mem hf, by have := cluOk_len h; omega⟩
set_option maxRecDepth 100000 in
set_option maxHeartbeats 1000000 in
theorem poolnew_no (A : Option Addr) (c B : Nat) (ns : List (List (Int × Int))) (w : World) (h : Nodes w B A ns) (hB : B ≤ w.heap.size) (hok : cluOk ns = false) :
    Calls Tryz.prog 30 #[.agg #[.slice A ns.length c]] w fun e w' => e = .returned (.tuple #[.pointer none, .int .i64 1]) ∧ Below w.heap.size w w' := by
  have hB1 := (Below.refl w.heap.size w).alloc (Nat.le_refl _) (.cells #[.slice A ns.length c] 24)
  have hN := Lib.hid (new_no A c w.heap.size ns _ ((Nodes.keep h (Below.refl B w) hB).imp (Nat.le_refl _) fun _ _ _ hb hx => hx.keep hb hB1 (Nat.le_refl _)) hB1.size hok)
  have HB := Lib.hid hB1
  clear h hB hok hB1
  go_enter Tryz.func30, Tryz.ntmps30
  go_wp2_with (go_at_call 75; refine hN.out.mono ?_; rintro e w1 ⟨rfl, hb1⟩)
  go_ret2
  exact ⟨rfl, below_step HB.out hb1⟩
theorem Half.doneIn {w : World} {B a m k : Nat} {v : Value} {l : List Fr} (h : Half w B a m k v l) : TopoIn w (fun i => B ≤ i ∧ i < w.heap.size) a k l := by
  obtain ⟨A, c, rfl⟩ := h.form
  refine ⟨m, A, c, h.blk, ?_, h.map, ⟨h.ha, blk_lt h.blk⟩, ⟨h.hm, h.map.lt⟩, fun b off e => ?_⟩
  · rcases h.own.2 with ⟨e, h0⟩ | ⟨g, cap, cur, e, _⟩
    · exact .inl (List.length_eq_zero_iff.1 h0)
    · cases e; exact own_frees h.own
  · subst e
    rcases h.own.2 with ⟨e, h0⟩ | ⟨g, cap, cur, e, _⟩
    · cases e
    · cases e; exact h.own.lt _ rfl
theorem topo_new_in (A : Option Addr) (c B : Nat) (ns : List (List (Int × Int))) (w : World) (h : Nodes w B A ns) (hB : B ≤ w.heap.size) (hok : cluOk ns = true) :
    Calls Tryz.prog 75 #[.agg #[.slice A ns.length c]] w fun e w' => ∃ a, e = .returned (.tuple #[.pointer (some ⟨a, 0, none⟩), .int .i64 0]) ∧ TopoIn w' (fun i => w.heap.size ≤ i ∧ i < w'.heap.size) a ns.length (frees ns) ∧ Below w.heap.size w w' := by
  obtain ⟨x, hx⟩ := get_lt (l := ns) (k := 0) (by have := cluOk_len hok; omega)
  obtain ⟨b, off, rfl, hb, hc⟩ := h.at_ hx
  exact (new_loop b off c B _ ns rfl w hb hc hB hok).mono fun e w' ⟨a, m, v, he, hH, hb⟩ => ⟨a, he, hH.doneIn, hb⟩
set_option maxRecDepth 100000 in
set_option maxHeartbeats 1000000 in
theorem poolnew_ok (A : Option Addr) (c B : Nat) (ns : List (List (Int × Int))) (w : World) (h : Nodes w B A ns) (hB : B ≤ w.heap.size) (hok : cluOk ns = true) :
    Calls Tryz.prog 30 #[.agg #[.slice A ns.length c]] w fun e w' => ∃ T p g dm, e = .returned (.tuple #[.pointer (some ⟨p, 0, none⟩), .int .i64 0]) ∧
      PoolAt w' T p g dm (frees ns) (PM.zero (frees ns)) (List.replicate ns.length false) ∧ Below w.heap.size w w' ∧ w.heap.size ≤ p ∧ w.heap.size ≤ g ∧ w.heap.size ≤ dm ∧ ∀ i, T i → w.heap.size ≤ i := by
  have hB1 := (Below.refl w.heap.size w).alloc (Nat.le_refl _) (.cells #[.slice A ns.length c] 24)
  have hN := Lib.hid (topo_new_in A c w.heap.size ns _ ((Nodes.keep h (Below.refl B w) hB).imp (Nat.le_refl _) fun _ _ _ hb hx => hx.keep hb hB1 (Nat.le_refl _)) hB1.size hok)
  have hA := Lib.hid (fun a W hW => all_law a ns.length ns hok W hW)
  have HB := Lib.hid hB1
  have HF := Lib.hid (fsOk hok)
  obtain ⟨n, hn⟩ : ∃ n, (frees ns).length = n := ⟨_, rfl⟩
  rw [hn] at hA
  have Hn := Lib.hid hn
  have hmm := @run_makeMap Tryz.prog
  clear h hB hok hB1 hn
  go_enter Tryz.func30, Tryz.ntmps30
  go_wp2_with (first
    | (go_at_call 75; refine hN.out.mono ?_; rintro e w1 ⟨a, rfl, hT, hb1⟩; have HT := Lib.hid hT; have HB1 := Lib.hid hb1; clear hT hb1)
    | (go_at_call 76; refine (hA.out a _ HT.out.at_).mono ?_; rintro e w2 ⟨g, rfl, hg, hr, hb2⟩; have HR := Lib.hid hr; have HB2 := Lib.hid hb2; clear hr hb2))
  go_ret2
  have hs2 := HB2.out.size
  have hs1 := HB1.out.size
  simp at hs1
  have hB9 := below_step (below_step HB.out HB1.out) HB2.out
  have HB9 : Below w.heap.size w ((w2.alloc (.map #[] 0)).alloc (.cells #[.pointer (some ⟨a, 0, none⟩), .slice (some ⟨g, 0, none⟩) n n, .map (some w2.heap.size)] 150)) :=
    (hB9.alloc (by omega) _).alloc (by simp; omega) _
  have hgl := blk_lt HR.out
  have hT9 : Below w1.heap.size w1 ((w2.alloc (.map #[] 0)).alloc (.cells #[.pointer (some ⟨a, 0, none⟩), .slice (some ⟨g, 0, none⟩) n n, .map (some w2.heap.size)] 150)) := (HB2.out.alloc hs2 _).alloc (by simp; omega) _
  refine ⟨fun i => (w.alloc (.cells #[.slice A ns.length c] 24)).heap.size ≤ i ∧ i < w1.heap.size, w2.heap.size + 1, g, w2.heap.size, rfl, ⟨by rw [List.length_replicate]; exact HF.out, PM.zero_inv _, ⟨a, ?_, ?_⟩, ?_, ?_, ⟨?_, ?_, ?_⟩, ?_⟩, HB9, by omega, by omega, by omega, fun i hi => by have := hi.1; simp at this; omega⟩
  · have := heap_alloc_new (w2.alloc (.map #[] 0)) (.cells #[.pointer (some ⟨a, 0, none⟩), .slice (some ⟨g, 0, none⟩) n n, .map (some w2.heap.size)] 150)
    unfold poolBlk
    rw [Hn.out]
    simpa using this
  · rw [List.length_replicate]; exact HT.out.off hT9.size fun i _ hl => hT9.block i hl
  · rw [free_zero]
    exact (Below.heap_alloc _ _ _ (by simp; omega)).trans ((Below.heap_alloc w2 _ _ hgl).trans HR.out)
  · exact (Drs.new w2 _).of_block (Below.heap_alloc _ _ _ (by simp))
  · rintro ⟨_, h⟩; omega
  · rintro ⟨_, h⟩; omega
  · rintro ⟨_, h⟩; omega
  · rintro i ⟨_, h⟩; simp; omega
def seen (dr : List Bool) (f : Fr) : Bool := !(dr[f.n]?.getD false)
theorem filter_next {q : Fr → Bool} {l : List Fr} {k : Nat} {f : Fr} (h : l[k]? = some f) : (l.take (k + 1)).filter q = (l.take k).filter q ++ (if q f = true then [f] else []) := by
  rw [take_next h, List.filter_append]
  by_cases e : q f = true
  · rw [if_pos e, List.filter_cons_of_pos e]; rfl
  · rw [if_neg e, List.filter_cons_of_neg e]; rfl
theorem FsOk.free {fs ts : List Fr} {n : Nat} (h : FsOk fs n) (hi : PM.Inv fs ts) : ∀ f ∈ PM.free fs ts, f.m < 18446744073709551616 ∧ f.c ≤ 1024 ∧ f.n < n := by
  intro f hf
  obtain ⟨k, hk⟩ := List.mem_iff_getElem?.1 hf
  have hkl := (List.getElem?_eq_some_iff.1 hk).1
  rw [PM.free_len hi] at hkl
  obtain ⟨g, hg⟩ := get_lt hkl
  obtain ⟨t, ht⟩ := get_lt (l := ts) (k := k) (by rw [hi.1]; exact hkl)
  rw [PM.free_at hg ht] at hk
  cases hk
  have hm := List.mem_of_getElem? hg
  obtain ⟨a, b⟩ := h.ok g hm
  exact ⟨MM.sub_lt _ a, by simp only [PM.freeOf]; omega, h.node g hm⟩
set_option maxRecDepth 100000 in
set_option maxHeartbeats 4000000 in
theorem view_any {T : Nat → Prop} (p g dm : Nat) (fs ts : List Fr) (dr : List Bool) (w : World) (h : PoolAt w T p g dm fs ts dr) :
    Calls Tryz.prog 94 #[.pointer (some ⟨p, 0, none⟩)] w fun e w' => ∃ v, e = .returned v ∧ w'.ownsRow w.heap.size 130 4 v (PM.view fs ts dr).length ((PM.view fs ts dr).flatMap frC) ∧ Below w.heap.size w w' := by
  obtain ⟨L, hL⟩ : ∃ L, L = PM.free fs ts := ⟨_, rfl⟩
  have hvw : PM.view fs ts dr = L.filter (seen dr) := by rw [hL]; rfl
  rw [hvw]
  have hok := h.ok.free h.inv
  have hlen := PM.free_len h.inv
  have hfew := h.ok.few
  have hnod := h.ok.nodes
  rw [← hL] at hok hlen
  obtain ⟨n, hn⟩ : ∃ n, fs.length = n := ⟨_, rfl⟩
  rw [hn] at hlen hfew
  obtain ⟨a, h1, _⟩ := h.blk
  have c1 : w.cell? ⟨p, 1, none⟩ = some (.slice (some ⟨g, 0, none⟩) n n) := by rw [← hn]; exact cell_blk (i := 1) h1 rfl
  obtain ⟨l1, l2, l3⟩ := h.lt
  have hfr : ∀ i f, L[i]? = some f → FrAt w g (0 + i * 4) f := by
    have hr := h.row
    rw [← hL] at hr
    rcases blk_frees hr with e | ⟨b, off, e, _, hc⟩
    · intro i f hf; rw [e] at hf; simp at hf
    · cases e; exact hc
  have hD := Lib.hid (fun (f : Fr) (W : World) (hW : Below w.heap.size w W) (hf : f.n < 1000000) => drained_any p g dm fs ts dr (f.n : Int) W (h.keep hW) (wf_nat (by omega)))
  have Q := Lib.hid (And.intro hlen (And.intro hok hfr))
  obtain ⟨i0, hi, hz0, hz1, hz2⟩ := info_parts info_free
  clear h hL hvw hok hlen hfr h1 hn
  go_enter Tryz.func94, Tryz.ntmps94
  go_wp2
  go_loopw [3, 11] (fun out i wr => ∃ (k : Nat) (A : Option Addr) (cp : Nat), i = .int .i64 k ∧ out = .slice A ((L.take k).filter (seen dr)).length cp ∧ k ≤ n ∧ Below w.heap.size w wr ∧ wr.ownsRow w.heap.size 130 4 (.slice A ((L.take k).filter (seen dr)).length cp) ((L.take k).filter (seen dr)).length (((L.take k).filter (seen dr)).flatMap frC)) (fun _ i _ => n - (intOf i).toNat)
  case atStart => exact ⟨0, none, 0, rfl, rfl, by omega, Below.refl _ _, World.ownsRow_nil _ _ _ _⟩
  case round =>
    obtain ⟨k, A, cp, rfl, rfl, hk, hBl, hown⟩ := hrel
    have hBs := hBl.size
    by_cases hlt : k < n
    · obtain ⟨hlen, hok, hfr⟩ := Q.out
      obtain ⟨f, hx⟩ := get_lt (l := L) (k := k) (by rw [hlen]; exact hlt)
      obtain ⟨f0, f1, f2, f3⟩ := (hfr k f hx).keep l2 hBl
      rw [Nat.zero_add] at f0 f1 f2 f3
      obtain ⟨fm, fc, fn⟩ := hok f (List.mem_of_getElem? hx)
      have t0 : decide (k < n) = true := by simpa using hlt
      have N := Lib.hid (filter_next (q := seen dr) hx)
      obtain ⟨V, hV⟩ : ∃ V, V = (L.take k).filter (seen dr) := ⟨_, rfl⟩
      have hVl : V.length ≤ 1000 := by
        rw [hV]; have := List.length_filter_le (seen dr) (L.take k); rw [List.length_take] at this; omega
      rw [← hV] at hown N ⊢
      obtain ⟨W, hW⟩ : ∃ W, W = wr.alloc (.cells #[.int .i64 (f.n : Nat), .int .i64 (f.d : Nat), .int .u64 (f.m : Nat), .int .i64 (f.c : Nat)] 130) := ⟨_, rfl⟩
      have hBW : Below w.heap.size w W := by rw [hW]; exact hBl.alloc hBs _
      have bF : W.heap[wr.heap.size]? = some (.cells #[.int .i64 (f.n : Nat), .int .i64 (f.d : Nat), .int .u64 (f.m : Nat), .int .i64 (f.c : Nat)] 130 (0, 0)) := by rw [hW]; exact heap_alloc_new wr _
      have hownW : W.ownsRow w.heap.size 130 4 (.slice A V.length cp) V.length (V.flatMap frC) := by rw [hW]; exact hown.alloc _
      have hD2 := Lib.hid (hD.out f W hBW (by omega))
      have HW := Lib.hid hW
      have x0 : W.cell? ⟨wr.heap.size, 0, none⟩ = some (.int .i64 (f.n : Nat)) := cell_blk (i := 0) bF rfl
      have x1 : W.cell? ⟨wr.heap.size, 1, none⟩ = some (.int .i64 (f.d : Nat)) := cell_blk (i := 1) bF rfl
      have x2 : W.cell? ⟨wr.heap.size, 2, none⟩ = some (.int .u64 (f.m : Nat)) := cell_blk (i := 2) bF rfl
      have x3 : W.cell? ⟨wr.heap.size, 3, none⟩ = some (.int .i64 (f.c : Nat)) := cell_blk (i := 3) bF rfl
      have HB := Lib.hid hBW
      have OW := Lib.hid hownW
      have hws : w.heap.size ≤ W.heap.size := hBW.size
      have HV := Lib.hid hV
      cases hs : isDr dr (f.n : Int)
      · rw [hs] at hD2
        have hsn : seen dr f = true := by unfold seen; rw [← isDr_nat, hs]; rfl
        rw [if_pos hsn] at N
        clear hx hW hBW bF hownW hown hV hlen hok hfr hs hsn
        go_wp2_with fail
        rw [← HW.out]
        go_wp2_with (first
          | (go_at_call 97; refine hD2.out.mono ?_; rintro e w2 ⟨rfl, rfl⟩)
          | (at_builtin; refine wpList_append_lies _ rfl _ _ 52 rfl w.heap.size 130 i0 _ 4 32 Tryz.underlying52 hi hz0 hz1 hz2 rfl (by decide) (.slice A V.length cp) V.length (V.flatMap frC) rfl (OW.out.alloc _) ⟨W.heap.size, 0, none⟩ 1 1 [.int .i64 (f.n : Nat), .int .i64 (f.d : Nat), .int .u64 (f.m : Nat), .int .i64 (f.c : Nat)] rfl rfl (World.news_of_block (cs := #[.int .i64 (f.n : Nat), .int .i64 (f.d : Nat), .int .u64 (f.m : Nat), .int .i64 (f.c : Nat)]) (t := 130) (fr := (0, 0)) (heap_alloc_new W _)) (by simp [Value.oneCell']) (by omega) (by unfold maxLen; omega) (by omega) (by simp; omega) (W.heap.size + 1) (by simp) ?_; intro gg cap' w3 hown3 hgrow hat hlt3))
        have hB6 : Below w.heap.size w w3 := (HB.out.alloc hws _).grown hgrow (by simp; omega) (fun i e => (OW.out.lt i e).1)
        have hown6 : w3.ownsRow w.heap.size 130 4 (.slice (some ⟨gg, 0, none⟩) (V ++ [f]).length cap') (V ++ [f]).length ((V ++ [f]).flatMap frC) := by
          rw [List.length_append, List.flatMap_append]
          simpa [frC] using hown3
        go_roundw
        case rel => exact ⟨k + 1, some ⟨gg, 0, none⟩, cap', by go_num, by rw [N.out]; simp, by omega, hB6, by rw [N.out]; exact hown6⟩
        case measure => simp [intOf]; omega
      · rw [hs] at hD2
        have hsn : ¬ seen dr f = true := by unfold seen; rw [← isDr_nat, hs]; simp
        rw [if_neg hsn, List.append_nil] at N
        clear hx hW hBW bF hownW hown hV hlen hok hfr hs hsn
        go_wp2_with fail
        rw [← HW.out]
        go_wp2_with (go_at_call 97; refine hD2.out.mono ?_; rintro e w2 ⟨rfl, rfl⟩)
        go_roundw
        case rel => exact ⟨k + 1, A, cp, by go_num, by rw [N.out], by omega, HB.out, by rw [N.out]; exact OW.out⟩
        case measure => simp [intOf]; omega
    · obtain rfl : k = n := by omega
      have e : L.take k = L := by rw [← Q.out.1]; exact List.take_length
      rw [e] at hown ⊢
      have OW := Lib.hid hown
      clear hown hlt e
      go_wp2
      go_ret
      exact ⟨_, rfl, OW.out, hBl⟩
end Go.Proofs.YtkhbbfpajiimaaaGreat
