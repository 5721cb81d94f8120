/- turn, Less, More of package pack: slot by slot, what is taken off a view, or put to it. -/
import Derived.Maps.AppendAt
import Derived.Deep.AppendLies
import Derived.StillTailTactics
import Derived.Test.YtjbjjdcmkbigdaaDoorPackMap
import Derived.Test.YtjbjjdcmkbigdaaDoorPackCl
import Derived.Test.YtjbjjdcmkbigdaaDoorPackView
namespace Go.Proofs.YtjbjjdcmkbigdaaDoor
open Go.RowKit
def hitL (l : List Fe) (n d : Int) : Option Nat := l.findIdx? (fun f => f.n == n && f.d == d)
def stepL (ch : Fe → Fe → Int × Fe) (l : List Fe) (s : Fe) : Int × List Fe :=
  if s.c < 0 then (1, l) else match hitL l s.n s.d with
  | none => (3, l)
  | some k => match l[k]? with
    | none => (3, l)
    | some f => ((ch f s).1, if (ch f s).1 = 0 then l.set k (ch f s).2 else l)
def turnL (ch : Fe → Fe → Int × Fe) : List Fe → List Fe → Int × List Fe
  | l, [] => (0, l)
  | l, s :: ss => if (stepL ch l s).1 = 0 then turnL ch (stepL ch l s).2 ss else stepL ch l s
theorem turnL_app (ch : Fe → Fe → Int × Fe) : ∀ (a b l : List Fe), turnL ch l (a ++ b) = if (turnL ch l a).1 = 0 then turnL ch (turnL ch l a).2 b else turnL ch l a
  | [], b, l => by simp [turnL]
  | s :: a, b, l => by
    rw [List.cons_append, turnL, turnL]
    by_cases h : (stepL ch l s).1 = 0
    · rw [if_pos h, if_pos h, turnL_app ch a b]
    · rw [if_neg h, if_neg h, if_neg h]
theorem turnL_next {ch : Fe → Fe → Int × Fe} {l l' ss : List Fe} {j : Nat} {s : Fe} (h : turnL ch l (ss.take j) = (0, l')) (hs : ss[j]? = some s) : turnL ch l (ss.take (j + 1)) = stepL ch l' s := by
  rw [take_next hs, turnL_app, h, if_pos rfl, turnL]
  by_cases h2 : (stepL ch l' s).1 = 0
  · rw [if_pos h2, turnL]; exact Prod.ext h2.symm rfl
  · rw [if_neg h2]
theorem turnL_stop {ch : Fe → Fe → Int × Fe} {l l' ss : List Fe} {j : Nat} {s : Fe} (h : turnL ch l (ss.take j) = (0, l')) (hs : ss[j]? = some s) (he : (stepL ch l' s).1 ≠ 0) : turnL ch l ss = stepL ch l' s := by
  have h1 := turnL_next h hs
  conv => lhs; rw [← List.take_append_drop (j + 1) ss]
  rw [turnL_app, h1, if_neg he]
/-- The view's spots, each with its place. -/
def spotsL (l : List Fe) : List (Int × Int) := l.map fun f => (f.n, f.d)
def entsL (l : List Fe) : Ents := l.zipIdx.map fun p => ((p.1.n, p.1.d), (p.2 : Int))
theorem entsL_at {l : List Fe} {k : Nat} {f : Fe} (h : l[k]? = some f) : (entsL l)[k]? = some ((f.n, f.d), (k : Int)) := by
  unfold entsL; rw [List.getElem?_map, List.getElem?_zipIdx, h]; simp
theorem entsL_keys (l : List Fe) : (entsL l).map (·.1) = spotsL l := by
  unfold entsL spotsL
  rw [List.map_map]
  refine List.ext_getElem? fun i => ?_
  rw [List.getElem?_map, List.getElem?_zipIdx, List.getElem?_map]
  cases l[i]? <;> simp
theorem entsL_next {l : List Fe} {k : Nat} {f : Fe} (h : l[k]? = some f) : entsL (l.take (k + 1)) = entsL (l.take k) ++ [((f.n, f.d), (k : Int))] := by
  unfold entsL
  rw [take_next h, List.zipIdx_append, List.map_append, List.length_take, Nat.min_eq_left (Nat.le_of_lt (List.getElem?_eq_some_iff.1 h).1)]
  simp
theorem hitL_spots {l l' : List Fe} (h : spotsL l = spotsL l') (n d : Int) : hitL l n d = hitL l' n d := by
  have e : ∀ l : List Fe, hitL l n d = (spotsL l).findIdx? (fun p => p.1 == n && p.2 == d) := fun l => by
    unfold hitL spotsL; rw [List.findIdx?_map]; rfl
  rw [e, e, h]
theorem hitL_some {l : List Fe} {n d : Int} {k : Nat} (h : hitL l n d = some k) : ∃ f, l[k]? = some f ∧ f.n = n ∧ f.d = d := by
  unfold hitL at h
  rw [List.findIdx?_eq_some_iff_getElem] at h
  obtain ⟨hk, h1, _⟩ := h
  exact ⟨_, List.getElem?_eq_getElem hk, by simpa using h1⟩
theorem hitL_none {l : List Fe} {n d : Int} (h : hitL l n d = none) : ∀ f ∈ l, ¬ (f.n = n ∧ f.d = d) := by
  unfold hitL at h
  rw [List.findIdx?_eq_none_iff] at h
  intro f hf
  simpa using h f hf
theorem spotsL_set {l : List Fe} {k : Nat} {f g : Fe} (h : l[k]? = some f) (h1 : g.n = f.n) (h2 : g.d = f.d) : spotsL (l.set k g) = spotsL l := by
  unfold spotsL
  rw [List.map_set, h1, h2]
  refine List.ext_getElem? fun i => ?_
  by_cases e : k = i
  · subst e
    have hk := (List.getElem?_eq_some_iff.1 h).1
    rw [List.getElem?_set_self (by simpa using hk), List.getElem?_map, h]; rfl
  · rw [List.getElem?_set_ne e]
/-- What a view is. -/
structure View (l : List Fe) : Prop where
  ok : ∀ f ∈ l, FeOk f ∧ 0 ≤ f.c ∧ f.c ≤ 1048576
  one : (spotsL l).Nodup
theorem view_of_right {l : List Fe} (hf : ∀ f ∈ l, FeOk f) (h : rightL l = true) : View l := by
  unfold rightL at h
  rw [List.all_eq_true] at h
  have hk : ∀ k f, l[k]? = some f → cpuOk f = true ∧ findL (l.take k) f.n f.d < 0 := fun k f hx => by
    have := h k (by simpa using (List.getElem?_eq_some_iff.1 hx).1)
    unfold okAt at this
    rw [hx] at this
    simp only [Bool.and_eq_true, decide_eq_true_eq] at this
    exact this
  refine ⟨fun f hm => ?_, ?_⟩
  · obtain ⟨k, hx⟩ := List.mem_iff_getElem?.1 hm
    have := (hk k f hx).1
    unfold cpuOk at this
    exact ⟨hf f hm, of_decide_eq_true this⟩
  · unfold spotsL
    refine List.pairwise_iff_getElem.2 fun i j hi hj hij e => ?_
    rw [List.length_map] at hi hj
    simp only [List.getElem_map] at e
    have h1 := (hk j l[j] (List.getElem?_eq_getElem hj)).2
    unfold findL at h1
    cases hq : (l.take j).findIdx? (fun f => f.n == l[j].n && f.d == l[j].d) with
    | some q => rw [hq] at h1; simp at h1; omega
    | none =>
      rw [List.findIdx?_eq_none_iff] at hq
      have hm : l[i] ∈ l.take j := by
        rw [List.mem_iff_getElem?]
        exact ⟨i, by rw [List.getElem?_take, if_pos hij, List.getElem?_eq_getElem]⟩
      have := hq _ hm
      have e1 := congrArg Prod.fst e
      have e2 := congrArg Prod.snd e
      simp only at e1 e2
      simp [e1, e2] at this
theorem info_freeP : (Tryd.prog.info? 45).map (fun i => (i.zero, i.size, i.bytes)) = some (some (.agg #[.int .i64 0, .int .i64 0, .int .u64 0, .int .i64 0]), 4, 32) := by kernel_rfl
theorem own_emptyP (w : World) (base : Nat) (hb : base ≤ w.heap.size) : (w.alloc (.cells #[] 45)).ownsRow base 45 4 (.slice (some ⟨w.heap.size, 0, none⟩) 0 0) 0 [] :=
  ⟨rfl, .inr ⟨w.heap.size, 0, #[], rfl, hb, heap_alloc_new w _, Nat.le_refl _, Nat.zero_le _, rfl, rfl⟩⟩
theorem not_nilP (b off n cap : Nat) (W : World) : (binOp .eql 22 (.slice (some ⟨b, off, none⟩) n cap) (.slice none 0 0)).run Tryd.prog W = .ok (.bool false) W := by kernel_rfl
theorem mapmake (n : Nat) (W : World) : (Instr.makeMap 49 (some (.int .i64 (n : Int)))).run Tryd.prog W = .ok (.map (some W.heap.size)) (W.alloc (.map #[] 0)) := by
  simp [Instr.makeMap, run_underlying Tryd.underlying49]
  rfl
set_option maxRecDepth 100000 in
set_option maxHeartbeats 1000000 in
theorem clone_any (b off cap : Nat) (l : List Fe) (w : World) (hc : ∀ (i : Nat) (x : Fe), l[i]? = some x → FeAt w b (off + i * 4) x) (hb : b < w.heap.size) (h0 : 0 < l.length) (hn : l.length ≤ 100000) :
    Calls Tryd.prog 42 #[.slice (some ⟨b, off, none⟩) l.length cap] w fun e w' => ∃ g cap', e = .returned (.slice (some ⟨g, 0, none⟩) l.length cap') ∧ w.heap.size ≤ g ∧ OwnF w' g l ∧ Below w.heap.size w w' := by
  obtain ⟨i0, hi, hz0, hz1, hz2⟩ := info_parts info_freeP
  have hcells := fe_cells hc
  have hB1 := (Below.refl w.heap.size w).alloc (Nat.le_refl _) (.cells #[] 45)
  obtain ⟨n, hln⟩ : ∃ n, l.length = n := ⟨_, rfl⟩
  have H := Lib.hid (And.intro hcells (And.intro hln (feC_len l)))
  rw [hln] at h0 hn ⊢
  have hnil := fun W => not_nilP b off n cap W
  clear hc hcells hln
  go_enter Tryd.func42, Tryd.ntmps42
  go_wp2_with (at_builtin; refine wpList_append_lies _ rfl _ _ 22 rfl w.heap.size 45 i0 _ 4 32 Tryd.underlying22 hi hz0 hz1 hz2 rfl (by decide) (.slice (some ⟨w.heap.size, 0, none⟩) 0 0) 0 [] rfl (own_emptyP w _ (Nat.le_refl _)) ⟨b, off, none⟩ n cap (l.flatMap feC) rfl (by rw [H.out.2.2, H.out.2.1]) (fun j v hj => (hB1.cell (p := (⟨b, off, none⟩ : Addr).add j) (by rw [Addr.add_lit]; exact hb)).trans (H.out.1 j v hj)) (feC_one l) h0 (by unfold maxLen; omega) (by omega) (by simp) (w.heap.size + 1) (by simp) ?_; intro gg cap' w3 hown3 hgrow hat hlt)
  go_ret
  have hg : w.heap.size ≤ gg := by
    rcases hat with h | h
    · simp [Value.ownBlock] at h; omega
    · omega
  refine ⟨gg, cap', by simp, hg, ?_, hB1.grown hgrow (by simp) (fun k e => by simp [Value.ownBlock] at e; omega)⟩
  rcases hown3.2 with ⟨h, _⟩ | ⟨g', c', cur, e, _, hgb, h5, h6, h7, h8⟩
  · cases h
  · cases e
    refine ⟨cur, hgb, ?_⟩
    rw [H.out.2.1]
    simpa using h8
set_option maxRecDepth 100000 in
set_option maxHeartbeats 2000000 in
theorem numbers_any (A : Option Addr) (cap B : Nat) (l : List Fe) (w : World) (h : Fes w B A l) (hB : B ≤ w.heap.size) (hv : View l) (hn : l.length ≤ 100000) :
    Calls Tryd.prog 43 #[.slice A l.length cap] w fun e w' => ∃ m, e = .returned (.map (some m)) ∧ w.heap.size ≤ m ∧ Hid (EntAt w' m (entsL l)) ∧ Below w.heap.size w w' := by
  obtain ⟨n, hln⟩ : ∃ n, l.length = n := ⟨_, rfl⟩
  have H := Lib.hid (And.intro h (And.intro hln hv))
  rw [hln] at hn ⊢
  have hE0 : Hid (EntAt (w.alloc (.map #[] 0)) w.heap.size (entsL (l.take 0))) := Lib.hid (EntAt.new w)
  have hB0 := Lib.hid ((Below.refl w.heap.size w).alloc (Nat.le_refl _) (.map #[] 0))
  have hmm := fun W => mapmake n W
  clear h hln hv
  go_enter Tryd.func43, Tryd.ntmps43
  go_wp2
  go_loopw [11] (fun i wr => ∃ k : Nat, i = .int .i64 k ∧ k ≤ n ∧ Hid (Below w.heap.size w wr) ∧ Hid (EntAt wr w.heap.size (entsL (l.take k)))) (fun i _ => n - (intOf i).toNat)
  case atStart => exact ⟨0, rfl, by omega, hB0, hE0⟩
  case round =>
    clear hE0 hB0
    obtain ⟨k, rfl, hk, hBl, hE⟩ := hrel
    by_cases hlt : k < n
    · obtain ⟨f, hx⟩ := get_lt (l := l) (k := k) (by rw [H.out.2.1]; exact hlt)
      obtain ⟨b, off, rfl, hb, hc⟩ := H.out.1.at_ hx
      obtain ⟨f0, f1, f2, f3⟩ := (hc k f hx).keep (B := w.heap.size) (by omega) hBl.out
      have hfo := (H.out.2.2.ok f (List.mem_of_getElem? hx)).1
      obtain ⟨W, hW⟩ : ∃ W, W = wr.alloc (.cells #[.int .i64 f.n, .int .i64 f.d, .int .u64 (f.m : Nat), .int .i64 f.c] 45) := ⟨_, rfl⟩
      have hml := hE.out.lt
      have hEW : EntAt W w.heap.size (entsL (l.take k)) := hE.out.of_block (by rw [hW]; exact Below.heap_alloc _ _ _ hml)
      have hno : (f.n, f.d) ∉ (entsL (l.take k)).map (·.1) := by
        rw [entsL_keys]
        intro hm
        have hone := H.out.2.2.one
        obtain ⟨i, hi⟩ := List.mem_iff_getElem?.1 hm
        unfold spotsL at hi hone
        rw [List.getElem?_map, List.getElem?_take] at hi
        split at hi
        · rename_i hik
          have hxi : i < l.length := by rw [H.out.2.1]; omega
          have hxk : k < l.length := by rw [H.out.2.1]; omega
          have := List.pairwise_iff_getElem.1 hone i k (by simpa using hxi) (by simpa using hxk) hik
          rw [List.getElem?_eq_getElem hxi] at hi
          rw [List.getElem?_eq_getElem hxk] at hx
          simp at hi hx
          simp [hx, hi] at this
        · simp at hi
      obtain ⟨w2, hput, hE2, hgr⟩ := hEW.put (s := (f.n, f.d)) (k : Int) hfo.n hfo.d hno
      have hN : Hid (EntAt w2 w.heap.size (entsL (l.take (k + 1)))) := Lib.hid (by rw [entsL_next hx]; exact hE2)
      have hBW : Below w.heap.size w W := by rw [hW]; exact hBl.out.alloc hBl.out.size _
      have hN2 : Hid (Below w.heap.size w w2) := Lib.hid (hBW.grown hgr hBW.size (fun i e => by cases e; exact Nat.le_refl _))
      rw [hW] at hput
      have t1 : decide (k < n) = true := decide_eq_true hlt
      clear hx hc hb hfo hEW hno hE2 hgr hBW hE hBl hml hW
      go_wp2
      go_roundw
      case rel => exact ⟨k + 1, by go_num, by omega, hN2, hN⟩
      case measure => simp [intOf]; omega
    · obtain rfl : k = n := by omega
      have hR : Hid (EntAt wr w.heap.size (entsL l)) := Lib.hid (by have := hE.out; rw [List.take_of_length_le (by rw [H.out.2.1]; omega)] at this; exact this)
      have t1 : decide (k < k) = false := decide_eq_false (by omega)
      clear hlt hE
      go_wp2
      go_ret
      exact ⟨_, rfl, Nat.le_refl _, hR, hBl.out⟩
end Go.Proofs.YtjbjjdcmkbigdaaDoor
