import Derived.Test.YtkkkhonjcbhelaaGreatDoorPackR
set_option maxRecDepth 100000
namespace Go.Proofs.YtkkkhonjcbhelaaGreatDoor
section
open Go.RowKit
def hitL (l : List Fe) (n d : Int) : Option Nat := l.findIdx? (fun f => f.n == n && f.d == d)
def stepL (ch : Fe → Fe → Int × Fe) (l : List Fe) (s : Fe) : Int × List Fe :=
 if s.c < 0 then (1, l) else match hitL l s.n s.d with
 | none => (3, l)
 | some k => match l[k]? with
  | none => (3, l)
  | some f => ((ch f s).1, if (ch f s).1 = 0 then l.set k (ch f s).2 else l)
def turnL (ch : Fe → Fe → Int × Fe) : List Fe → List Fe → Int × List Fe
 | l, [] => (0, l)
 | l, s :: ss => if (stepL ch l s).1 = 0 then turnL ch (stepL ch l s).2 ss else stepL ch l s
theorem turnL_app (ch : Fe → Fe → Int × Fe) : ∀ (a b l : List Fe), turnL ch l (a ++ b) = if (turnL ch l a).1 = 0 then turnL ch (turnL ch l a).2 b else turnL ch l a
 | [], b, l => by simp [turnL]
 | s :: a, b, l => by
  rw [List.cons_append, turnL, turnL];by_cases h : (stepL ch l s).1 = 0
  ·rw [if_pos h, if_pos h, turnL_app ch a b]
  ·rw [if_neg h, if_neg h, if_neg h]
theorem turnL_next {ch : Fe → Fe → Int × Fe} {l l' ss : List Fe} {j : Nat} {s : Fe} (h : turnL ch l (ss.take j) = (0, l')) (hs : ss[j]? = some s) : turnL ch l (ss.take (j + 1)) = stepL ch l' s := by
 rw [take_next hs, turnL_app, h, if_pos rfl, turnL];by_cases h2 : (stepL ch l' s).1 = 0
 ·rw [if_pos h2, turnL]; exact Prod.ext h2.symm rfl
 ·rw [if_neg h2]
theorem turnL_stop {ch : Fe → Fe → Int × Fe} {l l' ss : List Fe} {j : Nat} {s : Fe} (h : turnL ch l (ss.take j) = (0, l')) (hs : ss[j]? = some s) (he : (stepL ch l' s).1 ≠ 0) : turnL ch l ss = stepL ch l' s := by
 have h1 := turnL_next h hs
 conv => lhs; rw [← List.take_append_drop (j + 1) ss]
 rw [turnL_app, h1, if_neg he]
def spotsL (l : List Fe) : List (Int × Int) := l.map fun f => (f.n, f.d)
def entsL (l : List Fe) : Ents := l.zipIdx.map fun p => ((p.1.n, p.1.d), (p.2 : Int))
theorem entsL_at {l : List Fe} {k : Nat} {f : Fe} (h : l[k]? = some f) : (entsL l)[k]? = some ((f.n, f.d), (k : Int)) := by
 unfold entsL; rw [List.getElem?_map, List.getElem?_zipIdx, h]; simp
theorem entsL_keys (l : List Fe) : (entsL l).map (·.1) = spotsL l := by
 unfold entsL spotsL;rw [List.map_map];refine List.ext_getElem? fun i => ?_
 rw [List.getElem?_map, List.getElem?_zipIdx, List.getElem?_map]
 cases l[i]? <;> simp
theorem entsL_next {l : List Fe} {k : Nat} {f : Fe} (h : l[k]? = some f) : entsL (l.take (k + 1)) = entsL (l.take k) ++ [((f.n, f.d), (k : Int))] := by
 unfold entsL;rw [take_next h, List.zipIdx_append, List.map_append, List.length_take, Nat.min_eq_left (Nat.le_of_lt (List.getElem?_eq_some_iff.1 h).1)]
 simp
theorem hitL_spots {l l' : List Fe} (h : spotsL l = spotsL l') (n d : Int) : hitL l n d = hitL l' n d := by
 have e : ∀ l : List Fe, hitL l n d = (spotsL l).findIdx? (fun p => p.1 == n && p.2 == d) := fun l => by
  unfold hitL spotsL; rw [List.findIdx?_map]; rfl
 rw [e, e, h]
theorem hitL_some {l : List Fe} {n d : Int} {k : Nat} (h : hitL l n d = some k) : ∃ f, l[k]? = some f ∧ f.n = n ∧ f.d = d := by
 unfold hitL at h;rw [List.findIdx?_eq_some_iff_getElem] at h;obtain ⟨hk, h1, _⟩ := h;exact ⟨_, List.getElem?_eq_getElem hk, by simpa using h1⟩
theorem hitL_none {l : List Fe} {n d : Int} (h : hitL l n d = none) : ∀ f ∈ l, ¬ (f.n = n ∧ f.d = d) := by
 unfold hitL at h;rw [List.findIdx?_eq_none_iff] at h;intro f hf;simpa using h f hf
theorem spotsL_set {l : List Fe} {k : Nat} {f g : Fe} (h : l[k]? = some f) (h1 : g.n = f.n) (h2 : g.d = f.d) : spotsL (l.set k g) = spotsL l := by
 unfold spotsL;rw [List.map_set, h1, h2];refine List.ext_getElem? fun i => ?_
 by_cases e : k = i
 ·subst e;have hk := (List.getElem?_eq_some_iff.1 h).1;rw [List.getElem?_set_self (by simpa using hk), List.getElem?_map, h]; rfl
 ·rw [List.getElem?_set_ne e]
structure View (l : List Fe) : Prop where
 ok : ∀ f ∈ l, FeOk f ∧ 0 ≤ f.c ∧ f.c ≤ 1048576
 one : (spotsL l).Nodup
theorem view_of_right {l : List Fe} (hf : ∀ f ∈ l, FeOk f) (h : rightL l = true) : View l := by
 unfold rightL at h;rw [List.all_eq_true] at h;have hk : ∀ k f, l[k]? = some f → cpuOk f = true ∧ findL (l.take k) f.n f.d < 0 := fun k f hx => by
  have := h k (by simpa using (List.getElem?_eq_some_iff.1 hx).1);unfold okAt at this;rw [hx] at this;simp only [Bool.and_eq_true, decide_eq_true_eq] at this;exact this
 refine ⟨fun f hm => ?_, ?_⟩
 ·obtain ⟨k, hx⟩ := List.mem_iff_getElem?.1 hm;have := (hk k f hx).1;unfold cpuOk at this;exact ⟨hf f hm, of_decide_eq_true this⟩
 ·unfold spotsL;refine List.pairwise_iff_getElem.2 fun i j hi hj hij e => ?_
  rw [List.length_map] at hi hj;simp only [List.getElem_map] at e;have h1 := (hk j l[j] (List.getElem?_eq_getElem hj)).2;unfold findL at h1
  cases hq : (l.take j).findIdx? (fun f => f.n == l[j].n && f.d == l[j].d) with
  | some q => rw [hq] at h1; simp at h1; omega
  | none =>
   rw [List.findIdx?_eq_none_iff] at hq;have hm : l[i] ∈ l.take j := by
    rw [List.mem_iff_getElem?];exact ⟨i, by rw [List.getElem?_take, if_pos hij, List.getElem?_eq_getElem]⟩
   have := hq _ hm;have e1 := congrArg Prod.fst e;have e2 := congrArg Prod.snd e;simp only at e1 e2;simp [e1, e2] at this
theorem info_freeP : (Tryz.prog.info? 63).map (fun i => (i.zero, i.size, i.bytes)) = some (some (.agg #[.int .i64 0, .int .i64 0, .int .u64 0, .int .i64 0]), 4, 32) := by kernel_rfl
theorem own_emptyP (w : World) (base : Nat) (hb : base ≤ w.heap.size) : (w.alloc (.cells #[] 63)).ownsRow base 63 4 (.slice (some ⟨w.heap.size, 0, none⟩) 0 0) 0 [] :=
 ⟨rfl, .inr ⟨w.heap.size, 0, #[], rfl, hb, heap_alloc_new w _, Nat.le_refl _, Nat.zero_le _, rfl, rfl⟩⟩
theorem not_nilP (b off n cap : Nat) (W : World) : (binOp .eql 22 (.slice (some ⟨b, off, none⟩) n cap) (.slice none 0 0)).run Tryz.prog W = .ok (.bool false) W := by kernel_rfl
theorem mapmake (n : Nat) (W : World) : (Instr.makeMap 174 (some (.int .i64 (n : Int)))).run Tryz.prog W = .ok (.map (some W.heap.size)) (W.alloc (.map #[] 0)) := by
 simp [Instr.makeMap, run_underlying Tryz.underlying174];rfl
set_option maxRecDepth 100000 in
set_option maxHeartbeats 1000000 in
theorem clone_any (b off cap : Nat) (l : List Fe) (w : World) (hc : ∀ (i : Nat) (x : Fe), l[i]? = some x → FeAt w b (off + i * 4) x) (hb : b < w.heap.size) (h0 : 0 < l.length) (hn : l.length ≤ 100000) :
  Calls Tryz.prog 115 #[.slice (some ⟨b, off, none⟩) l.length cap] w fun e w' => ∃ g cap', e = .returned (.slice (some ⟨g, 0, none⟩) l.length cap') ∧ w.heap.size ≤ g ∧ OwnF w' g l ∧ Below w.heap.size w w' := by
 obtain ⟨i0, hi, hz0, hz1, hz2⟩ := info_parts info_freeP;have hcells := fe_cells hc;have hB1 := (Below.refl w.heap.size w).alloc (Nat.le_refl _) (.cells #[] 63);obtain ⟨n, hln⟩ : ∃ n, l.length = n := ⟨_, rfl⟩
 have H := Hq (Ai hcells (Ai hln (feC_len l)));rw [hln] at h0 hn ⊢;have hnil := fun W => not_nilP b off n cap W
 clear hc hcells hln;go_enter Tryz.func115, Tryz.ntmps115;go_wp2_with (at_builtin; refine wpList_append_lies _ rfl _ _ 22 rfl w.heap.size 63 i0 _ 4 32 Tryz.underlying22 hi hz0 hz1 hz2 rfl (by decide) (.slice (some ⟨w.heap.size, 0, none⟩) 0 0) 0 [] rfl (own_emptyP w _ (Nat.le_refl _)) ⟨b, off, none⟩ n cap (l.flatMap feC) rfl (by rw [H.out.2.2, H.out.2.1]) (fun j v hj => (hB1.cell (p := (⟨b, off, none⟩ : Addr).add j) (by rw [Addr.add_lit]; exact hb)).trans (H.out.1 j v hj)) (feC_one l) h0 (by unfold maxLen; omega) (by omega) (by simp) (w.heap.size + 1) (by simp) ?_; intro gg cap' w3 hown3 hgrow hat hlt)
 go_ret
 have hg : w.heap.size ≤ gg := by
  rcases hat with h | h
  ·simp [Value.ownBlock] at h; omega
  ·omega
 refine ⟨gg, cap', by simp, hg, ?_, hB1.grown hgrow (by simp) (fun k e => by simp [Value.ownBlock] at e; omega)⟩;rcases hown3.2 with ⟨h, _⟩ | ⟨g', c', cur, e, _, hgb, h5, h6, h7, h8⟩
 ·cases h
 ·cases e
  refine ⟨cur, hgb, ?_⟩;rw [H.out.2.1];simpa using h8
set_option maxRecDepth 100000 in
set_option maxHeartbeats 2000000 in
theorem numbers_any (A : Option Addr) (cap B : Nat) (l : List Fe) (w : World) (h : Fes w B A l) (hB : B ≤ w.heap.size) (hv : View l) (hn : l.length ≤ 100000) :
  Calls Tryz.prog 116 #[.slice A l.length cap] w fun e w' => ∃ m, e = .returned (.map (some m)) ∧ w.heap.size ≤ m ∧ Hid (EntAt w' m (entsL l)) ∧ Below w.heap.size w w' := by
 obtain ⟨n, hln⟩ : ∃ n, l.length = n := ⟨_, rfl⟩
 have H := Hq (Ai h (Ai hln hv));rw [hln] at hn ⊢;have hE0 : Hid (EntAt (w.alloc (.map #[] 0)) w.heap.size (entsL (l.take 0))) := Hq (EntAt.new w);have hB0 := Hq ((Below.refl w.heap.size w).alloc (Nat.le_refl _) (.map #[] 0));have hmm := fun W => mapmake n W
 clear h hln hv;go_enter Tryz.func116, Tryz.ntmps116;go_wp2;go_loopw [11] (fun i wr => ∃ k : Nat, i = .int .i64 k ∧ k ≤ n ∧ Hid (Below w.heap.size w wr) ∧ Hid (EntAt wr w.heap.size (entsL (l.take k)))) (fun i _ => n - (intOf i).toNat)
 case atStart => exact ⟨0, rfl, by omega, hB0, hE0⟩
 case round =>
  clear hE0 hB0;obtain ⟨k, rfl, hk, hBl, hE⟩ := hrel;by_cases hlt : k < n
  ·obtain ⟨f, hx⟩ := get_lt (l := l) (k := k) (by rw [H.out.2.1]; exact hlt);obtain ⟨b, off, rfl, hb, hc⟩ := H.out.1.at_ hx;obtain ⟨f0, f1, f2, f3⟩ := (hc k f hx).keep (B := w.heap.size) (by omega) hBl.out;have hfo := (H.out.2.2.ok f (List.mem_of_getElem? hx)).1;obtain ⟨W, hW⟩ := nx (wr.alloc (.cells #[.int .i64 f.n, .int .i64 f.d, .int .u64 (f.m : Nat), .int .i64 f.c] 63));have hml := hE.out.lt;have hEW : EntAt W w.heap.size (entsL (l.take k)) := hE.out.of_block (by rw [hW]; exact Below.heap_alloc _ _ _ hml);have hno : (f.n, f.d) ∉ (entsL (l.take k)).map (·.1) := by
    rw [entsL_keys];intro hm;have hone := H.out.2.2.one;obtain ⟨i, hi⟩ := List.mem_iff_getElem?.1 hm;unfold spotsL at hi hone;rw [List.getElem?_map, List.getElem?_take] at hi
    split at hi
    ·rename_i hik
     have hxi : i < l.length := by rw [H.out.2.1]; omega
     have hxk : k < l.length := by rw [H.out.2.1]; omega
     have := List.pairwise_iff_getElem.1 hone i k (by simpa using hxi) (by simpa using hxk) hik;rw [List.getElem?_eq_getElem hxi] at hi;rw [List.getElem?_eq_getElem hxk] at hx;simp at hi hx;simp [hx, hi] at this
    ·simp at hi
   obtain ⟨w2, hput, hE2, hgr⟩ := hEW.put (s := (f.n, f.d)) (k : Int) hfo.n hfo.d hno;have hN : Hid (EntAt w2 w.heap.size (entsL (l.take (k + 1)))) := Hq (by rw [entsL_next hx]; exact hE2);have hBW : Below w.heap.size w W := by rw [hW]; exact hBl.out.alloc hBl.out.size _
   have hN2 : Hid (Below w.heap.size w w2) := Hq (hBW.grown hgr hBW.size (fun i e => by cases e; exact Nat.le_refl _));rw [hW] at hput;have t1 : decide (k < n) = true := decide_eq_true hlt;clear hx hc hb hfo hEW hno hE2 hgr hBW hE hBl hml hW;go_wp2
   go_roundw
   case rel => exact ⟨k + 1, by go_num, by omega, hN2, hN⟩
   case measure => simp [intOf]; omega
  ·obtain rfl : k = n := by omega
   have hR : Hid (EntAt wr w.heap.size (entsL l)) := Hq (by have := hE.out; rw [List.take_of_length_le (by rw [H.out.2.1]; omega)] at this; exact this);have t1 : decide (k < k) = false := decide_eq_false (by omega);clear hlt hE;go_wp2
   go_ret
   exact ⟨_, rfl, Nat.le_refl _, hR, hBl.out⟩
end
section
open Go.RowKit
theorem lessC_keep {f s : Fe} (hf : FeOk f) (h0 : 0 ≤ f.c) (h1 : f.c ≤ 1048576) (_ : FeOk s) (hs0 : 0 ≤ s.c) (h : (lessC f s).1 = 0) : (lessC f s).2.n = f.n ∧ (lessC f s).2.d = f.d ∧ FeOk (lessC f s).2 ∧ 0 ≤ (lessC f s).2.c ∧ (lessC f s).2.c ≤ 1048576 := by
 unfold lessC at *;by_cases hc : MM.sub s.m f.m ≠ 0 ∨ f.c < s.c
 ·rw [if_pos hc] at h; exact absurd h (by simp)
 ·rw [if_neg hc];have : ¬ f.c < s.c := fun h => hc (.inr h)
  refine ⟨rfl, rfl, ⟨hf.n, hf.d, MM.sub_lt _ hf.m, ?_⟩, ?_, ?_⟩
  ·exact WalkArith.wf_i64 (by simp only; omega)
  ·simp only; omega
  ·simp only; omega
theorem moreC_keep {f s : Fe} (hf : FeOk f) (h0 : 0 ≤ f.c) (h1 : f.c ≤ 1048576) (hs : FeOk s) (hs0 : 0 ≤ s.c) (h : (moreC f s).1 = 0) : (moreC f s).2.n = f.n ∧ (moreC f s).2.d = f.d ∧ FeOk (moreC f s).2 ∧ 0 ≤ (moreC f s).2.c ∧ (moreC f s).2.c ≤ 1048576 := by
 unfold moreC at *;by_cases hc : s.m &&& f.m ≠ 0
 ·rw [if_pos hc] at h; exact absurd h (by simp)
 ·rw [if_neg hc] at h ⊢;by_cases hc2 : 1048576 - f.c < s.c
  ·rw [if_pos hc2] at h; exact absurd h (by simp)
  ·rw [if_neg hc2];refine ⟨rfl, rfl, ⟨hf.n, hf.d, MM.or_lt hf.m hs.m, ?_⟩, ?_, ?_⟩
   ·exact WalkArith.wf_i64 (by simp only; omega)
   ·simp only; omega
   ·simp only; omega
set_option maxRecDepth 100000 in
set_option maxHeartbeats 4000000 in
theorem turn_less (b off cap : Nat) (SA : Option Addr) (scap : Nat) (l ss : List Fe) (w : World) (hc : ∀ (i : Nat) (x : Fe), l[i]? = some x → FeAt w b (off + i * 4) x) (hb : b < w.heap.size) (h0 : 0 < l.length) (hn : l.length ≤ 100000) (hv : View l) (hs : Fes w w.heap.size SA ss) (hso : ∀ s ∈ ss, FeOk s) (hsn : ss.length ≤ 100000) :
  Calls Tryz.prog 103 #[.slice (some ⟨b, off, none⟩) l.length cap, .slice SA ss.length scap, .func (.func 104) #[] #[]] w fun e w' => Below w.heap.size w w' ∧
   ((turnL lessC l ss).1 = 0 → ∃ g cap', e = .returned (.tuple #[.slice (some ⟨g, 0, none⟩) l.length cap', .int .i64 0]) ∧ Hid (Fes w' w'.heap.size (some ⟨g, 0, none⟩) (turnL lessC l ss).2 ∧ (turnL lessC l ss).2.length = l.length ∧ View (turnL lessC l ss).2)) ∧
   ((turnL lessC l ss).1 ≠ 0 → e = .returned (.tuple #[.slice none 0 0, .int .i64 (turnL lessC l ss).1])) := by
 have hC := clone_any b off cap l w hc hb h0 hn;have hN := fun W (hW : Below w.heap.size w W) => numbers_any (some ⟨b, off, none⟩) cap W.heap.size l W (.inr ⟨b, off, rfl, by have := hW.size; omega, fun i x hx => (hc i x hx).keep (B := w.heap.size) hb hW⟩) (Nat.le_refl _) hv hn
 obtain ⟨n, hln⟩ : ∃ n, l.length = n := ⟨_, rfl⟩
 obtain ⟨q, hlq⟩ : ∃ q, ss.length = q := ⟨_, rfl⟩
 have H := Hq (Ai hs (Ai hlq (Ai hso (Ai hln hv))));rw [hln] at hC hN hn h0 ⊢;rw [hlq] at hsn ⊢;have HC := Hq hC;have HN := Hq hN;clear hC hN hc hs hlq hso hln hv;go_enter Tryz.func103, Tryz.ntmps103;go_wp2_with fail;refine HC.out.mono ?_;rintro e w1 ⟨G, capG, rfl, hG, hO1, hb1⟩;have hs1 := hb1.size;have hG1 := hO1.lt;go_wp2_with fail;refine (HN.out w1 hb1).mono ?_;rintro e w2 ⟨M, rfl, hM, hE2, hb2⟩;have hs2 := hb2.size;have hMlt := hE2.out.lt;have hGM : G < M := by omega
 obtain ⟨St, hSt⟩ : ∃ St : Nat → World → Prop, St = fun (j : Nat) (wr : World) => ∃ lj, turnL lessC l (ss.take j) = (0, lj) ∧ OwnF wr G lj ∧ (∀ f ∈ lj, FeOk f ∧ 0 ≤ f.c ∧ f.c ≤ 1048576) ∧ spotsL lj = spotsL l ∧ EntAt wr M (entsL l) ∧ Below w.heap.size w wr ∧ M < wr.heap.size := ⟨_, rfl⟩
 have HS0 : Hid (St 0 w2) := Hq (by
  rw [hSt];exact ⟨l, rfl, hO1.of_block (hb2.block G hG1), H.out.2.2.2.2.ok, rfl, hE2.out, below_step hb1 hb2, hMlt⟩)
 have HSt := Hq hSt;clear hb1 hb2 hO1 hE2 HC HN hSt hs1 hs2 hMlt hG1;go_wp2;go_loopw [21] (fun i wr => ∃ j : Nat, i = .int .i64 j ∧ j ≤ q ∧ Hid (St j wr)) (fun i _ => q - (intOf i).toNat)
 case atStart => exact ⟨0, rfl, by omega, HS0⟩
 case round =>
  clear HS0;obtain ⟨j, rfl, hj, hS⟩ := hrel;have hSj := hS.out;rw [HSt.out] at hSj;obtain ⟨lj, hT, hO, hok, hsp, hE, hBw, hMw⟩ := hSj;clear hS;have hlj : lj.length = n := by have := congrArg List.length hsp; unfold spotsL at this; rw [List.length_map, List.length_map] at this; rw [this]; exact H.out.2.2.2.1
  by_cases hlt : j < q
  ·obtain ⟨s, hx⟩ := get_lt (l := ss) (k := j) (by rw [H.out.2.1]; exact hlt);obtain ⟨sb, soff, rfl, hsb, hsc⟩ := H.out.1.at_ hx;obtain ⟨s0, s1, s2, s3⟩ := (hsc j s hx).keep (B := w.heap.size) hsb hBw;have hsok := H.out.2.2.1 s (List.mem_of_getElem? hx);obtain ⟨W, hW⟩ := nx (wr.alloc (.cells #[.int .i64 s.n, .int .i64 s.d, .int .u64 (s.m : Nat), .int .i64 s.c] 64));have hBWr : Below wr.heap.size wr W := by rw [hW]; exact (Below.refl _ _).alloc (Nat.le_refl _) _
   have hWs : W.heap.size = wr.heap.size + 1 := by rw [hW]; simp
   have hbox : W.heap[wr.heap.size]? = some (.cells #[.int .i64 s.n, .int .i64 s.d, .int .u64 (s.m : Nat), .int .i64 s.c] 64 (0, 0)) := by rw [hW]; exact heap_alloc_new wr _
   have hBW := Hq (show Below w.heap.size w W from below_step hBw hBWr);have hEW := Hq (show EntAt W M (entsL l) from hE.of_block (hBWr.block M hMw));have hOW : OwnF W G lj := hO.of_block (hBWr.block G hO.lt);have t1 : decide (j < q) = true := decide_eq_true hlt;have HWe := Hq hW;by_cases hneg : s.c < 0
   ·have hst : stepL lessC lj s = (1, lj) := by unfold stepL; rw [if_pos hneg]
    have hfin := turnL_stop hT hx (by rw [hst]; simp);rw [hst] at hfin;have HFin := Hq hfin;have t2 : decide (s.c < 0) = true := decide_eq_true hneg;clear hst hfin hneg hT hO hok hsp hE hBw hx hsc hsb hsok hOW hbox hBWr hWs hW hlj;go_wp2
    go_ret2
    refine ⟨by rw [← HWe.out]; exact hBW.out, fun h => ?_, fun _ => by rw [HFin.out]; rfl⟩;rw [HFin.out] at h; exact absurd h (by simp)
   have t2 : decide (s.c < 0) = false := decide_eq_false hneg
   cases hh : hitL lj s.n s.d with
   | none =>
    have hst : stepL lessC lj s = (3, lj) := by unfold stepL; rw [if_neg hneg, hh]
    have hfin := turnL_stop hT hx (by rw [hst]; simp);rw [hst] at hfin;have HFin := Hq hfin;have hmiss := hEW.out.miss hsok.n hsok.d (fun e he => by
     have hm : e.1 ∈ spotsL lj := by rw [hsp, ← entsL_keys]; exact List.mem_map_of_mem he
     unfold spotsL at hm;obtain ⟨f, hf, e1⟩ := List.mem_map.1 hm;have := hitL_none hh f hf;rw [← e1];exact this)
    rw [hW] at hmiss;clear hst hfin hh hneg hT hO hok hsp hE hBw hx hsc hsb hsok hOW hbox hBWr hWs hW hlj;go_wp2
    go_ret2
    refine ⟨by rw [← HWe.out]; exact hBW.out, fun h => ?_, fun _ => by rw [HFin.out]; rfl⟩;rw [HFin.out] at h; exact absurd h (by simp)
   | some k =>
    obtain ⟨f, hf, hf1, hf2⟩ := hitL_some hh;have hkl : k < lj.length := (List.getElem?_eq_some_iff.1 hf).1;obtain ⟨fo, hfo⟩ := get_lt (l := l) (k := k) (by rw [H.out.2.2.2.1]; omega);have hfs : fo.n = s.n ∧ fo.d = s.d := by
     have e1 : (spotsL lj)[k]? = (spotsL l)[k]? := (by rw [hsp]);unfold spotsL at e1;rw [List.getElem?_map, List.getElem?_map, hf, hfo] at e1;simp at e1;exact ⟨e1.1.symm.trans hf1, e1.2.symm.trans hf2⟩
    have hhit := hEW.out.hit (i := k) (s := (s.n, s.d)) (v := (k : Int)) (by rw [entsL_at hfo, hfs.1, hfs.2]) (by rw [entsL_keys]; exact H.out.2.2.2.2.one);have hst : stepL lessC lj s = ((lessC f s).1, if (lessC f s).1 = 0 then lj.set k (lessC f s).2 else lj) := by unfold stepL; rw [if_neg hneg, hh]; simp only [hf]
    obtain ⟨hfk, hfc0, hfc1⟩ := hok f (List.mem_of_getElem? hf);have hCall := Hq (less_cl G k lj f s W.drew (hOW.of_block rfl) hf hsok hfk hfc0 hfc1 (by omega));have hGlt := hO.lt;have hs00 : 0 ≤ s.c := (by omega);have hjk : (k : Int) < (n : Int) := (by omega);simp only at hhit;rw [hW] at hhit;obtain ⟨E, hE'⟩ : ∃ E, E = (lessC f s).1 := ⟨_, rfl⟩
    have hnx := turnL_next hT hx;rw [hst] at hnx;have HK := Hq (Ai hE' (Ai hnx (Ai hT (Ai hx (Ai hst (Ai hf (Ai hok (Ai hsp (Ai hfk (Ai hfc0 (Ai hfc1 hsok)))))))))));rw [← hE'] at hCall;unfold feV at hCall;clear hE' hnx hst hT hO hok hsp hE hBw hx hsc hsb hsok hOW hBWr hh hf hf1 hf2 hfs hfo hfk hfc0 hfc1 hneg hlj hkl;go_wp2_with fail;rw [← HWe.out];clear hhit s0 s1 s2 s3 hW;obtain ⟨N, hN⟩ := nx (wr.heap.size);rw [← hN] at hbox hWs hGlt hMw ⊢;clear hN;refine held_begin (fun w' : World => w'.cell? ⟨N, 0, none⟩ = some (.int .i64 s.n) ∧ w'.cell? ⟨N, 1, none⟩ = some (.int .i64 s.d) ∧ w'.cell? ⟨N, 2, none⟩ = some (.int .u64 (s.m : Nat)) ∧ w'.cell? ⟨N, 3, none⟩ = some (.int .i64 s.c)) (by kernel_rfl) ?_;have hS0 := Ai (cell_blk (i := 0) (w := W) hbox rfl) (Ai (cell_blk (i := 1) (w := W) hbox rfl) (Ai (cell_blk (i := 2) (w := W) hbox rfl) (cell_blk (i := 3) (w := W) hbox rfl)));refine tkA 0 37 hS0 ?_;refine tkA 1 38 hS0 ?_;refine tkA 2 39 hS0 ?_;refine tkA 3 40 hS0 ?_;refine tkA 4 41 hS0 ?_;refine held_one 5 rfl (by kernel_rfl) (by rfl) (fun K hK => ?_);go_simp
    go_at_call 104
    refine hCall.out.mono ?_;rintro e w2 ⟨rfl, ho2, hf2⟩;have hbox2 := (hf2.block N (show N < W.heap.size by omega) (show ¬ N = G by omega)).trans (show W.drew.heap[N]? = _ from hbox);have hS2 := Ai (cell_blk (i := 0) (w := w2) hbox2 rfl) (Ai (cell_blk (i := 1) (w := w2) hbox2 rfl) (Ai (cell_blk (i := 2) (w := w2) hbox2 rfl) (cell_blk (i := 3) (w := w2) hbox2 rfl)));have hE2 : EntAt w2 M (entsL l) := (hEW.out.of_block (w' := w2) (hf2.block M (show M < W.heap.size by omega) (show ¬ M = G by omega)))
    have hB2 : Below w.heap.size w w2 := hBW.out.trans ((hf2.below (by have := hBW.out.size; exact this) (fun i e => by omega)).trans (Below.refl _ _) |> fun h => ⟨h.os, h.tape, h.output, h.size, h.block⟩);have HO2 := Hq ho2;have HE2 := Hq hE2;have HB2 := Hq hB2;have hs2 : W.heap.size ≤ w2.heap.size := hf2.size;clear ho2 hf2 hE2 hB2 hbox2 hCall;refine hK.out _ _ hS2 ?_;clear hK K;refine tkA 6 14 hS2 ?_;refine wpAnyH_done (by kernel_rfl) ?_ _;clear hS0 hS2;by_cases hE0 : E = 0
    ·subst hE0;have hN2 : Hid (St (j + 1) w2) := Hq (by
      obtain ⟨hE', hnx, hT, hx, hst, hf, hok, hsp, hfk, hfc0, hfc1, hsok⟩ := HK.out;rw [HSt.out];have ho := HO2.out;rw [if_pos rfl] at ho;rw [← hE', if_pos rfl] at hnx;obtain ⟨c1, c2, c3, c4, c5⟩ := lessC_keep hfk hfc0 hfc1 hsok hs00 hE'.symm;refine ⟨lj.set k (lessC f s).2, by rw [hnx], ho, fun x hxm => ?_, by rw [spotsL_set hf c1 c2, hsp], HE2.out, HB2.out, by omega⟩;rcases List.mem_or_eq_of_mem_set hxm with h | h
      ·exact hok x h
      ·rw [h]; exact ⟨c3, c4, c5⟩)
     have t3 : ((0 : Int) != 0) = false := rfl;clear HK HO2 HE2 HB2 hEW hBW HWe;go_wp2
     go_roundw
     case rel => exact ⟨j + 1, by go_num, by omega, hN2⟩
     case measure => simp [intOf]; omega
    ·have hfin : Hid ((turnL lessC l ss).1 = E) := Hq (by
      obtain ⟨hE', hnx, hT, hx, hst, _⟩ := HK.out;have := turnL_stop hT hx (by rw [hst, ← hE']; exact hE0);rw [this, hst, ← hE'])
     have t3 : (E != 0) = true := by simp; exact hE0
     clear HK HO2 HE2 hEW hBW HWe;go_wp2
     go_ret2
     exact ⟨HB2.out, fun h => absurd (hfin.out.symm.trans h) hE0, fun _ => by rw [hfin.out]; rfl⟩
  ·obtain rfl : j = q := by omega
   have hTT : turnL lessC l ss = (0, lj) := by have := hT; rw [List.take_of_length_le (by rw [H.out.2.1]; omega)] at this; exact this
   have HR := Hq (Ai hTT (Ai hO (Ai hok (Ai hsp (Ai hBw hlj)))));have t1 : decide (j < j) = false := decide_eq_false (by omega);clear hTT hT hO hok hsp hE hBw hlj hlt;go_wp2
   go_ret2
   obtain ⟨hTT, hO, hok, hsp, hBw, hlj⟩ := HR.out;refine ⟨hBw, fun _ => ⟨G, capG, rfl, Hq ?_⟩, fun h => ?_⟩
   ·rw [hTT];exact ⟨hO.fes, by rw [hlj], ⟨hok, by rw [hsp]; exact H.out.2.2.2.2.one⟩⟩
   ·rw [hTT] at h; exact absurd rfl h
set_option maxRecDepth 100000 in
set_option maxHeartbeats 4000000 in
theorem turn_more (b off cap : Nat) (SA : Option Addr) (scap : Nat) (l ss : List Fe) (w : World) (hc : ∀ (i : Nat) (x : Fe), l[i]? = some x → FeAt w b (off + i * 4) x) (hb : b < w.heap.size) (h0 : 0 < l.length) (hn : l.length ≤ 100000) (hv : View l) (hs : Fes w w.heap.size SA ss) (hso : ∀ s ∈ ss, FeOk s) (hsn : ss.length ≤ 100000) :
  Calls Tryz.prog 103 #[.slice (some ⟨b, off, none⟩) l.length cap, .slice SA ss.length scap, .func (.func 106) #[] #[]] w fun e w' => Below w.heap.size w w' ∧
   ((turnL moreC l ss).1 = 0 → ∃ g cap', e = .returned (.tuple #[.slice (some ⟨g, 0, none⟩) l.length cap', .int .i64 0]) ∧ Hid (Fes w' w'.heap.size (some ⟨g, 0, none⟩) (turnL moreC l ss).2 ∧ (turnL moreC l ss).2.length = l.length ∧ View (turnL moreC l ss).2)) ∧
   ((turnL moreC l ss).1 ≠ 0 → e = .returned (.tuple #[.slice none 0 0, .int .i64 (turnL moreC l ss).1])) := by
 have hC := clone_any b off cap l w hc hb h0 hn;have hN := fun W (hW : Below w.heap.size w W) => numbers_any (some ⟨b, off, none⟩) cap W.heap.size l W (.inr ⟨b, off, rfl, by have := hW.size; omega, fun i x hx => (hc i x hx).keep (B := w.heap.size) hb hW⟩) (Nat.le_refl _) hv hn
 obtain ⟨n, hln⟩ : ∃ n, l.length = n := ⟨_, rfl⟩
 obtain ⟨q, hlq⟩ : ∃ q, ss.length = q := ⟨_, rfl⟩
 have H := Hq (Ai hs (Ai hlq (Ai hso (Ai hln hv))));rw [hln] at hC hN hn h0 ⊢;rw [hlq] at hsn ⊢;have HC := Hq hC;have HN := Hq hN;clear hC hN hc hs hlq hso hln hv;go_enter Tryz.func103, Tryz.ntmps103;go_wp2_with fail;refine HC.out.mono ?_;rintro e w1 ⟨G, capG, rfl, hG, hO1, hb1⟩;have hs1 := hb1.size;have hG1 := hO1.lt;go_wp2_with fail;refine (HN.out w1 hb1).mono ?_;rintro e w2 ⟨M, rfl, hM, hE2, hb2⟩;have hs2 := hb2.size;have hMlt := hE2.out.lt;have hGM : G < M := by omega
 obtain ⟨St, hSt⟩ : ∃ St : Nat → World → Prop, St = fun (j : Nat) (wr : World) => ∃ lj, turnL moreC l (ss.take j) = (0, lj) ∧ OwnF wr G lj ∧ (∀ f ∈ lj, FeOk f ∧ 0 ≤ f.c ∧ f.c ≤ 1048576) ∧ spotsL lj = spotsL l ∧ EntAt wr M (entsL l) ∧ Below w.heap.size w wr ∧ M < wr.heap.size := ⟨_, rfl⟩
 have HS0 : Hid (St 0 w2) := Hq (by
  rw [hSt];exact ⟨l, rfl, hO1.of_block (hb2.block G hG1), H.out.2.2.2.2.ok, rfl, hE2.out, below_step hb1 hb2, hMlt⟩)
 have HSt := Hq hSt;clear hb1 hb2 hO1 hE2 HC HN hSt hs1 hs2 hMlt hG1;go_wp2;go_loopw [21] (fun i wr => ∃ j : Nat, i = .int .i64 j ∧ j ≤ q ∧ Hid (St j wr)) (fun i _ => q - (intOf i).toNat)
 case atStart => exact ⟨0, rfl, by omega, HS0⟩
 case round =>
  clear HS0;obtain ⟨j, rfl, hj, hS⟩ := hrel;have hSj := hS.out;rw [HSt.out] at hSj;obtain ⟨lj, hT, hO, hok, hsp, hE, hBw, hMw⟩ := hSj;clear hS;have hlj : lj.length = n := by have := congrArg List.length hsp; unfold spotsL at this; rw [List.length_map, List.length_map] at this; rw [this]; exact H.out.2.2.2.1
  by_cases hlt : j < q
  ·obtain ⟨s, hx⟩ := get_lt (l := ss) (k := j) (by rw [H.out.2.1]; exact hlt);obtain ⟨sb, soff, rfl, hsb, hsc⟩ := H.out.1.at_ hx;obtain ⟨s0, s1, s2, s3⟩ := (hsc j s hx).keep (B := w.heap.size) hsb hBw;have hsok := H.out.2.2.1 s (List.mem_of_getElem? hx);obtain ⟨W, hW⟩ := nx (wr.alloc (.cells #[.int .i64 s.n, .int .i64 s.d, .int .u64 (s.m : Nat), .int .i64 s.c] 64));have hBWr : Below wr.heap.size wr W := by rw [hW]; exact (Below.refl _ _).alloc (Nat.le_refl _) _
   have hWs : W.heap.size = wr.heap.size + 1 := by rw [hW]; simp
   have hbox : W.heap[wr.heap.size]? = some (.cells #[.int .i64 s.n, .int .i64 s.d, .int .u64 (s.m : Nat), .int .i64 s.c] 64 (0, 0)) := by rw [hW]; exact heap_alloc_new wr _
   have hBW := Hq (show Below w.heap.size w W from below_step hBw hBWr);have hEW := Hq (show EntAt W M (entsL l) from hE.of_block (hBWr.block M hMw));have hOW : OwnF W G lj := hO.of_block (hBWr.block G hO.lt);have t1 : decide (j < q) = true := decide_eq_true hlt;have HWe := Hq hW;by_cases hneg : s.c < 0
   ·have hst : stepL moreC lj s = (1, lj) := by unfold stepL; rw [if_pos hneg]
    have hfin := turnL_stop hT hx (by rw [hst]; simp);rw [hst] at hfin;have HFin := Hq hfin;have t2 : decide (s.c < 0) = true := decide_eq_true hneg;clear hst hfin hneg hT hO hok hsp hE hBw hx hsc hsb hsok hOW hbox hBWr hWs hW hlj;go_wp2
    go_ret2
    refine ⟨by rw [← HWe.out]; exact hBW.out, fun h => ?_, fun _ => by rw [HFin.out]; rfl⟩;rw [HFin.out] at h; exact absurd h (by simp)
   have t2 : decide (s.c < 0) = false := decide_eq_false hneg
   cases hh : hitL lj s.n s.d with
   | none =>
    have hst : stepL moreC lj s = (3, lj) := by unfold stepL; rw [if_neg hneg, hh]
    have hfin := turnL_stop hT hx (by rw [hst]; simp);rw [hst] at hfin;have HFin := Hq hfin;have hmiss := hEW.out.miss hsok.n hsok.d (fun e he => by
     have hm : e.1 ∈ spotsL lj := by rw [hsp, ← entsL_keys]; exact List.mem_map_of_mem he
     unfold spotsL at hm;obtain ⟨f, hf, e1⟩ := List.mem_map.1 hm;have := hitL_none hh f hf;rw [← e1];exact this)
    rw [hW] at hmiss;clear hst hfin hh hneg hT hO hok hsp hE hBw hx hsc hsb hsok hOW hbox hBWr hWs hW hlj;go_wp2
    go_ret2
    refine ⟨by rw [← HWe.out]; exact hBW.out, fun h => ?_, fun _ => by rw [HFin.out]; rfl⟩;rw [HFin.out] at h; exact absurd h (by simp)
   | some k =>
    obtain ⟨f, hf, hf1, hf2⟩ := hitL_some hh;have hkl : k < lj.length := (List.getElem?_eq_some_iff.1 hf).1;obtain ⟨fo, hfo⟩ := get_lt (l := l) (k := k) (by rw [H.out.2.2.2.1]; omega);have hfs : fo.n = s.n ∧ fo.d = s.d := by
     have e1 : (spotsL lj)[k]? = (spotsL l)[k]? := (by rw [hsp]);unfold spotsL at e1;rw [List.getElem?_map, List.getElem?_map, hf, hfo] at e1;simp at e1;exact ⟨e1.1.symm.trans hf1, e1.2.symm.trans hf2⟩
    have hhit := hEW.out.hit (i := k) (s := (s.n, s.d)) (v := (k : Int)) (by rw [entsL_at hfo, hfs.1, hfs.2]) (by rw [entsL_keys]; exact H.out.2.2.2.2.one);have hst : stepL moreC lj s = ((moreC f s).1, if (moreC f s).1 = 0 then lj.set k (moreC f s).2 else lj) := by unfold stepL; rw [if_neg hneg, hh]; simp only [hf]
    obtain ⟨hfk, hfc0, hfc1⟩ := hok f (List.mem_of_getElem? hf);have hCall := Hq (more_cl G k lj f s W.drew (hOW.of_block rfl) hf hsok hfk hfc0 hfc1 (by omega));have hGlt := hO.lt;have hs00 : 0 ≤ s.c := (by omega);have hjk : (k : Int) < (n : Int) := (by omega);simp only at hhit;rw [hW] at hhit;obtain ⟨E, hE'⟩ : ∃ E, E = (moreC f s).1 := ⟨_, rfl⟩
    have hnx := turnL_next hT hx;rw [hst] at hnx;have HK := Hq (Ai hE' (Ai hnx (Ai hT (Ai hx (Ai hst (Ai hf (Ai hok (Ai hsp (Ai hfk (Ai hfc0 (Ai hfc1 hsok)))))))))));rw [← hE'] at hCall;unfold feV at hCall;clear hE' hnx hst hT hO hok hsp hE hBw hx hsc hsb hsok hOW hBWr hh hf hf1 hf2 hfs hfo hfk hfc0 hfc1 hneg hlj hkl;go_wp2_with fail;rw [← HWe.out];clear hhit s0 s1 s2 s3 hW;obtain ⟨N, hN⟩ := nx (wr.heap.size);rw [← hN] at hbox hWs hGlt hMw ⊢;clear hN;refine held_begin (fun w' : World => w'.cell? ⟨N, 0, none⟩ = some (.int .i64 s.n) ∧ w'.cell? ⟨N, 1, none⟩ = some (.int .i64 s.d) ∧ w'.cell? ⟨N, 2, none⟩ = some (.int .u64 (s.m : Nat)) ∧ w'.cell? ⟨N, 3, none⟩ = some (.int .i64 s.c)) (by kernel_rfl) ?_;have hS0 := Ai (cell_blk (i := 0) (w := W) hbox rfl) (Ai (cell_blk (i := 1) (w := W) hbox rfl) (Ai (cell_blk (i := 2) (w := W) hbox rfl) (cell_blk (i := 3) (w := W) hbox rfl)));refine tkA 0 37 hS0 ?_;refine tkA 1 38 hS0 ?_;refine tkA 2 39 hS0 ?_;refine tkA 3 40 hS0 ?_;refine tkA 4 41 hS0 ?_;refine held_one 5 rfl (by kernel_rfl) (by rfl) (fun K hK => ?_);go_simp
    go_at_call 106
    refine hCall.out.mono ?_;rintro e w2 ⟨rfl, ho2, hf2⟩;have hbox2 := (hf2.block N (show N < W.heap.size by omega) (show ¬ N = G by omega)).trans (show W.drew.heap[N]? = _ from hbox);have hS2 := Ai (cell_blk (i := 0) (w := w2) hbox2 rfl) (Ai (cell_blk (i := 1) (w := w2) hbox2 rfl) (Ai (cell_blk (i := 2) (w := w2) hbox2 rfl) (cell_blk (i := 3) (w := w2) hbox2 rfl)));have hE2 : EntAt w2 M (entsL l) := (hEW.out.of_block (w' := w2) (hf2.block M (show M < W.heap.size by omega) (show ¬ M = G by omega)))
    have hB2 : Below w.heap.size w w2 := hBW.out.trans ((hf2.below (by have := hBW.out.size; exact this) (fun i e => by omega)).trans (Below.refl _ _) |> fun h => ⟨h.os, h.tape, h.output, h.size, h.block⟩);have HO2 := Hq ho2;have HE2 := Hq hE2;have HB2 := Hq hB2;have hs2 : W.heap.size ≤ w2.heap.size := hf2.size;clear ho2 hf2 hE2 hB2 hbox2 hCall;refine hK.out _ _ hS2 ?_;clear hK K;refine tkA 6 14 hS2 ?_;refine wpAnyH_done (by kernel_rfl) ?_ _;clear hS0 hS2;by_cases hE0 : E = 0
    ·subst hE0;have hN2 : Hid (St (j + 1) w2) := Hq (by
      obtain ⟨hE', hnx, hT, hx, hst, hf, hok, hsp, hfk, hfc0, hfc1, hsok⟩ := HK.out;rw [HSt.out];have ho := HO2.out;rw [if_pos rfl] at ho;rw [← hE', if_pos rfl] at hnx;obtain ⟨c1, c2, c3, c4, c5⟩ := moreC_keep hfk hfc0 hfc1 hsok hs00 hE'.symm;refine ⟨lj.set k (moreC f s).2, by rw [hnx], ho, fun x hxm => ?_, by rw [spotsL_set hf c1 c2, hsp], HE2.out, HB2.out, by omega⟩;rcases List.mem_or_eq_of_mem_set hxm with h | h
      ·exact hok x h
      ·rw [h]; exact ⟨c3, c4, c5⟩)
     have t3 : ((0 : Int) != 0) = false := rfl;clear HK HO2 HE2 HB2 hEW hBW HWe;go_wp2
     go_roundw
     case rel => exact ⟨j + 1, by go_num, by omega, hN2⟩
     case measure => simp [intOf]; omega
    ·have hfin : Hid ((turnL moreC l ss).1 = E) := Hq (by
      obtain ⟨hE', hnx, hT, hx, hst, _⟩ := HK.out;have := turnL_stop hT hx (by rw [hst, ← hE']; exact hE0);rw [this, hst, ← hE'])
     have t3 : (E != 0) = true := by simp; exact hE0
     clear HK HO2 HE2 hEW hBW HWe;go_wp2
     go_ret2
     exact ⟨HB2.out, fun h => absurd (hfin.out.symm.trans h) hE0, fun _ => by rw [hfin.out]; rfl⟩
  ·obtain rfl : j = q := by omega
   have hTT : turnL moreC l ss = (0, lj) := by have := hT; rw [List.take_of_length_le (by rw [H.out.2.1]; omega)] at this; exact this
   have HR := Hq (Ai hTT (Ai hO (Ai hok (Ai hsp (Ai hBw hlj)))));have t1 : decide (j < j) = false := decide_eq_false (by omega);clear hTT hT hO hok hsp hE hBw hlj hlt;go_wp2
   go_ret2
   obtain ⟨hTT, hO, hok, hsp, hBw, hlj⟩ := HR.out;refine ⟨hBw, fun _ => ⟨G, capG, rfl, Hq ?_⟩, fun h => ?_⟩
   ·rw [hTT];exact ⟨hO.fes, by rw [hlj], ⟨hok, by rw [hsp]; exact H.out.2.2.2.2.one⟩⟩
   ·rw [hTT] at h; exact absurd rfl h
set_option maxRecDepth 100000 in
theorem less_any (b off cap : Nat) (SA : Option Addr) (scap : Nat) (l ss : List Fe) (w : World) (hc : ∀ (i : Nat) (x : Fe), l[i]? = some x → FeAt w b (off + i * 4) x) (hb : b < w.heap.size) (h0 : 0 < l.length) (hn : l.length ≤ 100000) (hv : View l) (hs : Fes w w.heap.size SA ss) (hso : ∀ s ∈ ss, FeOk s) (hsn : ss.length ≤ 100000) :
  Calls Tryz.prog 90 #[.slice (some ⟨b, off, none⟩) l.length cap, .slice SA ss.length scap] w fun e w' => Below w.heap.size w w' ∧
   ((turnL lessC l ss).1 = 0 → ∃ g cap', e = .returned (.tuple #[.slice (some ⟨g, 0, none⟩) l.length cap', .int .i64 0]) ∧ Hid (Fes w' w'.heap.size (some ⟨g, 0, none⟩) (turnL lessC l ss).2 ∧ (turnL lessC l ss).2.length = l.length ∧ View (turnL lessC l ss).2)) ∧
   ((turnL lessC l ss).1 ≠ 0 → e = .returned (.tuple #[.slice none 0 0, .int .i64 (turnL lessC l ss).1])) := by
 have hT := Hq (turn_less b off cap SA scap l ss w hc hb h0 hn hv hs hso hsn);obtain ⟨n, hln⟩ : ∃ n, l.length = n := ⟨_, rfl⟩
 obtain ⟨q, hlq⟩ : ∃ n, ss.length = n := ⟨_, rfl⟩
 obtain ⟨E, hE⟩ := nx ((turnL lessC l ss).1);rw [hln, hlq] at hT ⊢;rw [← hE] at hT ⊢;clear hc hs hso hv hln hlq h0 hn hsn hE;by_cases hE0 : E = 0
 ·subst hE0;go_enter Tryz.func90, Tryz.ntmps90;go_wp2_with fail;refine hT.out.mono ?_;rintro e w2 ⟨hb2, h1, _⟩;obtain ⟨g, cap', rfl, hf⟩ := h1 trivial;have HB := Hq hb2;clear hb2 h1;go_wp2
  go_ret2
  exact ⟨HB.out, fun _ => ⟨g, cap', rfl, hf⟩, fun h => absurd rfl h⟩
 ·go_enter Tryz.func90, Tryz.ntmps90;go_wp2_with fail;refine hT.out.mono ?_;rintro e w2 ⟨hb2, _, h2⟩;obtain rfl := h2 hE0;have HB := Hq hb2;clear hb2 h2;go_wp2
  go_ret2
  exact ⟨HB.out, fun h => absurd h hE0, fun _ => rfl⟩
set_option maxRecDepth 100000 in
theorem more_any (b off cap : Nat) (SA : Option Addr) (scap : Nat) (l ss : List Fe) (w : World) (hc : ∀ (i : Nat) (x : Fe), l[i]? = some x → FeAt w b (off + i * 4) x) (hb : b < w.heap.size) (h0 : 0 < l.length) (hn : l.length ≤ 100000) (hv : View l) (hs : Fes w w.heap.size SA ss) (hso : ∀ s ∈ ss, FeOk s) (hsn : ss.length ≤ 100000) :
  Calls Tryz.prog 94 #[.slice (some ⟨b, off, none⟩) l.length cap, .slice SA ss.length scap] w fun e w' => Below w.heap.size w w' ∧
   ((turnL moreC l ss).1 = 0 → ∃ g cap', e = .returned (.tuple #[.slice (some ⟨g, 0, none⟩) l.length cap', .int .i64 0]) ∧ Hid (Fes w' w'.heap.size (some ⟨g, 0, none⟩) (turnL moreC l ss).2 ∧ (turnL moreC l ss).2.length = l.length ∧ View (turnL moreC l ss).2)) ∧
   ((turnL moreC l ss).1 ≠ 0 → e = .returned (.tuple #[.slice none 0 0, .int .i64 (turnL moreC l ss).1])) := by
 have hT := Hq (turn_more b off cap SA scap l ss w hc hb h0 hn hv hs hso hsn);obtain ⟨n, hln⟩ : ∃ n, l.length = n := ⟨_, rfl⟩
 obtain ⟨q, hlq⟩ : ∃ n, ss.length = n := ⟨_, rfl⟩
 obtain ⟨E, hE⟩ := nx ((turnL moreC l ss).1);rw [hln, hlq] at hT ⊢;rw [← hE] at hT ⊢;clear hc hs hso hv hln hlq h0 hn hsn hE;by_cases hE0 : E = 0
 ·subst hE0;go_enter Tryz.func94, Tryz.ntmps94;go_wp2_with fail;refine hT.out.mono ?_;rintro e w2 ⟨hb2, h1, _⟩;obtain ⟨g, cap', rfl, hf⟩ := h1 trivial;have HB := Hq hb2;clear hb2 h1;go_wp2
  go_ret2
  exact ⟨HB.out, fun _ => ⟨g, cap', rfl, hf⟩, fun h => absurd rfl h⟩
 ·go_enter Tryz.func94, Tryz.ntmps94;go_wp2_with fail;refine hT.out.mono ?_;rintro e w2 ⟨hb2, _, h2⟩;obtain rfl := h2 hE0;have HB := Hq hb2;clear hb2 h2;go_wp2
  go_ret2
  exact ⟨HB.out, fun h => absurd h hE0, fun _ => rfl⟩
end
section
open Go.RowKit
open PK
theorem hitL_at {l : List Fe} {k : Nat} {f : Fe} (hn : (spotsL l).Nodup) (h : l[k]? = some f) : hitL l f.n f.d = some k := by
 unfold hitL;obtain ⟨hk, rfl⟩ := List.getElem?_eq_some_iff.1 h;rw [List.findIdx?_eq_some_iff_getElem];refine ⟨hk, by simp, fun j hj => ?_⟩;have := List.pairwise_iff_getElem.1 hn j k (by unfold spotsL; rw [List.length_map]; omega) (by unfold spotsL; rw [List.length_map]; exact hk) hj;unfold spotsL at this;simp only [List.getElem_map] at this;simp only [Bool.and_eq_true, beq_iff_eq];exact fun ⟨e1, e2⟩ => this (by rw [e1, e2])
theorem roomF_set {S : Shp} : ∀ {l : List Fe} {k : Nat} {f : Fe} (g : Fe), l[k]? = some f → roomF S (l.set k g) + fitF S f = roomF S l + fitF S g
 | [], _, _, _, h => by simp at h
 | x :: l, 0, f, g, h => by
  simp at h; subst h;unfold roomF fitsL;simp only [List.set_cons_zero, List.map_cons, List.sum_cons]; omega
 | x :: l, k + 1, f, g, h => by
  have ih := roomF_set (S := S) (l := l) (k := k) (f := f) g (by simpa using h);unfold roomF fitsL at *;simp only [List.set_cons_succ, List.map_cons, List.sum_cons]; omega
theorem fitF_mono {S : Shp} {f g : Fe} (hm : MM.cnt f.m ≤ MM.cnt g.m) (hc : f.c ≤ g.c) : fitF S f ≤ fitF S g := by
 unfold fitF
 split
 ·exact fitZ_more hm hc
 ·omega
theorem restF_le {S : Shp} {f : Fe} (h : 0 < fitF S f) : fitF S (restF S f) ≤ fitF S f := by
 obtain ⟨hok, g, c, k, hg, hc, hk, e, h1, h2⟩ := fit_pos' h;refine fitF_mono ?_ ?_
 ·unfold restF; simp only; rw [MM.cnt_rest]; omega
 ·unfold restF; simp only; omega
theorem low_sub (m g : Nat) : MM.sub (MM.low m g) m = 0 := Nat.eq_of_testBit_eq fun i => by
 rw [MM.testBit_sub, Nat.zero_testBit]
 cases h : (MM.low m g).testBit i
 ·rfl
 ·have := MM.low_in _ _ _ h; simp [this]
theorem less_piece {S : Shp} {l : List Fe} {k : Nat} {f : Fe} (hn : (spotsL l).Nodup) (hk : l[k]? = some f) (h : 0 < fitF S f) : stepL lessC l (slotF S f) = (0, l.set k (restF S f)) := by
 obtain ⟨hok, g, c, q, hg, hc, hq, e, h1, h2⟩ := fit_pos' h;unfold stepL;have hs : ¬ (slotF S f).c < 0 := by unfold slotF; simp only; omega
 rw [if_neg hs];have hh : hitL l (slotF S f).n (slotF S f).d = some k := by show hitL l f.n f.d = some k; exact hitL_at hn hk
 rw [hh];simp only [hk];have hl : lessC f (slotF S f) = (0, restF S f) := by
  unfold lessC;rw [if_neg (by
   rintro (hx | hx)
   ·exact hx (low_sub _ _)
   ·unfold slotF at hx; simp only at hx; omega)]
  rfl
 rw [hl];rfl
theorem less_pieces {S : Shp} : ∀ (x : Nat) {l : List Fe} {k : Nat} {f : Fe}, (spotsL l).Nodup → l[k]? = some f → x ≤ fitF S f →
  turnL lessC l (pieces S f x) = (0, l.set k (rests S f x)) ∧ fitF S (rests S f x) ≤ fitF S f ∧ fitF S f ≤ fitF S (rests S f x) + x
 | 0, l, k, f, hn, hk, hx => by
  obtain ⟨hkl, rfl⟩ := List.getElem?_eq_some_iff.1 hk;refine ⟨?_, Nat.le_refl _, by rw [rests]; omega⟩;rw [pieces, turnL, rests]
  simp
 | x + 1, l, k, f, hn, hk, hx => by
  have hpos : 0 < fitF S f := by omega
  have h1 := less_piece hn hk hpos;have hkl := (List.getElem?_eq_some_iff.1 hk).1;have h2 := restF_fit hpos;have h3 := restF_le hpos;have ih := less_pieces (S := S) x (l := l.set k (restF S f)) (k := k) (f := restF S f) (by rw [spotsL_set (g := restF S f) hk rfl rfl]; exact hn) (List.getElem?_set_self hkl) (by omega);refine ⟨?_, by rw [rests]; omega, by rw [rests]; omega⟩;rw [pieces, turnL, h1, if_pos rfl];rw [show (0, l.set k (restF S f)).2 = l.set k (restF S f) from rfl, ih.1, List.set_set, rests]
theorem less_place {S : Shp} {l0 : List Fe} : ∀ (Z : List Nat) (r : Nat) {l : List Fe}, Z.Nodup → (spotsL l).Nodup → (∀ k ∈ Z, l[k]? = l0[k]?) →
  ∃ l', turnL lessC l (placeL S l0 Z r) = (0, l') ∧ spotsL l' = spotsL l ∧ roomF S l' ≤ roomF S l ∧ roomF S l ≤ roomF S l' + r
 | [], r, l, _, _, _ => ⟨l, by rw [placeL, turnL], rfl, Nat.le_refl _, by omega⟩
 | k :: Z, r, l, hz, hn, hl => by
  obtain ⟨hz1, hz2⟩ := List.nodup_cons.1 hz;rw [placeL]
  cases hk : l0[k]? with
  | none => exact less_place (S := S) (l0 := l0) Z r hz2 hn fun j hj => hl j (List.mem_cons_of_mem _ hj)
  | some f =>
   simp only;have hkl : l[k]? = some f := (by rw [hl k (by simp), hk]);obtain ⟨a1, a2, a3⟩ := less_pieces (S := S) (min (fitF S f) r) hn hkl (by omega);have hlen := (List.getElem?_eq_some_iff.1 hkl).1;have hsp := spotsL_set hkl (g := rests S f (min (fitF S f) r)) (rests_spot S _ f).1 (rests_spot S _ f).2;obtain ⟨l', b1, b2, b3, b4⟩ := less_place (S := S) (l0 := l0) Z (r - min (fitF S f) r) (l := l.set k (rests S f (min (fitF S f) r))) hz2 (by rw [hsp]; exact hn) (fun j hj => by
    have hne : k ≠ j := fun e => hz1 (e ▸ hj)
    rw [List.getElem?_set_ne hne];exact hl j (List.mem_cons_of_mem _ hj))
   have hr := roomF_set (S := S) (rests S f (min (fitF S f) r)) hkl;refine ⟨l', ?_, by rw [b2, hsp], by omega, by omega⟩;rw [turnL_app, a1];exact b1
theorem less_placeF {S : Shp} {l : List Fe} {p : Nat} (hn : (spotsL l).Nodup) : ∃ l', turnL lessC l (placeF S l p) = (0, l') ∧ spotsL l' = spotsL l ∧ roomF S l' ≤ roomF S l ∧ roomF S l ≤ roomF S l' + p :=
 less_place _ p ((orderF_perm' S l).nodup_iff.2 List.nodup_range) hn fun _ _ => rfl
theorem slots_ok {S : Shp} (hw : S.Wf) : ∀ (x : Nat) {f : Fe}, FeOk f → x ≤ fitF S f → ∀ s ∈ pieces S f x, FeOk s ∧ MM.cnt s.m = S.g.toNat ∧ s.c = S.c
 | 0, f, _, _, s, hs => by rw [pieces] at hs; cases hs
 | x + 1, f, hf, hx, s, hs => by
  have hpos : 0 < fitF S f := by omega
  have h2 := restF_fit hpos;rw [pieces] at hs;rcases List.mem_cons.1 hs with rfl | hs
  ·obtain ⟨hok, g, c, k, hg, hc, hk, e, h1, h3⟩ := fit_pos' hpos;refine ⟨slotF_ok hw hf, ?_, rfl⟩;unfold slotF; simp only;rw [MM.cnt_low (by rw [hg]; exact h1)]
  ·exact slots_ok hw x (restF_ok hf hpos) (by omega) s hs
theorem placeL_ok {S : Shp} {l : List Fe} (hw : S.Wf) (hf : ∀ f ∈ l, FeOk f) : ∀ (Z : List Nat) (r : Nat), ∀ s ∈ placeL S l Z r, FeOk s ∧ MM.cnt s.m = S.g.toNat ∧ s.c = S.c
 | [], r, s, hs => by rw [placeL] at hs; cases hs
 | k :: Z, r, s, hs => by
  rw [placeL] at hs
  cases hk : l[k]? with
  | none => rw [hk] at hs; exact placeL_ok hw hf Z r s hs
  | some f =>
   rw [hk] at hs;simp only at hs;rcases List.mem_append.1 hs with hs | hs
   ·exact slots_ok hw _ (hf f (List.mem_of_getElem? hk)) (by omega) s hs
   ·exact placeL_ok hw hf Z _ s hs
end
end Go.Proofs.YtkkkhonjcbhelaaGreatDoor
