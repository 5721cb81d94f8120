/- Where a spot of what is free is; what is free with slots given back: the document's More. -/
import Derived.Deep.QuietTactic
import Derived.BigQuiet
import Derived.StillTail
import Derived.StillTailTactics
import Derived.Test.YtfbecfikeiecmaaGreatLedRefU
import Derived.Test.YtfbecfikeiecmaaGreatLedSumsM
set_option maxRecDepth 100000
set_option linter.unusedVariables false
namespace Go.Proofs.YtfbecfikeiecmaaGreat
open Go.RowKit
namespace PM
theorem find_first : ∀ {x y : Int} {l : List Fr} {k : Nat}, find x y l = some k → ∀ (j : Nat) (g : Fr), j < k → l[j]? = some g → ¬ ((g.n : Int) = x ∧ (g.d : Int) = y)
  | x, y, [], k, h, _, _, _, _ => by simp [find] at h
  | x, y, f :: l, k, h, j, g, hj, hg => by
    unfold find at h
    by_cases hf : isAt x y f = true
    · rw [if_pos hf] at h; cases h; omega
    · rw [if_neg hf] at h
      obtain ⟨k', hk', rfl⟩ := Option.map_eq_some_iff.1 h
      cases j with
      | zero => simp at hg; subst hg; unfold isAt at hf; simpa using hf
      | succ j => exact find_first hk' j g (by omega) (by simpa using hg)
theorem gives {fs : List Fr} {dr : List Bool} {s : Sl} {ts : List Fr} (h : Inv fs ts) (e : (one fs dr true s ts).1 = 0) : ∃ k f t, Gives fs s k f t ts ∧ (one fs dr true s ts).2 = ts.set k (down t s) := by
  rcases one_cases fs dr true s ts h with ⟨h0, _⟩ | ⟨k, f, t, u, h1, hf, ht, e', hn, hd, hc, hm, hg⟩
  · exact absurd e h0
  · rcases hg with ⟨_, g1, g2, _, _⟩ | ⟨g0, _⟩
    · have ht' : Gives fs s k f t ts := ⟨hc, h1, hf, ht, hm, g1, g2⟩
      exact ⟨k, f, t, ht', by rw [ht'.eq]⟩
    · cases g0
/-- What is free at a spot, with a slot given back. -/
theorem more_free {fs ts : List Fr} {s : Sl} {k : Nat} {f t : Fr} (hi : Inv fs ts) (h : Gives fs s k f t ts) :
    (free fs ts)[k]? = some (freeOf f t) ∧ s.m &&& (freeOf f t).m = 0 ∧ (freeOf f (down t s)).n = (freeOf f t).n ∧ (freeOf f (down t s)).d = (freeOf f t).d ∧ (freeOf f (down t s)).m = (freeOf f t).m + s.m ∧
      ((freeOf f (down t s)).c : Int) = (freeOf f t).c + s.c ∧ (freeOf f (down t s)).c ≤ f.c ∧ (freeOf f t).m ||| s.m = (freeOf f t).m + s.m := by
  obtain ⟨_, _, i3, i4⟩ := hi.2 k f t h.hf h.ht
  have hb : ∀ j, s.m.testBit j = true → t.m.testBit j = true := and_sub_iff h.has
  have hbt : ∀ j, t.m.testBit j = true → f.m.testBit j = true := and_sub_iff i3
  have hap : (freeOf f t).m &&& s.m = 0 := by
    refine Nat.eq_of_testBit_eq fun j => ?_
    simp only [freeOf, Nat.testBit_and, MM.testBit_sub, Nat.zero_testBit]
    cases e : s.m.testBit j
    · simp
    · rw [hb j e]; simp
  have hor := or_add hap
  have e1 : MM.sub f.m (MM.sub t.m s.m) = MM.sub f.m t.m ||| s.m := by
    refine Nat.eq_of_testBit_eq fun j => ?_
    simp only [Nat.testBit_or, MM.testBit_sub]
    cases e : s.m.testBit j
    · cases f.m.testBit j <;> cases t.m.testBit j <;> simp
    · rw [hbt j (hb j e), hb j e]; simp
  have r := h.room
  have c0 := h.c0
  refine ⟨free_at h.hf h.ht, by rw [Nat.and_comm]; exact hap, rfl, rfl, ?_, ?_, ?_, hor.symm⟩
  · simp only [freeOf, down] at hor ⊢; rw [e1, hor]
  · simp only [freeOf, down]; omega
  · simp only [freeOf, down]; omega
end PM
/-- A row of what is free, in a block of its own. -/
def RowB (w : World) (g : Nat) (L : List Fr) : Prop := ∃ cur, w.heap[g]? = some (.cells cur 129 (0, 0)) ∧ ∀ (i : Nat) (x : Fr), L[i]? = some x → ∀ (r : Nat) v, (frC x)[r]? = some v → cur[i * 4 + r]? = some v
theorem RowB.frees {w : World} {g : Nat} {L : List Fr} (h : RowB w g L) : Frees w w.heap.size (some ⟨g, 0, none⟩) L := by
  obtain ⟨cur, h1, h2⟩ := h
  refine .inr ⟨g, 0, rfl, blk_lt h1, fun i x hx => ?_⟩
  have hc : ∀ r v, (frC x)[r]? = some v → w.cell? ⟨g, 0 + i * 4 + r, none⟩ = some v := fun r v hv => by rw [Nat.zero_add]; exact cell_blk h1 (h2 i x hx r v hv)
  exact ⟨hc 0 _ rfl, hc 1 _ rfl, hc 2 _ rfl, hc 3 _ rfl⟩
theorem RowB.set {w : World} {g k : Nat} {L : List Fr} {x y : Fr} (h : RowB w g L) (hx : L[k]? = some x) (hn : y.n = x.n) (hd : y.d = x.d) :
    RowB ((w.setCell ⟨g, k * 4 + 2, none⟩ (.int .u64 (y.m : Nat))).setCell ⟨g, k * 4 + 3, none⟩ (.int .i64 (y.c : Nat))) g (L.set k y) := by
  obtain ⟨cur, h1, h2⟩ := h
  refine ⟨_, blk_put _ (blk_put _ h1), fun i z hz r v hv => ?_⟩
  have hr4 : r < 4 := by have := (List.getElem?_eq_some_iff.1 hv).1; simpa [frC] using this
  have b2 := (Array.getElem?_eq_some_iff.1 (h2 k x hx 2 _ rfl)).1
  have b3 := (Array.getElem?_eq_some_iff.1 (h2 k x hx 3 _ rfl)).1
  by_cases hk : k = i
  · subst hk
    rw [List.getElem?_set_self (List.getElem?_eq_some_iff.1 hx).1] at hz
    cases hz
    have h0 := h2 k x hx
    match r, hr4 with
    | 0, _ =>
      rw [Array.getElem?_setIfInBounds_ne (by omega), Array.getElem?_setIfInBounds_ne (by omega), h0 0 _ rfl]
      simp only [frC, List.getElem?_cons_zero] at hv ⊢
      rw [← hv, hn]
    | 1, _ =>
      rw [Array.getElem?_setIfInBounds_ne (by omega), Array.getElem?_setIfInBounds_ne (by omega), h0 1 _ rfl]
      simp only [frC, List.getElem?_cons_succ, List.getElem?_cons_zero] at hv ⊢
      rw [← hv, hd]
    | 2, _ =>
      rw [Array.getElem?_setIfInBounds_ne (by omega), Array.getElem?_setIfInBounds_self_of_lt b2]
      exact hv
    | 3, _ =>
      rw [Array.getElem?_setIfInBounds_self_of_lt (by simpa using b3)]
      exact hv
  · rw [List.getElem?_set_ne hk] at hz
    rw [Array.getElem?_setIfInBounds_ne (by omega), Array.getElem?_setIfInBounds_ne (by omega)]
    exact h2 i z hz r v hv
theorem RowB.of_own {w : World} {B c : Nat} {A : Option Addr} {L : List Fr} (h : w.ownsRow B 129 4 (.slice A L.length c) L.length (L.flatMap frC)) (h0 : 0 < L.length) : ∃ g, A = some ⟨g, 0, none⟩ ∧ B ≤ g ∧ RowB w g L := by
  rcases h.2 with ⟨e, hn⟩ | ⟨g, cap, cur, e, hB, hg, _, _, _, ht⟩
  · omega
  · injection e with e1 _ _
    refine ⟨g, e1, hB, cur, hg, fun i x hx r v hv => ?_⟩
    have hr4 : r < 4 := by have := (List.getElem?_eq_some_iff.1 hv).1; simpa [frC] using this
    have hj := flat_at hx hr4
    rw [hv, ← ht, List.getElem?_take] at hj
    split at hj
    · simpa using hj
    · cases hj
theorem RowB.of_block {w w' : World} {g : Nat} {L : List Fr} (h : RowB w g L) (e : w'.heap[g]? = w.heap[g]?) : RowB w' g L := by
  obtain ⟨cur, h1, h2⟩ := h
  exact ⟨cur, e.trans h1, h2⟩
theorem own_emptyF (w : World) (t : TypeId) : (w.alloc (.cells #[] t)).ownsRow w.heap.size t 4 (.slice (some ⟨w.heap.size, 0, none⟩) 0 0) 0 [] :=
  ⟨rfl, .inr ⟨w.heap.size, 0, #[], rfl, Nat.le_refl _, heap_alloc_new w _, Nat.le_refl _, Nat.zero_le _, rfl, rfl⟩⟩
theorem spot_otherF (a b n d : Int) (h : ¬ (a = n ∧ b = d)) (W : World) : (binOp .eql 38 (.agg #[.int .i64 a, .int .i64 b]) (.agg #[.int .i64 n, .int .i64 d])).run Tryz.prog W = .ok (.bool false) W := by
  by_cases e : a = n
  · subst e
    have t2 : (b == d) = false := beq_eq_false_iff_ne.2 fun e2 => h ⟨rfl, e2⟩
    go_simp
  · have t2 : (a == n) = false := beq_eq_false_iff_ne.2 e
    go_simp
set_option maxHeartbeats 1000000 in
theorem reffind_fr (A : Option Addr) (cap B : Nat) (l : List Fr) (n d : Int) (kf : Nat) (w : World) (h : Frees w B A l) (hB : B ≤ w.heap.size) (hf : PM.find n d l = some kf) (hn : l.length ≤ 1000) :
    Calls Tryz.prog 61 #[.slice A l.length cap, .agg #[.int .i64 n, .int .i64 d]] w fun e w' => e = .returned (.int .i64 (kf : Nat)) ∧ Below w.heap.size w w' := by
  obtain ⟨q, hq⟩ : ∃ q, l.length = q := ⟨_, rfl⟩
  obtain ⟨w1, hw1⟩ : ∃ W, W = w.alloc (.cells #[.int .i64 n, .int .i64 d] 38) := ⟨_, rfl⟩
  have hB1 : Below w.heap.size w w1 := by rw [hw1]; exact (Below.refl w.heap.size w).alloc (Nat.le_refl _) _
  have bX : w1.heap[w.heap.size]? = some (.cells #[.int .i64 n, .int .i64 d] 38 (0, 0)) := by rw [hw1]; exact heap_alloc_new w _
  obtain ⟨ff, hff, hfn, hfd⟩ := PM.find_hit hf
  have hkq : kf < q := by rw [← hq]; exact (List.getElem?_eq_some_iff.1 hff).1
  have H := Lib.hid (And.intro h (And.intro hq (And.intro hB1 (And.intro bX (And.intro hff (And.intro hfn hfd))))))
  have HN := Lib.hid (PM.find_first hf)
  have HW := Lib.hid hw1
  rw [hq] at hn ⊢
  clear h hq hw1 hB1 bX hf hff hfn hfd
  go_enter Tryz.func61, Tryz.ntmps61
  go_wp2_with fail
  rw [← HW.out]
  go_loopw [5] (fun i wr => ∃ k : Nat, i = .int .i64 k ∧ k ≤ kf ∧ Hid (∃ m, wr = w1.drewN m)) (fun i _ => q - (intOf i).toNat)
  case atStart => exact ⟨0, rfl, by omega, Lib.hid ⟨0, rfl⟩⟩
  case round =>
    obtain ⟨k, rfl, hk, hW⟩ := hrel
    have hlt : k < q := by omega
    obtain ⟨f, hx⟩ := get_lt (l := l) (k := k) (by rw [H.out.2.1]; exact hlt)
    obtain ⟨b, off, rfl, hb, hc⟩ := H.out.1.at_ hx
    obtain ⟨f0, f1, f2, f3⟩ := (hc k f hx).keep (B := w.heap.size) (by omega) H.out.2.2.1
    have c0 : wr.cell? ⟨b, off + k * 4, none⟩ = some (.int .i64 (f.n : Nat)) := by obtain ⟨m, e⟩ := hW.out; rw [e]; exact f0
    have c1 : wr.cell? ⟨b, off + k * 4 + 1, none⟩ = some (.int .i64 (f.d : Nat)) := by obtain ⟨m, e⟩ := hW.out; rw [e]; exact f1
    have x0 : wr.cell? ⟨w.heap.size, 0, none⟩ = some (.int .i64 n) := by obtain ⟨m, e⟩ := hW.out; rw [e]; exact cell_blk (i := 0) H.out.2.2.2.1 rfl
    have x1 : wr.cell? ⟨w.heap.size, 1, none⟩ = some (.int .i64 d) := by obtain ⟨m, e⟩ := hW.out; rw [e]; exact cell_blk (i := 1) H.out.2.2.2.1 rfl
    have j1 : (k : Int) < (q : Int) := by omega
    have t1 : decide (k < q) = true := decide_eq_true hlt
    have HX := Lib.hid hx
    obtain ⟨fn, efn⟩ : ∃ z : Int, z = (f.n : Int) := ⟨_, rfl⟩
    obtain ⟨fd, efd⟩ : ∃ z : Int, z = (f.d : Int) := ⟨_, rfl⟩
    rw [← efn] at c0
    rw [← efd] at c1
    have HE := Lib.hid (And.intro efn efd)
    clear f0 f1 f2 f3 hc hb hx efn efd
    by_cases he : k = kf
    · have hnd : fn = n ∧ fd = d := by
        have h1 := HX.out
        rw [he, H.out.2.2.2.2.1] at h1
        cases h1
        exact ⟨by rw [HE.out.1, H.out.2.2.2.2.2.1], by rw [HE.out.2, H.out.2.2.2.2.2.2]⟩
      obtain ⟨rfl, rfl⟩ := hnd
      subst he
      have HB : Hid (Below w.heap.size w wr) := Lib.hid (by obtain ⟨m, e⟩ := hW.out; rw [e]; exact ⟨H.out.2.2.1.os, H.out.2.2.1.tape, H.out.2.2.1.output, H.out.2.2.1.size, H.out.2.2.1.block⟩)
      go_wp2_with fail
      go_quiet (fail)
      go_wp2
      go_ret
      have h9 := HB.out
      exact ⟨rfl, h9.os, h9.tape, h9.output, h9.size, h9.block⟩
    · have hnd : ¬ (fn = n ∧ fd = d) := by rw [HE.out.1, HE.out.2]; exact HN.out k f (by omega) HX.out
      have hne := fun W => spot_otherF fn fd n d hnd W
      clear hnd
      go_wp2_with fail
      go_quiet (fail)
      have hW2 : Hid (∃ m, wr.drewN nq = w1.drewN m) := Lib.hid (by obtain ⟨m, e⟩ := hW.out; exact ⟨m + nq, by rw [e, World.drewN_drewN]⟩)
      clear c0 c1 x0 x1 hne hW
      generalize wr.drewN nq = W2 at hW2 ⊢
      go_wp2
      go_roundw
      case rel => exact ⟨k + 1, by go_num, by omega, hW2⟩
      case measure => simp [intOf]; omega
set_option maxHeartbeats 4000000 in
theorem refmore_any (A A' : Option Addr) (c c' nd : Nat) (fs ts ts' : List Fr) (l : List PM.Sl) (w : World) (h : Frees w w.heap.size A (PM.free fs ts)) (hs : Slots w w.heap.size A' l) (hok : FsOk fs nd) (hi : PM.Inv fs ts) (hm : PM.many fs [] true l ts = (0, ts')) (hl : l.length ≤ 16) (hsm : ∀ s ∈ l, s.m < 18446744073709551616) :
    Calls Tryz.prog 18 #[.slice A fs.length c, .slice A' l.length c'] w fun e w' => ∃ g c2, e = .returned (.tuple #[.slice (some ⟨g, 0, none⟩) fs.length c2, .int .i64 0]) ∧ RowB w' g (PM.free fs ts') ∧ w.heap.size ≤ g ∧ Below w.heap.size w w' := by
  obtain ⟨N, hN⟩ : ∃ N, N = fs.length := ⟨_, rfl⟩
  obtain ⟨n, hnl⟩ : ∃ n, l.length = n := ⟨_, rfl⟩
  have hfl := PM.free_len hi
  have hN1 : 0 < N ∧ N ≤ 1000 := by rw [hN]; exact ⟨hok.pos, hok.few⟩
  obtain ⟨b, off, rfl, hb, hcc⟩ : ∃ b off, A = some ⟨b, off, none⟩ ∧ b < w.heap.size ∧ ∀ (i : Nat) (x : Fr), (PM.free fs ts)[i]? = some x → FrAt w b (off + i * 4) x := by
    rcases h with e | h
    · have := congrArg List.length e; rw [hfl] at this; simp only [List.length_nil] at this; omega
    · exact h
  have hcells : ∀ j u, ((PM.free fs ts).flatMap frC)[j]? = some u → (w.alloc (.cells #[] 129)).cell? ((⟨b, off, none⟩ : Addr).add j) = some u := fun j u hj => by
    have := frees_cells hcc j u hj
    rw [Addr.add_lit] at this ⊢
    exact (((Below.refl w.heap.size w).alloc (Nat.le_refl _) (.cells #[] 129)).cell (p := ⟨b, off + j, none⟩) hb).trans this
  obtain ⟨i0, hi0, hz0, hz1, hz2⟩ := info_parts info_free
  have H := Lib.hid (And.intro hs (And.intro hok (And.intro hi (And.intro hm (And.intro hnl (And.intro hN (And.intro hfl (And.intro hcells hsm))))))))
  rw [hnl] at hl ⊢
  rw [← hN]
  clear h hs hok hi hm hnl hN hfl hcells hcc hsm
  go_enter Tryz.func18, Tryz.ntmps18
  go_wp2_with (at_builtin; refine wpList_append_lies _ rfl _ _ 52 rfl w.heap.size 129 i0 _ 4 32 Tryz.underlying52 hi0 hz0 hz1 hz2 rfl (by decide) (.slice (some ⟨w.heap.size, 0, none⟩) 0 0) 0 [] rfl (own_emptyF w _) ⟨b, off, none⟩ N c ((PM.free fs ts).flatMap frC) rfl (by rw [frC_len, H.out.2.2.2.2.2.2.1, ← H.out.2.2.2.2.2.1]) H.out.2.2.2.2.2.2.2.1 (frC_one _) hN1.1 (by unfold maxLen; omega) (by omega) (by simp) (w.heap.size + 1) (by simp) ?_; intro gg cap' w1 hown3 hgrow hat hlt3)
  have hb1 : Below w.heap.size w w1 := ((Below.refl w.heap.size w).alloc (Nat.le_refl _) _).grown hgrow (by simp) (fun k e => by have := e; simp [Value.ownBlock] at this; omega)
  have ho := hown3
  have eL : N = (PM.free fs ts).length := by rw [H.out.2.2.2.2.2.2.1, ← H.out.2.2.2.2.2.1]
  rw [Nat.zero_add, List.nil_append, eL] at ho
  obtain ⟨g, eg, hgB, hrow⟩ := RowB.of_own ho (by rw [← eL]; exact hN1.1)
  injection eg with eg
  injection eg with eg _ _
  subst eg
  have HB1 := Lib.hid hb1
  have HR := Lib.hid hrow
  have hs1 : w.heap.size ≤ w1.heap.size := hb1.size
  have hgl : gg < w1.heap.size := hlt3
  clear hown3 hgrow hat hlt3 ho hb1 hrow eL
  go_wp2
  go_loopw [7] (fun i wr => ∃ k : Nat, i = .int .i64 k ∧ k ≤ n ∧ Hid (Below w.heap.size w wr ∧ ∃ tc, PM.Inv fs tc ∧ PM.many fs [] true (l.take k) ts = (0, tc) ∧ RowB wr gg (PM.free fs tc))) (fun i _ => n - (intOf i).toNat)
  case atStart => exact ⟨0, rfl, by omega, Lib.hid ⟨HB1.out, ts, H.out.2.2.1, rfl, HR.out⟩⟩
  case round =>
    obtain ⟨k, rfl, hk, hin⟩ := hrel
    by_cases hlt : k < n
    · obtain ⟨hB, tc, hic, hmk, hro⟩ := hin.out
      have hs := H.out.1
      have hok := H.out.2.1
      have hm := H.out.2.2.2.1
      have hnl := H.out.2.2.2.2.1
      have hsm := H.out.2.2.2.2.2.2.2.2
      obtain ⟨s, hx⟩ := get_lt (l := l) (k := k) (by rw [hnl]; exact hlt)
      obtain ⟨bs, os, rfl, hbs, hcs⟩ := hs.at_ hx
      obtain ⟨s0, s1, s2, s3⟩ := (hcs k s hx).keep hbs hB
      obtain ⟨he1, he2⟩ := many_ok_at hx hmk hm
      obtain ⟨kf, f, t, hg, e3⟩ := PM.gives hic he1
      have hic2 := PM.one_inv (fs := fs) (dr := []) (give := true) (s := s) hic
      rw [e3] at he2 hic2
      obtain ⟨m1, m2, m3, m4, m5, m6, m7, m8⟩ := PM.more_free hic hg
      have hfree : PM.free fs (tc.set kf (PM.down t s)) = (PM.free fs tc).set kf (PM.freeOf f (PM.down t s)) := PM.free_set hg.hf (List.getElem?_eq_some_iff.1 hg.ht).1
      obtain ⟨fo1, fo2⟩ := hok.ok f (List.mem_of_getElem? hg.hf)
      have hfc := PM.free_len hic
      have hffl : (PM.free fs tc).length = N := by rw [hfc, ← H.out.2.2.2.2.2.1]
      obtain ⟨fn, fd⟩ : (f.n : Int) = s.n ∧ (f.d : Int) = s.d := by obtain ⟨f', h1, h2, h3⟩ := PM.find_hit hg.at_; rw [hg.hf] at h1; cases h1; exact ⟨h2, h3⟩
      have hfind : PM.find s.n s.d (PM.free fs tc) = some kf := PM.find_eq m1 fn fd fun i j a b ha hb h1 h2 => by
        have key : ∀ (i : Nat) (a : Fr), (PM.free fs tc)[i]? = some a → ∃ f', fs[i]? = some f' ∧ f'.n = a.n ∧ f'.d = a.d := fun i a ha => by
          unfold PM.free at ha
          rw [List.getElem?_zipWith] at ha
          cases e1 : fs[i]? with
          | none => rw [e1] at ha; simp at ha
          | some f' =>
            cases e2 : tc[i]? with
            | none => rw [e1, e2] at ha; simp at ha
            | some t' => rw [e1, e2] at ha; cases ha; exact ⟨f', rfl, rfl, rfl⟩
        obtain ⟨fa, ka, ka1, ka2⟩ := key i a ha
        obtain ⟨fb, kb, kb1, kb2⟩ := key j b hb
        exact spot_once hok.dup i j fa fb ka kb (by omega) (by omega)
      have hkN : kf < N := by rw [← hffl]; exact (List.getElem?_eq_some_iff.1 m1).1
      obtain ⟨x, ex⟩ : ∃ x, x = PM.freeOf f t := ⟨_, rfl⟩
      obtain ⟨y, ey⟩ : ∃ y, y = PM.freeOf f (PM.down t s) := ⟨_, rfl⟩
      rw [← ex] at m1 m2 m3 m4 m5 m6 m8
      rw [← ey] at m3 m4 m5 m6 m7 hfree
      have hxm : x.m < 18446744073709551616 := by
        have : x.m ≤ y.m := by omega
        have h2 : y.m < 18446744073709551616 := by rw [ey]; exact MM.sub_lt _ fo1
        omega
      have hym : x.m + s.m < 18446744073709551616 := by rw [← m5, ey]; exact MM.sub_lt _ fo1
      have hsM := hsm s (List.mem_of_getElem? hx)
      have hc0 := hg.c0
      have hxc : (x.c : Int) + s.c ≤ 1024 := by omega
      obtain ⟨S, hS⟩ : ∃ S, S = wr.heap.size := ⟨_, rfl⟩
      obtain ⟨W, hW⟩ : ∃ W, W = wr.alloc (.cells #[.int .i64 s.n, .int .i64 s.d, .int .u64 (s.m : Nat), .int .i64 s.c] 41) := ⟨_, rfl⟩
      have bS : W.heap[S]? = some (.cells #[.int .i64 s.n, .int .i64 s.d, .int .u64 (s.m : Nat), .int .i64 s.c] 41 (0, 0)) := by rw [hW, hS]; exact heap_alloc_new wr _
      have hgw : gg < wr.heap.size := blk_lt hro.choose_spec.1
      have hgS : gg ≠ S := by omega
      have hroW : RowB W gg (PM.free fs tc) := hro.of_block (by rw [hW]; exact Below.heap_alloc _ _ _ hgw)
      have hBW : Below w.heap.size w W := by rw [hW]; exact hB.alloc hB.size _
      have HFD := Lib.hid (fun V (hV : RowB V gg (PM.free fs tc)) => by
        have := reffind_fr (some ⟨gg, 0, none⟩) cap' V.heap.size (PM.free fs tc) s.n s.d kf V hV.frees (Nat.le_refl _) hfind (by rw [hffl]; exact hN1.2)
        rw [hffl] at this; exact this)
      have HMK := Lib.hid (fun V => refmasks_none s.m x.m hsM hxm m2 V)
      have HRO := Lib.hid (And.intro hroW (And.intro bS hBW))
      have HST := Lib.hid (And.intro he2 (And.intro hic2 (And.intro hfree (And.intro m1 (And.intro m3 (And.intro m4 (And.intro m5 m6)))))))
      have HWW := Lib.hid (And.intro hW hS)
      have t1 : decide (k < n) = true := decide_eq_true hlt
      have j1 : (k : Int) < (n : Int) := by omega
      have e0 : W.cell? ⟨S, 0, none⟩ = some (.int .i64 s.n) := cell_blk (i := 0) bS rfl
      have e1 : W.cell? ⟨S, 1, none⟩ = some (.int .i64 s.d) := cell_blk (i := 1) bS rfl
      have e3 : W.cell? ⟨S, 3, none⟩ = some (.int .i64 s.c) := cell_blk (i := 3) bS rfl
      have t2 : decide (s.c < 0) = false := decide_eq_false (by omega)
      have lS : S < W.heap.size := blk_lt bS
      clear hB hic hmk hro hs hok hm hnl hsm hx hcs he1 he2 hg hic2 hfc hffl fn fd hfind m1 m2 m3 m4 m5 m6 m7 m8 hfree fo1 fo2 hW hroW hBW bS ex ey hS
      go_wp2_with fail
      rw [← HWW.out.1, ← HWW.out.2]
      refine (HFD.out W HRO.out.1).mono ?_
      rintro e wa ⟨rfl, hba⟩
      have hroA : RowB wa gg (PM.free fs tc) := HRO.out.1.of_block (hba.block gg (by have := blk_lt HRO.out.1.choose_spec.1; omega))
      have bSa := (hba.block S lS).trans HRO.out.2.1
      have lSa : S < wa.heap.size := blk_lt bSa
      have lga : gg < wa.heap.size := blk_lt hroA.choose_spec.1
      have e2 : wa.cell? ⟨S, 2, none⟩ = some (.int .u64 (s.m : Nat)) := cell_blk (i := 2) bSa rfl
      have g2 : wa.cell? ⟨gg, kf * 4 + 2, none⟩ = some (.int .u64 (x.m : Nat)) := by
        obtain ⟨cur, h1, h2⟩ := hroA
        exact cell_blk h1 (h2 kf x HST.out.2.2.2.1 2 _ rfl)
      have HA := Lib.hid (And.intro hroA (And.intro bSa (below_step HRO.out.2.2 hba)))
      have HM := HMK
      have t3 : decide ((kf : Int) < 0) = false := decide_eq_false (by omega)
      have j2 : (kf : Int) < (N : Int) := by omega
      have t4 : decide ((0 : Int) > 0) = false := by decide
      clear e0 e1 e3 hba hroA bSa HFD t2
      go_wp2_with fail
      refine held_begin (fun w' : World => w'.cell? ⟨S, 2, none⟩ = some (.int .u64 (s.m : Nat)) ∧ w'.cell? ⟨gg, kf * 4 + 2, none⟩ = some (.int .u64 (x.m : Nat))) (by kernel_rfl) ?_
      have hBm0 : Below wa.heap.size wa wa.drew := (Below.refl _ _).drew
      have hSm0 : (fun w' : World => w'.cell? ⟨S, 2, none⟩ = some (.int .u64 (s.m : Nat)) ∧ w'.cell? ⟨gg, kf * 4 + 2, none⟩ = some (.int .u64 (x.m : Nat))) wa.drew := ⟨e2, g2⟩
      refine held_take (v := ?_) 0 32 rfl rfl (by kernel_rfl) (by kernel_rfl) (by kernel_rfl) (fun _ _ _ h => h) ⟨by rfl, ?_⟩ hSm0 ?_
      rotate_left
      · intro w' hw'; obtain ⟨x0, x1⟩ := hw'; go_simp; (try with_reducible rfl)
      simp only [Act.put, List.setIfInBounds_toArray, List.set_cons_zero, List.set_cons_succ]
      refine held_take (v := ?_) 1 33 rfl rfl (by kernel_rfl) (by kernel_rfl) (by kernel_rfl) (fun _ _ _ h => h) ⟨by rfl, ?_⟩ hSm0 ?_
      rotate_left
      · intro w' hw'; obtain ⟨x0, x1⟩ := hw'; go_simp; (try with_reducible rfl)
      simp only [Act.put, List.setIfInBounds_toArray, List.set_cons_zero, List.set_cons_succ]
      refine held_take (v := ?_) 2 34 rfl rfl (by kernel_rfl) (by kernel_rfl) (by kernel_rfl) (fun _ _ _ h => h) ⟨by rfl, ?_⟩ hSm0 ?_
      rotate_left
      · intro w' hw'; obtain ⟨x0, x1⟩ := hw'; go_simp; (try with_reducible rfl)
      simp only [Act.put, List.setIfInBounds_toArray, List.set_cons_zero, List.set_cons_succ]
      refine held_take (v := ?_) 3 35 rfl rfl (by kernel_rfl) (by kernel_rfl) (by kernel_rfl) (fun _ _ _ h => h) ⟨by rfl, ?_⟩ hSm0 ?_
      rotate_left
      · intro w' hw'; obtain ⟨x0, x1⟩ := hw'; go_simp; (try with_reducible rfl)
      simp only [Act.put, List.setIfInBounds_toArray, List.set_cons_zero, List.set_cons_succ]
      refine held_take (v := ?_) 4 36 rfl rfl (by kernel_rfl) (by kernel_rfl) (by kernel_rfl) (fun _ _ _ h => h) ⟨by rfl, ?_⟩ hSm0 ?_
      rotate_left
      · intro w' hw'; obtain ⟨x0, x1⟩ := hw'; go_simp; (try with_reducible rfl)
      simp only [Act.put, List.setIfInBounds_toArray, List.set_cons_zero, List.set_cons_succ]
      refine held_take (v := ?_) 5 37 rfl rfl (by kernel_rfl) (by kernel_rfl) (by kernel_rfl) (fun _ _ _ h => h) ⟨by rfl, ?_⟩ hSm0 ?_
      rotate_left
      · intro w' hw'; obtain ⟨x0, x1⟩ := hw'; go_simp; (try with_reducible rfl)
      simp only [Act.put, List.setIfInBounds_toArray, List.set_cons_zero, List.set_cons_succ]
      refine held_take (v := ?_) 6 38 rfl rfl (by kernel_rfl) (by kernel_rfl) (by kernel_rfl) (fun _ _ _ h => h) ⟨by rfl, ?_⟩ hSm0 ?_
      rotate_left
      · intro w' hw'; obtain ⟨x0, x1⟩ := hw'; go_simp; (try with_reducible rfl)
      simp only [Act.put, List.setIfInBounds_toArray, List.set_cons_zero, List.set_cons_succ]
      refine held_one 7 rfl (by kernel_rfl) (by rfl) (fun K hK => ?_)
      go_simp
      go_at_call 62
      refine (HM.out wa.drew).mono ?_
      rintro e wm1 ⟨rfl, hbm1⟩
      have hBm1 : Below wa.heap.size wa wm1 := below_step hBm0 hbm1
      have hSm1 : (fun w' : World => w'.cell? ⟨S, 2, none⟩ = some (.int .u64 (s.m : Nat)) ∧ w'.cell? ⟨gg, kf * 4 + 2, none⟩ = some (.int .u64 (x.m : Nat))) wm1 := ⟨(hBm1.cell (p := ⟨S, 2, none⟩) (lSa)).trans e2, (hBm1.cell (p := ⟨gg, kf * 4 + 2, none⟩) (lga)).trans g2⟩
      refine hK.out _ _ hSm1 ?_
      clear hK K
      refine held_take (v := ?_) 8 40 rfl rfl (by kernel_rfl) (by kernel_rfl) (by kernel_rfl) (fun _ _ _ h => h) ⟨by rfl, ?_⟩ hSm1 ?_
      rotate_left
      · intro w' hw'; obtain ⟨x0, x1⟩ := hw'; go_simp; (try with_reducible rfl)
      simp only [Act.put, List.setIfInBounds_toArray, List.set_cons_zero, List.set_cons_succ]
      refine wpAnyH_done (by kernel_rfl) ?_ _
      have hroC : RowB wm1 gg (PM.free fs tc) := HA.out.1.of_block (hBm1.block gg lga)
      have bSc := (hBm1.block S lSa).trans HA.out.2.1
      have hBC := HA.out.2.2.trans (hBm1.mono HA.out.2.2.size)
      have f3 : wm1.cell? ⟨S, 3, none⟩ = some (.int .i64 s.c) := cell_blk (i := 3) bSc rfl
      have g3 : wm1.cell? ⟨gg, kf * 4 + 3, none⟩ = some (.int .i64 (x.c : Nat)) := by
        obtain ⟨cur, h1, h2⟩ := hroC
        exact cell_blk h1 (h2 kf x HST.out.2.2.2.1 3 _ rfl)
      have t5 : decide (s.c > 1048576 - (x.c : Int)) = false := decide_eq_false (by omega)
      have t6 : decide (1048576 - (x.c : Int) < s.c) = false := decide_eq_false (by omega)
      have HC := Lib.hid (And.intro hroC (And.intro bSc hBC))
      have lSc : S < wm1.heap.size := blk_lt bSc
      have lgc : gg < wm1.heap.size := blk_lt hroC.choose_spec.1
      clear hroC bSc hBC hBm0 hBm1 hSm0 hSm1 hbm1 e2 g2 HA lSa lga
      go_wp2
      go_region
      obtain ⟨V, hV⟩ : ∃ V, V = wm1.drew := ⟨_, rfl⟩
      rw [← hV]
      have hroV : RowB V gg (PM.free fs tc) := by rw [hV]; exact HC.out.1.of_block rfl
      have bSV : V.heap[S]? = some (.cells #[.int .i64 s.n, .int .i64 s.d, .int .u64 (s.m : Nat), .int .i64 s.c] 41 (0, 0)) := by rw [hV]; exact HC.out.2.1
      have hBV : Below w.heap.size w V := by rw [hV]; exact HC.out.2.2.drew
      have e2 : V.cell? ⟨S, 2, none⟩ = some (.int .u64 (s.m : Nat)) := cell_blk (i := 2) bSV rfl
      have g2 : V.cell? ⟨gg, kf * 4 + 2, none⟩ = some (.int .u64 (x.m : Nat)) := by
        obtain ⟨cur, h1, h2⟩ := hroV
        exact cell_blk h1 (h2 kf x HST.out.2.2.2.1 2 _ rfl)
      have z2 : V.frozen? ⟨gg, kf * 4 + 2, none⟩ = false := frozen_blk hroV.choose_spec.1
      have HV := Lib.hid (And.intro hroV (And.intro bSV hBV))
      have hwm : IntKind.u64.wrap ((x.m : Int) + (s.m : Int)) = (x.m : Int) + (s.m : Int) := IntWalk.u64_in _ (by omega)
      have lSV : S < V.heap.size := blk_lt bSV
      have lgV : gg < V.heap.size := blk_lt hroV.choose_spec.1
      clear hV hroV bSV hBV f3 g3 t5 t6 HC lSc lgc
      go_wp2
      go_still_tail 12, (by kernel_rfl)
      change wpList _ _ _ _ _ V.drew
      go_wp2
      obtain ⟨Y, hY⟩ : ∃ Y, Y = (V.setCell ⟨gg, kf * 4 + 2, none⟩ (.int .u64 ((x.m : Int) + (s.m : Int)))).drew := ⟨_, rfl⟩
      rw [← hY]
      have blkY : ∃ cur, Y.heap[gg]? = some (.cells cur 129 (0, 0)) ∧ cur[kf * 4 + 3]? = some (.int .i64 (x.c : Nat)) := by
        obtain ⟨cur, h1, h2⟩ := HV.out.1
        refine ⟨_, by rw [hY]; exact blk_put (i := kf * 4 + 2) _ h1, ?_⟩
        rw [Array.getElem?_setIfInBounds_ne (by omega)]
        exact h2 kf x HST.out.2.2.2.1 3 _ rfl
      obtain ⟨curY, bY, bY3⟩ := blkY
      have g3 : Y.cell? ⟨gg, kf * 4 + 3, none⟩ = some (.int .i64 (x.c : Nat)) := cell_blk bY bY3
      have z3 : Y.frozen? ⟨gg, kf * 4 + 3, none⟩ = false := frozen_blk bY
      have bSY : Y.heap[S]? = some (.cells #[.int .i64 s.n, .int .i64 s.d, .int .u64 (s.m : Nat), .int .i64 s.c] 41 (0, 0)) := by rw [hY]; exact (Below.heap_setCell _ _ _ _ (by simp; omega)).trans HV.out.2.1
      have f3 : Y.cell? ⟨S, 3, none⟩ = some (.int .i64 s.c) := cell_blk (i := 3) bSY rfl
      have HY := Lib.hid hY
      have lSY : S < Y.heap.size := blk_lt bSY
      have lgY : gg < Y.heap.size := blk_lt bY
      clear hY bY bY3 bSY e2 g2 z2
      go_still_tail 12, (by kernel_rfl)
      change wpList _ _ _ _ _ Y.drew
      go_wp2
      go_roundw
      case rel =>
        refine ⟨k + 1, by go_num, by omega, Lib.hid ⟨?_, _, HST.out.2.1, HST.out.1, ?_⟩⟩
        · rw [HY.out]; exact (((HV.out.2.2.setCell (p := ⟨gg, kf * 4 + 2, none⟩) (by simp; omega) _).drew.drew).setCell (by simp; omega) _)
        · rw [HST.out.2.2.1]
          have h9 := HV.out.1.set (y := y) HST.out.2.2.2.1 HST.out.2.2.2.2.1 HST.out.2.2.2.2.2.1
          refine h9.of_block ?_
          have ey : (y.m : Int) = (x.m : Int) + (s.m : Int) := by have := HST.out.2.2.2.2.2.2.1; omega
          rw [HY.out, ey, HST.out.2.2.2.2.2.2.2]
          rfl
      case measure => simp [intOf]; omega
    · obtain rfl : k = n := by omega
      have t1 : decide (k < k) = false := decide_eq_false (by omega)
      clear hlt
      go_wp2
      refine bodyPost_ret (v := .tuple #[.slice (some ⟨gg, 0, none⟩) N cap', .int .i64 0]) (by simp [results, Tryz.results18, go_sem]) rfl ?_
      obtain ⟨hB, tc, _, hmk, hro⟩ := hin.out
      have e : l.take k = l := by rw [← H.out.2.2.2.2.1]; exact List.take_length
      rw [e, H.out.2.2.2.1] at hmk
      cases hmk
      exact ⟨gg, cap', rfl, hro, hgB, hB⟩
end Go.Proofs.YtfbecfikeiecmaaGreat
