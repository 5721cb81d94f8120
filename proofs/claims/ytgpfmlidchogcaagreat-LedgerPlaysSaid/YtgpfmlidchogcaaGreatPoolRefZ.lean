/- The document's pool: Do, Act. -/
/- The document's pool: Act. -/
/- The document's pool: Free. -/
/- The document's pool: View. -/
/- The document's pool: New, its parts. -/
/- The document's pool: New. -/
/- The program's pool and the document's, side by side: what is done to one leaves the other. -/
import Derived.Deep.AppendLies
import Derived.Test.YtgpfmlidchogcaaGreatPoolRefY
import Derived.Test.YtgpfmlidchogcaaGreatPoolRef5
import Derived.Test.YtgpfmlidchogcaaGreatPoolZ
import Derived.StillTailTactics
import Derived.BigQuiet
import Derived.Test.YtgpfmlidchogcaaGreatKitZ
import Derived.Laws.OwnMore
import Derived.Laws.StructEq
namespace Go.Proofs.YtgpfmlidchogcaaGreat
open Go.RowKit

theorem refone_any (give : Bool) (q al tk db ca ct cd : Nat) (fs ts : List Fr) (dr : List Bool) (s : PM.Sl) (w : World) (h : RefAt w q al tk db ca ct cd fs ts dr) (hs : SlOk s) :
  Calls Tryz.prog 141 #[.pointer (some ⟨q, 0, none⟩), .bool give, slV s] w fun e w' => e = .returned (.int .i64 (PM.one fs dr give s ts).1) ∧ RefAt w' q al tk db ca ct cd fs (PM.one fs dr give s ts).2 dr ∧ Foot (· = tk) w w' := by
 cases give
 ·exact reftake q al tk db ca ct cd fs ts dr s w h hs
 ·exact refgive q al tk db ca ct cd fs ts dr s w h hs
theorem TakenAt.of_own {w : World} {B g cap : Nat} {ts : List Fr} (h : w.ownsRow B 144 4 (.slice (some ⟨g, 0, none⟩) ts.length cap) ts.length (ts.flatMap frC)) : TakenAt w g ts ∧ B ≤ g ∧ g < w.heap.size := by
 refine ⟨?_, h.lt g rfl⟩
 rcases h.2 with ⟨e, _⟩ | ⟨g', cap', cur, e, _, hg, _, _, _, ht⟩
 ·cases e
 ·cases e
  refine ⟨cur, hg, fun j v hj => ?_⟩
  rw [← ht, List.getElem?_take] at hj
  split at hj
  ·simpa using hj
  ·cases hj
theorem TakenAt.of_block {w w' : World} {tk : Nat} {ts : List Fr} (h : TakenAt w tk ts) (e : w'.heap[tk]? = w.heap[tk]?) : TakenAt w' tk ts := by
 obtain ⟨cur, h1, h2⟩ := h
 exact ⟨cur, e.trans h1, h2⟩
theorem own_empty (w : World) (t : TypeId) : (w.alloc (.cells #[] t)).ownsRow w.heap.size t 4 (.slice (some ⟨w.heap.size, 0, none⟩) 0 0) 0 [] :=
 ⟨rfl, .inr ⟨w.heap.size, 0, #[], rfl, Nat.le_refl _, heap_alloc_new w _, Nat.le_refl _, Nat.zero_le _, rfl, rfl⟩⟩
theorem RefAt.laid {w w1 w' : World} {q al tk tk' db ca ct ct' cd : Nat} {fs ts tc : List Fr} {dr : List Bool} (h0 : RefAt w q al tk db ca ct cd fs ts dr) (h : RefAt w1 q al tk db ca ct cd fs tc dr) (hg : w.heap.size ≤ tk') (hr : TakenAt w1 tk' ts)
  (e : w' = w1.setCell ⟨q, 1, none⟩ (.slice (some ⟨tk', 0, none⟩) fs.length ct')) : RefAt w' q al tk' db ca ct' cd fs ts dr := by
 obtain ⟨l1, l2, l3, l4⟩ := h0.lt
 obtain ⟨n1, n2, n3, n4, n5, n6⟩ := h0.ne
 have hl : ∀ j, j ≠ q → w'.heap[j]? = w1.heap[j]? := fun j hj => by rw [e]; exact Below.heap_setCell _ _ _ _ hj
 refine ⟨h.ok, h0.inv, ?_, fun i f hf => (h.all i f hf).of (hl al (Ne.symm n1)), hr.of_block (hl tk' (by omega)), h.drained.of_block (hl db (Ne.symm n3)), by omega, by omega, n3, by omega, n5, by omega⟩
 rw [e]; exact blk_put _ h.blk
set_option maxRecDepth 100000 in
set_option maxHeartbeats 2000000 in
theorem refdo_any (give : Bool) (q al tk db ca ct cd : Nat) (fs ts : List Fr) (dr : List Bool) (A : Option Addr) (cap : Nat) (l : List PM.Sl) (w : World) (h : RefAt w q al tk db ca ct cd fs ts dr)
  (hs : ∀ s ∈ l, SlOk s) (hl : Slots w w.heap.size A l) (hA : l ≠ [] → Off A (· = tk)) (hn : l.length ≤ maxLen) :
  Calls Tryz.prog 111 #[.pointer (some ⟨q, 0, none⟩), .bool give, .slice A l.length cap] w fun e w' =>
   e = .returned (.int .i64 (PM.whole fs dr give l ts).1) ∧ ∃ tk' ct', RefAt w' q al tk' db ca ct' cd fs (PM.whole fs dr give l ts).2 dr ∧ Foot (fun i => i = q ∨ i = tk) w w' ∧ (tk' = tk ∨ w.heap.size ≤ tk') := by
 obtain ⟨R, hR⟩ : ∃ R, R = PM.whole fs dr give l ts := ⟨_, rfl⟩
 rw [← hR]
 have HP := Lib.hid h
 obtain ⟨_, c1, _⟩ := h.heads
 obtain ⟨l1, l2, l3, l4⟩ := h.lt
 obtain ⟨n1, n2, n3, n4, n5, n6⟩ := h.ne
 obtain ⟨m, hm⟩ : ∃ m, fs.length = m := ⟨_, rfl⟩
 have htl : ts.length = m := by rw [h.inv.1]; exact hm
 have hm1 : 0 < m ∧ m ≤ 1000 := by rw [← hm]; exact ⟨h.ok.pos, h.ok.few⟩
 have hcells : ∀ j u, (ts.flatMap frC)[j]? = some u → (w.alloc (.cells #[] 144)).cell? ((⟨tk, 0, none⟩ : Addr).add j) = some u := fun j u hj => by
  obtain ⟨cur, h1, h2⟩ := h.taken
  rw [Addr.add_lit]
  refine cell_blk ((Below.heap_alloc w _ tk l3).trans h1) ?_
  rw [Nat.zero_add]; exact h2 j u hj
 obtain ⟨n, hln⟩ : ∃ n, l.length = n := ⟨_, rfl⟩
 have hone := Lib.hid (fun (tc : List Fr) (s : PM.Sl) (W : World) (hW : RefAt W q al tk db ca ct cd fs tc dr) (hs : SlOk s) => refone_any give q al tk db ca ct cd fs tc dr s W hW hs)
 obtain ⟨i0, hi, hz0, hz1, hz2⟩ := info_parts info_free
 have H := Lib.hid (And.intro hR (And.intro hs (And.intro hl (And.intro hA (And.intro hln (And.intro hm (And.intro htl hcells)))))))
 rw [hm] at c1
 rw [hln] at hn ⊢
 unfold maxLen at hn
 clear hR h hs hl hA hln hm htl hcells
 go_enter Tryz.func111, Tryz.ntmps111
 go_wp2_with (first
  | (at_builtin; refine wpList_append_lies _ rfl _ _ 111 rfl w.heap.size 144 i0 _ 4 32 Tryz.underlying111 hi hz0 hz1 hz2 rfl (by decide) (.slice (some ⟨w.heap.size, 0, none⟩) 0 0) 0 [] rfl (own_empty w _) ⟨tk, 0, none⟩ m ct (ts.flatMap frC) rfl (by rw [frC_len, H.out.2.2.2.2.2.2.1]) H.out.2.2.2.2.2.2.2 (frC_one ts) hm1.1 (by unfold maxLen; omega) (by omega) (by simp) (w.heap.size + 1) (by simp) ?_; intro gg cap' w1 hown3 hgrow hat hlt3))
 have hb1 : Below w.heap.size w w1 := ((Below.refl w.heap.size w).alloc (Nat.le_refl _) _).grown hgrow (by simp) (fun k e => by have := e; simp [Value.ownBlock] at this; omega)
 have ho := hown3
 rw [Nat.zero_add, List.nil_append, ← H.out.2.2.2.2.2.2.1] at ho
 obtain ⟨hta, hgB, hgl⟩ := TakenAt.of_own ho
 have HB1 := Lib.hid hb1
 have HT := Lib.hid hta
 have hs1 : w.heap.size ≤ w1.heap.size := hb1.size
 clear hown3 hgrow hat hlt3 ho hta hb1 c1
 go_loopw [8] (fun i wr => ∃ k : Nat, i = .int .i64 k ∧ k ≤ n ∧ w1.heap.size ≤ wr.heap.size ∧ Hid (Foot (· = tk) w1 wr ∧ ∃ tc, RefAt wr q al tk db ca ct cd fs tc dr ∧ PM.many fs dr give (l.take k) ts = (0, tc))) (fun i _ => n - (intOf i).toNat)
 case atStart => exact ⟨0, rfl, by omega, Nat.le_refl _, Lib.hid ⟨Foot.refl _ _, ts, HP.out.keep HB1.out, rfl⟩⟩
 case round =>
  obtain ⟨k, rfl, hk, hsz, hin⟩ := hrel
  obtain ⟨hft, tc, hpk, hmk⟩ := hin.out
  by_cases hlt : k < n
  ·obtain ⟨hR, hs, hl, hA, hln, _⟩ := H.out
   obtain ⟨s, hx⟩ := get_lt (l := l) (k := k) (by rw [hln]; exact hlt)
   obtain ⟨b, off, rfl, hb, hc⟩ := hl.at_ hx
   have hbg2 : b ≠ tk := hA (by rintro rfl; simp at hx) b off rfl
   have hbk : wr.heap[b]? = w.heap[b]? := (hft.block b (by omega) hbg2).trans (HB1.out.block b hb)
   obtain ⟨s0, s1, s2, s3⟩ := (hc k s hx).of hbk
   have hso := hs s (List.mem_of_getElem? hx)
   have t0 : decide (k < n) = true := by simpa using hlt
   have hO := Lib.hid (hone.out tc s wr hpk hso)
   have HA := Lib.hid (many_at hx hmk)
   obtain ⟨E, hE⟩ : ∃ E, E = PM.one fs dr give s tc := ⟨_, rfl⟩
   rw [← hE] at hO HA
   have HF := Lib.hid hft
   clear hR hs hl hA hln hx hc hbk hso hpk hmk hE hin hft
   obtain ⟨x, y, mm, c⟩ := s
   simp only [slV] at *
   by_cases he : E.1 = 0
   ·have t1 : (E.1 != 0) = false := by rw [he]; rfl
    have HE := Lib.hid he
    clear he
    go_wp2_with (go_at_call 141; refine hO.out.mono ?_; rintro e w2 ⟨rfl, hp2, hf2⟩)
    have hs2 := hf2.size
    go_roundw
    case rel => exact ⟨k + 1, by go_num, by omega, by omega, Lib.hid ⟨HF.out.trans hf2 (fun i hi => .inl hi), E.2, hp2, HA.out.2 HE.out⟩⟩
    case measure => simp [intOf]; omega
   ·have t1 : (E.1 != 0) = true := by simpa using he
    have HE := Lib.hid he
    clear he
    go_wp2_with (go_at_call 141; refine hO.out.mono ?_; rintro e w2 ⟨rfl, hp2, hf2⟩; have HP2 := Lib.hid hp2; have z1 : w2.frozen? ⟨q, 1, none⟩ = false := frozen_blk hp2.blk; have z2 : w2.cell? ⟨q, 1, none⟩ = some (.slice (some ⟨tk, 0, none⟩) fs.length ct) := hp2.heads.2.1; have HF2 := Lib.hid hf2; clear hp2 hf2)
    go_ret
    have eR : R = (E.1, ts) := by rw [H.out.1]; exact HA.out.1 HE.out
    subst eR
    have hrow : TakenAt w2 gg ts := HT.out.of_block ((HF2.out.block _ (by omega) (by omega)).trans (HF.out.block _ hgl (by omega)))
    have hm' := H.out.2.2.2.2.2.1
    refine ⟨rfl, gg, cap', HP.out.laid HP2.out hgB hrow (by rw [hm']), ?_, .inr hgB⟩
    have hf3 : Foot (fun i => i = q ∨ i = tk) w w2 := ((Foot.of_below HB1.out).trans (HF.out.trans HF2.out (fun i hi => .inl hi)) (fun i hi => .inl hi)).mono (fun i hi => .inr hi)
    exact hf3.setCell (p := ⟨q, 1, none⟩) (.inl (.inl rfl)) _
  ·obtain rfl : k = n := by omega
   obtain ⟨hR, hs, hl, hA, hln, _⟩ := H.out
   rw [← hln, List.take_length] at hmk
   have e : R = (0, tc) := by rw [hR]; exact PM.whole_of_many hmk
   subst e
   have HF := Lib.hid (And.intro hft hpk)
   clear hR hs hl hA hln hmk hpk hft hin hlt
   go_wp2
   go_ret
   exact ⟨rfl, tk, ⟨ct, HF.out.2⟩, ((Foot.of_below HB1.out).trans HF.out.1 (fun i hi => .inl hi)).mono (fun i hi => .inr hi), .inl rfl⟩
end Go.Proofs.YtgpfmlidchogcaaGreat

namespace Go.Proofs.YtgpfmlidchogcaaGreat
open Go.RowKit

end Go.Proofs.YtgpfmlidchogcaaGreat

namespace Go.Proofs.YtgpfmlidchogcaaGreat
open Go.RowKit

theorem own_same {W W' : World} {base : Nat} {e : TypeId} {size : Nat} {v : Value} {n : Nat} {xs : List Value} (h : W.ownsRow base e size v n xs) (hb : ∀ i, v.ownBlock = some i → W'.heap[i]? = W.heap[i]?) : W'.ownsRow base e size v n xs := by
 obtain ⟨h0, h1⟩ := h
 refine ⟨h0, ?_⟩
 rcases h1 with h1 | ⟨g, cap, cur, rfl, h2, h3, h4⟩
 ·exact .inl h1
 ·exact .inr ⟨g, cap, cur, rfl, h2, (hb g rfl).trans h3, h4⟩
set_option maxRecDepth 100000 in
set_option maxHeartbeats 4000000 in
theorem reffree_any (q al tk db ca ct cd : Nat) (fs ts : List Fr) (dr : List Bool) (w : World) (h : RefAt w q al tk db ca ct cd fs ts dr) :
  Calls Tryz.prog 42 #[.pointer (some ⟨q, 0, none⟩)] w fun e w' => ∃ v, e = .returned v ∧ w'.ownsRow w.heap.size 144 4 v fs.length ((PM.free fs ts).flatMap frC) ∧ Below w.heap.size w w' := by
 obtain ⟨L, hL⟩ : ∃ L, L = PM.free fs ts := ⟨_, rfl⟩
 rw [← hL]
 have hlen := PM.free_len h.inv
 have hfew := h.ok.few
 rw [← hL] at hlen
 obtain ⟨n, hn⟩ : ∃ n, fs.length = n := ⟨_, rfl⟩
 have HP := Lib.hid (And.intro h (And.intro hn (And.intro hL hlen)))
 rw [hn] at hlen hfew ⊢
 obtain ⟨l1, l2, l3, l4⟩ := h.lt
 obtain ⟨i0, hi, hz0, hz1, hz2⟩ := info_parts info_free
 clear h hL hn hlen
 go_enter Tryz.func42, Tryz.ntmps42
 go_wp2
 go_loopw [3, 4] (fun out i wr => ∃ (k : Nat) (A : Option Addr) (cp : Nat), i = .int .i64 k ∧ out = .slice A k cp ∧ k ≤ n ∧ Below w.heap.size w wr ∧ wr.ownsRow w.heap.size 144 4 (.slice A k cp) k ((L.take k).flatMap frC)) (fun _ i _ => n - (intOf i).toNat)
 case atStart => exact ⟨0, none, 0, rfl, rfl, by omega, Below.refl _ _, World.ownsRow_nil _ _ _ _⟩
 case round =>
  obtain ⟨k, A, cp, rfl, rfl, hk, hBl, hown⟩ := hrel
  have hBs := hBl.size
  obtain ⟨h0, hn, hL, hlen⟩ := HP.out
  have hr := h0.keep hBl
  obtain ⟨z0, z1, z2⟩ := hr.heads
  rw [hn] at z0 z1
  by_cases hlt : k < n
  ·obtain ⟨f, hf⟩ := get_lt (l := fs) (k := k) (by omega)
   obtain ⟨t, ht⟩ := get_lt (l := ts) (k := k) (by rw [h0.inv.1]; omega)
   obtain ⟨j1, j2, j3, j4⟩ := h0.inv.2 k f t hf ht
   obtain ⟨k1, k2⟩ := h0.ok.ok f (List.mem_of_getElem? hf)
   obtain ⟨a0, a1, a2, a3⟩ := hr.all k f hf
   obtain ⟨_, _, b2, b3, _, _⟩ := hr.cells hf ht
   have hnx := take_next (show L[k]? = some (PM.freeOf f t) by rw [hL]; exact PM.free_at hf ht)
   have hsb := PM.sub_nat j3
   have t0 : decide (k < n) = true := by simpa using hlt
   have N := Lib.hid (And.intro hnx (And.intro hsb (And.intro j4 (And.intro k1 k2))))
   have hkt : t.m ≤ f.m := hsb.2
   have wm : IntKind.u64.wrap ((f.m : Int) - (t.m : Int)) = (f.m : Int) - t.m := IntWalk.u64_in _ (by omega)
   have wc : IntKind.i64.wrap ((f.c : Int) - (t.c : Int)) = (f.c : Int) - t.c := IntWalk.i64_in _ (by omega)
   have OW := Lib.hid hown
   have HB := Lib.hid hBl
   obtain ⟨W, hW⟩ : ∃ W, W = wr.alloc (.cells #[.int .i64 (f.n : Nat), .int .i64 (f.d : Nat), .int .u64 (f.m : Nat), .int .i64 (f.c : Nat)] 144) := ⟨_, rfl⟩
   have bF : W.heap[wr.heap.size]? = some (.cells #[.int .i64 (f.n : Nat), .int .i64 (f.d : Nat), .int .u64 (f.m : Nat), .int .i64 (f.c : Nat)] 144 (0, 0)) := by rw [hW]; exact heap_alloc_new wr _
   have hWs : W.heap.size = wr.heap.size + 1 := by rw [hW]; simp
   have kq : ∀ i, i < wr.heap.size → W.heap[i]? = wr.heap[i]? := fun i hi => by rw [hW]; exact Below.heap_alloc wr _ i hi
   have cW : ∀ (b o : Nat) (u : Value), b < wr.heap.size → wr.cell? ⟨b, o, none⟩ = some u → W.cell? ⟨b, o, none⟩ = some u := fun b o u hb hc => (World.cell?_of_block (kq b hb)).trans hc
   have lq : q < wr.heap.size := by omega
   have ltk : tk < wr.heap.size := by omega
   have c1 := cW q 1 _ lq z1
   have c2 := cW tk (k * 4 + 2) _ ltk b2
   have c3 := cW tk (k * 4 + 3) _ ltk b3
   have x2 : W.cell? ⟨wr.heap.size, 2, none⟩ = some (.int .u64 (f.m : Nat)) := cell_blk (i := 2) bF rfl
   have f2 : W.frozen? ⟨wr.heap.size, 2, none⟩ = false := frozen_blk bF
   have HW := Lib.hid hW
   have KQ := Lib.hid (And.intro kq (And.intro bF (And.intro c1 c3)))
   clear h0 hn hL hlen hr hf ht j1 j2 j3 j4 hnx hsb hown hBl hW kq cW bF c3
   go_wp2_with fail
   rw [← HW.out]
   clear z0 z1 z2 a0 a1 a2 a3 b2 b3
   go_still_tail 10, (by kernel_rfl)
   change wpList _ _ _ _ _ W.drew
   go_wp2
   obtain ⟨W5, hW5⟩ : ∃ W5, W5 = (W.setCell ⟨wr.heap.size, 2, none⟩ (.int .u64 ((f.m : Int) - (t.m : Int)))).drew := ⟨_, rfl⟩
   obtain ⟨kq, bF, c1w, c3w⟩ := KQ.out
   have b5 : W5.heap[wr.heap.size]? = some (.cells #[.int .i64 (f.n : Nat), .int .i64 (f.d : Nat), .int .u64 ((f.m : Int) - (t.m : Int)), .int .i64 (f.c : Nat)] 144 (0, 0)) := by rw [hW5]; exact blk_put _ bF
   have k5 : ∀ i, i ≠ wr.heap.size → W5.heap[i]? = W.heap[i]? := fun i hi => by rw [hW5]; exact Below.heap_setCell _ _ _ _ hi
   have s5 : W5.heap.size = wr.heap.size + 1 := by rw [hW5, ← hWs]; simp
   have hB5 : Below w.heap.size w W5 := by rw [hW5, HW.out]; exact ((HB.out.alloc hBs _).setCell hBs _).drew
   rw [← hW5]
   clear hW5 x2 f2 c1 c2
   have c1 : W5.cell? ⟨q, 1, none⟩ = some (.slice (some ⟨tk, 0, none⟩) n ct) := (World.cell?_of_block (k5 q (by omega))).trans c1w
   have c3 : W5.cell? ⟨tk, k * 4 + 3, none⟩ = some (.int .i64 (t.c : Nat)) := (World.cell?_of_block (k5 tk (by omega))).trans c3w
   have x3 : W5.cell? ⟨wr.heap.size, 3, none⟩ = some (.int .i64 (f.c : Nat)) := cell_blk (i := 3) b5 rfl
   have f3 : W5.frozen? ⟨wr.heap.size, 3, none⟩ = false := frozen_blk b5
   have x0 : W5.cell? ⟨wr.heap.size, 0, none⟩ = some (.int .i64 (f.n : Nat)) := cell_blk (i := 0) b5 rfl
   have x1 : W5.cell? ⟨wr.heap.size, 1, none⟩ = some (.int .i64 (f.d : Nat)) := cell_blk (i := 1) b5 rfl
   have x2 : W5.cell? ⟨wr.heap.size, 2, none⟩ = some (.int .u64 ((f.m : Int) - (t.m : Int))) := cell_blk (i := 2) b5 rfl
   have hT : Below w.heap.size w (W5.setCell ⟨wr.heap.size, 3, none⟩ (.int .i64 ((f.c : Int) - (t.c : Int)))) := hB5.setCell hBs _
   have hTo : (W5.setCell ⟨wr.heap.size, 3, none⟩ (.int .i64 ((f.c : Int) - (t.c : Int)))).ownsRow w.heap.size 144 4 (.slice A k cp) k ((L.take k).flatMap frC) := own_same OW.out fun i e => by
    have hi2 := (OW.out.lt i e).2
    exact (Below.heap_setCell _ _ _ _ (by simp; omega)).trans ((k5 i (by omega)).trans (kq i hi2))
   have hTn : (((W5.setCell ⟨wr.heap.size, 3, none⟩ (.int .i64 ((f.c : Int) - (t.c : Int)))).alloc (.cells #[.int .i64 (f.n : Nat), .int .i64 (f.d : Nat), .int .u64 ((f.m : Int) - (t.m : Int)), .int .i64 ((f.c : Int) - (t.c : Int))] 144)).drew).heap[W5.heap.size]? = some (.cells #[.int .i64 (f.n : Nat), .int .i64 (f.d : Nat), .int .u64 ((f.m : Int) - (t.m : Int)), .int .i64 ((f.c : Int) - (t.c : Int))] 144 (0, 0)) := by
    have := heap_alloc_new (W5.setCell ⟨wr.heap.size, 3, none⟩ (.int .i64 ((f.c : Int) - (t.c : Int)))) (.cells #[.int .i64 (f.n : Nat), .int .i64 (f.d : Nat), .int .u64 ((f.m : Int) - (t.m : Int)), .int .i64 ((f.c : Int) - (t.c : Int))] 144)
    have e : (W5.setCell ⟨wr.heap.size, 3, none⟩ (.int .i64 ((f.c : Int) - (t.c : Int)))).heap.size = W5.heap.size := by simp
    rw [e] at this
    exact this
   have s6 : wr.heap.size < W5.heap.size := by omega
   clear s5
   have K5 := Lib.hid hT
   have OT := Lib.hid hTo
   have NT := Lib.hid hTn
   clear k5 b5 hB5 kq bF c1w c3w hT hTo hTn
   go_still_tail 10, (by kernel_rfl)
   change wpList _ _ _ _ _ W5.drew
   go_wp2_with (at_builtin; refine wpList_append_lies _ rfl _ _ 111 rfl w.heap.size 144 i0 _ 4 32 Tryz.underlying111 hi hz0 hz1 hz2 rfl (by decide) (.slice A k cp) k ((L.take k).flatMap frC) rfl ((OT.out.alloc _).drew) ⟨W5.heap.size, 0, none⟩ 1 1 [.int .i64 (f.n : Nat), .int .i64 (f.d : Nat), .int .u64 ((f.m : Int) - (t.m : Int)), .int .i64 ((f.c : Int) - (t.c : Int))] rfl rfl (World.news_of_block (cs := #[.int .i64 (f.n : Nat), .int .i64 (f.d : Nat), .int .u64 ((f.m : Int) - (t.m : Int)), .int .i64 ((f.c : Int) - (t.c : Int))]) (t := 144) (fr := (0, 0)) NT.out) (by simp [Value.oneCell']) (by omega) (by unfold maxLen; omega) (by omega) (by simp; omega) (W5.heap.size + 1) (by simp) ?_; intro gg cap' w3 hown3 hgrow hat hlt3)
   have hT := K5.out
   have hB6 : Below w.heap.size w w3 := (hT.alloc (by simp; omega) _).drew.grown hgrow (by simp; omega) (fun i e => (OW.out.lt i e).1)
   have hown6 : w3.ownsRow w.heap.size 144 4 (.slice (some ⟨gg, 0, none⟩) (k + 1) cap') (k + 1) ((L.take (k + 1)).flatMap frC) := by
    obtain ⟨n1, n2, n3, n4, n5⟩ := N.out
    have e1 : ((MM.sub f.m t.m : Nat) : Int) = (f.m : Int) - t.m := by rw [← n2.1]; omega
    have e2 : ((f.c - t.c : Nat) : Int) = (f.c : Int) - t.c := by omega
    rw [n1, List.flatMap_append]
    have e3 : [PM.freeOf f t].flatMap frC = [.int .i64 (f.n : Nat), .int .i64 (f.d : Nat), .int .u64 ((f.m : Int) - (t.m : Int)), .int .i64 ((f.c : Int) - (t.c : Int))] := by simp only [List.flatMap_cons, List.flatMap_nil, List.append_nil, frC, PM.freeOf, e1, e2]
    rw [e3]
    exact hown3
   go_roundw
   case rel => exact ⟨k + 1, some ⟨gg, 0, none⟩, cap', by go_num, rfl, by omega, hB6, hown6⟩
   case measure => simp [intOf]; omega
  ·obtain rfl : k = n := by omega
   have e : L.take k = L := by rw [← hn, ← hlen]; exact List.take_length
   rw [e] at hown
   have OW := Lib.hid hown
   clear hown hlt e h0 hL hlen hr hn
   go_wp2
   go_ret
   exact ⟨_, rfl, OW.out, hBl⟩
end Go.Proofs.YtgpfmlidchogcaaGreat

namespace Go.Proofs.YtgpfmlidchogcaaGreat
open Go.RowKit

theorem own_base {W : World} {b c : Nat} {e : TypeId} {size : Nat} {v : Value} {n : Nat} {xs : List Value} (h : W.ownsRow c e size v n xs) (hb : b ≤ c) : W.ownsRow b e size v n xs := by
 obtain ⟨h0, h1⟩ := h
 refine ⟨h0, ?_⟩
 rcases h1 with h1 | ⟨g, cap, cur, h2, h3, h4⟩
 ·exact .inl h1
 ·exact .inr ⟨g, cap, cur, h2, Nat.le_trans hb h3, h4⟩
set_option maxRecDepth 100000 in
set_option maxHeartbeats 4000000 in
theorem refview_any (q al tk db ca ct cd : Nat) (fs ts : List Fr) (dr : List Bool) (w : World) (h : RefAt w q al tk db ca ct cd fs ts dr) :
  Calls Tryz.prog 44 #[.pointer (some ⟨q, 0, none⟩)] w fun e w' => ∃ v, e = .returned v ∧ w'.ownsRow w.heap.size 144 4 v (PM.view fs ts dr).length ((PM.view fs ts dr).flatMap frC) ∧ Below w.heap.size w w' := by
 obtain ⟨L, hL⟩ : ∃ L, L = PM.free fs ts := ⟨_, rfl⟩
 have hvw : PM.view fs ts dr = L.filter (seen dr) := by rw [hL]; rfl
 rw [hvw]
 have hC := reffree_any q al tk db ca ct cd fs ts dr w h
 rw [← hL] at hC
 have hlen := PM.free_len h.inv
 rw [← hL] at hlen
 have hfew := h.ok.few
 have hpos := h.ok.pos
 have hnods := h.ok.nodes
 have hok := h.ok.free h.inv
 rw [← hL] at hok
 have hdb := h.heads.2.2
 obtain ⟨n, hn⟩ : ∃ n, fs.length = n := ⟨_, rfl⟩
 obtain ⟨kd, hkd⟩ : ∃ kd, dr.length = kd := ⟨_, rfl⟩
 rw [hn] at hfew hpos hC hlen
 rw [hkd] at hnods hok hdb
 obtain ⟨l1, l2, l3, l4⟩ := h.lt
 have HC := Lib.hid hC
 have HP := Lib.hid (And.intro h (And.intro hlen (And.intro hok (And.intro hdb hL))))
 obtain ⟨i0, hi, hz0, hz1, hz2⟩ := info_parts info_free
 clear h hC hL hvw hlen hok hdb hn
 go_enter Tryz.func44, Tryz.ntmps44
 go_wp2_with (go_at_call 42; refine HC.out.mono ?_; rintro e w1 ⟨v, rfl, ho1, hb1⟩; obtain ⟨g, cap, rfl, hgB, hgl⟩ := ho1.form hpos)
 have hT : TakenAt w1 g L := by
  have hlen := HP.out.2.1
  rw [← hlen] at ho1
  exact (TakenAt.of_own ho1).1
 have hs1 := hb1.size
 have HT := Lib.hid (And.intro hT hb1)
 clear hT ho1 hb1
 go_loopw [3, 5] (fun out i wr => ∃ (k : Nat) (A : Option Addr) (cp : Nat), i = .int .i64 k ∧ out = .slice A ((L.take k).filter (seen dr)).length cp ∧ k ≤ n ∧ Below w1.heap.size w1 wr ∧ wr.ownsRow w1.heap.size 144 4 (.slice A ((L.take k).filter (seen dr)).length cp) ((L.take k).filter (seen dr)).length (((L.take k).filter (seen dr)).flatMap frC)) (fun _ i _ => n - (intOf i).toNat)
 case atStart => exact ⟨0, none, 0, rfl, rfl, by omega, Below.refl _ _, World.ownsRow_nil _ _ _ _⟩
 case round =>
  obtain ⟨k, A, cp, rfl, rfl, hk, hBl, hown⟩ := hrel
  have hBs := hBl.size
  by_cases hlt : k < n
  ·obtain ⟨h0, hlen, hok, hdb, hL⟩ := HP.out
   obtain ⟨f, hx⟩ := get_lt (l := L) (k := k) (by omega)
   obtain ⟨fm, fc, fn⟩ := hok f (List.mem_of_getElem? hx)
   obtain ⟨b, hb⟩ := get_lt (l := dr) (k := f.n) (by omega)
   have hr := (h0.keep HT.out.2).off (fun i hi _ => hBl.block i hi)
   obtain ⟨f0, f1, f2, f3⟩ := (HT.out.1.at_ hx).keep hgl hBl
   have d0 := (hr.bit hb).1
   have d2 := hr.heads.2.2
   rw [hkd] at d2
   have t0 : decide (k < n) = true := by simpa using hlt
   have tn : (f.n : Nat) < kd := fn
   have N := Lib.hid (filter_next (q := seen dr) hx)
   obtain ⟨V, hV⟩ : ∃ V, V = (L.take k).filter (seen dr) := ⟨_, rfl⟩
   have hVl : V.length ≤ 1000 := by
    rw [hV]; have := List.length_filter_le (seen dr) (L.take k); rw [List.length_take] at this; omega
   rw [← hV] at hown N ⊢
   have OW := Lib.hid hown
   have HB := Lib.hid hBl
   have HV := Lib.hid hV
   have hsn : seen dr f = !b := by unfold seen; rw [hb]; rfl
   clear h0 hlen hok hdb hL hr hx hb hV hown hBl
   cases b
   ·have hsn2 : seen dr f = true := hsn
    rw [if_pos hsn2] at N
    clear hsn hsn2
    go_wp2
    go_quiet (fail)
    go_wp2_with (at_builtin; refine wpList_append_lies _ rfl _ _ 111 rfl w1.heap.size 144 i0 _ 4 32 Tryz.underlying111 hi hz0 hz1 hz2 rfl (by decide) (.slice A V.length cp) V.length (V.flatMap frC) rfl (own_same (OW.out.alloc _) (fun _ _ => rfl)) ⟨wr.heap.size, 0, none⟩ 1 1 [.int .i64 (f.n : Nat), .int .i64 (f.d : Nat), .int .u64 (f.m : Nat), .int .i64 (f.c : Nat)] rfl rfl (World.news_of_block (cs := #[.int .i64 (f.n : Nat), .int .i64 (f.d : Nat), .int .u64 (f.m : Nat), .int .i64 (f.c : Nat)]) (t := 144) (fr := (0, 0)) (heap_alloc_new wr _)) (by simp [Value.oneCell']) (by omega) (by unfold maxLen; omega) (by omega) (by simp; omega) (wr.heap.size + 1) (by simp) ?_; intro gg cap' w3 hown3 hgrow hat hlt3)
    have hB6 : Below w1.heap.size w1 w3 := (below_drewN (HB.out.alloc hBs _) _).grown hgrow (by simp; omega) (fun i e => (OW.out.lt i e).1)
    have hown6 : w3.ownsRow w1.heap.size 144 4 (.slice (some ⟨gg, 0, none⟩) (V ++ [f]).length cap') (V ++ [f]).length ((V ++ [f]).flatMap frC) := by
     rw [List.length_append, List.flatMap_append]
     simpa [frC] using hown3
    go_roundw
    case rel => exact ⟨k + 1, some ⟨gg, 0, none⟩, cap', by go_num, by rw [N.out]; simp, by omega, hB6, by rw [N.out]; exact hown6⟩
    case measure => simp [intOf]; omega
   ·rw [if_neg (by rw [hsn]; simp), List.append_nil] at N
    clear hsn
    go_wp2
    go_quiet (fail)
    go_wp2
    refine ⟨⟨k + 1, A, cp, by go_num, by rw [N.out], by omega, below_drewN HB.out _, by rw [N.out]; exact own_same OW.out (fun _ _ => rfl)⟩, by simp [intOf]; omega⟩
  ·obtain rfl : k = n := by omega
   have e : L.take k = L := by rw [← HP.out.2.1]; exact List.take_length
   rw [e] at hown ⊢
   have OW := Lib.hid hown
   clear hown hlt e
   go_wp2
   go_ret
   exact ⟨_, rfl, own_base OW.out hs1, HT.out.2.trans (hBl.mono hs1)⟩
end Go.Proofs.YtgpfmlidchogcaaGreat

namespace Go.Proofs.YtgpfmlidchogcaaGreat
open Go.RowKit

theorem refall_young (A : Option Addr) (c : Nat) (ns : List (List (Int × Int))) (w W : World) (h : Nodes w w.heap.size A ns) (hB : Below w.heap.size w W) (hok : cluOk ns = true) :
  Calls Tryz.prog 62 #[.agg #[.slice A ns.length c]] W fun e w' => ∃ g cp, e = .returned (.slice (some ⟨g, 0, none⟩) (frees ns).length cp) ∧ W.heap.size ≤ g ∧ g < w'.heap.size ∧ (∀ i f, (frees ns)[i]? = some f → FrAt w' g (i * 4) f) ∧ Below W.heap.size W w' := by
 have h' := Nodes.keep h hB hB.size
 obtain ⟨x, hx⟩ := get_lt (l := ns) (k := 0) (by have := cluOk_len hok; omega)
 obtain ⟨b, off, rfl, hb, hc⟩ := h'.at_ hx
 refine (refall_loop b off c _ ns rfl W hb hc hok).mono fun e w' ⟨v, he, ho, hb⟩ => ?_
 obtain ⟨g, cap, rfl, hgB, hgl⟩ := ho.form (frees_pos hok)
 obtain ⟨hT, _, _⟩ := TakenAt.of_own ho
 exact ⟨g, cap, he, by omega, hgl, fun i f hf => hT.at_ hf, hb⟩
end Go.Proofs.YtgpfmlidchogcaaGreat

namespace Go.Proofs.YtgpfmlidchogcaaGreat
open Go.RowKit

set_option maxRecDepth 100000 in
set_option maxHeartbeats 4000000 in
theorem refnew_any (A : Option Addr) (c : Nat) (ns : List (List (Int × Int))) (w : World) (h : Nodes w w.heap.size A ns) (hok : cluOk ns = true) :
  Calls Tryz.prog 19 #[.agg #[.slice A ns.length c]] w fun e w' => ∃ q al tk db ca ct cd, e = .returned (.pointer (some ⟨q, 0, none⟩)) ∧ w.heap.size ≤ q ∧ w.heap.size ≤ al ∧ w.heap.size ≤ tk ∧ w.heap.size ≤ db ∧ RefAt w' q al tk db ca ct cd (frees ns) (PM.zero (frees ns)) (List.replicate ns.length false) ∧ Below w.heap.size w w' := by
 have hB1 := (Below.refl w.heap.size w).alloc (Nat.le_refl _) (.cells #[.slice A ns.length c] 24)
 have hA := Lib.hid (fun W hW => refall_young A c ns w W h hW hok)
 have hfo := Lib.hid (And.intro hok hB1)
 have hnl := cluOk_len hok
 have b0 := heap_alloc_new w (.cells #[.slice A ns.length c] 24)
 obtain ⟨n, hn⟩ : ∃ n, ns.length = n := ⟨_, rfl⟩
 rw [hn] at b0 hnl ⊢
 obtain ⟨W, hW⟩ : ∃ W, W = w.alloc (.cells #[.slice A n c] 24) := ⟨_, rfl⟩
 have s0 : W.cell? ⟨w.heap.size, 0, none⟩ = some (.slice A n c) := by rw [hW]; exact cell_blk (i := 0) b0 rfl
 have HW := Lib.hid hW
 obtain ⟨i0, hi, hz0, hz1, hz2⟩ : ∃ i : TypeInfo, Tryz.prog.info? 4 = some i ∧ i.zero = some (.bool false) ∧ i.size = 1 ∧ i.bytes = 1 := ⟨_, rfl, rfl, rfl, rfl⟩
 have hmk : ∀ W : World, (Instr.makeSlice 118 (.int .i64 (n : Nat)) (.int .i64 (n : Nat))).run Tryz.prog W = .ok (.slice (some ⟨W.heap.size, 0, none⟩) n n) (W.alloc (.cells (List.replicate n (Value.bool false)).toArray 4)) := fun W => by
  have := run_make (P := Tryz.prog) W 118 4 i0 _ Tryz.underlying118 hi hz0 .i64 .i64 (n : Nat) (n : Nat) (by omega) (by omega) (by rw [hz2]; omega) (by omega)
  rw [hz1] at this
  have e : madeCells (Value.bool false).cells (n * 1) = (List.replicate n (Value.bool false)).toArray := by
   rw [Nat.mul_one]
   have := toList_madeCells_one (Value.bool false) n
   rw [← this]
   rfl
  rw [← e]
  simpa using this
 have hws : W.heap.size = w.heap.size + 1 := by rw [hW]; simp
 have HBW := Lib.hid (show Below w.heap.size w W by rw [hW]; exact (Below.refl w.heap.size w).alloc (Nat.le_refl _) _)
 clear hW b0 h hok hB1
 go_enter Tryz.func19, Tryz.ntmps19
 go_wp2_with fail
 rw [← HW.out]
 refine held_begin (fun w' : World => w'.cell? ⟨w.heap.size, 0, none⟩ = some (.slice A n c)) (by kernel_rfl) ?_
 have hS0 : (fun w' : World => w'.cell? ⟨w.heap.size, 0, none⟩ = some (.slice A n c)) W.drew := s0
 refine held_takeK (v := ?_) 0 5 rfl rfl ⟨by rfl, ?_⟩ hS0 ?_
 rotate_left
 ·intro w' hw'; have x0 := hw'; go_simp; (try with_reducible rfl)
 simp only [Act.put, pzA, pzB, pzC]
 refine held_takeK (v := ?_) 2 7 rfl rfl ⟨by rfl, ?_⟩ hS0 ?_
 rotate_left
 ·intro w' hw'; have x0 := hw'; go_simp; (try with_reducible rfl)
 simp only [Act.put, pzA, pzB, pzC]
 refine held_takeK (v := ?_) 3 8 rfl rfl ⟨by rfl, ?_⟩ hS0 ?_
 rotate_left
 ·intro w' hw'; have x0 := hw'; go_simp; (try with_reducible rfl)
 simp only [Act.put, pzA, pzB, pzC]
 refine held_takeK (v := ?_) 4 9 rfl rfl ⟨by rfl, ?_⟩ hS0 ?_
 rotate_left
 ·intro w' hw'; have x0 := hw'; go_simp; (try with_reducible rfl)
 simp only [Act.put, pzA, pzB, pzC]
 refine held_two 1 5 rfl rfl (by kernel_rfl) (by rfl) (by rfl) (fun K hK => ?_) (fun K hK => ?_)
 ·go_simp
  go_at_call 62
  have hC := hA.out W.drew HBW.out.drew
  rw [hn] at hC
  refine hC.mono ?_
  rintro e w2 ⟨g, cp, rfl, hg1, hg2, hfr, hb2⟩
  have hw2 := hb2.size
  simp at hw2 hg1
  have hS1 : (fun w' : World => w'.cell? ⟨w.heap.size, 0, none⟩ = some (.slice A n c)) w2 := (hb2.cell (p := ⟨w.heap.size, 0, none⟩) (by simp; omega)).trans s0
  refine hK.out _ _ hS1 ?_
  clear hK K
  refine held_one 5 rfl (by kernel_rfl) (by rfl) (fun K hK => ?_)
  go_simp
  obtain ⟨db, hdbe⟩ : ∃ db, db = w2.heap.size := ⟨_, rfl⟩
  obtain ⟨w3, hw3⟩ : ∃ w3, w3 = w2.alloc (.cells (List.replicate n (Value.bool false)).toArray 4) := ⟨_, rfl⟩
  have hb3 : Below w2.heap.size w2 w3 := by rw [hw3]; exact (Below.refl _ _).alloc (Nat.le_refl _) _
  have hs3 : w3.heap.size = w2.heap.size + 1 := by rw [hw3]; simp
  have hS3 : (fun w' : World => w'.cell? ⟨w.heap.size, 0, none⟩ = some (.slice A n c)) w3 := (hb3.cell (p := ⟨w.heap.size, 0, none⟩) (show w.heap.size < w2.heap.size by omega)).trans hS1
  have hD : w3.heap[db]? = some (boolBlk (List.replicate n false)) := by rw [hdbe, hw3]; unfold boolBlk; rw [List.map_replicate]; exact heap_alloc_new w2 _
  have hfr3 : ∀ i f, (frees ns)[i]? = some f → FrAt w3 g (i * 4) f := fun i f hf => (hfr i f hf).keep hg2 hb3
  have hB3 : Below w.heap.size w w3 := below_step (below_step HBW.out.drew hb2) hb3
  have hfin : w.heap.size < g ∧ g < w3.heap.size ∧ w.heap.size < db ∧ db < w3.heap.size ∧ g ≠ db := by omega
  simp only [List.toArray_replicate] at hw3
  refine hK.out _ _ (by rw [← hw3]; exact hS3) ?_
  rw [← hw3, ← hdbe]
  clear hK K hw3 hdbe hb3 hs3 hS1 hb2 hw2 hg1 hg2 hfr hC
  refine held_takeK (v := ?_) 6 11 rfl rfl ⟨by rfl, ?_⟩ hS3 ?_
  rotate_left
  ·intro w' hw'; have x0 := hw'; go_simp; (try with_reducible rfl)
  simp only [Act.put, pzA, pzB, pzC]
  refine held_one 7 rfl (by kernel_rfl) (by rfl) (fun K hK => ?_)
  go_simp
  have hS4 : (fun w' : World => w'.cell? ⟨w.heap.size, 0, none⟩ = some (.slice A n c)) (w3.alloc (.cells #[.slice (some ⟨g, 0, none⟩) (frees ns).length cp, .slice none 0 0, .slice (some ⟨db, 0, none⟩) n n] 121)) := by
   have hbq := (Below.refl w3.heap.size w3).alloc (Nat.le_refl _) (.cells #[.slice (some ⟨g, 0, none⟩) (frees ns).length cp, .slice none 0 0, .slice (some ⟨db, 0, none⟩) n n] 121)
   exact (hbq.cell (p := ⟨w.heap.size, 0, none⟩) (show w.heap.size < w3.heap.size by omega)).trans hS3
  refine hK.out _ _ hS4 ?_
  clear hK K
  refine held_takeK (v := ?_) 8 3 rfl rfl ⟨by rfl, ?_⟩ hS4 ?_
  rotate_left
  ·intro w' hw'; have x0 := hw'; go_simp; (try with_reducible rfl)
  simp only [Act.put, pzA, pzB, pzC]
  refine wpAnyH_done (by kernel_rfl) ?_ _
  go_simp
  obtain ⟨q, hq⟩ : ∃ q, q = w3.heap.size := ⟨_, rfl⟩
  obtain ⟨w4, hw4⟩ : ∃ w4, w4 = w3.alloc (.cells #[.slice (some ⟨g, 0, none⟩) (frees ns).length cp, .slice none 0 0, .slice (some ⟨db, 0, none⟩) n n] 121) := ⟨_, rfl⟩
  have hb4 : Below w3.heap.size w3 w4 := by rw [hw4]; exact (Below.refl _ _).alloc (Nat.le_refl _) _
  have hq4 : w4.heap[q]? = some (.cells #[.slice (some ⟨g, 0, none⟩) (frees ns).length cp, .slice none 0 0, .slice (some ⟨db, 0, none⟩) n n] 121 (0, 0)) := by rw [hq, hw4]; exact heap_alloc_new w3 _
  have hb4w := Lib.hid hb4
  have hs4 : w4.heap.size = q + 1 := by rw [hw4, hq]; simp
  rw [← hw4, ← hq]
  rw [← hq] at hfin
  have hg3 : g < w3.heap.size := by omega
  clear hb4
  have hfow := fsOk hfo.out.1
  obtain ⟨L, hL⟩ : ∃ L, L = frees ns := ⟨_, rfl⟩
  obtain ⟨N, hN⟩ : ∃ N, N = L.length := ⟨_, rfl⟩
  rw [← hL, ← hN] at hq4
  rw [← hL] at hfr3
  rw [← hL, ← hN]
  have hN1 : 0 < N ∧ N ≤ 1000 := by rw [hN, hL]; exact ⟨hfow.pos, hfow.few⟩
  have H := Lib.hid (And.intro hL (And.intro hN (And.intro hfr3 (And.intro hfow (And.intro hD (And.intro hB3 hq))))))
  clear hw4 hS3 hS4 hD hfr3 hB3 hq hfow hL hN
  obtain ⟨j0, hi, hz0, hz1, hz2⟩ := info_parts info_free
  refine ‹∀ (a : Act) (w : World), _ → _› _ _ ?_
  go_wp2
  go_loopw [4] (fun i wr => ∃ (k : Nat) (A1 : Option Addr) (cpa : Nat), i = .int .i64 k ∧ k ≤ N ∧ Below q w4 wr ∧ q + 1 ≤ wr.heap.size ∧ wr.heap[q]? = some (.cells #[.slice (some ⟨g, 0, none⟩) N cp, .slice A1 k cpa, .slice (some ⟨db, 0, none⟩) n n] 121 (0, 0)) ∧ wr.ownsRow (q + 1) 144 4 (.slice A1 k cpa) k ((PM.zero (L.take k)).flatMap frC)) (fun i _ => N - (intOf i).toNat)
  case atStart => exact ⟨0, none, 0, rfl, by omega, Below.refl _ _, by omega, hq4, World.ownsRow_nil _ _ _ _⟩
  case round =>
   obtain ⟨k, A1, cpa, rfl, hk, hBl, hqs, hqb, hown⟩ := hrel
   obtain ⟨hL, hN, hfr3, hfo3, hD, hB3, hq⟩ := H.out
   have z0 := cell_blk (i := 0) hqb rfl
   have z1 := cell_blk (i := 1) hqb rfl
   have zf : wr.frozen? ⟨q, 1, none⟩ = false := frozen_blk hqb
   by_cases hlt : k < N
   ·obtain ⟨f, hf⟩ := get_lt (l := L) (k := k) (by omega)
    obtain ⟨fn, fd, _, _⟩ := ((hfr3 k f hf).keep hg3 hb4w.out).keep hfin.2.1 hBl
    have t0 : decide (k < N) = true := decide_eq_true hlt
    have hnx := take_next hf
    have HN := Lib.hid (And.intro hnx (And.intro hBl hqb))
    have hqg : q ≠ g := by omega
    have hon : (Value.slice A1 k cpa).ownBlock ≠ some q := fun e => by have := (hown.lt _ e).1; omega
    have hog : (Value.slice A1 k cpa).ownBlock ≠ some g := fun e => by have := (hown.lt _ e).1; omega
    clear hL hN hfr3 hfo3 hD hB3 hq hqb hf hnx hBl
    go_wp2
    refine wp_until (fun w' : World => w'.cell? ⟨q, 0, none⟩ = some (.slice (some ⟨g, 0, none⟩) N cp) ∧ w'.cell? ⟨q, 1, none⟩ = some (.slice A1 k cpa) ∧ w'.cell? ⟨g, k * 4, none⟩ = some (.int .i64 (f.n : Nat)) ∧ w'.cell? ⟨g, k * 4 + 1, none⟩ = some (.int .i64 (f.d : Nat))) 18 (by kernel_rfl) ?_
    have hS : (fun w' : World => w'.cell? ⟨q, 0, none⟩ = some (.slice (some ⟨g, 0, none⟩) N cp) ∧ w'.cell? ⟨q, 1, none⟩ = some (.slice A1 k cpa) ∧ w'.cell? ⟨g, k * 4, none⟩ = some (.int .i64 (f.n : Nat)) ∧ w'.cell? ⟨g, k * 4 + 1, none⟩ = some (.int .i64 (f.d : Nat))) wr.drew := ⟨z0, z1, fn, fd⟩
    have fz4 : wr.drew.frozen? ⟨q, 1, none⟩ = false := zf
    have hown4 := hown.drew
    have hs5 : q + 1 ≤ wr.drew.heap.size := hqs
    have HW5 : Hid (wr.drew.heap = wr.heap ∧ wr.drew.os = wr.os ∧ wr.drew.tape = wr.tape ∧ wr.drew.output = wr.output) := Lib.hid ⟨rfl, rfl, rfl, rfl⟩
    clear z0 z1 fn fd zf hown
    generalize wr.drew = w5 at hS fz4 hown4 hs5 HW5 ⊢
    refine until_take (v := ?_) 0 22 rfl rfl (by kernel_rfl) (by kernel_rfl) (by kernel_rfl) (by kernel_rfl) (fun _ _ _ h => h) ⟨by rfl, ?_⟩ hS ?_
    rotate_left
    ·intro w' hw'; obtain ⟨x0, x1, x2, x3⟩ := hw'; go_simp; (try with_reducible rfl)
    simp only [Act.put, pzA, pzB, pzC]
    refine until_take (v := ?_) 1 23 rfl rfl (by kernel_rfl) (by kernel_rfl) (by kernel_rfl) (by kernel_rfl) (fun _ _ _ h => h) ⟨by rfl, ?_⟩ hS ?_
    rotate_left
    ·intro w' hw'; obtain ⟨x0, x1, x2, x3⟩ := hw'; go_simp; (try with_reducible rfl)
    simp only [Act.put, pzA, pzB, pzC]
    refine until_take (v := ?_) 2 24 rfl rfl (by kernel_rfl) (by kernel_rfl) (by kernel_rfl) (by kernel_rfl) (fun _ _ _ h => h) ⟨by rfl, ?_⟩ hS ?_
    rotate_left
    ·intro w' hw'; obtain ⟨x0, x1, x2, x3⟩ := hw'; go_simp; (try with_reducible rfl)
    simp only [Act.put, pzA, pzB, pzC]
    refine until_take (v := ?_) 3 25 rfl rfl (by kernel_rfl) (by kernel_rfl) (by kernel_rfl) (by kernel_rfl) (fun _ _ _ h => h) ⟨by rfl, ?_⟩ hS ?_
    rotate_left
    ·intro w' hw'; obtain ⟨x0, x1, x2, x3⟩ := hw'; go_simp; (try with_reducible rfl)
    simp only [Act.put, pzA, pzB, pzC]
    refine until_take (v := ?_) 4 26 rfl rfl (by kernel_rfl) (by kernel_rfl) (by kernel_rfl) (by kernel_rfl) (fun _ _ _ h => h) ⟨by rfl, ?_⟩ hS ?_
    rotate_left
    ·intro w' hw'; obtain ⟨x0, x1, x2, x3⟩ := hw'; go_simp; (try with_reducible rfl)
    simp only [Act.put, pzA, pzB, pzC]
    refine until_take (v := ?_) 5 27 rfl rfl (by kernel_rfl) (by kernel_rfl) (by kernel_rfl) (by kernel_rfl) (fun _ _ _ h => h) ⟨by rfl, ?_⟩ hS ?_
    rotate_left
    ·intro w' hw'; obtain ⟨x0, x1, x2, x3⟩ := hw'; go_simp; (try with_reducible rfl)
    simp only [Act.put, pzA, pzB, pzC]
    refine until_take (v := ?_) 6 28 rfl rfl (by kernel_rfl) (by kernel_rfl) (by kernel_rfl) (by kernel_rfl) (fun _ _ _ h => h) ⟨by rfl, ?_⟩ hS ?_
    rotate_left
    ·intro w' hw'; obtain ⟨x0, x1, x2, x3⟩ := hw'; go_simp; (try with_reducible rfl)
    simp only [Act.put, pzA, pzB, pzC]
    refine until_take (v := ?_) 7 29 rfl rfl (by kernel_rfl) (by kernel_rfl) (by kernel_rfl) (by kernel_rfl) (fun _ _ _ h => h) ⟨by rfl, ?_⟩ hS ?_
    rotate_left
    ·intro w' hw'; obtain ⟨x0, x1, x2, x3⟩ := hw'; go_simp; (try with_reducible rfl)
    simp only [Act.put, pzA, pzB, pzC]
    refine until_take (v := ?_) 8 30 rfl rfl (by kernel_rfl) (by kernel_rfl) (by kernel_rfl) (by kernel_rfl) (fun _ _ _ h => h) ⟨by rfl, ?_⟩ hS ?_
    rotate_left
    ·intro w' hw'; obtain ⟨x0, x1, x2, x3⟩ := hw'; go_simp; (try with_reducible rfl)
    simp only [Act.put, pzA, pzB, pzC]
    refine until_take (v := ?_) 9 31 rfl rfl (by kernel_rfl) (by kernel_rfl) (by kernel_rfl) (by kernel_rfl) (fun _ _ _ h => h) ⟨by rfl, ?_⟩ hS ?_
    rotate_left
    ·intro w' hw'; obtain ⟨x0, x1, x2, x3⟩ := hw'; go_simp; (try with_reducible rfl)
    simp only [Act.put, pzA, pzB, pzC]
    refine until_take (v := ?_) 10 32 rfl rfl (by kernel_rfl) (by kernel_rfl) (by kernel_rfl) (by kernel_rfl) (fun _ _ _ h => h) ⟨by rfl, ?_⟩ hS ?_
    rotate_left
    ·intro w' hw'; obtain ⟨x0, x1, x2, x3⟩ := hw'; go_simp; (try with_reducible rfl)
    simp only [Act.put, pzA, pzB, pzC]
    refine until_take (v := ?_) 11 33 rfl rfl (by kernel_rfl) (by kernel_rfl) (by kernel_rfl) (by kernel_rfl) (fun _ _ _ h => h) ⟨by rfl, ?_⟩ hS ?_
    rotate_left
    ·intro w' hw'; obtain ⟨x0, x1, x2, x3⟩ := hw'; go_simp; (try with_reducible rfl)
    simp only [Act.put, pzA, pzB, pzC]
    refine until_take (v := ?_) 12 34 rfl rfl (by kernel_rfl) (by kernel_rfl) (by kernel_rfl) (by kernel_rfl) (fun _ _ _ h => h) ⟨by rfl, ?_⟩ hS ?_
    rotate_left
    ·intro w' hw'; obtain ⟨x0, x1, x2, x3⟩ := hw'; go_simp; (try with_reducible rfl)
    simp only [Act.put, pzA, pzB, pzC]
    refine until_take (v := ?_) 13 35 rfl rfl (by kernel_rfl) (by kernel_rfl) (by kernel_rfl) (by kernel_rfl) (fun _ _ _ h => h) ⟨by rfl, ?_⟩ hS ?_
    rotate_left
    ·intro w' hw'; obtain ⟨x0, x1, x2, x3⟩ := hw'; go_simp; (try with_reducible rfl)
    simp only [Act.put, pzA, pzB, pzC]
    refine until_one 14 rfl (by kernel_rfl) rfl (fun K hK => ?_)
    go_simp
    have hst := (Below.refl w5.heap.size w5).alloc (Nat.le_refl _) (.cells #[.int .i64 (f.n : Nat), .int .i64 (f.d : Nat), .int .u64 0, .int .i64 0] 144)
    have hS4 : (fun w' : World => w'.cell? ⟨q, 0, none⟩ = some (.slice (some ⟨g, 0, none⟩) N cp) ∧ w'.cell? ⟨q, 1, none⟩ = some (.slice A1 k cpa) ∧ w'.cell? ⟨g, k * 4, none⟩ = some (.int .i64 (f.n : Nat)) ∧ w'.cell? ⟨g, k * 4 + 1, none⟩ = some (.int .i64 (f.d : Nat))) (w5.alloc (.cells #[.int .i64 (f.n : Nat), .int .i64 (f.d : Nat), .int .u64 0, .int .i64 0] 144)) :=
     ⟨(hst.cell (p := ⟨q, 0, none⟩) (show q < _ by omega)).trans hS.1, (hst.cell (p := ⟨q, 1, none⟩) (show q < _ by omega)).trans hS.2.1, (hst.cell (p := ⟨g, k * 4, none⟩) (show g < _ by omega)).trans hS.2.2.1, (hst.cell (p := ⟨g, k * 4 + 1, none⟩) (show g < _ by omega)).trans hS.2.2.2⟩
    refine hK.out _ _ (fun _ => hS4) ?_
    clear hK K
    refine until_one 15 rfl (by kernel_rfl) rfl (fun K hK => ?_)
    simp only [Go.wp_at_zero, Go.wp_at_succ]
    refine wp_append_lies _ _ _ 111 rfl (q + 1) 144 j0 _ 4 32 Tryz.underlying111 hi hz0 hz1 hz2 rfl (by omega) (.slice A1 k cpa) k ((PM.zero (L.take k)).flatMap frC) rfl (hown4.alloc _) ⟨w5.heap.size, 0, none⟩ 1 1 [.int .i64 (f.n : Nat), .int .i64 (f.d : Nat), .int .u64 0, .int .i64 0] rfl rfl (World.news_of_block (cs := #[.int .i64 (f.n : Nat), .int .i64 (f.d : Nat), .int .u64 0, .int .i64 0]) (t := 144) (fr := (0, 0)) (heap_alloc_new w5 _)) (by simp [Value.oneCell']) (by omega) (by unfold maxLen; omega) (by omega) (by simp; omega) (w5.heap.size + 1) (by simp) ?_
    intro gg cap' v3 hown3 hgrow hat hlt5
    have hS3 : (fun w' : World => w'.cell? ⟨q, 0, none⟩ = some (.slice (some ⟨g, 0, none⟩) N cp) ∧ w'.cell? ⟨q, 1, none⟩ = some (.slice A1 k cpa) ∧ w'.cell? ⟨g, k * 4, none⟩ = some (.int .i64 (f.n : Nat)) ∧ w'.cell? ⟨g, k * 4 + 1, none⟩ = some (.int .i64 (f.d : Nat))) v3 :=
     ⟨(hgrow.cell_far _ (by simp; omega) (Ne.symm hon)).trans hS4.1, (hgrow.cell_far _ (by simp; omega) (Ne.symm hon)).trans hS4.2.1, (hgrow.cell_far _ (by simp; omega) (Ne.symm hog)).trans hS4.2.2.1, (hgrow.cell_far _ (by simp; omega) (Ne.symm hog)).trans hS4.2.2.2⟩
    have g4 := hS3.2.1
    have g5 : v3.frozen? ⟨q, 1, none⟩ = false := (hgrow.frozen_far ⟨q, 1, none⟩ (by simp; omega) (Ne.symm hon)).trans ((hst.frozen (p := ⟨q, 1, none⟩) (show q < _ by omega)).trans fz4)
    refine hK.out _ _ (fun _ => hS3) ?_
    clear hK K
    simp only [Act.put, pzA, pzB, pzC]
    refine until_one 16 rfl (by kernel_rfl) rfl (fun K hK => ?_)
    go_simp
    refine hK.out _ _ (fun _ => hS3) ?_
    clear hK K
    refine until_one 17 rfl (by kernel_rfl) rfl (fun K hK => ?_)
    go_simp
    refine hK.out _ _ (fun _ => hS3) ?_
    clear hK K
    refine until_one 18 rfl (by kernel_rfl) rfl (fun K hK => ?_)
    go_simp
    refine hK.out _ _ (fun h => absurd h (by decide)) ?_
    clear hK K
    refine until_done (by kernel_rfl) ?_
    obtain ⟨hnx, hBl, hqb⟩ := HN.out
    obtain ⟨e1, e2, e3, e4⟩ := HW5.out
    have hgb : v3.heap[q]? = wr.heap[q]? := by
     rw [← e1]
     exact (hgrow.block q (by simp; omega) (Ne.symm hon)).trans (Below.heap_alloc w5 _ q (by omega))
    have hbq : (v3.setCell ⟨q, 1, none⟩ (.slice (some ⟨gg, 0, none⟩) (k + 1) cap')).heap[q]? = some (.cells #[.slice (some ⟨g, 0, none⟩) N cp, .slice (some ⟨gg, 0, none⟩) (k + 1) cap', .slice (some ⟨db, 0, none⟩) n n] 121 (0, 0)) := blk_put _ (hgb.trans hqb)
    have hB5 : Below q w4 w5 := ⟨e2.trans hBl.os, e3.trans hBl.tape, e4.trans hBl.output, by rw [e1]; exact hBl.size, fun j hj => by rw [e1]; exact hBl.block j hj⟩
    have hB7 : Below q w4 (v3.setCell ⟨q, 1, none⟩ (.slice (some ⟨gg, 0, none⟩) (k + 1) cap')) := ((hB5.alloc (by omega) _).grown hgrow (by simp; omega) (fun j e => by have := (hown4.lt j e).1; omega)).setCell (Nat.le_refl _) _
    have hgl := hgrow.size
    simp at hgl
    have hggq : gg ≠ q := by
     rcases hat with hat | hat
     ·rintro rfl; exact hon hat
     ·omega
    have hown7 : (v3.setCell ⟨q, 1, none⟩ (.slice (some ⟨gg, 0, none⟩) (k + 1) cap')).ownsRow (q + 1) 144 4 (.slice (some ⟨gg, 0, none⟩) (k + 1) cap') (k + 1) ((PM.zero (L.take (k + 1))).flatMap frC) := by
     refine own_same (W := v3) ?_ (fun j e => Below.heap_setCell _ _ _ _ (by rw [← (show gg = j by simpa [Value.ownBlock] using e)]; exact hggq))
     rw [hnx]
     have e3 : (PM.zero (L.take k ++ [f])).flatMap frC = (PM.zero (L.take k)).flatMap frC ++ [.int .i64 (f.n : Nat), .int .i64 (f.d : Nat), .int .u64 0, .int .i64 0] := by simp [PM.zero, frC]
     rw [e3]
     exact hown3
    have hs7 : q + 1 ≤ (v3.setCell ⟨q, 1, none⟩ (.slice (some ⟨gg, 0, none⟩) (k + 1) cap')).heap.size := by simp; omega
    have HE := Lib.hid (And.intro hbq (And.intro hB7 (And.intro hown7 hs7)))
    clear hnx hBl hqb e1 e2 e3 e4 hgb hbq hB5 hB7 hgl hggq hown7 hs7 hS3 hS4 hst g4 g5 hS fz4 hown4 hown3 hgrow hat hlt5
    go_wp2
    go_roundw
    case rel => exact ⟨k + 1, some ⟨gg, 0, none⟩, cap', by go_num, by omega, HE.out.2.1, HE.out.2.2.2, HE.out.1, HE.out.2.2.1⟩
    case measure => simp [intOf]; omega
   ·obtain rfl : k = N := by omega
    have eL : L.take k = L := by rw [hN]; exact List.take_length
    rw [eL] at hown
    obtain ⟨tk, ct, ev, htB, htl⟩ := hown.form hN1.1
    cases ev
    have hzl : (PM.zero L).length = k := by rw [hN]; simp [PM.zero]
    have hT : TakenAt wr tk (PM.zero L) := by
     have hown9 := hown
     rw [← hzl] at hown9
     exact (TakenAt.of_own hown9).1
    have hBw : Below w.heap.size w wr := hB3.trans ((hb4w.out.mono (by omega)).trans (hBl.mono (by omega)))
    have hR : RefAt wr q g tk db cp cpa n L (PM.zero L) (List.replicate n false) := by
     refine ⟨?_, PM.zero_inv L, ?_, ?_, hT, ?_, by omega⟩
     ·rw [List.length_replicate, hL, ← hn]; exact hfo3
     ·rw [List.length_replicate, ← hN]; exact hqb
     ·exact fun i f hf => ((hfr3 i f hf).keep hg3 hb4w.out).keep hfin.2.1 hBl
     ·exact DrBlk.of_eq (((hBl.block db hfin.2.2.2.1).trans (hb4w.out.block db (by omega))).trans hD)
    have HE := Lib.hid (And.intro hR (And.intro hBw hL))
    clear hfr3 hfo3 hD hB3 hq hqb hBl hown hL hN eL hT hR hBw hzl
    go_wp2
    go_ret
    rw [← HE.out.2.2]
    exact ⟨q, g, tk, db, cp, cpa, n, rfl, by omega, by omega, by omega, by omega, HE.out.1, HE.out.2.1⟩
 ·go_simp
  obtain ⟨db, hdbe⟩ : ∃ db, db = w.heap.size + 1 := ⟨_, rfl⟩
  obtain ⟨w2, hw2⟩ : ∃ w2, w2 = (W.alloc (.cells (List.replicate n (Value.bool false)).toArray 4)).drew := ⟨_, rfl⟩
  have hb2 : Below W.heap.size W w2 := by rw [hw2]; exact ((Below.refl _ _).alloc (Nat.le_refl _) _).drew
  have hs2 : w2.heap.size = w.heap.size + 2 := by rw [hw2]; simp [hws]
  have hS1 : (fun w' : World => w'.cell? ⟨w.heap.size, 0, none⟩ = some (.slice A n c)) w2 := (hb2.cell (p := ⟨w.heap.size, 0, none⟩) (show w.heap.size < W.heap.size by omega)).trans s0
  have hD2 : w2.heap[db]? = some (boolBlk (List.replicate n false)) := by rw [hdbe, hw2, ← hws]; unfold boolBlk; rw [List.map_replicate]; exact heap_alloc_new W _
  have hB2 : Below w.heap.size w w2 := below_step HBW.out hb2
  simp only [List.toArray_replicate] at hw2
  refine hK.out _ _ (by rw [← hw2]; exact hS1) ?_
  rw [← hw2, ← hdbe]
  have hdb2 : w.heap.size < db ∧ db < w2.heap.size := by omega
  clear hK K hw2 hdbe
  refine held_one 1 rfl (by kernel_rfl) (by rfl) (fun K hK => ?_)
  go_simp
  go_at_call 62
  have hC := hA.out w2 hB2
  rw [hn] at hC
  refine hC.mono ?_
  rintro e w3 ⟨g, cp, rfl, hg1, hg2, hfr3, hb3⟩
  have hs3 := hb3.size
  have hS3 : (fun w' : World => w'.cell? ⟨w.heap.size, 0, none⟩ = some (.slice A n c)) w3 := (hb3.cell (p := ⟨w.heap.size, 0, none⟩) (show w.heap.size < w2.heap.size by omega)).trans hS1
  have hD : w3.heap[db]? = some (boolBlk (List.replicate n false)) := (hb3.block db (by omega)).trans hD2
  have hB3 : Below w.heap.size w w3 := below_step hB2 hb3
  have hfin : w.heap.size < g ∧ g < w3.heap.size ∧ w.heap.size < db ∧ db < w3.heap.size ∧ g ≠ db := by omega
  refine hK.out _ _ hS3 ?_
  clear hK K hb3 hs3 hS1 hb2 hD2 hB2 hg1 hg2 hC hs2 hdb2
  refine held_takeK (v := ?_) 6 11 rfl rfl ⟨by rfl, ?_⟩ hS3 ?_
  rotate_left
  ·intro w' hw'; have x0 := hw'; go_simp; (try with_reducible rfl)
  simp only [Act.put, pzA, pzB, pzC]
  refine held_one 7 rfl (by kernel_rfl) (by rfl) (fun K hK => ?_)
  go_simp
  have hS4 : (fun w' : World => w'.cell? ⟨w.heap.size, 0, none⟩ = some (.slice A n c)) (w3.alloc (.cells #[.slice (some ⟨g, 0, none⟩) (frees ns).length cp, .slice none 0 0, .slice (some ⟨db, 0, none⟩) n n] 121)) := by
   have hbq := (Below.refl w3.heap.size w3).alloc (Nat.le_refl _) (.cells #[.slice (some ⟨g, 0, none⟩) (frees ns).length cp, .slice none 0 0, .slice (some ⟨db, 0, none⟩) n n] 121)
   exact (hbq.cell (p := ⟨w.heap.size, 0, none⟩) (show w.heap.size < w3.heap.size by omega)).trans hS3
  refine hK.out _ _ hS4 ?_
  clear hK K
  refine held_takeK (v := ?_) 8 3 rfl rfl ⟨by rfl, ?_⟩ hS4 ?_
  rotate_left
  ·intro w' hw'; have x0 := hw'; go_simp; (try with_reducible rfl)
  simp only [Act.put, pzA, pzB, pzC]
  refine wpAnyH_done (by kernel_rfl) ?_ _
  go_simp
  obtain ⟨q, hq⟩ : ∃ q, q = w3.heap.size := ⟨_, rfl⟩
  obtain ⟨w4, hw4⟩ : ∃ w4, w4 = w3.alloc (.cells #[.slice (some ⟨g, 0, none⟩) (frees ns).length cp, .slice none 0 0, .slice (some ⟨db, 0, none⟩) n n] 121) := ⟨_, rfl⟩
  have hb4 : Below w3.heap.size w3 w4 := by rw [hw4]; exact (Below.refl _ _).alloc (Nat.le_refl _) _
  have hq4 : w4.heap[q]? = some (.cells #[.slice (some ⟨g, 0, none⟩) (frees ns).length cp, .slice none 0 0, .slice (some ⟨db, 0, none⟩) n n] 121 (0, 0)) := by rw [hq, hw4]; exact heap_alloc_new w3 _
  have hb4w := Lib.hid hb4
  have hs4 : w4.heap.size = q + 1 := by rw [hw4, hq]; simp
  rw [← hw4, ← hq]
  rw [← hq] at hfin
  have hg3 : g < w3.heap.size := by omega
  clear hb4
  have hfow := fsOk hfo.out.1
  obtain ⟨L, hL⟩ : ∃ L, L = frees ns := ⟨_, rfl⟩
  obtain ⟨N, hN⟩ : ∃ N, N = L.length := ⟨_, rfl⟩
  rw [← hL, ← hN] at hq4
  rw [← hL] at hfr3
  rw [← hL, ← hN]
  have hN1 : 0 < N ∧ N ≤ 1000 := by rw [hN, hL]; exact ⟨hfow.pos, hfow.few⟩
  have H := Lib.hid (And.intro hL (And.intro hN (And.intro hfr3 (And.intro hfow (And.intro hD (And.intro hB3 hq))))))
  clear hw4 hS3 hS4 hD hfr3 hB3 hq hfow hL hN
  obtain ⟨j0, hi, hz0, hz1, hz2⟩ := info_parts info_free
  refine ‹∀ (a : Act) (w : World), _ → _› _ _ ?_
  go_wp2
  go_loopw [4] (fun i wr => ∃ (k : Nat) (A1 : Option Addr) (cpa : Nat), i = .int .i64 k ∧ k ≤ N ∧ Below q w4 wr ∧ q + 1 ≤ wr.heap.size ∧ wr.heap[q]? = some (.cells #[.slice (some ⟨g, 0, none⟩) N cp, .slice A1 k cpa, .slice (some ⟨db, 0, none⟩) n n] 121 (0, 0)) ∧ wr.ownsRow (q + 1) 144 4 (.slice A1 k cpa) k ((PM.zero (L.take k)).flatMap frC)) (fun i _ => N - (intOf i).toNat)
  case atStart => exact ⟨0, none, 0, rfl, by omega, Below.refl _ _, by omega, hq4, World.ownsRow_nil _ _ _ _⟩
  case round =>
   obtain ⟨k, A1, cpa, rfl, hk, hBl, hqs, hqb, hown⟩ := hrel
   obtain ⟨hL, hN, hfr3, hfo3, hD, hB3, hq⟩ := H.out
   have z0 := cell_blk (i := 0) hqb rfl
   have z1 := cell_blk (i := 1) hqb rfl
   have zf : wr.frozen? ⟨q, 1, none⟩ = false := frozen_blk hqb
   by_cases hlt : k < N
   ·obtain ⟨f, hf⟩ := get_lt (l := L) (k := k) (by omega)
    obtain ⟨fn, fd, _, _⟩ := ((hfr3 k f hf).keep hg3 hb4w.out).keep hfin.2.1 hBl
    have t0 : decide (k < N) = true := decide_eq_true hlt
    have hnx := take_next hf
    have HN := Lib.hid (And.intro hnx (And.intro hBl hqb))
    have hqg : q ≠ g := by omega
    have hon : (Value.slice A1 k cpa).ownBlock ≠ some q := fun e => by have := (hown.lt _ e).1; omega
    have hog : (Value.slice A1 k cpa).ownBlock ≠ some g := fun e => by have := (hown.lt _ e).1; omega
    clear hL hN hfr3 hfo3 hD hB3 hq hqb hf hnx hBl
    go_wp2
    refine wp_until (fun w' : World => w'.cell? ⟨q, 0, none⟩ = some (.slice (some ⟨g, 0, none⟩) N cp) ∧ w'.cell? ⟨q, 1, none⟩ = some (.slice A1 k cpa) ∧ w'.cell? ⟨g, k * 4, none⟩ = some (.int .i64 (f.n : Nat)) ∧ w'.cell? ⟨g, k * 4 + 1, none⟩ = some (.int .i64 (f.d : Nat))) 18 (by kernel_rfl) ?_
    have hS : (fun w' : World => w'.cell? ⟨q, 0, none⟩ = some (.slice (some ⟨g, 0, none⟩) N cp) ∧ w'.cell? ⟨q, 1, none⟩ = some (.slice A1 k cpa) ∧ w'.cell? ⟨g, k * 4, none⟩ = some (.int .i64 (f.n : Nat)) ∧ w'.cell? ⟨g, k * 4 + 1, none⟩ = some (.int .i64 (f.d : Nat))) wr.drew := ⟨z0, z1, fn, fd⟩
    have fz4 : wr.drew.frozen? ⟨q, 1, none⟩ = false := zf
    have hown4 := hown.drew
    have hs5 : q + 1 ≤ wr.drew.heap.size := hqs
    have HW5 : Hid (wr.drew.heap = wr.heap ∧ wr.drew.os = wr.os ∧ wr.drew.tape = wr.tape ∧ wr.drew.output = wr.output) := Lib.hid ⟨rfl, rfl, rfl, rfl⟩
    clear z0 z1 fn fd zf hown
    generalize wr.drew = w5 at hS fz4 hown4 hs5 HW5 ⊢
    refine until_take (v := ?_) 0 22 rfl rfl (by kernel_rfl) (by kernel_rfl) (by kernel_rfl) (by kernel_rfl) (fun _ _ _ h => h) ⟨by rfl, ?_⟩ hS ?_
    rotate_left
    ·intro w' hw'; obtain ⟨x0, x1, x2, x3⟩ := hw'; go_simp; (try with_reducible rfl)
    simp only [Act.put, pzA, pzB, pzC]
    refine until_take (v := ?_) 1 23 rfl rfl (by kernel_rfl) (by kernel_rfl) (by kernel_rfl) (by kernel_rfl) (fun _ _ _ h => h) ⟨by rfl, ?_⟩ hS ?_
    rotate_left
    ·intro w' hw'; obtain ⟨x0, x1, x2, x3⟩ := hw'; go_simp; (try with_reducible rfl)
    simp only [Act.put, pzA, pzB, pzC]
    refine until_take (v := ?_) 2 24 rfl rfl (by kernel_rfl) (by kernel_rfl) (by kernel_rfl) (by kernel_rfl) (fun _ _ _ h => h) ⟨by rfl, ?_⟩ hS ?_
    rotate_left
    ·intro w' hw'; obtain ⟨x0, x1, x2, x3⟩ := hw'; go_simp; (try with_reducible rfl)
    simp only [Act.put, pzA, pzB, pzC]
    refine until_take (v := ?_) 3 25 rfl rfl (by kernel_rfl) (by kernel_rfl) (by kernel_rfl) (by kernel_rfl) (fun _ _ _ h => h) ⟨by rfl, ?_⟩ hS ?_
    rotate_left
    ·intro w' hw'; obtain ⟨x0, x1, x2, x3⟩ := hw'; go_simp; (try with_reducible rfl)
    simp only [Act.put, pzA, pzB, pzC]
    refine until_take (v := ?_) 4 26 rfl rfl (by kernel_rfl) (by kernel_rfl) (by kernel_rfl) (by kernel_rfl) (fun _ _ _ h => h) ⟨by rfl, ?_⟩ hS ?_
    rotate_left
    ·intro w' hw'; obtain ⟨x0, x1, x2, x3⟩ := hw'; go_simp; (try with_reducible rfl)
    simp only [Act.put, pzA, pzB, pzC]
    refine until_take (v := ?_) 5 27 rfl rfl (by kernel_rfl) (by kernel_rfl) (by kernel_rfl) (by kernel_rfl) (fun _ _ _ h => h) ⟨by rfl, ?_⟩ hS ?_
    rotate_left
    ·intro w' hw'; obtain ⟨x0, x1, x2, x3⟩ := hw'; go_simp; (try with_reducible rfl)
    simp only [Act.put, pzA, pzB, pzC]
    refine until_take (v := ?_) 6 28 rfl rfl (by kernel_rfl) (by kernel_rfl) (by kernel_rfl) (by kernel_rfl) (fun _ _ _ h => h) ⟨by rfl, ?_⟩ hS ?_
    rotate_left
    ·intro w' hw'; obtain ⟨x0, x1, x2, x3⟩ := hw'; go_simp; (try with_reducible rfl)
    simp only [Act.put, pzA, pzB, pzC]
    refine until_take (v := ?_) 7 29 rfl rfl (by kernel_rfl) (by kernel_rfl) (by kernel_rfl) (by kernel_rfl) (fun _ _ _ h => h) ⟨by rfl, ?_⟩ hS ?_
    rotate_left
    ·intro w' hw'; obtain ⟨x0, x1, x2, x3⟩ := hw'; go_simp; (try with_reducible rfl)
    simp only [Act.put, pzA, pzB, pzC]
    refine until_take (v := ?_) 8 30 rfl rfl (by kernel_rfl) (by kernel_rfl) (by kernel_rfl) (by kernel_rfl) (fun _ _ _ h => h) ⟨by rfl, ?_⟩ hS ?_
    rotate_left
    ·intro w' hw'; obtain ⟨x0, x1, x2, x3⟩ := hw'; go_simp; (try with_reducible rfl)
    simp only [Act.put, pzA, pzB, pzC]
    refine until_take (v := ?_) 9 31 rfl rfl (by kernel_rfl) (by kernel_rfl) (by kernel_rfl) (by kernel_rfl) (fun _ _ _ h => h) ⟨by rfl, ?_⟩ hS ?_
    rotate_left
    ·intro w' hw'; obtain ⟨x0, x1, x2, x3⟩ := hw'; go_simp; (try with_reducible rfl)
    simp only [Act.put, pzA, pzB, pzC]
    refine until_take (v := ?_) 10 32 rfl rfl (by kernel_rfl) (by kernel_rfl) (by kernel_rfl) (by kernel_rfl) (fun _ _ _ h => h) ⟨by rfl, ?_⟩ hS ?_
    rotate_left
    ·intro w' hw'; obtain ⟨x0, x1, x2, x3⟩ := hw'; go_simp; (try with_reducible rfl)
    simp only [Act.put, pzA, pzB, pzC]
    refine until_take (v := ?_) 11 33 rfl rfl (by kernel_rfl) (by kernel_rfl) (by kernel_rfl) (by kernel_rfl) (fun _ _ _ h => h) ⟨by rfl, ?_⟩ hS ?_
    rotate_left
    ·intro w' hw'; obtain ⟨x0, x1, x2, x3⟩ := hw'; go_simp; (try with_reducible rfl)
    simp only [Act.put, pzA, pzB, pzC]
    refine until_take (v := ?_) 12 34 rfl rfl (by kernel_rfl) (by kernel_rfl) (by kernel_rfl) (by kernel_rfl) (fun _ _ _ h => h) ⟨by rfl, ?_⟩ hS ?_
    rotate_left
    ·intro w' hw'; obtain ⟨x0, x1, x2, x3⟩ := hw'; go_simp; (try with_reducible rfl)
    simp only [Act.put, pzA, pzB, pzC]
    refine until_take (v := ?_) 13 35 rfl rfl (by kernel_rfl) (by kernel_rfl) (by kernel_rfl) (by kernel_rfl) (fun _ _ _ h => h) ⟨by rfl, ?_⟩ hS ?_
    rotate_left
    ·intro w' hw'; obtain ⟨x0, x1, x2, x3⟩ := hw'; go_simp; (try with_reducible rfl)
    simp only [Act.put, pzA, pzB, pzC]
    refine until_one 14 rfl (by kernel_rfl) rfl (fun K hK => ?_)
    go_simp
    have hst := (Below.refl w5.heap.size w5).alloc (Nat.le_refl _) (.cells #[.int .i64 (f.n : Nat), .int .i64 (f.d : Nat), .int .u64 0, .int .i64 0] 144)
    have hS4 : (fun w' : World => w'.cell? ⟨q, 0, none⟩ = some (.slice (some ⟨g, 0, none⟩) N cp) ∧ w'.cell? ⟨q, 1, none⟩ = some (.slice A1 k cpa) ∧ w'.cell? ⟨g, k * 4, none⟩ = some (.int .i64 (f.n : Nat)) ∧ w'.cell? ⟨g, k * 4 + 1, none⟩ = some (.int .i64 (f.d : Nat))) (w5.alloc (.cells #[.int .i64 (f.n : Nat), .int .i64 (f.d : Nat), .int .u64 0, .int .i64 0] 144)) :=
     ⟨(hst.cell (p := ⟨q, 0, none⟩) (show q < _ by omega)).trans hS.1, (hst.cell (p := ⟨q, 1, none⟩) (show q < _ by omega)).trans hS.2.1, (hst.cell (p := ⟨g, k * 4, none⟩) (show g < _ by omega)).trans hS.2.2.1, (hst.cell (p := ⟨g, k * 4 + 1, none⟩) (show g < _ by omega)).trans hS.2.2.2⟩
    refine hK.out _ _ (fun _ => hS4) ?_
    clear hK K
    refine until_one 15 rfl (by kernel_rfl) rfl (fun K hK => ?_)
    simp only [Go.wp_at_zero, Go.wp_at_succ]
    refine wp_append_lies _ _ _ 111 rfl (q + 1) 144 j0 _ 4 32 Tryz.underlying111 hi hz0 hz1 hz2 rfl (by omega) (.slice A1 k cpa) k ((PM.zero (L.take k)).flatMap frC) rfl (hown4.alloc _) ⟨w5.heap.size, 0, none⟩ 1 1 [.int .i64 (f.n : Nat), .int .i64 (f.d : Nat), .int .u64 0, .int .i64 0] rfl rfl (World.news_of_block (cs := #[.int .i64 (f.n : Nat), .int .i64 (f.d : Nat), .int .u64 0, .int .i64 0]) (t := 144) (fr := (0, 0)) (heap_alloc_new w5 _)) (by simp [Value.oneCell']) (by omega) (by unfold maxLen; omega) (by omega) (by simp; omega) (w5.heap.size + 1) (by simp) ?_
    intro gg cap' v3 hown3 hgrow hat hlt5
    have hS3 : (fun w' : World => w'.cell? ⟨q, 0, none⟩ = some (.slice (some ⟨g, 0, none⟩) N cp) ∧ w'.cell? ⟨q, 1, none⟩ = some (.slice A1 k cpa) ∧ w'.cell? ⟨g, k * 4, none⟩ = some (.int .i64 (f.n : Nat)) ∧ w'.cell? ⟨g, k * 4 + 1, none⟩ = some (.int .i64 (f.d : Nat))) v3 :=
     ⟨(hgrow.cell_far _ (by simp; omega) (Ne.symm hon)).trans hS4.1, (hgrow.cell_far _ (by simp; omega) (Ne.symm hon)).trans hS4.2.1, (hgrow.cell_far _ (by simp; omega) (Ne.symm hog)).trans hS4.2.2.1, (hgrow.cell_far _ (by simp; omega) (Ne.symm hog)).trans hS4.2.2.2⟩
    have g4 := hS3.2.1
    have g5 : v3.frozen? ⟨q, 1, none⟩ = false := (hgrow.frozen_far ⟨q, 1, none⟩ (by simp; omega) (Ne.symm hon)).trans ((hst.frozen (p := ⟨q, 1, none⟩) (show q < _ by omega)).trans fz4)
    refine hK.out _ _ (fun _ => hS3) ?_
    clear hK K
    simp only [Act.put, pzA, pzB, pzC]
    refine until_one 16 rfl (by kernel_rfl) rfl (fun K hK => ?_)
    go_simp
    refine hK.out _ _ (fun _ => hS3) ?_
    clear hK K
    refine until_one 17 rfl (by kernel_rfl) rfl (fun K hK => ?_)
    go_simp
    refine hK.out _ _ (fun _ => hS3) ?_
    clear hK K
    refine until_one 18 rfl (by kernel_rfl) rfl (fun K hK => ?_)
    go_simp
    refine hK.out _ _ (fun h => absurd h (by decide)) ?_
    clear hK K
    refine until_done (by kernel_rfl) ?_
    obtain ⟨hnx, hBl, hqb⟩ := HN.out
    obtain ⟨e1, e2, e3, e4⟩ := HW5.out
    have hgb : v3.heap[q]? = wr.heap[q]? := by
     rw [← e1]
     exact (hgrow.block q (by simp; omega) (Ne.symm hon)).trans (Below.heap_alloc w5 _ q (by omega))
    have hbq : (v3.setCell ⟨q, 1, none⟩ (.slice (some ⟨gg, 0, none⟩) (k + 1) cap')).heap[q]? = some (.cells #[.slice (some ⟨g, 0, none⟩) N cp, .slice (some ⟨gg, 0, none⟩) (k + 1) cap', .slice (some ⟨db, 0, none⟩) n n] 121 (0, 0)) := blk_put _ (hgb.trans hqb)
    have hB5 : Below q w4 w5 := ⟨e2.trans hBl.os, e3.trans hBl.tape, e4.trans hBl.output, by rw [e1]; exact hBl.size, fun j hj => by rw [e1]; exact hBl.block j hj⟩
    have hB7 : Below q w4 (v3.setCell ⟨q, 1, none⟩ (.slice (some ⟨gg, 0, none⟩) (k + 1) cap')) := ((hB5.alloc (by omega) _).grown hgrow (by simp; omega) (fun j e => by have := (hown4.lt j e).1; omega)).setCell (Nat.le_refl _) _
    have hgl := hgrow.size
    simp at hgl
    have hggq : gg ≠ q := by
     rcases hat with hat | hat
     ·rintro rfl; exact hon hat
     ·omega
    have hown7 : (v3.setCell ⟨q, 1, none⟩ (.slice (some ⟨gg, 0, none⟩) (k + 1) cap')).ownsRow (q + 1) 144 4 (.slice (some ⟨gg, 0, none⟩) (k + 1) cap') (k + 1) ((PM.zero (L.take (k + 1))).flatMap frC) := by
     refine own_same (W := v3) ?_ (fun j e => Below.heap_setCell _ _ _ _ (by rw [← (show gg = j by simpa [Value.ownBlock] using e)]; exact hggq))
     rw [hnx]
     have e3 : (PM.zero (L.take k ++ [f])).flatMap frC = (PM.zero (L.take k)).flatMap frC ++ [.int .i64 (f.n : Nat), .int .i64 (f.d : Nat), .int .u64 0, .int .i64 0] := by simp [PM.zero, frC]
     rw [e3]
     exact hown3
    have hs7 : q + 1 ≤ (v3.setCell ⟨q, 1, none⟩ (.slice (some ⟨gg, 0, none⟩) (k + 1) cap')).heap.size := by simp; omega
    have HE := Lib.hid (And.intro hbq (And.intro hB7 (And.intro hown7 hs7)))
    clear hnx hBl hqb e1 e2 e3 e4 hgb hbq hB5 hB7 hgl hggq hown7 hs7 hS3 hS4 hst g4 g5 hS fz4 hown4 hown3 hgrow hat hlt5
    go_wp2
    go_roundw
    case rel => exact ⟨k + 1, some ⟨gg, 0, none⟩, cap', by go_num, by omega, HE.out.2.1, HE.out.2.2.2, HE.out.1, HE.out.2.2.1⟩
    case measure => simp [intOf]; omega
   ·obtain rfl : k = N := by omega
    have eL : L.take k = L := by rw [hN]; exact List.take_length
    rw [eL] at hown
    obtain ⟨tk, ct, ev, htB, htl⟩ := hown.form hN1.1
    cases ev
    have hzl : (PM.zero L).length = k := by rw [hN]; simp [PM.zero]
    have hT : TakenAt wr tk (PM.zero L) := by
     have hown9 := hown
     rw [← hzl] at hown9
     exact (TakenAt.of_own hown9).1
    have hBw : Below w.heap.size w wr := hB3.trans ((hb4w.out.mono (by omega)).trans (hBl.mono (by omega)))
    have hR : RefAt wr q g tk db cp cpa n L (PM.zero L) (List.replicate n false) := by
     refine ⟨?_, PM.zero_inv L, ?_, ?_, hT, ?_, by omega⟩
     ·rw [List.length_replicate, hL, ← hn]; exact hfo3
     ·rw [List.length_replicate, ← hN]; exact hqb
     ·exact fun i f hf => ((hfr3 i f hf).keep hg3 hb4w.out).keep hfin.2.1 hBl
     ·exact DrBlk.of_eq (((hBl.block db hfin.2.2.2.1).trans (hb4w.out.block db (by omega))).trans hD)
    have HE := Lib.hid (And.intro hR (And.intro hBw hL))
    clear hfr3 hfo3 hD hB3 hq hqb hBl hown hL hN eL hT hR hBw hzl
    go_wp2
    go_ret
    rw [← HE.out.2.2]
    exact ⟨q, g, tk, db, cp, cpa, n, rfl, by omega, by omega, by omega, by omega, HE.out.1, HE.out.2.1⟩
end Go.Proofs.YtgpfmlidchogcaaGreat

namespace Go.Proofs.YtgpfmlidchogcaaGreat
open Go.RowKit

section
variable {P : Program} {ops : Array Oper} {Q : Exit → Act → World → Prop} {md : Region.Mode} {S S' : World → Prop}
end
structure Both (w : World) (T : Nat → Prop) (p g dm q al tk db ca ct cd : Nat) (fs : List Fr) (sa sb : List Fr × List Bool) : Prop where
 a : PoolAt w T p g dm fs sa.1 sa.2
 b : RefAt w q al tk db ca ct cd fs sb.1 sb.2
 off : ∀ i, (i = q ∨ i = al ∨ i = tk ∨ i = db) → ¬ T i ∧ i ≠ p ∧ i ≠ g ∧ i ≠ dm
section
variable {w w' : World} {T : Nat → Prop} {p g g' dm q al tk tk' db ca ct ct' cd : Nat} {fs : List Fr} {sa sa' sb sb' : List Fr × List Bool}
theorem Both.keep (h : Both w T p g dm q al tk db ca ct cd fs sa sb) (hk : Below w.heap.size w w') : Both w' T p g dm q al tk db ca ct cd fs sa sb := ⟨h.a.keep hk, h.b.keep hk, h.off⟩
theorem Both.made {w0 : World} (ha : PoolAt w T p g dm fs sa.1 sa.2) (hw : Below w.heap.size w w0) (hb : RefAt w' q al tk db ca ct cd fs sb.1 sb.2) (hk : Below w0.heap.size w0 w')
  (h1 : w0.heap.size ≤ q) (h2 : w0.heap.size ≤ al) (h3 : w0.heap.size ≤ tk) (h4 : w0.heap.size ≤ db) : Both w' T p g dm q al tk db ca ct cd fs sa sb := by
 have hl := ha.lt
 have hs := hw.size
 refine ⟨(ha.keep hw).keep hk, hb, ?_⟩
 rintro i (rfl | rfl | rfl | rfl) <;> exact ⟨fun hT => by have := ha.old _ hT; omega, by omega, by omega, by omega⟩
end
theorem reffree_row (q al tk db ca ct cd : Nat) (fs ts : List Fr) (dr : List Bool) (w : World) (h : RefAt w q al tk db ca ct cd fs ts dr) :
  Calls Tryz.prog 42 #[.pointer (some ⟨q, 0, none⟩)] w fun e w' => ∃ A c, e = .returned (.slice A (PM.free fs ts).length c) ∧ Frees w' w'.heap.size A (PM.free fs ts) ∧ Below w.heap.size w w' :=
 (reffree_any q al tk db ca ct cd fs ts dr w h).mono fun e w' hh => by
  obtain ⟨v, rfl, ho, hb⟩ := hh
  rw [← PM.free_len h.inv] at ho
  obtain ⟨A, c, rfl, hr⟩ := own_rows ho
  exact ⟨A, c, rfl, hr, hb⟩
theorem refview_row (q al tk db ca ct cd : Nat) (fs ts : List Fr) (dr : List Bool) (w : World) (h : RefAt w q al tk db ca ct cd fs ts dr) :
  Calls Tryz.prog 44 #[.pointer (some ⟨q, 0, none⟩)] w fun e w' => ∃ A c, e = .returned (.slice A (PM.view fs ts dr).length c) ∧ Frees w' w'.heap.size A (PM.view fs ts dr) ∧ Below w.heap.size w w' :=
 (refview_any q al tk db ca ct cd fs ts dr w h).mono fun e w' hh => by
  obtain ⟨v, rfl, ho, hb⟩ := hh
  obtain ⟨A, c, rfl, hr⟩ := own_rows ho
  exact ⟨A, c, rfl, hr, hb⟩
end Go.Proofs.YtgpfmlidchogcaaGreat
