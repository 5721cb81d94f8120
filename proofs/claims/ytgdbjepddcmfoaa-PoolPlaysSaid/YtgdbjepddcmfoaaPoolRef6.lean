/- The document's pool: Do, Act. -/
import Derived.Deep.AppendLies
import Derived.Test.YtgdbjepddcmfoaaPoolRef4
import Derived.Test.YtgdbjepddcmfoaaPoolRef5
namespace Go.Proofs.Ytgdbjepddcmfoaa
open Go.RowKit

theorem refone_any (give : Bool) (q al tk db ca ct cd : Nat) (fs ts : List Fr) (dr : List Bool) (s : PM.Sl) (w : World) (h : RefAt w q al tk db ca ct cd fs ts dr) (hs : SlOk s) :
    Calls Try.prog 40 #[.pointer (some ⟨q, 0, none⟩), .bool give, slV s] w fun e w' => e = .returned (.int .i64 (PM.one fs dr give s ts).1) ∧ RefAt w' q al tk db ca ct cd fs (PM.one fs dr give s ts).2 dr ∧ Foot (· = tk) w w' := by
  cases give
  · exact reftake q al tk db ca ct cd fs ts dr s w h hs
  · exact refgive q al tk db ca ct cd fs ts dr s w h hs
theorem TakenAt.of_own {w : World} {B g cap : Nat} {ts : List Fr} (h : w.ownsRow B 62 4 (.slice (some ⟨g, 0, none⟩) ts.length cap) ts.length (ts.flatMap frC)) : TakenAt w g ts ∧ B ≤ g ∧ g < w.heap.size := by
  refine ⟨?_, h.lt g rfl⟩
  rcases h.2 with ⟨e, _⟩ | ⟨g', cap', cur, e, _, hg, _, _, _, ht⟩
  · cases e
  · cases e
    refine ⟨cur, hg, fun j v hj => ?_⟩
    rw [← ht, List.getElem?_take] at hj
    split at hj
    · simpa using hj
    · cases hj
theorem TakenAt.of_block {w w' : World} {tk : Nat} {ts : List Fr} (h : TakenAt w tk ts) (e : w'.heap[tk]? = w.heap[tk]?) : TakenAt w' tk ts := by
  obtain ⟨cur, h1, h2⟩ := h
  exact ⟨cur, e.trans h1, h2⟩
theorem own_empty (w : World) (t : TypeId) : (w.alloc (.cells #[] t)).ownsRow w.heap.size t 4 (.slice (some ⟨w.heap.size, 0, none⟩) 0 0) 0 [] :=
  ⟨rfl, .inr ⟨w.heap.size, 0, #[], rfl, Nat.le_refl _, heap_alloc_new w _, Nat.le_refl _, Nat.zero_le _, rfl, rfl⟩⟩
/-- What was taken is laid back. -/
theorem RefAt.laid {w w1 w' : World} {q al tk tk' db ca ct ct' cd : Nat} {fs ts tc : List Fr} {dr : List Bool} (h0 : RefAt w q al tk db ca ct cd fs ts dr) (h : RefAt w1 q al tk db ca ct cd fs tc dr) (hg : w.heap.size ≤ tk') (hr : TakenAt w1 tk' ts)
    (e : w' = w1.setCell ⟨q, 1, none⟩ (.slice (some ⟨tk', 0, none⟩) fs.length ct')) : RefAt w' q al tk' db ca ct' cd fs ts dr := by
  obtain ⟨l1, l2, l3, l4⟩ := h0.lt
  obtain ⟨n1, n2, n3, n4, n5, n6⟩ := h0.ne
  have hl : ∀ j, j ≠ q → w'.heap[j]? = w1.heap[j]? := fun j hj => by rw [e]; exact Below.heap_setCell _ _ _ _ hj
  refine ⟨h.ok, h0.inv, ?_, fun i f hf => (h.all i f hf).of (hl al (Ne.symm n1)), hr.of_block (hl tk' (by omega)), (hl db (Ne.symm n3)).trans h.drained, by omega, by omega, n3, by omega, n5, by omega⟩
  rw [e]; exact blk_put _ h.blk
set_option maxRecDepth 100000 in
set_option maxHeartbeats 2000000 in
theorem refdo_any (give : Bool) (q al tk db ca ct cd : Nat) (fs ts : List Fr) (dr : List Bool) (A : Option Addr) (cap : Nat) (l : List PM.Sl) (w : World) (h : RefAt w q al tk db ca ct cd fs ts dr)
    (hs : ∀ s ∈ l, SlOk s) (hl : Slots w w.heap.size A l) (hA : l ≠ [] → Off A (· = tk)) (hn : l.length ≤ maxLen) :
    Calls Try.prog 26 #[.pointer (some ⟨q, 0, none⟩), .bool give, .slice A l.length cap] w fun e w' =>
      e = .returned (.int .i64 (PM.whole fs dr give l ts).1) ∧ ∃ tk' ct', RefAt w' q al tk' db ca ct' cd fs (PM.whole fs dr give l ts).2 dr ∧ Foot (fun i => i = q ∨ i = tk) w w' ∧ (tk' = tk ∨ w.heap.size ≤ tk') := by
  obtain ⟨R, hR⟩ : ∃ R, R = PM.whole fs dr give l ts := ⟨_, rfl⟩
  rw [← hR]
  have HP := Lib.hid h
  obtain ⟨_, c1, _⟩ := h.heads
  obtain ⟨l1, l2, l3, l4⟩ := h.lt
  obtain ⟨n1, n2, n3, n4, n5, n6⟩ := h.ne
  obtain ⟨m, hm⟩ : ∃ m, fs.length = m := ⟨_, rfl⟩
  have htl : ts.length = m := by rw [h.inv.1]; exact hm
  have hm1 : 0 < m ∧ m ≤ 1000 := by rw [← hm]; exact ⟨h.ok.pos, h.ok.few⟩
  have hcells : ∀ j u, (ts.flatMap frC)[j]? = some u → (w.alloc (.cells #[] 62)).cell? ((⟨tk, 0, none⟩ : Addr).add j) = some u := fun j u hj => by
    obtain ⟨cur, h1, h2⟩ := h.taken
    rw [Addr.add_lit]
    refine cell_blk ((Below.heap_alloc w _ tk l3).trans h1) ?_
    rw [Nat.zero_add]; exact h2 j u hj
  obtain ⟨n, hln⟩ : ∃ n, l.length = n := ⟨_, rfl⟩
  have hone := Lib.hid (fun (tc : List Fr) (s : PM.Sl) (W : World) (hW : RefAt W q al tk db ca ct cd fs tc dr) (hs : SlOk s) => refone_any give q al tk db ca ct cd fs tc dr s W hW hs)
  obtain ⟨i0, hi, hz0, hz1, hz2⟩ := info_parts info_free
  have H := Lib.hid (And.intro hR (And.intro hs (And.intro hl (And.intro hA (And.intro hln (And.intro hm (And.intro htl hcells)))))))
  rw [hm] at c1
  rw [hln] at hn ⊢
  unfold maxLen at hn
  clear hR h hs hl hA hln hm htl hcells
  go_enter Try.func26, Try.ntmps26
  go_wp2_with (first
    | (at_builtin; refine wpList_append_lies _ rfl _ _ 41 rfl w.heap.size 62 i0 _ 4 32 Try.underlying41 hi hz0 hz1 hz2 rfl (by decide) (.slice (some ⟨w.heap.size, 0, none⟩) 0 0) 0 [] rfl (own_empty w _) ⟨tk, 0, none⟩ m ct (ts.flatMap frC) rfl (by rw [frC_len, H.out.2.2.2.2.2.2.1]) H.out.2.2.2.2.2.2.2 (frC_one ts) hm1.1 (by unfold maxLen; omega) (by omega) (by simp) (w.heap.size + 1) (by simp) ?_; intro gg cap' w1 hown3 hgrow hat hlt3))
  have hb1 : Below w.heap.size w w1 := ((Below.refl w.heap.size w).alloc (Nat.le_refl _) _).grown hgrow (by simp) (fun k e => by have := e; simp [Value.ownBlock] at this; omega)
  have ho := hown3
  rw [Nat.zero_add, List.nil_append, ← H.out.2.2.2.2.2.2.1] at ho
  obtain ⟨hta, hgB, hgl⟩ := TakenAt.of_own ho
  have HB1 := Lib.hid hb1
  have HT := Lib.hid hta
  have hs1 : w.heap.size ≤ w1.heap.size := hb1.size
  clear hown3 hgrow hat hlt3 ho hta hb1 c1
  go_loopw [8] (fun i wr => ∃ k : Nat, i = .int .i64 k ∧ k ≤ n ∧ w1.heap.size ≤ wr.heap.size ∧ Hid (Foot (· = tk) w1 wr ∧ ∃ tc, RefAt wr q al tk db ca ct cd fs tc dr ∧ PM.many fs dr give (l.take k) ts = (0, tc))) (fun i _ => n - (intOf i).toNat)
  case atStart => exact ⟨0, rfl, by omega, Nat.le_refl _, Lib.hid ⟨Foot.refl _ _, ts, HP.out.keep HB1.out, rfl⟩⟩
  case round =>
    obtain ⟨k, rfl, hk, hsz, hin⟩ := hrel
    obtain ⟨hft, tc, hpk, hmk⟩ := hin.out
    by_cases hlt : k < n
    · obtain ⟨hR, hs, hl, hA, hln, _⟩ := H.out
      obtain ⟨s, hx⟩ := get_lt (l := l) (k := k) (by rw [hln]; exact hlt)
      obtain ⟨b, off, rfl, hb, hc⟩ := hl.at_ hx
      have hbg2 : b ≠ tk := hA (by rintro rfl; simp at hx) b off rfl
      have hbk : wr.heap[b]? = w.heap[b]? := (hft.block b (by omega) hbg2).trans (HB1.out.block b hb)
      obtain ⟨s0, s1, s2, s3⟩ := (hc k s hx).of hbk
      have hso := hs s (List.mem_of_getElem? hx)
      have t0 : decide (k < n) = true := by simpa using hlt
      have hO := Lib.hid (hone.out tc s wr hpk hso)
      have HA := Lib.hid (many_at hx hmk)
      obtain ⟨E, hE⟩ : ∃ E, E = PM.one fs dr give s tc := ⟨_, rfl⟩
      rw [← hE] at hO HA
      have HF := Lib.hid hft
      clear hR hs hl hA hln hx hc hbk hso hpk hmk hE hin hft
      obtain ⟨x, y, mm, c⟩ := s
      simp only [slV] at *
      by_cases he : E.1 = 0
      · have t1 : (E.1 != 0) = false := by rw [he]; rfl
        have HE := Lib.hid he
        clear he
        go_wp2_with (go_at_call 40; refine hO.out.mono ?_; rintro e w2 ⟨rfl, hp2, hf2⟩)
        have hs2 := hf2.size
        go_roundw
        case rel => exact ⟨k + 1, by go_num, by omega, by omega, Lib.hid ⟨HF.out.trans hf2 (fun i hi => .inl hi), E.2, hp2, HA.out.2 HE.out⟩⟩
        case measure => simp [intOf]; omega
      · have t1 : (E.1 != 0) = true := by simpa using he
        have HE := Lib.hid he
        clear he
        go_wp2_with (go_at_call 40; refine hO.out.mono ?_; rintro e w2 ⟨rfl, hp2, hf2⟩; have HP2 := Lib.hid hp2; have z1 : w2.frozen? ⟨q, 1, none⟩ = false := frozen_blk hp2.blk; have z2 : w2.cell? ⟨q, 1, none⟩ = some (.slice (some ⟨tk, 0, none⟩) fs.length ct) := hp2.heads.2.1; have HF2 := Lib.hid hf2; clear hp2 hf2)
        go_ret
        have eR : R = (E.1, ts) := by rw [H.out.1]; exact HA.out.1 HE.out
        subst eR
        have hrow : TakenAt w2 gg ts := HT.out.of_block ((HF2.out.block _ (by omega) (by omega)).trans (HF.out.block _ hgl (by omega)))
        have hm' := H.out.2.2.2.2.2.1
        refine ⟨rfl, gg, cap', HP.out.laid HP2.out hgB hrow (by rw [hm']), ?_, .inr hgB⟩
        have hf3 : Foot (fun i => i = q ∨ i = tk) w w2 := ((Foot.of_below HB1.out).trans (HF.out.trans HF2.out (fun i hi => .inl hi)) (fun i hi => .inl hi)).mono (fun i hi => .inr hi)
        exact hf3.setCell (p := ⟨q, 1, none⟩) (.inl (.inl rfl)) _
    · obtain rfl : k = n := by omega
      obtain ⟨hR, hs, hl, hA, hln, _⟩ := H.out
      rw [← hln, List.take_length] at hmk
      have e : R = (0, tc) := by rw [hR]; exact PM.whole_of_many hmk
      subst e
      have HF := Lib.hid (And.intro hft hpk)
      clear hR hs hl hA hln hmk hpk hft hin hlt
      go_wp2
      go_ret
      exact ⟨rfl, tk, ⟨ct, HF.out.2⟩, ((Foot.of_below HB1.out).trans HF.out.1 (fun i hi => .inl hi)).mono (fun i hi => .inr hi), .inl rfl⟩
end Go.Proofs.Ytgdbjepddcmfoaa
