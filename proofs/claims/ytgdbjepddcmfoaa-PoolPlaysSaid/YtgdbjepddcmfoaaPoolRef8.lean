/- The document's pool: Free. -/
import Derived.Deep.AppendLies
import Derived.StillTailTactics
import Derived.Test.YtgdbjepddcmfoaaPoolTell
import Derived.Test.YtgdbjepddcmfoaaPoolRef6
namespace Go.Proofs.Ytgdbjepddcmfoaa
open Go.RowKit

theorem own_same {W W' : World} {base : Nat} {e : TypeId} {size : Nat} {v : Value} {n : Nat} {xs : List Value} (h : W.ownsRow base e size v n xs) (hb : ∀ i, v.ownBlock = some i → W'.heap[i]? = W.heap[i]?) : W'.ownsRow base e size v n xs := by
  obtain ⟨h0, h1⟩ := h
  refine ⟨h0, ?_⟩
  rcases h1 with h1 | ⟨g, cap, cur, rfl, h2, h3, h4⟩
  · exact .inl h1
  · exact .inr ⟨g, cap, cur, rfl, h2, (hb g rfl).trans h3, h4⟩
set_option maxRecDepth 100000 in
set_option maxHeartbeats 4000000 in
theorem reffree_any (q al tk db ca ct cd : Nat) (fs ts : List Fr) (dr : List Bool) (w : World) (h : RefAt w q al tk db ca ct cd fs ts dr) :
    Calls Try.prog 13 #[.pointer (some ⟨q, 0, none⟩)] w fun e w' => ∃ v, e = .returned v ∧ w'.ownsRow w.heap.size 62 4 v fs.length ((PM.free fs ts).flatMap frC) ∧ Below w.heap.size w w' := by
  obtain ⟨L, hL⟩ : ∃ L, L = PM.free fs ts := ⟨_, rfl⟩
  rw [← hL]
  have hlen := PM.free_len h.inv
  have hfew := h.ok.few
  rw [← hL] at hlen
  obtain ⟨n, hn⟩ : ∃ n, fs.length = n := ⟨_, rfl⟩
  have HP := Lib.hid (And.intro h (And.intro hn (And.intro hL hlen)))
  rw [hn] at hlen hfew ⊢
  obtain ⟨l1, l2, l3, l4⟩ := h.lt
  obtain ⟨i0, hi, hz0, hz1, hz2⟩ := info_parts info_free
  clear h hL hn hlen
  go_enter Try.func13, Try.ntmps13
  go_wp2
  go_loopw [3, 4] (fun out i wr => ∃ (k : Nat) (A : Option Addr) (cp : Nat), i = .int .i64 k ∧ out = .slice A k cp ∧ k ≤ n ∧ Below w.heap.size w wr ∧ wr.ownsRow w.heap.size 62 4 (.slice A k cp) k ((L.take k).flatMap frC)) (fun _ i _ => n - (intOf i).toNat)
  case atStart => exact ⟨0, none, 0, rfl, rfl, by omega, Below.refl _ _, World.ownsRow_nil _ _ _ _⟩
  case round =>
    obtain ⟨k, A, cp, rfl, rfl, hk, hBl, hown⟩ := hrel
    have hBs := hBl.size
    obtain ⟨h0, hn, hL, hlen⟩ := HP.out
    have hr := h0.keep hBl
    obtain ⟨z0, z1, z2⟩ := hr.heads
    rw [hn] at z0 z1
    by_cases hlt : k < n
    · obtain ⟨f, hf⟩ := get_lt (l := fs) (k := k) (by omega)
      obtain ⟨t, ht⟩ := get_lt (l := ts) (k := k) (by rw [h0.inv.1]; omega)
      obtain ⟨j1, j2, j3, j4⟩ := h0.inv.2 k f t hf ht
      obtain ⟨k1, k2⟩ := h0.ok.ok f (List.mem_of_getElem? hf)
      obtain ⟨a0, a1, a2, a3⟩ := hr.all k f hf
      obtain ⟨_, _, b2, b3, _, _⟩ := hr.cells hf ht
      have hnx := take_next (show L[k]? = some (PM.freeOf f t) by rw [hL]; exact PM.free_at hf ht)
      have hsb := PM.sub_nat j3
      have t0 : decide (k < n) = true := by simpa using hlt
      have N := Lib.hid (And.intro hnx (And.intro hsb (And.intro j4 (And.intro k1 k2))))
      have hkt : t.m ≤ f.m := hsb.2
      have wm : IntKind.u64.wrap ((f.m : Int) - (t.m : Int)) = (f.m : Int) - t.m := IntWalk.u64_in _ (by omega)
      have wc : IntKind.i64.wrap ((f.c : Int) - (t.c : Int)) = (f.c : Int) - t.c := IntWalk.i64_in _ (by omega)
      have OW := Lib.hid hown
      have HB := Lib.hid hBl
      obtain ⟨W, hW⟩ : ∃ W, W = wr.alloc (.cells #[.int .i64 (f.n : Nat), .int .i64 (f.d : Nat), .int .u64 (f.m : Nat), .int .i64 (f.c : Nat)] 62) := ⟨_, rfl⟩
      have bF : W.heap[wr.heap.size]? = some (.cells #[.int .i64 (f.n : Nat), .int .i64 (f.d : Nat), .int .u64 (f.m : Nat), .int .i64 (f.c : Nat)] 62 (0, 0)) := by rw [hW]; exact heap_alloc_new wr _
      have hWs : W.heap.size = wr.heap.size + 1 := by rw [hW]; simp
      have kq : ∀ i, i < wr.heap.size → W.heap[i]? = wr.heap[i]? := fun i hi => by rw [hW]; exact Below.heap_alloc wr _ i hi
      have cW : ∀ (b o : Nat) (u : Value), b < wr.heap.size → wr.cell? ⟨b, o, none⟩ = some u → W.cell? ⟨b, o, none⟩ = some u := fun b o u hb hc => (World.cell?_of_block (kq b hb)).trans hc
      have lq : q < wr.heap.size := by omega
      have ltk : tk < wr.heap.size := by omega
      have c1 := cW q 1 _ lq z1
      have c2 := cW tk (k * 4 + 2) _ ltk b2
      have c3 := cW tk (k * 4 + 3) _ ltk b3
      have x2 : W.cell? ⟨wr.heap.size, 2, none⟩ = some (.int .u64 (f.m : Nat)) := cell_blk (i := 2) bF rfl
      have f2 : W.frozen? ⟨wr.heap.size, 2, none⟩ = false := frozen_blk bF
      have HW := Lib.hid hW
      have KQ := Lib.hid (And.intro kq (And.intro bF (And.intro c1 c3)))
      clear h0 hn hL hlen hr hf ht j1 j2 j3 j4 hnx hsb hown hBl hW kq cW bF c3
      go_wp2_with fail
      rw [← HW.out]
      clear z0 z1 z2 a0 a1 a2 a3 b2 b3
      go_still_tail 10, (by kernel_rfl)
      change wpList _ _ _ _ _ W.drew
      go_wp2
      obtain ⟨W5, hW5⟩ : ∃ W5, W5 = (W.setCell ⟨wr.heap.size, 2, none⟩ (.int .u64 ((f.m : Int) - (t.m : Int)))).drew := ⟨_, rfl⟩
      obtain ⟨kq, bF, c1w, c3w⟩ := KQ.out
      have b5 : W5.heap[wr.heap.size]? = some (.cells #[.int .i64 (f.n : Nat), .int .i64 (f.d : Nat), .int .u64 ((f.m : Int) - (t.m : Int)), .int .i64 (f.c : Nat)] 62 (0, 0)) := by rw [hW5]; exact blk_put _ bF
      have k5 : ∀ i, i ≠ wr.heap.size → W5.heap[i]? = W.heap[i]? := fun i hi => by rw [hW5]; exact Below.heap_setCell _ _ _ _ hi
      have s5 : W5.heap.size = wr.heap.size + 1 := by rw [hW5, ← hWs]; simp
      have hB5 : Below w.heap.size w W5 := by rw [hW5, HW.out]; exact ((HB.out.alloc hBs _).setCell hBs _).drew
      rw [← hW5]
      clear hW5 x2 f2 c1 c2
      have c1 : W5.cell? ⟨q, 1, none⟩ = some (.slice (some ⟨tk, 0, none⟩) n ct) := (World.cell?_of_block (k5 q (by omega))).trans c1w
      have c3 : W5.cell? ⟨tk, k * 4 + 3, none⟩ = some (.int .i64 (t.c : Nat)) := (World.cell?_of_block (k5 tk (by omega))).trans c3w
      have x3 : W5.cell? ⟨wr.heap.size, 3, none⟩ = some (.int .i64 (f.c : Nat)) := cell_blk (i := 3) b5 rfl
      have f3 : W5.frozen? ⟨wr.heap.size, 3, none⟩ = false := frozen_blk b5
      have x0 : W5.cell? ⟨wr.heap.size, 0, none⟩ = some (.int .i64 (f.n : Nat)) := cell_blk (i := 0) b5 rfl
      have x1 : W5.cell? ⟨wr.heap.size, 1, none⟩ = some (.int .i64 (f.d : Nat)) := cell_blk (i := 1) b5 rfl
      have x2 : W5.cell? ⟨wr.heap.size, 2, none⟩ = some (.int .u64 ((f.m : Int) - (t.m : Int))) := cell_blk (i := 2) b5 rfl
      have hT : Below w.heap.size w (W5.setCell ⟨wr.heap.size, 3, none⟩ (.int .i64 ((f.c : Int) - (t.c : Int)))) := hB5.setCell hBs _
      have hTo : (W5.setCell ⟨wr.heap.size, 3, none⟩ (.int .i64 ((f.c : Int) - (t.c : Int)))).ownsRow w.heap.size 62 4 (.slice A k cp) k ((L.take k).flatMap frC) := own_same OW.out fun i e => by
        have hi2 := (OW.out.lt i e).2
        exact (Below.heap_setCell _ _ _ _ (by simp; omega)).trans ((k5 i (by omega)).trans (kq i hi2))
      have hTn : (((W5.setCell ⟨wr.heap.size, 3, none⟩ (.int .i64 ((f.c : Int) - (t.c : Int)))).alloc (.cells #[.int .i64 (f.n : Nat), .int .i64 (f.d : Nat), .int .u64 ((f.m : Int) - (t.m : Int)), .int .i64 ((f.c : Int) - (t.c : Int))] 62)).drew).heap[W5.heap.size]? = some (.cells #[.int .i64 (f.n : Nat), .int .i64 (f.d : Nat), .int .u64 ((f.m : Int) - (t.m : Int)), .int .i64 ((f.c : Int) - (t.c : Int))] 62 (0, 0)) := by
        have := heap_alloc_new (W5.setCell ⟨wr.heap.size, 3, none⟩ (.int .i64 ((f.c : Int) - (t.c : Int)))) (.cells #[.int .i64 (f.n : Nat), .int .i64 (f.d : Nat), .int .u64 ((f.m : Int) - (t.m : Int)), .int .i64 ((f.c : Int) - (t.c : Int))] 62)
        have e : (W5.setCell ⟨wr.heap.size, 3, none⟩ (.int .i64 ((f.c : Int) - (t.c : Int)))).heap.size = W5.heap.size := by simp
        rw [e] at this
        exact this
      have s6 : wr.heap.size < W5.heap.size := by omega
      clear s5
      have K5 := Lib.hid hT
      have OT := Lib.hid hTo
      have NT := Lib.hid hTn
      clear k5 b5 hB5 kq bF c1w c3w hT hTo hTn
      go_still_tail 10, (by kernel_rfl)
      change wpList _ _ _ _ _ W5.drew
      go_wp2_with (at_builtin; refine wpList_append_lies _ rfl _ _ 41 rfl w.heap.size 62 i0 _ 4 32 Try.underlying41 hi hz0 hz1 hz2 rfl (by decide) (.slice A k cp) k ((L.take k).flatMap frC) rfl ((OT.out.alloc _).drew) ⟨W5.heap.size, 0, none⟩ 1 1 [.int .i64 (f.n : Nat), .int .i64 (f.d : Nat), .int .u64 ((f.m : Int) - (t.m : Int)), .int .i64 ((f.c : Int) - (t.c : Int))] rfl rfl (World.news_of_block (cs := #[.int .i64 (f.n : Nat), .int .i64 (f.d : Nat), .int .u64 ((f.m : Int) - (t.m : Int)), .int .i64 ((f.c : Int) - (t.c : Int))]) (t := 62) (fr := (0, 0)) NT.out) (by simp [Value.oneCell']) (by omega) (by unfold maxLen; omega) (by omega) (by simp; omega) (W5.heap.size + 1) (by simp) ?_; intro gg cap' w3 hown3 hgrow hat hlt3)
      have hT := K5.out
      have hB6 : Below w.heap.size w w3 := (hT.alloc (by simp; omega) _).drew.grown hgrow (by simp; omega) (fun i e => (OW.out.lt i e).1)
      have hown6 : w3.ownsRow w.heap.size 62 4 (.slice (some ⟨gg, 0, none⟩) (k + 1) cap') (k + 1) ((L.take (k + 1)).flatMap frC) := by
        obtain ⟨n1, n2, n3, n4, n5⟩ := N.out
        have e1 : ((MM.sub f.m t.m : Nat) : Int) = (f.m : Int) - t.m := by rw [← n2.1]; omega
        have e2 : ((f.c - t.c : Nat) : Int) = (f.c : Int) - t.c := by omega
        rw [n1, List.flatMap_append]
        have e3 : [PM.freeOf f t].flatMap frC = [.int .i64 (f.n : Nat), .int .i64 (f.d : Nat), .int .u64 ((f.m : Int) - (t.m : Int)), .int .i64 ((f.c : Int) - (t.c : Int))] := by simp only [List.flatMap_cons, List.flatMap_nil, List.append_nil, frC, PM.freeOf, e1, e2]
        rw [e3]
        exact hown3
      go_roundw
      case rel => exact ⟨k + 1, some ⟨gg, 0, none⟩, cap', by go_num, rfl, by omega, hB6, hown6⟩
      case measure => simp [intOf]; omega
    · obtain rfl : k = n := by omega
      have e : L.take k = L := by rw [← hn, ← hlen]; exact List.take_length
      rw [e] at hown
      have OW := Lib.hid hown
      clear hown hlt e h0 hL hlen hr hn
      go_wp2
      go_ret
      exact ⟨_, rfl, OW.out, hBl⟩
end Go.Proofs.Ytgdbjepddcmfoaa
