/- The document's queues: Remove, Add. -/
import Derived.Test.YtdeniikaddlifaaHeldTo
import Derived.Test.YtdeniikaddlifaaOrdRefS
import Derived.Test.YtdeniikaddlifaaQuRef
set_option linter.unusedVariables false
set_option maxRecDepth 100000
namespace Go.Proofs.Ytdeniikaddlifaa
open Go.RowKit
section
variable {P : Program} {ops : Array Oper} {Q : Exit → Act → World → Prop} {md : Region.Mode} {S : World → Prop} {c : Nat}
/-- Two numbers may come up: each first. -/
theorem until_two (i j : Nat) {oi oj : Oper} {f : Nat} {listed : Array Bool} {a : Act} {w : World} (hi : ops[i]? = some oi) (hj : ops[j]? = some oj) (hr : Region.ready md ops listed = [i, j]) (hgi : oi.guard = none) (hgj : oj.guard = none)
    (h1 : ∀ K : Act → World → Prop, Hid (∀ a' w', ((listed.setIfInBounds i true).getD c true = false → S w') → wpUntil P md ops Q S c f (listed.setIfInBounds i true) a' w' → K a' w') → oi.wp P a w K Q)
    (h2 : ∀ K : Act → World → Prop, Hid (∀ a' w', ((listed.setIfInBounds j true).getD c true = false → S w') → wpUntil P md ops Q S c f (listed.setIfInBounds j true) a' w' → K a' w') → oj.wp P a w K Q) : wpUntil P md ops Q S c (f + 1) listed a w := by
  refine ⟨fun h0 => (by rw [hr] at h0; cases h0), fun k hk => ?_⟩
  rw [hr] at hk
  have hk2 : k = i ∨ k = j := by simpa using hk
  rcases hk2 with rfl | rfl
  · unfold wpOp
    simp only [hi]
    rw [if_pos (by simp [Region.wanted, hgi])]
    exact .inl (h1 _ (Lib.hid fun _ _ h1 h2 => ⟨h1, h2⟩))
  · unfold wpOp
    simp only [hj]
    rw [if_pos (by simp [Region.wanted, hgj])]
    exact .inl (h2 _ (Lib.hid fun _ _ h1 h2 => ⟨h1, h2⟩))
end
/-- What a call leaves of the document's queues. -/
def RqNext (w w' : World) (r nr c : Nat) (A AL : Option Addr) (L L' : List Wt) : Prop := ∃ AL' cl', RqAt w' r A nr c AL' cl' L' ∧ Foot (· = r) w w' ∧ ∀ j, RqB r AL' L' j → RqB r AL L j ∨ w.heap.size ≤ j
theorem RqNext.of {w w' : World} {r nr c : Nat} {A AL : Option Addr} {L L' : List Wt} (AL' : Option Addr) (cl' : Nat) (h1 : RqAt w' r A nr c AL' cl' L') (h2 : Foot (· = r) w w') (h3 : ∀ j, RqB r AL' L' j → RqB r AL L j ∨ w.heap.size ≤ j) : RqNext w w' r nr c A AL L L' := ⟨AL', cl', h1, h2, h3⟩
/-- A row that was made anew is the queues'. -/
theorem RqAt.made {w : World} {r c nr B n cl : Nat} {u : Value} {A AL : Option Addr} {M : List Wt} (h : w.heap[r]? = some (.cells #[.slice A c nr, u] 33 (0, 0))) (hown : w.ownsRow B 39 10 (.slice AL n cl) n (M.flatMap wtC)) (hn : M.length = n) (hp : r < B) (hf : n ≤ 1000) :
    RqAt (w.setCell ⟨r, 1, none⟩ (.slice AL n cl)) r A nr c AL cl M ∧ ∀ j, RqB r AL M j → j = r ∨ B ≤ j := by
  subst hn
  obtain ⟨h1, h2⟩ := els_own wtC_len hown rfl
  have hroom : M.length ≤ cl ∧ cl ≤ maxLen := by
    rcases hown.2 with ⟨e, h0⟩ | ⟨g, cap, cur, e, _, _, h3, h4, _⟩
    · injection e with _ _ e3; unfold maxLen; omega
    · injection e with _ _ e3; subst e3; exact ⟨h3, h4⟩
  refine ⟨⟨?_, ?_, hroom.1, hroom.2, fun b off e _ e2 => ?_, hf⟩, fun j hj => ?_⟩
  · have := blk_put (i := 1) (.slice AL M.length cl) h
    simpa using this
  · refine (h1.off fun b off e hb => ?_).imp (by simp) fun _ _ _ _ hd => hd
    exact Below.heap_setCell w ⟨r, 1, none⟩ _ b (by have := (h2 b off e).1; show b ≠ r; omega)
  · have := (h2 b off e).1; omega
  · rcases hj with e | ⟨_, off, e⟩
    · exact .inl e
    · exact .inr (h2 j off e).1
set_option maxHeartbeats 8000000 in
theorem rremove_q (r c nr cl : Nat) (A AL : Option Addr) (R : List Int) (L : List Wt) (id : Int) (w : World) (h : RqAt w r A nr c AL cl L) (hI : QL.Inv R L) :
    Calls Try.prog 28 #[.pointer (some ⟨r, 0, none⟩), .int .i64 id] w fun e w' => e = .returned (.tuple #[wtV (QL.getW L id), .int .i64 (QL.getE L id)]) ∧
      RqNext w w' r nr c A AL L (QL.dropI L id) := by
  obtain ⟨i0, hi, hz0, hz1, hz2⟩ := info_parts info_wt
  have hB1 := (Below.refl w.heap.size w).alloc (Nat.le_refl _) (wtO QL.zw)
  have HZ1 := Lib.hid (wt_new w QL.zw)
  have HB1 := Lib.hid (And.intro hB1 h)
  have h2 := h.keep hB1
  have lr := blk_lt h.obj
  have hG := rget_q r nr c cl A AL R L id _ h2 hI
  obtain ⟨y, hy⟩ : ∃ y, y = QL.getW L id := ⟨_, rfl⟩
  obtain ⟨ge, hge⟩ : ∃ ge, ge = QL.getE L id := ⟨_, rfl⟩
  rw [← hy, ← hge] at hG ⊢
  have H0 := Lib.hid (And.intro h2 (And.intro hI (And.intro hy hge)))
  clear h h2 hB1 hI hy hge
  simp only [wtV, wtA, wtO, QL.zw] at *
  go_enter Try.func28, Try.ntmps28
  go_wp2_with fail
  refine hG.mono ?_
  rintro e w1 ⟨rfl, hb1⟩
  have HZw := Lib.hid ((hb1.block _ (blk_lt HZ1.out)).trans HZ1.out)
  have HBw := Lib.hid (below_step HB1.out.1 hb1)
  have HHw := Lib.hid (H0.out.1.keep hb1)
  have lz1 := blk_lt HZw.out
  obtain ⟨w2, hw2⟩ : ∃ w2, w2 = w1.alloc (.cells #[.int .i64 y.id, .int .i64 y.q, .int .i64 y.p, .int .i64 y.r, .int .i64 y.g, .int .i64 y.c, .int .i64 y.mn, .int .i64 y.mx, .int .i64 y.s, .int .i64 y.n] 39) := ⟨_, rfl⟩
  have hbx : Below w1.heap.size w1 w2 := by rw [hw2]; exact (Below.refl _ _).alloc (Nat.le_refl _) _
  have HX2 : Hid (w2.heap[w1.heap.size]? = some (.cells (wtA y) 39 (0, 0))) := Lib.hid (by rw [hw2]; exact heap_alloc_new w1 _)
  have HZ2 := Lib.hid ((hbx.block _ lz1).trans HZw.out)
  have HB2 := Lib.hid (below_step HBw.out hbx)
  have HH2 := Lib.hid (HHw.out.keep hbx)
  have HF2 := Lib.hid (rfind_q r nr c cl A AL L id w2 HH2.out)
  have hw2' : w1.alloc (.cells #[.int .i64 y.id, .int .i64 y.q, .int .i64 y.p, .int .i64 y.r, .int .i64 y.g, .int .i64 y.c, .int .i64 y.mn, .int .i64 y.mx, .int .i64 y.s, .int .i64 y.n] 39) = w2 := hw2.symm
  have HW2 := Lib.hid hw2'
  have lr2 : r < w2.heap.size := blk_lt HH2.out.obj
  have hzl : w.heap.size < w2.heap.size := blk_lt HZ2.out
  have hxl : w1.heap.size < w2.heap.size := blk_lt HX2.out
  have hzr : w.heap.size ≠ r := by omega
  have hr1 : r < w1.heap.size := blk_lt HHw.out.obj
  have hxr : w1.heap.size ≠ r := by omega
  clear hb1 hG hw2 hw2' hbx lz1 hr1 HZ1 HZw HBw HHw
  by_cases he : ge = 0
  · have hh : QL.hasI L id = true := by
      have := H0.out.2.2.2
      cases e : QL.hasI L id with
      | true => rfl
      | false => rw [(QL.get_no e).2, he] at this; cases this
    have HHas := Lib.hid hh
    obtain rfl : ge = 0 := he
    clear hh
    go_wp2_with (go_at_call 36; rw [HW2.out]; refine HF2.out.mono ?_; rintro e w3 ⟨rfl, hfo⟩; rcases hfo with ⟨hno, rfl⟩ | ⟨k, x, hx, hid, rfl⟩)
    · rw [HHas.out] at hno; cases hno
    have hc1 := HH2.out.head.2.1
    have hcm := HH2.out.cm
    have hroom := HH2.out.room
    have hfew := HH2.out.few
    unfold maxLen at hcm
    have HE := Lib.hid (show QL.dropI L id = L.take k ++ L.drop (k + 1) by rw [← hid]; exact QL.filter_drop H0.out.2.1.id hx)
    obtain ⟨b, off, rfl, hb, _⟩ := HH2.out.row.at_ hx
    have hkL := (List.getElem?_eq_some_iff.1 hx).1
    obtain ⟨n, hn⟩ : ∃ n, n = L.length := ⟨_, rfl⟩
    have H := Lib.hid (And.intro HH2.out (And.intro hn trivial))
    obtain ⟨d, hd1⟩ : ∃ d, d = k + 1 := ⟨_, rfl⟩
    rw [← hd1] at HE
    have HD1 := Lib.hid hd1
    have hd := Lib.hid (wts_from HH2.out.row d cl HH2.out.room)
    have ht := Lib.hid (wts_to HH2.out.row k cl HH2.out.room)
    rw [← hn] at hc1 hroom hfew hkL
    have c1 := hc1
    have hkc : k ≤ cl := by omega
    have hdn : d ≤ n := by omega
    have ew : IntKind.i64.wrap ((k : Int) + 1) = (d : Int) := by rw [IntWalk.i64_in _ (by omega)]; omega
    clear hx hid hn hd1 hc1 hb
    go_wp2_with fail
    refine wp_until (fun w' : World => w'.cell? ⟨r, 1, none⟩ = some (.slice (some ⟨b, off, none⟩) n cl)) 19 (by kernel_rfl) ?_
    have hS : (fun w' : World => w'.cell? ⟨r, 1, none⟩ = some (.slice (some ⟨b, off, none⟩) n cl)) w2.drew := c1
    have H4 := Lib.hid (show Below w2.heap.size w2 w2.drew from (Below.refl _ _).drew)
    have hs4 : w2.heap.size = w2.drew.heap.size := rfl
    clear c1
    generalize w2.drew = w4 at hS H4 hs4 ⊢
    refine until_take (v := ?_) 0 20 rfl rfl (by kernel_rfl) (by kernel_rfl) (by kernel_rfl) (by kernel_rfl) (fun _ _ _ h => h) ⟨by rfl, ?_⟩ hS ?_
    rotate_left
    · intro w' hw'; have x0 : w'.cell? ⟨r, 1, none⟩ = some (.slice (some ⟨b, off, none⟩) n cl) := hw'; go_simp; (try with_reducible rfl)
    simp only [Act.put, List.setIfInBounds_toArray, List.set_cons_zero, List.set_cons_succ]
    refine until_take (v := ?_) 2 22 rfl rfl (by kernel_rfl) (by kernel_rfl) (by kernel_rfl) (by kernel_rfl) (fun _ _ _ h => h) ⟨by rfl, ?_⟩ hS ?_
    rotate_left
    · intro w' hw'; have x0 : w'.cell? ⟨r, 1, none⟩ = some (.slice (some ⟨b, off, none⟩) n cl) := hw'; go_simp; (try with_reducible rfl)
    simp only [Act.put, List.setIfInBounds_toArray, List.set_cons_zero, List.set_cons_succ]
    refine until_take (v := ?_) 3 23 rfl rfl (by kernel_rfl) (by kernel_rfl) (by kernel_rfl) (by kernel_rfl) (fun _ _ _ h => h) ⟨by rfl, ?_⟩ hS ?_
    rotate_left
    · intro w' hw'; have x0 : w'.cell? ⟨r, 1, none⟩ = some (.slice (some ⟨b, off, none⟩) n cl) := hw'; go_simp; (try with_reducible rfl)
    simp only [Act.put, List.setIfInBounds_toArray, List.set_cons_zero, List.set_cons_succ]
    refine until_take (v := ?_) 4 24 rfl rfl (by kernel_rfl) (by kernel_rfl) (by kernel_rfl) (by kernel_rfl) (fun _ _ _ h => h) ⟨by rfl, ?_⟩ hS ?_
    rotate_left
    · intro w' hw'; have x0 : w'.cell? ⟨r, 1, none⟩ = some (.slice (some ⟨b, off, none⟩) n cl) := hw'; go_simp; (try with_reducible rfl)
    simp only [Act.put, List.setIfInBounds_toArray, List.set_cons_zero, List.set_cons_succ]
    refine until_take (v := ?_) 5 25 rfl rfl (by kernel_rfl) (by kernel_rfl) (by kernel_rfl) (by kernel_rfl) (fun _ _ _ h => h) ⟨by rfl, ?_⟩ hS ?_
    rotate_left
    · intro w' hw'; have x0 : w'.cell? ⟨r, 1, none⟩ = some (.slice (some ⟨b, off, none⟩) n cl) := hw'; go_simp; (try with_reducible rfl)
    simp only [Act.put, List.setIfInBounds_toArray, List.set_cons_zero, List.set_cons_succ]
    refine until_take (v := ?_) 6 26 rfl rfl (by kernel_rfl) (by kernel_rfl) (by kernel_rfl) (by kernel_rfl) (fun _ _ _ h => h) ⟨by rfl, ?_⟩ hS ?_
    rotate_left
    · intro w' hw'; have x0 : w'.cell? ⟨r, 1, none⟩ = some (.slice (some ⟨b, off, none⟩) n cl) := hw'; go_simp; (try with_reducible rfl)
    simp only [Act.put, List.setIfInBounds_toArray, List.set_cons_zero, List.set_cons_succ]
    refine until_take (v := ?_) 7 27 rfl rfl (by kernel_rfl) (by kernel_rfl) (by kernel_rfl) (by kernel_rfl) (fun _ _ _ h => h) ⟨by rfl, ?_⟩ hS ?_
    rotate_left
    · intro w' hw'; have x0 : w'.cell? ⟨r, 1, none⟩ = some (.slice (some ⟨b, off, none⟩) n cl) := hw'; refine Eq.trans (run_slice_to (k := k) (by rfl) (by rfl) (by rfl) hkc) ?_; (with_reducible rfl)
    simp only [Act.put, List.setIfInBounds_toArray, List.set_cons_zero, List.set_cons_succ]
    refine until_take (v := ?_) 9 29 rfl rfl (by kernel_rfl) (by kernel_rfl) (by kernel_rfl) (by kernel_rfl) (fun _ _ _ h => h) ⟨by rfl, ?_⟩ hS ?_
    rotate_left
    · intro w' hw'; have x0 : w'.cell? ⟨r, 1, none⟩ = some (.slice (some ⟨b, off, none⟩) n cl) := hw'; go_simp; (try with_reducible rfl)
    simp only [Act.put, List.setIfInBounds_toArray, List.set_cons_zero, List.set_cons_succ]
    refine until_take (v := ?_) 10 30 rfl rfl (by kernel_rfl) (by kernel_rfl) (by kernel_rfl) (by kernel_rfl) (fun _ _ _ h => h) ⟨by rfl, ?_⟩ hS ?_
    rotate_left
    · intro w' hw'; have x0 : w'.cell? ⟨r, 1, none⟩ = some (.slice (some ⟨b, off, none⟩) n cl) := hw'; go_simp; (try with_reducible rfl)
    simp only [Act.put, List.setIfInBounds_toArray, List.set_cons_zero, List.set_cons_succ]
    refine until_take (v := ?_) 11 31 rfl rfl (by kernel_rfl) (by kernel_rfl) (by kernel_rfl) (by kernel_rfl) (fun _ _ _ h => h) ⟨by rfl, ?_⟩ hS ?_
    rotate_left
    · intro w' hw'; have x0 : w'.cell? ⟨r, 1, none⟩ = some (.slice (some ⟨b, off, none⟩) n cl) := hw'; go_simp; (try with_reducible rfl)
    simp only [Act.put, List.setIfInBounds_toArray, List.set_cons_zero, List.set_cons_succ]
    refine until_take (v := ?_) 12 32 rfl rfl (by kernel_rfl) (by kernel_rfl) (by kernel_rfl) (by kernel_rfl) (fun _ _ _ h => h) ⟨by rfl, ?_⟩ hS ?_
    rotate_left
    · intro w' hw'; have x0 : w'.cell? ⟨r, 1, none⟩ = some (.slice (some ⟨b, off, none⟩) n cl) := hw'; go_simp; (try with_reducible rfl)
    simp only [Act.put, List.setIfInBounds_toArray, List.set_cons_zero, List.set_cons_succ]
    refine until_take (v := ?_) 13 33 rfl rfl (by kernel_rfl) (by kernel_rfl) (by kernel_rfl) (by kernel_rfl) (fun _ _ _ h => h) ⟨by rfl, ?_⟩ hS ?_
    rotate_left
    · intro w' hw'; have x0 : w'.cell? ⟨r, 1, none⟩ = some (.slice (some ⟨b, off, none⟩) n cl) := hw'; go_simp; (try with_reducible rfl)
    simp only [Act.put, List.setIfInBounds_toArray, List.set_cons_zero, List.set_cons_succ]
    refine until_take (v := ?_) 14 34 rfl rfl (by kernel_rfl) (by kernel_rfl) (by kernel_rfl) (by kernel_rfl) (fun _ _ _ h => h) ⟨by rfl, ?_⟩ hS ?_
    rotate_left
    · intro w' hw'; have x0 : w'.cell? ⟨r, 1, none⟩ = some (.slice (some ⟨b, off, none⟩) n cl) := hw'; go_simp; (try with_reducible rfl)
    simp only [Act.put, List.setIfInBounds_toArray, List.set_cons_zero, List.set_cons_succ]
    refine until_take (v := ?_) 15 35 rfl rfl (by kernel_rfl) (by kernel_rfl) (by kernel_rfl) (by kernel_rfl) (fun _ _ _ h => h) ⟨by rfl, ?_⟩ hS ?_
    rotate_left
    · intro w' hw'; have x0 : w'.cell? ⟨r, 1, none⟩ = some (.slice (some ⟨b, off, none⟩) n cl) := hw'; refine Eq.trans (run_slice_from (k := d) (by rfl) (by rfl) (by rfl) hdn) ?_; (with_reducible rfl)
    simp only [Act.put, List.setIfInBounds_toArray, List.set_cons_zero, List.set_cons_succ]
    clear ew
    generalize hAd : atA (some ⟨b, off, none⟩) d cl = Ad at hd ⊢
    generalize hAt : atA (some ⟨b, off, none⟩) 0 cl = At at ht ⊢
    clear hAd hAt
    refine until_one 1 rfl (by kernel_rfl) rfl (fun K hK => ?_)
    go_simp
    have hst := (Below.refl w4.heap.size w4).alloc (Nat.le_refl _) (.cells #[] 39)
    have hS4 : (fun w' : World => w'.cell? ⟨r, 1, none⟩ = some (.slice (some ⟨b, off, none⟩) n cl)) (w4.alloc (.cells #[] 39)) := (hst.cell (p := ⟨r, 1, none⟩) (show r < _ by omega)).trans hS
    refine hK.out _ _ (fun _ => hS4) ?_
    clear hK K
    refine until_one 8 rfl (by kernel_rfl) rfl (fun K hK => ?_)
    simp only [Go.wp_at_zero, Go.wp_at_succ]
    have hB1 : Below w2.heap.size w2 (w4.alloc (.cells #[] 39)) := H4.out.alloc (by omega) _
    have hlk : (L.take k).length = k := by rw [List.length_take, ← H.out.2.1]; omega
    refine wp_append_els (C := wtC) (k := 10) _ _ _ 31 rfl w4.heap.size 39 i0 _ 80 Try.underlying31 hi hz0 hz1 hz2 rfl (by decide) (.slice (some ⟨w4.heap.size, 0, none⟩) 0 0) 0 [] rfl (World.ownsRow_lit w4 #[] 0 (Nat.le_refl _) (by unfold maxLen; omega) rfl) w2.heap.size At cl k (L.take k) rfl (ht.out.keep hB1 (Nat.le_refl _)) hlk.symm wtC_len wtC_one (by unfold maxLen; omega) (by omega) (by simp) ?_
    intro A5 c5 w5 hown5 hg5 hb5
    rw [Nat.zero_add] at hown5 ⊢
    rw [List.nil_append] at hown5
    have hob : ∀ j, (Value.slice (some ⟨w4.heap.size, 0, none⟩) 0 0).ownBlock = some j → j = w4.heap.size := fun j hj => by simpa [Value.ownBlock] using hj.symm
    have hB5 : Below w2.heap.size w2 w5 := hB1.grown hg5 (by simp; omega) (fun j hj => by have := hob j hj; omega)
    have hs5 := hB5.size
    have hg5s := hg5.size
    simp only [World.size_alloc] at hg5s
    have hS5 : (fun w' : World => w'.cell? ⟨r, 1, none⟩ = some (.slice (some ⟨b, off, none⟩) n cl)) w5 := (hg5.cell_far ⟨r, 1, none⟩ (by simp; omega) (fun e => by have := hob r e.symm; omega)).trans hS4
    refine hK.out _ _ (fun _ => hS5) ?_
    clear hK K
    simp only [Act.put, List.setIfInBounds_toArray, List.set_cons_zero, List.set_cons_succ]
    refine until_one 16 rfl (by kernel_rfl) rfl (fun K hK => ?_)
    simp only [Go.wp_at_zero, Go.wp_at_succ]
    have hld : (L.drop d).length = n - d := by rw [List.length_drop, ← H.out.2.1]
    refine wp_append_els (C := wtC) (k := 10) _ _ _ 31 rfl w4.heap.size 39 i0 _ 80 Try.underlying31 hi hz0 hz1 hz2 rfl (by decide) (.slice A5 k c5) k _ rfl hown5 w2.heap.size Ad (cl - d) (n - d) (L.drop d) rfl (hd.out.keep hB5 (Nat.le_refl _)) hld.symm wtC_len wtC_one (by unfold maxLen; omega) (by omega) (by omega) ?_
    intro A6 c6 w6 hown6 hg6 hb6
    have hob5 : ∀ j, (Value.slice A5 k c5).ownBlock = some j → w4.heap.size ≤ j := fun j hj => (hown5.lt j hj).1
    have hB6 : Below w2.heap.size w2 w6 := hB5.grown hg6 hs5 (fun j hj => by have := hob5 j hj; omega)
    have hs6 := hB6.size
    have hS6 : (fun w' : World => w'.cell? ⟨r, 1, none⟩ = some (.slice (some ⟨b, off, none⟩) n cl)) w6 := (hg6.cell_far ⟨r, 1, none⟩ (by show r < w5.heap.size; omega) (fun e => by have := hob5 r e.symm; omega)).trans hS5
    have g6 : w6.frozen? ⟨r, 1, none⟩ = false := (hB6.frozen (p := ⟨r, 1, none⟩) lr2).trans H.out.1.head.2.2.1
    refine hK.out _ _ (fun _ => hS6) ?_
    clear hK K
    simp only [Act.put, List.setIfInBounds_toArray, List.set_cons_zero, List.set_cons_succ]
    have hS7 : w6.cell? ⟨r, 1, none⟩ = some (.slice (some ⟨b, off, none⟩) n cl) := hS6
    refine until_one 17 rfl (by kernel_rfl) rfl (fun K hK => ?_)
    go_simp
    refine hK.out _ _ (fun _ => hS6) ?_
    clear hK K
    refine until_one 18 rfl (by kernel_rfl) rfl (fun K hK => ?_)
    go_simp
    refine hK.out _ _ (fun _ => hS6) ?_
    clear hK K
    refine until_one 19 rfl (by kernel_rfl) rfl (fun K hK => ?_)
    go_simp
    refine hK.out _ _ (fun h => absurd h (by decide)) ?_
    clear hK K
    refine until_done (by kernel_rfl) ?_
    have hM : (L.take k ++ L.drop d).length = k + (n - d) := by rw [List.length_append, hlk, hld]
    have hobj : w6.heap[r]? = some (.cells #[.slice A c nr, .slice (some ⟨b, off, none⟩) n cl] 33 (0, 0)) := (hB6.block r lr2).trans (by have := H.out.1.obj; rwa [← H.out.2.1] at this)
    have hmade := RqAt.made (M := L.take k ++ L.drop d) hobj (by rw [List.flatMap_append]; exact hown6) hM (by omega) (by have := HD1.out; omega)
    have HM := Lib.hid (And.intro hmade hB6)
    have HZ6 := Lib.hid ((Below.heap_setCell w6 ⟨r, 1, none⟩ (.slice A6 (k + (n - d)) c6) _ hzr).trans ((hB6.block _ hzl).trans HZ2.out))
    have HX6 := Lib.hid ((Below.heap_setCell w6 ⟨r, 1, none⟩ (.slice A6 (k + (n - d)) c6) _ hxr).trans ((hB6.block _ hxl).trans HX2.out))
    clear hS hS4 hS5 hS6 hS7 hst hB1 hB5 hB6 hown5 hown6 hg5 hg6 hb5 hb6 hob hob5 hobj hmade g6 hlk hld hM

    go_wp2_with (first
      | (refine wpList_load_row rfl 39 _ rfl w1.heap.size rfl 39 (wtA y) (0, 0) _ HX6.out Try.underlying39 rfl (by kernel_rfl) ?_)
      | (refine wpList_store_wt rfl _ _ rfl w.heap.size y rfl rfl QL.zw HZ6.out ?_))
    refine bodyPost_ret (results_wt Try.results28 _ _ w.heap.size y (.int .i64 0) rfl (setRow_wt HZ6.out) rfl) rfl ?_
    have hbw := HB2.out.size
    have hsz4 : w2.heap.size = w4.heap.size := hs4
    refine ⟨rfl, RqNext.of A6 c6 ?_ (foot_row (((Foot.of_below (F := (· = r)) HB2.out).trans (Foot.of_below (F := (· = r)) HM.out.2) fun i hi => .inl hi).setCell (p := ⟨r, 1, none⟩) (.inl rfl) _) (.inr (Nat.le_refl _)) _) fun j hj => ?_⟩
    · rw [HE.out]
      refine HM.out.1.1.off (by simp) fun i hi hB => setRow_other _ _ i _ ?_
      rintro rfl
      rcases HM.out.1.2 _ hB with e | e <;> omega
    · rw [HE.out] at hj
      rcases HM.out.1.2 j hj with e | e
      · exact .inl (.inl e)
      · exact .inr (by omega)
  · have t0 : decide (ge = 0) = false := decide_eq_false he
    have hno : QL.hasI L id = false := by
      have := H0.out.2.2.2
      cases e : QL.hasI L id with
      | false => rfl
      | true => unfold QL.getE at this; rw [e] at this; exact absurd this he
    have HE := Lib.hid (QL.dropI_no hno)
    have HX6 : Hid ((w1.alloc (.cells #[.int .i64 y.id, .int .i64 y.q, .int .i64 y.p, .int .i64 y.r, .int .i64 y.g, .int .i64 y.c, .int .i64 y.mn, .int .i64 y.mx, .int .i64 y.s, .int .i64 y.n] 39)).heap[w1.heap.size]? = some (.cells (wtA y) 39 (0, 0))) := Lib.hid (by rw [HW2.out]; exact HX2.out)
    have HZ6 : Hid ((w1.alloc (.cells #[.int .i64 y.id, .int .i64 y.q, .int .i64 y.p, .int .i64 y.r, .int .i64 y.g, .int .i64 y.c, .int .i64 y.mn, .int .i64 y.mx, .int .i64 y.s, .int .i64 y.n] 39)).heap[w.heap.size]? = some (.cells (wtA QL.zw) 39 (0, 0))) := Lib.hid (by rw [HW2.out]; exact HZ2.out)
    clear hno HF2
    go_wp2_with (first
      | (refine wpList_load_row rfl 39 _ rfl w1.heap.size rfl 39 (wtA y) (0, 0) _ HX6.out Try.underlying39 rfl (by kernel_rfl) ?_)
      | (refine wpList_store_wt rfl _ _ rfl w.heap.size y rfl rfl QL.zw HZ6.out ?_))
    refine bodyPost_ret (results_wt Try.results28 _ _ w.heap.size y (.int .i64 ge) rfl (setRow_wt HZ6.out) rfl) rfl ?_
    rw [HW2.out, HE.out]
    have hBz := below_row HB2.out (Nat.le_refl _) (wtA y)
    exact ⟨rfl, RqNext.of AL cl (HB1.out.2.keep hBz) (Foot.of_below hBz) fun j hj => .inl hj⟩
set_option maxHeartbeats 8000000 in
theorem radd_q (r nr cl : Nat) (A AL : Option Addr) (R : List Int) (L : List Wt) (x : Wt) (w : World) (h : RqAt w r A nr R.length AL cl L) (hv : Nums w w.heap.size A R) (hI : QL.Inv R L) (h999 : L.length ≤ 999) :
    Calls Try.prog 27 #[.pointer (some ⟨r, 0, none⟩), wtV x] w fun e w' => e = .returned (.int .i64 (QL.addE R L x)) ∧
      RqNext w w' r nr R.length A AL L (QL.addL R L x) := by
  obtain ⟨i0, hi, hz0, hz1, hz2⟩ := info_parts info_wt
  have hB1 := (Below.refl w.heap.size w).alloc (Nat.le_refl _) (wtO x)
  have hb := wt_new w x
  have b0 : (w.alloc (wtO x)).cell? ⟨w.heap.size, 0, none⟩ = some (.int .i64 x.id) := cell_blk (i := 0) hb rfl
  have b1 : (w.alloc (wtO x)).cell? ⟨w.heap.size, 1, none⟩ = some (.int .i64 x.q) := cell_blk (i := 1) hb rfl
  have h2 := h.keep hB1
  have c0 := h2.head.1
  have lw1 : w.heap.size < (w.alloc (wtO x)).heap.size := blk_lt hb
  have hn8 := hI.r.hi
  have Same : Hid (∀ w', Below w.heap.size w w' → QL.addE R L x ≠ 0 → RqNext w w' r nr R.length A AL L (QL.addL R L x)) := Lib.hid (fun w' hw hne => by
    unfold QL.addL; rw [if_neg hne]
    exact RqNext.of AL cl (h.keep hw) (Foot.of_below hw) fun i hi => .inl hi)
  have HFi := Lib.hid (fun W (hW : Below (w.alloc (wtO x)).heap.size (w.alloc (wtO x)) W) => rfind_q r nr R.length cl A AL L x.id W (h2.keep hW))
  have HRo := Lib.hid (fun W (hW : Below (w.alloc (wtO x)).heap.size (w.alloc (wtO x)) W) => rroom_q r nr cl A AL R L x.q W (h2.keep hW) ((hv.keep hB1 hB1.size).keep hW hW.size) hI.r)
  have HX := Lib.hid (And.intro (wtAt_new hb) (And.intro hB1 h2))
  have HI := Lib.hid hI
  have hfew := h999
  have hroomL := h.room
  have HE0 : Hid (QL.addE R L x = if x.q < 0 ∨ (R.length : Int) ≤ x.q then 3 else if QL.hasI L x.id then 4 else if QL.roomOf R x.q.toNat = ((QL.rowL L x.q.toNat).length : Int) then 2 else 0) := Lib.hid rfl
  obtain ⟨c, hc⟩ : ∃ c, c = R.length := ⟨_, rfl⟩
  have Hc := Lib.hid hc
  obtain ⟨n, hn⟩ : ∃ n, n = L.length := ⟨_, rfl⟩
  have Hn := Lib.hid hn
  rw [← hc] at c0 hn8 Same HX ⊢
  rw [← hn] at hfew hroomL
  clear h h2 hB1 hb hI hv hc hn
  simp only [wtV, wtA, wtO] at *
  by_cases q0 : x.q < 0
  · have t0 : decide (x.q < 0) = true := decide_eq_true q0
    have HE : Hid (QL.addE R L x = 3) := Lib.hid (by rw [HE0.out, if_pos (.inl q0)])
    go_enter Try.func27, Try.ntmps27
    go_wp2_with fail
    go_quiet (fail)
    go_wp2
    go_ret
    exact ⟨by rw [HE.out]; rfl, Same.out _ (below_drewN HX.out.2.1 _) (by rw [HE.out]; decide)⟩
  have t0 : decide (x.q < 0) = false := decide_eq_false q0
  by_cases q1 : (c : Int) ≤ x.q
  · have t1 : decide ((c : Int) ≤ x.q) = true := decide_eq_true q1
    have HE : Hid (QL.addE R L x = 3) := Lib.hid (by rw [HE0.out, if_pos (.inr (by rw [← Hc.out]; exact q1))])
    go_enter Try.func27, Try.ntmps27
    go_wp2_with fail
    go_quiet (fail)
    go_wp2
    go_ret
    exact ⟨by rw [HE.out]; rfl, Same.out _ (below_drewN HX.out.2.1 _) (by rw [HE.out]; decide)⟩
  have t1 : decide ((c : Int) ≤ x.q) = false := decide_eq_false q1
  obtain ⟨ro, hro⟩ : ∃ ro, ro = QL.roomQ R L x.q := ⟨_, rfl⟩
  rw [← hro] at HRo
  have HRV : Hid (ro = QL.roomOf R x.q.toNat - ((QL.rowL L x.q.toNat).length : Int)) := Lib.hid (by
    rw [hro]; unfold QL.roomQ; rw [QL.hasQ_iff.2 ⟨by omega, by rw [← Hc.out]; omega⟩, if_pos rfl])
  have HQ3 : Hid (¬ (x.q < 0 ∨ (R.length : Int) ≤ x.q)) := Lib.hid (by rw [← Hc.out]; omega)
  clear hro
  go_enter Try.func27, Try.ntmps27
  go_wp2_with fail
  go_quiet (fail)
  go_wp2_with fail
  refine (HFi.out _ (below_drewN (Below.refl _ _) _)).mono ?_
  rintro e w1 ⟨rfl, hfo⟩
  clear HFi
  rcases hfo with ⟨hno, rfl⟩ | ⟨k, y, hy, hid, rfl⟩
  · have HNO := Lib.hid hno
    have hRo := HRo.out _ (below_drewN (Below.refl _ _) nq)
    clear hno HRo
    go_wp2_with fail
    refine hRo.mono ?_
    rintro e w3 ⟨rfl, hb3⟩
    have HB3 := Lib.hid (below_step (below_drewN HX.out.2.1 _) hb3)
    have hbd := below_step (below_drewN (Below.refl _ _) _) hb3
    have HR3 := Lib.hid (HX.out.2.2.keep hbd)
    have HXx := Lib.hid (HX.out.1.keep lw1 hbd)
    have lw3 := Nat.lt_of_lt_of_le lw1 hbd.size
    clear hb3 hbd hRo b0 b1 c0
    by_cases hz : ro = 0
    · subst hz
      have HE : Hid (QL.addE R L x = 2) := Lib.hid (by rw [HE0.out, if_neg HQ3.out, HNO.out, if_neg (by simp), if_pos (by have := HRV.out; omega)])
      go_wp2
      go_ret
      exact ⟨by rw [HE.out]; rfl, Same.out _ HB3.out (by rw [HE.out]; decide)⟩
    · have t2 : decide (ro = 0) = false := decide_eq_false hz
      have HE : Hid (QL.addE R L x = 0) := Lib.hid (by rw [HE0.out, if_neg HQ3.out, HNO.out, if_neg (by simp), if_neg (by have := HRV.out; omega)])
      have HAL : Hid (QL.addL R L x = L ++ [x]) := Lib.hid (by unfold QL.addL; rw [if_pos HE.out])
      have c1 := HR3.out.head.2.1
      rw [← Hn.out] at c1
      have f3 := HR3.out.head.2.2.1
      have lr3 := HR3.out.head.2.2.2
      have hcm := HR3.out.cm
      unfold maxLen at hcm
      have hWx := HXx.out
      clear HXx
      go_wp2_with fail
      refine wp_until (fun w' : World => w'.cell? ⟨r, 1, none⟩ = some (.slice AL n cl) ∧ WtAt w' w.heap.size 0 x) 12 (by kernel_rfl) ?_
      have hS : (fun w' : World => w'.cell? ⟨r, 1, none⟩ = some (.slice AL n cl) ∧ WtAt w' w.heap.size 0 x) w3.drew := ⟨c1, hWx⟩
      have f4 : w3.drew.frozen? ⟨r, 1, none⟩ = false := f3
      have HL4 : Hid (Wts w3.drew w3.drew.heap.size AL L) := Lib.hid HR3.out.row
      have HOBJ : Hid (w3.drew.heap[r]? = some (.cells #[.slice A c nr, .slice AL n cl] 33 (0, 0))) := Lib.hid (by have := HR3.out.obj; rwa [← Hn.out] at this)
      have HBW : Hid (Below w.heap.size w w3.drew) := Lib.hid HB3.out.drew
      have hsw : w.heap.size < w3.drew.heap.size := lw3
      have lr4 : r < w3.drew.heap.size := lr3
      clear c1 hWx f3 lr3 lw3
      generalize w3.drew = w4 at hS f4 HL4 HOBJ HBW hsw lr4 ⊢
      have hB4 : Below w4.heap.size w4 w4 := Below.refl _ _
      refine until_take (v := ?_) 0 32 rfl rfl (by kernel_rfl) (by kernel_rfl) (by kernel_rfl) (by kernel_rfl) (fun _ _ _ h => h) ⟨by rfl, ?_⟩ hS ?_
      rotate_left
      · intro w' hw'; obtain ⟨x0, x1⟩ := hw'; go_simp; (try with_reducible rfl)
      simp only [Act.put, List.setIfInBounds_toArray, List.set_cons_zero, List.set_cons_succ]
      refine until_take (v := ?_) 2 34 rfl rfl (by kernel_rfl) (by kernel_rfl) (by kernel_rfl) (by kernel_rfl) (fun _ _ _ h => h) ⟨by rfl, ?_⟩ hS ?_
      rotate_left
      · intro w' hw'; obtain ⟨x0, x1⟩ := hw'; go_simp; (try with_reducible rfl)
      simp only [Act.put, List.setIfInBounds_toArray, List.set_cons_zero, List.set_cons_succ]
      refine until_take (v := ?_) 3 35 rfl rfl (by kernel_rfl) (by kernel_rfl) (by kernel_rfl) (by kernel_rfl) (fun _ _ _ h => h) ⟨by rfl, ?_⟩ hS ?_
      rotate_left
      · intro w' hw'; obtain ⟨x0, x1⟩ := hw'; go_simp; (try with_reducible rfl)
      simp only [Act.put, List.setIfInBounds_toArray, List.set_cons_zero, List.set_cons_succ]
      refine until_take (v := ?_) 4 36 rfl rfl (by kernel_rfl) (by kernel_rfl) (by kernel_rfl) (by kernel_rfl) (fun _ _ _ h => h) ⟨by rfl, ?_⟩ hS ?_
      rotate_left
      · intro w' hw'; obtain ⟨x0, x1⟩ := hw'; go_simp; (try with_reducible rfl)
      simp only [Act.put, List.setIfInBounds_toArray, List.set_cons_zero, List.set_cons_succ]
      refine until_take (v := ?_) 5 37 rfl rfl (by kernel_rfl) (by kernel_rfl) (by kernel_rfl) (by kernel_rfl) (fun _ _ _ h => h) ⟨by rfl, ?_⟩ hS ?_
      rotate_left
      · intro w' hw'; obtain ⟨x0, x1⟩ := hw'; go_simp; (try with_reducible rfl)
      simp only [Act.put, List.setIfInBounds_toArray, List.set_cons_zero, List.set_cons_succ]
      refine until_take (v := ?_) 7 39 rfl rfl (by kernel_rfl) (by kernel_rfl) (by kernel_rfl) (by kernel_rfl) (fun _ _ _ h => h) ⟨by rfl, ?_⟩ hS ?_
      rotate_left
      · intro w' hw'; obtain ⟨x0, x1⟩ := hw'; refine Eq.trans (run_load_wt (by rfl) (by rfl) x1) ?_; (with_reducible rfl)
      simp only [Act.put, List.setIfInBounds_toArray, List.set_cons_zero, List.set_cons_succ]
      refine until_two 1 8 rfl rfl (by kernel_rfl) rfl rfl (fun K hK => ?_) (fun K hK => ?_)
      · go_simp
        obtain ⟨wa, hwa⟩ : ∃ z, z = w4.alloc (.cells #[] 39) := ⟨_, rfl⟩
        have ownE : wa.ownsRow w4.heap.size 39 10 (.slice (some ⟨w4.heap.size, 0, none⟩) 0 0) 0 [] := by rw [hwa]; exact World.ownsRow_lit w4 #[] 0 (by omega) (by unfold maxLen; omega) rfl
        have hBa : Below w4.heap.size w4 wa := by rw [hwa]; exact hB4.alloc hB4.size _
        have swa : w4.heap.size < wa.heap.size := by rw [hwa]; simp
        have bwa : Below w4.heap.size w4 wa := by rw [hwa]; exact (Below.refl _ _).alloc (Nat.le_refl _) _
        have hSa : (fun w' : World => w'.cell? ⟨r, 1, none⟩ = some (.slice AL n cl) ∧ WtAt w' w.heap.size 0 x) wa := ⟨(bwa.cell (p := ⟨r, 1, none⟩) (show r < _ by omega)).trans hS.1, hS.2.keep (by omega) bwa⟩
        rw [← hwa]
        refine hK.out _ _ (fun _ => hSa) ?_
        clear hK K hwa
        refine until_two 6 8 rfl rfl (by kernel_rfl) rfl rfl (fun K hK => ?_) (fun K hK => ?_)
        · simp only [Go.wp_at_zero, Go.wp_at_succ]
          refine wp_append_els (C := wtC) (k := 10) _ _ _ 31 rfl w4.heap.size 39 i0 _ 80 Try.underlying31 hi hz0 hz1 hz2 rfl (by decide) (.slice (some ⟨w4.heap.size, 0, none⟩) 0 0) 0 [] rfl ownE w4.heap.size AL cl n L rfl (HL4.out.keep (hBa) (Nat.le_refl _)) Hn.out wtC_len wtC_one (by unfold maxLen; omega) (by omega) (by omega) ?_
          intro A5 c5 wb own5 gwb kwb
          rw [Nat.zero_add] at own5 ⊢
          rw [List.nil_append] at own5
          have hob : ∀ j, (Value.slice (some ⟨w4.heap.size, 0, none⟩) 0 0).ownBlock = some j → j = w4.heap.size := fun j hj => by simpa [Value.ownBlock] using hj.symm
          have hBb : Below w4.heap.size w4 wb := hBa.grown gwb (by omega) (fun j hj => by have := hob j hj; omega)
          have swb := gwb.size
          have hSb : (fun w' : World => w'.cell? ⟨r, 1, none⟩ = some (.slice AL n cl) ∧ WtAt w' w.heap.size 0 x) wb := ⟨(gwb.cell_far ⟨r, 1, none⟩ (show r < wa.heap.size by omega) (fun e => by have := hob r e.symm; omega)).trans hSa.1, CellsAt.of hSa.2 (gwb.block w.heap.size (by omega) (fun e => by have := hob w.heap.size e.symm; omega))⟩
          refine hK.out _ _ (fun _ => hSb) ?_
          clear hK K
          simp only [Act.put, List.setIfInBounds_toArray, List.set_cons_zero, List.set_cons_succ]
          have Own5 := Lib.hid own5
          clear own5 gwb kwb hob
          refine until_one 8 rfl (by kernel_rfl) rfl (fun K hK => ?_)
          simp only [wtA]
          go_simp
          obtain ⟨wc, hwc⟩ : ∃ z, z = wb.alloc (.cells #[.int .i64 x.id, .int .i64 x.q, .int .i64 x.p, .int .i64 x.r, .int .i64 x.g, .int .i64 x.c, .int .i64 x.mn, .int .i64 x.mx, .int .i64 x.s, .int .i64 x.n] 39) := ⟨_, rfl⟩
          have elsB : Wts wc wc.heap.size (some ⟨wb.heap.size, 0, none⟩) [x] := by rw [hwc]; exact els_blk wtC_len (heap_alloc_new wb _) (fun j v hj => by simpa [wtC] using hj)
          have hBc : Below w4.heap.size w4 wc := by rw [hwc]; exact hBb.alloc hBb.size _
          have swc : wb.heap.size < wc.heap.size := by rw [hwc]; simp
          have bwc : Below wb.heap.size wb wc := by rw [hwc]; exact (Below.refl _ _).alloc (Nat.le_refl _) _
          have hSc : (fun w' : World => w'.cell? ⟨r, 1, none⟩ = some (.slice AL n cl) ∧ WtAt w' w.heap.size 0 x) wc := ⟨(bwc.cell (p := ⟨r, 1, none⟩) (show r < _ by omega)).trans hSb.1, hSb.2.keep (by omega) bwc⟩
          rw [← hwc]
          refine hK.out _ _ (fun _ => hSc) ?_
          clear hK K hwc
          try simp only [Act.put, List.setIfInBounds_toArray, List.set_cons_zero, List.set_cons_succ]
          have own5 := own_keep Own5.out bwc
          refine until_one 9 rfl (by kernel_rfl) rfl (fun K hK => ?_)
          simp only [Go.wp_at_zero, Go.wp_at_succ]
          refine wp_append_els (C := wtC) (k := 10) _ _ _ 31 rfl w4.heap.size 39 i0 _ 80 Try.underlying31 hi hz0 hz1 hz2 rfl (by decide) (.slice A5 n c5) n _ rfl own5 _ (some ⟨wb.heap.size, 0, none⟩) 1 1 [x] rfl elsB rfl wtC_len wtC_one (by unfold maxLen; omega) (by omega) (by omega) ?_
          intro A7 c7 w7 own7 g7 k7
          have hob5 : ∀ j, (Value.slice A5 n c5).ownBlock = some j → w4.heap.size ≤ j := fun j hj => (own5.lt j hj).1
          have hB7 : Below w4.heap.size w4 w7 := hBc.grown g7 (by omega) (fun j hj => by have := hob5 j hj; omega)
          have s7 := g7.size
          have hS7 : (fun w' : World => w'.cell? ⟨r, 1, none⟩ = some (.slice AL n cl) ∧ WtAt w' w.heap.size 0 x) w7 := ⟨(g7.cell_far ⟨r, 1, none⟩ (show r < wc.heap.size by omega) (fun e => by have := hob5 r e.symm; omega)).trans hSc.1, CellsAt.of hSc.2 (g7.block w.heap.size (by omega) (fun e => by have := hob5 w.heap.size e.symm; omega))⟩
          have g9 : w7.frozen? ⟨r, 1, none⟩ = false := (hB7.frozen (p := ⟨r, 1, none⟩) lr4).trans f4
          refine hK.out _ _ (fun _ => hS7) ?_
          clear hK K
          simp only [Act.put, List.setIfInBounds_toArray, List.set_cons_zero, List.set_cons_succ]
          have hS9 : w7.cell? ⟨r, 1, none⟩ = some (.slice AL n cl) := hS7.1
          refine until_one 10 rfl (by kernel_rfl) rfl (fun K hK => ?_)
          go_simp
          refine hK.out _ _ (fun _ => hS7) ?_
          clear hK K
          refine until_one 11 rfl (by kernel_rfl) rfl (fun K hK => ?_)
          go_simp
          refine hK.out _ _ (fun _ => hS7) ?_
          clear hK K
          refine until_one 12 rfl (by kernel_rfl) rfl (fun K hK => ?_)
          go_simp
          refine hK.out _ _ (fun h => absurd h (by decide)) ?_
          clear hK K
          refine until_done (by kernel_rfl) ?_
          have hobj : w7.heap[r]? = some (.cells #[.slice A c nr, .slice AL n cl] 33 (0, 0)) := (hB7.block r lr4).trans HOBJ.out
          have hmade := RqAt.made (M := L ++ [x]) hobj (by rw [List.flatMap_append]; exact own7) (by rw [List.length_append, ← Hn.out]; rfl) (by omega) (by omega)
          have HM := Lib.hid (And.intro hmade hB7)
          clear hS hS7 hS9 hB7 own5 own7 g7 k7 hob5 hobj hmade g9
          go_wp2
          go_ret
          refine ⟨by rw [HE.out]; rfl, RqNext.of A7 c7 (by rw [HAL.out]; exact HM.out.1.1) (((Foot.of_below (F := (· = r)) HBW.out).trans (Foot.of_below (F := (· = r)) HM.out.2) fun i hi => .inl hi).setCell (p := ⟨r, 1, none⟩) (.inl rfl) _) fun j hj => ?_⟩
          rw [HAL.out] at hj
          rcases HM.out.1.2 j hj with e | e
          · exact .inl (.inl e)
          · exact .inr (by omega)

        · simp only [wtA]
          go_simp
          obtain ⟨wb, hwb⟩ : ∃ z, z = wa.alloc (.cells #[.int .i64 x.id, .int .i64 x.q, .int .i64 x.p, .int .i64 x.r, .int .i64 x.g, .int .i64 x.c, .int .i64 x.mn, .int .i64 x.mx, .int .i64 x.s, .int .i64 x.n] 39) := ⟨_, rfl⟩
          have elsB : Wts wb wb.heap.size (some ⟨wa.heap.size, 0, none⟩) [x] := by rw [hwb]; exact els_blk wtC_len (heap_alloc_new wa _) (fun j v hj => by simpa [wtC] using hj)
          have hBb : Below w4.heap.size w4 wb := by rw [hwb]; exact hBa.alloc hBa.size _
          have swb : wa.heap.size < wb.heap.size := by rw [hwb]; simp
          have bwb : Below wa.heap.size wa wb := by rw [hwb]; exact (Below.refl _ _).alloc (Nat.le_refl _) _
          have hSb : (fun w' : World => w'.cell? ⟨r, 1, none⟩ = some (.slice AL n cl) ∧ WtAt w' w.heap.size 0 x) wb := ⟨(bwb.cell (p := ⟨r, 1, none⟩) (show r < _ by omega)).trans hSa.1, hSa.2.keep (by omega) bwb⟩
          rw [← hwb]
          refine hK.out _ _ (fun _ => hSb) ?_
          clear hK K hwb
          try simp only [Act.put, List.setIfInBounds_toArray, List.set_cons_zero, List.set_cons_succ]
          have ownE := own_keep ownE bwb
          refine until_one 6 rfl (by kernel_rfl) rfl (fun K hK => ?_)
          simp only [Go.wp_at_zero, Go.wp_at_succ]
          refine wp_append_els (C := wtC) (k := 10) _ _ _ 31 rfl w4.heap.size 39 i0 _ 80 Try.underlying31 hi hz0 hz1 hz2 rfl (by decide) (.slice (some ⟨w4.heap.size, 0, none⟩) 0 0) 0 [] rfl ownE w4.heap.size AL cl n L rfl (HL4.out.keep (hBb) (Nat.le_refl _)) Hn.out wtC_len wtC_one (by unfold maxLen; omega) (by omega) (by omega) ?_
          intro A5 c5 wc own5 gwc kwc
          rw [Nat.zero_add] at own5 ⊢
          rw [List.nil_append] at own5
          have hob : ∀ j, (Value.slice (some ⟨w4.heap.size, 0, none⟩) 0 0).ownBlock = some j → j = w4.heap.size := fun j hj => by simpa [Value.ownBlock] using hj.symm
          have hBc : Below w4.heap.size w4 wc := hBb.grown gwc (by omega) (fun j hj => by have := hob j hj; omega)
          have swc := gwc.size
          have hSc : (fun w' : World => w'.cell? ⟨r, 1, none⟩ = some (.slice AL n cl) ∧ WtAt w' w.heap.size 0 x) wc := ⟨(gwc.cell_far ⟨r, 1, none⟩ (show r < wb.heap.size by omega) (fun e => by have := hob r e.symm; omega)).trans hSb.1, CellsAt.of hSb.2 (gwc.block w.heap.size (by omega) (fun e => by have := hob w.heap.size e.symm; omega))⟩
          have elsB : Wts wc wc.heap.size (some ⟨wa.heap.size, 0, none⟩) [x] := (elsB.off (w' := wc) fun b2 o2 e2 hb2 => gwc.block b2 hb2 (fun e => by have := hob b2 e.symm; injection e2 with e2; injection e2 with e2; omega)).imp swc fun _ _ _ _ hd => hd
          refine hK.out _ _ (fun _ => hSc) ?_
          clear hK K
          simp only [Act.put, List.setIfInBounds_toArray, List.set_cons_zero, List.set_cons_succ]
          refine until_one 9 rfl (by kernel_rfl) rfl (fun K hK => ?_)
          simp only [Go.wp_at_zero, Go.wp_at_succ]
          refine wp_append_els (C := wtC) (k := 10) _ _ _ 31 rfl w4.heap.size 39 i0 _ 80 Try.underlying31 hi hz0 hz1 hz2 rfl (by decide) (.slice A5 n c5) n _ rfl own5 _ (some ⟨wa.heap.size, 0, none⟩) 1 1 [x] rfl elsB rfl wtC_len wtC_one (by unfold maxLen; omega) (by omega) (by omega) ?_
          intro A7 c7 w7 own7 g7 k7
          have hob5 : ∀ j, (Value.slice A5 n c5).ownBlock = some j → w4.heap.size ≤ j := fun j hj => (own5.lt j hj).1
          have hB7 : Below w4.heap.size w4 w7 := hBc.grown g7 (by omega) (fun j hj => by have := hob5 j hj; omega)
          have s7 := g7.size
          have hS7 : (fun w' : World => w'.cell? ⟨r, 1, none⟩ = some (.slice AL n cl) ∧ WtAt w' w.heap.size 0 x) w7 := ⟨(g7.cell_far ⟨r, 1, none⟩ (show r < wc.heap.size by omega) (fun e => by have := hob5 r e.symm; omega)).trans hSc.1, CellsAt.of hSc.2 (g7.block w.heap.size (by omega) (fun e => by have := hob5 w.heap.size e.symm; omega))⟩
          have g9 : w7.frozen? ⟨r, 1, none⟩ = false := (hB7.frozen (p := ⟨r, 1, none⟩) lr4).trans f4
          refine hK.out _ _ (fun _ => hS7) ?_
          clear hK K
          simp only [Act.put, List.setIfInBounds_toArray, List.set_cons_zero, List.set_cons_succ]
          have hS9 : w7.cell? ⟨r, 1, none⟩ = some (.slice AL n cl) := hS7.1
          refine until_one 10 rfl (by kernel_rfl) rfl (fun K hK => ?_)
          go_simp
          refine hK.out _ _ (fun _ => hS7) ?_
          clear hK K
          refine until_one 11 rfl (by kernel_rfl) rfl (fun K hK => ?_)
          go_simp
          refine hK.out _ _ (fun _ => hS7) ?_
          clear hK K
          refine until_one 12 rfl (by kernel_rfl) rfl (fun K hK => ?_)
          go_simp
          refine hK.out _ _ (fun h => absurd h (by decide)) ?_
          clear hK K
          refine until_done (by kernel_rfl) ?_
          have hobj : w7.heap[r]? = some (.cells #[.slice A c nr, .slice AL n cl] 33 (0, 0)) := (hB7.block r lr4).trans HOBJ.out
          have hmade := RqAt.made (M := L ++ [x]) hobj (by rw [List.flatMap_append]; exact own7) (by rw [List.length_append, ← Hn.out]; rfl) (by omega) (by omega)
          have HM := Lib.hid (And.intro hmade hB7)
          clear hS hS7 hS9 hB7 own5 own7 g7 k7 hob5 hobj hmade g9
          go_wp2
          go_ret
          refine ⟨by rw [HE.out]; rfl, RqNext.of A7 c7 (by rw [HAL.out]; exact HM.out.1.1) (((Foot.of_below (F := (· = r)) HBW.out).trans (Foot.of_below (F := (· = r)) HM.out.2) fun i hi => .inl hi).setCell (p := ⟨r, 1, none⟩) (.inl rfl) _) fun j hj => ?_⟩
          rw [HAL.out] at hj
          rcases HM.out.1.2 j hj with e | e
          · exact .inl (.inl e)
          · exact .inr (by omega)


      · simp only [wtA]
        go_simp
        obtain ⟨wa, hwa⟩ : ∃ z, z = w4.alloc (.cells #[.int .i64 x.id, .int .i64 x.q, .int .i64 x.p, .int .i64 x.r, .int .i64 x.g, .int .i64 x.c, .int .i64 x.mn, .int .i64 x.mx, .int .i64 x.s, .int .i64 x.n] 39) := ⟨_, rfl⟩
        have elsB : Wts wa wa.heap.size (some ⟨w4.heap.size, 0, none⟩) [x] := by rw [hwa]; exact els_blk wtC_len (heap_alloc_new w4 _) (fun j v hj => by simpa [wtC] using hj)
        have hBa : Below w4.heap.size w4 wa := by rw [hwa]; exact hB4.alloc hB4.size _
        have swa : w4.heap.size < wa.heap.size := by rw [hwa]; simp
        have bwa : Below w4.heap.size w4 wa := by rw [hwa]; exact (Below.refl _ _).alloc (Nat.le_refl _) _
        have hSa : (fun w' : World => w'.cell? ⟨r, 1, none⟩ = some (.slice AL n cl) ∧ WtAt w' w.heap.size 0 x) wa := ⟨(bwa.cell (p := ⟨r, 1, none⟩) (show r < _ by omega)).trans hS.1, hS.2.keep (by omega) bwa⟩
        rw [← hwa]
        refine hK.out _ _ (fun _ => hSa) ?_
        clear hK K hwa
        try simp only [Act.put, List.setIfInBounds_toArray, List.set_cons_zero, List.set_cons_succ]
        refine until_one 1 rfl (by kernel_rfl) rfl (fun K hK => ?_)
        go_simp
        obtain ⟨wb, hwb⟩ : ∃ z, z = wa.alloc (.cells #[] 39) := ⟨_, rfl⟩
        have ownE : wb.ownsRow w4.heap.size 39 10 (.slice (some ⟨wa.heap.size, 0, none⟩) 0 0) 0 [] := by rw [hwb]; exact World.ownsRow_lit wa #[] 0 (by omega) (by unfold maxLen; omega) rfl
        have hBb : Below w4.heap.size w4 wb := by rw [hwb]; exact hBa.alloc hBa.size _
        have swb : wa.heap.size < wb.heap.size := by rw [hwb]; simp
        have bwb : Below wa.heap.size wa wb := by rw [hwb]; exact (Below.refl _ _).alloc (Nat.le_refl _) _
        have hSb : (fun w' : World => w'.cell? ⟨r, 1, none⟩ = some (.slice AL n cl) ∧ WtAt w' w.heap.size 0 x) wb := ⟨(bwb.cell (p := ⟨r, 1, none⟩) (show r < _ by omega)).trans hSa.1, hSa.2.keep (by omega) bwb⟩
        rw [← hwb]
        refine hK.out _ _ (fun _ => hSb) ?_
        clear hK K hwb
        have elsB : Wts wb wb.heap.size (some ⟨w4.heap.size, 0, none⟩) [x] := elsB.keep bwb (by omega)
        refine until_one 6 rfl (by kernel_rfl) rfl (fun K hK => ?_)
        simp only [Go.wp_at_zero, Go.wp_at_succ]
        refine wp_append_els (C := wtC) (k := 10) _ _ _ 31 rfl w4.heap.size 39 i0 _ 80 Try.underlying31 hi hz0 hz1 hz2 rfl (by decide) (.slice (some ⟨wa.heap.size, 0, none⟩) 0 0) 0 [] rfl ownE w4.heap.size AL cl n L rfl (HL4.out.keep (hBb) (Nat.le_refl _)) Hn.out wtC_len wtC_one (by unfold maxLen; omega) (by omega) (by omega) ?_
        intro A5 c5 wc own5 gwc kwc
        rw [Nat.zero_add] at own5 ⊢
        rw [List.nil_append] at own5
        have hob : ∀ j, (Value.slice (some ⟨wa.heap.size, 0, none⟩) 0 0).ownBlock = some j → j = wa.heap.size := fun j hj => by simpa [Value.ownBlock] using hj.symm
        have hBc : Below w4.heap.size w4 wc := hBb.grown gwc (by omega) (fun j hj => by have := hob j hj; omega)
        have swc := gwc.size
        have hSc : (fun w' : World => w'.cell? ⟨r, 1, none⟩ = some (.slice AL n cl) ∧ WtAt w' w.heap.size 0 x) wc := ⟨(gwc.cell_far ⟨r, 1, none⟩ (show r < wb.heap.size by omega) (fun e => by have := hob r e.symm; omega)).trans hSb.1, CellsAt.of hSb.2 (gwc.block w.heap.size (by omega) (fun e => by have := hob w.heap.size e.symm; omega))⟩
        have elsB : Wts wc wc.heap.size (some ⟨w4.heap.size, 0, none⟩) [x] := (elsB.off (w' := wc) fun b2 o2 e2 hb2 => gwc.block b2 hb2 (fun e => by have := hob b2 e.symm; injection e2 with e2; injection e2 with e2; omega)).imp swc fun _ _ _ _ hd => hd
        refine hK.out _ _ (fun _ => hSc) ?_
        clear hK K
        simp only [Act.put, List.setIfInBounds_toArray, List.set_cons_zero, List.set_cons_succ]
        refine until_one 9 rfl (by kernel_rfl) rfl (fun K hK => ?_)
        simp only [Go.wp_at_zero, Go.wp_at_succ]
        refine wp_append_els (C := wtC) (k := 10) _ _ _ 31 rfl w4.heap.size 39 i0 _ 80 Try.underlying31 hi hz0 hz1 hz2 rfl (by decide) (.slice A5 n c5) n _ rfl own5 _ (some ⟨w4.heap.size, 0, none⟩) 1 1 [x] rfl elsB rfl wtC_len wtC_one (by unfold maxLen; omega) (by omega) (by omega) ?_
        intro A7 c7 w7 own7 g7 k7
        have hob5 : ∀ j, (Value.slice A5 n c5).ownBlock = some j → w4.heap.size ≤ j := fun j hj => (own5.lt j hj).1
        have hB7 : Below w4.heap.size w4 w7 := hBc.grown g7 (by omega) (fun j hj => by have := hob5 j hj; omega)
        have s7 := g7.size
        have hS7 : (fun w' : World => w'.cell? ⟨r, 1, none⟩ = some (.slice AL n cl) ∧ WtAt w' w.heap.size 0 x) w7 := ⟨(g7.cell_far ⟨r, 1, none⟩ (show r < wc.heap.size by omega) (fun e => by have := hob5 r e.symm; omega)).trans hSc.1, CellsAt.of hSc.2 (g7.block w.heap.size (by omega) (fun e => by have := hob5 w.heap.size e.symm; omega))⟩
        have g9 : w7.frozen? ⟨r, 1, none⟩ = false := (hB7.frozen (p := ⟨r, 1, none⟩) lr4).trans f4
        refine hK.out _ _ (fun _ => hS7) ?_
        clear hK K
        simp only [Act.put, List.setIfInBounds_toArray, List.set_cons_zero, List.set_cons_succ]
        have hS9 : w7.cell? ⟨r, 1, none⟩ = some (.slice AL n cl) := hS7.1
        refine until_one 10 rfl (by kernel_rfl) rfl (fun K hK => ?_)
        go_simp
        refine hK.out _ _ (fun _ => hS7) ?_
        clear hK K
        refine until_one 11 rfl (by kernel_rfl) rfl (fun K hK => ?_)
        go_simp
        refine hK.out _ _ (fun _ => hS7) ?_
        clear hK K
        refine until_one 12 rfl (by kernel_rfl) rfl (fun K hK => ?_)
        go_simp
        refine hK.out _ _ (fun h => absurd h (by decide)) ?_
        clear hK K
        refine until_done (by kernel_rfl) ?_
        have hobj : w7.heap[r]? = some (.cells #[.slice A c nr, .slice AL n cl] 33 (0, 0)) := (hB7.block r lr4).trans HOBJ.out
        have hmade := RqAt.made (M := L ++ [x]) hobj (by rw [List.flatMap_append]; exact own7) (by rw [List.length_append, ← Hn.out]; rfl) (by omega) (by omega)
        have HM := Lib.hid (And.intro hmade hB7)
        clear hS hS7 hS9 hB7 own5 own7 g7 k7 hob5 hobj hmade g9
        go_wp2
        go_ret
        refine ⟨by rw [HE.out]; rfl, RqNext.of A7 c7 (by rw [HAL.out]; exact HM.out.1.1) (((Foot.of_below (F := (· = r)) HBW.out).trans (Foot.of_below (F := (· = r)) HM.out.2) fun i hi => .inl hi).setCell (p := ⟨r, 1, none⟩) (.inl rfl) _) fun j hj => ?_⟩
        rw [HAL.out] at hj
        rcases HM.out.1.2 j hj with e | e
        · exact .inl (.inl e)
        · exact .inr (by omega)

  · have hh : QL.hasI L x.id = true := QL.hasI_true.2 ⟨y, List.mem_of_getElem? hy, hid⟩
    have HE : Hid (QL.addE R L x = 4) := Lib.hid (by rw [HE0.out, if_neg HQ3.out, hh, if_pos rfl])
    have t3 : decide (0 ≤ (k : Int)) = true := decide_eq_true (by omega)
    clear hy hid hh
    go_wp2
    go_ret
    exact ⟨by rw [HE.out]; rfl, Same.out _ (below_drewN HX.out.2.1 _) (by rw [HE.out]; decide)⟩
end Go.Proofs.Ytdeniikaddlifaa
