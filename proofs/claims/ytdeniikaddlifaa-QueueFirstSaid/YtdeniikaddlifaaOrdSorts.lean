/- Sort: all of the waits, sorted, in a slice of its own. -/
import Derived.Test.YtdeniikaddlifaaOrdSort
set_option maxRecDepth 100000
namespace Go.Proofs.Ytdeniikaddlifaa
open Go.RowKit
/-- The waits of a list by their places. -/
def eW (l : List Wt) (i : Nat) : Wt := (l[i]?).getD ⟨0, 0, 0, 0, 0, 0, 0, 0, 0, 0⟩
theorem eW_at {l : List Wt} {i : Nat} {x : Wt} (h : l[i]? = some x) : eW l i = x := by unfold eW; rw [h]; rfl
theorem eW_all (l : List Wt) : (List.range l.length).map (eW l) = l := by
  apply List.ext_getElem?
  intro i
  by_cases h : i < l.length
  · rw [List.getElem?_map, List.getElem?_range h]
    obtain ⟨x, hx⟩ := get_lt h
    rw [Option.map_some, eW_at hx, hx]
  · rw [List.getElem?_eq_none (by simp; omega), List.getElem?_eq_none (by omega)]
theorem eW_flat (l : List Wt) : (List.range l.length).flatMap (fun i => wtC (eW l i)) = l.flatMap wtC := by
  conv => rhs; rw [← eW_all l]
  rw [List.flatMap_map]
theorem eW_may {l : List Wt} (h : l.all mayW = true) {i : Nat} (hi : i < l.length) : mayW (eW l i) = true := by
  obtain ⟨x, hx⟩ := get_lt hi
  rw [eW_at hx]
  exact List.all_eq_true.1 h x (List.mem_of_getElem? hx)
/-- A block of waits, read as a slice. -/
theorem WBlk.wts {E : Nat → Wt} {w : World} {g : Nat} {L : List Nat} (h : WBlk E w g L) : Wts w w.heap.size (some ⟨g, 0, none⟩) (L.map E) := by
  refine .inr ⟨g, 0, rfl, h.lt, fun i x hx => ?_⟩
  rw [List.getElem?_map] at hx
  obtain ⟨z, hz, rfl⟩ := Option.map_eq_some_iff.1 hx
  rw [Nat.zero_add]
  exact h.at_ hz
/-- What a sort leaves: the waits in order, in a slice of its own. -/
structure Sorted (t a : Int) (l : List Wt) (w w' : World) (v : Value) (D : List Nat) : Prop where
  perm : D.Perm (List.range l.length)
  bef : D.Pairwise (OW.bef t a (eW l))
  row : ∃ A c, v = .slice A l.length c ∧ Wts w' w'.heap.size A (D.map (eW l)) ∧ ∀ b off, A = some ⟨b, off, none⟩ → w.heap.size ≤ b
theorem Sorted.same {t a : Int} {l : List Wt} {w w' u u' : World} {v v' : Value} {D D' : List Nat} (h : Sorted t a l w w' v D) (h' : Sorted t a l u u' v' D') : D = D' :=
  OW.sorted_unique (h.perm.trans h'.perm.symm) h.bef h'.bef
set_option maxHeartbeats 4000000 in
theorem psort_any (A : Option Addr) (c : Nat) (l : List Wt) (now age : Int) (w : World) (h : Wts w w.heap.size A l) (hn : l.length ≤ 100000) :
    Calls Try.prog 31 #[.slice A l.length c, .int .i64 now, .int .i64 age] w fun e w' => Below w.heap.size w w' ∧
      (((mayA now age && l.all mayW) = false ∧ e = .returned (.tuple #[.slice none 0 0, .int .i64 1])) ∨ ((mayA now age && l.all mayW) = true ∧ ∃ v D, e = .returned (.tuple #[v, .int .i64 0]) ∧ Sorted now age l w w' v D)) := by
  have HM := Lib.hid (maybe_any now age A c l w h (by omega))
  obtain ⟨m, hm⟩ : ∃ m, m = (mayA now age && l.all mayW) := ⟨_, rfl⟩
  rw [← hm] at HM ⊢
  obtain ⟨n, hl⟩ : ∃ n, n = l.length := ⟨_, rfl⟩
  have HCl : Hid (∀ W, Below w.heap.size w W → Calls Try.prog 38 #[.slice A n c] W fun e w' => (l = [] ∧ e = .returned (.slice none 0 0) ∧ W = w') ∨ ∃ g cp, e = .returned (.slice (some ⟨g, 0, none⟩) n cp) ∧
      w'.ownsRow W.heap.size 39 10 (.slice (some ⟨g, 0, none⟩) n cp) n (l.flatMap wtC) ∧ Below W.heap.size W w') := Lib.hid (fun W hW => by rw [hl]; exact clone_w A c l W (h.keep hW hW.size) hn)
  have HK := Lib.hid (fun W => comparing_any now age W)
  have HL := Lib.hid (And.intro hl hm)
  rw [← hl] at HM ⊢
  have hn' : n ≤ 100000 := by omega
  clear h hn hl hm
  cases m
  · go_enter Try.func31, Try.ntmps31
    go_wp2_with (go_at_call 37; refine HM.out.mono ?_; rintro e w1 ⟨rfl, hb1⟩)
    (try simp only [Exit.inBlock, Exit.then])
    refine bodyPost_ret (v := .tuple #[.slice none 0 0, .int .i64 1]) (by simp [results, Try.results31, go_sem]) rfl ?_
    exact ⟨hb1, .inl ⟨by first | rfl | trivial, rfl⟩⟩
  · go_enter Try.func31, Try.ntmps31
    go_wp2_with fail
    refine HM.out.mono ?_
    rintro e w1 ⟨rfl, hb1⟩
    have hC := HCl.out w1 hb1
    have Hb1 := Lib.hid hb1
    clear HM HCl hb1
    go_wp2_with fail
    refine hC.mono ?_
    rintro e w2 (⟨h0, rfl, rfl⟩ | ⟨g, cp, rfl, hown, hb2⟩)
    · have H0 := Lib.hid h0
      obtain rfl : n = 0 := by rw [HL.out.1, h0]; rfl
      clear h0 hC
      go_wp2_with fail
      refine (HK.out _).mono ?_
      rintro e w3 ⟨S, T, G, rfl, hS, hb3, lS, lT, lG⟩
      have HB3 := Lib.hid (below_step Hb1.out hb3)
      clear hS hb3 lS lT lG
      go_wp2_with fail
      refine (sort_nil _ _).mono ?_
      rintro e w4 ⟨rfl, rfl⟩
      go_wp2
      refine bodyPost_ret (v := .tuple #[.slice none 0 0, .int .i64 0]) (by simp [results, Try.results31, go_sem]) rfl ?_
      have h0 := H0.out
      subst h0
      exact ⟨HB3.out, .inr ⟨by first | rfl | trivial, _, [], rfl, ⟨List.Perm.refl _, List.Pairwise.nil, none, 0, rfl, .inl rfl, fun b off e => by cases e⟩⟩⟩
    · have HB2 := Lib.hid (below_step Hb1.out hb2)
      have Hown := Lib.hid hown
      clear hC hown
      have Hb2 := Lib.hid hb2
      clear hb2
      go_wp2_with fail
      refine (HK.out _).mono ?_
      rintro e w3 ⟨S, T, G, rfl, hS, hb3, lS, lT, lG⟩
      have hSt : Hid (Calls Try.prog 39 #[.slice (some ⟨g, 0, none⟩) n cp, .func (.func 52) #[] #[.pointer (some ⟨S, 0, none⟩)]] w3 fun e w' => e = .returned (.tuple #[]) ∧ Foot (· = g) w3 w' ∧ Hid (∃ Z, WBlk (eW l) w' g Z ∧ Z.Perm (List.range n) ∧ PK.Asc (OW.keyW now age (eW l) n) Z)) := Lib.hid (by
        have hok := HL.out.2.symm
        rw [Bool.and_eq_true, mayA_iff] at hok
        obtain ⟨⟨n1, n2, g1, g2⟩, hal⟩ := hok
        have hgl := (Hown.out.lt g rfl)
        have hS' : g ≠ S ∧ g ≠ T ∧ g ≠ G := by omega
        have ls := hS.lt
        refine wsortstable_any (eW l) cp (OW.keyW now age (eW l) n) g n (.pointer (some ⟨S, 0, none⟩)) (fun x y => cmpW now age (eW l x) (eW l y)) w3 ?_ (fun x y hxy hy => OW.key_cmp n x y hxy hy) (by omega) ?_
        · intro W hW x y hx hy
          have hx' := eW_may hal (show x < l.length by rw [← HL.out.1]; exact hx)
          have hy' := eW_may hal (show y < l.length by rw [← HL.out.1]; exact hy)
          exact steps_cl S T G (eW l x) (eW l y) now age W n1 (by omega) g1 g2 hx' hy' (hS.of fun k hk => hW.block k (by rcases hk with rfl | rfl | rfl <;> omega) (by rcases hk with rfl | rfl | rfl <;> (intro e; have e : _ = _ := e; omega)))
        · rcases Hown.out.2 with ⟨e, h0⟩ | ⟨g', cap, cur, e, _, hg, h1, h2, h3, h4⟩
          · cases e
          · injection e with e1 _ e3
            injection e1 with e1
            injection e1 with e1
            subst e1
            refine WBlk.of (w := w2) ⟨cur, hg, by rw [List.length_range, h3]; exact Nat.mul_le_mul_right 10 h1, ?_⟩ (hb3.block g hgl.2)
            rw [List.length_range, h4, HL.out.1, eW_flat])
      have HB3 := Lib.hid (below_step HB2.out hb3)
      have Hg := Lib.hid (show w.heap.size ≤ g by have := (Hown.out.lt g rfl).1; have := Hb1.out.size; omega)
      have Hgs := Lib.hid (show w.heap.size ≤ w3.heap.size from HB3.out.size)
      clear hS hb3 lS lT lG
      go_wp2_with fail
      refine hSt.out.mono ?_
      rintro e w4 ⟨rfl, hf4, hZ⟩
      have HB4 := Lib.hid (HB3.out.trans (hf4.below Hgs.out (fun i hi => by rw [hi]; exact Hg.out)))
      clear hSt hf4
      go_wp2
      refine bodyPost_ret (v := .tuple #[.slice (some ⟨g, 0, none⟩) n cp, .int .i64 0]) (by simp [results, Try.results31, go_sem]) rfl ?_
      obtain ⟨Z, z1, z2, z3⟩ := hZ.out
      refine ⟨HB4.out, .inr ⟨by first | rfl | trivial, _, Z, rfl, ⟨by rw [← HL.out.1]; exact z2, OW.asc_bef z2 z3, some ⟨g, 0, none⟩, cp, by rw [HL.out.1], z1.wts, fun b off e => ?_⟩⟩⟩
      injection e with e
      injection e with e1 _
      rw [← e1]
      exact Hg.out
end Go.Proofs.Ytdeniikaddlifaa
