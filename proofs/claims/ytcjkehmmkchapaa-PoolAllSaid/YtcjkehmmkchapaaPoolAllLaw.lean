/- All units of a cluster can be taken, spot by spot; then nothing is free, and nothing more can be taken but slots without units; given back, all is free: the law PoolAll answers true, at every input. -/
import Derived.Laws.StructEq
import Derived.Deep.AppendLies
import Derived.Test.YtcjkehmmkchapaaPoolLaws
import Derived.Test.YtcjkehmmkchapaaTopoFrame
import Derived.Test.YtcjkehmmkchapaaTopoFrame
set_option linter.unusedVariables false
namespace Go.Proofs.Ytcjkehmmkchapaa.poolAll
open Go Go.ChangeShapes Go.WideShapes Go.ChangeAt Go.RowKit
theorem frees_in {ns : List (List (Int × Int))} {f : Fr} (h : f ∈ frees ns) : ∃ ds, ns[f.n]? = some ds ∧ f.d < ds.length := by
  unfold frees at h
  obtain ⟨⟨ds, i⟩, hp, h⟩ := List.mem_flatMap.1 h
  obtain ⟨e, hl⟩ := frNode_mem h
  exact ⟨ds, by rw [e]; exact List.mem_zipIdx_iff_getElem?.1 hp, hl⟩
theorem map_next {α β : Type} {f : α → β} {l : List α} {k : Nat} {x : α} (h : l[k]? = some x) : (l.take (k + 1)).map f = (l.take k).map f ++ [f x] := by rw [take_next h, List.map_append]; rfl
set_option maxRecDepth 100000 in
set_option maxHeartbeats 4000000 in
theorem walk (a0 : Option Addr) (c0 : Nat) (n0 : List (List (Int × Int))) (a1 : Bool) (w : World) (w0 : Nodes w w.heap.size a0 n0) (lc0 : n0.length ≤ c0) (mc0 : c0 ≤ maxLen) :
    Calls Try.prog 8 #[.agg #[.slice a0 n0.length c0], .bool a1] w fun e w' => e = .returned (.bool true) ∧ Below w.heap.size w w' := by
  have hA := Lib.hid awake_any
  have k0 : (w.alloc (.cells #[.slice a0 n0.length c0] 24)).cell? ⟨w.heap.size, 0, none⟩ = some (.slice a0 n0.length c0) := by go_simp
  have hBa := (Below.refl w.heap.size w).alloc (Nat.le_refl _) (.cells #[.slice a0 n0.length c0] 24)
  have hRt := Lib.hid (fun W (hW : Below w.heap.size w W) (r : Bool) (hr : cluOk n0 = r) => right_any a0 c0 w.heap.size n0 W (Nodes.keep w0 hW (Nat.le_refl _)) hW.size r hr)
  cases hok : cluOk n0
  · have hR := Lib.hid (fun W hW => hRt.out W hW false hok)
    clear hok w0 hRt
    go_enter Try.func8, Try.ntmps8
    go_wp2_with (first
      | (go_at_call 9; refine (hA.out _).mono ?_; rintro e w2 ⟨rfl, hb2⟩; have hB2 := below_step hBa hb2; have k2 := (hb2.cell (p := ⟨w.heap.size, 0, none⟩) (by simp)).trans k0; have s2 := hb2.size; simp at s2)
      | (go_at_call 12; refine (hR.out _ hB2).mono ?_; rintro e w3 ⟨rfl, hb3⟩; have hB3 := below_step hB2 hb3; have k3 := (hb3.cell (p := ⟨w.heap.size, 0, none⟩) (show w.heap.size < _ by omega)).trans k2; have s3 := hb3.size))
    go_ret
    exact ⟨rfl, hB3⟩
  have hR := Lib.hid (fun W hW => hRt.out W hW true hok)
  obtain ⟨m, hm⟩ : ∃ m, n0.length = m := ⟨_, rfl⟩
  have hN := Lib.hid (fun W (hW : Below w.heap.size w W) => poolnew_ok a0 c0 w.heap.size n0 W (Nodes.keep w0 hW (Nat.le_refl _)) hW.size hok)
  have hFs := fsOk hok
  have hm16 : m ≤ 16 := by have := cluOk_len hok; omega
  have hdl : ∀ f ∈ frees n0, f.d < 1000000 := fun f hf => by
    obtain ⟨ds, h1, h2⟩ := frees_in hf
    have := nodeOk_len (cluOk_node hok h1)
    omega
  rw [hm] at k0 hBa hR hN hFs lc0 ⊢
  obtain ⟨fs, hfs⟩ : ∃ fs, fs = frees n0 := ⟨_, rfl⟩
  rw [← hfs] at hN hFs hdl
  obtain ⟨n, hn⟩ : ∃ n, fs.length = n := ⟨_, rfl⟩
  have Q := Lib.hid (And.intro hFs (And.intro hdl hn))
  have hnpos : 0 < n := by rw [← hn]; exact hFs.pos
  have hnfew : n ≤ 1000 := by rw [← hn]; exact hFs.few
  clear hok w0 hRt hm hFs hdl hfs
  go_enter Try.func8, Try.ntmps8
  go_wp2_with (first
      | (go_at_call 9; refine (hA.out _).mono ?_; rintro e w2 ⟨rfl, hb2⟩; have hB2 := below_step hBa hb2; have k2 := (hb2.cell (p := ⟨w.heap.size, 0, none⟩) (by simp)).trans k0; have s2 := hb2.size; simp at s2)
      | (go_at_call 12; refine (hR.out _ hB2).mono ?_; rintro e w3 ⟨rfl, hb3⟩; have hB3 := below_step hB2 hb3; have k3 := (hb3.cell (p := ⟨w.heap.size, 0, none⟩) (show w.heap.size < _ by omega)).trans k2; have s3 := hb3.size)
      | (go_at_call 11; refine (hN.out _ hB3).mono ?_; rintro e w4 ⟨T, p, g, dm, rfl, hp, hb4, p1, g1, d1, o1⟩; have HP := Lib.hid hp; clear hp; have hB4 := below_step hB3 hb4; have k4 := (hb4.cell (p := ⟨w.heap.size, 0, none⟩) (show w.heap.size < _ by omega)).trans k3; have s4 := hb4.size))
  have hFree := free_any p g dm fs (PM.zero fs) (List.replicate m false) w4 HP.out
  rw [free_zero, hn] at hFree
  clear hn
  have hw4 : w.heap.size ≤ p ∧ w.heap.size ≤ g ∧ w.heap.size ≤ dm := by omega
  have HT := Lib.hid o1
  have HB4 := Lib.hid hB4
  have hw44 : w.heap.size ≤ w4.heap.size := hB4.size
  clear o1 p1 g1 d1 hB4 hb4 hB3 hb3 hB2 hb2 hBa k0 k2 k3 k4 s2 s3 s4 hA hR hN
  refine hFree.mono ?_
  rintro e w5 ⟨rfl, hr5, hb5⟩
  obtain ⟨B, hBe⟩ : ∃ B, B = w4.heap.size := ⟨_, rfl⟩
  rw [← hBe] at hr5 ⊢
  have hBw4 : w4.heap.size ≤ B := by omega
  have hB5' : B < w5.heap.size := blk_lt hr5
  have HP5 := Lib.hid (HP.out.keep hb5)
  have HB5 := Lib.hid (below_step HB4.out hb5)
  have HR5 := Lib.hid hr5
  have hl4 := HP.out.lt
  have hBne : w.heap.size ≤ B ∧ p < B ∧ g < B ∧ dm < B := by omega
  have hw5s : w.heap.size ≤ w5.heap.size := HB5.out.size
  have hfr : ∀ i f, fs[i]? = some f → FrAt w5 B (i * 4) f := fun i f hf => by
    rcases blk_frees hr5 with e | ⟨b, off, e, _, hc⟩
    · rw [e] at hf; simp at hf
    · cases e; have := hc i f hf; rwa [Nat.zero_add] at this
  have HFr := Lib.hid hfr
  obtain ⟨i0, hi, hz0, hz1, hz2⟩ := info_parts info_slot
  clear hFree hb5 hr5 hfr hBe
  go_wp2_with fail
  go_loopw [8, 9] (fun out i wr => ∃ (k : Nat) (A : Option Addr) (cp : Nat), i = .int .i64 k ∧ out = .slice A (((orderOf a1 fs).take k).map PM.slotOf).length cp ∧ k ≤ n ∧ Below w5.heap.size w5 wr ∧ wr.ownsRow w5.heap.size 59 4 (.slice A (((orderOf a1 fs).take k).map PM.slotOf).length cp) (((orderOf a1 fs).take k).map PM.slotOf).length ((((orderOf a1 fs).take k).map PM.slotOf).flatMap slC)) (fun _ i _ => n - (intOf i).toNat)
  case atStart => exact ⟨0, none, 0, rfl, rfl, by omega, Below.refl _ _, World.ownsRow_nil _ _ _ _⟩
  case round =>
    obtain ⟨k, A, cp, rfl, rfl, hk, hBl, hown⟩ := hrel
    have hBs := hBl.size
    by_cases hlt : k < n
    · have hol : k < (orderOf a1 fs).length := by rw [orderOf_len, Q.out.2.2]; exact hlt
      obtain ⟨f, hx⟩ := get_lt hol
      obtain ⟨f9, hx9⟩ := get_lt (l := fs) (k := k) (by rw [Q.out.2.2]; exact hlt)
      obtain ⟨u0, u1, u2, u3⟩ := (HFr.out k f9 hx9).keep hB5' hBl
      have t0 : decide (k < n) = true := by simpa using hlt
      have NN := Lib.hid (map_next (f := PM.slotOf) hx)
      obtain ⟨V, hV⟩ : ∃ V, V = ((orderOf a1 fs).take k).map PM.slotOf := ⟨_, rfl⟩
      have hVl : V.length ≤ 1000 := by rw [hV, List.length_map, List.length_take]; omega
      rw [← hV] at hown NN ⊢
      have OW := Lib.hid hown
      clear hown hV
      cases a1
      · have e9 : f9 = f := by simp only [orderOf, Bool.false_eq_true, if_false] at hx; rw [hx9] at hx; exact Option.some.inj hx
        obtain rfl : f = f9 := e9.symm
        clear e9
        clear hx hx9 hol
        obtain ⟨W2, hW2⟩ : ∃ W2, W2 = (wr.alloc (.cells #[.int .i64 (f.n : Nat), .int .i64 (f.d : Nat), .int .u64 (f.m : Nat), .int .i64 (f.c : Nat)] 62)).alloc (.cells #[.int .i64 (f.n : Nat), .int .i64 (f.d : Nat), .int .u64 (f.m : Nat), .int .i64 (f.c : Nat)] 59) := ⟨_, rfl⟩
        have hsz1 : (wr.alloc (.cells #[.int .i64 (f.n : Nat), .int .i64 (f.d : Nat), .int .u64 (f.m : Nat), .int .i64 (f.c : Nat)] 62)).heap.size = wr.heap.size + 1 := by simp
        have HNB := Lib.hid (show ((wr.alloc (.cells #[.int .i64 (f.n : Nat), .int .i64 (f.d : Nat), .int .u64 (f.m : Nat), .int .i64 (f.c : Nat)] 62)).alloc (.cells #[.int .i64 (f.n : Nat), .int .i64 (f.d : Nat), .int .u64 (f.m : Nat), .int .i64 (f.c : Nat)] 59)).heap[wr.heap.size + 1]? = some (.cells #[.int .i64 (f.n : Nat), .int .i64 (f.d : Nat), .int .u64 (f.m : Nat), .int .i64 (f.c : Nat)] 59 (0, 0)) by have := heap_alloc_new (wr.alloc (.cells #[.int .i64 (f.n : Nat), .int .i64 (f.d : Nat), .int .u64 (f.m : Nat), .int .i64 (f.c : Nat)] 62)) (.cells #[.int .i64 (f.n : Nat), .int .i64 (f.d : Nat), .int .u64 (f.m : Nat), .int .i64 (f.c : Nat)] 59); rwa [hsz1] at this)
        have hB01 : Below w5.heap.size w5 (wr.alloc (.cells #[.int .i64 (f.n : Nat), .int .i64 (f.d : Nat), .int .u64 (f.m : Nat), .int .i64 (f.c : Nat)] 62)) := hBl.alloc hBs _
        have HBW := Lib.hid (show Below w5.heap.size w5 ((wr.alloc (.cells #[.int .i64 (f.n : Nat), .int .i64 (f.d : Nat), .int .u64 (f.m : Nat), .int .i64 (f.c : Nat)] 62)).alloc (.cells #[.int .i64 (f.n : Nat), .int .i64 (f.d : Nat), .int .u64 (f.m : Nat), .int .i64 (f.c : Nat)] 59)) from hB01.alloc hB01.size _)
        have HOW := Lib.hid (show ((wr.alloc (.cells #[.int .i64 (f.n : Nat), .int .i64 (f.d : Nat), .int .u64 (f.m : Nat), .int .i64 (f.c : Nat)] 62)).alloc (.cells #[.int .i64 (f.n : Nat), .int .i64 (f.d : Nat), .int .u64 (f.m : Nat), .int .i64 (f.c : Nat)] 59)).ownsRow w5.heap.size 59 4 (.slice A V.length cp) V.length (V.flatMap slC) from (OW.out.alloc _).alloc _)
        have HSZ := Lib.hid (show w5.heap.size ≤ ((wr.alloc (.cells #[.int .i64 (f.n : Nat), .int .i64 (f.d : Nat), .int .u64 (f.m : Nat), .int .i64 (f.c : Nat)] 62)).alloc (.cells #[.int .i64 (f.n : Nat), .int .i64 (f.d : Nat), .int .u64 (f.m : Nat), .int .i64 (f.c : Nat)] 59)).heap.size from HBW.out.size)
        have HSE := Lib.hid (show ((wr.alloc (.cells #[.int .i64 (f.n : Nat), .int .i64 (f.d : Nat), .int .u64 (f.m : Nat), .int .i64 (f.c : Nat)] 62)).alloc (.cells #[.int .i64 (f.n : Nat), .int .i64 (f.d : Nat), .int .u64 (f.m : Nat), .int .i64 (f.c : Nat)] 59)).heap.size = wr.heap.size + 1 + 1 by simp)
        clear hW2 hsz1 hB01
        go_wp2_with (first
          | (at_builtin; refine wpList_append_lies _ rfl _ _ 36 rfl w5.heap.size 59 i0 _ 4 32 Try.underlying36 hi hz0 hz1 hz2 rfl (by decide) (.slice A V.length cp) V.length (V.flatMap slC) rfl HOW.out ⟨wr.heap.size + 1, 0, none⟩ 1 1 [.int .i64 (f.n : Nat), .int .i64 (f.d : Nat), .int .u64 (f.m : Nat), .int .i64 (f.c : Nat)] rfl rfl (World.news_of_block (cs := #[.int .i64 (f.n : Nat), .int .i64 (f.d : Nat), .int .u64 (f.m : Nat), .int .i64 (f.c : Nat)]) (t := 59) (fr := (0, 0)) HNB.out) (by simp [Value.oneCell']) (by omega) (by unfold maxLen; omega) (by omega) HSZ.out (wr.heap.size + 1 + 1) HSE.out ?_; intro gg cap' w7 hown3 hgrow hat hlt3))
        have hB6 : Below w5.heap.size w5 w7 := HBW.out.grown hgrow HSZ.out (fun i e => (OW.out.lt i e).1)
        have hown6 : w7.ownsRow w5.heap.size 59 4 (.slice (some ⟨gg, 0, none⟩) (V ++ [PM.slotOf f]).length cap') (V ++ [PM.slotOf f]).length ((V ++ [PM.slotOf f]).flatMap slC) := by
          rw [List.length_append, List.flatMap_append]
          simpa [slC, PM.slotOf] using hown3
        go_roundw
        case rel => exact ⟨k + 1, some ⟨gg, 0, none⟩, cap', by go_num, by rw [NN.out]; simp, by omega, hB6, by rw [NN.out]; exact hown6⟩
        case measure => simp [intOf]; omega
      · obtain ⟨q, hq⟩ : ∃ q, q = n - 1 - k := ⟨_, rfl⟩
        have hxq : fs[q]? = some f := by
          simp only [orderOf, if_true] at hx
          rw [List.getElem?_reverse (by rw [Q.out.2.2]; exact hlt), Q.out.2.2, ← hq] at hx
          exact hx
        have hqn : q < n := by omega
        have hBwr : B < wr.heap.size := by omega
        have hqi : (n : Int) - 1 - (k : Int) = (q : Int) := by omega
        obtain ⟨v0, v1, v2, v3⟩ := (HFr.out q f hxq).keep hB5' hBl
        clear hx hx9 hol hxq hq
        obtain ⟨W2, hW2⟩ : ∃ W2, W2 = (wr.alloc (.cells #[.int .i64 (f.n : Nat), .int .i64 (f.d : Nat), .int .u64 (f.m : Nat), .int .i64 (f.c : Nat)] 62)).alloc (.cells #[.int .i64 (f.n : Nat), .int .i64 (f.d : Nat), .int .u64 (f.m : Nat), .int .i64 (f.c : Nat)] 59) := ⟨_, rfl⟩
        have hsz1 : (wr.alloc (.cells #[.int .i64 (f.n : Nat), .int .i64 (f.d : Nat), .int .u64 (f.m : Nat), .int .i64 (f.c : Nat)] 62)).heap.size = wr.heap.size + 1 := by simp
        have HNB := Lib.hid (show ((wr.alloc (.cells #[.int .i64 (f.n : Nat), .int .i64 (f.d : Nat), .int .u64 (f.m : Nat), .int .i64 (f.c : Nat)] 62)).alloc (.cells #[.int .i64 (f.n : Nat), .int .i64 (f.d : Nat), .int .u64 (f.m : Nat), .int .i64 (f.c : Nat)] 59)).heap[wr.heap.size + 1]? = some (.cells #[.int .i64 (f.n : Nat), .int .i64 (f.d : Nat), .int .u64 (f.m : Nat), .int .i64 (f.c : Nat)] 59 (0, 0)) by have := heap_alloc_new (wr.alloc (.cells #[.int .i64 (f.n : Nat), .int .i64 (f.d : Nat), .int .u64 (f.m : Nat), .int .i64 (f.c : Nat)] 62)) (.cells #[.int .i64 (f.n : Nat), .int .i64 (f.d : Nat), .int .u64 (f.m : Nat), .int .i64 (f.c : Nat)] 59); rwa [hsz1] at this)
        have hB01 : Below w5.heap.size w5 (wr.alloc (.cells #[.int .i64 (f.n : Nat), .int .i64 (f.d : Nat), .int .u64 (f.m : Nat), .int .i64 (f.c : Nat)] 62)) := hBl.alloc hBs _
        have HBW := Lib.hid (show Below w5.heap.size w5 ((wr.alloc (.cells #[.int .i64 (f.n : Nat), .int .i64 (f.d : Nat), .int .u64 (f.m : Nat), .int .i64 (f.c : Nat)] 62)).alloc (.cells #[.int .i64 (f.n : Nat), .int .i64 (f.d : Nat), .int .u64 (f.m : Nat), .int .i64 (f.c : Nat)] 59)) from hB01.alloc hB01.size _)
        have HOW := Lib.hid (show ((wr.alloc (.cells #[.int .i64 (f.n : Nat), .int .i64 (f.d : Nat), .int .u64 (f.m : Nat), .int .i64 (f.c : Nat)] 62)).alloc (.cells #[.int .i64 (f.n : Nat), .int .i64 (f.d : Nat), .int .u64 (f.m : Nat), .int .i64 (f.c : Nat)] 59)).ownsRow w5.heap.size 59 4 (.slice A V.length cp) V.length (V.flatMap slC) from (OW.out.alloc _).alloc _)
        have HSZ := Lib.hid (show w5.heap.size ≤ ((wr.alloc (.cells #[.int .i64 (f.n : Nat), .int .i64 (f.d : Nat), .int .u64 (f.m : Nat), .int .i64 (f.c : Nat)] 62)).alloc (.cells #[.int .i64 (f.n : Nat), .int .i64 (f.d : Nat), .int .u64 (f.m : Nat), .int .i64 (f.c : Nat)] 59)).heap.size from HBW.out.size)
        have HSE := Lib.hid (show ((wr.alloc (.cells #[.int .i64 (f.n : Nat), .int .i64 (f.d : Nat), .int .u64 (f.m : Nat), .int .i64 (f.c : Nat)] 62)).alloc (.cells #[.int .i64 (f.n : Nat), .int .i64 (f.d : Nat), .int .u64 (f.m : Nat), .int .i64 (f.c : Nat)] 59)).heap.size = wr.heap.size + 1 + 1 by simp)
        clear hW2 hsz1 hB01
        go_wp2_with (first
          | (at_builtin; refine wpList_append_lies _ rfl _ _ 36 rfl w5.heap.size 59 i0 _ 4 32 Try.underlying36 hi hz0 hz1 hz2 rfl (by decide) (.slice A V.length cp) V.length (V.flatMap slC) rfl HOW.out ⟨wr.heap.size + 1, 0, none⟩ 1 1 [.int .i64 (f.n : Nat), .int .i64 (f.d : Nat), .int .u64 (f.m : Nat), .int .i64 (f.c : Nat)] rfl rfl (World.news_of_block (cs := #[.int .i64 (f.n : Nat), .int .i64 (f.d : Nat), .int .u64 (f.m : Nat), .int .i64 (f.c : Nat)]) (t := 59) (fr := (0, 0)) HNB.out) (by simp [Value.oneCell']) (by omega) (by unfold maxLen; omega) (by omega) HSZ.out (wr.heap.size + 1 + 1) HSE.out ?_; intro gg cap' w7 hown3 hgrow hat hlt3))
        have hB6 : Below w5.heap.size w5 w7 := HBW.out.grown hgrow HSZ.out (fun i e => (OW.out.lt i e).1)
        have hown6 : w7.ownsRow w5.heap.size 59 4 (.slice (some ⟨gg, 0, none⟩) (V ++ [PM.slotOf f]).length cap') (V ++ [PM.slotOf f]).length ((V ++ [PM.slotOf f]).flatMap slC) := by
          rw [List.length_append, List.flatMap_append]
          simpa [slC, PM.slotOf] using hown3
        go_roundw
        case rel => exact ⟨k + 1, some ⟨gg, 0, none⟩, cap', by go_num, by rw [NN.out]; simp, by omega, hB6, by rw [NN.out]; exact hown6⟩
        case measure => simp [intOf]; omega
    · obtain rfl : k = n := by omega
      obtain ⟨l, hle⟩ : ∃ l, l = (orderOf a1 fs).map PM.slotOf := ⟨_, rfl⟩
      have ek : ((orderOf a1 fs).take k).map PM.slotOf = l := by
        rw [hle, List.take_of_length_le]
        rw [orderOf_len, Q.out.2.2]; exact Nat.le_refl _
      rw [ek] at hown ⊢
      have hll : l.length = k := by rw [hle, List.length_map, orderOf_len, Q.out.2.2]
      have hok := Q.out.1
      obtain ⟨dr, hdr⟩ : ∃ dr, dr = List.replicate m false := ⟨_, rfl⟩
      have hHP5 := HP5.out
      rw [← hdr] at hHP5
      have HP5 := Lib.hid hHP5
      have hdd : ∀ f ∈ fs, dr[f.n]? ≠ some true := fun f _ h => by rw [hdr] at h; have := List.mem_of_getElem? h; simp at this
      have hmany : PM.many fs dr false l (PM.zero fs) = (0, fs) := by rw [hle]; exact full_take a1 hok hdd
      have hgive : PM.many fs dr true l fs = (0, PM.zero fs) := PM.take_give_many HP5.out.inv hmany
      have hsok : ∀ s ∈ l, SlOk s := fun s hs => by
        rw [hle] at hs
        obtain ⟨f, hf, rfl⟩ := List.mem_map.1 hs
        have hf' : f ∈ fs := by cases a1 <;> simpa [orderOf] using hf
        exact slotOf_ok (hok.ok f hf') (by have := hok.node f hf'; have := hok.nodes; omega) (Q.out.2.1 f hf')
      have hsl := own_slots hown
      obtain ⟨sl0, hsl0⟩ := get_lt (l := l) (k := 0) (by rw [hll]; exact hnpos)
      obtain ⟨AB, ao, rfl, hAB, hAc⟩ := hsl.at_ hsl0
      have hABy : w5.heap.size ≤ AB := by
        rcases hown.2 with ⟨e, _⟩ | ⟨g9, cap9, cur9, e, _⟩
        · cases e
        · cases e; exact (hown.lt _ rfl).1
      have HPr := Lib.hid (HP5.out.keep hBl)
      have hBr := Lib.hid (below_step HB5.out hBl)
      have bBr := Lib.hid ((hBl.block B hB5').trans HR5.out)
      have hgl := HPr.out.lt
      have hT := take_any p g dm fs (PM.zero fs) dr (some ⟨AB, ao, none⟩) cp l wr HPr.out hsok hsl (fun _ b off e => by cases e; omega) (by rw [hll]; unfold maxLen; omega)
      rw [PM.whole_of_many hmany, hll] at hT
      rw [hll]
      have H := Lib.hid (And.intro hok (And.intro hdd (And.intro hmany (And.intro hgive (And.intro hsok (And.intro hsl (And.intro hll hAB)))))))
      have hw5r : w5.heap.size ≤ wr.heap.size := hBl.size
      clear hown hle ek hok hdr hHP5 hdd hmany hgive hsok hsl hsl0 hAc hlt hBl
      go_wp2_with fail
      refine hT.mono ?_
      rintro e w8 ⟨rfl, g8, hp8, hf8, hg8⟩
      have HP8 := Lib.hid hp8
      have hg8w : w.heap.size ≤ g8 ∧ g8 ≠ B ∧ g8 ≠ AB := by have := H.out.2.2.2.2.2.2.2; omega
      have s8 := hf8.size
      have hB8 := Lib.hid (hBr.out.trans (hf8.below hBr.out.size (by rintro i (rfl | rfl) <;> omega)))
      have bB8 := Lib.hid ((hf8.block B (by omega) (by omega)).trans bBr.out)
      have bA8 := Lib.hid (hf8.block AB H.out.2.2.2.2.2.2.2 (by omega))
      clear hp8 hf8 hT hg8
      have hO8 := out_any p g8 dm fs fs dr w8 HP8.out
      obtain ⟨gA, hgA⟩ : ∃ x, x = gsum fs := ⟨_, rfl⟩
      obtain ⟨cA, hcA⟩ : ∃ x, x = csum fs := ⟨_, rfl⟩
      rw [← hgA, ← hcA] at hO8
      have hC8 := fun W (h : W.heap[B]? = some (rowBlk fs)) => refcount_row (some ⟨B, 0, none⟩) k fs W (blk_frees h) H.out.1.few H.out.1.ok
      rw [← hgA, ← hcA, Q.out.2.2] at hC8
      have hC8 := Lib.hid hC8
      have hO8 := Lib.hid hO8
      clear hgA hcA
      go_wp2_with fail
      refine hO8.out.mono ?_
      rintro e w9 ⟨rfl, hb9⟩
      have HP9 := Lib.hid (HP8.out.keep hb9)
      have hB9 := Lib.hid (below_step hB8.out hb9)
      have bB9 := Lib.hid ((hb9.block B (by omega)).trans bB8.out)
      have bA9 := Lib.hid ((hb9.block AB (by have := H.out.2.2.2.2.2.2.2; omega)).trans bA8.out)
      have s9 := hb9.size
      clear hb9
      go_wp2_with fail
      refine (hC8.out w9 bB9.out).mono ?_
      rintro e w10 ⟨rfl, hb10⟩
      have HP10 := Lib.hid (HP9.out.keep hb10)
      have hB10 := Lib.hid (below_step hB9.out hb10)
      have bB10 := Lib.hid ((hb10.block B (by omega)).trans bB9.out)
      have bA10 := Lib.hid ((hb10.block AB (by have := H.out.2.2.2.2.2.2.2; omega)).trans bA9.out)
      have s10 := hb10.size
      clear hb10
      have hF10 := free_any p g8 dm fs fs dr w10 HP10.out
      rw [Q.out.2.2] at hF10
      go_wp2_with fail
      refine hF10.mono ?_
      rintro e w11 ⟨rfl, hr11, hb11⟩
      obtain ⟨NB, hNB⟩ : ∃ NB, NB = w10.heap.size := ⟨_, rfl⟩
      rw [← hNB] at hr11 ⊢
      have hNBl : NB < w11.heap.size := blk_lt hr11
      have HP11 := Lib.hid (HP10.out.keep hb11)
      have hB11 := Lib.hid (below_step hB10.out hb11)
      have bB11 := Lib.hid ((hb11.block B (by omega)).trans bB10.out)
      have bA11 := Lib.hid ((hb11.block AB (by have := H.out.2.2.2.2.2.2.2; omega)).trans bA10.out)
      have bN11 := Lib.hid hr11
      have s11 := hb11.size
      have hl10 := HP10.out.lt
      have hg11 : g8 ≠ NB ∧ p ≠ NB ∧ w.heap.size ≤ NB := by have := hB10.out.size; omega
      have hAl := H.out.2.2.2.2.2.2.2
      have hAp : p ≠ AB ∧ p ≠ B := by omega
      clear hr11 hb11 hF10 hNB hO8 hC8 hl10
      go_wp2_with fail
      go_loopw [12] (fun i wq => ∃ j : Nat, i = .int .i64 j ∧ j ≤ k ∧ w11.heap.size ≤ wq.heap.size ∧ Hid (Below w.heap.size w wq ∧ (∃ g', PoolAt wq T p g' dm fs fs dr ∧ w.heap.size ≤ g' ∧ g' ≠ B ∧ g' ≠ AB ∧ g' ≠ NB) ∧ wq.heap[B]? = some (rowBlk fs) ∧ wq.heap[AB]? = wr.heap[AB]? ∧ wq.heap[NB]? = some (rowBlk (PM.free fs fs)))) (fun i _ => k - (intOf i).toNat)
      case atStart => exact ⟨0, rfl, by omega, Nat.le_refl _, Lib.hid ⟨hB11.out, ⟨g8, HP11.out, by omega, by omega, by omega, by omega⟩, bB11.out, bA11.out, bN11.out⟩⟩
      case round =>
        obtain ⟨j, rfl, hj, hszq, hin⟩ := hrel
        obtain ⟨hBq, ⟨gq, hPq, hgq1, hgq2, hgq3, hgq4⟩, bBq, bAq, bNq⟩ := hin.out
        by_cases hjl : j < k
        · obtain ⟨f, hx⟩ := get_lt (l := fs) (k := j) (by rw [Q.out.2.2]; exact hjl)
          have hxf : (PM.free fs fs)[j]? = some (PM.freeOf f f) := PM.free_at hx hx
          have hfz := free_full fs _ (List.mem_of_getElem? hxf)
          have hmem := List.mem_of_getElem? hx
          have hfra : FrAt wr NB (j * 4) (PM.freeOf f f) := by
            rcases blk_frees bNq with e | ⟨b, off, e, _, hc⟩
            · rw [e] at hxf; simp at hxf
            · cases e; have := hc j _ hxf; rwa [Nat.zero_add] at this
          obtain ⟨u0, u1, u2, u3⟩ := hfra
          rw [hfz.1] at u2
          rw [hfz.2] at u3
          simp only [PM.freeOf] at u0 u1
          have hok := H.out.1
          have hfb := hok.ok f hmem
          have hfnode := hok.node f hmem
          have hnod := hok.nodes
          have hfd := Q.out.2.1 f hmem
          have sok0 : SlOk ⟨(f.n : Int), (f.d : Int), 0, 0⟩ := ⟨wf_nat (by omega), wf_nat (by omega), (by decide : (0 : Nat) < 18446744073709551616), (by decide : (Lit.int .i64 0).wf = true)⟩
          have sok1 : SlOk ⟨(f.n : Int), (f.d : Int), 0, 1⟩ := ⟨wf_nat (by omega), wf_nat (by omega), (by decide : (0 : Nat) < 18446744073709551616), (by decide : (Lit.int .i64 1).wf = true)⟩
          have hfind := PM.find_eq hx rfl rfl (spot_once hok.dup)
          have hm0 := (PM.full_more (dr := dr) (s := ⟨(f.n : Int), (f.d : Int), 0, 0⟩) hfind hx hx (H.out.2.1 f hmem) rfl rfl).1 rfl
          have hm1 := (PM.full_more (dr := dr) (s := ⟨(f.n : Int), (f.d : Int), 0, 1⟩) hfind hx hx (H.out.2.1 f hmem) rfl rfl).2 (by decide : (0 : Int) < 1)
          have hm1' : PM.one fs dr false ⟨(f.n : Int), (f.d : Int), 0, 1⟩ fs = (5, fs) := by
            rcases PM.one_cases fs dr false ⟨(f.n : Int), (f.d : Int), 0, 1⟩ fs hPq.inv with ⟨_, e⟩ | ⟨_, _, _, _, _, _, _, e, _⟩
            · exact Prod.ext hm1 e
            · rw [e] at hm1; cases hm1
          obtain ⟨W1, hW1⟩ : ∃ W1, W1 = wr.alloc (.cells #[.int .i64 (f.n : Nat), .int .i64 (f.d : Nat), .int .u64 0, .int .i64 0] 59) := ⟨_, rfl⟩
          have hz1 : W1.heap.size = wr.heap.size + 1 := by rw [hW1]; simp
          have bS1 : W1.heap[wr.heap.size]? = some (.cells #[.int .i64 (f.n : Nat), .int .i64 (f.d : Nat), .int .u64 0, .int .i64 0] 59 (0, 0)) := by rw [hW1]; exact heap_alloc_new wr _
          have hBW1 : Below wr.heap.size wr W1 := by rw [hW1]; exact (Below.refl _ _).alloc (Nat.le_refl _) _
          have hlq := hPq.lt
          have hT0 := take_one' p gq dm W1.heap.size fs fs dr ⟨(f.n : Int), (f.d : Int), 0, 0⟩ (W1.alloc (.cells #[.int .i64 (f.n : Nat), .int .i64 (f.d : Nat), .int .u64 0, .int .i64 0] 59)) (hPq.keep (hBW1.alloc hBW1.size _)) sok0 (heap_alloc_new W1 _) (by omega)
          rw [hm0, hz1] at hT0
          have HT0 := Lib.hid hT0
          have HW1 := Lib.hid hW1
          have J := Lib.hid (And.intro hBq (And.intro bBq (And.intro bAq (And.intro bNq (And.intro bS1 (And.intro hBW1 (And.intro hm1' sok1)))))))
          have hz1' : W1.heap.size ≤ wr.heap.size + 1 ∧ wr.heap.size + 1 ≤ W1.heap.size := by omega
          have tj : decide (j < k) = true := decide_eq_true hjl
          have hBwr : NB < wr.heap.size := by omega
          clear hx hxf hfz hmem hok hfb hfnode hnod hfd sok0 sok1 hfind hm0 hm1 hm1' hW1 hz1 bS1 hBW1 hT0 hBq bBq bAq bNq hPq hin
          go_wp2_with fail
          rw [← HW1.out]
          refine HT0.out.mono ?_
          rintro e v1 ⟨rfl, gv, hpv, hfv, hgv⟩
          have sv := hfv.size
          simp at sv hgv
          have bSv := Lib.hid ((hfv.block wr.heap.size (by simp; omega) (by omega)).trans ((Below.heap_alloc W1 _ _ (by omega)).trans J.out.2.2.2.2.1))
          have HPv := Lib.hid hpv
          have hfW : Foot (fun i => i = p ∨ i = gq) wr v1 := (Foot.of_below (J.out.2.2.2.2.2.1.alloc J.out.2.2.2.2.2.1.size _)).trans hfv (fun i hi => .inl hi)
          have HfW := Lib.hid hfW
          have y0 : v1.cell? ⟨wr.heap.size, 0, none⟩ = some (.int .i64 (f.n : Nat)) := cell_blk (i := 0) bSv.out rfl
          have y1 : v1.cell? ⟨wr.heap.size, 1, none⟩ = some (.int .i64 (f.d : Nat)) := cell_blk (i := 1) bSv.out rfl
          have y2 : v1.cell? ⟨wr.heap.size, 2, none⟩ = some (.int .u64 0) := cell_blk (i := 2) bSv.out rfl
          have y3 : v1.cell? ⟨wr.heap.size, 3, none⟩ = some (.int .i64 0) := cell_blk (i := 3) bSv.out rfl
          have yz : v1.frozen? ⟨wr.heap.size, 3, none⟩ = false := frozen_blk bSv.out
          obtain ⟨v2, hv2⟩ : ∃ v2, v2 = v1.setCell ⟨wr.heap.size, 3, none⟩ (.int .i64 1) := ⟨_, rfl⟩
          have hf2 : Foot (· = wr.heap.size) v1 v2 := by rw [hv2]; refine Foot.setCell (F := (· = wr.heap.size)) (p := ⟨wr.heap.size, 3, none⟩) (Foot.refl _ _) (.inl ?_) _; rfl
          have hz2 : v2.heap.size = v1.heap.size := by rw [hv2]; simp [World.setCell]
          have hlv := hpv.lt
          have hTw : ∀ i, T i → i < w4.heap.size := HP.out.old
          have HP2 := Lib.hid (hpv.foot hf2 (by rintro i rfl; exact ⟨fun h => by have := hTw _ h; omega, by omega, by omega, by omega⟩))
          have hT1 := take_one' p gv dm v2.heap.size fs fs dr ⟨(f.n : Int), (f.d : Int), 0, 1⟩ (v2.alloc (.cells #[.int .i64 (f.n : Nat), .int .i64 (f.d : Nat), .int .u64 0, .int .i64 1] 59)) (HP2.out.keep ((Below.refl _ _).alloc (Nat.le_refl _) _)) J.out.2.2.2.2.2.2.2 (heap_alloc_new v2 _) (by omega)
          rw [J.out.2.2.2.2.2.2.1, hz2] at hT1
          have HT1 := Lib.hid hT1
          have Hv2 := Lib.hid (And.intro hv2 hf2)
          have hz2' : v2.heap.size ≤ v1.heap.size ∧ v1.heap.size ≤ v2.heap.size := by omega
          clear hpv hfv hfW hv2 hf2 hz2 hT1 hTw
          go_wp2_with fail
          rw [← Hv2.out.1]
          refine HT1.out.mono ?_
          rintro e v3 ⟨rfl, g3, hp3, hf3, hg3⟩
          simp at hg3
          have s3 := hf3.size
          simp at s3
          have HP3 := Lib.hid hp3
          have hFa : Foot (fun i => i = p ∨ i = gq ∨ i = gv ∨ wr.heap.size ≤ i) wr v3 :=
            (((HfW.out.mono (fun i hi => by rcases hi with h | h; exact .inl h; exact .inr (.inl h))).trans Hv2.out.2 (fun i hi => .inr (by have h9 : i = wr.heap.size := hi; omega))).alloc _).trans hf3 (fun i hi => by
              rcases hi with h | h
              · exact .inl (.inl h)
              · exact .inl (.inr (.inr (.inl h))))
          have HFa := Lib.hid hFa
          have hgvb : gv ≠ B ∧ gv ≠ AB ∧ gv ≠ NB ∧ w.heap.size ≤ gv := by have := J.out.1.size; omega
          clear hp3 hf3 hFa
          go_wp2
          go_roundw
          case rel =>
            obtain ⟨j1, j2, j3, j4, _⟩ := J.out
            have hw := j1.size
            refine ⟨j + 1, by go_num, by omega, by omega, Lib.hid ⟨j1.trans (HFa.out.below j1.size (by rintro i (rfl | rfl | rfl | h) <;> omega)), ⟨g3, HP3.out, by omega, by omega, by omega, by omega⟩, (HFa.out.block B (by omega) (by omega)).trans j2, (HFa.out.block AB (by omega) (by omega)).trans j3, (HFa.out.block NB (by omega) (by omega)).trans j4⟩⟩
          case measure => simp [intOf]; omega
        · obtain rfl : j = k := by omega
          have hlq := hPq.lt
          have hABq : AB < wr.heap.size := by have := H.out.2.2.2.2.2.2.2; omega
          have hslq : Slots wr wr.heap.size (some ⟨AB, ao, none⟩) l := by
            rcases H.out.2.2.2.2.2.1 with e | ⟨b', o', e, hb', hc'⟩
            · exact .inl e
            · cases e; exact .inr ⟨AB, ao, rfl, hABq, fun i x hx => (hc' i x hx).of bAq⟩
          have hG := give_any p gq dm fs fs dr (some ⟨AB, ao, none⟩) cp l wr hPq H.out.2.2.2.2.1 hslq (fun _ b off e => by cases e; omega) (by rw [H.out.2.2.2.2.2.2.1]; unfold maxLen; omega)
          rw [PM.whole_of_many H.out.2.2.2.1, H.out.2.2.2.2.2.2.1] at hG
          have HG := Lib.hid hG
          have J := Lib.hid (And.intro hBq bBq)
          clear hjl hin hBq bBq bAq bNq hslq hG hPq
          go_wp2_with fail
          refine HG.out.mono ?_
          rintro e v1 ⟨rfl, gv, hpv, hfv, hgv⟩
          have HPv := Lib.hid hpv
          have bBv := Lib.hid ((hfv.block B (by omega) (by omega)).trans J.out.2)
          have hBv := Lib.hid (J.out.1.trans (hfv.below J.out.1.size (by rintro i (rfl | rfl) <;> omega)))
          have hlB : B < v1.heap.size := by have := hfv.size; omega
          have hF := free_any p gv dm fs (PM.zero fs) dr v1 hpv
          rw [free_zero, Q.out.2.2] at hF
          clear hpv hfv HG
          go_wp2_with fail
          refine hF.mono ?_
          rintro e v2 ⟨rfl, hr2, hb2⟩
          have HP2 := Lib.hid (HPv.out.keep hb2)
          have hS := same_any (some ⟨v1.heap.size, 0, none⟩) (some ⟨B, 0, none⟩) j j fs v2 (blk_frees hr2) (blk_frees ((hb2.block B hlB).trans bBv.out)) H.out.1.few
          rw [Q.out.2.2] at hS
          have HB2 := Lib.hid (below_step hBv.out hb2)
          clear hF hr2 hb2
          go_wp2_with fail
          refine hS.mono ?_
          rintro e v3 ⟨rfl, hb3⟩
          have hO := out_any p gv dm fs (PM.zero fs) dr v3 (HP2.out.keep hb3)
          rw [(sum_zero fs).1, (sum_zero fs).2] at hO
          have HB3 := Lib.hid (below_step HB2.out hb3)
          clear hS hb3
          go_wp2_with fail
          refine hO.mono ?_
          rintro e v4 ⟨rfl, hb4⟩
          have HB4' := Lib.hid (below_step HB3.out hb4)
          clear hO hb4
          go_wp2
          go_ret
          exact ⟨rfl, HB4'.out⟩

set_option maxRecDepth 100000 in
theorem lifted (os : Os) (started : os.Started) (H : Type) (enc : TypeId × Value → H) :
    ReturnsInHanded {} Try.checked os 8 .any (Rows.poolAllSpec.pre6 enc Try.prog Try.f8 Rows.poolAllRow.domain false) (Rows.poolAllSpec.post enc Try.prog Try.f8 false true false false) := by
  refine returnsInHanded_of_change (C := Try.checked) own started (by kernel_rfl) Try.func8
    (ChangeSpec.witness6 (enc := enc) (C := Try.checked) false ⟨#[], #[.agg #[.slice none 0 0], .bool false], []⟩ 8 (by kernel_rfl) (by kernel_rfl) (by kernel_rfl) (by kernel_rfl)) ?_
  intro W base args ds gs before hval0 hW _ _
  have hval : ∀ (j : Nat) t v, Try.f8.params[j]? = some t → args[j]? = some v → Value.okWide Try.prog W .any base t v := hval0
  have hW' := hW
  obtain ⟨p, q, hA0, hV, rfl, hfz, hnd⟩ := hW
  have hA : DataW.TrodAll enc Try.prog W 0 (fun _ => true) true Try.f8.params.toList args.toList ds p := hA0
  rw [Try.params8] at hA hval
  obtain ⟨v0, vs0, d0, ds0, p0, q0, hargs, rfl, rfl, h0, r0⟩ := trodAll_cons hA
  obtain ⟨v1, vs1, d1, ds1, p1, q1, rfl, rfl, rfl, h1, r1⟩ := trodAll_cons r0
  obtain ⟨rfl, rfl, rfl⟩ := trodAll_nil r1
  obtain rfl : args = #[v0, v1] := by cases args; simp_all
  obtain ⟨rfl, rfl⟩ := trodVars_none hV
  have k0 := h0
  have lt0 : ∀ x ∈ p0, x.block < W.heap.size := by obtain ⟨m, hm⟩ := k0; exact DataW.trod_lt m _ _ _ hm
  obtain ⟨a0, c0, n0, rfl, lc0, mc0, w0⟩ := clu_of (hval 0 24 v0 rfl rfl) h0
  have k1 := h1
  have lt1 : ∀ x ∈ p1, x.block < W.heap.size := by obtain ⟨m, hm⟩ := k1; exact DataW.trod_lt m _ _ _ hm
  obtain ⟨a1, rfl, _, _⟩ := open_bool Try.underlying4 (hval 1 4 v1 rfl rfl) h1
  clear hA0 hval0
  refine (walk a0 c0 n0 a1 W w0 lc0 mc0).mono fun e W' ⟨he, bel⟩ => ?_
  subst he
  exact ⟨_, rfl, _, _, _, [], _, [], hW', trodAll_mk1 (shut_bool Try.underlying4 _), (trodAll_cons_mk (Below.trod laidOut (by kernel_rfl) (of_decide_eq_true (by kernel_rfl)) k0 bel lt0) (trodAll_cons_mk (Below.trod laidOut (by kernel_rfl) (of_decide_eq_true (by kernel_rfl)) k1 bel lt1) trodAll_mk0)), rfl, bel.frame _, fun h => by cases h⟩

/-- THE STATEMENT. -/
theorem holds : Rows.PoolAllSaid :=
  OpenClaim.holds_of_wide 8 Try.f8 rfl rfl rfl rfl rfl rfl rfl ⟨rfl, rfl, rfl, rfl, rfl⟩ rfl rfl rfl rfl rfl (by kernel_rfl) Try.func8 (by kernel_rfl)
    (of_decide_eq_true (by kernel_rfl)) (by unfold Func.isWrapper; first | (rw [if_pos (by decide +kernel)]; kernel_rfl) | (rw [if_neg (by decide +kernel)]; exact ⟨rfl, rfl⟩))
    (fun os started H enc _ => lifted os started H enc)
end Go.Proofs.Ytcjkehmmkchapaa.poolAll
