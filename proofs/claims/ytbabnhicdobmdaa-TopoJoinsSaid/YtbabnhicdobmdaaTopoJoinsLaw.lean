/- Whatever two clusters: their nodes, one behind the other, are a cluster, if there aren't too many, with the spots of the first, then those of the second, so many nodes further on: the law TopoJoins answers true, at every input. -/
import Derived.Deep.QuietTactic
import Derived.BigQuiet
import Derived.Deep.RegionHeld3
import Derived.Laws.StructEq
import Derived.Test.YtbabnhicdobmdaaTopoJoin
import Derived.Test.YtbabnhicdobmdaaTopoFrame
import Derived.Test.YtbabnhicdobmdaaTopoFrame
set_option linter.unusedVariables false
namespace Go.Proofs.Ytbabnhicdobmdaa.topoJoins
open Go Go.ChangeShapes Go.WideShapes Go.ChangeAt Go.RowKit
theorem info_node : (Try.prog.info? 56).map (fun i => (i.zero, i.size, i.bytes)) = some (some (.agg #[.slice none 0 0]), 1, 24) := by kernel_rfl
theorem blk_at {w : World} {g : Nat} {t : TypeId} {l : List Fr} (h : w.heap[g]? = some (.cells (l.flatMap frC).toArray t (0, 0))) : ∀ i f, l[i]? = some f → FrAt w g (0 + i * 4) f := by
  intro i f hf
  rcases blk_frees h with e | ⟨b, o, e, _, hc⟩
  · rw [e] at hf; simp at hf
  · cases e; exact hc i f hf
theorem Cells.keep {w w' : World} {B : Nat} {A : Option Addr} {us : List Value} (h : Cells w A us) (hb : us ≠ [] → ∃ b off, A = some ⟨b, off, none⟩ ∧ b < B) (hk : Below B w w') : Cells w' A us := by
  rcases h with h | ⟨ad, rfl, h⟩
  · exact .inl h
  · by_cases he : us = []
    · subst he; exact .inr ⟨ad, rfl, fun j u hu => by simp at hu⟩
    · obtain ⟨b, off, e, hlt⟩ := hb he
      cases e
      exact .inr ⟨_, rfl, fun j u hu => by
        have := h j u hu
        rw [Addr.add_lit] at this ⊢
        exact (hk.cell (p := ⟨b, off + j, none⟩) hlt).trans this⟩
theorem step_join {P : Program} {W V : World} {ops : Array Oper} {o : Oper} {a : Act} {K : Act → World → Prop} {Q : Exit → Act → World → Prop} {E : Prop} (hV : Below V.heap.size V W) (hgd : o.guard = none) (s x : Operand) (t : TypeId)
    (ho : o.op = .call { callee := .builtin .append, args := #[s, x], argTypes := #[t, t] })
    (e : TypeId) (i : TypeInfo) (z : Value) (ht : P.underlying t = some (.slice e)) (hi : P.info? e = some i) (hz : i.zero = some z)
    (hsize : i.size = 1) (hby : i.bytes = 24) (hzs : z.cells.size = 1) (v : Value) (n : Nat) (xs : List Value) (hs : a.eval s = v) (hown : W.ownsRow V.heap.size e 1 v n xs)
    (A : Option Addr) (m c : Nat) (us : List Value) (hx : a.eval x = .slice A m c) (hm : us.length = m) (w : World) (hw : Below w.heap.size w V) (hc : Cells w A us) (hb : us ≠ [] → ∃ b off, A = some ⟨b, off, none⟩ ∧ b < w.heap.size) (h1 : ∀ u ∈ us, u.oneCell' = true) (k : Nat) (hk : n + m = k) (hle : k ≤ 80)
    (h : ∀ A' c' w', w'.ownsRow V.heap.size e 1 (.slice A' k c') k (xs ++ us) → Below V.heap.size V w' → K (a.put o.dst (.slice A' k c')) w') :
    if Region.wanted o (yielded ops a.tmps) = true then Oper.wp P o a W K Q else E := by
  refine step_append_cells W hgd s x t ho V.heap.size e i z 24 ht hi hz hsize hby hzs v n xs hs hown A m c us hx hm.symm (Cells.keep hc hb (below_step hw hV)) h1 (by unfold maxLen; omega) (by omega) hV.size ?_
  intro A' c' w' ho hg
  have e : n + us.length = k := by omega
  rw [e] at ho ⊢
  exact h A' c' w' ho (hV.grown hg hV.size (fun k e => (hown.lt k e).1))
theorem own_empty {V W : World} {e : TypeId} (h : V.heap.size ≤ W.heap.size) : (W.alloc (.cells #[] e)).ownsRow V.heap.size e 1 (.slice (some ⟨W.heap.size, 0, none⟩) 0 0) 0 [] :=
  World.ownsRow_made W #[] 0 h (Nat.zero_le _) rfl
set_option maxRecDepth 100000 in
set_option maxHeartbeats 4000000 in
theorem walk (a0 : Option Addr) (c0 : Nat) (n0 : List (List (Int × Int))) (a1 : Option Addr) (c1 : Nat) (n1 : List (List (Int × Int))) (w : World) (w0 : Nodes w w.heap.size a0 n0) (_ : n0.length ≤ c0) (_ : c0 ≤ maxLen) (w1 : Nodes w w.heap.size a1 n1) (_ : n1.length ≤ c1) (_ : c1 ≤ maxLen) :
    Calls Try.prog 6 #[.agg #[.slice a0 n0.length c0], .agg #[.slice a1 n1.length c1]] w fun e w' => e = .returned (.bool true) ∧ Below w.heap.size w w' := by
  have hA := Lib.hid awake_any
  obtain ⟨W0, hW0⟩ : ∃ W0, W0 = (w.alloc (.cells #[.slice a0 n0.length c0] 24)).alloc (.cells #[.slice a1 n1.length c1] 24) := ⟨_, rfl⟩
  have hBa : Below w.heap.size w W0 := by rw [hW0]; exact ((Below.refl w.heap.size w).alloc (Nat.le_refl _) _).alloc (by simp) _
  have bC : W0.heap[w.heap.size]? = some (.cells #[.slice a0 n0.length c0] 24 (0, 0)) := by rw [hW0]; exact (Below.heap_alloc _ _ _ (by simp)).trans (heap_alloc_new w _)
  have bS : W0.heap[w.heap.size + 1]? = some (.cells #[.slice a1 n1.length c1] 24 (0, 0)) := by
    have := heap_alloc_new (w.alloc (.cells #[.slice a0 n0.length c0] 24)) (.cells #[.slice a1 n1.length c1] 24)
    rw [hW0]; simpa using this
  have c00 : W0.cell? ⟨w.heap.size, 0, none⟩ = some (.slice a0 n0.length c0) := cell_blk (i := 0) bC rfl
  have c10 : W0.cell? ⟨w.heap.size + 1, 0, none⟩ = some (.slice a1 n1.length c1) := cell_blk (i := 0) bS rfl
  have lS := blk_lt bS
  have EW := Lib.hid hW0
  clear bC bS hW0
  cases hf : fewB n0
  · have hF := Lib.hid (fun W hW => few_law a0 c0 n0 w W w0 hW false hf)
    clear hf w0 w1
    go_enter Try.func6, Try.ntmps6
    go_wp2_with (first
      | (go_at_call 8; rw [← EW.out]; refine (hA.out _).mono ?_; rintro e v1 ⟨rfl, hb1⟩; have hB1 := below_step hBa hb1; have k1 := (hb1.cell (p := ⟨w.heap.size, 0, none⟩) (show w.heap.size < _ by omega)).trans c00; have l1 := (hb1.cell (p := ⟨w.heap.size + 1, 0, none⟩) lS).trans c10)
      | (go_at_call 9; refine (hF.out _ hB1).mono ?_; rintro e v2 ⟨rfl, hb2⟩; have hB2 := below_step hB1 hb2))
    go_ret
    exact ⟨rfl, hB2⟩
  · have hF := Lib.hid (fun W hW => few_law a0 c0 n0 w W w0 hW true hf)
    cases hf1 : fewB n1
    · have hF1 := Lib.hid (fun W hW => few_law a1 c1 n1 w W w1 hW false hf1)
      clear hf hf1 w0 w1
      go_enter Try.func6, Try.ntmps6
      go_wp2_with (first
        | (go_at_call 8; rw [← EW.out]; refine (hA.out _).mono ?_; rintro e v1 ⟨rfl, hb1⟩; have hB1 := below_step hBa hb1; have k1 := (hb1.cell (p := ⟨w.heap.size, 0, none⟩) (show w.heap.size < _ by omega)).trans c00; have l1 := (hb1.cell (p := ⟨w.heap.size + 1, 0, none⟩) lS).trans c10; have s1 := hb1.size)
        | (go_at_call 9; (with_reducible refine (hF.out _ hB1).mono ?_); rintro e v2 ⟨rfl, hb2⟩; have hB2 := below_step hB1 hb2; have k2 := (hb2.cell (p := ⟨w.heap.size, 0, none⟩) (show w.heap.size < _ by omega)).trans k1; have l2 := (hb2.cell (p := ⟨w.heap.size + 1, 0, none⟩) (show w.heap.size + 1 < _ by omega)).trans l1)
        | (go_at_call 9; (with_reducible refine (hF1.out _ hB2).mono ?_); rintro e v3 ⟨rfl, hb3⟩; have hB3 := below_step hB2 hb3))
      go_ret
      exact ⟨rfl, hB3⟩
    · have hF1 := Lib.hid (fun W hW => few_law a1 c1 n1 w W w1 hW true hf1)
      have hN := Lib.hid (fun W (hW : Below w.heap.size w W) => new_gen a0 c0 w.heap.size n0 W (Nodes.keep w0 hW (Nat.le_refl _)) hW.size)
      have hN1 := Lib.hid (fun W (hW : Below w.heap.size w W) => new_gen a1 c1 w.heap.size n1 W (Nodes.keep w1 hW (Nat.le_refl _)) hW.size)
      obtain ⟨us, hus, hcs, ho1, hcb⟩ := nodes_vals w0
      obtain ⟨us1, hus1, hcs1, ho11, hcb1⟩ := nodes_vals w1
      have fl := few_len hf
      have fl1 := few_len hf1
      obtain ⟨i0, hi, hz0, hz1, hz2⟩ := info_parts info_node
      obtain ⟨n, hn⟩ : ∃ n, n0.length = n := ⟨_, rfl⟩
      obtain ⟨m, hm⟩ : ∃ m, n1.length = m := ⟨_, rfl⟩
      have hul : us.length = n := hus.1.trans hn
      have hul1 : us1.length = m := hus1.1.trans hm
      obtain ⟨L, hL⟩ : ∃ L, n + m = L := ⟨_, rfl⟩
      have hLL : (n0 ++ n1).length = L := by rw [List.length_append, hn, hm, hL]
      have hvv := hus.append hus1
      have hN2 := Lib.hid (fun (W : World) (hW : Below w.heap.size w W) (base : Nat) (A : Option Addr) (c : Nat) (ho : W.ownsRow base 56 1 (.slice A L c) L (us ++ us1)) => by
        rw [← hLL] at ho
        have := new_gen A c W.heap.size (n0 ++ n1) W (own_nodes ho (hvv.keep hW (Nat.le_refl _)) hW.size) (Nat.le_refl _)
        rw [hLL] at this
        exact this)
      rw [hn] at c00 hF hN fl EW ⊢
      rw [hm] at c10 hF1 hN1 fl1 EW ⊢
      have Q := Lib.hid (And.intro hn (And.intro hm (And.intro hus (And.intro hus1 (And.intro hul (And.intro hul1 (And.intro ho1 ho11)))))))
      clear hf hf1 w0 w1 hn hm hus hus1 hul hul1 ho1 ho11
      go_enter Try.func6, Try.ntmps6
      go_wp2_with (first
        | (go_at_call 8; rw [← EW.out]; refine (hA.out _).mono ?_; rintro e v1 ⟨rfl, hb1⟩; have hB1 := below_step hBa hb1; have k1 := (hb1.cell (p := ⟨w.heap.size, 0, none⟩) (show w.heap.size < _ by omega)).trans c00; have l1 := (hb1.cell (p := ⟨w.heap.size + 1, 0, none⟩) lS).trans c10; have s1 := hb1.size)
        | (go_at_call 9; (with_reducible refine (hF.out _ hB1).mono ?_); rintro e v2 ⟨rfl, hb2⟩; have hB2 := below_step hB1 hb2; have k2 := (hb2.cell (p := ⟨w.heap.size, 0, none⟩) (show w.heap.size < _ by omega)).trans k1; have l2 := (hb2.cell (p := ⟨w.heap.size + 1, 0, none⟩) (show w.heap.size + 1 < _ by omega)).trans l1; have s2 := hb2.size)
        | (go_at_call 9; (with_reducible refine (hF1.out _ hB2).mono ?_); rintro e v3 ⟨rfl, hb3⟩; have hB3 := below_step hB2 hb3; have k3 := (hb3.cell (p := ⟨w.heap.size, 0, none⟩) (show w.heap.size < _ by omega)).trans k2; have l3 := (hb3.cell (p := ⟨w.heap.size + 1, 0, none⟩) (show w.heap.size + 1 < _ by omega)).trans l2; have s3 := hb3.size)
        | (go_at_call 10; (with_reducible refine (hN.out _ hB3).mono ?_); rintro e v4 ⟨px, ex, rfl, hb4, hX⟩; have hB4 := below_step hB3 hb4; have k4 := (hb4.cell (p := ⟨w.heap.size, 0, none⟩) (show w.heap.size < _ by omega)).trans k3; have l4 := (hb4.cell (p := ⟨w.heap.size + 1, 0, none⟩) (show w.heap.size + 1 < _ by omega)).trans l3; have s4 := hb4.size)
        | (go_at_call 10; (with_reducible refine (hN1.out _ hB4).mono ?_); rintro e v5 ⟨py, ey, rfl, hb5, hY⟩; have hB5 := below_step hB4 hb5; have k5 := (hb5.cell (p := ⟨w.heap.size, 0, none⟩) (show w.heap.size < _ by omega)).trans k4; have l5 := (hb5.cell (p := ⟨w.heap.size + 1, 0, none⟩) (show w.heap.size + 1 < _ by omega)).trans l4; have s5 := hb5.size))
      go_region_held3 (fun w' => w'.cell? ⟨w.heap.size, 0, none⟩ = some (.slice a0 n c0) ∧ w'.cell? ⟨w.heap.size + 1, 0, none⟩ = some (.slice a1 m c1))
        (first | exact ⟨k8, l8⟩ | exact ⟨k7, l7⟩ | exact ⟨k6, l6⟩ | (go_keep))
        (first
          | (refine step_join (V := v5) b6 (by rfl) _ _ _ (by rfl) 56 i0 _ Try.underlying22 hi hz0 hz1 hz2 rfl _ n us (by rfl) own6 a1 m c1 us1 (by rfl) Q.out.2.2.2.2.2.1 w hB5 hcs1 hcb1 Q.out.2.2.2.2.2.2.2 L (by omega) (by omega) ?_
             intro A2 c2 w7 own7 b7
             have k7 := (b7.cell (p := ⟨w.heap.size, 0, none⟩) (show w.heap.size < _ by omega)).trans k5
             have l7 := (b7.cell (p := ⟨w.heap.size + 1, 0, none⟩) (show w.heap.size + 1 < _ by omega)).trans l5)
          | (refine step_join (V := v5) ((((Below.refl v5.heap.size v5).drew).alloc (by simp) _)) (by rfl) _ _ _ (by rfl) 56 i0 _ Try.underlying22 hi hz0 hz1 hz2 rfl _ 0 [] (by rfl) (own_empty (by simp)) a0 n c0 us (by rfl) Q.out.2.2.2.2.1 w hB5 hcs hcb Q.out.2.2.2.2.2.2.1 n (by omega) (by omega) ?_
             intro A' c' w6 own6 b6
             have k6 := (b6.cell (p := ⟨w.heap.size, 0, none⟩) (show w.heap.size < _ by omega)).trans k5
             have l6 := (b6.cell (p := ⟨w.heap.size + 1, 0, none⟩) (show w.heap.size + 1 < _ by omega)).trans l5)
          | (go_at_call 10; (refine (hN2.out w7 (below_step hB5 b7) _ A2 c2 own7).mono ?_); rintro e w8 ⟨pz, ez, rfl, hb8, hZ⟩; have b78 := below_step b7 hb8; have k8 := (b78.cell (p := ⟨w.heap.size, 0, none⟩) (show w.heap.size < _ by omega)).trans k5; have l8 := (b78.cell (p := ⟨w.heap.size + 1, 0, none⟩) (show w.heap.size + 1 < _ by omega)).trans l5))
      have B8 := below_step hB5 b78
      have lt8 : w.heap.size + 1 < w8.heap.size := by have := b78.size; omega
      clear own6 own7 b6 b7 hb8 k6 l6 k7 l7 hN hN1 hN2 hF hF1 hcs hcs1 hcb hcb1 hvv k1 k2 k3 k4 l1 l2 l3 l4 hB1 hB2 hB3 hB4 hb1 hb2 hb3 hb4 c00 c10 hA
      have S5 := hb5.size
      clear s1 s2 s3 s4 s5 hBa lS
      rcases hX.out with ⟨_, rfl, rfl⟩ | ⟨ok0, ax, rfl, rfl, hTx⟩
      · clear hX hY hZ Q
        go_wp2
        go_ret
        exact ⟨rfl, B8⟩
      have HTx := Lib.hid (hTx.keep (below_step hb5 b78))
      clear hX hTx
      rcases hY.out with ⟨_, rfl, rfl⟩ | ⟨ok1, ay, rfl, rfl, hTy⟩
      · clear hY hZ Q
        go_wp2
        go_ret
        exact ⟨rfl, B8⟩
      have HTy := Lib.hid (hTy.keep b78)
      clear hY hTy hb5 b78 hB5 k5 l5 S5
      have hboth := cluOk_both ok0 ok1
      rw [Q.out.1, Q.out.2.1, hL] at hboth
      by_cases hle : L ≤ 16
      · rw [decide_eq_true hle] at hboth
        rcases hZ.out with ⟨e, _, _⟩ | ⟨_, az, rfl, rfl, hTz⟩
        · rw [hboth] at e; cases e
        have HTz := Lib.hid hTz
        clear hZ hTz
        obtain ⟨p, hp⟩ : ∃ p, (frees n0).length = p := ⟨_, rfl⟩
        obtain ⟨q, hq⟩ : ∃ q, (frees n1).length = q := ⟨_, rfl⟩
        obtain ⟨r, hr⟩ : ∃ r, (frees (n0 ++ n1)).length = r := ⟨_, rfl⟩
        have hpq : r = p + q := by rw [← hp, ← hq, ← hr, frees_append, List.length_append, List.length_map]
        have lp := frees_len ok0
        have lq := frees_len ok1
        rw [hp] at lp
        rw [hq] at lq
        have hAx := Lib.hid (fun W h => all_law ax n n0 ok0 W h)
        have hAy := Lib.hid (fun W h => all_law ay m n1 ok1 W h)
        have hAz := Lib.hid (fun W h => all_law az L (n0 ++ n1) hboth W h)
        rw [hp] at hAx
        rw [hq] at hAy
        rw [hr] at hAz
        have HFM : Hid (∀ (j : Nat) (f : Fr), (frees n1)[j]? = some f → f.n < 64) := Lib.hid (fun j f hx => by
          have h1 := frees_mem (List.mem_of_getElem? hx)
          have h2 := cluOk_len ok1
          omega)
        have XX := Lib.hid (And.intro hp (And.intro hq (And.intro hr Q.out.1)))
        clear hp hq hr ok0 ok1 hboth Q
        have tL : decide ((16 : Int) < (n : Int) + (m : Int)) = false := by simp; omega
        have tN : ((L : Int) != (n : Int) + (m : Int)) = false := by simp; omega
        have tR : ((r : Int) != (p : Int) + (q : Int)) = false := by simp; omega
        have lr : r ≤ 128 := by omega
        have HPQ := Lib.hid hpq
        clear hpq
        go_wp2_with (first
          | (go_at_call 16; (first | (with_reducible refine (nodes_any az L _ _ HTz.out).mono ?_) | (with_reducible refine (nodes_any ax n _ _ HTx.out).mono ?_) | (with_reducible refine (nodes_any ay m _ _ HTy.out).mono ?_)); rintro e w' ⟨rfl, rfl⟩)
          | (go_at_call 15; (with_reducible refine (hAx.out _ HTx.out).mono ?_); rintro e w9 ⟨gx, rfl, hgx, hX9, hb9⟩; have HX9 := Lib.hid hX9; clear hX9; have k9 := (hb9.cell (p := ⟨w.heap.size, 0, none⟩) (show w.heap.size < _ by omega)).trans k8; have l9 := (hb9.cell (p := ⟨w.heap.size + 1, 0, none⟩) (show w.heap.size + 1 < _ by omega)).trans l8; have s9 := hb9.size)
          | (go_at_call 15; (with_reducible refine (hAy.out _ (HTy.out.keep hb9)).mono ?_); rintro e w10 ⟨gy, rfl, hgy, hY10, hb10⟩; have HY10 := Lib.hid hY10; clear hY10; have b810 := below_step hb9 hb10; have s10 := hb10.size)
          | (go_at_call 15; (with_reducible refine (hAz.out _ (HTz.out.keep b810)).mono ?_); rintro e w11 ⟨gz, rfl, hgz, hZ11, hb11⟩; have HZ11 := Lib.hid hZ11; clear hZ11; have s11 := hb11.size))
        have b811 := below_step b810 hb11
        have B11 := below_step B8 b811
        have k11 := (b811.cell (p := ⟨w.heap.size, 0, none⟩) (show w.heap.size < _ by omega)).trans k8
        have RX := Lib.hid (((below_step hb10 hb11).block gx (blk_lt HX9.out)).trans HX9.out)
        have RY := Lib.hid ((hb11.block gy (blk_lt HY10.out)).trans HY10.out)
        have hgzlt := blk_lt HZ11.out
        have hgx' : gx < w11.heap.size := blk_lt RX.out
        have hgy' : gy < w11.heap.size := blk_lt RY.out
        have lw : w.heap.size < w11.heap.size := by omega
        clear k9 l9 k8 l8 hb9 hb10 hb11 b810 b811 HX9 HY10 hgx hgy hgz s9 s10 s11 hAx hAy hAz HTx HTy HTz tL tN tR lt8 B8
        go_loopw [14] (fun i wr => ∃ k : Nat, i = .int .i64 k ∧ k ≤ r ∧ Below w11.heap.size w11 wr) (fun i _ => r - (intOf i).toNat)
        case atStart => exact ⟨0, rfl, by omega, Below.refl _ _⟩
        case round =>
          obtain ⟨k, rfl, hk, hBr⟩ := hrel
          have hsr := hBr.size
          by_cases hlt : k < r
          · have j0 : (0 : Int) ≤ (k : Int) := by omega
            have j1 : (k : Int) < (r : Int) := by omega
            have t0 : decide (k < r) = true := by simpa using hlt
            have hzc := blk_at ((hBr.block gz hgzlt).trans HZ11.out)
            by_cases hkp : k < p
            · obtain ⟨f, hx⟩ := get_lt (l := frees n0) (k := k) (by rw [XX.out.1]; exact hkp)
              obtain ⟨f0, f1, f2, f3⟩ := blk_at ((hBr.block gx hgx').trans RX.out) k f hx
              obtain ⟨g0, g1, g2, g3⟩ := hzc k f (by rw [frees_append, List.getElem?_append_left (by rw [XX.out.1]; exact hkp)]; exact hx)
              simp only [Nat.zero_add] at f0 f1 f2 f3 g0 g1 g2 g3
              have j2 : (k : Int) < (p : Int) := by omega
              have t1 : decide (k < p) = true := by simpa using hkp
              clear hx hzc
              go_wp2_with fail
              go_quiet (fail)
              go_wp2
              go_roundw
              case rel => exact ⟨k + 1, by go_num, by omega, below_drewN hBr _⟩
              case measure => simp [intOf]; omega
            · obtain ⟨j, hj⟩ : ∃ j, k = p + j := ⟨k - p, by omega⟩
              have hpq := HPQ.out
              have hjq : j < q := by omega
              clear hpq
              obtain ⟨f, hx⟩ := get_lt (l := frees n1) (k := j) (by rw [XX.out.2.1]; exact hjq)
              obtain ⟨f0, f1, f2, f3⟩ := blk_at ((hBr.block gy hgy').trans RY.out) j f hx
              obtain ⟨g0, g1, g2, g3⟩ := hzc k (shift n f) (by rw [frees_append, List.getElem?_append_right (by rw [XX.out.1]; omega), XX.out.1, XX.out.2.2.2, List.getElem?_map, show k - p = j by omega, hx]; rfl)
              simp only [Nat.zero_add, shift] at f0 f1 f2 f3 g0 g1 g2 g3
              have hkx := (((Below.refl wr.heap.size wr).alloc (Nat.le_refl _) (.cells #[.int .i64 (f.n : Nat), .int .i64 (f.d : Nat), .int .u64 (f.m : Nat), .int .i64 (f.c : Nat)] 46)).cell (p := ⟨w.heap.size, 0, none⟩) (show w.heap.size < wr.heap.size by omega)).trans ((hBr.cell (p := ⟨w.heap.size, 0, none⟩) lw).trans k11)
              have hst := (Below.refl wr.heap.size wr).alloc (Nat.le_refl _) (.cells #[.int .i64 ((f.n : Int) + (n : Int)), .int .i64 (f.d : Nat), .int .u64 (f.m : Nat), .int .i64 (f.c : Nat)] 46)
              have bF := heap_alloc_new wr (.cells #[.int .i64 ((f.n : Int) + (n : Int)), .int .i64 (f.d : Nat), .int .u64 (f.m : Nat), .int .i64 (f.c : Nat)] 46)
              have hfn : f.n < 64 := HFM.out j f hx
              have t1 : decide (k < p) = false := by simpa using hkp
              have j2 : (k : Int) - (p : Int) = (j : Int) := by omega
              have j3 : (0 : Int) ≤ (j : Int) := by omega
              have j4 : (j : Int) < (q : Int) := by omega
              clear hx hzc hj
              go_wp2_with fail
              generalize wr.alloc (.cells #[.int .i64 ((f.n : Int) + (n : Int)), .int .i64 (f.d : Nat), .int .u64 (f.m : Nat), .int .i64 (f.c : Nat)] 46) = W at hst bF ⊢
              have b0 : W.cell? ⟨wr.heap.size, 0, none⟩ = some (.int .i64 ((f.n : Int) + (n : Int))) := cell_blk (i := 0) bF rfl
              have b1 : W.cell? ⟨wr.heap.size, 1, none⟩ = some (.int .i64 (f.d : Nat)) := cell_blk (i := 1) bF rfl
              have b2 : W.cell? ⟨wr.heap.size, 2, none⟩ = some (.int .u64 (f.m : Nat)) := cell_blk (i := 2) bF rfl
              have b3 : W.cell? ⟨wr.heap.size, 3, none⟩ = some (.int .i64 (f.c : Nat)) := cell_blk (i := 3) bF rfl
              have m0 := (hst.cell (p := ⟨gz, k * 4, none⟩) (by show gz < _; omega)).trans g0
              have m1 := (hst.cell (p := ⟨gz, k * 4 + 1, none⟩) (by show gz < _; omega)).trans g1
              have m2 := (hst.cell (p := ⟨gz, k * 4 + 2, none⟩) (by show gz < _; omega)).trans g2
              have m3 := (hst.cell (p := ⟨gz, k * 4 + 3, none⟩) (by show gz < _; omega)).trans g3
              have hBW := hBr.trans (hst.mono hsr)
              have q0 : (((f.n : Int) + (n : Int)) != (f.n : Int) + (n : Int)) = false := by simp
              clear f0 f1 f2 f3 g0 g1 g2 g3 bF hst hkx
              go_quiet (fail)
              go_wp2
              go_roundw
              case rel => exact ⟨k + 1, by go_num, by omega, below_drewN hBW _⟩
              case measure => simp [intOf]; omega
          · obtain rfl : k = r := by omega
            have t0 : decide (k < k) = false := by simp
            clear hlt
            go_wp2
            go_ret
            exact ⟨rfl, below_step B11 hBr⟩
      · rw [decide_eq_false hle] at hboth
        rcases hZ.out with ⟨_, rfl, rfl⟩ | ⟨e, _⟩
        · clear hZ Q HTx HTy ok0 ok1 hboth
          have tL : decide ((16 : Int) < (n : Int) + (m : Int)) = true := by simp; omega
          go_wp2
          go_ret
          exact ⟨rfl, B8⟩
        · rw [hboth] at e; cases e

set_option maxRecDepth 100000 in
theorem lifted (os : Os) (started : os.Started) (H : Type) (enc : TypeId × Value → H) :
    ReturnsInHanded {} Try.checked os 6 .any (Rows.topoJoinsSpec.pre6 enc Try.prog Try.f6 Rows.topoJoinsRow.domain false) (Rows.topoJoinsSpec.post enc Try.prog Try.f6 false true false false) := by
  refine returnsInHanded_of_change (C := Try.checked) own started (by kernel_rfl) Try.func6
    (ChangeSpec.witness6 (enc := enc) (C := Try.checked) false ⟨#[], #[.agg #[.slice none 0 0], .agg #[.slice none 0 0]], []⟩ 8 (by kernel_rfl) (by kernel_rfl) (by kernel_rfl) (by kernel_rfl)) ?_
  intro W base args ds gs before hval0 hW _ _
  have hval : ∀ (j : Nat) t v, Try.f6.params[j]? = some t → args[j]? = some v → Value.okWide Try.prog W .any base t v := hval0
  have hW' := hW
  obtain ⟨p, q, hA0, hV, rfl, hfz, hnd⟩ := hW
  have hA : DataW.TrodAll enc Try.prog W 0 (fun _ => true) true Try.f6.params.toList args.toList ds p := hA0
  rw [Try.params6] at hA hval
  obtain ⟨v0, vs0, d0, ds0, p0, q0, hargs, rfl, rfl, h0, r0⟩ := trodAll_cons hA
  obtain ⟨v1, vs1, d1, ds1, p1, q1, rfl, rfl, rfl, h1, r1⟩ := trodAll_cons r0
  obtain ⟨rfl, rfl, rfl⟩ := trodAll_nil r1
  obtain rfl : args = #[v0, v1] := by cases args; simp_all
  obtain ⟨rfl, rfl⟩ := trodVars_none hV
  have k0 := h0
  have lt0 : ∀ x ∈ p0, x.block < W.heap.size := by obtain ⟨m, hm⟩ := k0; exact DataW.trod_lt m _ _ _ hm
  obtain ⟨a0, c0, n0, rfl, lc0, mc0, w0⟩ := clu_of (hval 0 24 v0 rfl rfl) h0
  have k1 := h1
  have lt1 : ∀ x ∈ p1, x.block < W.heap.size := by obtain ⟨m, hm⟩ := k1; exact DataW.trod_lt m _ _ _ hm
  obtain ⟨a1, c1, n1, rfl, lc1, mc1, w1⟩ := clu_of (hval 1 24 v1 rfl rfl) h1
  clear hA0 hval0
  refine (walk a0 c0 n0 a1 c1 n1 W w0 lc0 mc0 w1 lc1 mc1).mono fun e W' ⟨he, bel⟩ => ?_
  subst he
  exact ⟨_, rfl, _, _, _, [], _, [], hW', trodAll_mk1 (shut_bool Try.underlying4 _), (trodAll_cons_mk (Below.trod laidOut (by kernel_rfl) (of_decide_eq_true (by kernel_rfl)) k0 bel lt0) (trodAll_cons_mk (Below.trod laidOut (by kernel_rfl) (of_decide_eq_true (by kernel_rfl)) k1 bel lt1) trodAll_mk0)), rfl, bel.frame _, fun h => by cases h⟩

/-- THE STATEMENT. -/
theorem holds : Rows.TopoJoinsSaid :=
  OpenClaim.holds_of_wide 6 Try.f6 rfl rfl rfl rfl rfl rfl rfl ⟨rfl, rfl, rfl, rfl, rfl⟩ rfl rfl rfl rfl rfl (by kernel_rfl) Try.func6 (by kernel_rfl)
    (of_decide_eq_true (by kernel_rfl)) (by unfold Func.isWrapper; first | (rw [if_pos (by decide +kernel)]; kernel_rfl) | (rw [if_neg (by decide +kernel)]; exact ⟨rfl, rfl⟩))
    (fun os started H enc _ => lifted os started H enc)
end Go.Proofs.Ytbabnhicdobmdaa.topoJoins
