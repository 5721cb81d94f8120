/- How a topology is made: New goes through a cluster's domains, or refuses it. -/
import Derived.Carry
import Derived.Test.YtkhbbfpajiimaaaGreatTopoAdd
namespace Go.Proofs.YtkhbbfpajiimaaaGreat
open Go.RowKit

theorem new_no (A : Option Addr) (c B : Nat) (ns : List (List (Int × Int))) (w : World) (h : Nodes w B A ns) (hB : B ≤ w.heap.size) (hr : cluOk ns = false) :
    Calls Tryz.prog 75 #[.agg #[.slice A ns.length c]] w fun e w' => e = .returned (.tuple #[.pointer none, .int .i64 1]) ∧ Below w.heap.size w w' := by
  have hc := Lib.hid (fun W (hW : Below w.heap.size w W) => clu_any A c B ns W (Nodes.keep h (hW.mono hB) (Nat.le_refl _)) (by have := hW.size; omega) false hr)
  clear h hr
  go_enter Tryz.func75, Tryz.ntmps75
  go_wp2_with (go_at_call 112; refine (hc.out _ ((Below.refl _ _).alloc (Nat.le_refl _) _)).mono ?_; rintro e w1 ⟨rfl, hb1⟩)
  go_ret2
  exact ⟨rfl, below_step ((Below.refl _ _).alloc (Nat.le_refl _) _) hb1⟩
theorem Half.alloc {w : World} {B a m k : Nat} {v : Value} {l : List Fr} (h : Half w B a m k v l) (o : Obj) : Half (w.alloc o) B a m k v l :=
  ⟨h.ha, h.hm, (Below.heap_alloc w o a (blk_lt h.blk)).trans h.blk, h.own.alloc o, h.map.of_block (Below.heap_alloc w o m h.map.lt)⟩
theorem add_at (B a m n : Nat) (v : Value) (i j G P : Nat) (ns : List (List (Int × Int))) (ds : List (Int × Int)) (hl : (frees (ns.take i) ++ frNode i (ds.take j)).length ≤ 1000) (hi : i ≤ 1000) (hj : j ≤ 1000) (hG : G ≤ 16) (hP : P ≤ 1024) (W : World) (h : Half W B a m n v (frees (ns.take i) ++ frNode i (ds.take j))) (hB : B ≤ W.heap.size) :
    Calls Tryz.prog 113 #[.pointer (some ⟨a, 0, none⟩), .agg #[.int .i64 (i : Nat), .int .i64 (j : Nat)], .agg #[.int .i64 (G : Nat), .int .i64 (P : Nat)]] W fun e w' =>
      e = .returned (.tuple #[]) ∧ ∃ v', Half w' B a m n v' (frees (ns.take i) ++ frNode i (ds.take j) ++ [frAt i j (G, P)]) ∧ Below B W w' :=
  add_any B a m n v _ (frAt i j (G, P)) G W h hB hl hG rfl hi hj hP spot_new
set_option maxRecDepth 100000 in
set_option maxHeartbeats 4000000 in
theorem new_loop (b off c B n : Nat) (ns : List (List (Int × Int))) (hn : ns.length = n) (w : World) (hb : b < B) (hc : ∀ i x, ns[i]? = some x → NodeAt w B b (off + i * 1) x) (hB : B ≤ w.heap.size) (hok : cluOk ns = true) :
    Calls Tryz.prog 75 #[.agg #[.slice (some ⟨b, off, none⟩) n c]] w fun e w' => ∃ a m v, e = .returned (.tuple #[.pointer (some ⟨a, 0, none⟩), .int .i64 0]) ∧ Half w' w.heap.size a m n v (frees ns) ∧ Below w.heap.size w w' := by
  have hcl := Lib.hid (fun W (hW : Below w.heap.size w W) => clu_any (some ⟨b, off, none⟩) c B ns W (.inr ⟨b, off, rfl, hb, fun i x hx => (hc i x hx).keep hb (hW.mono hB) (Nat.le_refl _)⟩) (by have := hW.size; omega) true hok)
  rw [hn] at hcl
  obtain ⟨hn1, hn2⟩ := cluOk_len hok
  rw [hn] at hn1 hn2
  have Q := Lib.hid (And.intro hn (And.intro hc hok))
  clear hn hc hok
  have hmm := @run_makeMap Tryz.prog
  have hb0 : b < w.heap.size := by omega
  go_enter Tryz.func75, Tryz.ntmps75
  have c0 : (w.alloc (.cells #[.slice (some ⟨b, off, none⟩) n c] 24)).cell? ⟨w.heap.size, 0, none⟩ = some (.slice (some ⟨b, off, none⟩) n c) := by go_simp
  go_wp2_with (go_at_call 112; refine (hcl.out _ ((Below.refl _ _).alloc (Nat.le_refl _) _)).mono ?_; rintro e w1 ⟨rfl, hb1⟩; have c1 := (hb1.cell (p := ⟨w.heap.size, 0, none⟩) (by simp)).trans c0; have hBw := below_step ((Below.refl _ _).alloc (Nat.le_refl _) _) hb1; have hsz := hb1.size; simp at hsz; have hb3 : Below w1.heap.size w1 ((w1.alloc (.map #[] 0)).alloc (.cells #[.int .i64 (n : Nat), .slice none 0 0, .map (some w1.heap.size)] 181)) := ((Below.refl _ _).alloc (Nat.le_refl _) _).alloc (by simp) _; have c2 := (hb3.cell (p := ⟨w.heap.size, 0, none⟩) (show w.heap.size < _ by omega)).trans c1)
  have hH : Half ((w1.alloc (.map #[] 0)).alloc (.cells #[.int .i64 (n : Nat), .slice none 0 0, .map (some w1.heap.size)] 181)) w.heap.size (w1.heap.size + 1) w1.heap.size n (.slice none 0 0) (frees (ns.take 0)) := by
    refine ⟨by omega, by omega, ?_, World.ownsRow_nil _ _ _ _, ?_⟩
    · have := heap_alloc_new (w1.alloc (.map #[] 0)) (.cells #[.int .i64 (n : Nat), .slice none 0 0, .map (some w1.heap.size)] 181)
      simpa using this
    · exact (MapAt.new w1).of_block (Below.heap_alloc _ _ _ (by simp))
  obtain ⟨a, ha⟩ : ∃ a, a = w1.heap.size + 1 := ⟨_, rfl⟩
  obtain ⟨m, hm⟩ : ∃ m, m = w1.heap.size := ⟨_, rfl⟩
  obtain ⟨w2, hw2⟩ : ∃ w2, w2 = (w1.alloc (.map #[] 0)).alloc (.cells #[.int .i64 (n : Nat), .slice none 0 0, .map (some w1.heap.size)] 181) := ⟨_, rfl⟩
  have hB2 := below_step hBw hb3
  rw [← hw2] at hH hB2 ⊢
  rw [← ha, ← hm] at hH ⊢
  clear hb3 c2 c1 hmm hb1 hw2 ha hm hBw hsz c0 hcl
  go_loopw [21] (fun i wr => ∃ (k : Nat) (v : Value), i = .int .i64 k ∧ k ≤ n ∧ Below w.heap.size w wr ∧ Half wr w.heap.size a m n v (frees (ns.take k))) (fun i _ => n - (intOf i).toNat)
  case atStart => exact ⟨0, _, rfl, by omega, hB2, hH⟩
  case round =>
    obtain ⟨i, v, rfl, hin, hBl, hHf⟩ := hrel
    have hBs := hBl.size
    by_cases hlt : i < n
    · obtain ⟨ds, hx⟩ := get_lt (l := ns) (by rw [Q.out.1]; exact hlt)
      obtain ⟨A', c', c0, hl1, hl2, hds⟩ := Q.out.2.1 i _ hx
      have c0 := (hBl.cell (p := ⟨b, off + i * 1, none⟩) hb0).trans c0
      rw [Nat.mul_one] at c0
      have hok := cluOk_node Q.out.2.2 hx
      have hdl := nodeOk_len hok
      obtain ⟨y, hy⟩ := get_lt (l := ds) (k := 0) (by omega)
      obtain ⟨b', off', rfl, hb', hc'⟩ := hds.at_ hy
      obtain ⟨q, hq⟩ : ∃ q, ds.length = q := ⟨_, rfl⟩
      rw [hq] at c0 hdl
      have t0 : decide (i < n) = true := by simpa using hlt
      have hfl := frees_take_len Q.out.2.2 i (by rw [Q.out.1]; exact hin)
      have X := Lib.hid (And.intro hx (And.intro hok (And.intro hq hc')))
      have HF := Lib.hid hHf
      clear hx hl1 hl2 hds hy hq hok hc' hHf
      go_wp2
      go_loopw [29] (fun j wr' => ∃ (k : Nat) (v : Value), j = .int .i64 k ∧ k ≤ q ∧ Below w.heap.size w wr' ∧ Half wr' w.heap.size a m n v (frees (ns.take i) ++ frNode i (ds.take k))) (fun j _ => q - (intOf j).toNat)
      case atStart => exact ⟨0, v, rfl, by omega, hBl.alloc hBs _, by simpa [frNode] using HF.out.alloc _⟩
      case round =>
        obtain ⟨j, v, rfl, hj, hBl', hHf⟩ := hrel
        have hBs' := hBl'.size
        by_cases hjl : j < q
        · obtain ⟨hx, hok, hq, hc'⟩ := X.out
          obtain ⟨⟨g, p⟩, hy⟩ := get_lt (l := ds) (k := j) (by omega)
          have hd := (hc' j _ hy).keep (B := B) hb' (hBl'.mono hB)
          obtain ⟨g1, g2, p1, p2⟩ := nodeOk_dom hok hy
          obtain ⟨G, rfl⟩ : ∃ G : Nat, g = G := ⟨g.toNat, by omega⟩
          obtain ⟨P, rfl⟩ : ∃ P : Nat, p = P := ⟨p.toNat, by omega⟩
          obtain ⟨d0, d1⟩ := hd
          have hll : (frees (ns.take i) ++ frNode i (ds.take j)).length ≤ 1000 := by
            rw [List.length_append, frNode_len, List.length_take]; omega
          have NA := Lib.hid (add_at w.heap.size a m n v i j G P ns ds hll (by omega) (by omega) (by omega) (by omega) _ (hHf.alloc (.cells #[.int .i64 (G : Nat), .int .i64 (P : Nat)] 73)) (by simp; omega))
          have N := Lib.hid (frNode_next (i := i) hy)
          have t1 : decide (j < q) = true := by simpa using hjl
          clear hx hok hq hc' hy g1 g2 p1 p2 hll hHf
          go_wp2_with (go_at_call 113; refine NA.out.mono ?_; rintro e w3 ⟨rfl, v', hHf', hB3⟩)
          go_roundw
          case rel => exact ⟨j + 1, v', by go_num, by omega, (hBl'.alloc hBs' _).trans hB3, by rw [N.out, ← List.append_assoc]; exact hHf'⟩
          case measure => simp [intOf]; omega
        · obtain rfl : j = q := by omega
          obtain ⟨hx, hok, hq, hc'⟩ := X.out
          rw [← hq, List.take_length, ← frees_next hx] at hHf
          have HH := Lib.hid hHf
          clear hx hok hq hc' hjl hHf
          go_wp2
          go_roundw
          case rel => exact ⟨i + 1, v, by go_num, by omega, hBl', HH.out⟩
          case measure => simp [intOf]; omega
    · obtain rfl : i = n := by omega
      rw [show ns.take i = ns from by rw [← Q.out.1]; exact List.take_length] at hHf
      have HH := Lib.hid hHf
      clear hlt hHf
      go_wp2
      go_ret2
      exact ⟨a, m, v, rfl, HH.out, hBl⟩
end Go.Proofs.YtkhbbfpajiimaaaGreat
